import PyProof.Rows.All
import Wide.All
import OpenK.AllK
import Wide.FinOn
import Lean
import PyProof.EqAt
import PyProof.EqKinds
import PyProof.TupleCall
import KE.KDictSum
import PyProof.AttrMissHeap
import PyProof.WalksMore
import KE.LcSums
import PyProof.AutoListH
import PyProof.ListMulRoad
import KE.KSortTup
import PyProof.ZipIter
import PyProof.Draws
import PyProof.EnumFor
import PyProof.ReprRoads
import PyProof.ListRange
import PyProof.ListNew
import PyProof.StrCalls2
import PyProof.CallStr
import PyProof.Rows.SetFrom
import PyProof.SetRoads
import PyProof.MeetsStr2
import PySem.Challenge.RW_leastrecord_k03_programs_told
open Option renaming some->fv,none->SU,isSome_some->Uy,isSome_none->Vu,map_some->VU,isSome_iff_exists->We,isSome_map->Xr,getD_none->ZT
open PySem.W renaming Frag->SV,fnOf->UE,kia_one->UK,nsIn->UY,mg_of->UZ,emptyDict->U7,instObj->Vx,keepIn->VE,findIn->Wv,cellsFrom_some->Ww,OpenLaw->WN,kia_tup->W2,kitOne->Xa,kitx_list->Xx,kitx_dict->Xy,codeIn->Yb,lookIn->YD,kitAny->YQ,specialIn->Zy,plainGet->ZR,WalkO->aai,kitx_float->aaj,kitx_tuple->aak,isFn->aaw
open PySem renaming wpAny_bind->SW,Value->S5,sizeLine->Ta,Shared->Tc,wpAny_pure->To,Addr->Tp,compareOp->Tw,wpAny->TC,model->TM,mainGlobals->TX,starEach->Ue,Program->Ug,Expr->Uh,wpAny_mono->Ui,foldedSetIterable->Ul,wpAny_truthy_bool->Uo,behindInMarks->Ur,World->Uz,assignEach->UI,wpAny_ite_split->UL,bootBuiltins->UN,binaryOp->UP,call_meets->UQ,wpAny_field->UR,wpAny_newObj_type->US,Heap->UU,wpAny_callSpecial?_slot->U3,sysModules->U4,Around->U5,eval->Vl,compEnvC->Vm,wpAny_seqItems->Vs,wpAny_setField_rec->Vt,Paired->Vv,wpAny_holding->VA,mem_of_lookup->VD,wpAny_call_entry->VG,strValues->VH,tupleKind_room_in1->VL,cLine->VQ,bindArgs->VR,swapsWith->VY,cellsFrom->VZ,FuncData->Wd,attributeBase->Wg,wpAny_passesOwn->Wm,wpAny_load->Wn,typeIs_str->Wq,wpAny_pyIter_list->Wy,PyData->Wz,backTo->WC,Builtin->WI,wpAny_onRaise->WJ,NameKind->WM,wpAny_updateSeq_pair->WO,holding->WW,codeAny_mono->WX,getItem->WY,assign->W9,wpAny_Call_Name_kw->Xb,wpAny_pyIter_tuple->Xg,wpAny_binaryOp_repeat_ref->Xi,Scope->Xm,subscripted->Xp,sliceBounds->Xq,wpAny_comprehension_free->Xz,IsPair->XB,strKind->XC,tupleKind->XE,lastMarks->XF,noFill_tuple_add->XI,pushCells->XM,Stmt->XW,BindsTo->XX,codeAny->XY,IsPart->XZ,typeIs_int->X9,valueAt->Yc,wpAny_execs_nil->Yn,letOwnedTupleGo->Yo,pushCells_keeps->Yp,codeAny_builtin->Ys,wpAny_isTrue_Compare1->Yt,wpAny_letTemporaryGo->YH,newFunctionEnv->YI,field->YR,Keyword->YX,callerA->YY,wpAny_standAt->Za,swapsWithSole->Zb,swappedStores->Zc,seq_tuple_add->Zd,pyIter->Zl,wpAny_rule->Zr,wpAny_assign_Name->Zx,concat_meets->Zz,wpAny_sequenceKey->ZA,wpAny_typeOf->ZC,seqIndex_neg->ZE,slot_list_getitem->ZF,call_meetsIn->ZH,ZipApart->ZJ,isTrue->ZO,wpAny_execs_cons->ZP,pyNext->ZQ,DictEntry->ZU,wpAny_getItem_of->ZV,seqSlot_of->ZW,wpAny_pyIter_zip->ZY,scanBound->ZZ,seqIndex_of->Z2,keywordEach->Z3,atKey->Z4,wpAny_of_eq->Z6,wpAny_letGo->Z7,standAt->aag,unaryOp->aah,call->aan,Within->aau
open List renaming length_map->SX,append_assoc->SY,length_append->S1,length_cons->S2,replicate->S4,forall_mem_cons->S6,map_cons->S7,mem_cons_self->S8,mem_cons_of_mem->S9,getElem?_eq_some_iff->Tg,length_nil->Tj,mem_cons->Tq,mem_append->Tt,append_nil->Tv,nil_append->TB,mem_append_right->TH,filterMap_eq_map'->TJ,size_toArray->TK,length_take->TL,getElem?_eq_getElem->TN,mem_map->TR,getElem?_append_right->TU,getElem?_append_left->TV,mem_singleton->TY,getElem?_map->T7,mem_map_of_mem->T9,all_cons->Ub,length_drop->Uj,all_eq_true->Uk,map_map->Up,getElem?_cons_succ->Ut,isEmpty_cons->Uv,mem_of_getElem?->Uw,not_mem_nil->UD,getElem?_set_ne->UH,mem_of_mem_take->UJ,map_append->UM,getElem?_set_self->UO,length_singleton->UT,any_cons->UX,map_nil->U0,take_of_length_le->U8,cons_append->Va,set_cons_zero->Vb,set_cons_succ->Vc,nodup_append->Vf,getElem?_cons_zero->Vg,range->Vi,nodup_cons->Vj,all_append->Vk,lookup_cons->Vq,flatMap_cons->Vy,mem_of_mem_drop->Vz,getElem?_replicate->VF,getElem_mem->VI,length->VJ,drop_eq_nil_of_le->VN,all_map->VO,forIn_cons->VT,mem_append_left->V3,mem_of_find?_eq_some->V9,filterMap_cons->Wa,length_pos_iff->Wc,filterMap_cons_none->Wk,filterMap_cons_some->Wl,sum_cons->WL,eq_nil_of_length_eq_zero->WQ,of_mem_zip->WS,getElem?_eq_none_iff->Xk,drop_eq_getElem_cons->Xl,mem_flatMap->XS,idxOf->Yk,all_nil->Yl,mem_filter->Ym,find?_some->Yr,length_replicate->Yu,take_append_drop->YB,mem_range->YC,drop_zero->YL,nodup_nil->YT,replicate_succ->Y3,map_drop->Zg,map_take->Zh,mem_filterMap->Zm,getElem?_take->Zu,zip_cons_cons->Zw,length_range->ZM,zip_nil_left->ZN,take_length->ZX,filter_cons->Z0,length_set->aaa,find?_cons->aac,foldl->aam
open PySem.Heap renaming get?_push_of_some->S0,get?_push_size->Tr,lt_size->Tu,size_push->UA,push->Vd,SameBut->XU,get?_update_other->X8,get?_update_self->Yv
open PySem.Str renaming ofString->S3,ofString_eq_toList->Yi
open Bool renaming and_eq_true->Td,false_ne_true->Tn,false_and->Uc,true_and->Us,and_self->UC,false_eq_true->VM,not_false->V5,not_true->WK,eq_iff_iff->WR,or_eq_true->WT,and_false->YF,and_eq_true_iff->YJ,decide_or->YW,decide_eq_true->Y8,and_true->Ze,true_or->ZG,decide_and->aae,false_or->aas
open Nat renaming le_refl->Te,lt_of_lt_of_le->Tf,ne_of_lt->TQ,le_trans->Ua,lt_irrefl->Uq,zero_le->U2,ne_of_gt->V6,min_eq_right->WE,min_eq_left->WU,mul_comm->WZ,lt_succ_of_lt->Xs,le_succ_of_le->Xu,lt_succ_self->XG,add_sub_cancel_left->XQ,le_of_lt->XT,le_total->Ye,lt_of_succ_lt_succ->Yj,ble->Y0,sub_zero->ZI,lt_or_ge->ZK,min_le_right->ZS,le_succ->Z5
open Int renaming cast_ofNat_Int->Ti,natCast_add->TF,toNat_natCast->Uu,eq_ofNat_of_zero_le->Vh,emod_lt_of_pos->VP,emod_nonneg->VX,zero_add->W3,toNat->XR,reduceAdd->Zf,le_refl->Z9,ofNat->aat
open PySem.Value renaming ref->Tx,type->V2,none->WB,str->W4,bool->W7,int->XD,float->Z1,isStrOf->aaq
open PySem.PyData renaming strOk->TZ,keyHash->T6,str->WG,eqv->Xf,canLayAll0->Xv,depthAll->Yq,list->YV,canLay0->aap
open Option.some renaming inj->Ud,injEq->Xt
open PyProof.Rows renaming slot_tuple_getitem->Um,callWith_type1->Vo,callWith_builtin1->WD,envOfC->Xc,AllBare->Xn,subscriptTail_builtinR->X7,isStrOf->Y1,entry_tuple_getitem->Y2,Constant_none->Y9,args_tuple_getitem->Zo,IntsAre->ZD,SetOf_congr->Z8
open PySem.Builtin.SmallTypes renaming nextOf->Ux,ownedTupleIsFree->Wi,ownedTupleHandOut->Y5
open PySem.AutoSeq1 renaming wpAny_loadPart'->UB
open PySem.Builtin.Str renaming occurrences->UG,strKind->Y6
open PySem.Builtin.Tuple renaming tupleExact->UW,tupleItemsOf->Xd,tupleTooMany->Xh
open PySem.F renaming called_set->U1,slot_tuple_iterator_next->U9,slot_tuple_mul->Vp,slot_zip_next->V0,slot_dict_eq->V4,args_tuple_add_2->Wf,args_tuple_mul_2->Wj,args_tuple_iterator_next_1->Wr,entry_tuple_add->Ws,entry_tuple_mul->Wt,entry_tuple_iterator_next->Wu,slot_tuple_add->Wx,slot_dict_get->WA,slot_dict_getitem->Xj,slot_str_eq_refl->XA,args_dict_get_3->XJ,slot_tuple_rmul->XN,args_zip_next_1->XO,entry_dict_get->Yd,args_dict_eq_2->Yg,entry_zip_next->Yh,entry_dict_eq->Yx,args_str_eq_2->Yy,slot_int_rmul->Yz,sub_str_dict->YM,entry_str_eq->YO,slot_str_eq->Y7
open False renaming elim->U6
open PySem.Txt renaming split->Ve
open PyProof.Rows.F renaming plain_set_update_loop->Vn,entry_set_update_loop->Wb
open True renaming intro->Vr
open PySem.Builtin.Slice renaming slicePlaces->Vw,sliceAdjust->V7
open PySem.NameKind renaming free->VB,cell->VC
open ForInStep renaming yield->VS
open List.cons renaming injEq->VW,inj->aar
open Ne renaming symm->V1
open Array renaming getElem?_eq_getElem->V8,length_toList->WV,getD_eq_getD_getElem?->W0,append_assoc->Zk,toList->aav
open PySem.Builtin.List renaming listTooLong->Wh
open PySem.Calls renaming spliced_cons->Wo,Name_function_global->W8,spliced_nil->Xo,callWith_builtin->Ya,evalArgs_plain->YE
open Sum renaming inr->WH,inl->aaf
open Or renaming inr->Xe,inl->YG
open PySem.Paired renaming length->Xw,snoc->aax
open PySem.SeqAt renaming rc_eq_decline_or->Yf,in_listAt->aab,EqAt->aal
open Std.Legacy.Range renaming forIn_eq_forIn_range'->YS
open PySem.Around renaming under_plainId->YU
open And renaming intro->YZ
open PySem.Heap.SameBut renaming update->Y4
open PySem.SeqAt.EqAt renaming int_str->Zi,str_int->Zj
open PySem.Obj renaming mapSeq->Zp,data_mapFields->Zt
open Char renaming toNat->Zv
open Function renaming comp_def->ZL
open PySem.Builtin.Frozenset renaming updateFrom->aad
open PySem.Walks renaming list->aao
open PySem.Heap.IsSliceOf renaming new->aay
set_option genSizeOf false
set_option compiler.extract_closed false
set_option bootstrap.genMatcherCode false
namespace PySem.W.Fast
def tw2045729495742595326:=0
def tw384012711725469830:=0
def tw8473344818755161661:=0
def tw1104967172389448183:=0
def tw7447629972329928657:=0
def tw13956231273451313166:=0
def tw9423585798305902937:=0
def tw17608088951062971693:=0
def tw17555772973360663062:=0
def tw15942966804950720852:=0
def tw12290931425095822080:=0
def tw5180216690276393230:=0
def tw14090228151823882811:=0
def tw9373349156246876194:=0
def tw9991282727749446781:=0
def tw3119515820780980971:=0
def tw11889018852784055560:=0
def tw8132739916217210866:=0
def tw18225762733878644908:=0
def tw15516557350162083980:=0
def tw10166946385235448651:=0
def tw3380717622299632025:=0
def tw16701124672980484711:=0
def tw6794441715313035366:=0
def tw10694821365252189035:=0
def tw12445859072985470625:=0
def tw17086211593899977309:=0
def tw16658348598932247462:=0
def tw16317941183836478649:=0
def tw5577916394892692032:=0
def tw887291907247183866:=0
def tw5979183351628117720:=0
def tw5772196321203864822:=0
def tw12765815459271103983:=0
def tw9009356568072792163:=0
def tw13249487200683961340:=0
def tw14474531947620423856:=0
def tw8399663622462662723:=0
def tw10890716998186066554:=0
def tw3103933481238653234:=0
def tw14751147881549526776:=0
def tw10035834551916856925:=0
def tw16105430571301058742:=0
def tw9658394809942503920:=0
def tw203196297042677803:=0
def tw12087255065347212811:=0
def tw15236073120767189855:=0
def tw18193601673143738399:=0
def tw10972679591389446564:=0
def tw15826052522193429500:=0
def tw17445659664195870861:=0
def tw12868092200193276843:=0
def tw9034629757201219619:=0
def tw1793685087654621663:=0
def tw8079218175815684043:=0
def tw12781905233846604353:=0
def tw2773819609641039896:=0
def tw14914257247459549881:=0
def tw15151311762833492525:=0
def tw5145016497548226900:=0
def tw9137841486395786909:=0
def tw2782543104407509129:=0
def tw8401525805677164793:=0
def tw222490152062566357:=0
def tw17496283327566836745:=0
def tw16237953773372313407:=0
def tw16265258221391477879:=0
def tw10771821287854083311:=0
def tw13004242306367712249:=0
def tw11936070220115919864:=0
def tw16575512055204423703:=0
def tw17207049777779149225:=0
def tw12447424460661840583:=0
def tw3758324645040169118:=0
def tw6137764214321501000:=0
def tw9284633491506467773:=0
def tw9469933332729256212:=0
def tw16300745797864674577:=0
def tw15335298038171358510:=0
def tw4087641469297046194:=0
def tw1691321609273271816:=0
def tw1117745537131531179:=0
def tw13362123942963035897:=0
def tw17730244042521721291:=0
def tw15939450825688082954:=0
def tw898890071848822515:=0
def tw10132972969073763750:=0
def tw4586482319481035142:=0
def tw14668757767915661792:=0
def tw8218612101922861237:=0
def tw15716965507587894164:=0
def tw11577271813931646590:=0
def tw5963758181395533548:=0
def tw4152928030924200952:=0
def tw4660256592670766587:=0
def tw10924322058154534835:=0
def tw11715626840423485961:=0
def tw1868582085540336167:=0
def tw920515797720732119:=0
def tw6048800515108509467:=0
def tw16151605237095511696:=0
def tw16202829573091756826:=0
def tw10919432279083437295:=0
def tw5350784432290976510:=0
def tw10382110915323214393:=0
def tw10787023587884355633:=0
def tw14599215748856530624:=0
def tw11314605619483225621:=0
def tw5029456128124356498:=0
def tw175447958340144536:=0
def tw4455664054063062253:=0
def tw11820724098316301548:=0
def tw1831844017583966110:=0
def tw17916334724191628822:=0
def tw755014202322946997:=0
def tw15445815678969977336:=0
def tw13199488571373285835:=0
def tw7580418804016760153:=0
def tw1623733179723753719:=0
def tw9626754088906575958:=0
def tw13853698769738424472:=0
def tw16196539640711482009:=0
def tw14934609355891767270:=0
def tw2882580877902567335:=0
def tw408048746716029735:=0
def tw7300975421429370696:=0
def tw8844793882817672486:=0
def tw14530795698987088760:=0
def tw4322398763551516458:=0
def tw17781649592618456678:=0
def tw1225809984188208746:=0
def tw7017296345406075733:=0
def tw13236513027496483871:=0
def tw13129675908898939654:=0
def tw6990815070075422186:=0
def tw18055109016883657100:=0
def tw7558023382761667384:=0
def tw2795073856120843082:=0
def tw18271750556909065925:=0
def tw9088318278363715155:=0
def tw1564433675777741388:=0
def tw9859351770495953073:=0
def tw16720169174686596186:=0
def tw1738950868928124030:=0
def tw7295170258424272344:=0
def tw2345390107316034480:=0
def tw14279876207568764809:=0
def tw12610711325194110117:=0
def tw10433014136572529761:=0
def tw11694182347257735097:=0
def tw13649921903301716992:=0
def tw6172057128136292901:=0
def tw4337143905400275483:=0
def tw13546745170709230146:=0
def tw15724755736247359904:=0
def tw10820549610418476434:=0
def tw17491353612430348010:=0
def tw3915080814247704220:=0
def tw3346192853080175747:=0
def tw10744382957757122305:=0
def tw15071091990008945368:=0
def tw12855060896432710522:=0
def tw3942231075706801389:=0
def tw4017795295016202986:=0
def tw17401871171836155644:=0
def tw17163428432710240487:=0
def tw17197598344075255631:=0
def tw4747977389343518104:=0
def tw13697507492645316475:=0
def tw10715886581255432846:=0
def tw13501514117952692474:=0
def tw11348635533190141073:=0
def tw7956549578786206380:=0
def tw7448341943030247242:=0
def tw3259695591590099591:=0
def tw4521580123887347317:=0
def tw3057286340064354061:=0
def tw14101747057805177226:=0
def tw17980930660413845133:=0
def tw2288547108301994502:=0
def tw7939062680701711865:=0
def tw8715168178566784288:=0
def tw10380482914085258345:=0
end PySem.W.Fast
noncomputable section
set_option Elab.async false
set_option linter.all false
set_option maxRecDepth 100000
section
namespace L2
open PySem PySem.Spec PyProof.Rows
abbrev Key:=Sum Int Str
noncomputable def pj:Key->S5->Bool
 | .inl k,v=>Value.isInt k v
 | .inr x,v=>aaq x v
noncomputable def Qc(w:Uz):Key->Int
 | .inl k=>hashInt k
 | .inr x=>hashStr w x
theorem bY: ∀{k v},pj k v=true->(∃ i t,k=aaf i/\v=XD i t)\/(∃ x t,k=WH x/\v=W4 x t)
 | .inl i,v,h=>by
  obtain⟨t,e⟩:=Value.isInt_shape (k:=i) (v:=v) h;exact .inl ⟨i,t,rfl,e⟩
 | .inr x,v,h=>by
  obtain⟨t,e⟩:=Value.isStrOf_shape (x:=x) (v:=v) h;exact .inr ⟨x,t,rfl,e⟩
theorem w9 i t:pj (.inl i) (.int i t)=true:=by simp[pj,Value.isInt]
theorem kL x t:pj (.inr x) (.str x t)=true:=by simp[pj,aaq]
theorem KH a b:decide ((aaf a:Key)=aaf b)=(a == b):=by
 by_cases e:a=b
 . subst e;simp
 . simp_all
theorem IZ a b:decide ((WH a:Key)=WH b)=decide (a=b):=by
 simp_all
theorem La(a:Int)(b:Str):decide ((aaf a)=WH b)=false:=decide_eq_false (λq=>by cases q)
theorem GB(a:Str)(b:Int):decide ((WH a)=aaf b)=false:=decide_eq_false (λq=>by cases q)
def bE prog w:PySem.KeyKind prog w Key where
 is:=pj
 hash:=Qc w
 inj:=λv a b ha hb=>by
  rcases bY ha with⟨i,t,rfl,rfl⟩ | ⟨x,t,rfl,rfl⟩
  . rcases bY hb with⟨j,u,rfl,e⟩ | ⟨y,u,rfl,e⟩
    . injection e with e1 _;rw[e1]
    . nomatch e
  . rcases bY hb with⟨j,u,rfl,e⟩ | ⟨y,u,rfl,e⟩
    . nomatch e
    . injection e with e1 _;rw[e1]
 byValue:=λk v h=>by
  rcases bY h with⟨i,t,rfl,rfl⟩ | ⟨x,t,rfl,rfl⟩<;>rfl
 pyHash:=λhv h=>by
  rcases bY hv with⟨i,t,rfl,rfl⟩ | ⟨x,t,rfl,rfl⟩
  . exact wpAny_pyHash_int h
  . exact wpAny_pyHash_str h
 eqBool:=λhu hv h=>by
  rcases bY hu with⟨i,t,rfl,rfl⟩ | ⟨x,t,rfl,rfl⟩
  . rcases bY hv with⟨j,u,rfl,rfl⟩ | ⟨y,u,rfl,rfl⟩
    . rw[KH] at h;exact wpAny_eqBool_int h
    . rw[La] at h;exact Zi i t y u _ _ _ _ h
  . rcases bY hv with⟨j,u,rfl,rfl⟩ | ⟨y,u,rfl,rfl⟩
    . rw[GB] at h;exact Zj x t j u _ _ _ _ h
    . rw[IZ] at h;exact wpAny_eqBool_str h
 «strs» :=λk x t v h=>by
  rcases bY h with⟨i,u,rfl,e⟩ | ⟨y,u,rfl,e⟩
  . nomatch e
  . injection e with e1 _;subst e1;cases v<;>rfl
theorem tS prog w i t:(bE prog w).is (.inl i) (.int i t)=true:=w9 i t
theorem tf prog w x t:(bE prog w).is (.inr x) (.str x t)=true:=kL x t
inductive V where
 | non | bl (b:Bool) | int (i:Int) | str (x:Str) | byt (b:Array UInt8) | flt (b:UInt64) | ref (a:Tp) | ty (n:String)
 deriving DecidableEq
def RelV:V->S5->Prop
 | .non,u=>u=WB
 | .bl b,u=>u=W7 b
 | .int i,u=> ∃ t,u=XD i t
 | .str x,u=> ∃ t,u=W4 x t
 | .byt b,u=> ∃ t,u=Value.bytes b t
 | .flt b,u=> ∃ t,u=Z1 b t
 | .ref a,u=>u=Tx a
 | .ty n,u=>u=V2 n
abbrev Vals:List V->List S5->Prop:=Vv RelV
theorem Vals.length(r:Vals xs us):xs.length=us.length:=Xw r
theorem Vals.get: ∀{xs us}{i:Nat}{x},Vals xs us->xs[i]?=fv x-> ∃ u,us[i]?=fv u/\RelV x u
 | _,_,_,_,.nil,e=>by simp at e
 | _,_,0,_,.cons r _,e=>by simp at e;subst e;exact⟨_,rfl,r⟩
 | _,_,i+1,x,.cons _ t,e=>by
  obtain⟨u,h1,h2⟩:=Vals.get (i:=i) (x:=x) t (by simpa using e);exact⟨u,by simpa using h1,h2⟩
theorem Vals.set(r:RelV x u): ∀{xs us} i,Vals xs us->Vals (xs.set i x) (us.set i u)
 | _,_,_,.nil=> .nil
 | _,_,0,.cons _ t=> .cons r t
 | _,_,i+1,.cons q t=> .cons q (Vals.set r i t)
theorem Vals.append: ∀{xs ys us ws},Vals xs us->Vals ys ws->Vals (xs++ys) (us++ws)
 | _,_,_,_,.nil,s=>s
 | _,_,_,_,.cons r t,s=> .cons r (Vals.append t s)
theorem Vals.take: ∀{xs us} n,Vals xs us->Vals (xs.take n) (us.take n)
 | _,_,0,_=> .nil
 | _,_,_+1,.nil=> .nil
 | _,_,n+1,.cons r t=> .cons r (Vals.take n t)
theorem Vals.drop: ∀{xs us} n,Vals xs us->Vals (xs.drop n) (us.drop n)
 | _,_,0,r=>r
 | _,_,_+1,.nil=> .nil
 | _,_,n+1,.cons _ t=>Vals.drop n t
def jT:Option V->Option S5->Prop
 | some v,fv u=>RelV v u
 | none,SU=>True
 | _,_=>False
def KV{κ}:=Vv λ(p: κ × V) (q: κ × S5)=>p.1=q.1/\RelV p.2 q.2
noncomputable def kV:Key->V
 | .inl i=> .int i
 | .inr x=> .str x
inductive HO where
  | lst (xs:List V)
  | tup (xs:List V)
  | dK (kvs:List (Key × V)) | dT (kvs:List (List Key × V))
  | set (S:Int->Bool) (n:Nat)
  | ins (C dx:Tp) (fs:List (Str × V))
  | own (x:Tp)
  | xd (fs:List (Str × V))
  | met (f x:Tp)
  | rng (lo hi:Int)
  | jL (o:Obj) (u:HO)
  | tbl (ps:Array S5)
  | ext (φ :UU->Prop)
abbrev Hp:=Tp->Option HO
noncomputable def upd(H:Hp)(a:Tp)(o:HO):Hp:=λb=>if b=a then fv o else H b
theorem bH:upd H a o a=fv o:=by unfold upd;rw[if_pos rfl]
theorem aT(h:b≠a):upd H a o b=H b:=by unfold upd;rw[if_neg h]
theorem pC{H:Hp}{a b:Tp}{o u:HO}(h:H a=fv o)(h':H b=fv u)(d:o≠u):a≠b:=by
 intro e;subst e;rw[h] at h';exact d (Ud h')
theorem aX{H:Hp}{a b:Tp}{o:HO}(h:H a=fv o)(h':H b=SU):a≠b:=by
 intro e;subst e;rw[h] at h';cases h'
def oK(h:UU) a (items:Array S5):= ∃ o,h.get? a=fv o/\o.cls= .type "tuple" /\ ∃ n,o.data= .seq items n/\o.dict=SU
theorem oK.tup{h a items}(x:oK h a items):IsTup h a items:=by obtain⟨o,e,c,n,d,_⟩:=x;exact⟨o,e,c,n,d⟩
theorem oK.new(h:UU) items:oK (h.push { cls:= .type "tuple",data:= .seq items}) h.objs.size items:=⟨_,Tr _ rfl,rfl,_,rfl,rfl⟩
section
variable(P:Ug)(w:Uz)
def bF(H:Hp)(h:UU)(a:Tp):HO->Prop
 | .lst xs=>xs.length<=Ta/\ ∃(az:List S5)(n:Nat),Vals xs az/\h.get? a=fv { cls:= .type "list",data:= .seq az.toArray n}
 | .tup xs=>xs.length<=Ta/\ ∃ az ,Vals xs az/\oK h a az.toArray
 | .dK kvs=>kvs.length<=Ta/\(a == U4)=false/\ ∃ vs,KV kvs vs/\h.DictOf (bE P w) a vs
 | .dT kvs=>kvs.length<=Ta/\(a == U4)=false/\ ∃ xs ,
   Vv (λ(p) (q)=>p.1=q.1/\H q.2.1=fv (.tup (p.1.map kV))/\RelV p.2 q.2.2) kvs xs /\
   ∃ o es ep,h.get? a=fv o/\o.ExactDict/\o.data= .dict es ep/\es.toList=xs.map (entryOfKey (XE (bE P w)))/\(xs.map (·.1)).Nodup
 | .set S n=>h.SetOf (intKind P w) a S n
 | .ins C dx fs=>H dx=fv (.own a)/\fs.length<=1000/\dx≠a/\h.get? a=fv (Vx C dx) /\
   ∃ mA,h.Ns1 dx mA/\(∀ f,jT (fs.lookup f) (mA f))/\aau mA (fs.map (·.1))
 | .own _=> ∃ o,h.get? a=fv o
 | .xd fs=> ∃ mA,h.Ns1 a mA/\ ∀ f,jT (fs.lookup f) (mA f)
 | .rng lo hi=> ∃ t u v,h.get? a=fv { cls:= .type "range",data:= .fields #[.int lo t,.int hi u,.int 1 v]}
 | .jL o u=>h.get? a=fv o∧bF H h a u
 | .tbl ps=>h.get? a=fv { cls:= .none,data:= .fields ps}
 | .met f x=>h.get? a=fv (PySem.W.methodObj (.ref f) (.ref x))
 | .ext φ => φ h∧(∃ o,h.get? a=fv o)∧ ∀ h1 h2 , φ h1->(∀ o,h1.get? a=fv o->h2.get? a=fv o)-> φ h2
def jM H h:= ∀ a o,H a=fv o->bF P w H h a o
end
section
variable{P:Ug}{w:Uz}{H H':Hp}{h h':UU}{a:Tp}{o:HO}
theorem bF.lt(x:bF P w H h a o):a < h.objs.size:=by
 cases o with
 | lst xs=>obtain⟨_,_,_,_,e⟩:=x;exact Tu e
 | tup xs=>obtain⟨_,_,_,p⟩:=x;exact p.tup.lt
 | dK kvs=>obtain⟨_,_,_,_,o,_,_,e,_⟩:=x;exact Tu e
 | dT kvs=>obtain⟨_,_,_,_,o,_,_,e,_⟩:=x;exact Tu e
 | set S n=>obtain⟨o,_,_,_,e,_⟩:=x;exact Tu e
 | ins C dx fs=>obtain⟨_,_,_,e,_⟩:=x;exact Tu e
 | own y=>obtain⟨_,e⟩:=x;exact Tu e
 | xd fs=>obtain⟨_,⟨_,_,_,e,_⟩,_⟩:=x;exact Tu e
 | rng lo hi=>obtain⟨_,_,_,e⟩:=x;exact Tu e
 | jL ob u=>obtain⟨e,_⟩:=x;exact Tu e
 | tbl ps=>exact Tu (show h.get? a=fv _ from x)
 | met f y=>exact Tu (show h.get? a=fv _ from x)
 | ext φ =>obtain⟨_,⟨_,e⟩,_⟩:=x;exact Tu e
theorem Paired.B3: ∀{l₁ l₂},Vv F l₁ l₂ ->(∀ a b,F a b->G a b)->Vv G l₁ l₂
 | _,_,.nil,_=> .nil
 | _,_,.cons r t,f=> .cons (f _ _ r) (Paired.B3 t f)
theorem bF.nM(x:bF P w H h a o)(k: ∀ b u,(b=a\/H b=fv (.own a))->h.get? b=fv u->h'.get? b=fv u)
  (ho: ∀ b,H b=fv (.own a)->H' b=fv (.own a)) (ht: ∀ b xs,H b=fv (.tup xs)->H' b=fv (.tup xs)):bF P w H' h' a o:=by
 induction o with
 | lst xs=>obtain⟨z,az,n,r,e⟩:=x;exact⟨z,az,n,r,k _ _ (.inl rfl) e⟩
 | tup xs=>obtain⟨z,az,r,ob,e,c⟩:=x;exact⟨z,az,r,ob,k _ _ (.inl rfl) e,c⟩
 | dK kvs=>obtain⟨z,y,vs,r,ob,es,ep,e,c⟩:=x;exact⟨z,y,vs,r,ob,es,ep,k _ _ (.inl rfl) e,c⟩
 | dT kvs =>
  obtain⟨z,y,xs,r,ob,es,ep,e,c⟩:=x
  exact⟨z,y,xs,Paired.B3 r λp q z=>⟨z.1,ht _ _ z.2.1,z.2.2⟩,ob,es,ep,k _ _ (.inl rfl) e,c⟩
 | set S n=>obtain⟨ob,es,ep,t,e,c⟩:=x;exact⟨ob,es,ep,t,k _ _ (.inl rfl) e,c⟩
 | ins C dx fs =>
  obtain⟨d,z,ne,e,mA,⟨od,es,ep,e2,c⟩,r⟩:=x
  exact⟨ho _ d,z,ne,k _ _ (.inl rfl) e,mA,⟨od,es,ep,k _ _ (.inr d) e2,c⟩,r⟩
 | own y=>obtain⟨ob,e⟩:=x;exact⟨ob,k _ _ (.inl rfl) e⟩
 | xd fs=>obtain⟨mA,⟨od,es,ep,e,c⟩,r⟩:=x;exact⟨mA,⟨od,es,ep,k _ _ (.inl rfl) e,c⟩,r⟩
 | rng lo hi=>obtain⟨t,u,v,e⟩:=x;exact⟨t,u,v,k _ _ (.inl rfl) e⟩
 | jL ob u ih=>obtain⟨e,q⟩:=x;exact⟨k _ _ (.inl rfl) e,ih q⟩
 | tbl ps =>
  have e:=x
  exact k a _ (.inl rfl) e
 | met f y =>
  have e:=x
  exact k a _ (.inl rfl) e
 | ext φ =>obtain⟨p,⟨o,e⟩,st⟩:=x;exact⟨st _ _ p λo q=>k _ _ (.inl rfl) q,⟨o,k _ _ (.inl rfl) e⟩,st⟩
theorem jM.lt(x:jM P w H h)(e:H a=fv o):a < h.objs.size:=(x a o e).lt
theorem jM.fresh(x:jM P w H h)(e:h.objs.size<=a):H a=SU:=by
 cases q:H a with
 | none=>rfl
 | some u=>exact absurd (Tf (x.lt q) e) (Uq _)
theorem jM.kept(x:jM P w H h)(k: ∀ b u,h.get? b=fv u->h'.get? b=fv u):jM P w H h':=λa o e =>
 (x a o e).nM (λb u _ q=>k b u q) (λ_ q=>q) λ_ _ q=>q
theorem jM.laid(x:jM P w H h)(k: ∀ b u,h.get? b=fv u->h'.get? b=fv u)(hp:h.objs.size<=a)(new:bF P w (upd H a o) h' a o):jM P w (upd H a o) h':=λb u e=>by
 have hn:=x.fresh hp;by_cases hb:b=a
 . subst hb;rw[bH] at e;cases e;exact new
 . rw[aT hb] at e;exact(x b u e).nM (λc v _ q=>k c v q) (λc q=>by rw[aT (aX q hn)];exact q) λc xs q=>by rw[aT (aX q hn)];exact q
end
def Rd(H:Hp) a u:=H a=fv u\/ ∃ o,H a=fv (.jL o u)
theorem Rd.of{H:Hp}{a:Tp}{u:HO}(h:H a=fv u):Rd H a u:= .inl h
theorem Rd.ok(r:Rd H a u)(x:jM P w H h):bF P w H h a u:=by
 rcases r with r | ⟨o,r⟩
 . exact x a u r
 . obtain⟨_,q⟩:=x a _ r;exact q
def MU:Option HO->Prop
 | some (.lst _)=>True
 | some (.dK _)=>True
 | some (.dT _)=>True
 | some (.set _ _)=>True
 | some (.ins _ _ _)=>True
 | some (.ext _)=>True
 | _=>False
section
variable{P:Ug}{w:Uz}{H:Hp}{h h':UU}{x e:Tp}{o':HO}
theorem jM.write(ok:jM P w H h)(mu:MU (H x))(he:e=x\/H e=fv (.own x))(k: ∀ b u,b≠e->h.get? b=fv u->h'.get? b=fv u)(heo: ∃ u,h'.get? e=fv u)
  (new:bF P w (upd H x o') h' x o'):jM P w (upd H x o') h':=λb u q=>by
 have nown: ∀ c y,H c=fv (.own y)->c≠x:=λc y r z=>by subst z;rw[r] at mu;exact mu
 have ntup: ∀ c xs,H c=fv (.tup xs)->c≠x:=λc xs r z=>by subst z;rw[r] at mu;exact mu
 by_cases hb:b=x
 . subst hb;rw[bH] at q;cases q;exact new
 . rw[aT hb] at q;by_cases hbe:b=e
   . have q':H b=fv (.own x):=by
      rcases he with z | z
      . exact absurd (hbe.trans z) hb
      . rw[hbe];exact z
     rw[q] at q';cases q';obtain⟨v,hv⟩:=heo;exact⟨v,by rw[hbe];exact hv⟩
   . refine(ok b u q).nM (λc v hc r=>k c v ?_ r) (λc r=>by rw[aT (nown c b r)];exact r) λc xs r=>by rw[aT (ntup c xs r)];exact r
     rcases hc with rfl | hc
     . exact hbe
     . rintro rfl;rcases he with z | z
       . exact nown c b hc z
       . simp_all
end
structure Un(fs ex:List Tp)(H H':Hp)(h h':UU):Prop where
 keep: ∀ b o,h.get? b=fv o->H b=SU->b ∉ fs->b ∉ ex->h'.get? b=fv o
 slot: ∀ b o,h.get? b=fv o->H b=SU->b∈fs->b ∉ ex-> ∃ sl,h'.get? b=fv { o with slots:=sl}
 free: ∀ b o,h.get? b=fv o->H b=SU->b ∉ ex->H' b=SU
 there: ∀ b o,h.get? b=fv o->b ∉ ex-> ∃ o',h'.get? b=fv o'
 kU: ∀ b xs,H b=fv (.tup xs)->H' b=fv (.tup xs)
 kn: ∀ b o u,H b=fv (.jL o u)->H' b=fv (.jL o u)
 lO: ∀ b ps,H b=fv (.tbl ps)-> ∃ more,H' b=fv (.tbl (ps++more))
section
variable{fs fs' ex ex':List Tp}{H H1 H2:Hp}{h h1 h2 h':UU}{a x e:Tp}{o:HO}
theorem Un.any(u:Un fs ex H H1 h h1)(q:h.get? b=fv ob)(n:H b=SU)(hx:b ∉ ex): ∃ sl,h1.get? b=fv { ob with slots:=sl}:=by
 by_cases hb:b∈fs
 . exact u.slot b ob q n hb hx
 . exact⟨ob.slots,u.keep b ob q n hb hx⟩
theorem Un.trans(a:Un fs ex H H1 h h1)(b:Un fs ex H1 H2 h1 h2):Un fs ex H H2 h h2 where
 keep:=λc ob q n hc hx=>b.keep c ob (a.keep c ob q n hc hx) (a.free c ob q n hx) hc hx
 slot:=λc ob q n hc hx=>by
  obtain⟨sl,e1⟩:=a.slot c ob q n hc hx;obtain⟨sl',e2⟩:=b.slot c _ e1 (a.free c ob q n hx) hc hx;exact⟨sl',e2⟩
 free:=λc ob q n hx=>by
  obtain⟨o',e1⟩:=a.there c ob q hx;exact b.free c o' e1 (a.free c ob q n hx) hx
 there:=λc ob q hx=>by
  obtain⟨o',e1⟩:=a.there c ob q hx;exact b.there c o' e1 hx
 kU:=λc xs q=>b.kU c xs (a.kU c xs q)
 kn:=λc ob xs q=>b.kn c ob xs (a.kn c ob xs q)
 lO:=λc ps q=>by
  obtain⟨m1,e1⟩:=a.lO c ps q;obtain⟨m2,e2⟩:=b.lO c _ e1;exact⟨m1++m2,by rw[e2,Zk]⟩
theorem Un.kept(k: ∀ b u,h.get? b=fv u->h'.get? b=fv u):Un fs ex H H h h' :=
 ⟨λb ob q _ _ _=>k b ob q,λb ob q _ _ _=>⟨ob.slots,k b ob q⟩,λ_ _ _ n _=>n,λb ob q _=>⟨ob,k b ob q⟩,λ_ _ q=>q,λ_ _ _ q=>q,λ_ ps q=>⟨#[],by simp_all⟩⟩
theorem Un.refl:Un fs ex H H h h:=Un.kept λ_ _ q=>q
theorem Un.laid(k: ∀ b u,h.get? b=fv u->h'.get? b=fv u)(hp:h.objs.size<=a)(hn:H a=SU):Un fs ex H (upd H a o) h h' where
 keep:=λb u q _ _ _=>k b u q
 slot:=λb u q _ _ _=>⟨u.slots,k b u q⟩
 free:=λb u q n _=>by rw[aT (TQ (Tf (Tu q) hp))];exact n
 there:=λb u q _=>⟨u,k b u q⟩
 kU:=λb xs q=>by rw[aT (aX q hn)];exact q
 kn:=λb u xs q=>by rw[aT (aX q hn)];exact q
 lO:=λb ps q=>⟨#[],by rw[aT (aX q hn),q];simp⟩
theorem Un.write(mu:MU (H x))(he:e=x\/H e=fv (.own x))(k: ∀ b u,b≠e->h.get? b=fv u->h'.get? b=fv u)(heo: ∃ u,h'.get? e=fv u):Un fs ex H (upd H x o) h h':=by
 have hx: ∀ b,H b=SU->b≠x:=λb n z=>by subst z;rw[n] at mu;exact mu
 have hb: ∀ b,H b=SU->b≠e:=λb n z=>by
  simp_all
 have hm: ∀ b u,H b=fv u-> ¬ MU (fv u)->b≠x:=λb u q nm z=>by simp_all
 refine⟨λb u q n _ _=>k b u (hb b n) q,λb u q n _ _=>⟨u.slots,k b u (hb b n) q⟩,λb u q n _=>by rw[aT (hx b n)];exact n,λb u q _=>?_,
  λb xs q=>by rw[aT (hm b _ q λz=>z)];exact q,λb u xs q=>by rw[aT (hm b _ q λz=>z)];exact q,λb ps q=>⟨#[],by rw[aT (hm b _ q λz=>z),q];simp⟩⟩
 by_cases hbe:b=e
 . simp_all
 . exact⟨u,k b u hbe q⟩
end
noncomputable def OT(h:UU)(H:Hp):=(Vi h.objs.size).filter λa=>(H a).isSome
def tO h H:=PySem.W.hideAll h (OT h H)
theorem xT h H:(tO h H).objs.size=h.objs.size:=PySem.W.hideAll_size _ _
theorem Az{h:UU}{H:Hp}{b:Tp}{o:Obj}(e:h.get? b=fv o)(n:H b=SU):(tO h H).get? b=fv o :=
 PySem.W.hideAll_get _ e λhm=>by
  have q:=(Ym.mp hm).2;rw[n] at q;simp at q
theorem Ds(e:(tO h H).get? b=fv o):h.get? b=fv o/\H b=SU:=by
 have e':=PySem.W.of_hideAll (OT h H) e;refine⟨e',?_⟩;cases q:H b with
 | none=>rfl
 | some x =>
  have hm:b∈OT h H:=Ym.mpr ⟨YC.mpr (Tu e'),by simp[q]⟩
  have z:(tO h H).get? b=SU:=PySem.W.hideAll_none (OT h H) hm
  rw[z] at e;cases e
noncomputable def CL(g h:UU) L:=(Vi h.objs.size).filterMap λa=>if a=L\/(g.get? a).isSome=true then SU else(h.get? a).map λo=>(a,o)
def rest g h L d:=(CL g h L).filter λp=>decide (p.1≠d)
structure Mod(K:SV)(mg:Str->Option S5)(base:UU):Prop where
 P6:K.In base
 glob:base.Ns TX mg
 blt: ∃ mb,base.Ns builtinsNs mb/\ ∀ x:Str,x≠ "__name__" ->mb x=UN x
 nolimit:base.NoLimit
structure Cx where
 prog:Ug
 w:Uz
 K:SV
 mg:Str->Option S5
 base:UU
 A:U5
 N:List Str
 s₀ :Tc
 H₀ :Hp
 env:Env
 outer:List Env
 stack:List Env
 ex:List Tp
 fn:Str->Bool
 calm:Bool
 pn:List (Tp × Obj)
 xe:S5->Tc->Prop
noncomputable def yE(l:List Env):=l.filterMap (·.frame)
abbrev Cx.fs(X:Cx):List Tp:=yE X.outer
def Ko(sc:Xm) x:=sc.names.lookup x=fv .local\/sc.names.lookup x=fv .cell\/sc.names.lookup x=fv .free
def Loc(sc:Xm) x:=sc.names.lookup x=fv .local\/sc.names.lookup x=fv .cell
def Look(env:Env)(h:UU)(m:Str->Option S5) x (u:S5) :=
 (env.kindOf x=fv .local/\m x=fv u)\/((env.kindOf x=fv .cell\/env.kindOf x=fv .free)/\ ∃ c,env.cells.lookup x=fv c/\h.IsCell c (fv u))
structure Cx.Ok(X:Cx):Prop where
 mod:Mod X.K X.mg X.base
 kind:X.env.scope.kind= .function
 glob:X.env.globals=TX
 blt:X.env.builtins=builtinsNs
 above:X.s₀.heap.objs.size<=X.env.locals
 inj: ∀ x y c,X.env.cells.lookup x=fv c->X.env.cells.lookup y=fv c->x=y
 has: ∀ x,(X.env.kindOf x=fv .cell\/X.env.kindOf x=fv .free)-> ∃ c,X.env.cells.lookup x=fv c
 Lm: ∀ x c,X.fn x=true->X.env.cells.lookup x=fv c->X.s₀.heap.objs.size<=c
 hd:X.calm=true->X.A.handled=SU
 frames:X.A.frames=fv X.stack
 Ox:X.stack=X.outer\/(X.stack=X.env::X.outer/\X.env.frame=fv X.env.locals)
 Rb: ∀ b∈X.ex,b≠X.env.locals/\ ∀ x c,X.env.cells.lookup x=fv c->c≠b
 bs: ∀ b o,X.base.get? b=fv o->X.s₀.heap.get? b=fv o/\X.H₀ b=SU
 BS:X.base.objs.size<=X.s₀.heap.objs.size
 ye: ∀ b o,X.base.get? b=fv o->b ∉ X.ex
 Ai: ∀ b∈X.ex,b ∉ X.fs
 kA:X.s₀.heap.FunFrames X.base X.outer
 FZ: ∀ b∈X.fs,X.H₀ b=SU
structure Inv(X:Cx)(pins:List (Tp × Obj))(σ :List (Option V))(H:Hp)(s:Tc):Prop where
 ok:X.Ok
 os:s.os=X.s₀.os
 bare:Xn s.gens
 base:Un X.fs X.ex X.H₀ H X.s₀.heap s.heap
 loc: ∃ m,s.heap.Ns X.env.locals m/\ ∀(i:Nat)(x:Str)(v:V),X.N[i]?=fv x-> σ[i]?=fv (fv v)->Ko X.env.scope x-> ∃ u,RelV v u/\Look X.env s.heap m x u
 cell: ∀ x c,X.env.cells.lookup x=fv c-> ∃ v,s.heap.IsCell c v
 free:H X.env.locals=SU
 iD: ∀ x c,X.env.cells.lookup x=fv c->H c=SU
 pin: ∀ p∈X.pn++pins,s.heap.get? p.1=fv p.2/\H p.1=SU/\p.1≠X.env.locals/\p.1 ∉ X.fs/\ ∀ v,p.2.data≠ .cell v
 bL:jM X.prog X.w H s.heap
 len: σ.length=X.N.length
section
variable{X:Cx}{pins:List (Tp × Obj)}{σ :List (Option V)}{H H':Hp}{s:Tc}{h':UU}
theorem Cx.Ok.Q5(ok:X.Ok)(e:X.base.get? b=fv o):b ∉ X.fs:=λhb=>by
 have:=(ok.kA.mem hb).1;rw[e] at this;cases this
theorem Inv.bs(I:Inv X pins σ H s): ∀ b o,X.base.get? b=fv o->s.heap.get? b=fv o/\H b=SU:=λb o e =>
 ⟨I.base.keep b o (I.ok.bs b o e).1 (I.ok.bs b o e).2 (I.ok.Q5 e) (I.ok.ye b o e),I.base.free b o (I.ok.bs b o e).1 (I.ok.bs b o e).2 (I.ok.ye b o e)⟩
theorem Inv.bk(I:Inv X pins σ H s): ∀ b o,X.base.get? b=fv o->s.heap.get? b=fv o:=λb o e=>(I.bs b o e).1
theorem Inv.mod(I:Inv X pins σ H s):Mod X.K X.mg X.base:=I.ok.mod
theorem Inv.ko(I:Inv X pins σ H s):X.K.In s.heap:=I.ok.mod.P6.keeps I.bk
theorem Inv.nolimit(I:Inv X pins σ H s):s.heap.NoLimit:=I.ok.mod.nolimit.keeps I.bk
theorem Inv.fr(I:Inv X pins σ H s): ∃ m,Fr X.base X.env.locals s.heap m :=
 by obtain⟨m,hn,_⟩:=I.loc;exact⟨m,hn,I.bk,Ua I.ok.BS I.ok.above⟩
theorem Inv.lt(I:Inv X pins σ H s):X.env.locals < s.heap.objs.size:=by obtain⟨_,hn,_⟩:=I.loc;exact hn.lt
theorem Inv.sz(I:Inv X pins σ H s):X.s₀.heap.objs.size<=s.heap.objs.size:=Ua I.ok.above (XT I.lt)
theorem Inv.LM(I:Inv X pins σ H s){a:Tp}(h:s.heap.objs.size<=a):a ∉ X.fs:=λhb=>by
 obtain⟨_,o,ho,_⟩:=I.ok.kA.mem hb;exact absurd (Tf (Tu ho) (Ua I.sz h)) (Uq _)
theorem Inv.Kw(I:Inv X pins σ H s): ∀ x c,X.env.cells.lookup x=fv c->c≠X.env.locals:=λx c e z=>by
 obtain⟨v,o,ho,hd⟩:=I.cell x c e;obtain⟨m,⟨o',es,ep,ho',hd',_⟩,_⟩:=I.loc;rw[z,ho'] at ho;cases ho;rw[hd'] at hd;cases hd
theorem Inv.kA(I:Inv X pins σ H s):s.heap.FunFrames X.base X.outer:=by
 have all: ∀ l,(∀ b∈yE l,b∈X.fs)->X.s₀.heap.FunFrames X.base l->s.heap.FunFrames X.base l:=by
  intro l
  induction l with
  | nil=>intro _ _;trivial
  | cons env r ih =>
   intro hs hl
   obtain⟨hk,⟨L,o,hf,hn,ho,hd⟩,hr⟩:=hl
   have hL:=hs L (by unfold yE;rw[Wa,hf];exact S8)
   obtain⟨sl,e⟩:=I.base.slot L o ho (I.ok.FZ L hL) hL λz=>I.ok.Ai L z hL
   exact⟨hk,⟨L,_,hf,hn,e,hd⟩,ih (λb hb=>hs b (by unfold yE;rw[Wa,hf];exact S9 _ hb)) hr⟩
 exact all X.outer (λ_ hb=>hb) I.ok.kA
theorem Inv.stack(I:Inv X pins σ H s):s.heap.FunFrames X.base X.stack:=by
 rcases I.ok.Ox with e | ⟨e,hf⟩
 . rw[e];exact I.kA
 . rw[e];obtain⟨m,hn,_⟩:=I.loc;refine .cons (by rw[I.ok.kind];decide) hf hn ?_ I.kA;exact Heap.get?_none_of_le (Ua I.ok.BS I.ok.above)
theorem Inv.kS(I:Inv X pins σ H s): ∀ b∈yE X.stack,b∈X.env.locals::X.fs:=λb hb=>by
 rcases I.ok.Ox with e | ⟨e,hf⟩
 . rw[e] at hb;exact S9 _ hb
 . rw[e] at hb;unfold yE at hb;rw[Wa,hf] at hb;exact hb
theorem Inv.wq(I:Inv X pins σ H s): ∀ b∈yE X.stack,H b=SU:=λb hb=>by
 rcases Tq.mp (I.kS b hb) with e | hb
 . rw[e];exact I.free
 . obtain⟨_,o,ho,_⟩:=I.ok.kA.mem hb;exact I.base.free b o ho (I.ok.FZ b hb) λz=>I.ok.Ai b z hb
theorem Inv.step{ch:List Tp}(I:Inv X pins σ H s)
  (hch: ∀ b∈ch,(b∈X.ex\/X.s₀.heap.objs.size<=b)/\b≠X.env.locals/\(∀ x c,X.env.cells.lookup x=fv c->c≠b)/\ ∀ p∈X.pn++pins,p.1≠b)
  (keep: ∀ b o,b≠X.env.locals->b ∉ X.fs->b ∉ ch->s.heap.get? b=fv o->H b=SU->h'.get? b=fv o)
  (slot: ∀ b o,b≠X.env.locals->b∈X.fs->b ∉ ch->s.heap.get? b=fv o->H b=SU-> ∃ sl,h'.get? b=fv { o with slots:=sl}) (free: ∀ b o,b ∉ ch->s.heap.get? b=fv o->H b=SU->H' b=SU)
  (there: ∀ b o,b ∉ ch->s.heap.get? b=fv o-> ∃ o',h'.get? b=fv o')
  (kU: ∀ b xs,H b=fv (.tup xs)->H' b=fv (.tup xs)) (kn: ∀ b o u,H b=fv (.jL o u)->H' b=fv (.jL o u)) (lO: ∀ b ps,H b=fv (.tbl ps)-> ∃ more,H' b=fv (.tbl (ps++more)))
  (ns: ∀ m,s.heap.Ns X.env.locals m->h'.Ns X.env.locals m) (bL:jM X.prog X.w H' h') (hg:Xn g') :
  Inv X pins σ H' { s with heap:=h',gens:=g',drawn:=d',toks:=t'}:=by
 have neL: ∀ b o,X.s₀.heap.get? b=fv o->b≠X.env.locals:=λb o e=>TQ (Tf (Tu e) I.ok.above);have neC: ∀ b o,X.s₀.heap.get? b=fv o->b ∉ X.ex->b ∉ ch:=λb o e hx hb=>by
  rcases(hch b hb).1 with z | z
  . exact hx z
  . exact absurd (Tf (Tu e) z) (Uq _)
 have cellK: ∀ x c,X.env.cells.lookup x=fv c-> ∀ v,s.heap.IsCell c v->h'.IsCell c v:=λx c e v ⟨o,ho,hd⟩=>by
  have nch:=λz=>(hch c z).2.2.1 x c e rfl;by_cases hc:c∈X.fs
  . obtain⟨sl,q⟩:=slot c o (I.Kw x c e) hc nch ho (I.iD x c e);exact⟨_,q,hd⟩
  . exact⟨o,keep c o (I.Kw x c e) hc nch ho (I.iD x c e),hd⟩
 refine⟨I.ok,I.os,hg,⟨λb o e n hb hx=>?_,λb o e n hb hx=>?_,λb o e n hx=>?_,λb o e hx=>?_,λb xs e=>kU b xs (I.base.kU b xs e),λb o xs e=>kn b o xs (I.base.kn b o xs e),λb ps e=>?_⟩,?_,λx c e=>?_,?_,λx c e=>?_,λp hp=>?_,bL,I.len⟩
 . exact keep b o (neL b o e) hb (neC b o e hx) (I.base.keep b o e n hb hx) (I.base.free b o e n hx)
 . obtain⟨sl,e1⟩:=I.base.slot b o e n hb hx;obtain⟨sl',e2⟩:=slot b _ (neL b o e) hb (neC b o e hx) e1 (I.base.free b o e n hx);exact⟨sl',e2⟩
 . obtain⟨o',e1⟩:=I.base.there b o e hx;exact free b o' (neC b o e hx) e1 (I.base.free b o e n hx)
 . obtain⟨o',e1⟩:=I.base.there b o e hx;exact there b o' (neC b o e hx) e1
 . obtain⟨m1,e1⟩:=I.base.lO b ps e;obtain⟨m2,e2⟩:=lO b _ e1;exact⟨m1++m2,by rw[e2,Zk]⟩
 . obtain⟨m,hn,hl⟩:=I.loc;refine⟨m,ns m hn,λi x v e1 e2 e3=>?_⟩;obtain⟨u,r,l⟩:=hl i x v e1 e2 e3;refine⟨u,r,?_⟩;rcases l with l | ⟨k,c,e,z⟩
   . exact .inl l
   . exact .inr ⟨k,c,e,cellK x c e _ z⟩
 . obtain⟨v,z⟩:=I.cell x c e;exact⟨v,cellK x c e v z⟩
 . obtain⟨m,⟨o,_,_,ho,_⟩,_⟩:=I.loc;exact free _ o (λz=>(hch _ z).2.1 rfl) ho I.free
 . obtain⟨v,o,ho,hd⟩:=I.cell x c e;exact free c o (λz=>(hch c z).2.2.1 x c e rfl) ho (I.iD x c e)
 . obtain⟨e,n,ne,nf,d⟩:=I.pin p hp;have nch:=λz=>(hch p.1 z).2.2.2 p hp rfl;exact⟨keep p.1 p.2 ne nf nch e n,free p.1 p.2 nch e n,ne,nf,d⟩
theorem Inv.un(I:Inv X pins σ H s)(u:Un X.fs [] H H' s.heap h')(bL:jM X.prog X.w H' h'):Inv X pins σ H' { s with heap:=h',toks:=t'}:=by
 obtain⟨m,⟨o,es,ep,ho,r⟩,_⟩:=id I.loc;obtain⟨sl,hL⟩:=u.any ho I.free (by simp);exact I.step (g':=s.gens) (d':=s.drawn) (ch:=[]) (λ_ z=>by cases z) (λb o _ hb _ e n=>u.keep b o e n hb (by simp)) (λb o _ hb _ e n=>u.slot b o e n hb (by simp)) (λb o _ e n=>u.free b o e n (by simp)) (λb o _ e=>u.there b o e (by simp)) u.kU u.kn u.lO (λm' hm=>by
  obtain⟨o',es',ep',ho',r'⟩:=hm;rw[ho] at ho';cases ho';exact⟨_,es',ep',hL,r'⟩) bL I.bare
theorem Inv.call(I:Inv X pins σ H s)(u:Un (yE X.stack) ch H H' s.heap h')(bL:jM X.prog X.w H' h')(hg:Xn g')
  (hch: ∀ b∈ch,(b∈X.ex\/X.s₀.heap.objs.size<=b)/\b≠X.env.locals/\(∀ x c,X.env.cells.lookup x=fv c->c≠b)/\ ∀ p∈X.pn++pins,p.1≠b) :
  Inv X pins σ H' { s with heap:=h',gens:=g',drawn:=d',toks:=t'}:=by
 obtain⟨m,⟨o,es,ep,ho,r⟩,_⟩:=id I.loc;obtain⟨sl,hL⟩:=u.any ho I.free λz=>(hch _ z).2.1 rfl;exact I.step (ch:=ch) hch (λb o hL hb hc e n=>u.keep b o e n (λz=>(Tq.mp (I.kS b z)).elim hL hb) hc) (λb o _ _ hc e n=>u.any e n hc) (λb o hc e n=>u.free b o e n hc) (λb o hc e=>u.there b o e hc) u.kU u.kn u.lO (λm' hm=>by
  obtain⟨o',es',ep',ho',r'⟩:=hm;rw[ho] at ho';cases ho';exact⟨_,es',ep',hL,r'⟩) bL hg
theorem Inv.turned(I:Inv X pins σ H s)(k: ∀ b o,b≠it->s.heap.get? b=fv o->h'.get? b=fv o)(hn:H it=SU)(hL:it≠X.env.locals)
  (h1:it∈X.ex\/X.s₀.heap.objs.size<=it) (h2: ∀ x c,X.env.cells.lookup x=fv c->c≠it) (h3: ∀ p∈X.pn++pins,p.1≠it):Inv X pins σ H { s with heap:=h',toks:=t'}:=by
 have nit: ∀ b u,H b=fv u->b≠it:=λb u e z=>by simp_all
 refine I.step (g':=s.gens) (d':=s.drawn) (ch:=[it]) (λb hb=>?_) (λb o _ _ hc e _=>k b o (λz=>hc (by simp[z])) e) (λb o _ _ hc e _=>⟨o.slots,k b o (λz=>hc (by simp[z])) e⟩) (λ_ _ _ _ n=>n)
  (λb o hc e=>⟨o,k b o (λz=>hc (by simp[z])) e⟩) (λ_ _ e=>e) (λ_ _ _ e=>e) (λb ps e=>⟨#[],by simp_all⟩) (λm hm=>?_) (λb u e=>?_) I.bare
 . have e:b=it:=by simpa using hb
   subst e;exact⟨h1,hL,h2,h3⟩
 . obtain⟨o,es,ep,ho,r⟩:=hm;exact⟨o,es,ep,k _ o (V1 hL) ho,r⟩
 . refine(I.bL b u e).nM (λc v hc q=>k c v ?_ q) (λ_ q=>q) λ_ _ q=>q;rcases hc with z | z
   . rw[z];exact nit b u e
   . exact nit c _ z
theorem Inv.tok(I:Inv X pins σ H s) t:Inv X pins σ H { s with toks:=t}:=I.un (h':=s.heap) (t':=t) Un.refl I.bL
theorem Inv.kept(I:Inv X pins σ H s)(k: ∀ b u,s.heap.get? b=fv u->h'.get? b=fv u):Inv X pins σ H { s with heap:=h',toks:=t'}:=I.un (Un.kept k) (I.bL.kept k)
theorem Inv.laid{a:Tp}(I:Inv X pins σ H s)(k: ∀ b u,s.heap.get? b=fv u->h'.get? b=fv u)(hp:s.heap.objs.size<=a)(new:bF X.prog X.w (upd H a o) h' a o) :
  Inv X pins σ (upd H a o) { s with heap:=h',toks:=t'}:=I.un (Un.laid k hp (I.bL.fresh hp)) (I.bL.laid k hp new)
theorem Inv.write(I:Inv X pins σ H s)(mu:MU (H x))(he:e=x∨H e=fv (.own x))(k: ∀ b u,b≠e->s.heap.get? b=fv u->h'.get? b=fv u)(heo: ∃ u,h'.get? e=fv u)
  (new:bF X.prog X.w (upd H x o) h' x o):Inv X pins σ (upd H x o) { s with heap:=h',toks:=t'}:=I.un (Un.write mu he k heo) (I.bL.write mu he k heo new)
theorem Inv.weak(I:Inv X pins σ H s)(hl: σ'.length= σ.length)(w: ∀ (i:Nat) v, σ'[i]?=fv (fv v)-> σ[i]?=fv (fv v)):Inv X pins σ' H s :=
 ⟨I.ok,I.os,I.bare,I.base,by obtain ⟨m,hn,hl'⟩:=I.loc;exact ⟨m,hn,λi x v e1 e2 e3=>hl' i x v e1 (w i v e2) e3⟩,I.cell,I.free,I.iD,I.pin,I.bL,hl.trans I.len⟩
theorem Inv.iT(I:Inv X pins σ H s)(h: ∀ p∈pins',s.heap.get? p.1=fv p.2∧H p.1=SU∧p.1≠X.env.locals∧p.1 ∉ X.fs∧ ∀ v,p.2.data≠ .cell v):Inv X pins' σ H s :=
 ⟨I.ok,I.os,I.bare,I.base,I.loc,I.cell,I.free,I.iD,λp hp=>(Tt.mp hp).elim (λz=>I.pin p (V3 _ z)) (h p),I.bL,I.len⟩
theorem rH{N:List Str}(hN:N.Nodup){ j:Nat}(a:N[i]?=fv x)(b:N[j]?=fv x):i=j:=by
 obtain⟨h1,e1⟩:=Tg.mp a;obtain⟨h2,e2⟩:=Tg.mp b;exact(List.getElem_inj hN).mp (e1.trans e2.symm)
theorem pN{M:Model}{A:U5}{E:S5->Tc->Prop}{i:Nat}{x:Str}{v:V}{u:S5}{Q:Unit->Tc->Prop}(I:Inv X pins σ H s)(hN:X.N.Nodup)(hi:X.N[i]?=fv x)(hx:Loc X.env.scope x)(r:RelV v u)
  (h: ∀ s',Inv X pins (σ.set i (fv v)) H s'->(∃ a,XU a s.heap s'.heap/\(a=X.env.locals\/X.env.cells.lookup x=fv a))->Q () s') (hf:X.fn x=true\/X.env.scope.names.lookup x=fv .local:=by first | exact .inl rfl | exact .inr rfl | assumption):TC M A (storeName X.env x u) Q E s:=by
 obtain⟨m,hn,hl⟩:=id I.loc;have hcls:(X.env.scope.kind == .class||(X.env.scope.kind == .module&&X.env.locals !=X.env.globals))=false:=by rw[I.ok.kind];rfl
 have hiσ :i < σ.length:=by rw[I.len];exact(Tg.mp hi).1
 have Kw:=I.Kw;have tracked: ∀{a:Tp}{h':UU},(∃ o,s.heap.get? a=fv o/\H a=SU)->XU a s.heap h'->jM X.prog X.w H h':=λ{a h'} ha hs b ob e=>by
  obtain⟨_,_,hfree⟩:=ha;refine(I.bL b ob e).nM (λc w' hc q=>(hs.2 c ?_).trans q) (λ_ q=>q) λ_ _ q=>q;rintro rfl;rcases hc with rfl | hc
  . simp_all
  . simp_all
 rcases hx with hk | hk
 . refine wpAny_storeName_local hk hn (λh' hn' hs=>?_) hcls;obtain⟨oL,_,_,hoL,_⟩:=id hn;refine h _ ⟨I.ok,I.os,I.bare,⟨λb o e n hb hx=>?_,λb o e n hb hx=>?_,I.base.free,λb o e hx=>?_,I.base.kU,I.base.kn,I.base.lO⟩,⟨_,hn',λj y v' e1 e2 e3=>?_⟩,λy c e=>?_,I.free,I.iD,λp hp=>?_,tracked ⟨oL,hoL,I.free⟩ hs,by simpa using I.len⟩ ⟨_,hs,.inl rfl⟩
   . exact(hs.2 b (TQ (Tf (Tu e) I.ok.above))).trans (I.base.keep b o e n hb hx)
   . obtain⟨sl,e1⟩:=I.base.slot b o e n hb hx;exact⟨sl,(hs.2 b (TQ (Tf (Tu e) I.ok.above))).trans e1⟩
   . obtain⟨o',e1⟩:=I.base.there b o e hx;exact⟨o',(hs.2 b (TQ (Tf (Tu e) I.ok.above))).trans e1⟩
   . by_cases hj:j=i
     . subst hj;rw[hi] at e1;cases e1;rw[UO hiσ] at e2;cases e2;exact⟨u,r,.inl ⟨hk,by simp⟩⟩
     . rw[UH (V1 hj)] at e2;obtain⟨u',r',q⟩:=hl j y v' e1 e2 e3;refine⟨u',r',?_⟩;rcases q with⟨k,e⟩ | ⟨k,c,e,z⟩
       . refine .inl ⟨k,?_⟩;have:y≠x:=λe=>hj (rH hN e1 (e ▸ hi));simp[this,e]
       . exact .inr ⟨k,c,e,z.sameBut hs (Kw y c e)⟩
   . obtain⟨w',z⟩:=I.cell y c e;exact⟨w',z.sameBut hs (Kw y c e)⟩
   . obtain⟨e,n,ne,nf,d⟩:=I.pin p hp;exact⟨(hs.2 p.1 ne).trans e,n,ne,nf,d⟩
 . have hfn:X.fn x=true:=by
    simp_all
   obtain⟨c,hc⟩:=I.ok.has x (.inl hk);obtain⟨w',z⟩:=I.cell x c hc;refine wpAny_storeName_cell I.ok.kind hk hc z (λh' hc' hs=>?_);obtain⟨oc,hoc,hocd⟩:=id z;refine h { s with heap:=h'} ⟨I.ok,I.os,I.bare,⟨λb o e n hb hx=>?_,λb o e n hb hx=>?_,I.base.free,λb o e hx=>?_,I.base.kU,I.base.kn,I.base.lO⟩,⟨m,hn.sameBut hs (V1 (Kw x c hc)),λj y v' e1 e2 e3=>?_⟩,λy c' e=>?_,I.free,I.iD,λp hp=>?_,tracked ⟨oc,hoc,I.iD x c hc⟩ hs,by simpa using I.len⟩ ⟨c,hs,.inr hc⟩
   . exact(hs.2 b (TQ (Tf (Tu e) (I.ok.Lm x c hfn hc)))).trans (I.base.keep b o e n hb hx)
   . obtain⟨sl,e1⟩:=I.base.slot b o e n hb hx;exact⟨sl,(hs.2 b (TQ (Tf (Tu e) (I.ok.Lm x c hfn hc)))).trans e1⟩
   . obtain⟨o',e1⟩:=I.base.there b o e hx;exact⟨o',(hs.2 b (TQ (Tf (Tu e) (I.ok.Lm x c hfn hc)))).trans e1⟩
   . by_cases hj:j=i
     . subst hj;rw[hi] at e1;cases e1;rw[UO hiσ] at e2;cases e2;exact⟨u,r,.inr ⟨.inl hk,c,hc,hc'⟩⟩
     . rw[UH (V1 hj)] at e2;obtain⟨u',r',q⟩:=hl j y v' e1 e2 e3;refine⟨u',r',?_⟩;rcases q with q | ⟨k,c',e,z'⟩
       . exact .inl q
       . refine .inr ⟨k,c',e,z'.sameBut hs ?_⟩;rintro rfl;exact hj (rH hN e1 (I.ok.inj _ _ _ e hc ▸ hi))
   . by_cases hcc:c'=c
     . subst hcc;exact⟨_,hc'⟩
     . obtain⟨w2,z2⟩:=I.cell y c' e;exact⟨w2,z2.sameBut hs hcc⟩
   . obtain⟨e,n,ne,nf,d⟩:=I.pin p hp;refine⟨(hs.2 p.1 ?_).trans e,n,ne,nf,d⟩;intro q;rw[q,hoc] at e;have q':=Ud e;exact d w' (by rw[<- q'];exact hocd)
theorem sD{M:Model}{A:U5}{E:S5->Tc->Prop}{i:Nat}{x:Str}{v:V}{u:S5}{Q:Unit->Tc->Prop}(I:Inv X pins σ H s)(hN:X.N.Nodup)(hi:X.N[i]?=fv x)(hx:Loc X.env.scope x)(r:RelV v u)
  (h: ∀ s',Inv X pins (σ.set i (fv v)) H s'->Q () s') (hf:X.fn x=true\/X.env.scope.names.lookup x=fv .local:=by first | exact .inl rfl | exact .inr rfl | assumption):TC M A (storeName X.env x u) Q E s :=
 pN I hN hi hx r (λs' I' _=>h s' I') hf
theorem Inv.LY(I:Inv X pins σ H s)(ho:s'.os=s.os)(u:Un (yE X.stack) ch H H' s.heap s'.heap)(bL:jM X.prog X.w H' s'.heap)(hg:Xn s'.gens)
  (hch: ∀ b∈ch,(b∈X.ex\/X.s₀.heap.objs.size<=b)/\b≠X.env.locals/\(∀ x c,X.env.cells.lookup x=fv c->c≠b)/\ ∀ p∈X.pn++pins,p.1≠b):Inv X pins σ H' s':=by
 obtain⟨h',g',d',t',o'⟩:=s';have e:=ho;subst e;exact I.call (g':=g') (t':=t') (d':=d') u bL hg hch
end
abbrev XK:=S5->Option Tp->Hp->Prop
abbrev St:=List (Option V)
abbrev VK:=V->Hp->Prop
abbrev TE:=St->Hp->VK->Prop
abbrev TT:=St->Hp->(Bool->Hp->Prop)->Prop
abbrev TA:=St->Hp->(List V->Hp->Prop)->Prop
structure Ends where
 nx:St->Hp->Prop
 rt:VK
 bk:St->Hp->Prop:=λ_ _=>False
 ct:St->Hp->Prop:=λ_ _=>False
abbrev TS:=Ends->St->Hp->Prop
def EP X (pins:List (Tp × Obj)) (σ :St) (Q:VK) (u:S5) (s':Tc):= ∃ v H',Inv X pins σ H' s'/\RelV v u/\Q v H'
def TP X (pins:List (Tp × Obj)) (σ :St) (Q:Bool->Hp->Prop) b (s':Tc):= ∃ H',Inv X pins σ H' s'/\Q b H'
def AP X (pins:List (Tp × Obj)) (σ :St) (Q:List V->Hp->Prop) (us:List S5) (s':Tc):= ∃ vs H',Inv X pins σ H' s'/\Vals vs us/\Q vs H'
def SP X (pins:List (Tp × Obj)) (D:Ends) (f:Flow) (s':Tc) :=
 match f with
 | .next=> ∃ σ' H',Inv X pins σ' H' s'/\D.nx σ' H'
 | .brk=> ∃ σ' H',Inv X pins σ' H' s'/\D.bk σ' H'
 | .cont=> ∃ σ' H',Inv X pins σ' H' s'/\D.ct σ' H'
 | .ret u=> ∃ v σ' H',Inv X pins σ' H' s'/\RelV v u/\D.rt v H'
def PE X e (t:TE) :=
 ∀ pins s(σ :St) H Q,Inv X pins σ H s->t σ H Q->TC (TM X.prog X.w) X.A (Vl e X.env) (EP X pins σ Q) X.xe s
def PT X e (t:TT) :=
 ∀ pins s(σ :St) H Q,Inv X pins σ H s->t σ H Q->TC (TM X.prog X.w) X.A (ZO e X.env (Vl e X.env)) (TP X pins σ Q) X.xe s
def PW X e (t:TT) :=
 ∀ whole pins s(σ :St) H Q,Inv X pins σ H s->t σ H Q->TC (TM X.prog X.w) X.A (ZO e X.env whole) (TP X pins σ Q) X.xe s
theorem PW.pt(h:PW X e t):PT X e t:=h _
def PA X (es:List Uh) (t:TA) :=
 ∀ pos pins s(σ :St) H Q,Inv X pins σ H s->t σ H Q->TC (TM X.prog X.w) X.A (spliced (WC pos (Ue es X.env))) (AP X pins σ Q) X.xe s
def PS X st (t:TS) :=
 ∀ pins s(σ :St) H D,Inv X pins σ H s->t D σ H->TC (TM X.prog X.w) X.A (exec st X.env) (SP X pins D) X.xe s
def vV X (st:List XW) (t:TS) :=
 ∀ pins s(σ :St) H D,Inv X pins σ H s->t D σ H->TC (TM X.prog X.w) X.A (execs st X.env) (SP X pins D) X.xe s
theorem iU(h:TC M A t Q E s)(hQ: ∀ a s,Q a s->Q' a s):TC M A t Q' E s:=Ui h hQ λ_ _ x=>x
theorem iq(h:TC M A t (EP X pins σ Q) E s)(k: ∀ u s v H,Inv X pins σ H s->RelV v u->Q v H->Q' u s):TC M A t Q' E s:=iU h λu s z=>by obtain⟨v,H,a,b,c⟩:=z;exact k u s v H a b c
theorem Eo(h:TC M A t (AP X pins σ Q) E s)(k: ∀ u s v H,Inv X pins σ H s->Vals v u->Q v H->Q' u s):TC M A t Q' E s:=iU h λu s z=>by obtain⟨v,H,a,b,c⟩:=z;exact k u s v H a b c
theorem Pk(h:TC M A t (TP X pins σ Q) E s)(k: ∀ u s H,Inv X pins σ H s->Q u H->Q' u s):TC M A t Q' E s:=iU h λu s z=>by obtain⟨H,a,c⟩:=z;exact k u s H a c
section
variable {X:Cx}
theorem bin(ha : PE X a ta)(hb : PE X b tb){σ : St}{R : V -> V -> Hp -> Prop}(I : Inv X pins σ H s)(h : ta σ H fun x H1 => tb σ H1 fun y H2 => R x y H2)
      {f : Value -> Value -> Sem α}
    (hf : ∀ v u s2 x y H2, Inv X pins σ H2 s2 -> RelV x v -> RelV y u -> R x y H2 -> TC (TM X.prog X.w) X.A (f v u) Q X.xe s2) :
    TC (TM X.prog X.w) X.A (Vl a X.env) (λv s₁ => TC (TM X.prog X.w) X.A (Vl b X.env) (λu s₂ => TC (TM X.prog X.w) X.A (f v u) Q X.xe s₂) X.xe s₁) X.xe s := by
  refine iq (ha pins s σ H _ I h) λv s1 x H1 I1 r1 q1 => ?_;refine iq (hb pins s1 σ H1 _ I1 q1) λu s2 y H2 I2 r2 q2 => ?_;exact hf v u s2 x y H2 I2 r1 r2 q2
noncomputable def Hu(i:Nat):TE:=fun σ H Q=> ∃ v, σ[i]?=fv (fv v)∧Q v H
noncomputable def tC(v:V):TE:=λ_ H Q=>Q v H
theorem Bx{pos}(hN:X.N[i]?=fv x)(hv:Ko X.env.scope x)(hd:(x == ("__debug__"))=false:=by decide)(hcd:(x == ("__classdict__"))=false:=by decide):PE X (.Name x pos) (Hu i):=by
 intro pins s σ H Q I h;obtain⟨v,e,h⟩:=h;obtain⟨m,hn,hl⟩:=I.loc;obtain⟨u,r,l⟩:=hl i x v hN e hv;have fin:EP X pins σ Q u s:=⟨v,H,I,r,h⟩
 rcases l with⟨hk,hm⟩ | ⟨hk,c,hc,hcell⟩
 . exact wpAny_Name (wpAny_loadName_local I.ok.kind hk hn hm fin) hd
 . rcases hk with hk | hk
   . exact wpAny_Name (wpAny_loadName_cell I.ok.kind hk hc hcell fin) hd
   . exact wpAny_Name (wpAny_loadName_free I.ok.kind hk hc hcell fin hcd) hd
theorem Jl:PE X (.Constant (.int i) j pos) (tC (.int i)):=λ_ _ _ H _ I h=>wpAny_Constant_int ⟨.int i,H,I.tok _,⟨_,rfl⟩,h⟩
theorem LB:PE X (.Constant (.bool b) j pos) (tC (.bl b)):=λ_ _ _ H _ I h=>Constant_bool ⟨.bl b,H,I,rfl,h⟩
theorem Hg:PE X (.Constant .none j pos) (tC .non):=λ_ _ _ H _ I h=>Y9 ⟨.non,H,I,rfl,h⟩
theorem J9:PE X (.Constant (.str x) j pos) (tC (.str x)):=λ_ _ _ H _ I h=>Calls.Constant_str ⟨.str x,H,I.tok _,⟨_,rfl⟩,h⟩
def Gl(X:Cx) x:=X.env.kindOf x=fv .globalImplicit
theorem wI{E:S5->Tc->Prop}{pins:List (Tp × Obj)}{s:Tc}{σ :St}{H:Hp}{x:Str}{u:S5}{pos:Pos}{Q:S5->Tc->Prop}(I:Inv X pins σ H s)(hg:Gl X x)(hm:X.mg x=fv u)(h:Q u s)
  (hd:(x == ("__debug__" :Str))=false:=by decide):TC (TM X.prog X.w) X.A (Vl (.Name x pos) X.env) Q E s :=
 W8 I.ok.kind hg (Calls.loadGlobal_global (by rw[I.ok.glob];exact I.mod.glob.keeps I.bk) hm h) hd
theorem jA{E:S5->Tc->Prop}{pins:List (Tp × Obj)}{s:Tc}{σ :St}{H:Hp}{x:Str}{u:S5}{pos:Pos}{Q:S5->Tc->Prop}(I:Inv X pins σ H s)(hg:Gl X x)(hm:X.mg x=SU)(hv:UN x=fv u)(h:Q u s)
  (hn:x≠ "__name__" :=by decide) (hd:(x == ("__debug__" :Str))=false:=by decide):TC (TM X.prog X.w) X.A (Vl (.Name x pos) X.env) Q E s:=by
 obtain⟨mb,h1,h2⟩:=I.mod.blt;exact W8 I.ok.kind hg (Calls.loadGlobal_builtin (by rw[I.ok.glob];exact I.mod.glob.keeps I.bk) hm (by rw[I.ok.blt];exact h1.keeps I.bk) ((h2 x hn).trans hv) h) hd
theorem v9(hg:Gl X x)(hm:X.mg x=fv u)(r:RelV v u)(hd:(x == ("__debug__"))=false:=by decide):PE X (.Name x pos) (tC v) :=
 λ_ _ _ H _ I h=>wI I hg hm ⟨v,H,I,r,h⟩ hd
theorem B7{pos}(hg:Gl X x)(hm:X.mg x=SU)(hv:UN x=fv u)(r:RelV v u)(hn:x≠ "__name__" :=by decide)(hd:(x == ("__debug__"))=false:=by decide):PE X (.Name x pos) (tC v) :=
 λ_ _ _ H _ I h=>jA I hg hm hv ⟨v,H,I,r,h⟩ hn hd
variable{a b:Uh}{ta tb:TE}{pos:Pos}
def PC X (op:CmpOp) a b (t:TE) :=
 ∀ pins s(σ :St) H Q,Inv X pins σ H s->t σ H Q ->
  TC (TM X.prog X.w) X.A (Vl a X.env) (λv s₁ =>TC (TM X.prog X.w) X.A (Vl b X.env) (λu s₂ =>TC (TM X.prog X.w) X.A (Tw op v u) (EP X pins σ Q) X.xe s₂) X.xe s₁) X.xe s
theorem tJ b (h:op≠ .In) (h2:op≠ .NotIn):Ur op b=false:=by
 have e1:(op == CmpOp.In)=false:=by simp_all
 have e2:(op == CmpOp.NotIn)=false:=by simp_all
 cases b<;>simp[Ur,e1,e2]
noncomputable def Ke(ta:TE):TE:=fun σ H Q=>ta σ H λx H1=>Q (.bl (decide (x= .non))) H1
noncomputable def Ft(ta:TE):TE:=fun σ H Q=>ta σ H λx H1=>Q (.bl (!decide (x= .non))) H1
theorem RelV.sL(r:RelV x v):(v == WB)=decide (x= .non):=by
 cases x with
 | non=>cases r;rfl
 | bl _=>cases r;rfl
 | int _=>obtain⟨t,rfl⟩:=r;rfl
 | str _=>obtain⟨t,rfl⟩:=r;rfl
 | byt _=>obtain⟨t,rfl⟩:=r;rfl
 | flt _=>obtain⟨t,rfl⟩:=r;rfl
 | ref _=>cases r;rfl
 | ty _=>cases r;rfl
theorem An(ha:PE X a ta):PC X .Is a (.Constant .none j pos') (Ke ta):=by
 intro pins s σ H Q I h;refine iq (ha pins s σ H _ I h) λv s1 x H1 I1 r1 q1=>?_;exact Y9 (is_none_gen ⟨.bl _,H1,I1,by rw[r1.sL];rfl,q1⟩)
theorem D9(ha:PE X a ta):PC X .IsNot a (.Constant .none j pos') (Ft ta):=by
 intro pins s σ H Q I h;refine iq (ha pins s σ H _ I h) λv s1 x H1 I1 r1 q1=>?_;exact Y9 (isnot_none_gen ⟨.bl _,H1,I1,by rw[r1.sL];rfl,q1⟩)
noncomputable def tB(t:TE):TT:=fun σ H Q=>t σ H λx H1=> ∃ c,x= .bl c/\Q c H1
theorem Aa(h:PC X op a b t)(h1:Ur op b=false:=by first | exact tJ _ (by decide) (by decide) | rfl):PE X (.Compare a [op] [b] pos) t:=λpins s σ H Q I hw=>wpAny_Compare1 (h pins s σ H Q I hw) h1
theorem uN(h:PC X op a b t)(h1:Ur op b=false:=by first | exact tJ _ (by decide) (by decide) | rfl):PT X (.Compare a [op] [b] pos) (tB t):=by
 intro pins s σ H Q I hw;refine Yt (iU (h pins s σ H _ I hw) λv s1 h1=>iU h1 λu s2 h2=>iq h2 λc s3 x H1 I1 r1 q1=>?_) h1;obtain⟨d,rfl,q⟩:=q1;cases r1;exact Uo ⟨H1,I1,q⟩
theorem Jr(h:PE X e t)(he: ∀ whole,ZO e X.env whole=(do let v <- whole;aag e.pos;WW [v] (truthy v)):=by intro _;rfl):PT X e (tB t):=by
 intro pins s σ H Q I hw;refine isTrue_plain (iq (h pins s σ H _ I hw) λv s1 x H1 I1 r1 q1=>?_) (he _);obtain⟨d,rfl,q⟩:=q1;cases r1;exact Uo ⟨H1,I1,q⟩
variable{tA tB':TT}{rest:List Uh}
noncomputable def Mr(t u:TT):TT:=fun σ H Q=>t σ H λc H1=>if c=true then u σ H1 Q else Q false H1
noncomputable def RP(t u:TT):TT:=fun σ H Q=>t σ H λc H1=>if c=true then Q true H1 else u σ H1 Q
noncomputable def OH(t:TT):TT:=fun σ H Q=>t σ H λc H1=>Q (!c) H1
theorem pw_and1(ha:PT X a tA):PW X (.BoolOp .And [a] pos) tA:=by
 intro wh pins s σ H Q I h;refine isTrue_and (iU (ha pins s σ H Q I h) λc s1 e=>?_);cases c with
 | true=>exact isTrue_and_nil e
 | false=>exact e
theorem pw_or1(ha:PT X a tA):PW X (.BoolOp .Or [a] pos) tA:=by
 intro wh pins s σ H Q I h;refine isTrue_or (iU (ha pins s σ H Q I h) λc s1 e=>?_);cases c with
 | false=>exact isTrue_or_nil e
 | true=>exact e
theorem pw_and(ha:PT X a tA)(hb:PW X (.BoolOp .And (b::rest) pos) tB'):PW X (.BoolOp .And (a::b::rest) pos) (Mr tA tB'):=by
 intro wh pins s σ H Q I h;refine isTrue_and (Pk (ha pins s σ H _ I h) λc s1 H1 I1 q1=>?_);cases c with
 | true=>exact hb wh pins s1 σ H1 Q I1 q1
 | false=>exact⟨H1,I1,q1⟩
theorem pw_or(ha:PT X a tA)(hb:PW X (.BoolOp .Or (b::rest) pos) tB'):PW X (.BoolOp .Or (a::b::rest) pos) (RP tA tB'):=by
 intro wh pins s σ H Q I h;refine isTrue_or (Pk (ha pins s σ H _ I h) λc s1 H1 I1 q1=>?_);cases c with
 | true=>exact⟨H1,I1,q1⟩
 | false=>exact hb wh pins s1 σ H1 Q I1 q1
theorem Im(ha:PT X a tA):PT X (.UnaryOp .Not a pos) (OH tA):=by
 intro pins s σ H Q I h;exact isTrue_not (ha pins s σ H (λc H1=>Q (!c) H1) I h)
noncomputable def Fi(ta tb:TE):TE:=fun σ H Q=>ta σ H λx H1=> ∃ c,x= .bl c/\if c=true then tb σ H1 Q else Q (.bl false) H1
noncomputable def M8(ta tb:TE):TE:=fun σ H Q=>ta σ H λx H1=> ∃ c,x= .bl c/\if c=true then Q (.bl true) H1 else tb σ H1 Q
noncomputable def FF(ta:TE):TE:=fun σ H Q=>ta σ H λx H1=> ∃ c,x= .bl c/\Q (.bl (!c)) H1
theorem Kv(h:PE X a t):PE X (.BoolOp op [a] pos) t:=λpins s σ H Q I hw=>BoolOp_one (h pins s σ H Q I hw)
theorem Hy(ha:PE X a ta)(hb:PE X (.BoolOp .And (b::rest) pos) tb):PE X (.BoolOp .And (a::b::rest) pos) (Fi ta tb):=by
 intro pins s σ H Q I h;refine BoolOp_and (iq (ha pins s σ H _ I h) λv s1 x H1 I1 r1 q1=>?_);obtain⟨c,rfl,q1⟩:=q1;cases r1;refine Uo ?_;cases c with
 | true=>exact hb pins s1 σ H1 Q I1 q1
 | false=>exact⟨.bl false,H1,I1,rfl,q1⟩
theorem LH(ha:PE X a ta)(hb:PE X (.BoolOp .Or (b::rest) pos) tb):PE X (.BoolOp .Or (a::b::rest) pos) (M8 ta tb):=by
 intro pins s σ H Q I h;refine BoolOp_or (iq (ha pins s σ H _ I h) λv s1 x H1 I1 r1 q1=>?_);obtain⟨c,rfl,q1⟩:=q1;cases r1;refine Uo ?_;cases c with
 | false=>exact hb pins s1 σ H1 Q I1 q1
 | true=>exact⟨.bl true,H1,I1,rfl,q1⟩
theorem KN(ha:PE X a ta):PE X (.UnaryOp .Not a pos) (FF ta):=by
 intro pins s σ H Q I h;refine UnaryOp_ (iq (ha pins s σ H _ I h) λv s1 x H1 I1 r1 q1=>?_);obtain⟨c,rfl,q1⟩:=q1;cases r1;exact not_of (Uo ⟨.bl (!c),H1,I1,rfl,q1⟩)
noncomputable def Sj(t:TT)(ta tb:TE):TE:=fun σ H Q=>t σ H λc H1=>if c=true then ta σ H1 Q else tb σ H1 Q
theorem y6(hc:PT X c tA)(ha:PE X a ta)(hb:PE X b tb):PE X (.IfExp c a b pos) (Sj tA ta tb):=by
 intro pins s σ H Q I h;refine wpAny_IfExp (Pk (hc pins s σ H _ I h) λd s1 H1 I1 q1=>?_);cases d with
 | true=>exact ha pins s1 σ H1 Q I1 q1
 | false=>exact hb pins s1 σ H1 Q I1 q1
end
def gi(K:SV) H a (xs:List V) :=
 Rd H a (.lst xs) \/
  ∃(o:Obj)(az:Array S5)(n:Nat),K.lookup a=fv o/\o.cls= .type "list" /\o.dict=SU/\o.data= .seq az n/\az.size<=Ta/\Vals xs az.toList
def fB(K:SV) H a (xs:List V) :=
 Rd H a (.tup xs) \/
  ∃(o:Obj)(az:Array S5)(n:Nat),K.lookup a=fv o/\o.cls= .type "tuple" /\o.data= .seq az n/\az.size<=Ta/\Vals xs az.toList
noncomputable def Qr:S5->Option V
 | .none=>fv .non
 | .bool b=>fv (.bl b)
 | .int i _=>fv (.int i)
 | .str x _=>fv (.str x)
 | .bytes b _=>fv (.byt b)
 | .float b _=>fv (.flt b)
 | .ref a=>fv (.ref a)
 | .type n=>fv (.ty n)
 | _=>SU
theorem RelV.abs(r:RelV x u):Qr u=fv x:=by
 cases x with
 | non=>cases r;rfl
 | bl _=>cases r;rfl
 | int _=>obtain⟨t,rfl⟩:=r;rfl
 | str _=>obtain⟨t,rfl⟩:=r;rfl
 | byt _=>obtain⟨t,rfl⟩:=r;rfl
 | flt _=>obtain⟨t,rfl⟩:=r;rfl
 | ref _=>cases r;rfl
 | ty _=>cases r;rfl
theorem RelV.inj(r:RelV x u)(q:RelV y u):x=y:=Ud (r.abs.symm.trans q.abs)
theorem Vals.inj: ∀{xs ys us},Vals xs us->Vals ys us->xs=ys
 | _,_,_,.nil,.nil=>rfl
 | _,_,_,.cons r t,.cons r' t'=>by rw[r.inj r',Vals.inj t t']
section
variable{X:Cx}{pins:List (Tp × Obj)}{σ :St}{H:Hp}{s:Tc}{a:Tp}{xs ys:List V}
theorem gi.of{K:SV}(h:H a=fv (.lst xs)):gi K H a xs:= .inl (.inl h)
theorem fB.of{K:SV}(h:H a=fv (.tup xs)):fB K H a xs:= .inl (.inl h)
theorem Inv.list(I:Inv X pins σ H s)(h:gi X.K H a xs): ∃ az ,Vals xs az/\PlainL s.heap a az.toArray/\xs.length<=Ta:=by
 rcases h with h | ⟨o,az,n,hk,hc,hd,hs,hz,r⟩
 . obtain⟨z,az,n,r,e⟩:=h.ok I.bL;exact⟨az,r,⟨_,n,e,rfl,rfl,rfl⟩,z⟩
 . refine⟨az.toList,r,⟨o,n,I.ko a o hk,hc,hd,by omega⟩,?_⟩;have e:=r.length;simp only[WV] at e;omega
theorem Inv.tuple(I:Inv X pins σ H s)(h:fB X.K H a xs): ∃ az ,Vals xs az/\IsTup s.heap a az.toArray/\xs.length<=Ta:=by
 rcases h with h | ⟨o,az,n,hk,hc,hs,hz,r⟩
 . obtain⟨z,az,r,p⟩:=h.ok I.bL;exact⟨az,r,p.tup,z⟩
 . refine⟨az.toList,r,⟨o,I.ko a o hk,hc,n,by omega⟩,?_⟩;have e:=r.length;simp only[WV] at e;omega
theorem Inv.Af(I:Inv X pins σ H s)(h:gi X.K H a xs)(h':gi X.K H a ys):xs=ys:=by
 obtain⟨az,r,⟨o,n,e,_,_,d⟩,_⟩:=I.list h;obtain⟨its',r',⟨o',n',e',_,_,d'⟩,_⟩:=I.list h';rw[e] at e';cases e';rw[d] at d';injection d' with d1 _;have:az=its':=by simpa using congrArg aav d1
 subst this;exact r.inj r'
theorem Inv.kO(I:Inv X pins σ H s)(h:fB X.K H a xs)(h':fB X.K H a ys):xs=ys:=by
 obtain⟨az,r,⟨o,e,_,n,d⟩,_⟩:=I.tuple h;obtain⟨its',r',⟨o',e',_,n',d'⟩,_⟩:=I.tuple h';rw[e] at e';cases e';rw[d] at d';injection d' with d1 _;have:az=its':=by simpa using congrArg aav d1
 subst this;exact r.inj r'
end
abbrev Cx.lK(X:Cx)(E:S5->Tc->Prop):Cx:={ X with xe:=E}
abbrev Cx.oG(X:Cx):Cx:=X.lK λ_ _=>False
theorem Cx.Ok.lK{X:Cx}(ok:X.Ok) E:(X.lK E).Ok :=
 ⟨ok.mod,ok.kind,ok.glob,ok.blt,ok.above,ok.inj,ok.has,ok.Lm,ok.hd,ok.frames,ok.Ox,ok.Rb,ok.bs,ok.BS,ok.ye,ok.Ai,ok.kA,ok.FZ⟩
theorem Cx.Ok.gv{X:Cx}(ok:(X.lK E).Ok):X.Ok :=
 ⟨ok.mod,ok.kind,ok.glob,ok.blt,ok.above,ok.inj,ok.has,ok.Lm,ok.hd,ok.frames,ok.Ox,ok.Rb,ok.bs,ok.BS,ok.ye,ok.Ai,ok.kA,ok.FZ⟩
section
variable{X:Cx}{pins:List (Tp × Obj)}{σ :St}{H:Hp}{s:Tc}{E:S5->Tc->Prop}
theorem Inv.lK(I:Inv X pins σ H s) E:Inv (X.lK E) pins σ H s:=⟨I.ok.lK E,I.os,I.bare,I.base,I.loc,I.cell,I.free,I.iD,I.pin,I.bL,I.len⟩
theorem Inv.gv(I:Inv (X.lK E) pins σ H s):Inv X pins σ H s:=⟨I.ok.gv,I.os,I.bare,I.base,I.loc,I.cell,I.free,I.iD,I.pin,I.bL,I.len⟩
theorem SP.gv(h:SP (X.lK E) pins D f s'):SP X pins D f s':=by
 cases f with
 | next=>obtain ⟨σ',H',I,q⟩:=h;exact ⟨σ',H',I.gv,q⟩
 | brk=>obtain ⟨σ',H',I,q⟩:=h;exact ⟨σ',H',I.gv,q⟩
 | cont=>obtain ⟨σ',H',I,q⟩:=h;exact ⟨σ',H',I.gv,q⟩
 | ret u=>obtain ⟨v, σ',H',I,r,q⟩:=h;exact ⟨v, σ',H',I.gv,r,q⟩
theorem PE.oG{e:Uh}{t:TE}(h:PE X.oG e t):PE X e t:=λpins s σ H Q I hw =>
 Ui (h pins s σ H Q (I.lK _) hw) (λ_ _ ⟨v,H',I',r,q⟩=>⟨v,H',I'.gv,r,q⟩) λ_ _ z=>U6 z
theorem PT.oG{e:Uh}{t:TT}(h:PT X.oG e t):PT X e t:=λpins s σ H Q I hw =>
 Ui (h pins s σ H Q (I.lK _) hw) (λ_ _ ⟨H',I',q⟩=>⟨H',I'.gv,q⟩) λ_ _ z=>U6 z
theorem vV.oG{st}(h:vV X.oG st t):vV X st t:=λpins s σ H D I hw =>
 Ui (h pins s σ H D (I.lK _) hw) (λ_ _ q=>q.gv) λ_ _ z=>U6 z
end
section
variable{X:Cx}{st:XW}{rest:List XW}{t u:TS}{e:Uh}{te:TE}{pos:Pos}
noncomputable def AJ:TS:=λD σ H=>D.nx σ H
noncomputable def GV(t u:TS):TS:=λD σ H=>t { D with nx:=u D} σ H
theorem CI:vV X [] AJ:=λ_ _ σ H _ I h=>Yn ⟨σ,H,I,h⟩
theorem zA(h1:PS X st t)(h2:vV X rest u):vV X (st::rest) (GV t u):=by
 intro pins s σ H D I h;refine ZP (iU (h1 pins s σ H { D with nx:=u D} I h) λf s1 q=>?_);cases f with
 | next =>
  obtain⟨σ',H',I',q⟩:=q
  exact h2 pins s1 σ' H' D I' q
 | ret v=>exact q
 | brk=>exact q
 | cont=>exact q
theorem EU(h1:PS X st t):vV X [st] t:=by
 intro pins s σ H D I h;refine ZP (iU (h1 pins s σ H D I h) λf s1 q=>?_);cases f with
 | next=>exact Yn q
 | ret v=>exact q
 | brk=>exact q
 | cont=>exact q
theorem Inv.quiet{σ :St}(I:Inv X pins σ H s):interactive X.env=false:=by simp[interactive,I.ok.kind]
noncomputable def FH(te:TE):TS:=λD σ H=>te σ H λ_ H1=>D.nx σ H1
theorem CA(he:PE X e te)(hs:VY e SU pos.line X.env=pure false:=by rfl):PS X (.Expr e pos) (FH te):=by
 intro pins s σ H D I h;exact wpAny_Expr_any (iq (he pins s σ H _ I h) λv s1 x H1 I1 r1 q1=>⟨σ,H1,I1,q1⟩) I.quiet hs
noncomputable def NI(te:TE):TS:=λD σ H=>te σ H D.rt
theorem Gs(he:PE X e te):PS X (.Return (fv e) pos) (NI te):=by
 intro pins s σ H D I h;exact wpAny_Return_some (iq (he pins s σ H _ I h) λv s1 x H1 I1 r1 q1=>⟨x, σ,H1,I1,r1,q1⟩)
noncomputable def M6(c:TT)(t u:TS):TS:=λD σ H=>c σ H λb H1=>if b=true then t D σ H1 else u D σ H1
theorem LF(hc:PT X c tc)(ha:vV X a t)(hb:vV X b u):PS X (.If c a b pos) (M6 tc t u):=by
 intro pins s σ H D I h;refine wpAny_If (Pk (hc pins s σ H _ I h) λd s1 H1 I1 q1=>?_);cases d with
 | true=>exact ha pins s1 σ H1 D I1 q1
 | false=>exact hb pins s1 σ H1 D I1 q1
end
abbrev TG:=V->St->Hp->(St->Hp->Prop)->Prop
abbrev BX:=List V->St->Hp->(St->Hp->Prop)->Prop
def PG X target (t:TG) :=
 ∀ pins s(σ :St) H v u Q,Inv X pins σ H s->RelV v u->t v σ H Q ->
  TC (TM X.prog X.w) X.A (W9 target X.env u) (λ_ s'=> ∃ σ' H',Inv X pins σ' H' s'/\Q σ' H') X.xe s
def M5 X (ts:List Uh) (t:BX) :=
 ∀ pins s(σ :St) H vs us Q,Inv X pins σ H s->Vals vs us->t vs σ H Q ->
  TC (TM X.prog X.w) X.A (assignInOrder ((UI ts X.env).map (·.2)) us) (λ_ s'=> ∃ σ' H',Inv X pins σ' H' s'/\Q σ' H') X.xe s
abbrev JQ:=V->V->V->Hp->(Hp->Prop)->Prop
def oR X (t:JQ) :=
 ∀ pins s(σ :St) H o i v ov iv u Q,Inv X pins σ H s->RelV o ov->RelV i iv->RelV v u->t o i v H Q ->
  TC (TM X.prog X.w) X.A (setItem ov iv u) (λ_ s'=> ∃ H',Inv X pins σ H' s'/\Q H') X.xe s
section
variable{X:Cx}{pos:Pos}
noncomputable def fX(i:Nat):TG:=λv σ H Q=>Q (σ.set i (fv v)) H
theorem B5(hN:X.N.Nodup)(hi:X.N[i]?=fv x)(hx:Loc X.env.scope x)(hf:X.fn x=true\/X.env.scope.names.lookup x=fv .local:=by first | exact .inl rfl | exact .inr rfl | assumption):PG X (.Name x pos) (fX i):=by
 intro pins s σ H v u Q I r h;exact Zx (sD I hN hi hx r (λs' I'=>⟨_,H,I',h⟩) hf)
noncomputable def yy:BX:=λvs σ H Q=>vs=[]/\Q σ H
noncomputable def lx(t:TG)(u:BX):BX:=λvs σ H Q=> ∃ v r,vs=v::r/\t v σ H fun σ' H'=>u r σ' H' Q
theorem Ej:M5 X [] yy:=by
 intro pins s σ H vs us Q I r h;obtain⟨e,h⟩:=h;subst e;exact assignInOrder_nil ⟨σ,H,I,h⟩
theorem AM(h1:PG X e t)(h2:M5 X es u)
  (hs:(UI (e::es) X.env).map (·.2)=W9 e X.env::(UI es X.env).map (·.2):=by rfl):M5 X (e::es) (lx t u):=by
 intro pins s σ H vs us Q I r h;obtain⟨v,vr,e1,h⟩:=h;subst e1;cases r with
 | cons r rr =>
  rw[hs]
  refine assignInOrder_cons (iU (h1 pins s σ H _ _ _ I r h) λ_ s1 z9=>?_);obtain⟨σ1,H1,I1,q1⟩:=z9
  exact h2 pins s1 σ1 H1 _ _ Q I1 rr q1
noncomputable def uC(K:SV)(n:Nat)(t:BX):TG:=λv σ H Q=> ∃ a xs,v= .ref a/\fB K H a xs/\xs.length=n/\t xs σ H Q
theorem Kt{k}(hc:X.calm=true)(h:M5 X es t)
  (hn:(UI es X.env).length=n:=by rfl) (hst:(UI es X.env).findIdx? (·.1)=SU:=by rfl):PG X (.Tuple es k pos) (uC X.K n t):=by
 intro pins s σ H v u Q I r hw;obtain⟨a,xs,e1,hq,hl,hw⟩:=hw;subst e1;cases r;obtain⟨az,rv,ht,hz⟩:=I.tuple hq;refine assign_Tuple_tuple (I.ok.hd hc) ht (by simp[hn,<- hl,rv.length]) hst λh' hx=>?_;have I1:=I.kept (t':=s.toks) λb o e=>hx b o (TQ (Tu e)) e;exact h pins _ σ H xs _ Q I1 (by omega) hw
noncomputable def Po(to ti:TE)(t:JQ):TG:=λv σ H Q=>to σ H λo H1=>ti σ H1 λi H2=>t o i v H2 λH3=>Q σ H3
theorem Hq(ho:PE X o to)(hi:PE X i ti)(hs:oR X t)
  (ha: ∀ v,W9 (.Subscript o i pos) X.env v=(do
   let ov <- WW [v] (Vl o X.env)
   let iv <- WW [v,ov] (Vl i X.env)
   aag pos
   WW [v,ov,iv] (setItem ov iv v)
   release [v,ov,iv] []):=by intro _;rfl):PG X (.Subscript o i pos) (Po to ti t):=by
 intro pins s σ H v u Q I r h;rw[ha];refine SW (VA (iq (ho pins s σ H _ I h) λov s1 x H1 I1 r1 q1=>?_));refine SW (VA (iq (hi pins s1 σ H1 _ I1 q1) λiv s2 y H2 I2 r2 q2=>?_));refine SW (Za (SW (VA (iU (hs pins s2 σ H2 x y v ov iv u _ I2 r1 r2 r q2) λ_ s3 z9=>?_))));obtain⟨H3,I3,q3⟩:=z9;exact wpAny_release ⟨σ,H3,I3,q3⟩
noncomputable def D8(te:TE)(g:TG):TS:=λD σ H=>te σ H λx H1=>g x σ H1 D.nx
theorem GG(he:PE X e te)(hg:PG X tg g)(hs:Zb [tg] e pos.line X.env=pure false:=by rfl)(hw:Zc [tg] e X.env=pure SU:=by rfl)
  (h1:(UI [tg] X.env).map (·.2)=[W9 tg X.env]:=by rfl):PS X (.Assign [tg] e pos) (D8 te g):=by
 intro pins s σ H D I h;refine wpAny_Assign_stores (iq (he pins s σ H _ I h) λv s1 x H1 I1 r1 q1=>?_) hs hw;rw[h1];exact iU (hg pins s1 σ H1 x v _ I1 r1 q1) λ_ s2 q=>q
theorem J5(hN:X.N.Nodup)(hi:X.N[i]?=fv x)(hx:Loc X.env.scope x)(he:PE X e te)(hs:VY e (fv (.Name x pos')) pos.line X.env=pure false:=by rfl)(hf:X.fn x=true\/X.env.scope.names.lookup x=fv .local:=by first | exact .inl rfl | exact .inr rfl | assumption) :
  PS X (.Assign [.Name x pos'] e pos) (D8 te (fX i)):=by
 intro pins s σ H D I h;refine wpAny_Assign_Name (iq (he pins s σ H _ I h) λv s1 y H1 I1 r1 q1=>?_) hs;exact sD I1 hN hi hx r1 (λs2 I2=>⟨_,H1,I2,q1⟩) hf
end
structure It where
 go:Nat->Hp->Prop
 Ln:Nat->Hp->V->Hp->Prop
 stop:Nat->Hp->Prop
def lM(X:Cx)(pins:List (Tp × Obj))(H:Hp) b :=
 H b=SU/\b≠X.env.locals/\b ∉ X.fs/\(b∈X.ex\/X.s₀.heap.objs.size<=b)/\(∀ x c,X.env.cells.lookup x=fv c->c≠b)/\ ∀ p∈X.pn++pins,p.1≠b
theorem Inv.GY{X:Cx}{pins:List (Tp × Obj)}{σ :St}{H H':Hp}{s:Tc}{b:Tp}(I:Inv X pins σ H s)(hb:s.heap.objs.size<=b)(hn:H' b=SU):lM X pins H' b:=by
 refine⟨hn,V6 (Tf I.lt hb),I.LM hb,.inr (Ua I.sz hb),λx c e z=>?_,λp hp z=>?_⟩
 . obtain⟨v,q⟩:=I.cell x c e;exact absurd (Tf q.lt (by simp_all)) (Uq _)
 . exact absurd (Tf (Tu (I.pin p hp).1) (by simp_all)) (Uq _)
structure Turn(P:Ug)(w:Uz)(K:SV)(tg:Uh)(J:It)(fp:List Tp)(it:Tp)(tn:Nat->UU->Prop):Prop where
 mem:it∈fp
 obj: ∀ i h,tn i h-> ∀ b∈fp,∃ o,h.get? b=fv o/\ ∀ v,o.data≠ .cell v
 keep: ∀ i h h',tn i h->(∀ b∈fp,∀ o,h.get? b=fv o->h'.get? b=fv o)->tn i h'
 item: ∀(X:Cx),X.prog=P->X.w=w->X.K=K->X.calm=true-> ∀(i:Nat)(pins:List (Tp × Obj))(s:Tc)(σ :St)(H:Hp)(E:S5->Tc->Prop),Inv X pins σ H s->(∀ b∈fp,lM X pins H b)->tn i s.heap->J.go i H ->
  TC (TM P w) X.A (ZQ (.ref it)) (λr s1=> ∃ u,r=fv u /\
   TC (TM P w) X.A (Yo tg (.ref it) u) (λ_ s2=> ∃ x H',Inv X pins σ H' s2/\RelV x u/\J.Ln i H x H'/\tn (i+1) s2.heap/\ ∀ b∈fp,H' b=SU) E s1) E s
 done: ∀(X:Cx),X.prog=P->X.w=w->X.K=K->X.calm=true-> ∀(i:Nat)(pins:List (Tp × Obj))(s:Tc)(σ :St)(H:Hp)(E:S5->Tc->Prop),Inv X pins σ H s->(∀ b∈fp,lM X pins H b)->tn i s.heap->J.stop i H ->
  TC (TM P w) X.A (ZQ (.ref it)) (λr s1=>r=SU/\Inv X pins σ H s1) E s
 self: ∀(A:U5)(i:Nat)(s:Tc)(Q:S5->Tc->Prop)(E:S5->Tc->Prop),tn i s.heap->Q (.ref it) s->TC (TM P w) A (Zl (.ref it)) Q E s
abbrev TI:=St->Hp->(It->Hp->Prop)->Prop
def LR X (pins:List (Tp × Obj)) (σ :St) tg (R:It->Hp->Prop) (itv:S5) (s2:Tc) :=
 ∃(it:Tp)(fp:List Tp)(tn:Nat->UU->Prop)(J:It)(H':Hp),itv= .ref it/\Inv X pins σ H' s2/\Turn X.prog X.w X.K tg J fp it tn/\tn 0 s2.heap/\(∀ b∈fp,lM X pins H' b)/\R J H'
def PI X tg iter (wi:TI) :=
 ∀ pins s(σ :St) H R,Inv X pins σ H s->wi σ H R ->
  TC (TM X.prog X.w) X.A (Vl iter X.env) (λv s1=>TC (TM X.prog X.w) X.A (Zl v) (LR X pins σ tg R) X.xe s1) X.xe s
theorem vD{M : Model}{A : U5}{E : S5 -> Tc -> Prop}{s : Tc}{tg : Uh}{it : Tp}{u : S5}{o : Obj}{n : String}{vs : Array S5}{Q : Unit -> Tc -> Prop}(ho : s.heap.get? it = fv o)(hc : o.cls = .type n)(hd : o.data = .fields vs)
    (hn : ["enumerate", "zip", "dict_itemiterator", "dict_reverseitemiterator", "odict_iterator", "itertools.zip_longest", "itertools.pairwise"].contains n = false) (hQ : Q () s) : TC M A (Yo tg (.ref it) u) Q E s := by
  cases tg <;> first
    | exact To hQ
    | (cases u <;> first
        | exact To hQ
        | (refine SW (Wn ho ?_)
           rw [hc, hd]
           show TC M A (if (["enumerate", "zip", "dict_itemiterator", "dict_reverseitemiterator", "odict_iterator", "itertools.zip_longest", "itertools.pairwise"].contains n && vs[0]? == fv (rawInt _)) = true then _ else _) Q E s
           rw [if_neg (by intro h; rw [hn] at h; cases h)]
           exact To hQ))
noncomputable def Rm(K:SV)(a:Tp):It :=
 ⟨λi H=> ∃ xs x,gi K H a xs/\xs[i]?=fv x,λi H x H'=>H'=H/\ ∀ xs,gi K H a xs->xs[i]?=fv x,λi H=> ∃ xs,gi K H a xs/\xs.length<=i⟩
noncomputable def OY(K:SV)(a:Tp):It :=
 ⟨λi H=> ∃ xs x,fB K H a xs/\xs[i]?=fv x,λi H x H'=>H'=H/\ ∀ xs,fB K H a xs->xs[i]?=fv x,λi H=> ∃ xs,fB K H a xs/\xs.length<=i⟩
noncomputable def OR(lo:Int)(n:Nat):It:=⟨λi _=>i < n,λi H x H'=>H'=H/\x= .int (lo+i),λi _=>n<=i⟩
theorem xi{K} a it:Turn P w K tg (Rm K a) [it] it (λi h=>h.IsListIter it a i) where
 mem:=by simp
 obj:=λi h st b hb=>by
  have e:b=it:=by simpa using hb
  subst e;obtain⟨o,e,c,d⟩:=st;exact⟨o,e,λv z=>by simp_all⟩
 keep:=λi h h' st k=>st.at λo e=>k it (by simp) o e
 item:=by
  intro X hP hw hK hc i pins s σ H E I hf st hg;subst hP hw hK;obtain⟨xs,x,hq,hx⟩:=hg;obtain⟨az,rv,p,hz⟩:=I.list hq;obtain⟨u,hu,ru⟩:=rv.get hx;obtain⟨f0,f1,f2,f3,f4,f5⟩:=hf it (by simp);refine wpAny_pyNext_list_item st p.isList (x:=u) (by simpa using hu) λh' st' sb=>?_;have I1:=I.turned (t':=s.toks) (λb o hb e=>(sb.2 b hb).trans e) f0 f1 f3 f4 f5;obtain⟨o,e,c,d⟩:=id st';exact⟨u,rfl,vD (s:={ s with heap:=h'}) e c d (by decide) ⟨x,H,I1,ru,⟨rfl,λys hy=>by rw[I.Af hy hq];exact hx⟩,st',λb hb=>(hf b hb).1⟩⟩
 done:=by
  intro X hP hw hK hc i pins s σ H E I hf st hg;subst hP hw hK;obtain⟨xs,hq,hx⟩:=hg;obtain⟨az,rv,p,hz⟩:=I.list hq;obtain⟨f0,f1,f2,f3,f4,f5⟩:=hf it (by simp);have hl:=rv.length;exact wpAny_pyNext_list_end (I.ok.hd hc) st p.isList (by simp;omega) λh' eb=>⟨rfl,I.turned (t':=s.toks) (λb o hb e=>eb b o hb e) f0 f1 f3 f4 f5⟩
 self:=λ_ _ _ _ _ st h=>wpAny_pyIter_listiter st h
theorem uO{K} a it:Turn P w K tg (OY K a) [it] it (λi h=>h.IsTupleIter it a i) where
 mem:=by simp
 obj:=λi h st b hb=>by
  have e:b=it:=by simpa using hb
  subst e;obtain⟨o,e,c,d⟩:=st;exact⟨o,e,λv z=>by simp_all⟩
 keep:=λi h h' st k=>st.at λo e=>k it (by simp) o e
 item:=by
  intro X hP hw hK hc i pins s σ H E I hf st hg;subst hP hw hK;obtain⟨xs,x,hq,hx⟩:=hg;obtain⟨az,rv,p,hz⟩:=I.tuple hq;obtain⟨u,hu,ru⟩:=rv.get hx;obtain⟨f0,f1,f2,f3,f4,f5⟩:=hf it (by simp);refine wpAny_pyNext_tuple_item st (show s.heap.IsTuple a az.toArray from p) (x:=u) (by simpa using hu) λh' st' sb=>?_;have I1:=I.turned (t':=s.toks) (λb o hb e=>(sb.2 b hb).trans e) f0 f1 f3 f4 f5;obtain⟨o,e,c,d⟩:=id st';exact⟨u,rfl,vD (s:={ s with heap:=h'}) e c d (by decide) ⟨x,H,I1,ru,⟨rfl,λys hy=>by rw[I.kO hy hq];exact hx⟩,st',λb hb=>(hf b hb).1⟩⟩
 done:=by
  intro X hP hw hK hc i pins s σ H E I hf st hg;subst hP hw hK;obtain⟨xs,hq,hx⟩:=hg;obtain⟨az,rv,p,hz⟩:=I.tuple hq;obtain⟨f0,f1,f2,f3,f4,f5⟩:=hf it (by simp);have hl:=rv.length;exact wpAny_pyNext_tuple_end (I.ok.hd hc) st (show s.heap.IsTuple a az.toArray from p) (by simp;omega) λh' eb=>⟨rfl,I.turned (t':=s.toks) (λb o hb e=>eb b o hb e) f0 f1 f3 f4 f5⟩
 self:=λ_ _ _ _ _ st h=>wpAny_pyIter_tupleiter st h
theorem ud{K} it lo n:Turn P w K tg (OR lo n) [it] it (λi h=>IsRangeIter h it (lo+(i)*1) ((n) - (i)) 1) where
 mem:=by simp
 obj:=λi h st b hb=>by
  simp_all
 keep:=λi h h' st k=>k it (by simp) _ st
 item:=by
  intro X hP hw hK hc i pins s σ H E I hf st hg;subst hP hw hK;obtain⟨f0,f1,f2,f3,f4,f5⟩:=hf it (by simp);have W:=Walks.range (prog:=X.prog) (w:=X.w) (I.ok.hd hc) it lo 1 n;refine W.item i s _ _ hg st λv h' tk hv st' kk=>?_;obtain⟨t,rfl⟩:=hv;have I1:Inv X pins σ H { s with heap:=h',toks:=tk}:=I.turned (λb o hb e=>kk b o (by simpa using hb) e) f0 f1 f3 f4 f5;refine⟨_,rfl,vD (s:={ s with heap:=h',toks:=tk}) (n:= "range_iterator") st' rfl rfl (by decide) ⟨.int (lo+i),H,I1,⟨t,?_⟩,⟨rfl,rfl⟩,st',λb hb=>(hf b hb).1⟩⟩;rw[Int.mul_one]
 done:=by
  intro X hP hw hK hc i pins s σ H E I hf st hg;obtain⟨f0,f1,f2,f3,f4,f5⟩:=hf it (by simp);exact wpAny_pyNext_range_end (I.ok.hd hc) st (by have:n<=i:=hg;omega) λh' eb=>⟨rfl,I.turned (t':=s.toks) (λb o hb e=>eb b o hb e) f0 f1 f3 f4 f5⟩
 self:=λ_ _ _ _ _ st h=>wpAny_pyIter_rangeiter st h
section
variable{X:Cx}{tg:Uh}
theorem zT{pins:List (Tp × Obj)}{σ :St}{H:Hp}{s:Tc}{R:It->Hp->Prop}{E:S5->Tc->Prop}{lo hi:Int}{t u v:Tok}{tk:Nat}(I:Inv X pins σ H s)(h1: -(2 ^ 62)<=lo)(h2:lo < 2 ^ 62)(h3: -(2 ^ 62)<=hi)(h4:hi < 2 ^ 62)
  (q:R (OR lo (hi - lo).toNat) H):TC (TM X.prog X.w) X.A (Zl (.ref s.heap.objs.size)) (LR X pins σ tg R) E { s with heap:=s.heap.push { cls:= .type "range",data:= .fields #[.int lo t,.int hi u,.int 1 v]},toks:=tk}:=by
 refine wpAny_pyIter_range (IsRange.new ..) (small_one h1 h2 h3 h4) ?_;have I1:Inv X pins σ H { s with heap:=s.heap.push { cls:= .type "range",data:= .fields #[.int lo t,.int hi u,.int 1 v]},toks:=tk}:=I.kept λb o e=>S0 _ e;refine⟨(s.heap.push { cls:= .type "range",data:= .fields #[.int lo t,.int hi u,.int 1 v]}).objs.size,[(s.heap.push { cls:= .type "range",data:= .fields #[.int lo t,.int hi u,.int 1 v]}).objs.size],_,_,H,rfl,
  I1.kept (t':=tk) λb o e=>S0 _ e,ud _ lo (hi - lo).toNat,?_,λb hb=>?_,q⟩
 . have e1:lo+((0:Nat))*1=lo:=by simp
   have e2:(((hi - lo).toNat)) - ((0:Nat))=Builtin.Range.rangeSize lo hi 1:=by rw[rangeSize_one];split<;>omega
   rw[e1,e2];exact Tr _ rfl
 . have e:b=(s.heap.push { cls:= .type "range",data:= .fields #[.int lo t,.int hi u,.int 1 v]}).objs.size:=by simpa using hb
   subst e;exact I1.GY (Te _) (I1.bL.fresh (Te _))
def Mb(ta:TA):TI:=fun σ H R=>ta σ H λvs H1=> ∃ j ,vs=[.int j]/\ -(2 ^ 62)<=j/\j < 2 ^ 62/\R (OR 0 j.toNat) H1
theorem xK(hg:Gl X "range")(hm:X.mg "range" =SU)(ha:PA X [a] ta)(hs:Ue [a] X.env=[(false,Vl a X.env)]:=by rfl):PI X tg (.Call (.Name "range" p) [a] [] pos) (Mb ta):=by
 intro pins s σ H R I h;refine Call_ (jA I hg hm boot_range (Vo (Eo (ha pos pins s σ H _ I h) λus s1 vs H1 I1 r1 q1=>?_) hs rfl));obtain⟨j,e,q1,q2,q⟩:=q1;subst e;cases r1 with
 | cons r rr =>
  cases rr
  obtain⟨t,rfl⟩:=r
  exact call_range_1 (zT I1 (by omega) (by omega) q1 q2 (by simpa using q))
noncomputable def Me(wi:TI)(g:TG)(tb:TS):TS:=λD σ H=>wi σ H λJ H1=> ∃ W:Nat->Nat->St->Hp->Prop,(∃ m,W 0 m σ H1)/\ ∀ i m σ H,W i m σ H ->
 (J.stop i H/\D.nx σ H)\/(J.go i H/\ ∃ N ,(∀ σ' H',N σ' H'-> ∃ m',m' < m/\W (i+1) m' σ' H')/\ ∀ x H',J.Ln i H x H'->g x σ H' fun σ2 H2=>tb { D with nx:=N,ct:=N,bk:=D.nx} σ2 H2)
noncomputable def qq(fp:List Tp)(h:UU):=fp.filterMap λb=>(h.get? b).map λo=>(b,o)
theorem eP(hb:b∈fp)(e:h.get? b=fv o):(b,o)∈qq fp h:=Zm.mpr ⟨b,hb,by rw[e];rfl⟩
theorem xZ(hp:p∈qq fp h):p.1∈fp/\h.get? p.1=fv p.2:=by
 obtain⟨b,hb,e⟩:=Zm.mp hp;cases q:h.get? b with
 | none=>simp_all
 | some o =>
  rw[q] at e
  have e':=Ud e
  subst e'
  exact⟨hb,q⟩
theorem Inv.pinned{σ :St}(I:Inv X pins σ H s)(hf: ∀ b∈fp,lM X pins H b)(ho: ∀ b∈fp,∃ o,s.heap.get? b=fv o/\ ∀ v,o.data≠ .cell v):Inv X (pins++qq fp s.heap) σ H s :=
 I.iT λp hp=>(Tt.mp hp).elim (λz=>I.pin p (TH _ z)) λz=>by
  obtain⟨hb,e⟩:=xZ z;obtain⟨f0,f1,f2,_⟩:=hf p.1 hb;obtain⟨o,e',d⟩:=ho p.1 hb;rw[e] at e';cases e';exact⟨e,f0,f1,f2,d⟩
theorem Inv.mT{σ :St}(I:Inv X (pins++pl) σ H s):Inv X pins σ H s:=I.iT λp hp=>I.pin p (TH _ (V3 _ hp))
theorem IP(hp:PassesOwn (TM X.prog X.w) X.A X.env X.xe)(hc:X.calm=true)(hi:PI X tg iter wi)(hg:PG X tg g)(hb:vV X body tb)
  (hs: ∀ x,Ul iter X.env x=pure x:=by intro _;rfl):PS X (.For tg iter body [] pos) (Me wi g tb):=by
 intro pins s σ H D I h;refine wpAny_For (iU (hi pins s σ H _ I h) λv s1 h1=>iU h1 λitv s2 h2=>?_) hs;obtain ⟨it,fp,tn,J,H2,e,I2,T,st2,f2,W,⟨m0,w0⟩,turn⟩:=h2;subst e;have stat: ∀{H':Hp},(∀ b∈fp,H' b=SU)-> ∀ b∈fp,lM X pins H' b:=λhn b hb=>⟨hn b hb,(f2 b hb).2⟩
 refine codeAny_forLoop_any (λn s'=> ∃ i σ' H',Inv X pins σ' H' s'∧tn i s'.heap∧(∀ b∈fp,H' b=SU)∧W i n σ' H') ?_ m0 ⟨0, σ,H2,I2,st2,λb hb=>(f2 b hb).1,w0⟩;rintro n s3 ⟨i, σ3,H3,I3,st3,fr3,w3⟩;rcases turn i n σ3 H3 w3 with ⟨stop,qn⟩ | ⟨go,N,hN,step⟩
 . refine Wm hp (iU (T.done X rfl rfl rfl hc i pins s3 σ3 H3 X.xe I3 (stat fr3) st3 stop) λr s4 z9=>?_);obtain ⟨hr,I4⟩:=z9;subst hr;exact Yn ⟨σ3,H3,I4,qn⟩
 . refine Wm hp (iU (T.item X rfl rfl rfl hc i pins s3 σ3 H3 X.xe I3 (stat fr3) st3 go) λr s4 z9=>?_);obtain⟨u,hr,h4⟩:=z9;subst hr;refine Wm hp (iU h4 λ_ s5 z9=>?_);obtain⟨x,H5,I5,r5,y5,st5,fr5⟩:=z9;have I5':=I5.pinned (stat fr5) (T.obj _ _ st5);refine Wm hp (iU (hg _ s5 σ3 H5 x u _ I5' r5 (step x H5 y5)) λ_ s6 z9=>?_);obtain⟨σ6,H6,I6,q6⟩:=z9;refine Wm hp (iU (hb _ s6 σ6 H6 _ I6 q6) λf s7 q7=>?_);have again: ∀{σ7:St}{H7:Hp},Inv X (pins++qq fp s5.heap) σ7 H7 s7->N σ7 H7-> ∃ m,m < n∧ ∃ i σ' H',Inv X pins σ' H' s7∧tn i s7.heap∧(∀ b∈fp,H' b=SU)∧W i m σ' H':=λ{σ7 H7} I7 n7=>by
    obtain ⟨m',hm,w7⟩:=hN σ7 H7 n7;refine ⟨m',hm,i+1, σ7,H7,I7.mT,T.keep _ _ _ st5 λb hb o e=>(I7.pin (b,o) (TH _ (TH _ (eP hb e)))).1,λb hb=>?_,w7⟩;obtain ⟨o,e,d⟩:=T.obj _ _ st5 b hb;exact (I7.pin (b,o) (TH _ (TH _ (eP hb e)))).2.1
   cases f with
   | next=>obtain ⟨σ7,H7,I7,n7⟩:=q7;exact again I7 n7
   | cont=>obtain ⟨σ7,H7,I7,n7⟩:=q7;exact again I7 n7
   | brk=>obtain ⟨σ7,H7,I7,q7⟩:=q7;exact ⟨σ7,H7,I7.mT,q7⟩
   | ret v=>obtain ⟨x7, σ7,H7,I7,r7,q7⟩:=q7;exact ⟨x7, σ7,H7,I7.mT,r7,q7⟩
end
abbrev R2:=V->V->Hp->VK->Prop
def cG X (f:S5->S5->Sem S5) (r:R2) :=
 ∀ pins s(σ :St) H x y v u Q,Inv X pins σ H s->RelV x v->RelV y u->r x y H Q ->
  TC (TM X.prog X.w) X.A (f v u) (EP X pins σ Q) X.xe s
def Lq(X:Cx)(f:S5->Sem S5)(r:V->Hp->VK->Prop):Prop :=
 ∀(pins:List (Tp × Obj))(s:Tc)(σ :St)(H:Hp)(x:V)(v:S5)(Q:VK),Inv X pins σ H s->RelV x v->r x H Q ->
  TC (TM X.prog X.w) X.A (f v) (EP X pins σ Q) X.xe s
def bO X (f:S5) (r:List V->Hp->VK->Prop) :=
 ∀ pins s(σ :St) H xs us Q,Inv X pins σ H s->Vals xs us->r xs H Q ->
  TC (TM X.prog X.w) X.A (call f us) (EP X pins σ Q) X.xe s
noncomputable def DC(r:R2)(ta tb:TE):TE:=fun σ H Q=>ta σ H λx H1=>tb σ H1 λy H2=>r x y H2 Q
noncomputable def R8(r:V->Hp->VK->Prop)(ta:TE):TE:=fun σ H Q=>ta σ H λx H1=>r x H1 Q
noncomputable def rI(C:Int->Int->Prop)(g:Int->Int->V):R2:=λx y H Q=> ∃ i j,x= .int i/\y= .int j/\C i j/\Q (g i j) H
noncomputable def BY(g:Int->Int->V):R2:=λx y H Q=> ∃ i j,x= .int i/\y= .int j/\Q (g i j) H
def rU(g:Int->V):V->Hp->VK->Prop:=λx H Q=> ∃ i,x= .int i/\Q (g i) H
section
variable{X:Cx}{a b c:Uh}{ta tb tc:TE}{pos:Pos}
theorem JK(ha:PE X a ta)(hb:PE X b tb){σ :St}{R:V->V->Hp->Prop}(I:Inv X pins σ H s)
  (h:ta σ H λx H1=>tb σ H1 λy H2=>R x y H2) {f:S5->S5->Sem S5}
  (hf: ∀ v u s2 x y H2,Inv X pins σ H2 s2->RelV x v->RelV y u->R x y H2->TC (TM X.prog X.w) X.A (f v u) Q X.xe s2) :
  TC (TM X.prog X.w) X.A (Vl a X.env) (λv s₁ =>TC (TM X.prog X.w) X.A (Vl b X.env) (λu s₂ =>TC (TM X.prog X.w) X.A (f v u) Q X.xe s₂) X.xe s₁) X.xe s:=by
 refine iq (ha pins s σ H _ I h) λv s1 x H1 I1 r1 q1=>?_;refine iq (hb pins s1 σ H1 _ I1 q1) λu s2 y H2 I2 r2 q2=>?_;exact hf v u s2 x y H2 I2 r1 r2 q2
theorem Ms(ho:cG X (UP op) r)(ha:PE X a ta)(hb:PE X b tb):PE X (.BinOp a op b pos) (DC r ta tb):=by
 intro pins s σ H Q I h;exact wpAny_BinOp (JK ha hb I h λv u s2 x y H2 I2 rx ry q=>ho pins s2 σ H2 x y v u Q I2 rx ry q)
theorem Oe{op:UnaryOp}{r:V->Hp->VK->Prop}(ho:Lq X (aah op) r)(ha:PE X a ta):PE X (.UnaryOp op a pos) (R8 r ta):=by
 intro pins s σ H Q I h;exact UnaryOp_ (iU (ha pins s σ H _ I h) λv s1 ⟨x,H1,I1,r1,q1⟩=>ho pins s1 σ H1 x v Q I1 r1 q1)
theorem O7{f:S5->S5->Sem S5}{C:Int->Int->Prop}{g:Int->Int->Int}
  (rule: ∀(i j:Int)(t u:Tok)(s:Tc)(Q:S5->Tc->Prop)(E:S5->Tc->Prop),C i j->Q (.int (g i j) s.toks) { s with toks:=s.toks+1}->TC (TM X.prog X.w) X.A (f (.int i t) (.int j u)) Q E s) :
  cG X f (rI C λi j=> .int (g i j)):=by
 intro pins s σ H x y v u Q I rx ry h;obtain⟨i,j,rfl,rfl,hc,q⟩:=h;obtain⟨t,rfl⟩:=rx;obtain⟨t',rfl⟩:=ry;exact rule i j t t' s _ _ hc ⟨.int (g i j),H,I.tok _,⟨_,rfl⟩,q⟩
theorem Oa{f:S5->S5->Sem S5}{g:Int->Int->Int}
  (rule: ∀(i j:Int)(t u:Tok)(s:Tc)(Q:S5->Tc->Prop)(E:S5->Tc->Prop),Q (.int (g i j) s.toks) { s with toks:=s.toks+1}->TC (TM X.prog X.w) X.A (f (.int i t) (.int j u)) Q E s) :
  cG X f (BY λi j=> .int (g i j)):=by
 intro pins s σ H x y v u Q I rx ry h;obtain⟨i,j,rfl,rfl,q⟩:=h;obtain⟨t,rfl⟩:=rx;obtain⟨t',rfl⟩:=ry;exact rule i j t t' s _ _ ⟨.int (g i j),H,I.tok _,⟨_,rfl⟩,q⟩
theorem Ci{f:S5->S5->Sem S5}{g:Int->Int->Bool}
  (rule: ∀(i j:Int)(t u:Tok)(s:Tc)(Q:S5->Tc->Prop)(E:S5->Tc->Prop),Q (.bool (g i j)) s->TC (TM X.prog X.w) X.A (f (.int i t) (.int j u)) Q E s) :
  cG X f (BY λi j=> .bl (g i j)):=by
 intro pins s σ H x y v u Q I rx ry h;obtain⟨i,j,rfl,rfl,q⟩:=h;obtain⟨t,rfl⟩:=rx;obtain⟨t',rfl⟩:=ry;exact rule i j t t' s _ _ ⟨.bl (g i j),H,I,rfl,q⟩
def Rn(i j:Int):=0<=j/\j<=1000000/\i.natAbs < 2 ^ 64
def IY i j:=(-(2 ^ 64) < i/\i < 2 ^ 64)\/(-(2 ^ 64) < j/\j < 2 ^ 64)
theorem IY.ok(h:IY i j):IntMulOk i j:=by
 rcases h with⟨h1,h2⟩ | ⟨h1,h2⟩
 . exact .of_left (intBits_le_64 h1 h2)
 . exact .of_right (intBits_le_64 h1 h2)
theorem GN:cG X (UP .Add) (BY λi j=> .int (i+j)):=Oa λ_ _ _ _ _ _ _ q=>add_int q
theorem G6:cG X (UP .Sub) (BY λi j=> .int (i - j)):=Oa λ_ _ _ _ _ _ _ q=>sub_int q
theorem Gv:cG X (UP .Mult) (rI IY λi j=> .int (i*j)):=O7 λ_ _ _ _ _ _ _ hc q=>mul_int q hc.ok
theorem Jf:cG X (UP .Mod) (rI (λ_ j=>0 < j) λi j=> .int (i % j)):=O7 λi j _ _ _ _ _ hc q=>by
 exact mod_int' (by omega) (by rw[Int.fmod_eq_emod_of_nonneg i (by omega)];exact q)
theorem Iy:cG X (UP .Pow) (rI Rn λi j=> .int (i ^ j.toNat)):=O7 λ_ _ _ _ _ _ _ hc q=>pow_int_small hc.1 hc.2.1 hc.2.2 q
theorem Sv{f:S5->Sem S5}{g:Int->Int}
  (rule: ∀(i:Int)(t:Tok)(s:Tc)(Q:S5->Tc->Prop)(E:S5->Tc->Prop),Q (.int (g i) s.toks) { s with toks:=s.toks+1}->TC (TM X.prog X.w) X.A (f (.int i t)) Q E s) :
  Lq X f (rU λi=> .int (g i)):=by
 intro pins s σ H x v Q I rx h;obtain⟨i,rfl,q⟩:=h;obtain⟨t,rfl⟩:=rx;exact rule i t s _ _ ⟨.int (g i),H,I.tok _,⟨_,rfl⟩,q⟩
theorem Kq:Lq X (aah .USub) (rU λi=> .int (-i)):=Sv λ_ _ _ _ _ q=>neg_int q
end
noncomputable def DD:V->V->Bool
 | .non,.non=>true | .non,.int _=>true | .int _,.non=>true | .non,.bl _=>true | .bl _,.non=>true | .non,.str _=>true | .str _,.non=>true
 | .int _,.int _=>true | .bl _,.bl _=>true | .str _,.str _=>true | .byt _,.byt _=>true
 | .int _,.str _=>true | .str _,.int _=>true | .bl _,.str _=>true | .str _,.bl _=>true
 | _,_=>false
def SM:R2:=λx y H Q=>DD x y=true/\Q (.bl (decide (x=y))) H
def SD:R2:=λx y H Q=>DD x y=true/\Q (.bl (!decide (x=y))) H
theorem wC:decide (V.int i=V.int j)=(i == j):=by
 rw[WR];simp
theorem Bg:decide (V.bl i=V.bl j)=(i == j):=by
 rw[WR];simp
theorem wj:decide (V.str i=V.str j)=(i == j):=by
 rw[WR];simp
theorem wt:decide (V.byt i=V.byt j)=(i.toList == j.toList):=by
 rw[WR];cases i;cases j;simp
section
variable{X:Cx}{a b c:Uh}{ta tb tc:TE}{pos:Pos}
theorem bf{pins:List (Tp × Obj)}{σ :St}{H:Hp}{s:Tc}{Q:VK}{k k':Bool}(I:Inv X pins σ H s)(q:Q (.bl k) H)(e:k=k'):EP X pins σ Q (.bool k') s:=by
 subst e;exact⟨.bl k,H,I,rfl,q⟩
theorem Nj:cG X (Tw .Eq) SM:=by
 intro pins s σ H x y v u Q I rx ry h;obtain⟨hs,q⟩:=h;cases x with
 | non =>
  cases rx
  cases y with
  | non=>cases ry;exact PySem.EqNone.eq_none_none (bf I q (by simp))
  | bl j=>cases ry;exact PySem.EqNone.eq_none_bool (bf I q (by simp))
  | int j=>obtain⟨t',rfl⟩:=ry;exact PySem.EqNone.eq_none_int (bf I q (by simp))
  | str j=>obtain⟨t',rfl⟩:=ry;exact PySem.EqNone.eq_none_str (bf I q (by simp))
  | _=>exact absurd (show false=true from hs) Tn
 | bl i =>
  cases rx
  cases y with
  | non=>cases ry;exact PySem.EqNone.eq_bool_none (bf I q (by simp))
  | bl j=>cases ry;exact eq_bool (bf I q Bg)
  | str j=>obtain⟨t',rfl⟩:=ry;exact PySem.EqMixed.eq_bool_str (bf I q (by simp))
  | _=>exact absurd (show false=true from hs) Tn
 | int i =>
  obtain⟨t,rfl⟩:=rx
  cases y with
  | non=>cases ry;exact PySem.EqNone.eq_int_none (bf I q (by simp))
  | int j=>obtain⟨t',rfl⟩:=ry;exact eq_int (bf I q wC)
  | str j=>obtain⟨t',rfl⟩:=ry;exact PySem.EqMixed.eq_int_str (bf I q (by simp))
  | _=>exact absurd (show false=true from hs) Tn
 | str i =>
  obtain⟨t,rfl⟩:=rx
  cases y with
  | non=>cases ry;exact PySem.EqNone.eq_str_none (bf I q (by simp))
  | bl j=>cases ry;exact PySem.EqMixed.eq_str_bool (bf I q (by simp))
  | int j=>obtain⟨t',rfl⟩:=ry;exact PySem.EqMixed.eq_str_int (bf I q (by simp))
  | str j=>obtain⟨t',rfl⟩:=ry;exact eq_str (bf I q wj)
  | _=>exact absurd (show false=true from hs) Tn
 | byt i =>
  obtain⟨t,rfl⟩:=rx
  cases y with
  | byt j=>obtain⟨t',rfl⟩:=ry;exact PySem.W.eq_bytes (bf I q wt)
  | _=>exact absurd (show false=true from hs) Tn
 | _=>cases y<;>exact absurd (show false=true from hs) Tn
theorem L6:cG X (Tw .NotEq) SD:=by
 intro pins s σ H x y v u Q I rx ry h;obtain⟨hs,q⟩:=h;cases x with
 | non =>
  cases rx
  cases y with
  | non=>cases ry;exact PySem.EqNone.ne_none_none (bf I q (by simp))
  | bl j=>cases ry;exact PySem.EqNone.ne_none_bool (bf I q (by simp))
  | int j=>obtain⟨t',rfl⟩:=ry;exact PySem.EqNone.ne_none_int (bf I q (by simp))
  | str j=>obtain⟨t',rfl⟩:=ry;exact PySem.EqNone.ne_none_str (bf I q (by simp))
  | _=>exact absurd (show false=true from hs) Tn
 | bl i =>
  cases rx
  cases y with
  | non=>cases ry;exact PySem.EqNone.ne_bool_none (bf I q (by simp))
  | bl j=>cases ry;exact ne_bool (bf I q (congrArg not Bg))
  | str j=>obtain⟨t',rfl⟩:=ry;exact PySem.EqMixed.ne_bool_str (bf I q (by simp))
  | _=>exact absurd (show false=true from hs) Tn
 | int i =>
  obtain⟨t,rfl⟩:=rx
  cases y with
  | non=>cases ry;exact PySem.EqNone.ne_int_none (bf I q (by simp))
  | int j=>obtain⟨t',rfl⟩:=ry;exact ne_int (bf I q (congrArg not wC))
  | str j=>obtain⟨t',rfl⟩:=ry;exact PySem.EqMixed.ne_int_str (bf I q (by simp))
  | _=>exact absurd (show false=true from hs) Tn
 | str i =>
  obtain⟨t,rfl⟩:=rx
  cases y with
  | non=>cases ry;exact PySem.EqNone.ne_str_none (bf I q (by simp))
  | bl j=>cases ry;exact PySem.EqMixed.ne_str_bool (bf I q (by simp))
  | int j=>obtain⟨t',rfl⟩:=ry;exact PySem.EqMixed.ne_str_int (bf I q (by simp))
  | str j=>obtain⟨t',rfl⟩:=ry;exact ne_str (bf I q (congrArg not wj))
  | _=>exact absurd (show false=true from hs) Tn
 | byt i =>
  obtain⟨t,rfl⟩:=rx
  cases y with
  | byt j=>obtain⟨t',rfl⟩:=ry;exact PySem.W.ne_bytes (bf I q (congrArg not wt))
  | _=>exact absurd (show false=true from hs) Tn
 | _=>cases y<;>exact absurd (show false=true from hs) Tn
theorem NA:cG X (Tw .Lt) (BY λi j=> .bl (decide (i < j))):=Ci λ_ _ _ _ _ _ _ q=>lt_int q
theorem M4:cG X (Tw .LtE) (BY λi j=> .bl (decide (i<=j))):=Ci λ_ _ _ _ _ _ _ q=>le_int q
theorem N9:cG X (Tw .Gt) (BY λi j=> .bl (decide (j < i))):=Ci λ_ _ _ _ _ _ _ q=>gt_int q
theorem LN:cG X (Tw .GtE) (BY λi j=> .bl (decide (j<=i))):=Ci λ_ _ _ _ _ _ _ q=>ge_int q
theorem yg:cG X (Tw .In) (λx y H Q=> ∃ i j,x= .str i/\y= .str j/\Q (.bl (!(UG j i 0 j.length 1).isEmpty)) H):=by
 intro pins s σ H x y v u Q I rx ry h;obtain⟨i,j,rfl,rfl,q⟩:=h;obtain⟨t,rfl⟩:=rx;obtain⟨t',rfl⟩:=ry;exact in_str (bf I q rfl)
theorem cG.or(h:cG X f r)(h':cG X f r'):cG X f (λx y H Q=>r x y H Q\/r' x y H Q):=by
 intro pins s σ H x y v u Q I rx ry q;rcases q with q | q
 . exact h pins s σ H x y v u Q I rx ry q
 . exact h' pins s σ H x y v u Q I rx ry q
theorem zV b (h:op≠ .In:=by decide) (h2:op≠ .NotIn:=by decide):Ur op b=false:=by
 have e1:(op == CmpOp.In)=false:=by simp_all
 have e2:(op == CmpOp.NotIn)=false:=by simp_all
 cases b<;>simp[Ur,e1,e2]
theorem Cb(ho:cG X (Tw op) r)(ha:PE X a ta)(hb:PE X b tb)(hm:Ur op b=false):PE X (.Compare a [op] [b] pos) (DC r ta tb):=by
 intro pins s σ H Q I h;exact wpAny_Compare1 (JK ha hb I h λv u s2 x y H2 I2 rx ry q=>ho pins s2 σ H2 x y v u Q I2 rx ry q) hm
noncomputable def tQ(t:TE):TT:=fun σ H Q=>t σ H λx H'=> ∃ k,x= .bl k/\Q k H'
theorem DG(ho:cG X (Tw op) r)(ha:PE X a ta)(hb:PE X b tb)(hm:Ur op b=false):PT X (.Compare a [op] [b] pos) (tQ (DC r ta tb)):=by
 intro pins s σ H Q I h;refine Yt (iq (ha pins s σ H _ I h) λv s1 x H1 I1 r1 q1=>iq (hb pins s1 σ H1 _ I1 q1) λu s2 y H2 I2 r2 q2 =>
  iq (ho pins s2 σ H2 x y v u _ I2 r1 r2 q2) λc s3 z H3 I3 r3 ⟨k,e,q3⟩=>?_) hm
 subst e;cases r3;exact Uo ⟨H3,I3,q3⟩
noncomputable def mU(r r':R2)(ta tb tc:TE):TE:=fun σ H Q=>ta σ H λx H1=>tb σ H1 λy H2=>r x y H2 λz H3=> ∃ k,z= .bl k /\
 (if k=true then tc σ H3 λw' H4=>r' y w' H4 Q else Q (.bl false) H3)
theorem AR(ho:cG X (Tw op) r)(ho':cG X (Tw op') r')(ha:PE X a ta)(hb:PE X b tb)(hc:PE X c tc)
  (hm:XF [op,op'] [b,c]=false:=by with_unfolding_all rfl):PE X (.Compare a [op,op'] [b,c] pos) (mU r r' ta tb tc):=by
 intro pins s σ H Q I h;refine Compare_chain (iq (ha pins s σ H _ I h) λv s1 x H1 I1 r1 q1=>chain_link (iq (hb pins s1 σ H1 _ I1 q1) λu s2 y H2 I2 r2 q2 =>
  iq (ho pins s2 σ H2 x y v u _ I2 r1 r2 q2) λd s3 z H3 I3 r3 ⟨k,e,q3⟩=>?_)) hm
 subst e;cases r3;refine Uo ?_;cases k with
 | false=>exact ite_ff ⟨.bl false,H3,I3,rfl,q3⟩
 | true=>exact ite_tt (chain_last (iq (hc pins s3 σ H3 _ I3 q3) λw' s4 z' H4 I4 r4 q4=>ho' pins s4 σ H4 y z' u w' Q I4 r2 r4 q4))
theorem A6{op op':CmpOp}{r r':R2}(ho:cG X (Tw op) r)(ho':cG X (Tw op') r')(ha:PE X a ta)(hb:PE X b tb)(hc:PE X c tc)
  (hm:XF [op,op'] [b,c]=false:=by with_unfolding_all rfl):PT X (.Compare a [op,op'] [b,c] pos) (tQ (mU r r' ta tb tc)):=by
 intro pins s σ H Q I h;refine isTrue_chain (iU (ha pins s σ H _ I h) λv s1 ⟨x,H1,I1,r1,q1⟩=>test_link (iU (hb pins s1 σ H1 _ I1 q1) λu s2 ⟨y,H2,I2,r2,q2⟩ =>
  iU (ho pins s2 σ H2 x y v u _ I2 r1 r2 q2) λd s3 ⟨z,H3,I3,r3,k,e,q3⟩=>?_)) hm
 subst e;cases r3;refine Uo ?_;cases k with
 | false =>
  obtain⟨k',e',q'⟩:=q3
  cases e'
  exact ite_ff ⟨H3,I3,q'⟩
 | true =>
  refine ite_tt (test_last (iU (hc pins s3 σ H3 _ I3 q3) λw' s4 ⟨z',H4,I4,r4,q4⟩=>iU (ho' pins s4 σ H4 y z' u w' _ I4 r2 r4 q4) λd' s5 ⟨z2,H5,I5,r5,k2,e2,q5⟩=>?_))
  subst e2
  cases r5
  exact Uo ⟨H5,I5,q5⟩
theorem ku:(Ta) < 2 ^ 63:=by decide
theorem vals1(r:Vals [x] us): ∃ u,us=[u]/\RelV x u:=by
 cases r with
 | cons r1 r2=>cases r2;exact⟨_,rfl,r1⟩
theorem vals2(r:Vals [x,y] us): ∃ u w',us=[u,w']/\RelV x u/\RelV y w':=by
 cases r with
 | cons r1 r2 =>
  cases r2 with
  | cons r3 r4=>cases r4;exact⟨_,_,rfl,r1,r3⟩
end
structure Ip(h:UU)(x dx C:Tp)(mA:Str->Option S5):Prop where
 obj:h.get? x=fv (Vx C dx)
 ns:h.Ns1 dx mA
 ne:dx≠x
theorem xW{h:UU}(n:h.Ns1 dx mA): ∃ od,h.get? dx=fv od/\ ∀ name,YD name od=fv (mA name):=by
 obtain⟨o,es,ep,ho,hd,hk,_,hm⟩:=n;refine⟨o,ho,λname=>?_⟩;have e:=hm name;unfold nsFind findBy at e;rw[<- Array.find?_toList] at e;unfold YD;rw[hd];dsimp only;split
 . rename_i y q;rw[q] at e;exact congrArg fv e
 . rename_i q;rw[q] at e;have a:es.toList.any (·.refKey)=false:=by
    rw[List.any_eq_false];intro y hy;obtain⟨z,t,hkey⟩:=hk y (Array.mem_toList_iff.mp hy);simp[DictEntry.refKey,hkey]
   have a': ¬ es.toList.any (·.refKey)=true:=by rw[a];exact Tn
   rw[if_neg a'];exact congrArg fv e
theorem Ip.look(I:Ip h x dx C mA): ∃ od,PySem.W.InstAt h x (Vx C dx) C (fv od)/\ ∀ name,YD name od=fv (mA name) :=
 by obtain⟨od,ho,hl⟩:=xW I.ns;exact⟨od,⟨I.obj,rfl,rfl,ho⟩,hl⟩
theorem jT.some_of(r:jT (fv v) o): ∃ u,o=fv u/\RelV v u:=by
 cases o with
 | none=>exact(show False from r).elim
 | some u=>exact⟨u,rfl,r⟩
section
variable{P:Ug}{w:Uz}{H H':Hp}{h h':UU}{a C dx:Tp}{fs fs':List (Str × V)}
theorem DT(bL:jM P w H h)(e:H a=fv (.ins C dx fs)): ∃ mA,Ip h a dx C mA/\(∀ f,jT (fs.lookup f) (mA f))/\aau mA (fs.map (·.1))/\fs.length<=1000/\H dx=fv (.own a):=by
 obtain⟨d,z,ne,ob,mA,n,r,q⟩:=(show bF P w H h a (.ins C dx fs) from bL a _ e)
 exact⟨mA,⟨ob,n,ne⟩,r,q,z,d⟩
end
structure Rk(K:SV)(C:Tp):Prop where
 pg:ZR K C Str.empty=true
 hd:PySem.W.hasDictIn K C=true
 po:PySem.W.plainOver K C=true
 sa:Wv K (.ref C) "__setattr__" =fv (fv (.builtin "object.__setattr__"))
theorem Rk.get{K}(c:Rk K C) f:ZR K C f=true:=c.pg
structure SR(K:SV)(C:Tp)(f:Str)(v:V)(u:S5):Prop where
 at_:Wv K (.ref C) f=fv (fv u)
 rel:RelV v u
 get:Zy K u "__get__" =fv SU
 cp:PySem.W.copiedNames.contains f=false
structure Meth(K:SV)(C:Tp)(m:Str)(f:Tp):Prop where
 at_:Wv K (.ref C) m=fv (fv (.ref f))
 fn:aaw K (.ref f)=true
 kp:VE K (.ref f)=true
section
variable{X:Cx}{pins:List (Tp × Obj)}{σ :St}{H:Hp}{s:Tc}{a C dx:Tp}{fs:List (Str × V)}{f:Str}{v:V}{A:U5}{E:S5->Tc->Prop}
theorem Inv.made(I:Inv X pins σ H s):Inv X pins σ (upd (upd H s.heap.objs.size (.own (s.heap.objs.size+1))) (s.heap.objs.size+1) (.ins C s.heap.objs.size []))
  { s with heap:=(s.heap.push U7).push (Vx C s.heap.objs.size)}:=by
 have e1:(s.heap.push U7).get? s.heap.objs.size=fv U7:=Tr s.heap rfl;have e2:((s.heap.push U7).push (Vx C s.heap.objs.size)).get? (s.heap.objs.size+1)=fv (Vx C s.heap.objs.size):=by
  have:=Tr (s.heap.push U7) (o:=Vx C s.heap.objs.size) rfl
  rwa [UA] at this
 have e3:(s.heap.push U7).Ns s.heap.objs.size (λ_=>SU):=⟨U7, #[],_,e1,rfl,(λe he=>absurd he (by simp)),λ_=>rfl⟩
 have I1:=I.laid (a:=s.heap.objs.size) (o:= .own (s.heap.objs.size+1)) (h':=s.heap.push U7) (t':=s.toks) (λb u q=>S0 _ q) (Te _) ⟨_,e1⟩;refine I1.laid (a:=s.heap.objs.size+1) (o:= .ins C s.heap.objs.size []) (t':=s.toks) (λb u q=>S0 _ q) (Nat.le_of_eq (UA _ _)) ?_;have ne:s.heap.objs.size≠s.heap.objs.size+1:=TQ (XG _);refine⟨by rw[aT ne,bH],U2 _,ne,e2,λ_=>SU,(Heap.Ns1.of_empty e3).at λo q=>S0 _ q,λ_=>Vr,λy hy=>absurd rfl hy⟩
end
section
variable{X:Cx}{pins:List (Tp × Obj)}{σ :St}{H:Hp}{s:Tc}{A:U5}{E:S5->Tc->Prop}{Q:S5->Tc->Prop}{c:S5}{b:Bool}
inductive jc(K:SV)(H:Hp):V->S5->Prop where
 | non:jc K H .non (.type "NoneType")
 | bl (x:Bool):jc K H (.bl x) (.type "bool")
 | int (i:Int):jc K H (.int i) (.type "int")
 | str (x:Str):jc K H (.str x) (.type "str")
 | flt (x:UInt64):jc K H (.flt x) (.type "float")
 | lst {a:Tp} {xs:List V} (e:H a=fv (.lst xs)):jc K H (.ref a) (.type "list")
 | jL {a:Tp} {o:Obj} {xs:List V} (e:H a=fv (.jL o (.lst xs))):jc K H (.ref a) (.type "list")
 | tup {a:Tp} {xs:List V} (e:H a=fv (.tup xs)):jc K H (.ref a) (.type "tuple")
 | dK {a:Tp} {kvs:List (Key × V)} (e:H a=fv (.dK kvs)):jc K H (.ref a) (.type "dict")
 | dT {a:Tp} {kvs:List (List Key × V)} (e:H a=fv (.dT kvs)):jc K H (.ref a) (.type "dict")
 | ins {a C dx:Tp} {fs:List (Str × V)} (e:H a=fv (.ins C dx fs)) (cl:Rk K C) (ha:Wv K (.ref C) "__class__" =fv (fv (.builtin "object.__class__")))
   (hn:Zy K (.builtin "object.__class__") "__get__" =fv (fv (.builtin "getset_descriptor.__get__"))) (htk:PySem.W.takesIn K (.builtin "object.__class__")=fv true)
   (hm:PySem.W.mroIn K C (.type "object")=fv true):jc K H (.ref a) (.ref C)
theorem wY{x:V}{u t:S5}(I:Inv X pins σ H s)(rx:RelV x u)(ty:jc X.K H x t)(e:Xa X.K t c=fv b)(h: ∀ tk,Q (.bool b) { s with toks:=tk}) :
  TC (TM X.prog X.w) A (call (.builtin "isinstance") [u,c]) Q E s:=by
 cases ty with
 | non=>cases(show u=WB from rx);exact UK PySem.W.kitx_none I.ko Vr e (λz=>by cases z) h
 | bl y=>cases(show u=W7 y from rx);exact UK PySem.W.kitx_bool I.ko Vr e (λz=>by cases z) h
 | int i=>obtain⟨t,q⟩:=(show ∃ t,u=XD i t from rx);cases q;exact UK PySem.W.kitx_int I.ko Vr e (λz=>by cases z) h
 | str y=>obtain⟨t,q⟩:=(show ∃ t,u=W4 y t from rx);cases q;exact UK PySem.W.kitx_str I.ko Vr e (λz=>by cases z) h
 | flt y=>obtain⟨t,q⟩:=(show ∃ t,u=Z1 y t from rx);cases q;exact UK aaj I.ko Vr e (λz=>by cases z) h
 | @lst a xs ea =>
  cases(show u=Tx a from rx)
  obtain⟨_,_,n,_,h1⟩:=(show bF X.prog X.w H s.heap a (.lst xs) from I.bL a _ ea)
  exact UK Xx I.ko ⟨_,h1,rfl⟩ e (λz=>nomatch z) h
 | @jL a ob xs ea =>
  cases(show u=Tx a from rx)
  obtain⟨_,_,_,n,_,h1⟩:=(show bF X.prog X.w H s.heap a (.jL ob (.lst xs)) from I.bL a _ ea)
  exact UK Xx I.ko ⟨_,h1,rfl⟩ e (λz=>nomatch z) h
 | @tup a xs ea =>
  cases(show u=Tx a from rx)
  obtain⟨_,_,_,p⟩:=(show bF X.prog X.w H s.heap a (.tup xs) from I.bL a _ ea)
  obtain⟨o,h1,h2,_⟩:=p
  exact UK aak I.ko ⟨o,h1,h2⟩ e (λz=>nomatch z) h
 | @dK a kvs ea =>
  cases(show u=Tx a from rx)
  obtain⟨_,_,vs,_,p⟩:=(show bF X.prog X.w H s.heap a (.dK kvs) from I.bL a _ ea)
  obtain⟨o,es,ep,h1,h2,_⟩:=p
  exact UK Xy I.ko ⟨o,h1,h2.1⟩ e (λz=>nomatch z) h
 | @dT a kvs ea =>
  cases(show u=Tx a from rx)
  obtain⟨_,_,xs,_,o,es,ep,h1,h2,_⟩:=(show bF X.prog X.w H s.heap a (.dT kvs) from I.bL a _ ea)
  exact UK Xy I.ko ⟨o,h1,h2.1⟩ e (λz=>nomatch z) h
 | @ins a C dx fs ea cl ha hn htk hm =>
  cases(show u=Tx a from rx)
  obtain⟨mA,O,_⟩:=DT I.bL ea
  obtain⟨od,J,_⟩:=O.look
  exact UK (PySem.W.kitx_own (cl.get _) cl.hd ha hn htk hm) I.ko J e (λz=>nomatch z) h
end
structure dO(k:Nat)(A:U5):Prop where
 hd:A.handled=SU
 dp:A.depth+3*k+5 < recursionLimit
 un:A.units+16*k+200 < VQ
 gd:A.guards=fv []
theorem dO.mono(r:dO k A)(h:j<=k):dO j A:=⟨r.hd,by have:=r.dp;omega,by have:=r.un;omega,r.gd⟩
theorem dO.deeper(r:dO (k+1) A) env:dO k (A.deeper env) :=
 ⟨r.hd,by have:=r.dp;show A.depth+1+3*k+5 < _;omega,by have:=r.un;show A.units+3+16*k+200 < _;omega,r.gd⟩
theorem dO.in1(r:dO (k+1) A):dO k A.in1 :=
 ⟨r.hd,by have:=r.dp;show A.depth+3*k+5 < _;omega,by have:=r.un;show A.units+1+16*k+200 < _;omega,r.gd⟩
theorem dO.depth(r:dO k A):A.depth < recursionLimit:=by have:=r.dp;omega
theorem dO.units(r:dO k A):A.units+64 < VQ:=by have:=r.un;omega
theorem dO.ui(r:dO k A):A.units < VQ:=by have:=r.un;omega
noncomputable def ND:TA:=λ_ H Q=>Q [] H
noncomputable def Bh(ta:TE)(tr:TA):TA:=fun σ H Q=>ta σ H λx H1=>tr σ H1 λxs H2=>Q (x::xs) H2
section
variable{X:Cx}{e:Uh}{es:List Uh}{te:TE}{t:TA}{pos:Pos}
theorem Jm:PA X [] ND:=λ_ _ _ _ H Q I h=>Xo ⟨[],H,I,.nil,h⟩
theorem EV(ha:PE X e te)(hr:PA X es t)(hs:Ue (e::es) X.env=(false,Vl e X.env)::Ue es X.env:=by rfl):PA X (e::es) (Bh te t):=by
 intro pos pins s σ H Q I h;rw[hs];show TC _ _ (spliced ((false,Vl e X.env)::WC pos (Ue es X.env))) _ _ s;refine Wo (iq (ha pins s σ H _ I h) λu s1 x H1 I1 r1 q1=>?_);exact Eo (hr pos pins s1 σ H1 _ I1 q1) λus s2 xs H2 I2 r2 q2=>⟨x::xs,H2,I2,.cons r1 r2,q2⟩
def MM(t:TA):TE:=fun σ H Q=>t σ H λxs H1=>xs.length<=Ta/\ ∀ p,H1 p=SU->Q (.ref p) (upd H1 p (.tup xs))
def MJ(t:TA):TE:=fun σ H Q=>t σ H λxs H1=>xs.length<=Ta/\ ∀ p,H1 p=SU->Q (.ref p) (upd H1 p (.lst xs))
theorem Lf(h:PA X es t):PE X (.Tuple es x1 pos) (MM t):=by
 intro pins s σ H Q I hq;refine wpAny_Tuple_spliced (Eo (h pos pins s σ H _ I hq) λus s1 xs H1 I1 r ⟨z,q⟩=>⟨by rw[<- r.length];exact z,?_⟩);have hf:=I1.bL.fresh (Te _);refine⟨.ref s1.heap.objs.size,upd H1 s1.heap.objs.size (.tup xs),I1.laid (t':=s1.toks) (λb u e=>S0 _ e) (Te _) ?_,rfl,q _ hf⟩;exact⟨z,us,r,⟨_,Tr _ rfl,rfl,_,rfl,rfl⟩⟩
theorem Jg(h:PA X es t):PE X (.List es pos) (MJ t):=by
 intro pins s σ H Q I hq;refine wpAny_List_spliced (Eo (h pos pins s σ H _ I hq) λus s1 xs H1 I1 r ⟨z,q⟩=>⟨by rw[<- r.length];exact z,?_⟩);have hf:=I1.bL.fresh (Te _);refine⟨.ref s1.heap.objs.size,upd H1 s1.heap.objs.size (.lst xs),I1.laid (t':=s1.toks) (λb u e=>S0 _ e) (Te _) ?_,rfl,q _ hf⟩;exact⟨z,us,0,r,Tr _ rfl⟩
end
abbrev Sp:=List V->Hp->VK->XK->Prop
abbrev F0:=List Env->Hp->Tc->XK->S5->Tc->Prop
structure ve(P:Ug)(w:Uz)(K:SV)(mg:Str->Option S5)(base:UU)(A:U5)(outer:List Env)(s:Tc)(H:Hp):Prop where
 frames:A.frames=fv outer
 mod:Mod K mg base
 bs: ∀ b o,base.get? b=fv o->s.heap.get? b=fv o/\H b=SU
 BS:base.objs.size<=s.heap.objs.size
 kA:s.heap.FunFrames base outer
 FZ: ∀ b∈yE outer,H b=SU
 bL:jM P w H s.heap
 bare:Xn s.gens
def CE(outer:List Env)(P:Ug)(w:Uz) H (s:Tc) (Q:VK) (u:S5) (s':Tc) :=
 ∃ v H',s'.os=s.os/\Xn s'.gens/\Un (yE outer) [] H H' s.heap s'.heap/\jM P w H' s'.heap/\RelV v u/\Q v H'
def CR(CX:F0)(outer:List Env)(P:Ug)(w:Uz) H (s:Tc) Q E (r:Result) (s':Tc) :=
 match r with
 | .ok (.ret u)=>CE outer P w H s Q u s'
 | .ok _=>False
 | .error e=>CX outer H s E e s'
structure j6(P:Ug)(w:Uz)(K:SV)(mg:Str->Option S5)(base:UU)(CX:F0)(k:Nat)(f:Tp)(fd:Wd)(ps:List Str)(sp:Sp):Prop where
 len: ∀ vs H Q E,sp vs H Q E->vs.length=ps.length
 run: ∀(A:U5)(outer:List Env)(s:Tc)(H:Hp)(args:Args)(us:List S5)(vs:List V)(Q:VK)(E:XK),dO k A->ve P w K mg base A outer s H->XX s fd args (ps.zip us)->Vals vs us->sp vs H Q E ->
  XY (TM P w) A (.call (.ref f) args) (CR CX outer P w H s Q E) s
theorem j6.imp{K}(F:j6 P w K mg base CX k f fd ps sp)
  (h: ∀ vs H Q E,sp' vs H Q E->sp vs H Q E):j6 P w K mg base CX k f fd ps sp' :=
 ⟨λvs H Q E q=>F.len vs H Q E (h _ _ _ _ q),λA outer s H args us vs Q E hr he hb hv hs=>F.run A outer s H args us vs Q E hr he hb hv (h _ _ _ _ hs)⟩
theorem ve.in1{K}(e:ve P w K mg base A outer s H) :
  ve P w K mg base A.in1 outer s H:=⟨e.frames,e.mod,e.bs,e.BS,e.kA,e.FZ,e.bL,e.bare⟩
section
variable{X:Cx}{pins:List (Tp × Obj)}{σ :St}{H:Hp}{s s':Tc}
theorem Inv.Qh(I:Inv X pins σ H s):ve X.prog X.w X.K X.mg X.base X.A X.stack s H :=
 ⟨I.ok.frames,I.ok.mod,I.bs,Ua I.ok.BS I.sz,I.stack,I.wq,I.bL,I.bare⟩
theorem Inv.after(I:Inv X pins σ H s)(h:CE X.stack X.prog X.w H s Q u s'):EP X pins σ Q u s':=by
 obtain⟨v,H',os,bare,un,bL,r,q⟩:=h;obtain⟨hh,g,d,t,os'⟩:=s';obtain rfl:os'=s.os:=os;exact⟨v,H',I.call (h':=hh) (g':=g) (d':=d) (t':=t) (ch:=[]) un bL bare (λb z=>absurd z (by simp)),r,q⟩
end
noncomputable def vY(sp:Sp)(CK:List V)(E:XK)(t:TA):TE:=fun σ H Q=>t σ H λvs H1=>sp (vs++CK) H1 Q E
def Binds(K:SV)(fd:Wd)(ps:List Str)(ds:List S5) :=
 ∀ s us,K.In s.heap->(us++ds).length=ps.length->XX s fd ⟨us,[]⟩ (ps.zip (us++ds))
theorem Binds.all{K}(h: ∀ us ,us.length=ps.length->VR fd ⟨us,[]⟩=pure (ps.zip us)):Binds K fd ps []:=λs us _ hl=>by
 rw[Tv] at hl ⊢;exact .of_eq (h us hl)
def Passes(CX:F0) X E:= ∀ pins(σ :St) H s e s',Inv X pins σ H s->CX X.stack H s E e s'->X.xe e s'
section
variable{X:Cx}{CX:F0}{k:Nat}{f C:Tp}{fd:Wd}{ps:List Str}{sp:Sp}{CK:List V}{ds:List S5}{E:XK}{x m:Str}{p pos apos:Pos}{e o:Uh}{es:List Uh}{ta:TE}{t:TA}
theorem Ks{σ :St}(F:j6 X.prog X.w X.K X.mg X.base CX k f fd ps sp)(hr:dO k X.A)(hb:Binds X.K fd ps ds)(hd:Vals CK ds)(hx:Passes CX X E)
  (I:Inv X pins σ H s) (r:Vals vs us) (h:sp (vs++CK) H Q E):TC (TM X.prog X.w) X.A (call (.ref f) us) (EP X pins σ Q) X.xe s:=by
 have r2:=r.append hd;have hl:(us++ds).length=ps.length:=by rw[<- r2.length];exact F.len _ _ _ _ h
 refine wpAny_call (WX (F.run X.A X.stack s H ⟨us,[]⟩ (us++ds) (vs++CK) Q E hr I.Qh (hb s us I.ko hl) r2 h) λr s' hq=>?_);cases r with
 | error e=>exact hx pins σ H s e s' I hq
 | ok fl =>
  cases fl with
  | ret u=>exact I.after hq
  | next=>exact U6 hq
  | brk=>exact U6 hq
  | cont=>exact U6 hq
theorem Co(F:j6 X.prog X.w X.K X.mg X.base CX k f fd ps sp)(hr:dO k X.A)(hg:Gl X x)(hm:X.mg x=fv (.ref f))(hk:VE X.K (.ref f)=true)(hb:Binds X.K fd ps ds)(hd:Vals CK ds)(hx:Passes CX X E)
  (ha:PA X (e::es) t) (hdb:(x == ("__debug__"))=false:=by decide) (he:Ue (e::es) X.env=(false,Vl e X.env)::Ue es X.env:=by rfl) (hpl:(WC pos (Ue es X.env)).any (·.1)=false:=by rfl) :
  PE X (.Call (.Name x p) (e::es) [] pos) (vY sp CK E t):=by
 intro pins s σ H Q I h;refine Xb (wI I hg hm ?_ hdb);refine PySem.W.callWith_K (h₀ :=X.base) I.ok.mod.P6 hk (Eo (ha pos pins s σ H _ I h) λus s1 vs H1 I1 r q=>⟨I1.ko,?_⟩) he hpl;exact Ks F hr hb hd hx I1 r q
structure Mk(K:SV)(C f:Tp):Prop where
 makes:PySem.W.makesIn K C=true
 init:Wv K (.ref C) "__init__" =fv (fv (.ref f))
 fn:aaw K (.ref f)=true
 kp:VE K (.ref C)=true
end
section
variable{X:Cx}{CX:F0}{k:Nat}{f C:Tp}{fd:Wd}{ps ks:List Str}{sp:Sp}{E:XK}{x m:Str}{p pos apos kpos:Pos}{e o:Uh}{es:List Uh}{kws:List YX}{te ta:TE}{t tk:TA}{nm:Option Str}
structure Qq(K:SV)(fd:Wd)(ps ks:List Str)(g:List S5->List S5->List S5)(gV:List V->List V->List V):Prop where
 to: ∀(s:Tc)(us ws:List S5),K.In s.heap->(g us ws).length=ps.length->XX s fd ⟨us,ks.zip ws⟩ (ps.zip (g us ws))
 rel: ∀{vs:List V}{us:List S5}{zs:List V}{ws:List S5},Vals vs us->Vals zs ws->Vals (gV vs zs) (g us ws)
variable{g:List S5->List S5->List S5}{gV:List V->List V->List V}
end
structure dW(N P:List Str)(sc:Xm):Prop where
 kind:sc.kind= .function
 co:sc.isCoroutine=false
 gen:sc.isGenerator=false
 nd:N.Nodup
 pre:N.take P.length=P
 par: ∀ x∈P,sc.names.lookup x=fv .local\/sc.names.lookup x=fv .cell
 Gk: ∀ y∈sc.names,y.2≠ .free
theorem pH{kindOf}: ∀{binds m},(∀ v,(x,v) ∉ binds)->bindL kindOf binds m x=m x
 | [],_,_=>rfl
 | (n,v)::r,m,h=>by
  unfold bindL;rw[pH λw hw=>h w (S9 _ hw)];split
  . have:x≠n:=by rintro rfl;exact h v S8
    simp[this]
  . rfl
theorem pJ{kindOf}: ∀{binds m},(∀ v,(x,v) ∉ binds)->bindC kindOf binds m x=m x
 | [],_,_=>rfl
 | (n,v)::r,m,h=>by
  unfold bindC;rw[pJ λw hw=>h w (S9 _ hw)];split
  . rfl
  . have:x≠n:=by rintro rfl;exact h v S8
    simp[this]
theorem pS{kindOf:Str->Option WM}{x:Str}{v:S5}: ∀{P:List Str}{vs:List S5}{i:Nat}{m:Str->Option S5},P.Nodup->P[i]?=fv x->vs[i]?=fv v->kindOf x=fv .local ->
  bindL kindOf (P.zip vs) m x=fv v
 | [],_,_,_,_,h,_,_=>by simp at h
 | _::_,[],_,_,_,_,h,_=>by simp at h
 | p::P,w::vs,0,m,nd,h1,h2,hk=>by
  simp at h1 h2;subst h1;subst h2;show bindL kindOf ((p,w)::P.zip vs) m p=_;unfold bindL;rw[pH λv hv=>(Vj.mp nd).1 (WS hv).1,if_pos hk];simp
 | p::P,w::vs,i+1,m,nd,h1,h2,hk=>by
  unfold bindL;exact pS (i:=i) (Vj.mp nd).2 (by simpa using h1) (by simpa using h2) hk
theorem pW{kindOf:Str->Option WM}{x:Str}{v:S5}: ∀{P:List Str}{vs:List S5}{i:Nat}{m:Str->Option S5},P.Nodup->P[i]?=fv x->vs[i]?=fv v->kindOf x≠fv .local ->
  bindC kindOf (P.zip vs) m x=fv v
 | [],_,_,_,_,h,_,_=>by simp at h
 | _::_,[],_,_,_,_,h,_=>by simp at h
 | p::P,w::vs,0,m,nd,h1,h2,hk=>by
  simp at h1 h2;subst h1;subst h2;show bindC kindOf ((p,w)::P.zip vs) m p=_;unfold bindC;rw[pJ λv hv=>(Vj.mp nd).1 (WS hv).1,if_neg hk];simp
 | p::P,w::vs,i+1,m,nd,h1,h2,hk=>by
  unfold bindC;exact pW (i:=i) (Vj.mp nd).2 (by simpa using h1) (by simpa using h2) hk
noncomputable def start(N:List Str)(vs:List V):St:=vs.map fv++S4 (N.length - vs.length) SU
noncomputable def jf(CX:F0)(P:Ug)(w:Uz)(K:SV)(mg:Str->Option S5)(base:UU)(N:List Str)(qual:Str)(scope:Xm)(f:Tp)(cd:S5)(A:U5)(outer:List Env)(s:Tc)(H:Hp)(E:XK):Cx where
 prog:=P
 w:=w
 K:=K
 mg:=mg
 base:=base
 A:=A.deeper (Xc qual scope s.heap.objs.size f cd)
 N:=N
 s₀ :=s
 H₀ :=H
 env:=Xc qual scope s.heap.objs.size f cd
 outer:=outer
 stack:=Xc qual scope s.heap.objs.size f cd::outer
 ex:=[]
 calm:=true
 fn:=λ_=>true
 pn:=[]
 xe:=λe s'=>TC (TM P w) (A.deeper (Xc qual scope s.heap.objs.size f cd)) (leaving (Xc qual scope s.heap.objs.size f cd) e) (λ_ s''=>CX outer H s E e s'') (λe' s''=>CX outer H s E e' s'') s'
theorem tF{sc:Xm}(h:sc.names.lookup x=fv .cell): ∃ c,(VZ n sc.names []).lookup x=fv c:=by
 have q:=Ww sc.names n [] (.inl h);exact We.mp q
theorem xf{K} 
  (S:dW N ps scope) (hd:A.handled=SU) (e0:ve P w K mg base A outer s H) (hl:vs.length=ps.length) (r:Vals vs us)
  (x:InCallC s s.heap.objs.size (bindL (Xc qual scope s.heap.objs.size f cd).kindOf (ps.zip us) λ_=>SU) (VZ (s.heap.objs.size+1) scope.names []) (bindC (Xc qual scope s.heap.objs.size f cd).kindOf (ps.zip us) λ_=>SU) s1) :
  Inv (jf CX P w K mg base N qual scope f cd A outer s H E) [] (start N vs) H s1:=by
 have hpl:ps.length<=N.length:=by have:=congrArg VJ S.pre;rw[TL] at this;omega
 obtain⟨h1,tk,rfl,hk⟩:=x.done;have noA: ∀ b:Tp,b ∉ (jf CX P w K mg base N qual scope f cd A outer s H E).ex:=λb z=>absurd (show b∈([]) from z) (by simp);refine⟨⟨e0.mod,S.kind,rfl,rfl,Te _,λy z c h1 h2=>?_,λy hy=>?_,λy c _ h=>?_,λ_=>hd,Around.frames_deeper e0.frames,.inr ⟨rfl,rfl⟩,λb z=>absurd z (noA b),e0.bs,e0.BS,λb _ _=>noA b,λb z=>absurd z (noA b),e0.kA,e0.FZ⟩,
  rfl,e0.bare,Un.kept hk,⟨_,x.toInCall.ns,λi y v h1 h2 h3=>?_⟩,λy c h=>⟨_,x.cell y c h⟩,e0.bL.fresh (Te _),λy c h=>?_,λp hp=>absurd (show p∈([]) from hp) (by simp),e0.bL.kept hk,?_⟩
 . exact name_of_addr x.apart (VD h1) (VD h2)
 . rcases hy with hy | hy
   . exact tF hy
   . exact absurd rfl (S.Gk _ (VD hy))
 . exact XT (x.above y c (VD h))
 . have hi:i < vs.length:=by
    unfold start at h2;by_cases hi:i < vs.length
    . exact hi
    . rw[TU (by simpa using hi)] at h2;rw[VF] at h2;split at h2<;>cases h2
   have ha:vs[i]?=fv v:=by
    unfold start at h2;rw[TV (by simpa using hi),T7] at h2;cases e:vs[i]? with
    | none=>simp_all
    | some a=>simp_all
   obtain⟨u,hu,rv⟩:=r.get ha;have hp:ps[i]?=fv y:=by
    rw[<- S.pre,List.getElem?_take_of_lt (by omega)];exact h1
   have ndP:ps.Nodup:=by rw[<- S.pre];exact S.nd.sublist (List.take_sublist _ _)
   refine⟨u,rv,?_⟩;rcases S.par y (Uw hp) with k | k
   . exact .inl ⟨k,pS ndP hp hu k⟩
   . obtain⟨c,e⟩:=tF (n:=s.heap.objs.size+1) k;refine .inr ⟨.inl k,c,e,?_⟩;have q:=x.cell y c e;rw[pW ndP hp hu (by show scope.names.lookup y≠_;rw[k];decide)] at q;exact q
 . exact e0.bL.fresh (XT (x.above y c (VD h)))
 . unfold start;show _=N.length;rw [S1,SX,Yu];omega
theorem MQ{K kV} 
       (lk : K.lookup f = some ⟨oc, od, .func (PySem.W.fnOf name qual params body scope dV kV doc pm an cdv ct), osl⟩) (hcd : PySem.W.codeIn K cdv qual = true) (S : dW N ps scope)
    (len : ∀ vs H Q E, sp vs H Q E -> vs.length = ps.length)
    (hbody : ∀ A outer s H vs Q E, dO k (A.deeper (Xc qual scope s.heap.objs.size f cdv)) -> sp vs H Q E ->
      ∃ t, vV (jf CX P w K mg base N qual scope f cdv A outer s H E) body t /\ t { nx := λ_ H' => Q .non H', rt := Q} (start N vs) H) :
    j6 P w K mg base CX (k + 1) f (UE name qual params body scope dV kV doc pm an cdv ct) ps sp := by
  refine ⟨len, λA outer s H args us vs Q E hr e0 hb r hsp => ?_⟩;have hl := len _ _ _ _ hsp;have KX := e0.mod.P6.keeps λb o e => (e0.bs b o e).1;have lim := e0.mod.nolimit.keeps λb o e => (e0.bs b o e).1;have hkind : ∀ y ∈ ps.zip us, scope.names.lookup y.1 = fv .local ∨ (scope.names.lookup y.1 = fv .cell /\ ((VZ (s.heap.objs.size + 1) scope.names []).lookup y.1).isSome = true) := λ⟨n, v⟩ hy => by
    rcases S.par n (WS hy).1 with q | q
    . exact .inl q
    . exact .inr ⟨q, Ww _ _ _ (.inl q)⟩
  refine codeAny_call_function hr.depth (KX _ _ lk) rfl S.co S.gen rfl (PySem.W.codeRec_of KX hcd) (hb _ _ _ _ ?_);refine wpAny_newFunctionEnv_cells S.kind hkind λenv he s1 x => ?_;subst he;refine ⟨lim.keeps x.toInCall.keep, codeAny_func ?_⟩;obtain ⟨t, ht, hq⟩ := hbody A outer s H vs Q E (hr.deeper _) hsp;have I : Inv (jf CX P w K mg base N qual scope f cdv A outer s H E) [] (start N vs) H s1 := xf S hr.hd e0 hl r x;refine Ui (ht [] s1 (start N vs) H _ I hq) (λfl s' hs => ?_) λe s' hs => hs;have fin : ∀{σ' : St}{H' : Hp}{v : V}{u : S5}, Inv (jf CX P w K mg base N qual scope f cdv A outer s H E) [] σ' H' s' -> RelV v u -> Q v H' -> CE outer P w H s Q u s' :=
    λ{σ' H' v u} J rv q => ⟨v, H', J.os, J.bare, J.base, J.bL, rv, q⟩
  cases fl with
  | ret u =>
    obtain ⟨v, σ', H', J, rv, q⟩ := hs
    exact fin J rv q
  | next =>
    obtain ⟨σ', H', J, q⟩ := hs
    exact fin (v := V.non) (u := WB) J rfl q
  | brk =>
    obtain ⟨_, _, _, q⟩ := hs
    exact U6 q
  | cont =>
    obtain ⟨_, _, _, q⟩ := hs
    exact U6 q
section
variable{X:Cx}{x:Str}{p pos:Pos}{e:Uh}{es:List Uh}{t:TA}{id T:String}{r:List V->Hp->VK->Prop}
noncomputable def Ik(r:List V->Hp->VK->Prop)(t:TA):TE:=fun σ H Q=>t σ H λvs H1=>r vs H1 Q
theorem zR(hc:bO X (.builtin id) r)(hg:Gl X x)(hm:X.mg x=SU)(hv:UN x=fv (.builtin id))(ha:PA X (e::es) t)(hn:x≠ "__name__" :=by decide)(hdb:(x == ("__debug__"))=false:=by decide)
  (he:Ue (e::es) X.env=(false,Vl e X.env)::Ue es X.env:=by rfl) (hpl:(WC pos (Ue es X.env)).any (·.1)=false:=by rfl):PE X (.Call (.Name x p) (e::es) [] pos) (Ik r t):=by
 intro pins s σ H Q I h;refine Xb (jA I hg hm hv ?_ hn hdb);exact WD (Eo (ha pos pins s σ H _ I h) λus s1 vs H1 I1 r1 q1=>hc pins s1 σ H1 vs us Q I1 r1 q1) he hpl
theorem xS(hc:bO X (.type T) r)(hg:Gl X x)(hm:X.mg x=SU)(hv:UN x=fv (.type T))(ha:PA X (e::es) t)(hn:x≠ "__name__" :=by decide)(hdb:(x == ("__debug__"))=false:=by decide)
  (he:Ue (e::es) X.env=(false,Vl e X.env)::Ue es X.env:=by rfl) (hpl:(WC pos (Ue es X.env)).any (·.1)=false:=by rfl):PE X (.Call (.Name x p) (e::es) [] pos) (Ik r t):=by
 intro pins s σ H Q I h;refine Xb (jA I hg hm hv ?_ hn hdb);exact Vo (Eo (ha pos pins s σ H _ I h) λus s1 vs H1 I1 r1 q1=>hc pins s1 σ H1 vs us Q I1 r1 q1) he hpl
end
end L2
namespace HT
open PySem PyProof.Rows
section
variable{prog:Ug}{w:Uz}{A:U5}{E:S5->Tc->Prop}{s:Tc}
theorem DW{t b:Tp}{vs ws:List S5}{Q:S5->Tc->Prop}(ht:IsTup s.heap t vs.toArray)(hb:IsTup s.heap b ws.toArray)(hv:vs≠[])
  (h1:ws=[]->Q (.ref t) s) (h2:ws≠[]->Q (.ref s.heap.objs.size) { s with heap:=s.heap.push { cls:= .type "tuple",data:= .seq (vs++ws).toArray}})
  (hsz:vs.length+ws.length<=Ta):TC (TM prog w) A (UP .Add (.ref t) (.ref b)) Q E s:=by
 obtain⟨⟨cls,dd,data,sl⟩,ho,hc,n,hd⟩:=id ht;obtain⟨⟨cls2,dd2,data2,sl2⟩,ho2,hc2,n2,hd2⟩:=id hb;simp only at hc hd hc2 hd2;subst hc hd hc2 hd2;have e:vs.toArray++ws.toArray=(vs++ws).toArray:=by simp
 by_cases hw:ws=[]
 . exact Zz ⟨_,ho,rfl⟩ ⟨_,ho2,rfl⟩ XI Zd Wx Ws (Wf _ _)
    (tuple_addW1 t b vs.toArray ws.toArray n n2 dd dd2 sl sl2 (by simpa using hv) (by simp[hw])) ⟨ho,ho2,h1 hw⟩
 . refine Zz ⟨_,ho,rfl⟩ ⟨_,ho2,rfl⟩ XI Zd Wx Ws (Wf _ _)
    (tuple_addW2 t b vs.toArray ws.toArray n n2 dd dd2 sl sl2 (by simpa using hv) (by simpa using hw) (by exact hsz)) ⟨ho,ho2,?_⟩
   rw[e];exact h2 hw
noncomputable def eF(n d:Nat):Option Int->Nat
 | none=>d
 | some v=>if v < 0 then(v+(n)).toNat else min v.toNat n
theorem j9 n d:eF n d SU=d:=rfl
theorem iR(n d k:Nat):eF n d (fv (k))=min k n:=by
 rfl
theorem QZ n d (hd:d<=n) o:eF n d o<=n:=by
 cases o with
 | none=>exact hd
 | some v =>
  show(if v < 0 then(v+(n)).toNat else min v.toNat n)<=n
  by_cases hv:v < 0
  . grind
  . rw[if_neg hv];exact ZS _ _
theorem wz v (n d:Nat):(if v < 0 then max (v+(n:Int)) 0 else min v (n))=((eF n d (fv v))):=by
 show(if v < 0 then max (v+(n)) 0 else min v (n))=(((if v < 0 then(v+(n)).toNat else min v.toNat n)))
 by_cases hv:v < 0
 . simp_all
 . grind
theorem uQ lo hi (n:Nat):V7 lo hi 1 (n)=(((eF n 0 lo):Int),((eF n n hi):Int)):=by
 have h1: ¬ ((1) < 0):=by omega
 unfold V7;refine Prod.ext ?_ ?_
 . cases lo with
   | none=>rfl
   | some v=>exact wz v n 0
 . cases hi with
   | none=>rfl
   | some v=>exact wz v n n
theorem t8(i j:Nat):Vw (i) (j) 1=j - i:=by
 unfold Vw;have h1:(1:Int) > 0:=by omega
 simp only[h1,if_true,Int.ediv_one];split<;>omega
theorem oF{v:S5}{o:Option Int}{Q:Option Int->Tc->Prop}(p:XZ v o)(h:Q o s):TC (TM prog w) A (Builtin.Slice.slicePartIndex v) Q E s:=by
 cases p with
 | none=>exact slicePart_none h
 | int i t=>exact slicePart_int h
theorem gI{sl:Tp}{vl vu:S5}{lo hi:Option Int}{n:Nat}{Q:Int × Int × Nat->Tc->Prop}(hs:s.heap.IsSliceOf sl vl vu .none)(pl:XZ vl lo)(pu:XZ vu hi)
  (h:Q (((eF n 0 lo:Nat):Int),1,eF n n hi - eF n 0 lo) s):TC (TM prog w) A (Builtin.Slice.sliceApplied (.ref sl) (pure (n:Int))) Q E s:=by
 obtain⟨os,hos,hcs,hds⟩:=id hs;refine SW (SW (UR hos hds (x:=vl) rfl (SW (UR hos hds (x:=vu) rfl (SW (UR hos hds (x:= .none) rfl (To ?_)))))));refine SW (slicePart_none ?_);refine SW (oF pl (SW (oF pu (SW (To ?_)))));show TC _ _ (match V7 lo hi 1 (n) with | (lo,hi)=>pure (lo,(1:Int),Vw lo hi 1)) _ _ s;rw[uQ lo hi n];show TC _ _ (pure (((eF n 0 lo):Int),(1),Vw ((eF n 0 lo)) ((eF n n hi)) 1)) _ _ s;rw[t8];exact To h
theorem zw(xs:Array S5)(i k:Nat):((Vi k).filterMap λ(m:Nat)=>xs[((i:Int)+(m)*1).toNat]?).toArray=((xs.toList.drop i).take k).toArray:=by
 have e:(λ(m:Nat)=>xs[((i)+(m:Int)*1).toNat]?)=λm=>xs[i+m]?:=by
  funext m
  have:((i)+(m:Int)*1).toNat=i+m:=by omega
  rw[this]
 rw[e];have:=pick_run xs i k;rw[List.filterMap_map] at this;have e2:((λx=>xs[x]?) ∘ λx=>i+x)=λm=>xs[i+m]?:=rfl;rw[e2] at this;rw [this]
theorem jV{t sl : Tp}{items : Array S5}{vl vu : S5}{lo hi : Option Int}{Q : S5 -> Tc -> Prop}(ht : IsTup s.heap t items)(hs : s.heap.IsSliceOf sl vl vu .none)(pl : XZ vl lo)(pu : XZ vu hi)
    (hw : ¬ (eF items.size 0 lo = 0 /\ eF items.size items.size hi = items.size))
    (h : Q (.ref s.heap.objs.size) { s with heap := s.heap.push { cls := .type "tuple", data := .seq ((items.toList.drop (eF items.size 0 lo)).take (eF items.size items.size hi - eF items.size 0 lo)).toArray}})
    (hsz : items.size <= Ta) : TC (TM prog w) A (WY (.ref t) (.ref sl)) Q E s := by
  have htake : sizeOk (.seq ((items.toList.drop (eF items.size 0 lo)).take (eF items.size items.size hi - eF items.size 0 lo)).toArray) := by
    show ((items.toList.drop (eF items.size 0 lo)).take (eF items.size items.size hi - eF items.size 0 lo)).toArray.size <= Ta;rw [TK, TL, Uj, WV];omega
  obtain ⟨os, hos, hcs, hds⟩ := id hs;have hTs : s.TypeIs (.ref sl) "slice" := ⟨os, hos, hcs⟩
  unfold WY
  try with_reducible refine VA ?_
  refine SW (ZA ht.typeIs (by decide) ?_);refine SW (U3 (name := S3 "__getitem__") ht.typeIs Um
    (VG Um ht.typeIs Y2 ?_ (Zo _ _)))
  show TC _ _ (Xd (.ref t) >>= _) _ _ s;refine SW (tupleItemsOf_ ht ?_);refine SW (ZC hTs ?_);refine SW (gI hs pl pu ?_);have hno : ¬ ((((eF items.size 0 lo) : Int) == 0 && (1 : Int) == 1 && (eF items.size items.size hi - eF items.size 0 lo) == items.size) = true) := by
    simp_all
  show TC _ _ (if (((eF items.size 0 lo) : Int) == 0 && (1) == 1 && (eF items.size items.size hi - eF items.size 0 lo) == items.size) = true then _ else _) _ _ s;rw [if_neg hno, zw]
  first
    | exact SW (m := UW _) (US (To ⟨_, rfl, To h⟩) htake)
    | exact SW (m := UW _) (US (SW (To (To ⟨_, rfl, To h⟩))) htake)
    | exact SW (SW (m := UW _) (US (To (To ⟨_, rfl, To h⟩)) htake))
    | exact SW (SW (m := UW _) (US (To ⟨_, rfl, To h⟩) htake))
end
end HT
namespace L2
open PySem PySem.Spec PyProof.Rows
abbrev TO:=St->Hp->(Option Int->Hp->Prop)->Prop
def PO X (e:Option Uh) (t:TO) :=
 ∀ pins s(σ :St) H Q,Inv X pins σ H s->t σ H Q ->
  TC (TM X.prog X.w) X.A (evalPart e X.env) (λu s'=> ∃ o H',Inv X pins σ H' s'/\XZ u o/\Q o H') X.xe s
noncomputable def wd:TO:=λ_ H Q=>Q SU H
noncomputable def FU(t:TE):TO:=fun σ H Q=>t σ H λx H1=> ∃ i,x= .int i/\Q (fv i) H1
theorem intsAre_of{ns:List Int}: ∀{us:List S5},Vals (ns.map V.int) us->ZD us ns:=by
 induction ns with
 | nil=>intro us r;rw[U0] at r;cases r;exact .nil
 | cons n ns ih =>
  intro us r
  rw[S7] at r
  cases r with
  | cons r1 r2 =>
   obtain⟨t,e⟩:=r1
   subst e
   exact .cons n t (ih r2)
section
variable{X:Cx}{e:Uh}{te:TE}{lo hi:Option Uh}{tl th:TO}{pos p2:Pos}
theorem Eh:PO X SU wd:=by
 intro pins s σ H Q I h;exact To ⟨SU,H,I,.none,h⟩
theorem Ex(h:PE X e te):PO X (fv e) (FU te):=by
 intro pins s σ H Q I hw;refine iq (h pins s σ H _ I hw) λu s1 x H1 I1 r1 q1=>?_;obtain⟨i,rfl,q⟩:=q1;obtain⟨t,rfl⟩:=r1;exact⟨fv i,H1,I1,.int i t,q⟩
def BV X (r:V->Option Int->Option Int->Hp->VK->Prop) :=
 ∀ pins s(σ :St) H x v vl vu lo hi sl Q,Inv X pins σ H s->RelV x v->s.heap.IsSliceOf sl vl vu .none->XZ vl lo->XZ vu hi->r x lo hi H Q ->
  ∃ T id,typeLookup (.type T) "__getitem__" =pure (fv (.builtin id))/\s.TypeIs v T/\TC (TM X.prog X.w) X.A (WY v (.ref sl)) (EP X pins σ Q) X.xe s
theorem BV.or(h:BV X r)(h':BV X r'):BV X (λx lo hi H Q=>r x lo hi H Q\/r' x lo hi H Q):=by
 intro pins s σ H x v vl vu lo hi sl Q I rx hs pl pu q;rcases q with q | q
 . exact h pins s σ H x v vl vu lo hi sl Q I rx hs pl pu q
 . exact h' pins s σ H x v vl vu lo hi sl Q I rx hs pl pu q
noncomputable def R1(r:V->Option Int->Option Int->Hp->VK->Prop)(te:TE)(tl th:TO):TE:=fun σ H Q=>te σ H λx H1=>tl σ H1 λl H2=>th σ H2 λu H3=>r x l u H3 Q
theorem AL(hr:BV X r)(he:PE X e te)(hl:PO X lo tl)(hu:PO X hi th):PE X (.Subscript e (.Slice lo hi SU p2) pos) (R1 r te tl th):=by
 intro pins s σ H Q I h;refine Subscript_ (iq (he pins s σ H _ I h) λv s1 x H1 I1 r1 q1=>?_);refine wpAny_Slice (iU (hl pins s1 σ H1 _ I1 q1) λvl s2 ⟨l,H2,I2,pl,q2⟩=>iU (hu pins s2 σ H2 _ I2 q2) λvu s3 z9=>?_);obtain⟨u,H3,I3,pu,q3⟩:=z9;refine To ?_;have I4:Inv X pins σ H3 { s3 with heap:=s3.heap.push { cls:= .type "slice",data:= .fields #[vl,vu,.none]}}:=I3.kept (t':=s3.toks) λb ob q=>S0 _ q;obtain⟨T,id,hT,ht,hg⟩:=hr pins { s3 with heap:=s3.heap.push { cls:= .type "slice",data:= .fields #[vl,vu,.none]}} σ H3 x v vl vu l u s3.heap.objs.size Q I4 r1 (aay ..) pl pu q3;exact tail_any (ops:=[.ref s3.heap.objs.size,v]) ht hT hg (by rfl)
def lL(xs:List V)(lo hi:Option Int):=(xs.drop (HT.eF xs.length 0 lo)).take (HT.eF xs.length xs.length hi - HT.eF xs.length 0 lo)
theorem lh xs lo hi:(lL xs lo hi).length<=xs.length:=by
 unfold lL;rw[TL,Uj];omega
def OG(K:SV):V->Option Int->Option Int->Hp->VK->Prop:=λx lo hi H Q=> ∃ a xs,x= .ref a/\fB K H a xs /\
 ¬ (HT.eF xs.length 0 lo=0/\HT.eF xs.length xs.length hi=xs.length)/\ ∀ p,H p=SU->Q (.ref p) (upd H p (.tup (lL xs lo hi)))
theorem GJ:BV X (OG X.K):=by
 intro pins s σ H x v vl vu lo hi sl Q I rx hs pl pu h;obtain⟨a,xs,rfl,hx,hw,q⟩:=h;cases rx;obtain⟨az,r,ht,hz⟩:=I.tuple hx;have hlen:az.toArray.size=xs.length:=by exact r.length.symm
 refine⟨"tuple",_,Um.lookup,ht.typeIs,?_⟩;refine HT.jV ht hs pl pu (by rw[hlen];exact hw) ?_ (by rw[hlen];exact hz);rw[hlen];refine⟨.ref s.heap.objs.size,_,I.laid (t':=s.toks) (o:= .tup (lL xs lo hi)) (λb ob q=>S0 _ q) (Te _) ?_,rfl,q _ (I.bL.fresh (Te _))⟩;exact⟨Ua (lh xs lo hi) hz,_,(r.drop (HT.eF xs.length 0 lo)).take (HT.eF xs.length xs.length hi - HT.eF xs.length 0 lo),oK.new _ _⟩
def FV(K:SV):R2:=λx y H Q=> ∃ a b xs ys,x= .ref a/\y= .ref b/\fB K H a xs/\fB K H b ys/\xs≠[]/\xs.length+ys.length<=Ta /\
 (ys=[]->Q (.ref a) H)/\(ys≠[]-> ∀ p,H p=SU->Q (.ref p) (upd H p (.tup (xs++ys))))
theorem Vals.lV(r:Vals xs us):us=[]↔xs=[]:=by
 cases r with
 | nil=>simp
 | cons _ _=>simp
theorem C3:cG X (UP .Add) (FV X.K):=by
 intro pins s σ H x y v u Q I rx ry h;obtain⟨a,b,xs,ys,rfl,rfl,ha,hb,hx,hz,q1,q2⟩:=h;cases rx;cases ry;obtain⟨az,r1,p1,_⟩:=I.tuple ha;obtain⟨its2,r2,p2,_⟩:=I.tuple hb;refine HT.DW p1 p2 (λz=>hx (r1.lV.mp z)) (λz=>⟨.ref a,H,I,rfl,q1 (r2.lV.mp z)⟩) (λz=>?_) (by rw[<- r1.length,<- r2.length];exact hz);refine⟨.ref s.heap.objs.size,_,I.laid (t':=s.toks) (o:= .tup (xs++ys)) (λb ob q=>S0 _ q) (Te _) ?_,rfl,q2 (λw=>z (r2.lV.mpr w)) _ (I.bL.fresh (Te _))⟩;exact⟨by rw[S1];exact hz,_,r1.append r2,oK.new _ _⟩
end
noncomputable def tV(n:Nat)(i:Int):=if 0<=i then(if i < n then fv i.toNat else SU) else if -(n)<=i then fv (i+n).toNat else SU
def fY{α :Type}(xs:List α) i:=(tV xs.length i).bind λj=>xs[j]?
theorem wk(h:tV n i=fv j):seqIndex? i n=fv j/\j < n/\ -(n)<=i/\i < n:=by
 unfold tV at h;by_cases h0:0<=i
 . rw[if_pos h0] at h;by_cases h1:i < n
   . rw[if_pos h1] at h;have e:=Ud h;exact⟨by rw[Z2 h0 h1,e],by omega,by omega,h1⟩
   . simp_all
 . rw[if_neg h0] at h;by_cases h1: -(n)<=i
   . rw[if_pos h1] at h;have e:=Ud h;exact⟨by rw[ZE (by omega) h1,e],by omega,h1,by omega⟩
   . simp_all
theorem rh(h:fY xs i=fv v): ∃ j,seqIndex? i xs.length=fv j/\xs[j]?=fv v/\j < xs.length/\ -(xs.length)<=i/\i < xs.length:=by
 unfold fY at h;cases e:tV xs.length i with
 | none=>simp_all
 | some j =>
  rw[e] at h
  obtain⟨h1,h2,h3,h4⟩:=wk e
  exact⟨j,h1,h,h2,h3,h4⟩
theorem cT{j:Nat}(h:xs[j]?=fv v):fY xs (j)=fv v:=by
 have hj:=(Tg.mp h).1;have e:tV xs.length (j)=fv j:=by
  unfold tV;rw[if_pos (by omega),if_pos (by omega)];simp
 unfold fY;rw[e];exact h
def qh b:= ∀ o i,Xp b false o i=operate [o,i] (WY o i)
def xu X (r:R2) :=
 ∀ value slice pins s(σ :St) H x y v u Q,Inv X pins σ H s->RelV x v->RelV y u->r x y H Q ->
  Xp slice false v u=operate [v,u] (WY v u)->TC (TM X.prog X.w) X.A (subscriptTail value slice v u) (EP X pins σ Q) X.xe s
def zG X (id:String) (r:V->List V->Hp->VK->Prop) :=
 ∀ pins s(σ :St) H x xs v us Q,Inv X pins σ H s->RelV x v->Vals xs us->r x xs H Q ->
  TC (TM X.prog X.w) X.A (call (.builtin id) (v::us)) (EP X pins σ Q) X.xe s
section
variable{X:Cx}{a b:Uh}{ta tb:TE}{pos:Pos}
theorem xu.or(h:xu X r)(h':xu X r'):xu X (λx y H Q=>r x y H Q\/r' x y H Q):=by
 intro value slice pins s σ H x y v u Q I rx ry q hs;rcases q with q | q
 . exact h value slice pins s σ H x y v u Q I rx ry q hs
 . exact h' value slice pins s σ H x y v u Q I rx ry q hs
theorem Nq(hr:xu X r)(ha:PE X a ta)(hb:PE X b tb)(hs:qh b):PE X (.Subscript a b pos) (DC r ta tb):=by
 intro pins s σ H Q I h;exact Subscript_ (JK ha hb I h λv u s2 x y H2 I2 rx ry q=>hr a b pins s2 σ H2 x y v u Q I2 rx ry q (hs _ _))
def Nd(K:SV):R2:=λx y H Q=> ∃ p xs i v,x= .ref p/\y= .int i/\gi K H p xs/\fY xs i=fv v/\Q v H
def Lz(K:SV):R2:=λx y H Q=> ∃ p xs i v,x= .ref p/\y= .int i/\fB K H p xs/\fY xs i=fv v/\Q v H
def Ng:R2:=λx y H Q=> ∃ z i c,x= .str z/\y= .int i/\z.length<=Ta/\fY z.cps.toList i=fv c/\Q (.str ⟨#[c]⟩) H
theorem Cn:xu X (Nd X.K):=by
 intro value slice pins s σ H x y v u Q I rx ry h hs;obtain⟨p,xs,i,z,rfl,rfl,hq,he,q⟩:=h;cases rx;obtain⟨t,rfl⟩:=ry;obtain⟨az,r,pl,hz⟩:=I.list hq;obtain⟨j,h1,h2,h3,h4,h5⟩:=rh he;obtain⟨w,ew,rw'⟩:=r.get h2;have hl:=r.length;have hn:=ku;have fin:EP X pins σ Q w s:=⟨z,H,I,rw',q⟩
 by_cases h0:0<=i
 . have hj:i.toNat=j:=by
    rw[Z2 h0 h5] at h1;exact Ud h1
   exact item_listR pl.isList h0 (by omega) (by rw[hj];simpa using ew) fin hs
 . have hj:(i+(az.toArray.size)).toNat=j:=by
    rw[ZE (by omega) h4] at h1;rw[TK,<- hl];exact Ud h1
   exact X7 (x:=w) pl.isList.typeIs ZF.lookup
    (wpAny_getItem_list_neg (Q:=λr s'=>r=w/\EP X pins σ Q r s') pl.isList (by omega) (by simp_all) (by omega) (by rw[hj];simpa using ew) ⟨rfl,fin⟩) hs
theorem Gy:xu X (Lz X.K):=by
 intro value slice pins s σ H x y v u Q I rx ry h hs;obtain⟨p,xs,i,z,rfl,rfl,hq,he,q⟩:=h;cases rx;obtain⟨t,rfl⟩:=ry;obtain⟨az,r,pl,hz⟩:=I.tuple hq;obtain⟨j,h1,h2,h3,h4,h5⟩:=rh he;obtain⟨w,ew,rw'⟩:=r.get h2;have hl:=r.length;have hn:=ku;have fin:EP X pins σ Q w s:=⟨z,H,I,rw',q⟩
 exact X7 (x:=w) pl.typeIs Um.lookup
  (getItem_tuple (j:=j) (Q:=λr s'=>r=w/\EP X pins σ Q r s') pl (by omega) (by omega) (by rw[TK,<- hl];exact h1) (by simpa using ew) ⟨rfl,fin⟩) hs
theorem IL:xu X Ng:=by
 intro value slice pins s σ H x y v u Q I rx ry h hs;obtain⟨z,i,c,rfl,rfl,hz,he,q⟩:=h;obtain⟨t,rfl⟩:=rx;obtain⟨t',rfl⟩:=ry;obtain⟨j,h1,h2,h3,h4,h5⟩:=rh he;have hl:z.cps.toList.length=z.length:=by rfl
 rw[hl] at h1 h4 h5;have hn:=ku;exact tail_any (Wq s z t) slot_str_getitem.lookup (getItem_str (c:=c) (by
  grind) (by rw[h1];simpa using h2) ⟨.str ⟨#[c]⟩,H,I.tok _,⟨_,rfl⟩,q⟩) hs
def SN(K:SV):R2:=λx y H Q=>Nd K x y H Q\/Lz K x y H Q\/Ng x y H Q
theorem GF:xu X (SN X.K):=Cn.or (Gy.or IL)
theorem uM(az:List S5) n j u:Zp (·.setIfInBounds j u) { cls:= .type "list",data:= .seq az.toArray n}={ cls:= .type "list",data:= .seq (az.set j u).toArray n}:=by
 simp[Zp]
theorem Inv.lst{pins}{σ :St}{H s p xs}(I:Inv X pins σ H s)(h:H p=fv (.lst xs)) :
  ∃(az:List S5)(n:Nat),Vals xs az/\s.heap.get? p=fv { cls:= .type "list",data:= .seq az.toArray n}/\xs.length<=Ta:=by
 obtain⟨z,az,n,r,e⟩:=I.bL p _ h;exact⟨az,n,r,e,z⟩
theorem Inv.Le{pins:List (Tp × Obj)}{σ :St}{H:Hp}{s:Tc}{p:Tp}{xs ys:List V}{az its':List S5}{n n':Nat}{f:Obj->Obj}(I:Inv X pins σ H s)(h:H p=fv (.lst xs))
  (ho:s.heap.get? p=fv { cls:= .type "list",data:= .seq az.toArray n}) (hf:f { cls:= .type "list",data:= .seq az.toArray n}={ cls:= .type "list",data:= .seq its'.toArray n'}) (r:Vals ys its') (hz:ys.length<=Ta) (t:Nat) :
  Inv X pins σ (upd H p (.lst ys)) { s with heap:=s.heap.update p f,toks:=t}:=by
 have e:(s.heap.update p f).get? p=fv { cls:= .type "list",data:= .seq its'.toArray n'}:=by
  rw[Yv f ho (by rw[hf]<;>rfl),hf]
 refine I.write (x:=p) (e:=p) (by rw[h];trivial) (.inl rfl) (λb u hb q=>(X8 _ _ (V1 hb)).trans q) ⟨_,e⟩ ?_;exact⟨hz,its',n',r,e⟩
def L8:V->V->V->Hp->(Hp->Prop)->Prop:=λo i v H Q=> ∃ p xs k j,o= .ref p/\i= .int k/\H p=fv (.lst xs)/\tV xs.length k=fv j/\Q (upd H p (.lst (xs.set j v)))
theorem set_list:oR X L8:=by
 intro pins s σ H o i v ov iv u Q I ro ri rv h;obtain⟨p,xs,k,j,rfl,rfl,hp,hj,q⟩:=h;cases ro;obtain⟨t,rfl⟩:=ri;obtain⟨az,n,r,ho,hz⟩:=I.lst hp;obtain⟨h1,h2,h3,h4⟩:=wk hj;have hl:=r.length;have hn:=ku;have I' :=
  I.Le hp ho (uM az n j u) (r.set rv j) (by rw[aaa];exact hz) s.toks
 by_cases h0:0<=k
 . have hk:k.toNat=j:=by
    rw[Z2 h0 h4] at h1;exact Ud h1
   exact PySem.W.ki_setAt ho h0 (by omega) (by rw[TK,<- hl];exact h4) (by rw[hk];exact⟨_,I',q⟩)
 . have hk:(k+(az.toArray.size)).toNat=j:=by
    rw[ZE (by omega) h3] at h1;rw[TK,<- hl];exact Ud h1
   exact PySem.W.ki_setBack ho (by omega) (by simp_all) (by omega) (by rw[hk];exact⟨_,I',q⟩)
theorem qg lo hi n:(Xq lo hi SU n).1=((HT.eF n 0 lo))/\(Xq lo hi SU n).2.1=((HT.eF n n hi))/\(Xq lo hi SU n).2.2=1:=by
 refine⟨?_,?_,rfl⟩
 . cases lo with
   | none=>rfl
   | some i =>
    simp only[Xq,HT.eF,ZT,show(1:Int) > 0 by decide,if_true]
    by_cases h:i < 0
    . simp only[h,if_true]<;>omega
    . simp only[h,if_false]<;>omega
 . cases hi with
   | none=>rfl
   | some i =>
    simp only[Xq,HT.eF,ZT,show(1:Int) > 0 by decide,if_true]
    by_cases h:i < 0
    . simp only[h,if_true]<;>omega
    . simp only[h,if_false]<;>omega
theorem o8(az:List S5) lo hi:slicePick az.toArray lo hi SU=((az.drop (HT.eF az.length 0 lo)).take (HT.eF az.length az.length hi - HT.eF az.length 0 lo)).toArray:=by
 obtain⟨h1,h2,h3⟩:=qg lo hi az.toArray.size;unfold slicePick;rw[h1,h2,h3];simp only[sliceRange_one,pick_run]<;>rfl
def LJ(K:SV):V->Option Int->Option Int->Hp->VK->Prop:=λx lo hi H Q=> ∃ a xs,x= .ref a/\gi K H a xs/\ ∀ p,H p=SU->Q (.ref p) (upd H p (.lst (lL xs lo hi)))
theorem ES:BV X (LJ X.K):=by
 intro pins s σ H x v vl vu lo hi sl Q I rx hs pl pu h;obtain⟨a,xs,rfl,hx,q⟩:=h;cases rx;obtain⟨az,r,ht,hz⟩:=I.list hx;have hlen:=r.length;refine⟨"list",_,ZF.lookup,ht.isList.typeIs,?_⟩;refine wpAny_getItem_list_slice ht.isList hs pl pu .none (by simp) ?_ (by simp_all);rw[o8,<- hlen];refine⟨.ref s.heap.objs.size,_,I.laid (t':=s.toks) (o:= .lst (lL xs lo hi)) (λb ob q=>S0 _ q) (Te _) ?_,rfl,q _ (I.bL.fresh (Te _))⟩;exact⟨Ua (lh xs lo hi) hz,_,0,(r.drop (HT.eF xs.length 0 lo)).take (HT.eF xs.length xs.length hi - HT.eF xs.length 0 lo),Tr _ rfl⟩
noncomputable def hZ:V->Bool
 | .non=>true
 | .bl _=>true
 | .int _=>true
 | .str _=>true
 | _=>false
noncomputable def Cv:V->V->Bool
 | .non,.non=>true
 | .bl a,.bl b=>a == b
 | .bl a,.int b=>(if a then 1 else 0) == b
 | .int a,.bl b=>a == (if b then 1 else 0)
 | .int a,.int b=>a == b
 | .str a,.str b=>a == b
 | _,_=>false
theorem HD(ry:RelV y u)(rx:RelV x v)(fy:hZ y=true)(fx:hZ x=true):aal A s u v (Cv y x):=by
 cases y with
 | non =>
  cases ry
  cases x with
  | non=>cases rx;exact SeqAt.EqAt.same _
  | bl b=>cases rx;exact SeqAt.EqAt.none_bool b
  | int b=>obtain⟨t,rfl⟩:=rx;exact SeqAt.EqAt.none_int b t
  | str b=>obtain⟨t,rfl⟩:=rx;exact SeqAt.EqAt.none_str b t
  | _=>exact absurd (show false=true from fx) Tn
 | bl a =>
  cases ry
  cases x with
  | non=>cases rx;exact SeqAt.EqAt.bool_none a
  | bl b=>cases rx;exact SeqAt.EqAt.bool_bool a b
  | int b=>obtain⟨t,rfl⟩:=rx;exact SeqAt.EqAt.bool_int a b t
  | str b=>obtain⟨t,rfl⟩:=rx;exact SeqAt.EqAt.bool_str a b t
  | _=>exact absurd (show false=true from fx) Tn
 | int a =>
  obtain⟨t',rfl⟩:=ry
  cases x with
  | non=>cases rx;exact SeqAt.EqAt.int_none a t'
  | bl b=>cases rx;exact SeqAt.EqAt.int_bool a t' b
  | int b=>obtain⟨t,rfl⟩:=rx;exact SeqAt.EqAt.int_int a t' b t
  | str b=>obtain⟨t,rfl⟩:=rx;exact Zi a t' b t
  | _=>exact absurd (show false=true from fx) Tn
 | str a =>
  obtain⟨t',rfl⟩:=ry
  cases x with
  | non=>cases rx;exact SeqAt.EqAt.str_none a t'
  | bl b=>cases rx;exact SeqAt.EqAt.str_bool a t' b
  | int b=>obtain⟨t,rfl⟩:=rx;exact Zj a t' b t
  | str b=>obtain⟨t,rfl⟩:=rx;exact SeqAt.EqAt.str_str a t' b t
  | _=>exact absurd (show false=true from fx) Tn
 | _=>exact absurd (show false=true from fy) Tn
def uK x (u:S5):=match u with
 | .none=>Cv .non x
 | .bool b=>Cv (.bl b) x
 | .int i _=>Cv (.int i) x
 | .str z _=>Cv (.str z) x
 | _=>false
theorem yI(r:RelV y u)(f:hZ y=true):uK x u=Cv y x:=by
 cases y with
 | non=>cases r;rfl
 | bl b=>cases r;rfl
 | int i=>obtain⟨t,rfl⟩:=r;rfl
 | str z=>obtain⟨t,rfl⟩:=r;rfl
 | _=>exact absurd (show false=true from f) Tn
theorem kc: ∀{xs us},Vals xs us->xs.all hZ=true->us.any (uK x)=xs.any λy=>Cv y x
 | _,_,.nil,_=>rfl
 | y::xs,u::us,.cons r t,f=>by
  rw[Ub,Td] at f;rw[UX,UX,yI r f.1,kc t f.2]
theorem iM(rx:RelV x v)(fx:hZ x=true): ∀{xs us},Vals xs us->xs.all hZ=true-> ∀ u∈us,aal A s u v (uK x u)
 | _,_,.nil,_=>λu hu=>by cases hu
 | y::xs,u::us,.cons r t,f=>λu' hu=>by
  rw[Ub,Td] at f;rcases Tq.mp hu with rfl | hu
  . rw[yI r f.1];exact HD r rx f.1 fx
  . exact iM rx fx t f.2 u' hu
def LI x (xs:List V):=xs.any λy=>Cv y x
def R4(K:SV)(neg:Bool):R2:=λx y H Q=> ∃ p xs,y= .ref p/\(gi K H p xs\/fB K H p xs)/\hZ x=true/\xs.all hZ=true/\Q (.bl (if neg then !LI x xs else LI x xs)) H
theorem w6:cG X (Tw .In) (R4 X.K false):=by
 intro pins s σ H x y v u Q I rx ry h;obtain⟨p,xs,rfl,hq,fx,fs,q⟩:=h;cases ry;rcases hq with hq | hq
 . obtain⟨az,r,pl,hz⟩:=I.list hq;refine aab (uK x) pl.isList (λw hw=>iM rx fx r fs w (by simpa using hw)) ⟨.bl _,H,I,rfl,?_⟩;rw[show az.toArray.any (uK x)=az.any (uK x) by simp,kc r fs];exact q
 . obtain⟨az,r,pl,hz⟩:=I.tuple hq;refine SeqAt.in_tupleAt (uK x) pl (λw hw=>iM rx fx r fs w (by simpa using hw)) ⟨.bl _,H,I,rfl,?_⟩;rw[show az.toArray.any (uK x)=az.any (uK x) by simp,kc r fs];exact q
theorem ql:cG X (Tw .NotIn) (R4 X.K true):=by
 intro pins s σ H x y v u Q I rx ry h;obtain⟨p,xs,rfl,hq,fx,fs,q⟩:=h;cases ry;rcases hq with hq | hq
 . obtain⟨az,r,pl,hz⟩:=I.list hq;refine SeqAt.notIn_listAt (uK x) pl.isList (λw hw=>iM rx fx r fs w (by simpa using hw)) ⟨.bl _,H,I,rfl,?_⟩;rw[show az.toArray.any (uK x)=az.any (uK x) by simp,kc r fs];exact q
 . obtain⟨az,r,pl,hz⟩:=I.tuple hq;refine SeqAt.notIn_tupleAt (uK x) pl (λw hw=>iM rx fx r fs w (by simpa using hw)) ⟨.bl _,H,I,rfl,?_⟩;rw[show az.toArray.any (uK x)=az.any (uK x) by simp,kc r fs];exact q
theorem qr:cG X (Tw .NotIn) (λx y H Q=> ∃ i j,x= .str i/\y= .str j/\Q (.bl (!(!(UG j i 0 j.length 1).isEmpty))) H):=by
 intro pins s σ H x y v u Q I rx ry h;obtain⟨i,j,rfl,rfl,q⟩:=h;obtain⟨t,rfl⟩:=rx;obtain⟨t',rfl⟩:=ry;exact notIn_str ⟨.bl _,H,I,rfl,q⟩
theorem qu:bO X (.builtin "len") (λxs H Q=> ∃ p ys,xs=[.ref p]/\(gi X.K H p ys\/fB X.K H p ys)/\Q (.int ys.length) H):=by
 intro pins s σ H xs us Q I r h;obtain⟨p,ys,rfl,hq,q⟩:=h;obtain⟨u,rfl,rx⟩:=vals1 r;cases rx;have hn:=ku;rcases hq with hq | hq
 . obtain⟨az,r',pl,hz⟩:=I.list hq;have hlen:=r'.length;exact Calls.call_len_list pl.isList (by simp only[TK]<;>omega) ⟨.int ys.length,H,I.tok _,⟨s.toks+1,by rw[TK,hlen]⟩,q⟩
 . obtain⟨az,r',pl,hz⟩:=I.tuple hq;have hlen:=r'.length;exact len_tuple pl (by simp only[TK]<;>omega) ⟨.int ys.length,H,I.tok _,⟨s.toks+1,by rw[TK,hlen]⟩,q⟩
theorem qw:bO X (.builtin "len") (λxs H Q=> ∃ z,xs=[.str z]/\z.length<=Ta/\Q (.int z.length) H):=by
 intro pins s σ H xs us Q I r h;obtain⟨z,rfl,hz,q⟩:=h;obtain⟨u,rfl,t,rfl⟩:=vals1 r;have hn:=ku;exact len_str (by omega) ⟨.int z.length,H,I.tok _,⟨_,rfl⟩,q⟩
theorem bO.or(h:bO X f r)(h':bO X f r'):bO X f (λxs H Q=>r xs H Q\/r' xs H Q):=by
 intro pins s σ H xs us Q I rs q;rcases q with q | q
 . exact h pins s σ H xs us Q I rs q
 . exact h' pins s σ H xs us Q I rs q
theorem qD:bO X (.type "list") (λxs H Q=> ∃ p ys,xs=[.ref p]/\(gi X.K H p ys\/fB X.K H p ys)/\ ∀ l,H l=SU->Q (.ref l) (upd H l (.lst ys))):=by
 intro pins s σ H xs us Q I r h;obtain⟨p,ys,rfl,hq,q⟩:=h;obtain⟨u,rfl,rx⟩:=vals1 r;cases rx;have fin: ∀(az:List S5),Vals ys az->ys.length<=Ta-> ∀(h':UU)(c':Nat),(∀ b o',s.heap.get? b=fv o'->h'.get? b=fv o') ->
   h'.get? s.heap.objs.size=fv { cls:= .type "list",dict:=SU,data:= .seq az.toArray c',slots:= #[]}->EP X pins σ Q (.ref s.heap.objs.size) { s with heap:=h'}:=λaz r' hz h' c' kp e =>
  ⟨.ref s.heap.objs.size,_,I.laid (t':=s.toks) kp (Te _) (show bF X.prog X.w _ h' _ (.lst ys) from⟨hz,az,c',r',e⟩),rfl,q _ (I.bL.fresh (Te _))⟩
 rcases hq with hq | hq
 . obtain⟨az,r',pl,hz⟩:=I.list hq;have hlen:=r'.length;obtain⟨o,ho,hc,n,hd⟩:=pl.isList;exact call_list_seq p (.inl rfl) ho hc hd (λh' c' kp e=>fin az r' hz h' c' kp e) (by simp only[TK]<;>omega)
 . obtain⟨az,r',pl,hz⟩:=I.tuple hq;have hlen:=r'.length;obtain⟨o,ho,hc,n,hd⟩:=pl;exact call_list_seq p (.inr rfl) ho hc hd (λh' c' kp e=>fin az r' hz h' c' kp e) (by simp only[TK]<;>omega)
theorem oT:bO X (.type "tuple") (λxs H Q=> ∃ p ys,xs=[.ref p]/\((gi X.K H p ys/\ ∀ l,H l=SU->Q (.ref l) (upd H l (.tup ys)))\/(fB X.K H p ys/\Q (.ref p) H))):=by
 intro pins s σ H xs us Q I r h;obtain⟨p,ys,rfl,h⟩:=h;obtain⟨u,rfl,rx⟩:=vals1 r;cases rx;rcases h with⟨hq,q⟩ | ⟨hq,q⟩
 . obtain⟨az,r',pl,hz⟩:=I.list hq;have hlen:=r'.length;refine call_tuple_list pl.isList (λh' kp=>?_) (by simp_all);have I1:=I.kept (t':=s.toks) kp;have I2 :=
    I1.laid (t':=s.toks) (λb o e=>S0 _ e) (Te _) (show bF X.prog X.w _ _ _ (.tup ys) from⟨hz,az,r',oK.new _ _⟩)
   exact⟨.ref h'.objs.size,_,I2,rfl,q _ (I1.bL.fresh (Te _))⟩
 . obtain⟨az,r',pl,hz⟩:=I.tuple hq;exact call_tuple_same pl ⟨.ref p,H,I,rfl,q⟩
def Lo(K:SV)(T:String)(x:V)(H:Hp):Prop:=match x with
 | .str _=>T= "str"
 | .int _=>T= "int"
 | .ref p=>(T= "list" /\ ∃ xs,gi K H p xs)\/(T= "tuple" /\ ∃ o,K.lookup p=fv o/\o.cls= .type "tuple" /\o.dict=SU) \/
   (T= "dict" /\((∃ kvs,H p=fv (.dK kvs))\/ ∃ kvs,H p=fv (.dT kvs)))\/(T= "set" /\ ∃ S n,H p=fv (.set S n))
 | _=>False
theorem GO{σ :St}(I:Inv X pins σ H s)(r:RelV x v)(ty:Lo X.K T x H) :
  s.TypeIs v T/\ ∀ a,v= .ref a-> ∃ ob,s.heap.get? a=fv ob/\ob.dict=SU:=by
 cases x with
 | str z =>
  obtain⟨t,rfl⟩:=r
  cases(show T= "str" from ty)
  exact⟨Wq s z t,λ_ e=>by cases e⟩
 | int i =>
  obtain⟨t,rfl⟩:=r
  cases(show T= "int" from ty)
  exact⟨X9 s i t,λ_ e=>by cases e⟩
 | ref p =>
  cases r
  rcases ty with⟨rfl,xs,hq⟩ | ⟨rfl,o,hk,hc,hd⟩ | ⟨rfl,hk⟩ | ⟨rfl,S,n,hk⟩
  . obtain⟨az,_,pl,_⟩:=I.list hq;refine⟨pl.isList.typeIs,λa e=>?_⟩;cases e;obtain⟨o,n,e,c,hd,_⟩:=pl;exact⟨o,e,hd⟩
  . refine⟨⟨o,I.ko p o hk,hc⟩,λa e=>?_⟩;cases e;exact⟨o,I.ko _ o hk,hd⟩
  . have z: ∃ o,s.heap.get? p=fv o/\o.ExactDict:=by
     rcases hk with⟨kvs,hk⟩ | ⟨kvs,hk⟩
     . obtain⟨_,_,_,_,o,_,_,e,ex,_⟩:=I.bL p _ hk;exact⟨o,e,ex⟩
     . obtain⟨_,_,_,_,o,_,_,e,ex,_⟩:=I.bL p _ hk;exact⟨o,e,ex⟩
    obtain⟨o,e,ex⟩:=z;refine⟨⟨o,e,ex.1⟩,λa e2=>?_⟩;cases e2;exact⟨o,e,ex.2.1⟩
  . obtain⟨o,_,_,_,e,ex,_⟩:=I.bL p _ hk;refine⟨⟨o,e,ex.1⟩,λa e2=>?_⟩;cases e2;exact⟨o,e,ex.2.1⟩
 | _=>exact U6 ty
noncomputable def Sa(K:SV)(T:String)(r:V->List V->Hp->VK->Prop)(to:TE)(t:TA):TE:=fun σ H Q=>to σ H λx H1=>Lo K T x H1/\t σ H1 λxs H2=>r x xs H2 Q
variable{o e:Uh}{es:List Uh}{to:TE}{t:TA}{name:Str}{apos cpos:Pos}{T id:String}{r:V->List V->Hp->VK->Prop}
theorem Mf(pa:PlainAttrs T)(slot:Slot T name id)(hty:typeOf (.builtin id)=pure (.type "method_descriptor"))(hm:zG X id r)(ho:PE X o to)(ha:PA X (e::es) t)
  (hbase:Wg o name X.env (Vl o X.env)=Vl o X.env:=by rfl)
  (hfew:((WC cpos (Ue (e::es) X.env)).all (λx=> !x.1)&&(backToKw cpos (Z3 [] X.env)).all (λx=>x.1.isSome)
   && decide ((e::es).length+([]:List YX).length+(if ([]:List YX).isEmpty then 0 else 1) < 30))=true:=by rfl)
  (hline:(apos.endLine == cpos.line)=true:=by rfl) (hs:Ue (e::es) X.env=(false,Vl e X.env)::Ue es X.env:=by rfl) (hplain:(WC cpos (Ue es X.env)).any (·.1)=false:=by rfl) :
  PE X (.Call (.Attribute o name apos) (e::es) [] cpos) (Sa X.K T r to t):=by
 intro pins s σ H Q I h;refine wpAny_Call_method_late hbase hfew hline rfl (iq (ho pins s σ H _ I h) λv s1 x H1 I1 r1 ⟨ty,q1⟩=>?_);obtain⟨h1,h2⟩:=GO I1 r1 ty;refine⟨T,id,pa,slot,hty,h1,h2,?_⟩;have hA:=ha cpos pins s1 σ H1 _ I1 q1;rw[hs] at hA ⊢;refine Ya (by show(false||(WC cpos (Ue es X.env)).any (·.1))=false;rw[hplain]<;>rfl) (YE ?_)
 exact Eo hA λus s2 vs H2 I2 r2 q2=>hm pins s2 σ H2 x vs v us Q I2 r1 r2 q2
/- xs.append(e),list.index on a module's tuple .. are zG facts of 06m -/
end
def O9 X (id:String) (r:V->List V->Hp->VK->Prop) :=
 ∀ pins s(σ :St) H x xs v us Q,Inv X pins σ H s->RelV x v->Vals xs us->r x xs H Q ->
  TC (TM X.prog X.w) X.A (call (.builtin id) (v::us)) (EP X pins σ Q) X.xe s
theorem Vals.one{x:V}{us:List S5}(h:Vals [x] us): ∃ u,us=[u]/\RelV x u:=by
 cases h with
 | cons r t=>cases t;exact⟨_,rfl,r⟩
theorem Vals.two{x y:V}{us:List S5}(h:Vals [x,y] us): ∃ u v,us=[u,v]/\RelV x u/\RelV y v:=by
 cases h with
 | cons r t=>cases t with
  | cons q t=>cases t;exact⟨_,_,rfl,r,q⟩
theorem Vals.zero: ∀{us},Vals [] us->us=[]
 | _,.nil=>rfl
theorem Vals.rep(h:Vals xs us): ∀ k ,Vals (S4 k xs).flatten (S4 k us).flatten
 | 0=> .nil
 | k+1=>by
  exact Vals.append h (Vals.rep h k)
theorem foldl_rep(az:List S5): ∀ k acc,
  aam (λx1 x2=>x1++x2) acc.toArray (S4 k az.toArray)=(acc++(S4 k az).flatten).toArray
 | 0,acc=>by simp
 | k+1,acc=>by
  have e:acc.toArray++az.toArray=(acc++az).toArray:=by simp
  have e2:(acc++az)++(S4 k az).flatten=acc++(S4 (k+1) az).flatten:=by
   rw[Y3,List.flatten_cons,SY]
  rw[<- e2,<- foldl_rep az k (acc++az),<- e,Y3,List.foldl_cons]
section
variable{X:Cx}{pins:List (Tp × Obj)}{σ :St}{H:Hp}{s:Tc}{l b:Tp}{xs ys zs:List V}
theorem Inv.Mt{az its':List S5}{n:Nat}{f:Array S5->Array S5}{t':Nat}(I:Inv X pins σ H s)(hH:H l=fv (.lst xs))
  (e:s.heap.get? l=fv { cls:= .type "list",data:= .seq az.toArray n}) (hf:f az.toArray=its'.toArray) (hv:Vals ys its') (hz:ys.length<=Ta) :
  Inv X pins σ (upd H l (.lst ys)) { s with heap:=s.heap.update l (Zp f),toks:=t'}:=by
 have q:=PySem.IsL.update e f;rw[hf] at q;refine I.write (x:=l) (e:=l) (by rw[hH];exact trivial) (.inl rfl) (λb' u hb hu=>(X8 s.heap (Zp f) (V1 hb)).trans hu) ⟨_,q⟩ ?_;exact⟨hz,its',_,hv,q⟩
theorem Inv.LL(I:Inv X pins σ H s)(hv:Vals ys az)(hz:ys.length<=Ta) :
  Inv X pins σ (upd H s.heap.objs.size (.lst ys)) { s with heap:=s.heap.push { cls:= .type "list",data:= .seq az.toArray},toks:=t'} :=
 I.laid (λ_ _ q=>S0 _ q) (Te _) ⟨hz,az,0,hv,Tr _ rfl⟩
theorem Inv.fresh(I:Inv X pins σ H s):H s.heap.objs.size=SU:=I.bL.fresh (Te _)
theorem Inv.rD(I:Inv X pins σ H s)(hH:H l=fv (.lst xs)):xs.length<=Ta/\ ∃(az:List S5)(n:Nat),Vals xs az/\xs.length=az.length/\s.heap.get? l=fv { cls:= .type "list",data:= .seq az.toArray n}:=by
 obtain⟨z,az,n,r,e⟩:=I.bL l _ hH;exact⟨z,az,n,r,r.length,e⟩
theorem sW(h:n<=Ta):Wh n=false:=by
 exact decide_eq_false (by omega)
end
section
variable{X:Cx}
def Cc:V->List V->Hp->VK->Prop:=λx vs H Q=> ∃ l xs y,x= .ref l/\vs=[y]/\H l=fv (.lst xs)/\xs.length < Ta/\Q .non (upd H l (.lst (xs++[y])))
theorem yq:O9 X "list.append" Cc:=by
 intro pins s σ H x vs v us Q I rx rv h;obtain⟨l,xs,y,rfl,rfl,hH,hz,q⟩:=h;cases rx;obtain⟨u,rfl,ru⟩:=rv.one;obtain⟨z,az,n,r,hl,e⟩:=I.rD hH;refine UQ F.slot_list_append ⟨_,e,rfl⟩ F.entry_list_append (F.args_list_append_2 _ _) (PySem.list_append l az.toArray n u (by simp_all)) ⟨e,?_⟩;refine⟨.non,_,I.Mt (its':=az++[u]) hH e (by simp) (r.append (.cons ru .nil)) ?_,rfl,q⟩;rw[S1,UT];omega
def C7:V->List V->Hp->VK->Prop:=λx vs H Q=> ∃ l b xs zs,x= .ref l/\vs=[.ref b]/\H l=fv (.lst xs)/\H b=fv (.lst zs)/\xs.length+zs.length<=Ta/\Q .non (upd H l (.lst (xs++zs)))
theorem yf:O9 X "list.extend" C7:=by
 intro pins s σ H x vs v us Q I rx rv h;obtain⟨l,b,xs,zs,rfl,rfl,hH,hB,hz,q⟩:=h;cases rx;obtain⟨u,rfl,ru⟩:=rv.one;cases ru;obtain⟨z,az,n,r,hl,e⟩:=I.rD hH;obtain⟨z2,its2,n2,r2,hl2,e2⟩:=I.rD hB;have hsz:az.toArray.size+its2.toArray.size<=Ta:=by rw[TK,TK];omega
 have hlong: ¬ (!az.toArray.isEmpty&&Wh (az.toArray.size+its2.toArray.size))=true:=by
  rw[sW hsz,YF];exact Tn
 refine UQ F.slot_list_extend ⟨_,e,rfl⟩ F.entry_list_extend (F.args_list_extend_2 _ _)
  (AutoSeq1.list_extend_list_list_0 l az.toArray n b its2.toArray n2 hlong (by rw[TK];omega) (by omega)) ⟨e,e2,?_⟩
 refine⟨.non,_,I.Mt (its':=az++its2) hH e (by simp) (r.append r2) ?_,rfl,q⟩;rw[S1];omega
def NZ:R2:=λx y H Q=> ∃ l b xs zs,x= .ref l/\y= .ref b/\H l=fv (.lst xs)/\H b=fv (.lst zs)/\xs.length+zs.length<=Ta/\ ∀ p,H p=SU->Q (.ref p) (upd H p (.lst (xs++zs)))
theorem Ky:cG X (UP .Add) NZ:=by
 intro pins s σ H x y v u Q I rx ry h;obtain⟨l,b,xs,zs,rfl,rfl,hH,hB,hz,q⟩:=h;cases rx;cases ry;obtain⟨z,az,n,r,hl,e⟩:=I.rD hH;obtain⟨z2,its2,n2,r2,hl2,e2⟩:=I.rD hB;refine PySem.P.add_list e e2 ?_ (by simp_all);have ea:az.toArray++its2.toArray=(az++its2).toArray:=by simp
 rw[ea];exact⟨.ref _,_,I.LL (t':=s.toks) (r.append r2) (by rw[S1];omega),rfl,q _ I.fresh⟩
def Px:R2:=λx y H Q=> ∃ l k xs,x= .ref l/\y= .int k/\H l=fv (.lst xs)/\ -(2 ^ 63)<=k/\k < 2 ^ 63/\xs.length*k.toNat<=Ta /\
 ∀ p,H p=SU->Q (.ref p) (upd H p (.lst (S4 k.toNat xs).flatten))
theorem len_rep{α :Type}(xs:List α) k:(S4 k xs).flatten.length=k*xs.length:=by
 simp_all
theorem Gx:cG X (UP .Mult) Px:=by
 intro pins s σ H x y v u Q I rx ry h;obtain⟨l,k,xs,rfl,rfl,hH,h1,h2,hz,q⟩:=h;cases rx;obtain⟨t,rfl⟩:=ry;obtain⟨z,az,n,r,hl,e⟩:=I.rD hH;have hlen:az.toArray.size*k.toNat<=Ta:=by rw[TK,<- hl];exact hz
 have hcap: ¬ az.toArray.size*k.toNat > (2 ^ 63 - 1) / 8:=by
  have:(Ta)<=(2 ^ 63 - 1) / 8:=by decide
  omega
 have hfit: ¬ (!Builtin.List.listFitsIndex k)=true:=by
  rw[fitsIndex_both h1 h2];exact Tn
 have hlong: ¬ Wh (az.toArray.size*k.toNat)=true:=by
  rw[sW hlen];exact Tn
 have hnew:aam (λx1 x2=>x1++x2) #[] (S4 (if az.toArray.isEmpty=true then 0 else k.toNat) az.toArray)=(S4 k.toNat az).flatten.toArray:=by
  have f0:=λm=>by
   have:=foldl_rep az m [];rw[TB] at this;exact this
  rw[f0];cases az with
  | nil=>simp
  | cons a r'=>rfl
 refine Xi (T:= "list") (U:= "int") (by decide) ⟨_,e,rfl⟩ (λs'=>X9 s' k t) noFill_list_mul F.fills_int_mul F.slot_int_rmul repeat_list F.slot_int_index.lookup
  (UQ F.slot_int_rmul (X9 s k t) F.entry_int_rmul (F.args_int_rmul_2 _ _) (int___rmul___int_list k t l az.toArray n)
   ⟨e,rfl,⟨_,e,rfl⟩,UQ F.slot_list_mul ⟨_,e,rfl⟩ F.entry_list_mul (F.args_list_mul_2 _ _) (AutoListH.list___mul___list_int_3 l az.toArray n k t hfit hcap hlong) ⟨e,?_⟩⟩)
 rw[hnew];exact⟨.ref _,_,I.LL (t':=s.toks) (r.rep k.toNat) (by rw[len_rep,WZ];exact hz),rfl,q _ I.fresh⟩
end
end L2
namespace Att
open PySem PySem.W PySem.Calls PyProof.Rows
theorem lP: ∀ ns vs,WellAll P h vs (ns.map WData.int)->ZD vs ns:=by
 intro ns
 induction ns with
 | nil =>
  intro vs w
  cases w
  exact .nil
 | cons n ns ih =>
  intro vs w
  cases w with
  | cons a b =>
   cases a
   exact .cons _ _ (ih _ b)
theorem xN{l : WN}(hn : l.most = fv n) 
    (hpre : l.row.toRowW.claim.pre args = true) (hwl : WellAll P h vals args) :
    ∃ a vs ns, vals = [Tx a] /\ args = [WData.list (ns.map WData.int)] /\ h.get? a = fv { cls := .type "list", data := .seq vs.toArray} /\ ZD vs ns /\ ns.length <= n := by
  have hsh : WShape.hasAll [] args [.list .int] = true := (pre_splitW hpre).1;have hc : l.pre.holds [] { args := args} = true := (pre_splitW hpre).2;obtain ⟨d, r, rfl, h1, h2⟩ := hasAllW_cons hsh;obtain rfl := hasAllW_nil h2;obtain ⟨xs, rfl, h3⟩ := hasW_list h1;obtain ⟨ns, rfl⟩ := items_int h3;have hlen : ns.length <= n := by
    have h4 : (WTm.not (.lt (.lit (.int (n))) (.len (.arg 0)))).holds [] { args := [.list (ns.map .int)]} = true := by
      have h4 := (holds_andW hc).1;rw [hn] at h4;exact h4
    have h5 := condW_of h4 (w_not (w_lt w_lit (w_len_list (w_arg rfl))))
    first
      | (exact absurd h5 (by decide))
      | (simp at h5; omega)
  cases hwl with
  | cons w1 w2 =>
    cases w2
    cases w1 with
    | list ho hall => exact ⟨_, _, ns, rfl, rfl, ho, lP ns _ hall, hlen⟩
theorem wW(l:WN) args:l.row.toRowW.claim.post args (.bool true) args=true :=
 postW_of (r:=l.row.toRowW) (X:=(true == true))
  (show WShape.has [] (.bool true) .bool=true by first | rfl | decide | simp [WShape.arms])
  (show(WTm.eq .res (.lit (.bool true))).value [] { args:=args,res:=fv (.bool true),after:=args}=fv (.bool (true == true)) from w_eq_bool (w_res rfl) w_lit) rfl
theorem sM{l:WN}{n:Nat}{q:Ug}{loose:List Str}{XP:(Str->Option S5)->UU->Prop}{YP:Uz->UU->Prop}{d:DefRec}
  (hn:l.most=fv n) (hdf:d.params.defaults=[])
  (call: ∀(w:Uz)(s₀ s₁ :Tc)(mg mb:Str->Option S5)(fa:Tp)(o:Obj)(pm cd doc:S5)(a:Tp)(vs:List S5)(ns:List Int),
   Ground q loose [] XP w s₀ mg mb s₁.heap->YP w s₁.heap ->
   s₁.heap.get? fa=fv o->o.data= .func (docDef d.name d.params d.body d.scope pm cd doc)->s₁.heap.CodeRec cd d.name->mg d.name=fv (.ref fa) ->
   s₁.heap.get? a=fv { cls:= .type "list",data:= .seq vs.toArray}->ZD vs ns->ns.length<=n->s₁.gens= #[] ->
   XY (TM l.prog w) YY (.call (.ref fa) ⟨[.ref a],[]⟩) (λr s'=>r= .ok (.ret (.bool true))/\OldK s₁.heap s'.heap/\s'.os=s₁.os/\Xn s'.gens) s₁) :
  aai q loose XP YP l.row.toRowW d [] (λf vs=>aan f vs):=by
 intro w s₀ s₁ mg mb G Y fa o pm cd doc dV kV ho hd hcd hD hmg hg args vals as hpre hlay hrd hwl hlo;obtain rfl:dV= .none:=Dflts.none hD hdf;obtain rfl:kV= .none:=Dflts.noKw hD;obtain⟨a,vs,ns,rfl,rfl,hobj,hints,hlen⟩:=xN hn hpre hwl;refine enter_call (WX (call w s₀ s₁ mg mb fa o pm cd doc a vs ns G Y ho (fd_plain hd) hcd hmg hobj hints hlen hg) λr s' hq=>?_);obtain⟨rfl,h2,h3,h4⟩:=hq;exact⟨.inl ⟨.bool true,.bool true,[],rfl,λ_=>rfl,.bool true,wW l _,λ_=>⟨List.Pairwise.nil,λ_ hm=>(by cases hm)⟩⟩,h2,h3,h4⟩
section
variable{prog:Ug}{w:Uz}{A:U5}{E:S5->Tc->Prop}{s:Tc}{K:SV}
noncomputable def ledger(h:UU) L d:=(Vi h.objs.size).filterMap λa=>if a=L\/a=d then SU else(h.get? a).map λo=>(a,o)
end
end Att
namespace L2
open PySem PySem.Spec PyProof.Rows
theorem pY: ∀{vs ns},ZD vs ns->Vals (ns.map V.int) vs
 | _,_,.nil=> .nil
 | _,_,.cons n t h=> .cons ⟨t,rfl⟩ (pY h)
def zF(H:Hp):= ∀ b,H b=SU\/ ∃ o xs,H b=fv (.jL o (.lst xs))
theorem zQ{K} 
  (KX:K.In s₁.heap) (hns:s₁.heap.Ns TX mg) (hb:s₁.heap.Ns builtinsNs mb) (hbb: ∀ x:Str,x≠ "__name__" ->mb x=UN x) (hlim:s₁.heap.NoLimit) (hg:s₁.gens= #[])
  (ha:s₁.heap.get? a=fv { cls:= .type "list",data:= .seq vs.toArray}) (hi:ZD vs ns) (hl:ns.length<=Ta) (hr:dO k YY)
  (F: ∀ base ,K.In base->base.Ns TX mg->j6 P w K mg base CX k fa fd [x] sp) (hbind: ∀ s u,XX s fd ⟨[u],[]⟩ [(x,u)])
  (hsp: ∀ H ,zF H->gi K H a (ns.map V.int)->sp [.ref a] H (λv _=>v= .bl true) λ_ _ _=>False)
  (hCX: ∀ H e s',CX [] H s₁ (λ_ _ _=>False) e s'->False) :
  XY (TM P w) YY (.call (.ref fa) ⟨[.ref a],[]⟩) (λr s'=>r= .ok (.ret (.bool true))/\OldK s₁.heap s'.heap/\s'.os=s₁.os/\Xn s'.gens) s₁ :=by
 have rv:=pY hi;have lenV:=hi.length;have core: ∀ H ,zF H->gi K H a (ns.map V.int)->jM P w H s₁.heap->(∀ b,H b≠SU->b=a)->(H a≠SU->K.lookup a=SU) ->
   XY (TM P w) YY (.call (.ref fa) ⟨[.ref a],[]⟩) (λr s'=>r= .ok (.ret (.bool true))/\OldK s₁.heap s'.heap/\s'.os=s₁.os/\Xn s'.gens) s₁ :=by
  intro H hO hS bL hA hK;have base_of: ∀{b:Tp}{o:Obj},s₁.heap.get? b=fv o->H b=SU->(tO s₁.heap H).get? b=fv o:=λe n=>Az e n;have noA: ∀{b:Tp}{o:Obj}{es:Array ZU}{ep:Nat},s₁.heap.get? b=fv o->o.data= .dict es ep->H b=SU:=λ{b o es ep} e d=>by
   cases q:H b with
   | none=>rfl
   | some u =>
    have e':=hA b (by rw[q];simp)
    subst e'
    rw[ha] at e;cases e
    have d':=d
    cases d'
  have nsK: ∀{b:Tp}{m:Str->Option S5},s₁.heap.Ns b m->(tO s₁.heap H).Ns b m:=λ{b m}=>by rintro ⟨o,es,ep,e,d,r⟩;exact⟨o,es,ep,base_of e (noA e d),d,r⟩
  have hKb:=λb o e=>base_of (KX b o e) (by
   cases q:H b with
   | none=>rfl
   | some u =>
    have e':=hA b (by rw[q];simp)
    subst e'
    rw[hK (by rw[q];simp)] at e;cases e)
  have hM:Mod K mg (tO s₁.heap H):=⟨hKb,nsK hns,⟨mb,nsK hb,hbb⟩,by obtain⟨mc,h1,h2⟩:=hlim;exact⟨mc,nsK h1,h2⟩⟩
  have e0:ve P w K mg (tO s₁.heap H) YY [] s₁ H:=⟨rfl,hM,λb o e=>Ds e,Nat.le_of_eq (xT _ _),trivial,λb hb=>absurd (show b∈([]) from hb) (by simp),bL,.of_eq hg⟩
  refine WX ((F _ hKb (nsK hns)).run YY [] s₁ H ⟨[.ref a],[]⟩ [.ref a] [.ref a] _ _ hr e0 (hbind s₁ (.ref a)) (.cons rfl .nil) (hsp H hO hS)) λr s' h=>?_;cases r with
  | error e=>exact(hCX H e s' h).elim
  | ok fl =>
   cases fl with
   | next=>exact U6 h
   | brk=>exact U6 h
   | cont=>exact U6 h
   | ret u =>
    obtain⟨v,H',os,bare,un,hok',r',q⟩:=h
    have q':=q
    subst q'
    obtain rfl:u=W7 true:=r'
    refine⟨rfl,OldK.of_keep λb o e=>?_,os,bare⟩
    cases q:H b with
    | none=>exact un.keep b o e q (by intro z;exact absurd (show b∈([]) from z) (by simp)) (by simp)
    | some u =>
     rcases hO b with z | ⟨ob,xs,z⟩
     . rw[q] at z;cases z
     . have z2:=un.kn b ob _ z;obtain⟨e1,_⟩:=bL b _ z;obtain⟨e2,_⟩:=hok' b _ z2;rw[e] at e1;cases e1;exact e2
 cases hk:K.lookup a with
 | some o =>
  have e:=KX a o hk
  rw[ha] at e
  cases e
  refine core (λ_=>SU) (λ_=> .inl rfl) (.inr ⟨_,vs.toArray,_,hk,rfl,rfl,rfl,by simp_all,by omega⟩) (λb u z=>by simp_all) (λb z=>absurd rfl z) λz=>absurd rfl z
 | none =>
  refine core (λb=>if b=a then fv (.jL { cls:= .type "list",data:= .seq vs.toArray} (.lst (ns.map V.int))) else SU) (λb=>?_) (.inl (.inr ⟨{ cls:= .type "list",data:= .seq vs.toArray},if_pos rfl⟩)) (λb u z=>?_) (λb z=>?_) λ_=>hk
  . by_cases hb:b=a
    . exact .inr ⟨_,_,if_pos hb⟩
    . exact .inl (if_neg hb)
  . by_cases hb:b=a
    . have z':=(if_pos hb).symm.trans z;cases z';subst hb;exact⟨ha,by simp_all,vs,_,rv,ha⟩
    . simp_all
  . by_cases hb:b=a
    . exact hb
    . exact absurd (if_neg hb) z
theorem DM{l:WN}{n k:Nat}{q:Ug}{loose:List Str}{XP:(Str->Option S5)->UU->Prop}{YP:Uz->UU->Prop}{d:DefRec}{K:Params->SV}{CX:Uz->F0}{sp:Uz->Sp}{x:Str}
  (hn:l.most=fv n) (hn2:n<=Ta) (hdf:d.params.defaults=[]) (hr:dO k YY)
  (hY: ∀(w:Uz)(h:UU),YP w h->(K w.params).In h)
  (F: ∀(w:Uz)(mg:Str->Option S5)(fa:Tp)(h:UU),(K w.params).In h->h.Ns TX mg->mg d.name=fv (.ref fa) ->
   ∃ fd:Wd,(∀(s:Tc)(u:S5),XX s fd ⟨[u],[]⟩ [(x,u)]) /\
    ∀ base:UU,(K w.params).In base->base.Ns TX mg->j6 l.prog w (K w.params) mg base (CX w) k fa fd [x] (sp w))
  (hsp: ∀(w:Uz)(H:Hp)(a:Tp)(ns:List Int),ns.length<=n->zF H->gi (K w.params) H a (ns.map V.int)->sp w [.ref a] H (λv _=>v= .bl true) λ_ _ _=>False)
  (hCX: ∀(w:Uz)(H:Hp)(s:Tc)(e:S5)(s':Tc),CX w [] H s (λ_ _ _=>False) e s'->False) :
  aai q loose XP YP l.row.toRowW d [] (λf vs=>aan f vs):=by
 refine Att.sM hn hdf λw s₀ s₁ mg mb fa o pm cd doc a vs ns G Y ho hd hcd hmg hobj hints hlen hg=>?_;have KX:=hY w _ Y;obtain ⟨fd,hb,hF⟩:=F w mg fa _ KX G.T.g hmg;exact zQ KX G.T.g G.T.b G.T.builtins G.T.nolimit hg hobj hints (Ua hlen hn2) hr hF hb (λH hO hS=>hsp w H a ns hlen hO hS) λH e s'=>hCX w H s₁ e s'
end L2
/- THE LAST THEOREM (shape; LID, My.* are yours):
   My.Adr: a structure of the addresses that your layer names (classes, functions); My.Txt K t: a structure (Prop) of the equations over K;
   My.txt_mk : {K} {implicit addresses ..} (e1 : UY K TX "law" = fv (fv (.ref f))) (e2 : K.lookup f = fv ⟨oc, od, .func (UE "law" "law" params body scope dV kV doc pm an cdv ct), sl⟩) (e3 : Yb K cdv "law" = true) .. : ∃ t, My.Txt K t
set_option maxRecDepth 100000 in
(the tactic k_is has no namespace:write k_is) -/
namespace L2
open PySem PySem.Spec PyProof.Rows
noncomputable def cR(s:XW):=match s with
 | .FunctionDef _ a _ _ _ _ _ _ _ _=>a
 | _=>{ posonlyargs:=[],args:=[],vararg:=SU,kwonlyargs:=[],kw_defaults:=[],kwarg:=SU,defaults:=[]}
noncomputable def bu(s:XW):=match s with
 | .FunctionDef _ _ b _ _ _ _ _ _ _=>b
 | _=>[]
noncomputable def aE(s:XW):=match s with
 | .FunctionDef _ _ _ _ _ _ sc _ _ _=>sc
 | _=>{ kind:= .function,names:=[],isGenerator:=false,isCoroutine:=false}
abbrev qP:F0:=λ_ _ _ _ _ _=>False
abbrev E0:XK:=λ_ _ _=>False
theorem L3:Passes qP X E0:=λ_ _ _ _ _ _ _ h=>h.elim
structure yF(K:SV)(x qual:Str)(st:XW)(f:Tp)(fd:Wd):Prop where
 ex: ∃(oc:S5)(od:Option Tp)(kV doc pm:S5)(an:Option Tp)(cdv ct:S5)(osl:Array (Option S5)),
  fd=UE x qual (cR st) (bu st) (aE st) .none kV doc pm an cdv ct/\K.lookup f=fv ⟨oc,od,.func fd,osl⟩/\Yb K cdv qual=true
 kp:VE K (.ref f)=true
section
variable{P:Ug}{w:Uz}{K:SV}{mg:Str->Option S5}{base:UU}
theorem yF.ok{st}(F:yF K x qual st f fd)(S:dW N ps (aE st))(len: ∀ vs H Q E,sp vs H Q E->vs.length=ps.length)
  (hbody: ∀ cdv A outer s H vs Q E,dO k (A.deeper (Xc qual (aE st) s.heap.objs.size f cdv))->sp vs H Q E ->
   ∃ t,vV (jf qP P w K mg base N qual (aE st) f cdv A outer s H E).oG (bu st) t/\t { nx:=λ_ H'=>Q .non H',rt:=Q} (start N vs) H):j6 P w K mg base qP (k+1) f fd ps sp:=by
 obtain⟨oc,od,kV,doc,pm,an,cdv,ct,osl,rfl,lk,hcd⟩:=F.ex;refine MQ lk hcd S len λA outer s H vs Q E hr hsp=>?_;obtain⟨t,h,q⟩:=hbody cdv A outer s H vs Q E hr hsp;exact⟨t,h.oG,q⟩
theorem yF.binds{st}(F:yF K x qual st f fd)
  (h: ∀ kV doc pm an cdv ct us,us.length=ps.length->VR (UE x qual (cR st) (bu st) (aE st) .none kV doc pm an cdv ct) ⟨us,[]⟩=pure (ps.zip us)):Binds K fd ps []:=by
 obtain⟨oc,od,kV,doc,pm,an,cdv,ct,osl,rfl,lk,hcd⟩:=F.ex;exact .all (h kV doc pm an cdv ct)
theorem Hk{st kV}(l:K.lookup f=fv ⟨oc,od,.func (UE x qual (cR st) (bu st) (aE st) .none kV doc pm an cdv ct),osl⟩)
  (c:Yb K cdv qual=true) (k:VE K (.ref f)=true):yF K x qual st f (UE x qual (cR st) (bu st) (aE st) .none kV doc pm an cdv ct):=⟨⟨oc,od,kV,doc,pm,an,cdv,ct,osl,rfl,l,c⟩,k⟩
end
theorem Oo(hr:dO k A):A.units+1 < VQ:=Nat.lt_of_le_of_lt (Nat.add_le_add_left (by decide) _) hr.units
section
variable{X:Cx}
theorem pv(i:Nat){x:Str}{pos:Pos}(hN:X.N[i]?=fv x:=by rfl)(hv:Ko X.env.scope x:=by first | exact YG rfl | exact Xe (YG rfl) | exact Xe (Xe rfl))(hd:(x == ("__debug__" :Str))=false:=by decide)
  (hcd:(x == ("__classdict__" :Str))=false:=by decide):PE X (.Name x pos) (Hu i):=Bx hN hv hd hcd
end
def jP(H H':Hp):= ∀ b o,H b=fv o->H' b=fv o
theorem jP.trans(a:jP H H1)(b:jP H1 H2):jP H H2:=λc o h=>b c o (a c o h)
theorem jP.free(e:jP H H')(h:H' l=SU):H l=SU:=by
 cases q:H l with
 | none=>rfl
 | some o =>
  rw[e l o q] at h
  cases h
theorem jP.seq{K:SV}{H H':Hp}{a:Tp}{xs:List V}(e:jP H H')(h:gi K H a xs):gi K H' a xs:=by
 rcases h with(h | ⟨o,h⟩) | h
 . exact .inl (.inl (e _ _ h))
 . exact .inl (.inr ⟨o,e _ _ h⟩)
 . exact .inr h
open PySem PySem.W PyProof.Rows
section
variable{κ :Type}[DecidableEq κ]
noncomputable def fI(kvs:List (κ × V)) k:=(kvs.find? λkv=>decide (kv.1=k)).map (·.2)
noncomputable def putK kvs (k: κ) (v:V) :=
 if (kvs.any λkv=>decide (kv.1=k))=true then kvs.map (λkv=>if kv.1=k then(kv.1,v) else kv) else kvs++[(k,v)]
theorem oC{k: κ}(e:p.1=k):fI (p::r) k=fv p.2:=by simp[fI,e]
theorem nI{k: κ}(e: ¬ p.1=k):fI (p::r) k=fI r k:=by simp[fI,e]
theorem tm(k: κ): ∀ kvs ,(kvs.any λkv=>decide (kv.1=k))=(fI kvs k).isSome
 | []=>rfl
 | p::r=>by
  rw[UX];by_cases e:p.1=k
  . simp only[oC e,decide_eq_true e,ZG,Uy]
  . rw[nI e,decide_eq_false e];exact tm k r
theorem iI kvs (k: κ) v:(putK kvs k v).length<=kvs.length+1:=by
 unfold putK;split
 . simp_all
 . simp_all
theorem jT.eR(r:jT o u):o.isSome=u.isSome:=by
 cases o with
 | none=>cases u with
  | none=>rfl
  | some _=>exact(show False from r).elim
 | some _=>cases u with
  | none=>exact(show False from r).elim
  | some _=>rfl
theorem jT.getD(r:jT o u)(rd:RelV d d'):RelV (o.getD d) (u.getD d'):=by
 cases o with
 | none=>cases u with
  | none=>exact rd
  | some _=>exact(show False from r).elim
 | some _=>cases u with
  | none=>exact(show False from r).elim
  | some _=>exact r
theorem KV.val(r:KV kvs vs)(k: κ):jT (fI kvs k) (Yc vs k):=by
 induction r with
 | nil=>exact Vr
 | @cons p q ps qs h t ih =>
  obtain⟨h1,h2⟩:=h
  by_cases e:p.1=k
  . have e':=h1.symm.trans e;have b:Yc (q::qs) k=fv q.2:=by simp[Yc,e']
    rw[oC e,b];exact h2
  . have e': ¬ q.1=k:=λz=>e (h1.trans z);have b:Yc (q::qs) k=Yc qs k:=by simp[Yc,e']
    rw[nI e,b];exact ih
theorem KV.any(r:KV kvs vs)(k: κ):(kvs.any λkv=>decide (kv.1=k))=vs.any λkv=>decide (kv.1=k):=by
 induction r with
 | nil=>rfl
 | cons h t ih=>simp_all
theorem KV.IS(r:KV kvs vs)(k: κ)(ry:RelV y u) :
  KV (kvs.map λkv=>if kv.1=k then(kv.1,y) else kv) (vs.map λkv=>if kv.1=k then(kv.1,u) else kv):=by
 induction r with
 | nil=>exact .nil
 | @cons p q ps qs h t ih =>
  rw[S7,S7]
  refine .cons ?_ ih
  obtain⟨h1,h2⟩:=h
  by_cases e:p.1=k
  . rw[if_pos e,if_pos (h1.symm.trans e)];exact⟨h1,ry⟩
  . rw[if_neg e,if_neg (λz=>e (h1.trans z))];exact⟨h1,h2⟩
theorem KV.put(r:KV kvs vs)(k: κ)(ry:RelV y u):KV (putK kvs k y) (stored vs k u):=by
 unfold putK stored;rw[r.any k];by_cases e:(vs.any λkv=>decide (kv.1=k))=true
 . rw[if_pos e,if_pos e];exact r.IS k ry
 . rw[if_neg e,if_neg e];exact aax r ⟨rfl,ry⟩
theorem KV.keys{kvs:List (κ × V)}{vs:List (κ × S5)}(r:KV kvs vs):kvs.map (·.1)=vs.map (·.1):=by
 induction r with
 | nil=>rfl
 | cons h t ih=>simp_all
theorem KV.length{kvs:List (κ × V)}{vs:List (κ × S5)}(r:KV kvs vs):kvs.length=vs.length:=Xw r
end
theorem jk(r:RelV (kV k) u):(bE P w).is k u=true:=by
 cases k with
 | inl i=>obtain⟨t,e⟩:=(show ∃ t,u=XD i t from r);subst e;exact tS P w i t
 | inr x=>obtain⟨t,e⟩:=(show ∃ t,u=W4 x t from r);subst e;exact tf P w x t
theorem pI: ∀{ks us},Vals (ks.map kV) us->ItemsAre (bE P w) ks us
 | [],_,r=>by cases r;exact .nil
 | k::ks,_,r=>by
  cases r with
  | cons h t=>exact .cons (jk h) (pI t)
abbrev KT(H:Hp):List (List Key × V)->List (List Key × Tp × S5)->Prop:=Vv λp q=>p.1=q.1/\H q.2.1=fv (.tup (p.1.map kV))/\RelV p.2 q.2.2
theorem KT.val(r:KT H kvs xs) k:jT (fI kvs k) ((Z4 xs k).map (·.2)):=by
 induction r with
 | nil=>exact Vr
 | @cons p q ps qs h t ih =>
  obtain⟨h1,_,h2⟩:=h
  by_cases e:p.1=k
  . have e':=h1.symm.trans e;have b:Z4 (q::qs) k=fv q.2:=by simp[Z4,e']
    rw[oC e,b];exact h2
  . have e': ¬ q.1=k:=λz=>e (h1.trans z);have b:Z4 (q::qs) k=Z4 qs k:=by simp[Z4,e']
    rw[nI e,b];exact ih
theorem KT.IS(r:KT H kvs xs) k (ry:RelV y u) :
  KT H (kvs.map λkv=>if kv.1=k then(kv.1,y) else kv) (xs.map (putAt k u)):=by
 induction r with
 | nil=>exact .nil
 | @cons p q ps qs h t ih =>
  rw[S7]
  refine .cons ?_ ih
  obtain⟨h1,h2,h3⟩:=h
  unfold putAt
  by_cases e:p.1=k
  . rw[if_pos e,if_pos (h1.symm.trans e)];exact⟨h1,h2,ry⟩
  . rw[if_neg e,if_neg (λz=>e (h1.trans z))];exact⟨h1,h2,h3⟩
theorem KT.put(r:KT H kvs xs) k (hb:H b=fv (.tup (k.map kV))) (ry:RelV y u) :
  KT H (putK kvs k y) (storedH xs k b u):=by
 have e:(kvs.any λkv=>decide (kv.1=k))=(Z4 xs k).isSome:=by
  rw[tm,(r.val k).eR,Xr]
 unfold putK storedH;rw[e];by_cases q:(Z4 xs k).isSome=true
 . rw[if_pos q,if_pos q];exact r.IS k ry
 . rw[if_neg q,if_neg q];exact aax r ⟨rfl,hb,ry⟩
theorem KT.keeps(r:KT H kvs xs)(ht: ∀ b ys,H b=fv (.tup ys)->H' b=fv (.tup ys)):KT H' kvs xs :=
 Paired.B3 r λ_ _ z=>⟨z.1,ht _ _ z.2.1,z.2.2⟩
section
variable{P:Ug}{w:Uz}{H:Hp}{h:UU}{a:Tp}
theorem FJ(ok:jM P w H h)(e:Rd H a u):bF P w H h a u:=e.ok ok
theorem k7(ok:jM P w H h)(e:Rd H a (.dK kvs)):kvs.length<=Ta/\(a == U4)=false/\ ∃ vs,KV kvs vs/\h.DictOf (bE P w) a vs :=
 show bF P w H h a (.dK kvs) from FJ ok e
theorem pD(ok:jM P w H h)(e:H a=fv (.dK kvs)):kvs.length<=Ta/\(a == U4)=false/\ ∃ vs,KV kvs vs/\h.DictOf (bE P w) a vs:=k7 ok (.inl e)
theorem kH(ok:jM P w H h)(e:H a=fv (.tup (ks.map kV))):(XE (bE P w)).is h ks a:=by
 obtain⟨_,az,r,o,h1,h2,n,h3,_⟩:=(show bF P w H h a (.tup (ks.map kV)) from ok a _ e)
 exact⟨o,az.toArray,n,h1,h2,h3,by simpa using pI r⟩
theorem mN(ok:jM P w H h)(e:Rd H a (.dT kvs)):kvs.length<=Ta/\(a == U4)=false /\
  ∃ xs,KT H kvs xs/\h.DictOfH (XE (bE P w)) a xs:=by
 obtain⟨z,y,xs,r,o,es,ep,h1,h2,h3,h4,h5⟩:=(show bF P w H h a (.dT kvs) from FJ ok e)
 refine⟨z,y,xs,r,o,es,ep,h1,h2,h3,h4,λx hx=>?_,h5⟩;have all: ∀{l m},KT H l m-> ∀ x∈m,(XE (bE P w)).is h x.1 x.2.1:=by
  intro l m q
  induction q with
  | nil=>simp_all
  | @cons p q ps qs hq t ih =>
   intro x hx
   rcases Tq.mp hx with e | hx
   . subst e;exact kH ok (by rw[<- hq.1];exact hq.2.1)
   . exact ih x hx
 exact all r x hx
theorem Lx(ok:jM P w H h)(e:H a=fv (.dT kvs)):kvs.length<=Ta/\(a == U4)=false /\
  ∃ xs,KT H kvs xs/\h.DictOfH (XE (bE P w)) a xs:=mN ok (.inl e)
end
def je H (a:Tp) y (r:Option V) :=
 (∃ kvs k,Rd H a (.dK kvs)/\y=kV k/\r=fI kvs k)\/ ∃ kvs k b,Rd H a (.dT kvs)/\y= .ref b/\H b=fv (.tup (k.map kV))/\r=fI kvs k
def uS H (a:Tp) y v H' :=
 (∃ kvs k,H a=fv (.dK kvs)/\y=kV k/\kvs.length < Ta/\H'=upd H a (.dK (putK kvs k v))) \/
 ∃ kvs k b,H a=fv (.dT kvs)/\y= .ref b/\H b=fv (.tup (k.map kV))/\kvs.length < Ta/\H'=upd H a (.dT (putK kvs k v))
theorem je.k{H:Hp}{a:Tp}{kvs:List (Key × V)}{k:Key}(e:H a=fv (.dK kvs)):je H a (kV k) (fI kvs k):= .inl ⟨kvs,k,.inl e,rfl,rfl⟩
theorem je.t{H:Hp}{a b:Tp}{kvs:List (List Key × V)}{k:List Key}(e:H a=fv (.dT kvs))(eb:H b=fv (.tup (k.map kV))):je H a (.ref b) (fI kvs k):= .inr ⟨kvs,k,b,.inl e,rfl,eb,rfl⟩
theorem uS.k{H:Hp}{a:Tp}{kvs:List (Key × V)}{k:Key}{v:V}(e:H a=fv (.dK kvs))(hl:kvs.length < Ta):uS H a (kV k) v (upd H a (.dK (putK kvs k v))):= .inl ⟨kvs,k,e,rfl,hl,rfl⟩
theorem uS.t{H:Hp}{a b:Tp}{kvs:List (List Key × V)}{k:List Key}{v:V}(e:H a=fv (.dT kvs))(eb:H b=fv (.tup (k.map kV)))(hl:kvs.length < Ta) :
  uS H a (.ref b) v (upd H a (.dT (putK kvs k v))):= .inr ⟨kvs,k,b,e,rfl,eb,hl,rfl⟩
section
variable{X:Cx}{pins:List (Tp × Obj)}{σ :St}{H:Hp}{s:Tc}{a:Tp}{y v:V}{u r:S5}{o:Option V}{A:U5}{E:S5->Tc->Prop}
theorem Inv.big(I:Inv X pins σ H s):U4 < s.heap.objs.size:=by
 have h:=(I.mod.glob.keeps I.bk).lt;exact Nat.lt_trans (by decide) h
theorem yn(hu:A.units+1 < VQ)(I:Inv X pins σ H s)(g:je H a y (fv v))(ry:RelV y u)(h: ∀ w' s',Inv X pins σ H s'->RelV v w'->Q w' s') :
  TC (TM X.prog X.w) A (WY (.ref a) u) Q E s:=by
 rcases g with⟨kvs,k,e,ey,l⟩ | ⟨kvs,k,b,e,ey,eb,l⟩
 . subst ey;obtain⟨z,hd,vs,rel,dd⟩:=k7 I.bL e;obtain⟨w',hw,rw'⟩:=jT.some_of (v:=v) (o:=Yc vs k) (by rw[l];exact rel.val k);exact ZV (jk ry) dd.mapOf hw (h w' _ (I.tok _) rw')
 . subst ey;cases(show u=Tx b from ry);obtain⟨z,hd,xs,rel,dd⟩:=mN I.bL e;obtain⟨w',hw,rw'⟩:=jT.some_of (v:=v) (o:=(Z4 xs k).map (·.2)) (by rw[l];exact rel.val k)
   obtain⟨p,hp,hp2⟩:=Option.map_eq_some_iff.mp hw;refine wpAny_getItem_heap (VL hu) (kH I.bL eb) dd hp ?_;rw[hp2];exact h w' _ (I.tok _) rw'
theorem Q8{Q:S5->Tc->Prop}(hu:A.units+1 < VQ)(I:Inv X pins σ H s)(g:je H a y o)(ry:RelV y u)(h: ∀ s',Inv X pins σ H s'->Q (.bool o.isSome) s') :
  TC (TM X.prog X.w) A (Tw .In u (.ref a)) Q E s:=by
 rcases g with⟨kvs,k,e,ey,l⟩ | ⟨kvs,k,b,e,ey,eb,l⟩
 . subst ey;obtain⟨z,hd,vs,rel,dd⟩:=k7 I.bL e;refine wpAny_in_of (jk ry) hd dd.mapOf ?_;rw[<- (rel.val k).eR,<- l];exact h _ (I.tok _)
 . subst ey;cases(show u=Tx b from ry);obtain⟨z,hd,xs,rel,dd⟩:=mN I.bL e;refine wpAny_in_heap (VL hu) (kH I.bL eb) hd dd ?_;have q:=(rel.val k).eR;rw[Xr] at q;rw[<- q,<- l];exact h _ (I.tok _)
theorem DU{Q:S5->Tc->Prop}(hu:A.units+1 < VQ)(I:Inv X pins σ H s)(g:je H a y o)(ry:RelV y u)(h: ∀ s',Inv X pins σ H s'->Q (.bool (!o.isSome)) s') :
  TC (TM X.prog X.w) A (Tw .NotIn u (.ref a)) Q E s:=by
 rcases g with⟨kvs,k,e,ey,l⟩ | ⟨kvs,k,b,e,ey,eb,l⟩
 . subst ey;obtain⟨z,hd,vs,rel,dd⟩:=k7 I.bL e;refine wpAny_notIn_of (jk ry) hd dd.mapOf ?_;rw[<- (rel.val k).eR,<- l];exact h _ (I.tok _)
 . subst ey;cases(show u=Tx b from ry);obtain⟨z,hd,xs,rel,dd⟩:=mN I.bL e;refine wpAny_notIn_heap (VL hu) (kH I.bL eb) hd dd ?_;have q:=(rel.val k).eR;rw[Xr] at q;rw[<- q,<- l];exact h _ (I.tok _)
theorem lY(I:Inv X pins σ H s)(mu:MU (H a))(hs:XU a s.heap h')(he: ∃ q,h'.get? a=fv q)(new:bF X.prog X.w (upd H a ob) h' a ob) :
  Inv X pins σ (upd H a ob) { s with heap:=h',toks:=t'} :=
 I.write (x:=a) (e:=a) mu (.inl rfl) (λb q hb z=>(hs.2 b hb).trans z) he new
theorem um(z:kvs.length<=Ta)(hd:(a == U4)=false)(rel:KV kvs vs)(dd:h'.DictOf (bE P w) a vs) :
  bF P w H' h' a (.dK kvs):=⟨z,hd,vs,rel,dd⟩
theorem xY{H':Hp}{Q:Unit->Tc->Prop}(hu:A.units+1 < VQ)(I:Inv X pins σ H s)(g:uS H a y v H')(ry:RelV y u)(rv:RelV v r)(h: ∀ s',Inv X pins σ H' s'->Q () s') :
  TC (TM X.prog X.w) A (setItem (.ref a) u r) Q E s:=by
 rcases g with⟨kvs,k,e,ey,l,eH⟩ | ⟨kvs,k,b,e,ey,eb,l,eH⟩
 . subst ey eH;obtain⟨z,hd,vs,rel,dd⟩:=pD I.bL e;have hz:vs.length<=Ta:=by rw[<- rel.length];exact z
   have hl:(putK kvs k v).length<=Ta:=by have:=iI kvs k v;omega
   refine wpAny_setItem_pairs (hsz:=hz) (jk ry) dd λh' dd' hs=>h _ ?_;have he: ∃ q,h'.get? a=fv q:=by obtain⟨q,_,_,hq,_⟩:=dd';exact⟨q,hq⟩
   exact lY I (by rw[e];exact Vr) hs he (um hl hd (rel.put k rv) dd')
 . subst ey eH;cases(show u=Tx b from ry);obtain⟨z,hd,xs,rel,dd⟩:=Lx I.bL e;have hz:xs.length<=Ta:=by rw[<- Xw rel];exact z
   have hl:(putK kvs k v).length<=Ta:=by have:=iI kvs k v;omega
   refine wpAny_setItem_heap (hsz:=hz) (VL hu) (kH I.bL eb) dd λh' dd' hs=>h _ ?_;obtain⟨q,es,ep,hq,h2,h3,h4,_,h5⟩:=dd';refine lY I (by rw[e];exact Vr) hs ⟨q,hq⟩ ⟨hl,hd,_,(rel.put k eb rv).keeps λc ys ec=>?_,q,es,ep,hq,h2,h3,h4,h5⟩;rw[aT (pC ec e (λz=>by cases z))];exact ec
end
section
variable{X:Cx}{pins:List (Tp × Obj)}{σ :St}{H:Hp}{s:Tc}{a:Tp}{kvs:List (Key × V)}{k:Key}{u:S5}{A:U5}{E:S5->Tc->Prop}
theorem Ml{Q:S5->Tc->Prop}(I:Inv X pins σ H s)(e:Rd H a (.dK kvs))(h: ∀ t s',Inv X pins σ H s'->Q (.int kvs.length t) s'):TC (TM X.prog X.w) A (call (.builtin "len") [.ref a]) Q E s:=by
 obtain⟨z,hd,vs,rel,dd⟩:=k7 I.bL e;refine call_len_dict hd dd (by rw[<- rel.length];rw[sizeLine_eq] at z;omega) ?_;rw[<- rel.length];exact h _ _ (I.tok _)
end
def DN i:= ∀ ov iv,Xp i false ov iv=operate [ov,iv] (WY ov iv)
theorem Dv{id} 
    (hl : typeLookup (.type T) "__getitem__" = pure (fv (.builtin id))) (hs : DN slice)
    (h : TC (TM prog w) A (Vl value env) (λo s₁ => TC (TM prog w) A (Vl slice env) (λi s₂ => s₂.TypeIs o T /\ TC (TM prog w) A (WY o i) Q E s₂) E s₁) E s) :
    TC (TM prog w) A (Vl (.Subscript value slice pos) env) Q E s := by
  refine Subscript_ (Ui h (λo s₁ h₁ => Ui h₁ (λi s₂ h₂ => ?_) λ_ _ x => x) λ_ _ x => x);obtain ⟨hT, h₂⟩ := h₂;refine SW ?_;refine SW (wpAny_specialOf hT hl ?_);have fin : TC (TM prog w) A (Xp slice false o i) (λr s₃ => TC (TM prog w) A (letTemporaryGo value o r >>= λ_ => pure r) Q E s₃) E s₂ := by
    rw [hs o i];exact wpAny_operating (Ui h₂ (λr s₃ h₃ => SW (YH (To h₃))) λ_ _ x => x)
  first
    | exact To (SW fin)
    | exact SW (To (SW fin))
    | exact SW fin
theorem sN{σ :St}(I:Inv X pins σ H s)(g:je H a y o):s.TypeIs (.ref a) "dict" :=by
 rcases g with⟨kvs,k,e,_,_⟩ | ⟨kvs,k,b,e,_,_,_⟩
 . obtain⟨_,_,vs,_,dd⟩:=k7 I.bL e;exact dd.typeIs
 . obtain⟨_,_,xs,_,dd⟩:=mN I.bL e;exact dd.typeIs
theorem sy(h:UU)(hb:U4 < h.objs.size):bF P w H (h.push { cls:= .type "dict",data:= .dict #[]}) h.objs.size (.dK []) :=
 ⟨U2 _,beq_eq_false_iff_ne.mpr (V1 (TQ hb)),[],.nil,Heap.DictOf.new h⟩
def zh:TE:=λ_ H Q=> ∀ p,H p=SU->Q (.ref p) (upd H p (.dK []))
section
variable{X:Cx}{pos:Pos}
theorem zL:PE X (.Dict [] [] pos) zh:=λpins s σ H Q I h =>
 wpAny_Dict_empty ⟨.ref s.heap.objs.size,_,I.laid (a:=s.heap.objs.size) (o:= .dK []) (t':=s.toks) (λ_ _ q=>S0 _ q) (Te _) (sy s.heap I.big),rfl,h _ (I.bL.fresh (Te _))⟩
end
def kF:List (TE × TE)->St->Hp->(List (V × V)->Hp->Prop)->Prop
 | [],_,H,Q=>Q [] H
 | (tk,tv)::r, σ,H,Q=>tk σ H λx H1=>tv σ H1 λy H2=>kF r σ H2 λps H3=>Q ((x,y)::ps) H3
abbrev VV:List (V × V)->List (S5 × S5)->Prop:=Vv λp q=>RelV p.1 q.1∧RelV p.2 q.2
def Mw X pos (keys:List (Option Uh)) (values:List Uh) (trs:List (TE × TE)) :=
 ∀ pins s(σ :St) H Q,Inv X pins σ H s->kF trs σ H Q ->
  TC (TM X.prog X.w) X.A (evalPairs (pairTrees keys values X.env pos)) (λvs s'=> ∃ ps H',Inv X pins σ H' s'/\VV ps vs/\Q ps H') X.xe s
theorem DX:Mw X pos [] [] []:=λpins s σ H Q I h=>pairTrees_nil_walk ⟨[],H,I,.nil,h⟩
theorem AZ(hk:PE X k tk)(hv:PE X v tv)(hr:Mw X pos ks vs trs) :
  Mw X pos (fv k::ks) (v::vs) ((tk,tv)::trs):=λpins s σ H Q I h =>
 pairTrees_cons_walk (iq (hk pins s σ H _ I h) λu s1 x H1 I1 rx q1=>iq (hv pins s1 σ H1 _ I1 q1) λw2 s2 y H2 I2 ry q2 =>
  iU (hr pins s2 σ H2 _ I2 q2) λws s3=>by rintro ⟨ps,H3,I3,rel,q3⟩;exact⟨(x,y)::ps,H3,I3,.cons ⟨rx,ry⟩ rel,q3⟩)
def gq(kvs more:List (Key × V)):=more.foldl (λacc kv=>putK acc kv.1 kv.2) kvs
theorem KV.merge: ∀{more rs kvs vs},KV more rs->KV kvs vs->KV (gq kvs more) (merged vs rs):=by
 intro more rs kvs vs r
 induction r generalizing kvs vs with
 | nil=>intro q;exact q
 | @cons p q ps qs h t ih =>
  intro r0
  have e:KV (putK kvs p.1 p.2) (stored vs q.1 q.2):=by
   have:=r0.put p.1 h.2;rw[<- h.1];exact this
  exact ih e
theorem gu: ∀ more kvs,(gq kvs more).length<=kvs.length+more.length
 | [],kvs=>by show kvs.length<=kvs.length+0;omega
 | p::r,kvs=>by
  have h1:=gu r (putK kvs p.1 p.2);have h2:=iI kvs p.1 p.2;show(gq (putK kvs p.1 p.2) r).length<=_;rw[S2];omega
theorem nO: ∀{kvs ws},VV (kvs.map λkv=>(kV kv.1,kv.2)) ws-> ∃ rs,Carries (bE P w) ws rs/\KV kvs rs
 | [],_,r=>by cases r;exact⟨[],Vr,.nil⟩
 | p::kvs,_,r=>by
  cases r with
  | @cons a b as bs h t =>
   obtain⟨rs,c,q⟩:=nO (P:=P) (w:=w) t
   obtain⟨b1,b2⟩:=b
   exact⟨(p.1,b2)::rs,⟨jk h.1,rfl,c⟩,.cons ⟨rfl,h.2⟩ q⟩
def FG(trs:List (TE × TE)):TE:=fun σ H Q=> ∀ p,H p=SU->kF trs σ (upd H p (.dK [])) λps H2=>H2 p=fv (.dK [])/\ ∃ kvs ,ps=kvs.map (λkv=>(kV kv.1,kv.2))/\kvs.length<=15/\Q (.ref p) (upd H2 p (.dK (gq [] kvs)))
theorem DI(h:Mw X pos keys values trs)(hall:keys.all (·.isSome)=true)(hl:keys.length=values.length)(h0:keys≠[])
  (h15:keys.length<=15):PE X (.Dict keys values pos) (FG trs):=by
 intro pins s σ H Q I q;have hn:=I.bL.fresh (Te s.heap.objs.size);have I1:=I.laid (a:=s.heap.objs.size) (o:= .dK []) (h':=s.heap.push { cls:= .type "dict",data:= .dict #[]}) (t':=s.toks) (λ_ _ q=>S0 _ q) (Te _) (sy s.heap I.big);refine wpAny_Dict_walk (knd:=bE X.prog X.w) hall hl h0 h15 (iU (h pins _ σ _ _ I1 (q _ hn)) λws s2 z9=>?_);obtain⟨ps,H2,I2,rel,e,kvs,ep,lk,q2⟩:=z9;subst ep;obtain⟨rs,c,rk⟩:=nO (P:=X.prog) (w:=X.w) rel;obtain⟨z,hd,vs0,r0,dd⟩:=pD I2.bL e;cases r0;refine⟨rs,c,dd,λh' dd' hs=>⟨.ref s.heap.objs.size,_,?_,rfl,q2⟩⟩;have hz:(gq [] kvs).length<=Ta:=by
  have h1:=gu kvs [];rw[Tj] at h1;rw[sizeLine_eq];omega
 have he: ∃ q,h'.get? s.heap.objs.size=fv q:=by obtain⟨q,_,_,hq,_⟩:=dd';exact⟨q,hq⟩
 exact lY I2 (by rw[e];exact Vr) hs he (um hz hd (rk.merge .nil) dd')
structure M1(X:Cx)(o:Uh)(m:Str)(apos:Pos)(e:Uh)(cpos:Pos):Prop where
 base:Wg o m X.env (Vl o X.env)=Vl o X.env
 fC:((WC cpos (Ue [e] X.env)).all (λx=> !x.1)&&(backToKw cpos (Z3 [] X.env)).all (λx=>x.1.isSome)
  && decide (([e]:List Uh).length+([]:List YX).length+(if ([]:List YX).isEmpty then 0 else 1) < 30))=true
 line:(apos.endLine == cpos.line)=true
 trees:WC cpos (Ue [e] X.env)=[(false,Vl e X.env)]
structure M2(X:Cx)(o:Uh)(m:Str)(apos:Pos)(e f:Uh)(cpos:Pos):Prop where
 base:Wg o m X.env (Vl o X.env)=Vl o X.env
 fC:((WC cpos (Ue [e,f] X.env)).all (λx=> !x.1)&&(backToKw cpos (Z3 [] X.env)).all (λx=>x.1.isSome)
  && decide (([e,f]:List Uh).length+([]:List YX).length+(if ([]:List YX).isEmpty then 0 else 1) < 30))=true
 line:(apos.endLine == cpos.line)=true
 trees:WC cpos (Ue [e,f] X.env)=[(false,Vl e X.env),(false,Vl f X.env)]
def R0 H a:=(∃ kvs,Rd H a (.dK kvs))\/ ∃ kvs,Rd H a (.dT kvs)
theorem JM{σ :St}(I:Inv X pins σ H s)(d:R0 H a) :
  s.TypeIs (.ref a) "dict" /\(∀ b,Tx a= .ref b-> ∃ ob,s.heap.get? b=fv ob/\ob.dict=SU)/\(a == U4)=false:=by
 rcases d with⟨kvs,e⟩ | ⟨kvs,e⟩
 . obtain⟨_,hd,vs,_,dd⟩:=k7 I.bL e;refine⟨dd.typeIs,λb q=>?_,hd⟩;cases q;obtain⟨ob,_,_,h1,h2,_⟩:=dd;exact⟨ob,h1,h2.2.1⟩
 . obtain⟨_,hd,xs,_,dd⟩:=mN I.bL e;refine⟨dd.typeIs,λb q=>?_,hd⟩;cases q;obtain⟨ob,_,_,h1,h2,_⟩:=dd;exact⟨ob,h1,h2.2.1⟩
section
variable{X:Cx}{pins:List (Tp × Obj)}{σ :St}{H:Hp}{s:Tc}{a:Tp}{y d:V}{u r:S5}{o:Option V}{A:U5}{E:S5->Tc->Prop}
theorem GW(hu:A.units+1 < VQ)(I:Inv X pins σ H s)(g:je H a y o)(ry:RelV y u)(rd:RelV d r)(h: ∀ w' s',Inv X pins σ H s'->RelV (o.getD d) w'->Q w' s') :
  TC (TM X.prog X.w) A (call (.builtin "dict.get") [.ref a,u,r]) Q E s:=by
 rcases g with⟨kvs,k,e,ey,l⟩ | ⟨kvs,k,b,e,ey,eb,l⟩
 . subst ey;obtain⟨z,hd,vs,rel,dd⟩:=k7 I.bL e;refine ZH WA dd.typeIs Yd (XJ _ _ _) (meets_dict_get_default (bE X.prog X.w) a (jk ry) hd r) ⟨_,dd.mapOf,h _ _ (I.tok _) ?_⟩;rw[l];exact(rel.val k).getD rd
 . subst ey;cases(show u=Tx b from ry);obtain⟨z,hd,xs,rel,dd⟩:=mN I.bL e;refine ZH WA dd.typeIs Yd (XJ _ _ _) (meetsH_dict_get_default (XE (bE X.prog X.w)) a b hd r) ⟨VL hu,k,xs,kH I.bL eb,dd,h _ _ (I.tok _) ?_⟩;rw[l];exact(rel.val k).getD rd
end
noncomputable def zY(td ty tx:TE):TE:=fun σ H Q=>td σ H λx H1=> ∃ a,x= .ref a/\R0 H1 a/\ty σ H1 λy H2=>tx σ H2 λz H3=> ∃ o,je H3 a y o/\Q (o.getD z) H3
section
variable{X:Cx}{o e f:Uh}{apos cpos:Pos}{td ty tx:TE}
theorem BJ(hu:X.A.units+1 < VQ)(ho:PE X o td)(he:PE X e ty)(hf:PE X f tx)(m:M2 X o "get" apos e f cpos):PE X (.Call (.Attribute o "get" apos) [e,f] [] cpos) (zY td ty tx):=by
 intro pins s σ H Q I h;refine wpAny_Call_method m.base m.fC m.line PySem.F.plainAttrs_dict WA PySem.F.type_dict_get (iq (ho pins s σ H _ I h) λu s1 x H1 I1 rx ⟨a,ex,d,q1⟩=>?_);subst ex;obtain rfl:u=Tx a:=rx;obtain⟨t1,t2,_⟩:=JM I1 d;refine⟨t1,t2,?_⟩;rw[m.trees];refine Ya rfl (YE (Wo (iq (he pins s1 σ H1 _ I1 q1) λiv s2 y H2 I2 ry q2 =>
  Wo (iq (hf pins s2 σ H2 _ I2 q2) λfv s3 z H3 I3 rz ⟨ov,g,q3⟩=>Xo ?_))))
 exact GW hu I3 g ry rz λw' s4 I4 rw'=>⟨_,H3,I4,rw',q3⟩
end
section
variable{X:Cx}
theorem xy:bO X (.builtin "len") (λxs H Q=> ∃ a kvs,xs=[V.ref a]/\H a=fv (.dK kvs)/\Q (.int kvs.length) H):=by
 intro pins s σ H xs us Q I r h;obtain⟨a,kvs,rfl,ha,q⟩:=h;obtain⟨u,rfl,ru⟩:=vals1 r;cases ru;exact Ml I (.inl ha) λt s' I'=>⟨.int kvs.length,H,I',⟨t,rfl⟩,q⟩
end
noncomputable def mask(n:Str):Str:=⟨n.cps.push 0⟩
def ij(sc fn:List (Str × WM))(N vars:List Str) :=
 sc.all (λp=>(p.2 != .cell||sc.lookup p.1 == fv .cell)&&(p.2 != .free||(fn.lookup p.1 == fv .cell||fn.lookup p.1 == fv .free))&&(p.2 != .local||sc.lookup p.1 == fv .local)) &&
 N.all (λn=>vars.contains n||(sc.lookup n !=fv .local&&sc.lookup n !=fv .cell))&&vars.all (λv=>sc.lookup (mask v) == SU)
def j4(N vars:List Str):=N.map (λn=>if vars.contains n then mask n else n)++vars
def fG(X:Cx)(vars:List Str)(scope:Xm)(cl:List (Str × Tp))(C:Tp)(s₀ :Tc)(H₀ :Hp)(ex:List Tp)(pn:List (Tp × Obj)):Cx :=
 { X with N:=j4 X.N vars,env:=Vm scope cl C X.env,s₀ :=s₀,H₀ :=H₀,outer:=X.stack,ex:=ex,fn:=λx=>scope.names.lookup x == fv .cell,pn:=pn}
theorem jh(f:Str->WM->WM) x: ∀ names:List (Str × WM),(names.map λp=>(p.1,f p.1 p.2)).lookup x=(names.lookup x).map (f x)
 | []=>rfl
 | p::r=>by
  have ih:=jh f x r;rw[S7,Vq,Vq,ih];cases q:x == p.1 with
  | true=>simp_all
  | false=>rfl
theorem iO{env:Env}{names:List (Str × WM)} :
  (names.map λ(n,k)=>if (k == VB&&env.scope.kind == .function&&env.kindOf n == fv .cell) then(n,VC) else(n,k)).lookup x =
   (names.lookup x).map λk=>if (k == VB&&env.scope.kind == .function&&env.kindOf x == fv .cell) then VC else k:=by
 rw[<- jh (λn k=>if (k == VB&&env.scope.kind == .function&&env.kindOf n == fv .cell) then VC else k) x names];congr 2
 funext p
 show(if _ then _ else _)=_;split<;>rename_i z<;>simp[z]
theorem lookup_mem{β :Type}{c}: ∀{l:List (Str × β)},l.lookup x=fv c->(x,c)∈l
 | [],h=>by simp at h
 | p::r,h=>by
  rw[Vq] at h;cases q:x == p.1 with
  | true =>
   rw[q] at h
   obtain rfl:x=p.1:=by simpa using q
   obtain rfl:p.2=c:=by simpa using h
   exact S8
  | false=>rw[q] at h;exact S9 _ (lookup_mem h)
theorem fU{β :Type}{c}: ∀{l:List (Str × β)},(x,c)∈l-> ∃ d,l.lookup x=fv d
 | [],h=>by cases h
 | (n,k)::r,h=>by
  cases hx:x == n with
  | true=>exact⟨k,by simp only[Vq,hx]⟩
  | false =>
   have h':(x,c)∈r:=by
    simp_all
   obtain⟨d,q⟩:=fU h'
   exact⟨d,by simp only[Vq,hx];exact q⟩
theorem ju: ∀(names:List (Str × WM)) acc,(∀ p∈names,p.2= .free-> ∃ c,env.cells.lookup p.1=fv c) ->
  ∃ cl,(forIn names acc λ(x:Str × WM) (r)=>(match x with | (name,kind)=>if (kind == VB)=true then do let a <- cellOf env name;pure (VS ((name,a)::r)) else pure (VS r)))=pure cl /\
   (∀ p∈cl,p∈acc\/env.cells.lookup p.1=fv p.2)/\(∀ p∈acc,p∈cl)/\ ∀ p∈names,p.2= .free-> ∃ c,(p.1,c)∈cl
 | [],acc,_=>⟨acc,rfl,λp h=> .inl h,λp h=>h,λp h=>by cases h⟩
 | (n,k)::r,acc,h=>by
  by_cases hk:(k == VB)=true
  . obtain⟨c,hc⟩:=h (n,k) S8 (by simpa using hk);obtain⟨cl,e,h1,h2,h3⟩:=ju r ((n,c)::acc) λp hp=>h p (S9 _ hp);refine⟨cl,?_,λp hp=>?_,λp hp=>h2 p (S9 _ hp),λp hp hf=>?_⟩
    . rw[VT];have z:cellOf env n=pure c:=by unfold cellOf;have hc':=hc;rw[hc']
      simp only[hk,z];exact e
    . rcases h1 p hp with q | q
      . rcases Tq.mp q with q | q
        . exact .inr (by rw[q];exact hc)
        . exact .inl q
      . exact .inr q
    . rcases Tq.mp hp with q | q
      . exact⟨c,by rw[q];exact h2 _ S8⟩
      . exact h3 p q hf
  . obtain⟨cl,e,h1,h2,h3⟩:=ju r acc λp hp=>h p (S9 _ hp);refine⟨cl,?_,h1,h2,λp hp hf=>?_⟩
    . rw[VT];simp only[if_neg hk];exact e
    . rcases Tq.mp hp with q | q
      . rw[q] at hf;exact absurd (by simpa using hf) hk
      . exact h3 p q hf
theorem mY(h: ∀ p∈scope.names,p.2= .free-> ∃ c,env.cells.lookup p.1=fv c) :
  ∃ cl,closureFor scope env=pure cl/\(∀ x c,cl.lookup x=fv c->env.cells.lookup x=fv c)/\ ∀ x,scope.names.lookup x=fv .free-> ∃ c,cl.lookup x=fv c:=by
 obtain⟨cl,e,h1,_,h3⟩:=ju scope.names [] h;refine⟨cl,?_,λx c q=>?_,λx q=>?_⟩
 . show(forIn scope.names ([]) _ >>= λr=>pure r)=_
   erw [e]
   rfl
 . rcases h1 _ (lookup_mem q) with z | z
   . cases z
   . exact z
 . obtain⟨c,q'⟩:=h3 _ (lookup_mem q) rfl;exact fU q'
theorem uj: ∀ names(h:UU) acc x c,(VZ h.objs.size names acc).lookup x=fv c ->
  ((x,VC) ∉ names/\acc.lookup x=fv c)\/((x,VC)∈names/\h.objs.size<=c/\(XM h names).IsCell c SU)
 | [],_,_,_,_,e=> .inl ⟨λz=>(by cases z),e⟩
 | (name,kind)::r,h,acc,x,c,e=>by
  unfold VZ at e;unfold XM;split at e
  . rename_i hk;have hk':kind= .cell:=by simpa using hk
    subst hk';have hz:(h.push { cls:= .type "cell",data:= .cell SU}).objs.size=h.objs.size+1:=UA ..;rw[<- hz] at e;rcases uj r _ _ x c e with⟨n,q⟩ | ⟨m,le,q⟩
    . rw[Vq] at q;cases hx:x == name with
      | true =>
       rw[hx] at q
       cases q
       rw[show x=name by simpa using hx]
       exact .inr ⟨S8,Te _,_,Yp _ _ _ _ (Tr _ rfl),rfl⟩
      | false =>
       simp_all
    . exact .inr ⟨S9 _ m,by rw[hz] at le;exact Nat.le_of_succ_le le,q⟩
  . rename_i hk;rw[if_neg hk];rcases uj r h acc x c e with⟨n,q⟩ | ⟨m,q⟩
    . refine .inl ⟨λz=>?_,q⟩;rcases Tq.mp z with w | w
      . simp_all
      . exact n w
    . exact .inr ⟨S9 _ m,q⟩
theorem uF{lo:Nat}: ∀ names(n:Nat)(acc:List (Str × Tp)),(∀ x y c,acc.lookup x=fv c->acc.lookup y=fv c->lo<=c->x=y)->(∀ x c,acc.lookup x=fv c->c < n) ->
  ∀ x y c,(VZ n names acc).lookup x=fv c->(VZ n names acc).lookup y=fv c->lo<=c->x=y
 | [],_,_,h,_=>h
 | (name,kind)::r,n,acc,h,hn=>by
  unfold VZ;split
  . have at_: ∀ z d,((name,n)::acc).lookup z=fv d->(z=name/\d=n)\/acc.lookup z=fv d:=λz d e=>by
     rw[Vq] at e;cases hz:z == name with
     | true=>simp_all
     | false=>rw[hz] at e;exact .inr e
    refine uF r (n+1) _ (λx y c e1 e2 hl=>?_) λx c e=>?_
    . rcases at_ x c e1 with⟨a,b⟩ | a<;>rcases at_ y c e2 with⟨a',b'⟩ | a'
      . rw[a,a']
      . exact absurd (hn y c a') (by rw[b];exact Uq _)
      . exact absurd (hn x c a) (by rw[b'];exact Uq _)
      . exact h x y c a a' hl
    . rcases at_ x c e with⟨_,b⟩ | a
      . simp_all
      . exact Xs (hn x c a)
  . exact uF r n acc h hn
theorem oV{M:Model}{A:U5}{E:S5->Tc->Prop}{s:Tc}{scope:Xm}{globals:Tp}{cl:List (Str × Tp)}{qual:Str}{outer:Env}{Q:Env->Tc->Prop}
  (h:Q { scope:=scope,locals:=s.heap.objs.size,globals:=globals,cells:=VZ (s.heap.objs.size+1) scope.names cl,qual:=qual,func:=SU,code:=outer.code,frame:=outer.frame,builtins:=outer.builtins}
   { s with heap:=XM (s.heap.push { cls:= .type "dict",data:= .dict #[]}) scope.names}):TC M A (YI scope globals cl [] qual SU .none (fv outer)) Q E s:=by
 simp only[YI,Uy,if_true];refine SW (wpAny_alloc (SW (wpAny_layCells _ (λname kind cells=>by rfl) _ _ _ _ ?_)));rw[show({ s with heap:=s.heap.push { cls:= .type "dict",data:= .dict #[]}}:Tc).heap.objs.size=s.heap.objs.size+1 from UA ..];exact SW (by exact To (To h))
noncomputable def Ei(cs:List Uh) v :=
 forIn cs true λc r=>if r=true then(ZO c v (Vl c v) >>= λok=>pure (VS ok)) else pure (VS r)
def uf M A v e acc (X:S5->Tc->Prop) (D:Tc->Prop):=λok u=>if ok=true then
  TC M A (Vl e v) (λx u1=>TC M A (call (.builtin "list.append") [acc,x]) (λ_ u2=>D u2) X u1) X u
 else D u
def Hr(M:Model)(A:U5) v tg e (cs:List Uh) (it acc:S5) (X:S5->Tc->Prop) (D:Tc->Prop) (i:S5) (u:Tc) :=
 TC M A (Yo tg it i) (λ_ u1=>TC M A (W9 tg v i) (λ_ u2=>TC M A (Ei cs v) (uf M A v e acc X D) X u2) X u1) X u
theorem nr{prog:Ug}{w:Uz}{A:U5}{R:Result->Tc->Prop}{s:Tc}{elt target iter:Uh}{ifs:List Uh}{scope:Xm}{pos:Pos}{it acc:S5}{env:Env}(I:Nat->Tc->Prop)
  (turn: ∀ k u,I k u->TC (TM prog w) A (ZQ it) (λr u1=>match r with
   | none=>R (.ok .next) u1
   | some i=>Hr (TM prog w) A env target elt ifs it acc (notedBy (TM prog w) A env λe s'=>R (.error e) s') (λu2=> ∃ m,m < k/\I m u2) i u1) (notedBy (TM prog w) A env λe s'=>R (.error e) s') u)
  (n:Nat) (h:I n s):XY (TM prog w) A (.compLoop (.ListComp elt [⟨target,iter,ifs,0⟩] scope pos) 0 it acc env) R s:=by
 refine codeAny_loop rfl I (λk u hu=>wpAny_noted (m:=compTurn (.ListComp elt [⟨target,iter,ifs,0⟩] scope pos) 0 it acc env) ?_) n h;rw[compTurn_list];refine SW (Za (SW (Ui (turn k u hu) (λr u1 g=>?_) λ_ _ z=>z)))
 match r,g with
 | none,g=>exact To g
 | some i,g =>
  refine SW (Ui g (λ_ _ g=>SW (Ui g (λ_ _ g=>SW (Ui g (λok u4 g=>?_) λ_ _ z=>z)) λ_ _ z=>z)) λ_ _ z=>z)
  match ok,g with
  | false,g=>exact To (YZ rfl g)
  | true,g=>exact SW (SW (Ui g (λ_ _ g=>SW (Ui g (λ_ _ g=>To (To (YZ rfl g))) λ_ _ z=>z)) λ_ _ z=>z))
def PF X (ifs:List Uh) (t:TT) :=
 ∀ pins s(σ :St) H Q,Inv X pins σ H s->t σ H Q ->
  TC (TM X.prog X.w) X.A (forIn ifs true λc r=>if r=true then do let ok <- ZO c X.env (Vl c X.env);pure (VS ok) else pure (VS r)) (TP X pins σ Q) X.xe s
noncomputable def FL:TT:=λ_ H Q=>Q true H
theorem G9:PF X [] FL:=λ_ _ σ H Q I h=>wpAny_tests_nil ⟨H,I,h⟩
theorem K5(h:PT X c t):PF X [c] t:=λpins s σ H Q I q=>wpAny_tests_one (h pins s σ H Q I q)
def Pd(k:Nat)(wi:TI)(g:TG)(tt:TT)(te:TE):TE:=fun σ H Q=>wi σ H λJ H1=> ∃ W:Nat->Nat->List V->Hp->Prop,(∃ m,W 0 m [] H1)/\ ∀ i m ys H,W i m ys H ->
 (J.stop i H/\ ∀ p,H p=SU->Q (.ref p) (upd H p (.lst ys))) \/
 (J.go i H/\ys.length < Ta/\ ∀ x H',J.Ln i H x H'->g x (σ ++S4 k SU) H' fun σ2 H2=>tt σ2 H2 λb H3 =>
  if b=true then te σ2 H3 λy H4=> ∃ m',m' < m/\W (i+1) m' (ys++[y]) H4 else ∃ m',m' < m/\W (i+1) m' ys H3)
section
variable{X:Cx}{pins:List (Tp × Obj)}{σ :St}{H:Hp}{s:Tc}{scope:Xm}{vars:List Str}{cl:List (Str × Tp)}
theorem i7(h:ij scope.names X.env.scope.names X.N vars=true): ∀ p∈scope.names,(p.2= .cell->scope.names.lookup p.1=fv .cell)/\(p.2= .free->X.env.kindOf p.1=fv .cell\/X.env.kindOf p.1=fv .free)/\(p.2= .local->scope.names.lookup p.1=fv .local):=by
 intro p hp;unfold ij at h;simp only[Td,Uk] at h;obtain⟨⟨h1,_⟩,_⟩:=h;have q:=h1 p hp;simp only[WT,bne_iff_ne,beq_iff_eq] at q;obtain⟨⟨q1,q2⟩,q3⟩:=q;refine⟨λe=>?_,λe=>?_,λe=>?_⟩
 . rcases q1 with z | z
   . exact absurd e z
   . exact z
 . rcases q2 with z | z
   . exact absurd e z
   . exact z
 . rcases q3 with z | z
   . exact absurd e z
   . exact z
theorem JY(h:ij scope.names X.env.scope.names X.N vars=true): ∀ n∈X.N,¬ n∈vars->scope.names.lookup n≠fv .local/\scope.names.lookup n≠fv .cell:=by
 intro n hn hv;unfold ij at h;simp only[Td,Uk] at h;obtain⟨⟨_,h2⟩,_⟩:=h;have q:=h2 n hn;simp only[WT,Td,bne_iff_ne,List.contains_iff_mem] at q;exact q.resolve_left hv
theorem xw(h:ij scope.names X.env.scope.names X.N vars=true): ∀ n∈vars,scope.names.lookup (mask n)=SU:=by
 intro n hn;unfold ij at h;simp only[Td,Uk] at h;simpa using h.2 n hn
theorem Inv.fG{C:Tp}(I:Inv X pins σ H s)(hkind:scope.kind= .function)(hlc:ij scope.names X.env.scope.names X.N vars=true)
  (hc1: ∀ x c,cl.lookup x=fv c->(scope.names.lookup x≠fv .cell/\X.env.cells.lookup x=fv c)\/(scope.names.lookup x=fv .cell/\s.heap.objs.size<=c/\h'.IsCell c SU)) (hc2: ∀ x,scope.names.lookup x=fv .free\/scope.names.lookup x=fv .cell-> ∃ c,cl.lookup x=fv c)
  (hci: ∀ x y c,cl.lookup x=fv c->cl.lookup y=fv c->s.heap.objs.size<=c->x=y)
  (hfp: ∀ b∈fp,lM X pins H b) (hfo: ∀ b∈fp,∃ o,s.heap.get? b=fv o) (hC:s.heap.objs.size<=C) (hn:h'.Ns C m') (k: ∀ b o,s.heap.get? b=fv o->h'.get? b=fv o) :
  Inv (fG X vars scope cl C s H fp (X.pn++pins)) [] (σ ++S4 vars.length SU) H { s with heap:=h',toks:=t'}:=by
 have hHC:=I.bL.fresh hC;have lt: ∀ x c,X.env.cells.lookup x=fv c->c < s.heap.objs.size:=λx c e=>by obtain⟨v,q⟩:=I.cell x c e;exact q.lt
 refine⟨?ok,rfl,I.bare,Un.kept k,⟨m',hn,?loc⟩,λx c e=>?cell,hHC,λx c e=>(hc1 x c e).elim (λz=>I.iD x c z.2) (λz=>I.bL.fresh z.2.1),?pin,I.bL.kept k,?len⟩
 case ok =>
  refine{ mod:=I.ok.mod,kind:=?_,glob:=I.ok.glob,blt:=I.ok.blt,above:=hC,inj:=?_,has:=?_,Lm:=?_,hd:=I.ok.hd,frames:=I.ok.frames,Ox:= .inl rfl,Rb:=?_,bs:=I.bs,BS:=Ua I.ok.BS I.sz,ye:=?_,Ai:=?_,kA:=I.stack,FZ:=I.wq}
  . exact hkind
  . intro x y c e1 e2;rcases hc1 x c e1 with z | z
    . rcases hc1 y c e2 with w | w
      . exact I.ok.inj x y c z.2 w.2
      . exact absurd (Tf (lt x c z.2) w.2.1) (Uq _)
    . exact hci x y c e1 e2 z.2.1
  . intro x hx;have hx':(Vm scope cl C X.env).kindOf x=fv .cell\/(Vm scope cl C X.env).kindOf x=fv .free:=hx;have e:(Vm scope cl C X.env).kindOf x=(scope.names.lookup x).map λk=>if (k == VB&&X.env.scope.kind == .function&&X.env.kindOf x == fv .cell) then VC else k:=iO
    rw[e] at hx';cases q:scope.names.lookup x with
    | none=>rw[q] at hx';simp at hx'
    | some kd =>
     by_cases hf:kd= .free
     . subst hf;exact hc2 x (.inl q)
     . rw[q] at hx';have hf':(kd == VB)=false:=by simpa using hf
       simp only[VU,hf',Uc,VM,if_false,Xt] at hx';rcases hx' with z | z
       . exact hc2 x (.inr (by rw[q,z]))
       . exact absurd z hf
  . intro x c hx e;have hx':(scope.names.lookup x == fv VC)=true:=hx;rcases hc1 x c e with z | z
    . exact absurd (by simpa using hx') z.1
    . exact z.2.1
  . intro b hb;have f:=hfp b hb;obtain⟨o,e⟩:=hfo b hb;exact⟨TQ (Tf (Tu e) hC),λx c e z=>(hc1 x c e).elim (λw=>f.2.2.2.2.1 x c w.2 z) (λw=>absurd (Tf (Tu (z ▸ ‹_› :s.heap.get? c=fv o)) w.2.1) (Uq _))⟩
  . intro b o e hb;have f:=hfp b hb;rcases f.2.2.2.1 with z | z
    . exact I.ok.ye b o e z
    . exact absurd (Tf (Tu (I.ok.bs b o e).1) z) (Uq _)
  . intro b hb z;have f:=hfp b hb;rcases Tq.mp (I.kS b z) with q | q
    . exact f.2.1 q
    . exact f.2.2.1 q
 case loc =>
  intro i x v e1 e2 e3
  have e1':(j4 X.N vars)[i]?=fv x:=e1
  have e:(Vm scope cl C X.env).scope.names.lookup x=(scope.names.lookup x).map λk=>if (k == VB&&X.env.scope.kind == .function&&X.env.kindOf x == fv .cell) then VC else k:=iO
  by_cases hi:i < σ.length
  . rw[TV hi] at e2;unfold j4 at e1';rw[TV (by rw[SX,<- I.len];exact hi),T7] at e1';cases q:X.N[i]? with
    | none=>rw[q] at e1';cases e1'
    | some n =>
     rw[q] at e1'
     have e1'':(if vars.contains n=true then mask n else n)=x:=Ud e1'
     have vis:(scope.names.lookup x).isSome=true:=by
      unfold Ko at e3;have e3':(Vm scope cl C X.env).scope.names.lookup x=fv .local\/(Vm scope cl C X.env).scope.names.lookup x=fv .cell\/(Vm scope cl C X.env).scope.names.lookup x=fv .free:=e3;rw[e] at e3';cases z:scope.names.lookup x with
      | none=>rw[z] at e3';simp at e3'
      | some _=>rfl
     by_cases hv:n∈vars
     . rw[if_pos (by simpa using hv)] at e1'';have:=xw (X:=X) hlc n hv;rw[e1''] at this;rw[this] at vis;cases vis
     . rw[if_neg (by simpa using hv)] at e1'';subst e1'';have nl:=JY (X:=X) hlc n (Uw q) hv;cases z:scope.names.lookup n with
       | none=>rw[z] at vis;cases vis
       | some kd =>
        have hm:=i7 (X:=X) hlc _ (lookup_mem z)
        have hkd:kd= .free:=by
         unfold Ko at e3;have e3':(Vm scope cl C X.env).scope.names.lookup n=fv .local\/(Vm scope cl C X.env).scope.names.lookup n=fv .cell\/(Vm scope cl C X.env).scope.names.lookup n=fv .free:=e3;rw[e,z] at e3';by_cases hf:kd= .free
         . exact hf
         . simp_all
        subst hkd
        have kk:=hm.2.1 rfl
        obtain⟨m,_,hl⟩:=I.loc
        obtain⟨u,r,look⟩:=hl i n v q e2 (.inr kk)
        obtain⟨c,hcl⟩:=hc2 n (.inl z)
        have hco:=(hc1 n c hcl).elim (·.2) (λw=>by rw[z] at w;cases w.1)
        have look': ∃ c,X.env.cells.lookup n=fv c/\s.heap.IsCell c (fv u):=by
         rcases look with⟨y,_⟩ | ⟨_,y⟩
         . rcases kk with w | w<;>(rw[w] at y;cases y)
         . exact y
        obtain⟨c',hc',⟨o,ho,hd⟩⟩:=look'
        have ec:=Ud (hco.symm.trans hc')
        subst ec
        refine⟨u,r,.inr ⟨?_,c,hcl,o,k c o ho,hd⟩⟩
        show(Vm scope cl C X.env).scope.names.lookup n=fv .cell\/(Vm scope cl C X.env).scope.names.lookup n=fv .free
        rw[e,z]
        simp only[VU]
        split
        . exact .inl rfl
        . exact .inr rfl
  . rw[TU (Nat.not_lt.mp hi),VF] at e2;split at e2<;>cases e2
 case cell =>
  rcases hc1 x c e with z | z
  . obtain⟨v,o,ho,hd⟩:=I.cell x c z.2;exact⟨v,o,k c o ho,hd⟩
  . exact⟨SU,z.2.2⟩
 case pin =>
  intro p hp
  have hp':p∈X.pn++pins:=by simpa [L2.fG] using hp
  obtain⟨e,n,ne,nf,d⟩:=I.pin p hp'
  refine⟨k _ _ e,n,TQ (Tf (Tu e) hC),λz=>?_,d⟩
  rcases Tq.mp (I.kS p.1 z) with q | q
  . exact ne q
  . exact nf q
 case len =>
  show(σ ++S4 vars.length SU).length=(j4 X.N vars).length
  unfold j4
  rw[S1,S1,SX,Yu,I.len]
end
def GK(n:Nat)(g:TG):= ∀ x σ H Q,g x σ H Q->g x σ H fun σ2 H2=>Q σ2 H2/\ ∀ j,j < n-> σ2[j]?= σ[j]?
def LP(n:Nat)(g:BX):= ∀ xs σ H Q,g xs σ H Q->g xs σ H fun σ2 H2=>Q σ2 H2/\ ∀ j,j < n-> σ2[j]?= σ[j]?
def u9(g:TG):= ∀ x σ H Q Q',(∀ σ2 H2,Q σ2 H2->Q' σ2 H2)->g x σ H Q->g x σ H Q'
theorem DS(h:n<=i):GK n (fX i):=λx σ H Q q=>⟨q,λj hj=>UH (by omega)⟩
theorem vm:u9 (fX i):=λx σ H Q Q' f q=>f _ _ q
theorem Iu:LP n yy:=λxs σ H Q q=>⟨q.1,q.2,λ_ _=>rfl⟩
theorem Ek(h:GK n g)(hm:u9 g)(hs:LP n gs):LP n (lx g gs):=λxs σ H Q q=>by
 obtain⟨v,r,e,z⟩:=q;refine⟨v,r,e,hm _ _ _ _ _ (fun σ2 H2 y=>?_) (h _ _ _ _ z)⟩;have y':=hs _ _ _ _ y.1;have:(fun σ3 H3=>(Q σ3 H3/\ ∀ j,j < n-> σ3[j]?= σ2[j]?))=fun σ3 H3=>(Q σ3 H3/\ ∀ j,j < n-> σ3[j]?= σ[j]?):=by
  simp_all
 rw[this] at y';exact y'
theorem HJ{K}(hs:LP n gs):GK n (uC K m gs):=λx σ H Q q=>by
 obtain⟨a,xs,e,h1,h2,h3⟩:=q;exact⟨a,xs,e,h1,h2,hs _ _ _ _ h3⟩
section
variable{X:Cx}{scope:Xm}{vars:List Str}{elt tg iter:Uh}{ifs:List Uh}{pos:Pos}{wi:TI}{g:TG}{tt:TT}{te:TE}
theorem nc{pins:List (Tp × Obj)}{σ :St}{H2:Hp}{s2:Tc}{cl:List (Str × Tp)}{it:Tp}{fp:List Tp}{tn:Nat->UU->Prop}{J:It}{RR:S5->Tp->Result->Tc->Prop}{Q:VK}{E:S5->Tc->Prop}
  (hc:X.calm=true) (hx: ∀ v s,¬ X.xe v s) (hkind:scope.kind= .function) (hlc:ij scope.names X.env.scope.names X.N vars=true)
  (hb: ∀ cl C s₀ H₀ ex pn,PG (fG X vars scope cl C s₀ H₀ ex pn) tg g/\PF (fG X vars scope cl C s₀ H₀ ex pn) ifs tt/\PE (fG X vars scope cl C s₀ H₀ ex pn) elt te) (hgk:GK X.N.length g)
  (hc1: ∀ x c,cl.lookup x=fv c->X.env.cells.lookup x=fv c) (hc2: ∀ x,scope.names.lookup x=fv .free-> ∃ c,cl.lookup x=fv c)
  (I2:Inv X pins σ H2 s2) (T:Turn X.prog X.w X.K tg J fp it tn) (st2:tn 0 s2.heap) (f2: ∀ b∈fp,lM X pins H2 b)
  {W:Nat->Nat->List V->Hp->Prop} {m0:Nat} (w0:W 0 m0 [] H2)
  (turn: ∀ i m ys H,W i m ys H->(J.stop i H/\ ∀ p,H p=SU->Q (.ref p) (upd H p (.lst ys))) \/
   (J.go i H/\ys.length < Ta/\ ∀ x H',J.Ln i H x H'->g x (σ ++S4 vars.length SU) H' fun σ2 H2=>tt σ2 H2 λb H3 =>
    if b=true then te σ2 H3 λy H4=> ∃ m',m' < m/\W (i+1) m' (ys++[y]) H4 else ∃ m',m' < m/\W (i+1) m' ys H3))
  (hRR: ∀ D C s4 H4 ys m,Inv X pins σ (upd H4 D (.lst ys)) s4->s4.heap.Ns C m->H4 D=SU->(upd H4 D (.lst ys)) C=SU->C≠X.env.locals->X.s₀.heap.objs.size<=C->(∀ x c,X.env.cells.lookup x=fv c->c≠C)->(∀ p∈X.pn++pins,p.1≠C) ->
   Q (.ref D) (upd H4 D (.lst ys))->RR (.ref D) C (.ok .next) s4) :
  TC (TM X.prog X.w) X.A (newList []) (λacc s₃ =>TC (TM X.prog X.w) X.A (YI scope X.env.globals cl [] X.env.qual SU .none (fv X.env)) (λcenv s₄ =>
   XY (TM X.prog X.w) X.A (.compStart (.ListComp elt [⟨tg,iter,ifs,0⟩] scope pos) 0 (.ref it) acc { cenv with scope:=relabel scope X.env}) (RR acc cenv.locals) s₄) E s₃) E s2:=by
 refine US (oV ?_);dsimp only;generalize hH2:s2.heap.push { cls:= .type "list",dict:=SU,data:= .seq ([]).toArray}=P2;have hC:P2.objs.size=s2.heap.objs.size+1:=by rw[<- hH2,UA]
 have hDC:s2.heap.objs.size≠P2.objs.size:=by rw[hC];exact TQ (XG _)
 have hCle:s2.heap.objs.size<=P2.objs.size:=by rw[hC];exact Z5 _
 have hz:(P2.push { cls:= .type "dict",data:= .dict #[]}).objs.size=P2.objs.size+1:=UA ..;have cn:=uj scope.names (P2.push { cls:= .type "dict",data:= .dict #[]}) cl;rw[hz] at cn;have ci:=uF scope.names (P2.objs.size+1) cl (λx y c e1 _ hl=>absurd (Tf (I2.cell x c (hc1 x c e1)).choose_spec.lt hl) (Uq _)) (λx c e=>Tf (I2.cell x c (hc1 x c e)).choose_spec.lt (Xu hCle));have cs: ∀ x,scope.names.lookup x=fv .free\/scope.names.lookup x=fv .cell-> ∃ c,(VZ (P2.objs.size+1) scope.names cl).lookup x=fv c:=λx h=>We.mp (Ww _ _ _ (h.elim (λz=> .inr (We.mpr (hc2 x z))) .inl));have hns₁ :(XM (P2.push { cls:= .type "dict",data:= .dict #[]}) scope.names).Ns P2.objs.size (λ_=>SU):=(Heap.Ns.new P2 (.type "dict")).keeps (Yp _ _);have kp: ∀ b o,P2.get? b=fv o->(XM (P2.push { cls:= .type "dict",data:= .dict #[]}) scope.names).get? b=fv o:=λb o e=>Yp _ _ b o (S0 _ e);generalize hh₁ :XM (P2.push { cls:= .type "dict",data:= .dict #[]}) scope.names=h₁ at *;generalize hcl':VZ (P2.objs.size+1) scope.names cl=cl' at *;have c1: ∀ x c,cl'.lookup x=fv c->(scope.names.lookup x≠fv .cell/\X.env.cells.lookup x=fv c)\/(scope.names.lookup x=fv .cell/\P2.objs.size+1<=c/\h₁.IsCell c SU):=λx c e=>by
  rcases cn x c e with⟨n,q⟩ | ⟨m,q⟩
  . exact .inl ⟨λz=>n (lookup_mem z),hc1 x c q⟩
  . exact .inr ⟨(i7 (X:=X) hlc _ m).1 rfl,q⟩
 have old:=λb o e=>kp b o (hH2 ▸ S0 _ e);have hacc:=kp _ _ (hH2 ▸ Tr _ rfl);have c1': ∀ x c,cl'.lookup x=fv c->(scope.names.lookup x≠fv .cell/\X.env.cells.lookup x=fv c)\/(scope.names.lookup x=fv .cell/\s2.heap.objs.size<=c/\h₁.IsCell c SU):=λx c e=>(c1 x c e).imp id λz=>⟨z.1,Ua (Xu hCle) z.2.1,z.2.2⟩
 generalize hDe:s2.heap.objs.size=D at *;generalize hCe:P2.objs.size=C at *;have fo: ∀ b∈fp,∃ o,s2.heap.get? b=fv o:=λb hb=>by obtain⟨o,e,_⟩:=T.obj _ _ st2 b hb;exact⟨o,e⟩
 have fpD: ∀ b∈fp,b < D:=λb hb=>by obtain⟨o,e⟩:=fo b hb;rw[<- hDe];exact Tu e
 have pnlt: ∀ p∈X.pn++pins,p.1 < D:=λp hp=>by rw[<- hDe];exact Tu (I2.pin p hp).1
 have cllt: ∀ x c,X.env.cells.lookup x=fv c->c < D:=λx c e=>by obtain⟨v,q⟩:=I2.cell x c e;rw[<- hDe];exact q.lt
 have hLD:X.env.locals < D:=by rw[<- hDe];exact I2.lt
 have hD0:X.s₀.heap.objs.size<=D:=by rw[<- hDe];exact I2.sz
 have IY0:Inv (fG X vars scope cl' C s2 H2 fp (X.pn++pins)) [] (σ ++S4 vars.length SU) H2 { s2 with heap:=h₁,toks:=s2.toks} :=
  I2.fG hkind hlc (by rw[hDe];exact c1') cs (by rw[hDe];exact ci) f2 fo (by rw[hDe];exact hCle) hns₁ old
 have st1:=T.keep _ _ _ st2 λb _ o e=>old b o e;obtain⟨hg,hf,he⟩:=hb cl' C s2 H2 fp (X.pn++pins);generalize hY:fG X vars scope cl' C s2 H2 fp (X.pn++pins)=Y at *;have Yprog:Y.prog=X.prog:=by rw[<- hY];rfl
 have Yw:Y.w=X.w:=by rw[<- hY];rfl
 have YK:Y.K=X.K:=by rw[<- hY];rfl
 have YA:Y.A=X.A:=by rw[<- hY];rfl
 have Ycalm:Y.calm=true:=by rw[<- hY];exact hc
 have Yenv:Y.env=Vm scope cl' C X.env:=by rw[<- hY];rfl
 have Yloc:Y.env.locals=C:=by rw[Yenv];rfl
 have Yex:Y.ex=fp:=by rw[<- hY];rfl
 have Yfs:Y.fs=yE X.stack:=by rw[<- hY];rfl
 have Ys0:Y.s₀ =s2:=by rw[<- hY];rfl
 have YH0:Y.H₀ =H2:=by rw[<- hY];rfl
 have Ypn:Y.pn=X.pn++pins:=by rw[<- hY];rfl
 have YN:Y.N=j4 X.N vars:=by rw[<- hY];rfl
 have Yxe: ∀ v s,¬ Y.xe v s:=by rw[<- hY];exact hx
 have noE: ∀{E':S5->Tc->Prop}{v:S5}{s:Tc},Y.xe v s->E' v s:=λh=>absurd h (Yxe _ _);have Ycell: ∀ x c,Y.env.cells.lookup x=fv c->c≠D:=λx c e=>by
  rw[Yenv] at e;exact(c1 x c e).elim (λz=>TQ (cllt x c z.2)) (λz=>V6 (Tf (Nat.lt_succ_of_le hCle) z.2.1))
 have fpY: ∀{H':Hp}{pl:List (Tp × Obj)},(∀ b∈fp,H' b=SU)->(∀ p∈pl,D<=p.1)-> ∀ b∈fp,lM Y pl H' b:=λ{H' pl} hn hp b hb=>by
  refine⟨hn b hb,?_,?_,.inl (by rw[Yex];exact hb),?_,?_⟩
  . rw[Yloc];exact TQ (Tf (fpD b hb) hCle)
  . rw[Yfs];intro z;rcases Tq.mp (I2.kS b z) with q | q
    . exact(f2 b hb).2.1 q
    . exact(f2 b hb).2.2.1 q
  . intro x c e z;rw[Yenv] at e;exact(c1 x c e).elim (λw=>(f2 b hb).2.2.2.2.1 x c w.2 z) (λw=>absurd (Tf (fpD b hb) (Ua (Xu hCle) (z ▸ w.2.1))) (Uq _))
  . intro p hp';rcases Tt.mp hp' with q | q
    . rw[Ypn] at q;exact(f2 b hb).2.2.2.2.2 p q
    . intro z;have:=hp p q;rw[z] at this;exact absurd (Tf (fpD b hb) this) (Uq _)
 have Dfs:D ∉ Y.fs:=by
  rw[Yfs];intro z;rcases Tq.mp (I2.kS D z) with q | q
  . exact absurd hLD (by rw[q];exact Uq _)
  . exact I2.LM (by rw[hDe];exact Te _) q
 have loop:XY (TM X.prog X.w) X.A (.compLoop (.ListComp elt [⟨tg,iter,ifs,0⟩] scope pos) 0 (.ref it) (.ref D) (Vm scope cl' C X.env)) (RR (.ref D) C) { s2 with heap:=h₁,toks:=s2.toks}:=by
  refine nr (λn s'=> ∃ i ys H' az k,Inv Y [(D,{ cls:= .type "list",data:= .seq az k})] (σ ++S4 vars.length SU) H' s'/\tn i s'.heap/\(∀ b∈fp,H' b=SU)/\W i n ys H'/\Vals ys az.toList/\ys.length<=Ta) ?_ m0
   ⟨0,[],H2,_,0,IY0.iT (λp hp=>?_),st1,λb hb=>(f2 b hb).1,w0,.nil,U2 _⟩
  . rintro n s3 ⟨i,ys,H3,az,k,I3,st3,fr3,w3,hv,hlen⟩;rcases turn i n ys H3 w3 with⟨stop,q⟩ | ⟨go,hlt,step⟩
    . have d:=T.done Y Yprog Yw YK Ycalm i _ s3 _ H3 (notedBy (TM X.prog X.w) X.A (Vm scope cl' C X.env) λe s'=>RR (.ref D) C (.error e) s') I3 (fpY fr3 (by intro p hp;rw[TY.mp hp];exact Te _)) st3 stop;rw[YA] at d;refine Ui d (λr s4 hr=>?_) λ_ _ z=>z;obtain⟨rfl,I4⟩:=hr;obtain⟨eD,nD,_,_,_⟩:=I4.pin (D,_) (TH _ S8);dsimp only at eD nD;obtain⟨m,hnC,_⟩:=I4.loc;rw[Yloc] at hnC;have hb4:=I4.base;rw[Yfs,Yex,YH0,Ys0] at hb4;have hok4:=I4.bL;rw[Yprog,Yw] at hok4;have hCf:=I4.free;rw[Yloc] at hCf;have neD: ∀ b o,s2.heap.get? b=fv o->b≠D:=λb o e=>by rw[<- hDe];exact TQ (Tu e)
      have IX:Inv X pins σ (upd H3 D (.lst ys)) s4:=by
       refine I2.LY (ch:=fp) (I4.os.trans (by rw[Ys0])) ⟨hb4.keep,hb4.slot,λb o e n hx'=>?_,hb4.there,λb xs e=>?_,λb o u e=>?_,λb ps e=>?_⟩ (λb u e=>?_) I4.bare (λb hb'=>?_)
       . rw[aT (neD b o e)];exact hb4.free b o e n hx'
       . rw[aT (aX (hb4.kU b xs e) nD)];exact hb4.kU b xs e
       . rw[aT (aX (hb4.kn b o u e) nD)];exact hb4.kn b o u e
       . obtain⟨more,e'⟩:=hb4.lO b ps e;exact⟨more,by rw[aT (aX e' nD)];exact e'⟩
       . by_cases hbD:b=D
         . subst hbD;rw[bH] at e;cases e;exact⟨hlen,az.toList,k,hv,by simpa using eD⟩
         . rw[aT hbD] at e;exact(hok4 b u e).nM (λc v _ z=>z) (λc z=>by rw[aT (aX z nD)];exact z) λc xs z=>by rw[aT (aX z nD)];exact z
       . have f:=f2 b hb';exact⟨f.2.2.2.1,f.2.1,f.2.2.2.2.1,f.2.2.2.2.2⟩
      refine hRR D C s4 H3 ys m IX hnC nD (by rw[aT (V1 hDC)];exact hCf) (V6 (Tf hLD hCle)) (Ua hD0 hCle) (λx c e=>TQ (Tf (cllt x c e) hCle)) (λp hp=>TQ (Tf (pnlt p hp) hCle)) (q D nD)
    . have d:=T.item Y Yprog Yw YK Ycalm i _ s3 _ H3 (notedBy (TM X.prog X.w) X.A (Vm scope cl' C X.env) λe s'=>RR (.ref D) C (.error e) s') I3 (fpY fr3 (by intro p hp;rw[TY.mp hp];exact Te _)) st3 go;rw[YA] at d;refine Ui d (λr s4 hr=>?_) λ_ _ z=>z;obtain⟨u,rfl,h4⟩:=hr;refine Ui h4 (λ_ s5 h5=>?_) λ_ _ z=>z;obtain⟨x,H5,I5,r5,y5,st5,fr5⟩:=h5;have I5':=I5.pinned (fpY fr5 (by intro p hp;rw[TY.mp hp];exact Te _)) (T.obj _ _ st5);have a1:=hg _ s5 _ H5 x u _ I5' r5 (hgk _ _ _ _ (step x H5 y5));rw[Yprog,Yw,YA,Yenv] at a1;refine Ui a1 (λ_ s6 h6=>?_) λ_ _ z=>noE z;obtain⟨σ6,H6,I6,q6,k6⟩:=h6;have a2:=hf _ s6 σ6 H6 _ I6 q6;rw[Yprog,Yw,YA,Yenv] at a2;have back: ∀{pl:List (Tp × Obj)}{H':Hp}{s':Tc},Inv Y pl σ6 H' s'->Inv Y pl (σ ++S4 vars.length SU) H' s':=λ{pl H' s'} I'=>by
       refine I'.weak ?_ λj v e=>?_
       . rw[I'.len,<- I3.len]
       . by_cases hj:j < σ.length
         . rw[k6 j (by rw[<- I2.len];exact hj)];exact e
         . rw[TU (Nat.not_lt.mp hj),VF] at e;split at e<;>cases e
      refine Ui a2 (λok s7 h7=>?_) λ_ _ z=>noE z;obtain⟨H7,I7,q7⟩:=h7;cases ok with
      | false =>
       rw[if_neg Tn] at q7
       unfold uf
       rw[if_neg (show ¬ false=true from Tn)]
       obtain⟨m',hm',w7⟩:=q7
       refine⟨m',hm',i+1,ys,H7,az,k,(back I7).iT (λp hp=>I7.pin p (TH _ (V3 _ hp))),T.keep _ _ _ st5 λb hb' o e=>(I7.pin (b,o) (TH _ (TH _ (eP hb' e)))).1,λb hb'=>?_,w7,hv,hlen⟩
       obtain⟨o,e,_⟩:=T.obj _ _ st5 b hb'
       exact(I7.pin (b,o) (TH _ (TH _ (eP hb' e)))).2.1
      | true =>
       rw[if_pos rfl] at q7
       unfold uf
       rw[if_pos (show true=true from rfl)]
       have a3:=he _ s7 σ6 H7 _ I7 q7
       rw[Yprog,Yw,YA,Yenv] at a3
       refine Ui a3 (λy s8 h8=>?_) λ_ _ z=>noE z
       obtain⟨v,H8,I8,r8,m',hm',w8⟩:=h8
       obtain⟨eD,nD,neL,nfD,dD⟩:=I8.pin (D,_) (TH _ (V3 _ S8))
       dsimp only at eD nD neL nfD dD
       refine append_at (hsz:=by have:=hv.length;simp at this;omega) eD λh9 hs9 e9=>?_
       have st8:=T.keep _ _ _ st5 λb hb' o e=>(I8.pin (b,o) (TH _ (TH _ (eP hb' e)))).1
       have fr8: ∀ b∈fp,H8 b=SU:=λb hb'=>by
        obtain⟨o,e,_⟩:=T.obj _ _ st5 b hb';exact(I8.pin (b,o) (TH _ (TH _ (eP hb' e)))).2.1
       have I8':Inv Y [] (σ ++S4 vars.length SU) H8 s8:=(back I8).iT λp hp=>by cases hp
       have I9:=I8'.turned (it:=D) (h':=h9) (t':=s8.toks) (λb o hb' e=>hs9.extBut b o hb' e) nD neL (.inr (by rw[Ys0,hDe];exact Te _)) (λx c e=>Ycell x c e) (λp hp=>by
        rw[Tv,Ypn] at hp;exact TQ (pnlt p hp))
       refine⟨m',hm',i+1,ys++[v],H8,az.push y,k+1,I9.iT (λp hp=>?_),T.keep _ _ _ st8 λb hb' o e=>hs9.extBut b o (TQ (fpD b hb')) e,fr8,w8,?_,?_⟩
       . obtain rfl:=TY.mp hp;exact⟨e9,nD,neL,nfD,λv=>by simp⟩
       . rw[Array.toList_push];exact Vals.append hv (.cons r8 .nil)
       . rw[S1,UT];exact hlt
  . obtain rfl:=TY.mp hp;refine⟨hacc,I2.bL.fresh (by rw[hDe];exact Te _),?_,Dfs,λv=>by simp⟩;rw[Yloc];exact hDC
 exact codeAny_compStart_list loop (T.self _ 0 _ _ _ st1 loop)
end
section
variable{X:Cx}{scope:Xm}{vars:List Str}{elt tg iter:Uh}{ifs:List Uh}{pos spos py:Pos}{wi:TI}{g:TG}{tt:TT}{te:TE}{i:Nat}{y:Str}
theorem zg vars (hc:X.calm=true) (hx: ∀ v s,¬ X.xe v s) (hkind:scope.kind= .function) (hlc:ij scope.names X.env.scope.names X.N vars=true) (hi:PI X tg iter wi)
  (hb: ∀ cl C s₀ H₀ ex pn,PG (fG X vars scope cl C s₀ H₀ ex pn) tg g/\PF (fG X vars scope cl C s₀ H₀ ex pn) ifs tt/\PE (fG X vars scope cl C s₀ H₀ ex pn) elt te) (hgk:GK X.N.length g)
  (hs: ∀ x,Ul iter X.env x=pure x:=by intro _;rfl):PE X (.ListComp elt [⟨tg,iter,ifs,0⟩] scope pos) (Pd vars.length wi g tt te):=by
 intro pins s σ H Q I h;obtain⟨cl,hcl,hc1,hc2⟩:=mY (env:=X.env) (scope:=scope) λp hp hf=>I.ok.has p.1 ((i7 (X:=X) hlc p hp).2.1 hf);refine Xz (use:=SU) rfl hs hcl hkind (λp hp=>(i7 (X:=X) hlc p hp).2.2) ?_;refine Ui (hi pins s σ H _ I h) (λv s1 h1=>Ui h1 (λitv s2 h2=>?_) λ_ _ z=>z) λ_ _ z=>z;obtain⟨it,fp,tn,J,H2,rfl,I2,T,st2,f2,W,⟨m0,w0⟩,turn⟩:=h2;refine nc (Q:=Q) (RR:=λacc C=>compPost (TM X.prog X.w) X.A X.xe SU (EP X pins σ Q) acc C) hc hx hkind hlc hb hgk hc1 hc2 I2 T st2 f2 w0 turn ?_;intro D C s4 H4 ys m I4 hn nD nC neL hsz hcell hpin q;refine⟨m,hn,λh' hs'=>⟨.ref D,_,I4.turned (it:=C) (t':=s4.toks) (λb o hb e=>hs'.extBut b o hb e) nC neL (.inr hsz) hcell hpin,rfl,q⟩⟩
def Bi(k i:Nat)(wi:TI)(g:TG)(tt:TT)(te:TE):TS:=λD σ H=>Pd k wi g tt te σ H λv H1=>D.nx (σ.set i (fv v)) H1
theorem zr vars i (hc:X.calm=true) (hx: ∀ v s,¬ X.xe v s) (hkind:scope.kind= .function) (hlc:ij scope.names X.env.scope.names X.N vars=true) (hN:X.N.Nodup) (hiy:X.N[i]?=fv y) (hy:Loc X.env.scope y)
  (hi:PI X tg iter wi)
  (hb: ∀ cl C s₀ H₀ ex pn,PG (fG X vars scope cl C s₀ H₀ ex pn) tg g/\PF (fG X vars scope cl C s₀ H₀ ex pn) ifs tt/\PE (fG X vars scope cl C s₀ H₀ ex pn) elt te) (hgk:GK X.N.length g)
  (hsw:VY (.ListComp elt [⟨tg,iter,ifs,0⟩] scope pos) (fv (.Name y py)) spos.line X.env=pure true:=by rfl)
  (hs: ∀ x,Ul iter X.env x=pure x:=by intro _;rfl)
  (hf:X.fn y=true\/X.env.scope.names.lookup y=fv .local:=by first | exact .inl rfl | exact .inr rfl | assumption) :
  PS X (.Assign [.Name y py] (.ListComp elt [⟨tg,iter,ifs,0⟩] scope pos) spos) (Bi vars.length i wi g tt te):=by
 intro pins s σ H Dn I h;obtain⟨cl,hcl,hc1,hc2⟩:=mY (env:=X.env) (scope:=scope) λp hp hf=>I.ok.has p.1 ((i7 (X:=X) hlc p hp).2.1 hf);rw[exec_Assign_Name_used _ _ _ _ hsw];refine SW (Za (SW ?_));refine SW (Ui (Xz (use:=fv (W9 (.Name y py) X.env)) (Q:=λ_ s'=>SP X pins Dn .next s') rfl hs hcl hkind (λp hp=>(i7 (X:=X) hlc p hp).2.2) ?_) (λ_ s' hq=>To (To hq)) λ_ _ e=>e);refine Ui (hi pins s σ H _ I h) (λv s1 h1=>Ui h1 (λitv s2 h2=>?_) λ_ _ z=>z) λ_ _ z=>z;obtain⟨it,fp,tn,J,H2,rfl,I2,T,st2,f2,W,⟨m0,w0⟩,turn⟩:=h2;refine nc (Q:=λv H1=>Dn.nx (σ.set i (fv v)) H1) (RR:=λacc C=>compPost (TM X.prog X.w) X.A X.xe (fv (W9 (.Name y py) X.env)) (λ_ s'=>SP X pins Dn .next s') acc C) hc hx hkind hlc hb hgk hc1 hc2 I2 T st2 f2 w0 turn ?_;intro D C s4 H4 ys m I4 hn nD nC neL hsz hcell hpin q;refine Zx (pN I4 hN hiy hy (v:= .ref D) rfl (λs5 I5 z9=>?_) hf);obtain⟨a,hsb,ha⟩:=z9;have hCa:C≠a:=by
  rcases ha with z | z
  . rw[z];exact neL
  . exact V1 (hcell _ _ z)
 refine⟨m,hn.sameBut hsb hCa,λh' hs'=>?_⟩;exact⟨_,_,I5.turned (it:=C) (t':=s5.toks) (λb o hb e=>hs'.extBut b o hb e) nC neL (.inr hsz) hcell hpin,q⟩
end
theorem rK:bO X (.builtin "isinstance") (λxs H Q=> ∃ x T t b,xs=[x,.ty T]/\jc X.K H x t/\Xa X.K t (.type T)=fv b/\Q (.bl b) H):=by
 intro pins s σ H xs us Q I r h;obtain⟨x,T,t,b,rfl,ty,k,q⟩:=h;obtain⟨u,c,rfl,ru,rc⟩:=vals2 r;cases(show c=V2 T from rc);exact wY I ru ty k λtk=>⟨.bl b,H,I.tok tk,rfl,q⟩
theorem bF.get(x:bF P w H h a o): ∃ ob,h.get? a=fv ob:=by
 induction o with
 | lst xs=>obtain⟨_,az,n,_,e⟩:=x;exact⟨_,e⟩
 | tup xs=>obtain⟨_,az,_,ob,e,_⟩:=x;exact⟨_,e⟩
 | dK kvs=>obtain⟨_,_,vs,_,ob,es,ep,e,_⟩:=x;exact⟨_,e⟩
 | dT kvs=>obtain⟨_,_,xs,_,ob,es,ep,e,_⟩:=x;exact⟨_,e⟩
 | set S n=>obtain⟨ob,es,ep,t,e,_⟩:=x;exact⟨_,e⟩
 | ins C dx fs=>obtain⟨_,_,_,e,_⟩:=x;exact⟨_,e⟩
 | own y=>exact x
 | xd fs=>obtain⟨mA,⟨od,es,ep,e,_⟩,_⟩:=x;exact⟨_,e⟩
 | rng lo hi=>obtain⟨t,u,v,e⟩:=x;exact⟨_,e⟩
 | jL ob u ih=>obtain⟨e,_⟩:=x;exact⟨_,e⟩
 | tbl ps=>exact⟨_,x⟩
 | met f y=>exact⟨_,x⟩
 | ext φ =>obtain⟨_,e,_⟩:=x;exact e
theorem og: ∀{us},Vals (ss.map V.str) us->StrsAre us ss:=by
 induction ss with
 | nil=>intro us h;cases h;exact .nil
 | cons x r ih =>
  intro us h
  cases h with
  | cons hx ht =>
   obtain⟨t,rfl⟩:=hx
   exact .cons x t (ih ht)
section
variable{prog:Ug}{w:Uz}{A:U5}{E:S5->Tc->Prop}{s:Tc}
theorem Rx[Decidable c](hc:c)(h:TC M A m Q E s):TC M A (if c then m else m') Q E s:=by rw[if_pos hc];exact h
def vk(prog:Ug)(w:Uz)(h:UU)(v:S5)(kv:Key × S5):= ∃ b o kx n,v= .ref b/\h.get? b=fv o/\o.cls= .type "tuple" /\o.data= .seq #[kx,kv.2] n/\(bE prog w).is kv.1 kx=true
theorem vk.keeps(x:vk prog w h v kv)(k: ∀ b o,h.get? b=fv o->o.cls= .type "tuple" ->h'.get? b=fv o):vk prog w h' v kv :=
 by obtain⟨b,o,kx,n,e,g,c,d,r⟩:=x;exact⟨b,o,kx,n,e,k b o g c,c,d,r⟩
end
section
variable{X:Cx}
def Oc(H:Hp)(y:V)(kv:Key × V):= ∃ b,y= .ref b/\H b=fv (.tup [kV kv.1,kv.2])
end
def lG(P:Ug)(w:Uz)(K:SV)(mg:Str->Option S5) base x k (ps:List Str) sp :=
 ∃(f:Tp)(fd:Wd),j6 P w K mg base qP k f fd ps sp/\mg x=fv (.ref f)/\VE K (.ref f)=true/\Binds K fd ps []/\ ∀ us ,us.length=ps.length->VR fd ⟨us,[]⟩=pure (ps.zip us)
theorem yF.args{K st}{ps:List Str}(F:yF K x qual st f fd)
  (h: ∀ kV doc pm an cdv ct us,us.length=ps.length->VR (UE x qual (cR st) (bu st) (aE st) .none kV doc pm an cdv ct) ⟨us,[]⟩=pure (ps.zip us)): ∀ us ,us.length=ps.length->VR fd ⟨us,[]⟩=pure (ps.zip us):=by
 obtain⟨oc,od,kV,doc,pm,an,cdv,ct,osl,rfl,lk,hcd⟩:=F.ex;exact h kV doc pm an cdv ct
def At(K:SV)(mg:Str->Option S5) x st:= ∃(f:Tp)(fd:Wd),yF K x x st f fd/\mg x=fv (.ref f)
section
variable{P:Ug}{w:Uz}{K:SV}{mg:Str->Option S5}{base:UU}
theorem At.ok{st}(a:At K mg x st)(S:dW N ps (aE st))
  (hb: ∀ kV doc pm an cdv ct us,us.length=ps.length->VR (UE x x (cR st) (bu st) (aE st) .none kV doc pm an cdv ct) ⟨us,[]⟩=pure (ps.zip us))
  (len: ∀ vs H Q E,sp vs H Q E->vs.length=ps.length)
  (hbody: ∀ f cdv A outer s H vs Q E,dO k (A.deeper (Xc x (aE st) s.heap.objs.size f cdv))->sp vs H Q E ->
   ∃ t,vV (jf qP P w K mg base N x (aE st) f cdv A outer s H E).oG (bu st) t/\t { nx:=λ_ H'=>Q .non H',rt:=Q} (start N vs) H):lG P w K mg base x (k+1) ps sp:=by
 obtain⟨f,fd,F,hm⟩:=a;exact⟨f,fd,F.ok S len λcdv A outer s H vs Q E=>hbody f cdv A outer s H vs Q E,hm,F.kp,F.binds hb,F.args hb⟩
theorem At.xg{st}(a:At K mg x st)(hb: ∀ (kV doc pm) (an) (cdv ct) (us),us.length=ps.length->VR (UE x x (cR st) (bu st) (aE st) .none kV doc pm an cdv ct) ⟨us,[]⟩=pure (ps.zip us))
  (no: ∀ vs H Q E,¬ sp vs H Q E):lG P w K mg base x 0 ps sp:=by
 obtain⟨f,fd,F,hm⟩:=a;exact⟨f,fd,⟨λvs H Q E h=>absurd h (no vs H Q E),λA outer s H args us vs Q E _ _ _ _ h=>absurd h (no vs H Q E)⟩,hm,F.kp,F.binds hb,F.args hb⟩
end
section
variable{X:Cx}{x:Str}{k j:Nat}{ps:List Str}{sp:Sp}{e:Uh}{es:List Uh}{t:TA}{p pos:Pos}
theorem Q7(D:lG X.prog X.w X.K X.mg X.base x j ps sp)(hr:dO k X.A)(hg:Gl X x)(hj:j<=k)(ha:PA X (e::es) t)(hdb:(x == ("__debug__"))=false:=by decide)
  (he:Ue (e::es) X.env=(false,Vl e X.env)::Ue es X.env:=by rfl) (hpl:(WC pos (Ue es X.env)).any (·.1)=false:=by rfl):PE X (.Call (.Name x p) (e::es) [] pos) (vY sp [] E0 t):=by
 obtain⟨f,fd,F,hm,kp,bd,_⟩:=D;exact Co F (hr.mono hj) hg hm kp bd .nil L3 ha hdb he hpl
end
theorem LU{K st kV}(X:K.In h)(G:h.Ns TX mg)
  (a:UY K TX x=fv (fv (.ref f))) (l:K.lookup f=fv ⟨oc,od,.func (UE x x (cR st) (bu st) (aE st) .none kV doc pm an cdv ct),osl⟩) (c:Yb K cdv x=true) (k:VE K (.ref f)=true):At K mg x st :=
 ⟨f,_,Hk l c k,UZ X G a⟩
structure Bl(mg:Str->Option S5):Prop where
 len:mg "len" =SU
 range:mg "range" =SU
 isinstance:mg "isinstance" =SU
 int:mg "int" =SU
 bool:mg "bool" =SU
 tuple:mg "tuple" =SU
 dict:mg "dict" =SU
 sorted:mg "sorted" =SU
 min:mg "min" =SU
 max:mg "max" =SU
 abs:mg "abs" =SU
def Kp a (H H':Hp):= ∀ b o,b≠a->H b=fv o->H' b=fv o
theorem Kp.trans(x:Kp a H H1)(y:Kp a H1 H2):Kp a H H2:=λb o n h=>y b o n (x b o n h)
theorem jP.kp(x:jP H H'):Kp a H H':=λb o _ h=>x b o h
theorem Kp.st:Kp a H (upd H a o):=λb u n q=>by rw[aT n];exact q
theorem Kp.lst{a b H H' K xs kvs}(x:Kp a H H')(ha:H a=fv (.dK kvs))(h:gi K H b xs):gi K H' b xs:=by
 rcases h with(h | ⟨o,h⟩) | h
 . exact .inl (.inl (x _ _ (pC h ha (by simp_all)) h))
 . exact .inl (.inr ⟨o,x _ _ (pC h ha (by simp_all)) h⟩)
 . exact .inr h
theorem Kp.tup{a b H H' xs kvs}(x:Kp a H H')(ha:H a=fv (.dK kvs))(h:H b=fv (.tup xs)):H' b=fv (.tup xs):=x _ _ (pC h ha (by simp_all)) h
class Fn (t:TE):Prop where
 m: ∀ σ H Q Q',(∀ x H1,Q x H1->Q' x H1)->t σ H Q->t σ H Q'
class FD (t:TT):Prop where
 m: ∀ σ H Q Q',(∀ x H1,Q x H1->Q' x H1)->t σ H Q->t σ H Q'
class Ry (t:TA):Prop where
 m: ∀ σ H Q Q',(∀ x H1,Q x H1->Q' x H1)->t σ H Q->t σ H Q'
class RU (t:TO):Prop where
 m: ∀ σ H Q Q',(∀ x H1,Q x H1->Q' x H1)->t σ H Q->t σ H Q'
class RH (t:TI):Prop where
 m: ∀ σ H Q Q',(∀ x H1,Q x H1->Q' x H1)->t σ H Q->t σ H Q'
class RM (r:R2):Prop where
 m: ∀ x y H Q Q',(∀ x H1,Q x H1->Q' x H1)->r x y H Q->r x y H Q'
class Si (r:V->Hp->VK->Prop):Prop where
 m: ∀ x H Q Q',(∀ x H1,Q x H1->Q' x H1)->r x H Q->r x H Q'
class RB (r:List V->Hp->VK->Prop):Prop where
 m: ∀ x H Q Q',(∀ x H1,Q x H1->Q' x H1)->r x H Q->r x H Q'
class RD (r:V->List V->Hp->VK->Prop):Prop where
 m: ∀ x xs H Q Q',(∀ x H1,Q x H1->Q' x H1)->r x xs H Q->r x xs H Q'
class Se (r:V->Option Int->Option Int->Hp->VK->Prop):Prop where
 m: ∀ x l u H Q Q',(∀ x H1,Q x H1->Q' x H1)->r x l u H Q->r x l u H Q'
class QD (sp:Sp):Prop where
 m: ∀ vs H Q Q' E,(∀ x H1,Q x H1->Q' x H1)->sp vs H Q E->sp vs H Q' E
section
variable{X:Cx}
def NJ(K:SV):List V->Hp->VK->Prop:=λxs H Q=> ∃ p ys,xs=[.ref p]/\(gi K H p ys\/fB K H p ys)/\Q (.int ys.length) H
def L1:List V->Hp->VK->Prop:=λxs H Q=> ∃ z,xs=[.str z]/\z.length<=Ta/\Q (.int z.length) H
theorem Dz:bO X (.builtin "len") (λxs H Q=>NJ X.K xs H Q\/L1 xs H Q):=qu.or qw
def Mo(K:SV):List V->Hp->VK->Prop:=λxs H Q=> ∃ x T t b,xs=[x,.ty T]/\jc K H x t/\Xa K t (.type T)=fv b/\Q (.bl b) H
theorem Ez:bO X (.builtin "isinstance") (Mo X.K):=rK
def KU(K:SV):List V->Hp->VK->Prop:=λxs H Q=> ∃ p ys,xs=[.ref p]/\((gi K H p ys/\ ∀ l,H l=SU->Q (.ref l) (upd H l (.tup ys)))\/(fB K H p ys/\Q (.ref p) H))
theorem DL:bO X (.type "tuple") (KU X.K):=oT
end
structure K6(D D':Ends):Prop where
 nx: ∀ σ H,D.nx σ H->D'.nx σ H
 rt: ∀ v H,D.rt v H->D'.rt v H
 bk: ∀ σ H,D.bk σ H->D'.bk σ H
 ct: ∀ σ H,D.ct σ H->D'.ct σ H
class Rq (t:TS):Prop where
 m: ∀ D D' σ H,K6 D D'->t D σ H->t D' σ H
class FR (g:TG):Prop where
 m: ∀ x σ H Q Q',(∀ σ2 H2,Q σ2 H2->Q' σ2 H2)->g x σ H Q->g x σ H Q'
class QK (g:BX):Prop where
 m: ∀ x σ H Q Q',(∀ σ2 H2,Q σ2 H2->Q' σ2 H2)->g x σ H Q->g x σ H Q'
noncomputable def stK(a:Tp)(k:Int)(l:Option Int):List (Key × V):=match l with
 | none=>[(.inr "script",.ref a),(.inr "k",.int k)]
 | some l=>[(.inr "script",.ref a),(.inr "k",.int k),(.inr "left",.int l)]
def wy(K:SV)(H:Hp) a (xs:List V):=(∃ o,H a=fv (.jL o (.lst xs))) \/
 ∃(o:Obj)(az:Array S5)(n:Nat),K.lookup a=fv o/\o.cls= .type "list" /\o.dict=SU/\o.data= .seq az n/\az.size<=Ta/\Vals xs az.toList
theorem wy.sq{K}(h:wy K H a xs):gi K H a xs:=by
 rcases h with⟨o,h⟩ | h
 . exact .inl (.inr ⟨o,h⟩)
 . exact .inr h
theorem wy.upd{K}(h:wy K H a xs)(hc:H c=fv u)(hu: ∀ o w,u≠ .jL o w):wy K (upd H c o') a xs:=by
 rcases h with⟨o,h⟩ | h
 . exact .inl ⟨o,by rw[aT (pC h hc λz=>hu _ _ z.symm)];exact h⟩
 . exact .inr h
theorem Kp.jL{st a H H' K xs kvs}(x:Kp st H H')(ha:H st=fv (.dK kvs))(h:wy K H a xs):wy K H' a xs:=by
 rcases h with⟨o,h⟩ | h
 . exact .inl ⟨o,x _ _ (pC h ha (by simp_all)) h⟩
 . exact .inr h
theorem jP.jL{a H H' K xs}(x:jP H H')(h:wy K H a xs):wy K H' a xs:=by
 rcases h with⟨o,h⟩ | h
 . exact .inl ⟨o,x _ _ h⟩
 . exact .inr h
def jU(K:SV) H st k (l:Option Int):= ∃(a:Tp)(ns:List Int),H st=fv (.dK (stK a k l))/\wy K H a (ns.map V.int)/\ns.length<=63/\0<=k
theorem jU.keep{K st}(x:jU K H st k l)(y:Kp st H H')(e:H' st=H st):jU K H' st k l :=
 by obtain⟨a,ns,h1,h2,h3,h4⟩:=x;exact⟨a,ns,e.trans h1,y.jL h1 h2,h3,h4⟩
theorem jU.same{K:SV}{H H':Hp}{st:Tp}{k:Int}{l:Option Int}(x:jU K H st k l)(y:jP H H'):jU K H' st k l :=
 let ⟨a,ns,h1,h2,h3,h4⟩:=x;jU.keep ⟨a,ns,h1,h2,h3,h4⟩ y.kp ((y _ _ h1).trans h1.symm)
theorem jU.upd{K st}(x:jU K H st k l)(hc:H c=fv u)(hu: ∀ o w,u≠ .jL o w)(hn:c≠st):jU K (upd H c o) st k l :=
 by obtain⟨a,ns,h1,h2,h3,h4⟩:=x;exact⟨a,ns,by rw[aT (V1 hn)];exact h1,h2.upd hc hu,h3,h4⟩
theorem jU.at{K st}(x:jU K H st k l): ∃ kvs,H st=fv (.dK kvs):=by obtain⟨a,ns,h1,_⟩:=x;exact⟨_,h1⟩
theorem jU.pos{K st}(x:jU K H st k l):0<=k:=by obtain⟨a,ns,h1,_,_,h⟩:=x;exact h
noncomputable def noStar:Uh->Bool
 | .Starred _ _=>false
 | _=>true
theorem bW(h:noStar e=true):Ue (e::es) env=(false,Vl e env)::Ue es env:=by
 cases e<;>first | rfl | cases h
theorem ke: ∀{es},es.all noStar=true->(WC pos (Ue es env)).any (·.1)=false
 | [],_=>rfl
 | e::es,h=>by
  have h:=YJ.mp (Ub ▸ h);rw[bW h.1];have:=ke (pos:=pos) (env:=env) h.2;exact this
section
variable{X:Cx}{e:Uh}{es:List Uh}{te:TE}{t:TA}
theorem pk(ha:PE X e te)(hr:PA X es t)(hs:noStar e=true:=by rfl):PA X (e::es) (Bh te t):=EV ha hr (bW hs)
variable{x:Str}{k j:Nat}{ps:List Str}{sp:Sp}{p pos:Pos}{id T:String}{r:List V->Hp->VK->Prop}
theorem kd(D:lG X.prog X.w X.K X.mg X.base x j ps sp)(hr:dO k X.A)(hg:Gl X x)(hj:j<=k)(ha:PA X (e::es) t)(hdb:(x == ("__debug__"))=false:=by decide)(he:noStar e=true:=by rfl)(hpl:es.all noStar=true:=by rfl) :
  PE X (.Call (.Name x p) (e::es) [] pos) (vY sp [] E0 t):=Q7 D hr hg hj ha hdb (bW he) (ke hpl)
theorem kB(hc:bO X (.builtin id) r)(hg:Gl X x)(hm:X.mg x=SU)(hv:UN x=fv (.builtin id))(ha:PA X (e::es) t)(hn:x≠ "__name__" :=by decide)(hdb:(x == ("__debug__"))=false:=by decide)(he:noStar e=true:=by rfl)(hpl:es.all noStar=true:=by rfl) :
  PE X (.Call (.Name x p) (e::es) [] pos) (Ik r t):=zR hc hg hm hv ha hn hdb (bW he) (ke hpl)
theorem kT(hc:bO X (.type T) r)(hg:Gl X x)(hm:X.mg x=SU)(hv:UN x=fv (.type T))(ha:PA X (e::es) t)(hn:x≠ "__name__" :=by decide)(hdb:(x == ("__debug__"))=false:=by decide)(he:noStar e=true:=by rfl)(hpl:es.all noStar=true:=by rfl) :
  PE X (.Call (.Name x p) (e::es) [] pos) (Ik r t):=xS hc hg hm hv ha hn hdb (bW he) (ke hpl)
end
structure QE(X:Cx)(e:Uh)(t:TE):Prop where h:PE X e t
structure QT(X:Cx)(e:Uh)(t:TT):Prop where h:PT X e t
structure QW(X:Cx)(e:Uh)(t:TT):Prop where h:PW X e t
structure QA(X:Cx)(es:List Uh)(t:TA):Prop where h:PA X es t
structure QO(X:Cx)(e:Option Uh)(t:TO):Prop where h:PO X e t
structure QS(X:Cx)(s:XW)(t:TS):Prop where h:PS X s t
structure B0(X:Cx)(s:List XW)(t:TS):Prop where h:vV X s t
structure QG(X:Cx)(e:Uh)(t:TG):Prop where h:PG X e t
structure Ld(X:Cx)(e:List Uh)(t:BX):Prop where h:M5 X e t
structure QI(X:Cx)(tg e:Uh)(t:TI):Prop where h:PI X tg e t
structure QF(X:Cx)(es:List Uh)(t:TT):Prop where h:PF X es t
structure QP(X:Cx)(pos:Pos)(ks:List (Option Uh))(vs:List Uh)(t:List (TE × TE)):Prop where h:Mw X pos ks vs t
section
variable{X:Cx}{a b c e o i:Uh}{es:List Uh}{ta tb tc te td ty tx tv to ti:TE}{t t':TT}{tr:TA}{pos p p2 pos' apos cpos:Pos}{x y:Str}
theorem qv i (hN:X.N[i]?=fv x:=by rfl) (hv:Ko X.env.scope x:=by first | exact YG rfl | exact Xe (YG rfl) | exact Xe (Xe rfl)) (hd:(x == ("__debug__"))=false:=by decide)
  (hcd:(x == ("__classdict__"))=false:=by decide):QE X (.Name x pos) (Hu i):=⟨Bx hN hv hd hcd⟩
theorem Jo:QE X (.Constant (.int n) j pos) (tC (.int n)):=⟨Jl⟩
theorem N4:QE X (.Constant (.bool n) j pos) (tC (.bl n)):=⟨LB⟩
theorem Io:QE X (.Constant .none j pos) (tC .non):=⟨Hg⟩
theorem K8:QE X (.Constant (.str n) j pos) (tC (.str n)):=⟨J9⟩
theorem wA(hg:Gl X x)(hm:X.mg x=fv u)(r:RelV v u)(hd:(x == ("__debug__"))=false:=by decide):QE X (.Name x pos) (tC v):=⟨v9 hg hm r hd⟩
theorem Dh(hg:Gl X x)(hm:X.mg x=SU)(hv:UN x=fv u)(r:RelV v u)(hn:x≠ "__name__" :=by decide)(hd:(x == ("__debug__"))=false:=by decide):QE X (.Name x pos) (tC v):=⟨B7 hg hm hv r hn hd⟩
theorem N2(ho:cG X (UP op) r)(ha:QE X a ta)(hb:QE X b tb):QE X (.BinOp a op b pos) (DC r ta tb):=⟨Ms ho ha.h hb.h⟩
theorem N0{op:UnaryOp}{r:V->Hp->VK->Prop}(ho:Lq X (aah op) r)(ha:QE X a ta):QE X (.UnaryOp op a pos) (R8 r ta):=⟨Oe ho ha.h⟩
theorem KR(ha:QE X a ta):QE X (.UnaryOp .Not a pos) (FF ta):=⟨KN ha.h⟩
theorem ID(h:QE X a ta):QE X (.BoolOp op [a] pos) ta:=⟨Kv h.h⟩
theorem IF{rest}(ha:QE X a ta)(hb:QE X (.BoolOp .And (b::rest) pos) tb):QE X (.BoolOp .And (a::b::rest) pos) (Fi ta tb):=⟨Hy ha.h hb.h⟩
theorem Ob{rest}(ha:QE X a ta)(hb:QE X (.BoolOp .Or (b::rest) pos) tb):QE X (.BoolOp .Or (a::b::rest) pos) (M8 ta tb):=⟨LH ha.h hb.h⟩
theorem Aj(hc:QT X c t)(ha:QE X a ta)(hb:QE X b tb):QE X (.IfExp c a b pos) (Sj t ta tb):=⟨y6 hc.h ha.h hb.h⟩
theorem J3(h:QA X es tr):QE X (.Tuple es x1 pos) (MM tr):=⟨Lf h.h⟩
theorem Jv(h:QA X es tr):QE X (.List es pos) (MJ tr):=⟨Jg h.h⟩
theorem AS:QE X (.Dict [] [] pos) zh:=⟨zL⟩
theorem DA:QP X pos [] [] []:=⟨DX⟩
theorem BE(hk:QE X k tk)(hv:QE X v tv)(hr:QP X pos ks vs trs):QP X pos (fv k::ks) (v::vs) ((tk,tv)::trs):=⟨AZ hk.h hv.h hr.h⟩
theorem Dy(h:QP X pos ks vs trs)(hall:ks.all (·.isSome)=true)(hl:ks.length=vs.length)(h0:ks≠[])(h15:ks.length<=15):QE X (.Dict ks vs pos) (FG trs):=⟨DI h.h hall hl h0 h15⟩
theorem Cd:QO X SU wd:=⟨Eh⟩
theorem EJ(h:QE X e te):QO X (fv e) (FU te):=⟨Ex h.h⟩
theorem yS{lo}(hr:BV X r)(he:QE X e te)(hl:QO X lo tl)(hu:QO X hi th):QE X (.Subscript e (.Slice lo hi SU p2) pos) (R1 r te tl th):=⟨AL hr he.h hl.h hu.h⟩
theorem Ou(hr:xu X r)(ha:QE X a ta)(hb:QE X b tb)(hs:qh b):QE X (.Subscript a b pos) (DC r ta tb):=⟨Nq hr ha.h hb.h hs⟩
theorem zE(hu:X.A.units+1 < VQ)(ho:QE X o td)(he:QE X e ty)(hf:QE X f tx)(m:M2 X o "get" apos e f cpos):QE X (.Call (.Attribute o "get" apos) [e,f] [] cpos) (zY td ty tx):=⟨BJ hu ho.h he.h hf.h m⟩
theorem yO:QA X [] ND:=⟨Jm⟩
theorem qk(ha:QE X e te)(hr:QA X es tr)(hs:noStar e=true:=by rfl):QA X (e::es) (Bh te tr):=⟨pk ha.h hr.h hs⟩
variable{k j:Nat}{ps:List Str}{sp:Sp}{id T:String}{r:List V->Hp->VK->Prop}
theorem qd(D:lG X.prog X.w X.K X.mg X.base x j ps sp)(hr:dO k X.A)(hg:Gl X x)(hj:j<=k)(ha:QA X (e::es) tr)(hdb:(x == ("__debug__"))=false:=by decide)(he:noStar e=true:=by rfl)(hpl:es.all noStar=true:=by rfl) :
  QE X (.Call (.Name x p) (e::es) [] pos) (vY sp [] E0 tr):=⟨kd D hr hg hj ha.h hdb he hpl⟩
theorem qB(hc:bO X (.builtin id) r)(hg:Gl X x)(hm:X.mg x=SU)(hv:UN x=fv (.builtin id))(ha:QA X (e::es) tr)(hn:x≠ "__name__" :=by decide)(hdb:(x == ("__debug__"))=false:=by decide)(he:noStar e=true:=by rfl)(hpl:es.all noStar=true:=by rfl) :
  QE X (.Call (.Name x p) (e::es) [] pos) (Ik r tr):=⟨kB hc hg hm hv ha.h hn hdb he hpl⟩
theorem qT(hc:bO X (.type T) r)(hg:Gl X x)(hm:X.mg x=SU)(hv:UN x=fv (.type T))(ha:QA X (e::es) tr)(hn:x≠ "__name__" :=by decide)(hdb:(x == ("__debug__"))=false:=by decide)(he:noStar e=true:=by rfl)(hpl:es.all noStar=true:=by rfl) :
  QE X (.Call (.Name x p) (e::es) [] pos) (Ik r tr):=⟨kT hc hg hm hv ha.h hn hdb he hpl⟩
theorem Fw(pa:PlainAttrs T)(slot:Slot T name id)(hty:typeOf (.builtin id)=pure (.type "method_descriptor"))(hm:zG X id rm)(ho:QE X o to)(ha:QA X [e] tr)
  (hbase:Wg o name X.env (Vl o X.env)=Vl o X.env:=by rfl) (hline:(apos.endLine == cpos.line)=true:=by rfl) (hs:noStar e=true:=by rfl) :
  QE X (.Call (.Attribute o name apos) [e] [] cpos) (Sa X.K T rm to tr):=⟨Mf pa slot hty hm ho.h ha.h hbase (by rw[bW hs];rfl) hline (bW hs) rfl⟩
theorem CD{r}(ho:cG X (Tw op) r)(ha:QE X a ta)(hb:QE X b tb)(hm:Ur op b=false):QE X (.Compare a [op] [b] pos) (DC r ta tb):=⟨Cb ho ha.h hb.h hm⟩
theorem Cz{r}(ho:cG X (Tw op) r)(ha:QE X a ta)(hb:QE X b tb)(hm:Ur op b=false):QT X (.Compare a [op] [b] pos) (tQ (DC r ta tb)):=⟨DG ho ha.h hb.h hm⟩
theorem AG{r}(ho:cG X (Tw op) r)(ho':cG X (Tw op') r')(ha:QE X a ta)(hb:QE X b tb)(hc:QE X c tc)(hm:XF [op,op'] [b,c]=false:=by with_unfolding_all rfl):QE X (.Compare a [op,op'] [b,c] pos) (mU r r' ta tb tc):=⟨AR ho ho' ha.h hb.h hc.h hm⟩
theorem zK{op op':CmpOp}{r r':R2}(ho:cG X (Tw op) r)(ho':cG X (Tw op') r')(ha:QE X a ta)(hb:QE X b tb)(hc:QE X c tc)(hm:XF [op,op'] [b,c]=false:=by with_unfolding_all rfl):QT X (.Compare a [op,op'] [b,c] pos) (tQ (mU r r' ta tb tc)):=⟨A6 ho ho' ha.h hb.h hc.h hm⟩
theorem IC(ha:QE X a ta):QE X (.Compare a [.Is] [.Constant .none j pos'] pos) (Ke ta):=⟨Aa (An ha.h)⟩
theorem IW(ha:QE X a ta):QT X (.Compare a [.Is] [.Constant .none j pos'] pos) (tB (Ke ta)):=⟨uN (An ha.h)⟩
theorem E9(ha:QE X a ta):QT X (.Compare a [.IsNot] [.Constant .none j pos'] pos) (tB (Ft ta)):=⟨uN (D9 ha.h)⟩
theorem CS(ha:QT X a t):QW X (.BoolOp .And [a] pos) t:=⟨pw_and1 ha.h⟩
theorem K4(ha:QT X a t):QW X (.BoolOp .Or [a] pos) t:=⟨pw_or1 ha.h⟩
theorem JZ{rest}(ha:QT X a t)(hb:QW X (.BoolOp .And (b::rest) pos) t'):QW X (.BoolOp .And (a::b::rest) pos) (Mr t t'):=⟨pw_and ha.h hb.h⟩
theorem Nu{rest}(ha:QT X a t)(hb:QW X (.BoolOp .Or (b::rest) pos) t'):QW X (.BoolOp .Or (a::b::rest) pos) (RP t t'):=⟨pw_or ha.h hb.h⟩
theorem QW.pt(h:QW X e t):QT X e t:=⟨h.h.pt⟩
theorem Kg(ha:QT X a t):QT X (.UnaryOp .Not a pos) (OH t):=⟨Im ha.h⟩
theorem Kd(h:QE X e te)(he: ∀ whole,ZO e X.env whole=(do let v <- whole;aag e.pos;WW [v] (truthy v)):=by intro _;rfl):QT X e (tB te):=⟨Jr h.h he⟩
theorem vF{i}(hN:X.N.Nodup)(hi:X.N[i]?=fv x)(hx:Loc X.env.scope x)(hf:X.fn x=true\/X.env.scope.names.lookup x=fv .local:=by first | exact .inl rfl | exact .inr rfl | assumption):QG X (.Name x pos) (fX i):=⟨B5 hN hi hx hf⟩
theorem vG:Ld X [] yy:=⟨Ej⟩
theorem rG{t}(h1:QG X e t)(h2:Ld X es u)(hs:(UI (e::es) X.env).map (·.2)=W9 e X.env::(UI es X.env).map (·.2):=by rfl):Ld X (e::es) (lx t u):=⟨AM h1.h h2.h hs⟩
theorem AX{t}(hc:X.calm=true)(h:Ld X es t)(hn:(UI es X.env).length=n:=by rfl)(hst:(UI es X.env).findIdx? (·.1)=SU:=by rfl):QG X (.Tuple es k pos) (uC X.K n t):=⟨Kt hc h.h hn hst⟩
variable{tg iter l:Uh}{wi:TI}{g:TG}{ta':TA}
theorem Gb:QF X [] FL:=⟨G9⟩
theorem Je(h:QT X c t):QF X [c] t:=⟨K5 h.h⟩
variable{scope:Xm}{ifs:List Uh}{body rest:List XW}{spos py:Pos}{tb' ts us:TS}{st:XW}
theorem Br vars (hc:X.calm=true) (hx: ∀ v s,¬ X.xe v s) (hkind:scope.kind= .function) (hlc:ij scope.names X.env.scope.names X.N vars=true) (hi:QI X tg iter wi)
  (hb: ∀ cl C s₀ H₀ ex pn,QG (fG X vars scope cl C s₀ H₀ ex pn) tg g/\QF (fG X vars scope cl C s₀ H₀ ex pn) ifs t/\QE (fG X vars scope cl C s₀ H₀ ex pn) e te) (hgk:GK X.N.length g)
  (hs: ∀ x,Ul iter X.env x=pure x:=by intro _;rfl):QE X (.ListComp e [⟨tg,iter,ifs,0⟩] scope pos) (Pd vars.length wi g t te) :=
 ⟨zg vars hc hx hkind hlc hi.h (λcl C s₀ H₀ ex pn=>by obtain⟨h1,h2,h3⟩:=hb cl C s₀ H₀ ex pn;exact⟨h1.h,h2.h,h3.h⟩) hgk hs⟩
theorem BF vars i (hc:X.calm=true) (hx: ∀ v s,¬ X.xe v s) (hkind:scope.kind= .function) (hlc:ij scope.names X.env.scope.names X.N vars=true) (hN:X.N.Nodup) (hiy:X.N[i]?=fv y) (hy:Loc X.env.scope y) (hi:QI X tg iter wi)
  (hb: ∀ cl C s₀ H₀ ex pn,QG (fG X vars scope cl C s₀ H₀ ex pn) tg g/\QF (fG X vars scope cl C s₀ H₀ ex pn) ifs t/\QE (fG X vars scope cl C s₀ H₀ ex pn) e te) (hgk:GK X.N.length g)
  (hsw:VY (.ListComp e [⟨tg,iter,ifs,0⟩] scope pos) (fv (.Name y py)) spos.line X.env=pure true:=by rfl) (hs: ∀ x,Ul iter X.env x=pure x:=by intro _;rfl)
  (hf:X.fn y=true\/X.env.scope.names.lookup y=fv .local:=by first | exact .inl rfl | exact .inr rfl | assumption) :
  QS X (.Assign [.Name y py] (.ListComp e [⟨tg,iter,ifs,0⟩] scope pos) spos) (Bi vars.length i wi g t te) :=
 ⟨zr vars i hc hx hkind hlc hN hiy hy hi.h (λcl C s₀ H₀ ex pn=>by obtain⟨h1,h2,h3⟩:=hb cl C s₀ H₀ ex pn;exact⟨h1.h,h2.h,h3.h⟩) hgk hsw hs hf⟩
theorem F8{i}(hN:X.N.Nodup)(hi:X.N[i]?=fv x)(hx:Loc X.env.scope x)(he:QE X e te)(hs:VY e (fv (.Name x pos')) pos.line X.env=pure false:=by rfl)(hf:X.fn x=true\/X.env.scope.names.lookup x=fv .local:=by first | exact .inl rfl | exact .inr rfl | assumption) :
  QS X (.Assign [.Name x pos'] e pos) (D8 te (fX i)):=⟨J5 hN hi hx he.h hs hf⟩
theorem Kf(he:QE X e te)(hg:QG X tg g)(hs:Zb [tg] e pos.line X.env=pure false:=by rfl)(hw:Zc [tg] e X.env=pure SU:=by rfl)(h1:(UI [tg] X.env).map (·.2)=[W9 tg X.env]:=by rfl):QS X (.Assign [tg] e pos) (D8 te g):=⟨GG he.h hg.h hs hw h1⟩
theorem MV(hc:QT X c t)(ha:B0 X A ts)(hb:B0 X B us):QS X (.If c A B pos) (M6 t ts us):=⟨LF hc.h ha.h hb.h⟩
theorem Jx(hp:PassesOwn (TM X.prog X.w) X.A X.env X.xe)(hc:X.calm=true)(hi:QI X tg iter wi)(hg:QG X tg g)(hb:B0 X body tb')(hs: ∀ x,Ul iter X.env x=pure x:=by intro _;rfl):QS X (.For tg iter body [] pos) (Me wi g tb'):=⟨IP hp hc hi.h hg.h hb.h hs⟩
theorem CC(he:QE X e te)(hs:VY e SU pos.line X.env=pure false:=by rfl):QS X (.Expr e pos) (FH te):=⟨CA he.h hs⟩
theorem Ge(he:QE X e te):QS X (.Return (fv e) pos) (NI te):=⟨Gs he.h⟩
theorem CJ:B0 X [] AJ:=⟨CI⟩
theorem yZ(h1:QS X st ts)(h2:B0 X rest us):B0 X (st::rest) (GV ts us):=⟨zA h1.h h2.h⟩
theorem EC(h1:QS X st ts):B0 X [st] ts:=⟨EU h1.h⟩
end
theorem At.Q3{K st}(a:At K mg x st)(S:dW N ps (aE st))
  (hb: ∀ kV doc pm an cdv ct us,us.length=ps.length->VR (UE x x (cR st) (bu st) (aE st) .none kV doc pm an cdv ct) ⟨us,[]⟩=pure (ps.zip us))
  (len: ∀ vs H Q E,sp vs H Q E->vs.length=ps.length)
  (hbody: ∀ f cdv A outer s H vs Q E,dO k (A.deeper (Xc x (aE st) s.heap.objs.size f cdv))->sp vs H Q E ->
   ∃ t,B0 (jf qP P w K mg base N x (aE st) f cdv A outer s H E).oG (bu st) t/\t { nx:=λ_ H'=>Q .non H',rt:=Q} (start N vs) H):lG P w K mg base x (k+1) ps sp :=
 a.ok S hb len λf cdv A outer s H vs Q E hr h=>by obtain⟨t,q,z⟩:=hbody f cdv A outer s H vs Q E hr h;exact⟨t,q.h,z⟩
theorem fT(h:0<=r):lL xs (fv r) SU=xs.drop r.toNat:=by
 have e:r=((r.toNat)):=by omega
 unfold lL;rw[e,HT.iR,HT.j9];simp only[Uu];rcases Ye r.toNat xs.length with z | z
 . grind
 . rw[WE z,VN z];simp
theorem jD(h:0<=r):lL xs SU (fv r)=xs.take r.toNat:=by
 have e:r=((r.toNat)):=by omega
 unfold lL;rw[e,HT.iR,HT.j9];simp only[Uu,YL,ZI];rcases Ye r.toNat xs.length with z | z
 . rw[WU z]
 . rw[WE z,U8 (Te _),U8 z]
def SO k (g:TG) (tt:TT) (te:TE) (σ :St) (Q:VK) (J:It) H1:= ∃ W:Nat->Nat->List V->Hp->Prop,(∃ m,W 0 m [] H1)/\ ∀ i m ys H,W i m ys H ->
 (J.stop i H/\ ∀ p,H p=SU->Q (.ref p) (upd H p (.lst ys))) \/
 (J.go i H/\ys.length < Ta/\ ∀ x H',J.Ln i H x H'->g x (σ ++S4 k SU) H' fun σ2 H2=>tt σ2 H2 λb H3 =>
  if b=true then te σ2 H3 λy H4=> ∃ m',m' < m/\W (i+1) m' (ys++[y]) H4 else ∃ m',m' < m/\W (i+1) m' ys H3)
class QJ (trs:List (TE × TE)):Prop where
 m: ∀ σ H Q Q',(∀ ps H1,Q ps H1->Q' ps H1)->kF trs σ H Q->kF trs σ H Q'
theorem yF.Q3{K st}(F:yF K x x st f fd)(S:dW N ps (aE st))(len: ∀ vs H Q E,sp vs H Q E->vs.length=ps.length)
  (hbody: ∀ f cdv A outer s H vs Q E,dO k (A.deeper (Xc x (aE st) s.heap.objs.size f cdv))->sp vs H Q E ->
   ∃ t,B0 (jf qP P w K mg base N x (aE st) f cdv A outer s H E).oG (bu st) t/\t { nx:=λ_ H'=>Q .non H',rt:=Q} (start N vs) H):j6 P w K mg base qP (k+1) f fd ps sp :=
 F.ok S len λcdv A outer s H vs Q E hr h=>by obtain⟨t,q,z⟩:=hbody f cdv A outer s H vs Q E hr h;exact⟨t,q.h,z⟩
theorem Kl{K}(o:zF H)(h:gi K H a xs):wy K H a xs:=by
 rcases h with(h | ⟨u,h⟩) | h
 . rcases o a with z | ⟨u,ys,z⟩<;>(rw[h] at z;cases z)
 . exact .inl ⟨u,h⟩
 . exact .inr h
def KD(P:Ug)(w:Uz)(K:SV) a (kvs:List (Key × V)):=(a == U4)=false /\
 ∃(o:Obj)(es:Array ZU)(ep:Nat)(vs:List (Key × S5)),K.lookup a=fv o/\o.ExactDict/\o.data= .dict es ep/\PySem.KeysOf (bE P w) es/\Pairs (bE P w) es.toList vs/\(vs.map (·.1)).Nodup/\KV kvs vs
theorem Inv.kd{σ :St}(I:Inv X pins σ H s)(h:KD X.prog X.w X.K a kvs): ∃ vs,KV kvs vs/\s.heap.DictOf (bE X.prog X.w) a vs:=by
 obtain⟨_,o,es,ep,vs,h1,h2,h3,h4,h5,h6,h7⟩:=h;exact⟨vs,h7,o,es,ep,I.ko a o h1,h2,h3,h4,h5,h6⟩
def Fy(kvs:List (Key × V))(ty:TE):TE:=fun σ H Q=>ty σ H λy H2=> ∃ k v,y=kV k/\fI kvs k=fv v/\Q v H2
def LV(kvs:List (Key × V))(ty:TE):TE:=fun σ H Q=>ty σ H λy H2=> ∃ k,y=kV k/\Q (.bl (fI kvs k).isSome) H2
def vT(kvs:List (Key × V))(ty:TE):TE:=fun σ H Q=>ty σ H λy H2=> ∃ k,y=kV k/\Q (.bl (!(fI kvs k).isSome)) H2
section
variable{X:Cx}{o i:Uh}{pos:Pos}{ty:TE}{a:Tp}{kvs:List (Key × V)}
theorem Cr(hk:KD X.prog X.w X.K a kvs)(ho:PE X o (tC (.ref a)))(hi:PE X i ty)(hs:DN i):PE X (.Subscript o i pos) (Fy kvs ty):=by
 intro pins s σ H Q I h;refine Dv Xj.lookup hs (iq (ho pins s σ H (λx H1=>x= .ref a/\H1=H) I ⟨rfl,rfl⟩) λu s1 x H1 I1 rx ⟨ex,eH⟩=>?_);subst ex eH;obtain rfl:u=Tx a:=rx;refine iq (hi pins s1 σ H1 _ I1 h) λiv s2 y H2 I2 ry ⟨k,v,ey,l,q2⟩=>?_;subst ey;obtain⟨vs,rel,dd⟩:=I2.kd hk;obtain⟨w',hw,rw'⟩:=jT.some_of (v:=v) (o:=Yc vs k) (by rw[<- l];exact rel.val k);exact⟨dd.typeIs,ZV (jk ry) dd.mapOf hw ⟨v,H2,I2.tok _,rw',q2⟩⟩
theorem Hi(hk:KD X.prog X.w X.K a kvs)(hi:PE X i ty)(ho:PE X o (tC (.ref a))):PC X .In i o (LV kvs ty):=by
 intro pins s σ H Q I h;refine iU (hi pins s σ H _ I h) λiv s1 ⟨y,H1,I1,ry,k,ey,q⟩=>iU (ho pins s1 σ H1 (λx H2=>x= .ref a/\H2=H1) I1 ⟨rfl,rfl⟩) λu s2 ⟨x,H2,I2,rx,ex,eH⟩=>?_;subst ex eH ey;obtain rfl:u=Tx a:=rx;obtain⟨vs,rel,dd⟩:=I2.kd hk;refine wpAny_in_of (jk ry) hk.1 dd.mapOf ?_;rw[<- (rel.val k).eR];exact⟨.bl (fI kvs k).isSome,H2,I2.tok _,rfl,q⟩
theorem DZ(hk:KD X.prog X.w X.K a kvs)(ho:QE X o (tC (.ref a)))(hi:QE X i ty)(hs:DN i):QE X (.Subscript o i pos) (Fy kvs ty):=⟨Cr hk ho.h hi.h hs⟩
theorem IK(hk:KD X.prog X.w X.K a kvs)(hi:QE X i ty)(ho:QE X o (tC (.ref a)))(hm:Ur .In o=false:=by rfl):QE X (.Compare i [.In] [o] pos) (LV kvs ty):=⟨Aa (Hi hk hi.h ho.h) hm⟩
end
noncomputable def Ot(w:Uz)(p:Str × Tok × S5):ZU:={ hash:=T6 w.params p.1,key:= .str p.1 p.2.1,val:=p.2.2}
theorem Oh{K}{ls:List (Str × Tok × S5)}{kvs:List (Key × V)}(hl:K.lookup a=fv { cls:= .type "dict",data:= .dict (ls.map (Ot w)).toArray ep})(ha:(a == U4)=false)
  (hn:(ls.map λp=>(WH p.1:Key)).Nodup) (hk:KV kvs (ls.map λp=>((WH p.1),p.2.2))):KD P w K a kvs:=by
 refine⟨ha,_,_,ep,ls.map λp=>((WH p.1),p.2.2),hl,⟨rfl,rfl,rfl⟩,rfl,?_,?_,by rw[Up];exact hn,hk⟩
 . intro e he;have he':=List.mem_toArray.mp he;obtain⟨p,_,rfl⟩:=TR.mp he';exact⟨.inr p.1,kL p.1 p.2.1,rfl⟩
 . clear hl hn hk
   induction ls with
   | nil=>exact .nil
   | cons p r ih=>exact .cons (kL p.1 p.2.1) rfl ih
theorem ly: ∀{us},Vals (bs.map V.bl) us->LSm.BoolsAre us bs:=by
 induction bs with
 | nil=>intro us h;cases h;exact .nil
 | cons b r ih =>
  intro us h
  cases h with
  | cons hx ht =>
   cases(show _=W7 b from hx)
   exact .cons _ (ih ht)
theorem pA{s:Tc}{h':UU}(hk: ∀ b x,b ∉ [s.heap.objs.size]->(s.heap.push o).get? b=fv x->h'.get? b=fv x): ∀ b x,s.heap.get? b=fv x->h'.get? b=fv x :=
 λb x e=>hk b x (by intro z;rw[TY.mp z] at e;exact absurd (Tu e) (Uq _)) (S0 _ e)
section
variable{X:Cx}
def Q9(K:SV):List V->Hp->VK->Prop:=λxs H Q=> ∃(p:Tp)(bs:List Bool),xs=[.ref p]/\gi K H p (bs.map V.bl)/\Q (.bl (bs.all id)) H
def Q4(K:SV):List V->Hp->VK->Prop:=λxs H Q=> ∃(p:Tp)(bs:List Bool),xs=[.ref p]/\gi K H p (bs.map V.bl)/\Q (.bl (bs.any id)) H
def Pw(K:SV):List V->Hp->VK->Prop:=λxs H Q=> ∃(p:Tp)(ns:List Int),xs=[.ref p]/\gi K H p (ns.map V.int)/\Q (.int ns.sum) H
theorem DY(hc:X.calm=true):bO X (.builtin "all") (Q9 X.K):=by
 intro pins s σ H xs us Q I r h;obtain⟨p,bs,rfl,hS,q⟩:=h;obtain⟨u,rfl,ru⟩:=vals1 r;cases(show u=Tx p from ru);obtain⟨az,hv,pl,hz⟩:=I.list hS;have hl:=pl.isList;have hb:=ly hv;have hlt:p < s.heap.objs.size:=by obtain⟨_,e,_⟩:=hl;exact Tu e
 refine call_all_walk (Wy (items:=az.toArray) hl ?_);refine⟨s.heap.objs.size,[s.heap.objs.size,p],[s.heap.objs.size],az.toArray.size,_,_,λi=>(bs[i]?).getD true,rfl,aao (A:=X.A.in1) (I.ok.hd hc) _ p (TQ hlt) az.toArray,⟨⟨_,Tr _ rfl,rfl,rfl⟩,hl.push _⟩,?_,?_⟩
 . intro i v s' Q' E' hP hQ;obtain⟨b,e,rfl⟩:=hb.get i v (by simpa using hP);simp only[e] at hQ;exact Uo hQ
 . intro h' tk hk;rw[show((Vi az.toArray.size).all λi=>(bs[i]?).getD true)=bs.all id by rw[TK,hb.length];exact LSm.range_all bs];exact⟨.bl (bs.all id),H,I.kept (pA hk),rfl,q⟩
theorem callAny(hc:X.calm=true):bO X (.builtin "any") (Q4 X.K):=by
 intro pins s σ H xs us Q I r h;obtain⟨p,bs,rfl,hS,q⟩:=h;obtain⟨u,rfl,ru⟩:=vals1 r;cases(show u=Tx p from ru);obtain⟨az,hv,pl,hz⟩:=I.list hS;have hl:=pl.isList;have hb:=ly hv;have hlt:p < s.heap.objs.size:=by obtain⟨_,e,_⟩:=hl;exact Tu e
 refine call_any_walk (Wy (items:=az.toArray) hl ?_);refine⟨s.heap.objs.size,[s.heap.objs.size,p],[s.heap.objs.size],az.toArray.size,_,_,λi=>(bs[i]?).getD false,rfl,aao (A:=X.A.in1) (I.ok.hd hc) _ p (TQ hlt) az.toArray,⟨⟨_,Tr _ rfl,rfl,rfl⟩,hl.push _⟩,?_,?_⟩
 . intro i v s' Q' E' hP hQ;obtain⟨b,e,rfl⟩:=hb.get i v (by simpa using hP);simp only[Option.getD_some,e] at hQ;exact Uo hQ
 . intro h' tk hk;rw[show((Vi az.toArray.size).any λi=>(bs[i]?).getD false)=bs.any id by rw[TK,hb.length];exact LSm.range_any bs];exact⟨.bl (bs.any id),H,I.kept (pA hk),rfl,q⟩
theorem CQ(hc:X.calm=true):bO X (.builtin "sum") (Pw X.K):=by
 intro pins s σ H xs us Q I r h;obtain⟨p,ns,rfl,hS,q⟩:=h;obtain⟨u,rfl,ru⟩:=vals1 r;cases(show u=Tx p from ru);obtain⟨az,hv,pl,hz⟩:=I.list hS;obtain⟨m,F⟩:=I.fr;have hi:=intsAre_of hv;obtain⟨ys,hx⟩:=hi.allInts.items;have hl':s.heap.IsList p (intItems ys):=hx ▸ pl.isList;refine sum_intListG (I.ok.hd hc) hl' λh' tk t' hk=>?_;have e1:ns=ys.toList.map (·.1):=by
  rw[<- nums_intItems,<- hx];exact(show numsOf az.toArray.toList=ns from hi.numsOf).symm
 rw[show preSum (numAt ys) ys.size=ns.sum by rw[preSum_eq,U8 (by simp),e1]];exact⟨.int ns.sum,H,I.kept hk,⟨_,rfl⟩,q⟩
end
noncomputable def O5(x:Str):It:=⟨λi _=>i < x.cps.size,λi H v H'=>H'=H∧ ∃ c,x.cps[i]?=fv c∧v= .str ⟨#[c]⟩,λi _=>i=x.cps.size⟩
theorem tD{K} x t it (hty:["enumerate", "zip", "dict_itemiterator", "dict_reverseitemiterator", "odict_iterator", "itertools.zip_longest", "itertools.pairwise"].contains ty=false)
  (W: ∀ A ,A.handled=SU->Walks P w A it [it] [it] x.cps.size (SignAt x) (λi h=>h.IsStrIter it ty x t i)) (S: ∀ A i s Q E,s.heap.IsStrIter it ty x t i->Q (.ref it) s->TC (TM P w) A (Zl (.ref it)) Q E s) :
  Turn P w K tg (O5 x) [it] it (λi h=>h.IsStrIter it ty x t i) where
 mem:=by simp
 obj:=λi h st b hb=>by
  have e:b=it:=by simpa using hb
  subst e;obtain⟨o,e,c,d⟩:=st;exact⟨o,e,λv z=>by simp_all⟩
 keep:=λi h h' st k=>by obtain⟨o,e,r⟩:=st;exact⟨o,k it (by simp) o e,r⟩
 item:=by
  intro X hP hw hK hc i pins s σ H E I hf st hg;subst hP hw hK;obtain⟨f0,f1,f2,f3,f4,f5⟩:=hf it (by simp);refine(W X.A (I.ok.hd hc)).item i s _ _ hg st λv h' tk hv st' hk=>?_;obtain⟨c,u,hx,rfl⟩:=hv;have I1:=I.turned (t':=tk) (λb o hb e=>hk b o (by simpa using hb) e) f0 f1 f3 f4 f5;obtain⟨o,e,cc,d⟩:=id st';exact⟨_,rfl,vD (s:={ s with heap:=h',toks:=tk}) e cc d hty ⟨.str ⟨#[c]⟩,H,I1,⟨_,rfl⟩,⟨rfl,c,hx,rfl⟩,st',λb hb=>(hf b hb).1⟩⟩
 done:=by
  intro X hP hw hK hc i pins s σ H E I hf st hg;subst hP hw hK;obtain⟨f0,f1,f2,f3,f4,f5⟩:=hf it (by simp);have hi:=hg;subst hi;exact(W X.A (I.ok.hd hc)).done s _ _ st λh' tk hk=>⟨rfl,I.turned (t':=tk) (λb o hb e=>hk b o (by simpa using hb) e) f0 f1 f3 f4 f5⟩
 self:=λA i s Q E st h=>S A i s Q E st h
theorem eW{x:Str}{k:Nat}{g:TG}{tt:TT}{te:TE}[FR g][FD tt][Fn te]{σ :St}{H:Hp}{Q:VK}(Pv:Nat->List V->Hp->Prop)(h0:Pv 0 [] H)(hl: ∀ i ys H,i<=x.cps.size->Pv i ys H->ys.length<=i)(hz:x.cps.size<=Ta)
  (hs: ∀ i c ys H,x.cps[i]?=fv c->Pv i ys H->g (.str ⟨#[c]⟩) (σ ++S4 k SU) H fun σ2 H2=>tt σ2 H2 λb H3=>if b=true then te σ2 H3 λy H4=>Pv (i+1) (ys++[y]) H4 else Pv (i+1) ys H3)
  (hd: ∀ ys H,Pv x.cps.size ys H-> ∀ p,H p=SU->Q (.ref p) (upd H p (.lst ys))):SO k g tt te σ Q (O5 x) H:=by
 refine⟨λi m ys H=>m=x.cps.size - i/\i<=x.cps.size/\Pv i ys H,⟨x.cps.size,by simp,U2 _,h0⟩,?_⟩;rintro i m ys H ⟨rfl,hi,p⟩;have hy:=hl i ys H hi p;by_cases hlt:i < x.cps.size
 . refine .inr ⟨hlt,by omega,λv H' y=>?_⟩;obtain⟨e,c,hc,rfl⟩:=y;subst e;refine FR.m (g:=g) _ _ _ _ _ (fun σ2 H2 z=>FD.m (t:=tt) _ _ _ _ (λb H3 z=>?_) z) (hs i c ys _ hc p);cases b with
   | true =>
    exact Fn.m (t:=te) _ _ _ _ (λv H4 w=>⟨x.cps.size - (i+1),by omega,rfl,hlt,w⟩) z
   | false =>
    exact⟨x.cps.size - (i+1),by omega,rfl,hlt,z⟩
 . have e:i=x.cps.size:=by omega
   subst e;exact .inl ⟨rfl,hd ys H p⟩
theorem qK(hg:Gl X x)(hm:X.mg x=fv (.ref a))(hd:(x == ("__debug__"))=false:=by decide):QE X (.Name x pos) (tC (.ref a)):=⟨v9 hg hm rfl hd⟩
theorem jg l o b u :
  Meets (WI.«dict.__eq__» ⟨[.ref l,.str b u],[]⟩) (λ_ R s=>s.heap.get? l=fv o/\R (.ok (.ret .notImplemented)) s) :=
 .of_wp λprog w A R s h=>by
  obtain⟨hl,h⟩:=h;have f1:=YM;wp_walk;exact⟨_,rfl,h⟩
theorem kg b u l c es ep dd sl :
  Meets (WI.«str.__eq__» ⟨[.str b u,.ref l],[]⟩) (λ_ R s=>s.heap.get? l=fv { cls:=c,dict:=dd,data:= .dict es ep,slots:=sl}/\R (.ok (.ret .notImplemented)) s) :=
 .of_wp λprog w A R s h=>by obtain⟨hl,h⟩:=h;wp_walk using UB hl,Wn hl;exact⟨_,rfl,h⟩
theorem sj b u (hl:s.heap.get? l=fv o) (hx:o.ExactDict) (hd:o.data= .dict es ep) (hu:A.units < VQ):SeqAt.RcAt A s (.ref l) (.str b u) false:=λprog w E Q h=>by
 obtain⟨cls,dd,data,sl⟩:=o;have hc:=hx.1;subst hc hd;exact Yf (k:=false) ⟨_,hl,rfl⟩ (Wq s b u) (by decide) YM V4 XA
  (λ_ hq=>UQ V4 ⟨_,hl,rfl⟩ Yx (Yg _ _) (jg l _ b u) ⟨hl,hq⟩)
  (λ_ hq=>UQ XA (Wq s b u) YO (Yy _ _) (kg b u l (.type "dict") es ep dd sl) ⟨hl,hq⟩)
  (λ_ z=>Z6 (show isSame (.ref l) (.str b u)=pure false from rfl) z) (.inr hu) h
noncomputable def Na(K:SV):R2:=λx y H Q=> ∃ p z,x= .ref p/\y= .str z/\((∃ xs,gi K H p xs)\/(∃ xs,fB K H p xs)\/ ∃ kvs,H p=fv (.dK kvs))/\Q (.bl false) H
noncomputable def N3(K:SV):R2:=λx y H Q=> ∃ p q xs,x= .ref p/\y= .ref q/\fB K H p xs/\fB K H q []/\Q (.bl xs.isEmpty) H
def M0(K:SV):V->Option Int->Option Int->Hp->VK->Prop:=λx lo hi H Q=> ∃ a xs,x= .ref a/\fB K H a xs/\(HT.eF xs.length 0 lo=0/\HT.eF xs.length xs.length hi=xs.length)/\Q (.ref a) H
noncomputable def Fj(K:SV):R2:=λx y H Q=> ∃ a b ys,x= .ref a/\y= .ref b/\fB K H a []/\fB K H b ys/\Q (.ref b) H
noncomputable def FP:R2:=λx y H Q=> ∃ a b,x= .str a/\y= .str b/\a.length+b.length<=Ta/\Q (.str (a++b)) H
theorem kI:fillsNumberSlot (.type "tuple") "mul" =pure false :=
 PySem.fillsNumberSlot_seq (id:= "tuple.__mul__") (r:=fv (.builtin "tuple.__rmul__")) Vp.lookup (by rfl) XN.lookup (by rfl)
theorem qR:seqRepeat? (.type "tuple")=pure (fv (.builtin "tuple.__mul__")):=by
 unfold seqRepeat?;rw[ZW (T:= "tuple") (name:= "__mul__") (id:= "tuple.__mul__") Vp.lookup (by rfl),ZW (T:= "tuple") (name:= "__rmul__") (id:= "tuple.__rmul__") XN.lookup (by rfl)];rfl
theorem m7 a t l items n dd sl :
  Meets (WI.«int.__rmul__» ⟨[.int a t,.ref l],[]⟩) (λ_ R s=>s.heap.get? l=fv { cls:= .type "tuple",dict:=dd,data:= .seq items n,slots:=sl}/\R (.ok (.ret Value.notImplemented)) s) :=
 .of_wp λprog w A R s h=>by obtain⟨hl,h⟩:=h;wp_walk using UB hl,Wn hl;exact⟨_,rfl,h⟩
theorem oX{prog:Ug}{w:Uz}{A:U5}{E:S5->Tc->Prop}{s:Tc}{t sl:Tp}{items:Array S5}{vl vu:S5}{lo hi:Option Int}{Q:S5->Tc->Prop}(ht:IsTup s.heap t items)(hs:s.heap.IsSliceOf sl vl vu .none)(pl:XZ vl lo)(pu:XZ vu hi)
  (hw:HT.eF items.size 0 lo=0/\HT.eF items.size items.size hi=items.size) (h:Q (.ref t) s):TC (TM prog w) A (WY (.ref t) (.ref sl)) Q E s:=by
 obtain⟨os,hos,hcs,hds⟩:=id hs;have hTs:s.TypeIs (.ref sl) "slice" :=⟨os,hos,hcs⟩
 unfold WY
 try with_reducible refine VA ?_
 refine SW (ZA ht.typeIs (by decide) ?_);refine SW (U3 (name:=S3 "__getitem__") ht.typeIs Um
  (VG Um ht.typeIs Y2 ?_ (Zo _ _)))
 show TC _ _ (Xd (.ref t) >>= _) _ _ s;refine SW (tupleItemsOf_ ht ?_);refine SW (ZC hTs ?_);refine SW (HT.gI hs pl pu ?_);show TC _ _ (if (((HT.eF items.size 0 lo):Int) == 0&&(1) == 1&&(HT.eF items.size items.size hi - HT.eF items.size 0 lo) == items.size)=true then _ else _) _ _ s;rw[if_pos (by simp_all)];refine SW (m:=Builtin.Tuple.tupleIsExact _) (SW (ZC ht.typeIs (To ?_)));exact SW (Zr (To ⟨_,rfl,To h⟩))
section
variable{X:Cx}
theorem wg(hu:X.A.units < VQ):cG X (Tw .Eq) (Na X.K):=by
 intro pins s σ H x y v u Q I rx ry h;obtain⟨p,z,rfl,rfl,hp,hQ⟩:=h;cases(show v=Tx p from rx);obtain⟨t,rfl⟩:=ry;have fin:EP X pins σ Q (.bool false) s:=⟨.bl false,H,I,rfl,hQ⟩
 rcases hp with⟨xs,hp⟩ | ⟨xs,hp⟩ | ⟨kvs,hp⟩
 . obtain⟨az,hv,pl,hz⟩:=I.list hp;exact SeqAt.RcAt.list_str z t pl.isList hu _ _ _ _ fin
 . obtain⟨az,hv,pl,hz⟩:=I.tuple hp;exact SeqAt.RcAt.tuple_str z t pl hu _ _ _ _ fin
 . obtain⟨_,_,vs,_,o,es,ep,e,hx,hd,_⟩:=pD I.bL hp;exact sj z t e hx hd hu _ _ _ _ fin
theorem Fg(hu:X.A.units < VQ):cG X (Tw .Eq) (N3 X.K):=by
 intro pins s σ H x y v u Q I rx ry h;obtain⟨p,q,xs,rfl,rfl,hp,hq,hQ⟩:=h;cases(show v=Tx p from rx);cases(show u=Tx q from ry);obtain⟨az,hv,pl,hz⟩:=I.tuple hp;obtain⟨its2,hv2,pl2,hz2⟩:=I.tuple hq;have e2:its2=[]:=by cases hv2;rfl
 subst e2;have e:xs.isEmpty=(az.toArray.size == 0):=by cases hv<;>simp
 rw[e] at hQ;refine SeqAt.eq_tupleAt (e:=λ_=>true) pl pl2 hu (λj h1 h2=>absurd h2 (by simp)) ?_;have e3:((Vi (min az.toArray.size ([]:List S5).toArray.size)).all (λ_=>true)&&az.toArray.size == ([]:List S5).toArray.size)=(az.toArray.size == 0):=by simp
 rw[e3];exact⟨.bl _,H,I,rfl,hQ⟩
theorem D5:BV X (M0 X.K):=by
 intro pins s σ H x v vl vu lo hi sl Q I rx hs pl pu h;obtain⟨a,xs,rfl,hx,hw,q⟩:=h;cases rx;obtain⟨az,r,ht,hz⟩:=I.tuple hx;have hlen:az.toArray.size=xs.length:=by exact r.length.symm
 refine⟨"tuple",_,Um.lookup,ht.typeIs,?_⟩;exact oX ht hs pl pu (by rw[hlen];exact hw) ⟨.ref a,H,I,rfl,q⟩
theorem DE:cG X (UP .Add) (Fj X.K):=by
 intro pins s σ H x y v u Q I rx ry h;obtain⟨a,b,ys,rfl,rfl,ha,hb,q⟩:=h;cases(show v=Tx a from rx);cases(show u=Tx b from ry);obtain⟨az,r1,p1,_⟩:=I.tuple ha;obtain⟨its2,r2,p2,_⟩:=I.tuple hb;have e1:az=[]:=by cases r1;rfl
 subst e1;obtain⟨⟨cls,dd,data,sl⟩,ho,hc,n,hd⟩:=id p1;obtain⟨⟨cls2,dd2,data2,sl2⟩,ho2,hc2,n2,hd2⟩:=id p2;simp only at hc hd hc2 hd2;subst hc hd hc2 hd2;exact Zz ⟨_,ho,rfl⟩ ⟨_,ho2,rfl⟩ XI Zd Wx Ws (Wf _ _)
  (tuple_addW0 a b _ _ n n2 dd dd2 sl sl2 rfl) ⟨ho,ho2,⟨.ref b,H,I,rfl,q⟩⟩
theorem Eg:cG X (UP .Add) FP:=by
 intro pins s σ H x y v u Q I rx ry h;obtain⟨a,b,rfl,rfl,hz,q⟩:=h;obtain⟨t,rfl⟩:=rx;obtain⟨t',rfl⟩:=ry;exact PyProof.Rows.add_str (λt' tk=>⟨.str (a++b),H,I.tok _,⟨_,rfl⟩,q⟩) hz
theorem Ib:cG X (UP .Add) (λx y H Q=>(BY λi j=> .int (i+j)) x y H Q\/(NZ x y H Q\/(FV X.K x y H Q\/(Fj X.K x y H Q\/FP x y H Q)))):=GN.or (Ky.or (C3.or (DE.or Eg)))
theorem Sx:BV X (λx lo hi H Q=>LJ X.K x lo hi H Q\/(OG X.K x lo hi H Q\/M0 X.K x lo hi H Q)):=ES.or (GJ.or D5)
end
section
variable{X:Cx}{o i:Uh}{pos:Pos}{ty:TE}{a:Tp}{kvs:List (Key × V)}
theorem xj(hk:KD X.prog X.w X.K a kvs)(hi:PE X i ty)(ho:PE X o (tC (.ref a))):PC X .NotIn i o (vT kvs ty):=by
 intro pins s σ H Q I h;refine iU (hi pins s σ H _ I h) λiv s1 ⟨y,H1,I1,ry,k,ey,q⟩=>iU (ho pins s1 σ H1 (λx H2=>x= .ref a/\H2=H1) I1 ⟨rfl,rfl⟩) λu s2 ⟨x,H2,I2,rx,ex,eH⟩=>?_;subst ex eH ey;obtain rfl:u=Tx a:=rx;obtain⟨vs,rel,dd⟩:=I2.kd hk;refine wpAny_notIn_of (jk ry) hk.1 dd.mapOf ?_;rw[<- (rel.val k).eR];exact⟨.bl (!(fI kvs k).isSome),H2,I2.tok _,rfl,q⟩
theorem xx(hk:KD X.prog X.w X.K a kvs)(hi:QE X i ty)(ho:QE X o (tC (.ref a)))(hm:Ur .NotIn o=false:=by rfl):QT X (.Compare i [.NotIn] [o] pos) (tB (vT kvs ty)):=⟨uN (xj hk hi.h ho.h) hm⟩
end
noncomputable def R9{α}(c:Nat->Nat->Bool):KasT α -> α
 | .ret a=>a
 | .ask i j k=>R9 c (k (c i j))
noncomputable def PM{α}(n:Nat)(c:Nat->Nat->Bool):KasT α ->Bool
 | .ret _=>true
 | .ask i j k=>decide (i < n)&&decide (j < n)&& !decide (i=j)&&PM n c (k (c i j))
def LA{α} n (c:Nat->Nat->Bool) (t:KasT α) (Q: α ->Prop):=PM n c t=true/\Q (R9 c t)
theorem LA.ret{α :Type}{n:Nat}{c:Nat->Nat->Bool}{a: α}{Q: α ->Prop}(h:Q a):LA n c (.ret a) Q:=⟨rfl,h⟩
theorem LA.ask{α :Type}{n:Nat}{c:Nat->Nat->Bool}{i j:Nat}{k:Bool->KasT α}{Q: α ->Prop}(hi:i < n)(hj:j < n)(hij:i≠j)(h:LA n c (k (c i j)) Q):LA n c (.ask i j k) Q :=
 ⟨by simp only[PM,hi,hj,hij,h.1,decide_true,decide_false,V5,UC],h.2⟩
structure uh(n:Nat)(p:Array Nat):Prop where
 perm:p.toList.Perm (Vi n)
theorem uh.size(h:uh n p):p.size=n:=by simpa using h.perm.length_eq
theorem uh.ne(h:uh n p)(hi:i < n)(hj:j < n)(hij:i≠j):p.getD i 0≠p.getD j 0:=λe=>by
 have hi':=h.size ▸ hi;have hj':=h.size ▸ hj;have nd:=h.perm.nodup_iff.mpr List.nodup_range;rw[W0,W0,V8 hi',V8 hj'] at e;exact hij ((List.getElem?_inj (by omega) nd).mp (by simp_all))
theorem uh.of(h:uh n p)(pm:q.Perm p):uh n q:=⟨(Array.perm_iff_toList_perm.mp pm).trans h.perm⟩
section
variable{n:Nat}{r:Nat->Nat}
noncomputable def rk(r:Nat->Nat)(p:Array Nat) i:=r (p.getD i 0)
end
def Sr(a b:Str):=a.cps.toList < b.cps.toList
instance (a b:Str):Decidable (Sr a b):=inferInstanceAs (Decidable (a.cps.toList < b.cps.toList))
section
variable{prog:Ug}{w:Uz}{A:U5}{E:S5->Tc->Prop}{s:Tc}
theorem fC{vs:List S5}(h:vs.length < 64):vs.length<=Ta:=Ua (XT h) (by decide)
end
def sI(H:Hp)(y:V)(q:Str × Int):= ∃ b,y= .ref b/\H b=fv (.tup [.str q.1,.int q.2])
theorem sI.v(h:sI H y q):Oc H y (.inr q.1,.int q.2):=h
theorem sI.same{H H':Hp}{y:V}{q:Str × Int}(h:sI H y q)(s:jP H H'):sI H' y q:=let ⟨b,e,h⟩:=h;⟨b,e,s _ _ h⟩
def Qn(h:UU)(v:S5)(q:Str × Int):= ∃ b o k t u,v= .ref b/\h.get? b=fv o/\o.cls= .type "tuple" /\o.data= .seq #[.str q.1 t,.int q.2 u] k
theorem Qn.kept(k: ∀ b o,h.get? b=fv o->h'.get? b=fv o)(x:Qn h v q):Qn h' v q:=by obtain⟨b,o,n,t,u,e1,e2,e3,e4⟩:=x;exact⟨b,o,n,t,u,e1,k _ _ e2,e3,e4⟩
def F1(K:SV):List V->Hp->VK->Prop:=λxs H Q=> ∃ x p Ts T b,xs=[x,.ref p]/\H p=fv (.tup (List.map V.ty Ts))/\jc K H x (.type T)/\YQ K (.type T) (List.map V2 Ts)=fv b/\Q (.bl b) H
theorem vI: ∀{Ts:List String}{us},Vals (Ts.map V.ty) us->us=Ts.map V2
 | [],_,.nil=>rfl
 | T::r,u::us,.cons h t=>by rw[vI t,show u=V2 T from h];rfl
section
variable{X:Cx}
theorem q8:bO X (.builtin "isinstance") (F1 X.K):=by
 intro pins s σ H xs us Q I r h;obtain⟨x,p,Ts,T,b,rfl,hp,ty,e,q⟩:=h;obtain⟨u,c,rfl,ru,rc⟩:=vals2 r;cases(show c=Tx p from rc);obtain⟨_,az,hv,⟨oc,dd,dat,sl⟩,e1,e2,n,e3,_⟩:=(show bF X.prog X.w H s.heap p (.tup (Ts.map V.ty)) from I.bL p _ hp)
 simp only at e2 e3;subst e2 e3;obtain rfl:=vI hv;have fin: ∀ tk,EP X pins σ Q (.bool b) { s with toks:=tk}:=λtk=>⟨.bl b,H,I.tok tk,rfl,q⟩
 generalize hT:V2 T=t at ty e;cases ty with
 | non=>cases(show u=WB from ru);exact W2 kitx_none I.ko trivial e1 e nofun fin
 | bl y=>cases(show u=W7 y from ru);exact W2 kitx_bool I.ko trivial e1 e nofun fin
 | int i=>obtain⟨_,rfl⟩:=(show ∃ t,u=XD i t from ru);exact W2 kitx_int I.ko trivial e1 e nofun fin
 | str y=>obtain⟨_,rfl⟩:=(show ∃ t,u=W4 y t from ru);exact W2 kitx_str I.ko trivial e1 e nofun fin
 | flt y=>obtain⟨_,rfl⟩:=(show ∃ t,u=Z1 y t from ru);exact W2 aaj I.ko trivial e1 e nofun fin
 | @lst a xs ea =>
  cases(show u=Tx a from ru)
  obtain⟨_,_,_,_,g⟩:=(show bF X.prog X.w H s.heap a (.lst xs) from I.bL a _ ea)
  exact W2 Xx I.ko ⟨_,g,rfl⟩ e1 e nofun fin
 | @jL a ob xs ea =>
  cases(show u=Tx a from ru)
  obtain⟨_,_,_,_,_,g⟩:=(show bF X.prog X.w H s.heap a (.jL ob (.lst xs)) from I.bL a _ ea)
  exact W2 Xx I.ko ⟨_,g,rfl⟩ e1 e nofun fin
 | @tup a xs ea =>
  cases(show u=Tx a from ru)
  obtain⟨_,_,_,o,g1,g2,_⟩:=(show bF X.prog X.w H s.heap a (.tup xs) from I.bL a _ ea)
  exact W2 aak I.ko ⟨o,g1,g2⟩ e1 e nofun fin
 | @dK a kvs ea =>
  cases(show u=Tx a from ru)
  obtain⟨_,_,_,_,o,_,_,g1,g2,_⟩:=(show bF X.prog X.w H s.heap a (.dK kvs) from I.bL a _ ea)
  exact W2 Xy I.ko ⟨o,g1,g2.1⟩ e1 e nofun fin
 | @dT a kvs ea =>
  cases(show u=Tx a from ru)
  obtain⟨_,_,_,_,o,_,_,g1,g2,_⟩:=(show bF X.prog X.w H s.heap a (.dT kvs) from I.bL a _ ea)
  exact W2 Xy I.ko ⟨o,g1,g2.1⟩ e1 e nofun fin
 | ins=>cases hT
theorem AI:bO X (.builtin "isinstance") (λxs H Q=>Mo X.K xs H Q\/F1 X.K xs H Q):=Ez.or q8
end
section
variable{prog:Ug}{w:Uz}{A:U5}{E:S5->Tc->Prop}{s:Tc}
theorem RQ[Decidable c](hc: ¬ c)(h:TC M A m' Q E s):TC M A (if c then m else m') Q E s:=by rw[if_neg hc];exact h
theorem jH{it t:Tp}{i:Nat}{items:Array S5}{x:S5}{Q:S5->Tc->Prop}(hit:s.heap.IsTupleIter it t i)(ht:s.heap.IsTuple t items)(hx:items[i]?=fv x)
  (q: ∀ h',h'.IsTupleIter it t (i+1)->XU it s.heap h'->Q x { s with heap:=h'}):TC (TM prog w) A (Ux (.ref it)) Q E s:=by
 obtain⟨oi,g1,c1,d1⟩:=id hit;obtain⟨ot,g2,_,k,d2⟩:=id ht;have new:(s.heap.update it (Obj.mapFields (·.setIfInBounds 1 (rawInt ((i:Int)+1))))).IsTupleIter it t (i+1):=⟨_,Yv _ g1 (Obj.isFreed_of_fields (Zt d1 _)),(Obj.cls_mapFields ..).trans c1,(Zt d1 _).trans (by rfl)⟩
 refine SW (U3 (name:=S3 "__next__") hit.typeIs U9 (VG U9 hit.typeIs Wu ?_ (Wr (.ref it))));refine SW (m:=YR (.ref it) 0) (UR g1 d1 (x:= .ref t) rfl (RQ (λz=>by cases z) (SW (m:=YR (.ref it) 1) (UR g1 d1 (x:= .int i 0) rfl (SW (m:=seqItems? (.ref t)) (Vs g2 d2 ?_))))));dsimp only;rw[Uu,hx];exact SW (wpAny_setField g1 d1 (by simp) (To ⟨x,rfl,To (q _ new (Y4 ..))⟩))
theorem pM{it t:Tp}{i:Nat}{items:Array S5}{Q:S5->Tc->Prop}(hh:A.handled=SU)(hit:s.heap.IsTupleIter it t i)(ht:s.heap.IsTuple t items)(hx:items[i]?=SU)
  (q: ∀ h' e,Heap.ExtBut it s.heap h'->(∃ o,h'.get? e=fv o/\o.cls= .type "StopIteration")->E (.ref e) { s with heap:=h'}):TC (TM prog w) A (Ux (.ref it)) Q E s:=by
 obtain⟨oi,g1,c1,d1⟩:=id hit;obtain⟨ot,g2,_,k,d2⟩:=id ht;refine SW (U3 (name:=S3 "__next__") hit.typeIs U9 (VG U9 hit.typeIs Wu ?_ (Wr (.ref it))));refine SW (m:=YR (.ref it) 0) (UR g1 d1 (x:= .ref t) rfl (RQ (λz=>by cases z) (SW (m:=YR (.ref it) 1) (UR g1 d1 (x:= .int i 0) rfl (SW (m:=seqItems? (.ref t)) (Vs g2 d2 ?_))))));dsimp only;rw[Uu,hx];refine SW (Zr (SW (wpAny_setField g1 d1 (by simp) (SW (m:=newExc (.type "StopIteration") []) (SW (m:=newTuple []) (US ?_ (by size_fits)))))));refine SW (m:=firstArgMember _ _) (Z6 (a:=WB) (by rfl) (US ?_ (by size_fits)));refine SW (wpAny_handled ?_);rw[show A.in1.handled=SU from hh];exact SW (To (wpAny_throw (q _ _ (((Y4 ..).extBut.push _).push _) ⟨_,Tr _ rfl,rfl⟩)))
structure rP(h:UU)(z TI TO i1 i2 l1 l2:Tp)(k:Nat):Prop where
 yo:IsZip h z TI TO .none
 az:XB h TI (.ref i1) (.ref i2)
 old: ∃ a b,XB h TO a b
 one:h.IsTupleIter i1 l1 k
 two:h.IsTupleIter i2 l2 k
theorem wQ{z TI TO i1 i2 l1 l2:Tp}{k:Nat}{xs ys:Array S5}{x y:S5}{Q:S5->Tc->Prop}(D:ZJ z TI TO i1 i2 l1 l2)(Z:rP s.heap z TI TO i1 i2 l1 l2 k)(t1:s.heap.IsTuple l1 xs)(t2:s.heap.IsTuple l2 ys)(hx:xs[k]?=fv x)(hy:ys[k]?=fv y)
  (q: ∀ h',IsZip h' z TI TO (rawInt s.heap.objs.size)->XB h' TI (.ref i1) (.ref i2)->XB h' TO x y->h'.IsTupleIter i1 l1 (k+1)->h'.IsTupleIter i2 l2 (k+1)->XB h' s.heap.objs.size x y ->
   (∀ c o,c≠z->c≠TO->c≠i1->c≠i2->s.heap.get? c=fv o->h'.get? c=fv o)->Q (.ref s.heap.objs.size) { s with heap:=h'}):TC (TM prog w) A (WI.«zip.__next__» ⟨[.ref z],[]⟩) (λr u=> ∃ v,r= .done (.ret v)/\Q v u) E s:=by
 obtain⟨hz,hTI,⟨a,b,hTO⟩,o1,o2⟩:=Z;refine SW (m:=YR (.ref z) 2) (UR hz rfl (x:= .bool false) rfl ?_);refine SW (m:=YR (.ref z) 3) (UR hz rfl (x:= .ref TI) rfl (SW (Vs hTI rfl ?_)));refine SW (m:=Wi (.ref z)) (SW (m:=YR (.ref z) 0) (UR hz rfl (x:= .none) rfl (To (Rx rfl (SW (Zr ?_))))));refine SW (m:=YR (.ref z) 4) (UR hz rfl (x:= .ref TO) rfl (SW (Vt hz (by simp) λu1 z1 b1=>?_)))
 replace z1:=z1
 refine SW ?_;rw[show(#[Tx i1,Tx i2]).toList.zipIdx=[(Tx i1,0),(Tx i2,1)] from rfl,VT];refine SW (SW (WJ (SW (m:=Ux (.ref i1)) (jH (o1.at λo e=>b1.extBut _ _ D.i1z e) (t1.at λo e=>b1.extBut _ _ D.l1z e) hx λu2 p1 b2=>To ?_))));have T2:=b2.extBut _ _ D.TOi1 (b1.extBut _ _ D.TOz hTO);refine SW (Vs T2 rfl (SW (WO T2 λu3 T3 b3=>SW (Z7 (To ?_)))))
 replace T3:=T3
 have k3: ∀ c o,c≠z->c≠TO->c≠i1->s.heap.get? c=fv o->u3.get? c=fv o:=λc o n1 n2 n3 e=>b3.extBut _ _ n2 (b2.extBut _ _ n3 (b1.extBut _ _ n1 e));dsimp only;rw[VT];refine SW (SW (WJ (SW (m:=Ux (.ref i2)) (jH (o2.at λo e=>k3 _ o D.i2z D.TOi2.symm D.i12.symm e) (t2.at λo e=>k3 _ o D.l2z D.l2TO D.l2i1 e) hy λu4 p2 b4=>To ?_))));have T4:=b4.extBut _ _ D.TOi2 T3;refine SW (Vs T4 rfl (SW (WO T4 λu5 T5 b5=>SW (Z7 (To ?_)))))
 replace T5:XB u5 TO x y:=T5
 have k5:=λc o n1 n2 n3 n4 e=>b5.extBut _ _ n2 (b4.extBut _ _ n4 (k3 c o n1 n2 n3 e));have sz:=b5.1.trans (b4.1.trans (b3.1.trans (b2.1.trans b1.1)));have z5:=b5.extBut _ _ D.TOz.symm (b4.extBut _ _ D.i2z.symm (b3.extBut _ _ D.TOz.symm (b2.extBut _ _ D.i1z.symm z1)));have p15:=p1.at λo e=>b5.extBut _ _ D.TOi1.symm (b4.extBut _ _ D.i12 (b3.extBut _ _ D.TOi1.symm e));have p25:=p2.at λo e=>b5.extBut _ _ D.TOi2.symm e;have lz:=Tu z5;dsimp only;rw[List.forIn_nil];refine To (SW (Vs T5 rfl (SW (wpAny_newTuple ?_ (by show 2<=Ta;decide)))));have z6:IsZip (u5.push { cls:= .type "tuple",data:= .seq #[x,y]}) z TI TO .ellipsis:=S0 _ z5;refine SW (m:=Y5 (.ref z) (.ref u5.objs.size)) (SW (Vt z6 (by simp) λu7 z7 b7=>Vt (show IsZip u7 z TI TO (rawInt u5.objs.size) from z7) (by simp) λu8 z8 b8=>To ⟨_,rfl,?_⟩));have up: ∀ c o,c≠z->u5.get? c=fv o->u8.get? c=fv o:=λc o n e=>b8.extBut _ _ n (b7.extBut _ _ n (S0 _ e));have T8:=b8.extBut _ _ (V6 lz) (b7.extBut _ _ (V6 lz) (Tr _ rfl))
 replace z8:=z8
 rw[sz] at z8 T8 ⊢;exact q u8 z8 (up _ _ D.TIz (k5 _ _ D.TIz D.TITO D.TIi1 D.TIi2 hTI)) (up _ _ D.TOz T5) (p15.at λo e=>up _ o D.i1z e) (p25.at λo e=>up _ o D.i2z e) T8 λc o n1 n2 n3 n4 e=>up c o n1 (k5 c o n1 n2 n3 n4 e)
theorem BB{z TI TO i1 i2 l1 l2:Tp}{k:Nat}{xs ys:Array S5}{Q:PySem.Fin->Tc->Prop}(hh:A.handled=SU)(D:ZJ z TI TO i1 i2 l1 l2)(Z:rP s.heap z TI TO i1 i2 l1 l2 k)(t1:s.heap.IsTuple l1 xs)(t2:s.heap.IsTuple l2 ys)(he:xs[k]?=SU\/ys[k]?=SU)
  (q: ∀ h' e,(∀ c o,c≠z->c≠TO->c≠i1->c≠i2->s.heap.get? c=fv o->h'.get? c=fv o)->(∃ o,h'.get? e=fv o/\o.cls= .type "StopIteration")->E (.ref e) { s with heap:=h'}):TC (TM prog w) A (WI.«zip.__next__» ⟨[.ref z],[]⟩) Q E s:=by
 obtain⟨hz,hTI,⟨a,b,hTO⟩,o1,o2⟩:=Z;have ap: ∀(h':UU)(f0:S5)(e:Tp)(o:Obj),IsZip h' z TI TO f0->h'.get? e=fv o->o.cls= .type "StopIteration" ->e≠z:=λh' f0 e o y g c n=>by grind
 refine SW (m:=YR (.ref z) 2) (UR hz rfl (x:= .bool false) rfl ?_);refine SW (m:=YR (.ref z) 3) (UR hz rfl (x:= .ref TI) rfl (SW (Vs hTI rfl ?_)));refine SW (m:=Wi (.ref z)) (SW (m:=YR (.ref z) 0) (UR hz rfl (x:= .none) rfl (To (Rx rfl (SW (Zr ?_))))));refine SW (m:=YR (.ref z) 4) (UR hz rfl (x:= .ref TO) rfl (SW (Vt hz (by simp) λu1 z1 b1=>?_)));refine SW ?_;rw[show(#[Tx i1,Tx i2]).toList.zipIdx=[(Tx i1,0),(Tx i2,1)] from rfl,VT]
 match hx:xs[k]? with
 | none =>
  refine SW (SW (WJ (SW (m:=Ux (.ref i1)) (pM hh (o1.at λo e=>b1.extBut _ _ D.i1z e) (t1.at λo e=>b1.extBut _ _ D.l1z e) hx λu2 e b2 g=>?_))))
  obtain⟨oe,g1,g2⟩:=g
  have z2:=b2 _ _ D.i1z.symm z1
  exact Vt z2 (by simp) λu3 _ b3=>q u3 e (λc o n1 _ n3 _ y=>b3.extBut _ _ n1 (b2 _ _ n3 (b1.extBut _ _ n1 y))) ⟨oe,b3.extBut _ _ (ap u2 _ e oe z2 g1 g2) g1,g2⟩
 | some x =>
  have hy:=he.resolve_left (by simp_all)
  refine SW (SW (WJ (SW (m:=Ux (.ref i1)) (jH (o1.at λo e=>b1.extBut _ _ D.i1z e) (t1.at λo e=>b1.extBut _ _ D.l1z e) hx λu2 p1 b2=>To ?_))))
  have T2:=b2.extBut _ _ D.TOi1 (b1.extBut _ _ D.TOz hTO)
  refine SW (Vs T2 rfl (SW (WO T2 λu3 T3 b3=>SW (Z7 (To ?_)))))
  have k3: ∀ c o,c≠z->c≠TO->c≠i1->s.heap.get? c=fv o->u3.get? c=fv o:=λc o n1 n2 n3 e=>b3.extBut _ _ n2 (b2.extBut _ _ n3 (b1.extBut _ _ n1 e))
  dsimp only
  rw[VT]
  refine SW (SW (WJ (SW (m:=Ux (.ref i2)) (pM hh (o2.at λo e=>k3 _ o D.i2z D.TOi2.symm D.i12.symm e) (t2.at λo e=>k3 _ o D.l2z D.l2TO D.l2i1 e) hy λu4 e b4 g=>?_))))
  obtain⟨oe,g1,g2⟩:=g
  have z4:=b4 _ _ D.i2z.symm (b3.extBut _ _ D.TOz.symm (b2.extBut _ _ D.i1z.symm z1))
  exact Vt z4 (by simp) λu5 _ b5=>q u5 e (λc o n1 n2 n3 n4 y=>b5.extBut _ _ n1 (b4 _ _ n4 (k3 c o n1 n2 n3 y))) ⟨oe,b5.extBut _ _ (ap u4 _ e oe z4 g1 g2) g1,g2⟩
theorem nY{z TI TO i1 i2 l1 l2:Tp}{k:Nat}{xs ys:Array S5}{x y:S5}{Q:Option S5->Tc->Prop}(D:ZJ z TI TO i1 i2 l1 l2)(Z:rP s.heap z TI TO i1 i2 l1 l2 k)(t1:s.heap.IsTuple l1 xs)(t2:s.heap.IsTuple l2 ys)(hx:xs[k]?=fv x)(hy:ys[k]?=fv y)
  (q: ∀ h',IsZip h' z TI TO (rawInt s.heap.objs.size)->XB h' TI (.ref i1) (.ref i2)->XB h' TO x y->h'.IsTupleIter i1 l1 (k+1)->h'.IsTupleIter i2 l2 (k+1)->XB h' s.heap.objs.size x y ->
   (∀ c o,c≠z->c≠TO->c≠i1->c≠i2->s.heap.get? c=fv o->h'.get? c=fv o)->Q (fv (.ref s.heap.objs.size)) { s with heap:=h'}):TC (TM prog w) A (ZQ (.ref z)) Q E s :=
 have ty:=⟨_,Z.yo,rfl⟩
 SW (wpAny_attempt (U3 (name:=S3 "__next__") ty V0 (VG V0 ty Yh (wQ D Z t1 t2 hx hy λh' a1 a2 a3 a4 a5 a6 a7=>To (q h' a1 a2 a3 a4 a5 a6 a7)) (XO (.ref z)))))
theorem oI{z TI TO i1 i2 l1 l2:Tp}{k:Nat}{xs ys:Array S5}{Q:Option S5->Tc->Prop}(hh:A.handled=SU)(D:ZJ z TI TO i1 i2 l1 l2)(Z:rP s.heap z TI TO i1 i2 l1 l2 k)(t1:s.heap.IsTuple l1 xs)(t2:s.heap.IsTuple l2 ys)(he:xs[k]?=SU\/ys[k]?=SU)
  (q: ∀ h',(∀ c o,c≠z->c≠TO->c≠i1->c≠i2->s.heap.get? c=fv o->h'.get? c=fv o)->Q SU { s with heap:=h'}):TC (TM prog w) A (ZQ (.ref z)) Q E s :=
 have ty:=⟨_,Z.yo,rfl⟩
 SW (wpAny_attempt (U3 (name:=S3 "__next__") ty V0 (VG V0 ty Yh (BB (A:=A.in1) hh D Z t1 t2 he λh' e a1 g =>
  by obtain⟨o,g1,g2⟩:=g;exact SW (wpAny_isInstance (T:= "StopIteration") (b:=true) ⟨o,g1,g2⟩ isSubtype_stop (To (q h' a1)))) (XO (.ref z)))))
end
end L2
end
section
open PySem PySem.W PyProof.Rows
namespace P3
open PySem PySem.Spec PyProof.Rows L2
inductive PV where
 | non | bl (b:Bool) | int (i:Int) | str (x:Str) | tup (xs:List PV) | ktup (xs:List PV) | ref (n:Nat) | ty (n:String)
mutual
def PV.beq:PV->PV->Bool
 | .non,.non=>true
 | .bl a,.bl b=>decide (a=b)
 | .int a,.int b=>decide (a=b)
 | .str a,.str b=>decide (a=b)
 | .tup a,.tup b=>PV.Cp a b
 | .ktup a,.ktup b=>PV.Cp a b
 | .ref a,.ref b=>decide (a=b)
 | .ty a,.ty b=>decide (a=b)
 | _,_=>false
def PV.Cp:List PV->List PV->Bool
 | [],[]=>true
 | a::x,b::y=>PV.beq a b&&PV.Cp x y
 | _,_=>false
end
theorem gp{p:Prop}(h: ¬ p):false=true↔p:=⟨λe=>(by cases e),λe=>absurd e h⟩
mutual
theorem PV.beq_iff: ∀(a b:PV),PV.beq a b=true↔a=b
 | .non,b=>by cases b<;>first | exact iff_of_true rfl rfl | exact gp (by intro e;cases e)
 | .bl _,b=>by cases b<;>first | exact decide_eq_true_iff.trans (by simp) | exact gp (by intro e;cases e)
 | .int _,b=>by cases b<;>first | exact decide_eq_true_iff.trans (by simp) | exact gp (by intro e;cases e)
 | .str _,b=>by cases b<;>first | exact decide_eq_true_iff.trans (by simp) | exact gp (by intro e;cases e)
 | .ref _,b=>by cases b<;>first | exact decide_eq_true_iff.trans (by simp) | exact gp (by intro e;cases e)
 | .ty _,b=>by cases b<;>first | exact decide_eq_true_iff.trans (by simp) | exact gp (by intro e;cases e)
 | .tup a,b=>by cases b<;>first | exact(PV.ox a _).trans (by simp) | exact gp (by intro e;cases e)
 | .ktup a,b=>by cases b<;>first | exact(PV.ox a _).trans (by simp) | exact gp (by intro e;cases e)
theorem PV.ox: ∀(a b:List PV),PV.Cp a b=true↔a=b
 | [],b=>by cases b<;>first | exact iff_of_true rfl rfl | exact gp (by intro e;cases e)
 | a::x,b=>by
  cases b with
  | nil=>exact gp (by intro e;cases e)
  | cons b y=>exact(YJ.trans (and_congr (PV.beq_iff a b) (PV.ox x y))).trans (by simp)
end
instance:DecidableEq PV:=λa b=>decidable_of_iff _ (PV.beq_iff a b)
mutual
def PV.flat:PV->Bool
 | .ref _=>false
 | .tup xs=>PV.du xs
 | .ktup xs=>PV.du xs
 | _=>true
def PV.du:List PV->Bool
 | []=>true
 | x::r=>x.flat&&PV.du r
end
mutual
def PV.jd(n:Nat):PV->Bool
 | .ref m=>decide (m < n)
 | .tup xs=>PV.jI n xs
 | .ktup xs=>PV.jI n xs
 | _=>true
def PV.jI(n:Nat):List PV->Bool
 | []=>true
 | x::r=>x.jd n&&PV.jI n r
end
inductive PO where
 | lst (xs:List PV) | kq (xs:List PV) | dct (kvs:List (Key × PV))
 deriving DecidableEq
noncomputable def PO.gj:PO->Bool
 | .kq _=>false
 | _=>true
noncomputable def PO.jd(n:Nat):PO->Bool
 | .lst xs=>PV.jI n xs
 | .kq xs=>PV.jI n xs
 | .dct kvs=>PV.jI n (kvs.map (·.2))
abbrev PH:=List PO
abbrev a9:=List (Option PV)
def KT(K:SV) a (xs:List V):= ∃(o:Obj)(az:Array S5)(n:Nat),K.lookup a=fv o/\o.cls= .type "tuple" /\o.data= .seq az n/\az.size<=Ta/\Vals xs az.toList
mutual
def rel(K:SV)(ρ :List Tp)(H:Hp):PV->V->Prop
 | .non,v=>v= .non
 | .bl b,v=>v= .bl b
 | .int i,v=>v= .int i
 | .str x,v=>v= .str x
 | .ty n,v=>v= .ty n
 | .ref n,v=> ∃ a, ρ[n]?=fv a∧v= .ref a
 | .tup xs,v=> ∃ a vs,v= .ref a∧H a=fv (.tup vs)∧aB K ρ H xs vs
 | .ktup xs,v=> ∃ a vs,v= .ref a∧KT K a vs∧aB K ρ H xs vs
def aB(K:SV)(ρ :List Tp)(H:Hp):List PV->List V->Prop
 | [],vs=>vs=[]
 | x::r,vs=> ∃ v t,vs=v::t∧rel K ρ H x v∧aB K ρ H r t
end
structure Gr (ρ :List Tp) (H:Hp) (ρ':List Tp) (H':Hp):Prop where
 pre: ∀(n:Nat)(a:Tp), ρ[n]?=fv a-> ρ'[n]?=fv a
 tup: ∀ a xs,H a=fv (.tup xs)->H' a=fv (.tup xs)
 jL: ∀ a o u,H a=fv (.jL o u)->H' a=fv (.jL o u)
theorem Gr.refl ρ H:Gr ρ H ρ H:=⟨λ_ _ h=>h,λ_ _ h=>h,λ_ _ _ h=>h⟩
theorem Gr.trans(a:Gr ρ H ρ1 H1)(b:Gr ρ1 H1 ρ2 H2):Gr ρ H ρ2 H2 :=
 ⟨λn x h=>b.pre n x (a.pre n x h),λx xs h=>b.tup x xs (a.tup x xs h),λx o u h=>b.jL x o u (a.jL x o u h)⟩
section
variable{K:SV}{ρ ρ':List Tp}{H H':Hp}
theorem Gr.Ia(g:Gr ρ H ρ' H')(h:fB K H a xs):fB K H' a xs:=by
 rcases h with(h | ⟨o,h⟩) | h
 . exact .inl (.inl (g.tup _ _ h))
 . exact .inl (.inr ⟨o,g.jL _ _ _ h⟩)
 . exact .inr h
theorem Gr.SQ(g:Gr ρ H ρ' H')(h:wy K H a xs):wy K H' a xs:=by
 rcases h with⟨o,h⟩ | h
 . exact .inl ⟨o,g.jL _ _ _ h⟩
 . exact .inr h
mutual
theorem rel.gr(g:Gr ρ H ρ' H'): ∀(x:PV)(v:V),rel K ρ H x v->rel K ρ' H' x v
 | .non,v,h=>by simpa only[rel] using h
 | .bl _,v,h=>by simpa only[rel] using h
 | .int _,v,h=>by simpa only[rel] using h
 | .str _,v,h=>by simpa only[rel] using h
 | .ty _,v,h=>by simpa only[rel] using h
 | .ref n,v,h=>by
  rw[rel] at h ⊢;obtain⟨a,e,h⟩:=h;exact⟨a,g.pre _ _ e,h⟩
 | .tup xs,v,h=>by
  rw[rel] at h ⊢;obtain⟨a,vs,e,s,r⟩:=h;exact⟨a,vs,e,g.tup _ _ s,aB.gr g xs vs r⟩
 | .ktup xs,v,h=>by
  rw[rel] at h ⊢;obtain⟨a,vs,e,s,r⟩:=h;exact⟨a,vs,e,s,aB.gr g xs vs r⟩
theorem aB.gr(g:Gr ρ H ρ' H'): ∀(xs:List PV)(vs:List V),aB K ρ H xs vs->aB K ρ' H' xs vs
 | [],vs,h=>by simpa only[aB] using h
 | x::r,vs,h=>by
  rw[aB] at h ⊢;obtain⟨v,t,e,h1,h2⟩:=h;exact⟨v,t,e,rel.gr g x v h1,aB.gr g r t h2⟩
end
noncomputable def PV.seq?:PV->Option (List PV)
 | .tup xs=>fv xs
 | .ktup xs=>fv xs
 | _=>SU
theorem rel.seq(e:x.seq?=fv xs)(h:rel K ρ H x v): ∃ a vs,v= .ref a/\fB K H a vs/\aB K ρ H xs vs:=by
 cases x<;>simp only[PV.seq?,reduceCtorEq,Xt] at e
 . subst e;obtain⟨a,vs,e,z,r⟩:=h;exact⟨a,vs,e,.of z,r⟩
 . subst e;obtain⟨a,vs,e,z,r⟩:=h;exact⟨a,vs,e,.inr z,r⟩
theorem cJ:aB K ρ H [] vs↔vs=[]:=by rw[aB]
theorem aN:aB K ρ H (x::r) vs↔ ∃ v t,vs=v::t/\rel K ρ H x v/\aB K ρ H r t:=by rw[aB]
theorem aB.len: ∀{xs vs},aB K ρ H xs vs->xs.length=vs.length
 | [],vs,h=>by rw[h];rfl
 | x::r,vs,h=>by
  obtain⟨v,t,rfl,_,h2⟩:=aN.mp h;simp[aB.len h2]
theorem aB.get: ∀{xs vs}{i:Nat}{x},aB K ρ H xs vs->xs[i]?=fv x-> ∃ v,vs[i]?=fv v/\rel K ρ H x v
 | [],vs,i,x,h,e=>by simp at e
 | y::r,vs,i,x,h,e=>by
  obtain⟨v,t,rfl,h1,h2⟩:=aN.mp h;cases i with
  | zero=>simp at e;subst e;exact⟨v,rfl,h1⟩
  | succ i=>simpa using aB.get h2 (by simpa using e)
theorem aB.app: ∀{xs ys vs ws},aB K ρ H xs vs->aB K ρ H ys ws->aB K ρ H (xs++ys) (vs++ws)
 | [],ys,vs,ws,h,h'=>by subst h;exact h'
 | x::r,ys,vs,ws,h,h'=>by
  obtain⟨v,t,rfl,h1,h2⟩:=aN.mp h;exact aN.mpr ⟨v,t++ws,rfl,h1,aB.app h2 h'⟩
theorem aB.one(h:rel K ρ H x v):aB K ρ H [x] [v]:=aN.mpr ⟨v,[],rfl,h,cJ.mpr rfl⟩
theorem aB.take: ∀{xs vs} n,aB K ρ H xs vs->aB K ρ H (xs.take n) (vs.take n)
 | xs,vs,0,h=>by rfl
 | [],vs,n+1,h=>by subst h;simp[cJ]
 | x::r,vs,n+1,h=>by
  obtain⟨v,t,rfl,h1,h2⟩:=aN.mp h;exact aN.mpr ⟨v,t.take n,rfl,h1,aB.take n h2⟩
theorem aB.drop: ∀{xs vs} n,aB K ρ H xs vs->aB K ρ H (xs.drop n) (vs.drop n)
 | xs,vs,0,h=>h
 | [],vs,n+1,h=>by subst h;simp[cJ]
 | x::r,vs,n+1,h=>by
  obtain⟨v,t,rfl,h1,h2⟩:=aN.mp h;exact aB.drop n h2
theorem aB.set: ∀{xs vs x v} i,aB K ρ H xs vs->rel K ρ H x v->aB K ρ H (xs.set i x) (vs.set i v)
 | [],vs,x,v,i,h,hv=>by subst h;simp[cJ]
 | y::r,vs,x,v,i,h,hv=>by
  obtain⟨w,t,rfl,h1,h2⟩:=aN.mp h;cases i with
  | zero=>exact aN.mpr ⟨v,t,rfl,hv,h2⟩
  | succ i=>exact aN.mpr ⟨w,t.set i v,rfl,h1,aB.set i h2 hv⟩
theorem aB.ints: ∀(ns:List Int),aB K ρ H (ns.map PV.int) (ns.map V.int)
 | []=>cJ.mpr rfl
 | n::r=>aN.mpr ⟨.int n,r.map V.int,rfl,by rw[rel],aB.ints r⟩
end
def kP(K:SV)(ρ :List Tp)(H:Hp)(a:Tp):PO->Prop
 | .lst xs=> ∃ vs,H a=fv (.lst vs)/\aB K ρ H xs vs
 | .kq xs=> ∃ vs,wy K H a vs/\aB K ρ H xs vs
 | .dct kvs=> ∃ kws,H a=fv (.dK kws)/\Vv (λ(p) (q)=>p.1=q.1/\rel K ρ H p.2 q.2) kvs kws
structure dt(K:SV)(ρ :List Tp)(h:PH)(H:Hp):Prop where
 len: ρ.length=h.length
 nd: ∀(i j:Nat)(a:Tp)(oi oj:PO),h[i]?=fv oi->h[j]?=fv oj->oi.gj=true->oj.gj=true-> ρ[i]?=fv a-> ρ[j]?=fv a->i=j
 ob: ∀(i:Nat)(o:PO)(a:Tp),h[i]?=fv o-> ρ[i]?=fv a->kP K ρ H a o
section
variable {K:SV} {ρ ρ':List Tp} {H H':Hp} {h:PH}
theorem dt.at(s:dt K ρ h H){i:Nat}(e:h[i]?=fv o): ∃ a, ρ[i]?=fv a∧kP K ρ H a o:=by
 have hi:i < ρ.length:=by rw [s.len];exact (Tg.mp e).1
 exact ⟨ρ[i],TN hi,s.ob i o _ e (TN hi)⟩
theorem Paired.gG(g:Gr ρ H ρ' H')(h:Vv (λ(p:Key × PV) (q:Key × V)=>p.1=q.1∧rel K ρ H p.2 q.2) kvs kws) :
  Vv (λ(p) (q)=>p.1=q.1/\rel K ρ' H' p.2 q.2) kvs kws:=Paired.B3 h λ_ _ z=>⟨z.1,rel.gr g _ _ z.2⟩
theorem iu(m:o.gj=true)(r:kP K ρ H a o):(∃ vs,H a=fv (.lst vs))\/ ∃ kws,H a=fv (.dK kws):=by
 cases o with
 | lst xs=>obtain⟨vs,e,_⟩:=r;exact .inl ⟨vs,e⟩
 | kq xs=>cases m
 | dct kvs=>obtain⟨kws,e,_⟩:=r;exact .inr ⟨kws,e⟩
theorem kz(g:Gr ρ H ρ' H')(k:o.gj=true->H' a=H a)(r:kP K ρ H a o):kP K ρ' H' a o:=by
 cases o with
 | lst xs=>obtain⟨vs,e,r⟩:=r;exact⟨vs,(k rfl).trans e,aB.gr g _ _ r⟩
 | kq xs=>obtain ⟨vs,e,r⟩:=r;exact ⟨vs,g.SQ e,aB.gr g _ _ r⟩
 | dct kvs=>obtain ⟨kws,e,r⟩:=r;exact ⟨kws,(k rfl).trans e,Paired.gG g r⟩
theorem Gr.new{p : Tp}{o : HO}(hp : H p = SU)(l : List Tp) : Gr ρ H (ρ ++ l) (upd H p o) :=
  ⟨λn a e => by rw [TV (Tg.mp e).1]; exact e,
   λa xs e => by rw [aT (aX e hp)]; exact e, λa o u e => by rw [aT (aX e hp)]; exact e⟩
theorem Gr.wU{p:Tp}{o:HO}(hp:H p=SU):Gr ρ H ρ (upd H p o):=by simpa using Gr.new (ρ := ρ) (o:=o) hp []
theorem dt.tup(s:dt K ρ h H){p o}(hp:H p=SU):dt K ρ h (upd H p o) :=
 ⟨s.len,s.nd,λi x a e1 e2=>kz (Gr.wU hp) (λm=>by
  have:=iu m (s.ob i x a e1 e2);refine aT ?_;rcases this with⟨_,z⟩ | ⟨_,z⟩<;>exact aX z hp) (s.ob i x a e1 e2)⟩
theorem dt.new(s:dt K ρ h H)(hp:H p=SU)(r:kP K (ρ ++[p]) (upd H p ho) p o):dt K (ρ ++[p]) (h++[o]) (upd H p ho):=by
 have g:Gr ρ H (ρ ++[p]) (upd H p ho):=Gr.new hp [p];have old: ∀{i:Nat}{x:PO},(h++[o])[i]?=fv x->(i < h.length/\h[i]?=fv x)\/(i=h.length/\x=o):=λ{i x} e=>by
  rcases ZK i h.length with z | z
  . rw[TV z] at e;exact .inl ⟨z,e⟩
  . rw[TU z] at e;have:i - h.length=0:=by
     grind
    rw[this] at e;exact .inr ⟨by omega,by simpa using e.symm⟩
 have oldρ : ∀{i:Nat}{a:Tp},i < h.length->(ρ ++[p])[i]?=fv a-> ρ[i]?=fv a:=λ{i a} z e=>by
  rw[TV (by rw[s.len];exact z)] at e;exact e
 have newρ : ∀{a:Tp},(ρ ++[p])[h.length]?=fv a->a=p:=λ{a} e=>by
  rw[<- s.len,TU (Te _)] at e;simpa using e.symm
 refine⟨by simp[s.len],λi j a oi oj ei ej mi mj ri rj=>?_,λi x a e1 e2=>?_⟩
 . rcases old ei with⟨zi,ei⟩ | ⟨zi,ei⟩<;>rcases old ej with⟨zj,ej⟩ | ⟨zj,ej⟩
   . exact s.nd i j a oi oj ei ej mi mj (oldρ zi ri) (oldρ zj rj)
   . subst zj;have:=iu mi (s.ob i oi a ei (oldρ zi ri));rw[newρ rj] at this;rcases this with⟨_,z⟩ | ⟨_,z⟩<;>(rw[hp] at z;nomatch z)
   . subst zi;have:=iu mj (s.ob j oj a ej (oldρ zj rj));rw[newρ ri] at this;rcases this with⟨_,z⟩ | ⟨_,z⟩<;>(rw[hp] at z;nomatch z)
   . rw[zi,zj]
 . rcases old e1 with⟨z,e⟩ | ⟨z,e⟩
   . refine kz g (λm=>?_) (s.ob i x a e (oldρ z e2));have:=iu m (s.ob i x a e (oldρ z e2));refine aT ?_;rcases this with ⟨_,y⟩ | ⟨_,y⟩<;>exact aX y hp
   . subst z;subst e;rw [newρ e2];exact r
theorem Gr.write{a : Tp}{ho : HO}(m : (∃ vs, H a = fv (.lst vs)) ∨ ∃ kws, H a = fv (.dK kws)) : Gr ρ H ρ (upd H a ho) :=
  ⟨fun _ _ h => h, fun b xs e => by rw [aT]; · exact e
                                    . rintro rfl; rcases m with ⟨_, z⟩ | ⟨_, z⟩ <;> (rw [e] at z; cases z),
   fun b o u e => by rw [aT]; · exact e
                     . rintro rfl; rcases m with ⟨_, z⟩ | ⟨_, z⟩ <;> (rw [e] at z; cases z)⟩
theorem dt.write(s:dt K ρ h H)(e:h[i]?=fv o)(ea: ρ[i]?=fv a)(m:o.gj=true)(m':o'.gj=true)(r:kP K ρ (upd H a ho) a o') :
  dt K ρ (h.set i o') (upd H a ho):=by
 have ma:=iu m (s.ob i o a e ea);have g:Gr ρ H ρ (upd H a ho):=Gr.write ma;have hi:=(Tg.mp e).1;have at_: ∀{j:Nat}{x:PO},(h.set i o')[j]?=fv x->(j=i/\x=o')\/(j≠i/\h[j]?=fv x):=λ{j x} q=>by
  by_cases z:j=i
  . subst z;rw[UO hi] at q;exact .inl ⟨rfl,by simpa using q.symm⟩
  . rw[UH (V1 z)] at q;exact .inr ⟨z,q⟩
 refine⟨by simp[s.len],λj k b oj ok ej ek mj mk rj rk=>?_,λj x b e1 e2=>?_⟩
 . rcases at_ ej with⟨zj,_⟩ | ⟨_,ej2⟩<;>rcases at_ ek with⟨zk,_⟩ | ⟨_,ek2⟩
   . rw[zj,zk]
   . rw[zj] at rj ⊢; exact s.nd _ _ b o ok e ek2 m mk rj rk
   . rw[zk] at rk ⊢; exact s.nd _ _ b oj o ej2 e mj m rj rk
   . exact s.nd j k b oj ok ej2 ek2 mj mk rj rk
 . rcases at_ e1 with⟨rfl,rfl⟩ | ⟨z,e1⟩
   . simp_all
   . refine kz g (λmx=>aT λq=>z ?_) (s.ob j x b e1 e2);subst q;exact s.nd j i b x o e1 e mx m e2 ea
end
inductive RV(α :Type) where
 | ok (a: α) (h:PH) | ex (c:String) (vs:List PV) (h:PH) | no
variable{α β :Type}
noncomputable def RV.bind:RV α ->(α ->PH->RV β)->RV β
 | .ok a h,f=>f a h
 | .ex c vs h,_=> .ex c vs h
 | .no,_=> .no
theorem gS:(RV.ok a h).bind f=f a h:=rfl
theorem bind_eq{r:RV α}:r.bind f= .ok b h'↔ ∃ a h,r= .ok a h/\f a h= .ok b h':=by
 cases r with
 | ok a h=>exact⟨λe=>⟨a,h,rfl,e⟩,by rintro ⟨a',h2,e,q⟩;exact by cases e;exact q⟩
 | ex c vs h=>exact⟨λe=>(by cases e),by simp_all⟩
 | no=>exact⟨λe=>(by cases e),by simp_all⟩
theorem zH[Decidable c]{ b:RV α}:(if c then a else b).bind f=if c then a.bind f else b.bind f:=by split<;>rfl
def Ok(r:RV α)(Q: α ->PH->Prop):= ∃ a h,r= .ok a h/\Q a h
abbrev CF:=String->List PV->PH->RV PV
abbrev ME:=CF->a9->PH->RV PV
abbrev MT:=CF->a9->PH->RV Bool
abbrev MA:=CF->a9->PH->RV (List PV)
inductive Fl where
 | nx (e:a9) | rt (v:PV) | bk (e:a9) | ct (e:a9)
abbrev MS:=CF->a9->PH->RV Fl
abbrev MG:=PV->a9->PH->RV a9
structure jO where
 gd:Option Nat
 items:List PV
abbrev MI:=CF->a9->PH->RV jO
structure Df where
 ps:List Str
 nl:Nat
 body:MS
structure Tb where
 fns:String->Option Df
 con:Str->Option PV
 sZ:Str->Option (List (Key × PV))
def cw(n:Nat):PH->PH->Bool
 | [],_=>true
 | _::_,[]=>false
 | o::h,o'::h'=>(decide (o=o')||(o'.jd n&&o.gj == o'.gj))&&cw n h h'
def settle(h:PH)(v:PV)(h':PH):RV PV:=if (v.flat&&cw h.length h h')=true then .ok v (h'.take h.length) else .ok v h'
theorem jv n: ∀ h g,cw n h (h++g)=true
 | [],g=>rfl
 | o::h,g=>by rw[Va,cw,jv n h g];simp
theorem mR(hu:o'.jd n=true): ∀ h h' i o,cw n h h'=true->h[i]?=fv o->o.gj=o'.gj->cw n h (h'.set i o')=true
 | [],h',i,o,_,e,_=>by simp at e
 | a::h,[],i,o,q,_,_=>by simp[cw] at q
 | a::h,b::h',0,o,q,e,m=>by
  rw[cw,Td] at q;simp at e;subst e;rw[Vb,cw,q.2,hu,m];simp
 | a::h,b::h',i+1,o,q,e,m=>by
  rw[cw,Td] at q;rw[Vc,cw,mR hu h h' i o q.2 (by simpa using e) m,q.1];rfl
theorem m8: ∀{h h'},cw n h h'=true->h.length<=h'.length
 | [],h',_=>U2 _
 | o::h,[],e=>by simp[cw] at e
 | o::h,o'::h',e=>by
  rw[cw,Td] at e;exact Nat.succ_le_succ (m8 e.2)
theorem pV: ∀{h h'}{i:Nat}{o'},cw n h h'=true->(h'.take h.length)[i]?=fv o'-> ∃ o,h[i]?=fv o/\o.gj=o'.gj/\(o=o'\/o'.jd n=true)
 | [],h',i,o',_,e=>by simp at e
 | a::h,[],i,o',q,_=>by simp[cw] at q
 | a::h,b::h',0,o',q,e=>by
  rw[cw,Td,WT,Td] at q;simp at e;subst e;refine⟨a,rfl,?_,?_⟩
  . rcases q.1 with z | z
    . rw[of_decide_eq_true z]
    . simpa using z.2
  . rcases q.1 with z | z
    . exact .inl (of_decide_eq_true z)
    . exact .inr z.1
 | a::h,b::h',i+1,o',q,e=>by
  rw[cw,Td] at q;simpa using pV q.2 (by simpa using e)
def run(pg:Tb):Nat->CF
 | 0,_,_,_=> .no
 | k+1,f,vs,h=>match pg.fns f with
  | none=> .no
  | some d=>if vs.length=d.ps.length then
    (match d.body (run pg k) (vs.map fv++S4 d.nl SU) h with
    | .ok (.rt v) h'=>settle h v h'
    | .ok (.nx _) h'=>settle h .non h'
    | .ok _ _=> .no
    | .ex c us h'=> .ex c us h'
    | .no=> .no)
   else .no
def eL(K:SV)(ρ :List Tp) H v h' (Q:VK):= ∀ v' ρ' H',Gr ρ H ρ' H'->dt K ρ' h' H'->rel K ρ' H' v v'->Q v' H'
def k8(K:SV)(ρ :List Tp) H h' (Q:Hp->Prop):= ∀ ρ' H',Gr ρ H ρ' H'->dt K ρ' h' H'->Q H'
def Np(K:SV)(ρ :List Tp) H (vs:List PV) h' (Q:List V->Hp->Prop):= ∀ us ρ' H',Gr ρ H ρ' H'->dt K ρ' h' H'->aB K ρ' H' vs us->Q us H'
structure fg (K:SV) (ρ :List Tp) (H:Hp) (e:a9) (σ :L2.St):Prop where
 len:e.length= σ.length
 get: ∀(i:Nat)(v:PV),e[i]?=fv (fv v)-> ∃ v', σ[i]?=fv (fv v')∧rel K ρ H v v'
def gC(K:SV)(ρ :List Tp) H e' h' (Q:L2.St->Hp->Prop):= ∀ σ' ρ' H',Gr ρ H ρ' H'->dt K ρ' h' H'->fg K ρ' H' e' σ'->Q σ' H'
def wL(K:SV)(ρ :List Tp)(H:Hp)(D:Ends)(h':PH):Fl->Prop
 | .nx e=>gC K ρ H e h' D.nx
 | .bk e=>gC K ρ H e h' D.bk
 | .ct e=>gC K ρ H e h' D.ct
 | .rt v=>eL K ρ H v h' D.rt
section
variable{K:SV}{ρ ρ1:List Tp}{H H1:Hp}{h':PH}
theorem fg.gr(r:fg K ρ H e σ)(g:Gr ρ H ρ1 H1):fg K ρ1 H1 e σ :=⟨r.len,λi v q=>by obtain⟨v',a,b⟩:=r.get i v q;exact⟨v',a,rel.gr g _ _ b⟩⟩
theorem fg.set(r:fg K ρ H e σ) i (h:rel K ρ H v v'):fg K ρ H (e.set i (fv v)) (σ.set i (fv v')):=by
 refine⟨by simp[r.len],λj x q=>?_⟩;by_cases z:j=i
 . subst z;have hj:j < e.length:=by
    have:=(Tg.mp q).1;simpa using this
   rw[UO hj] at q;cases q;exact⟨v',UO (by rw[<- r.len];exact hj),h⟩
 . rw[UH (V1 z)] at q ⊢;exact r.get j x q
theorem fg.more(r:fg K ρ H e σ) k:fg K ρ H (e++S4 k SU) (σ ++S4 k SU):=by
 refine⟨by simp[r.len],λj x q=>?_⟩;rcases ZK j e.length with z | z
 . rw[TV z] at q;rw[TV (by rw[<- r.len];exact z)];exact r.get j x q
 . rw[TU z,VF] at q;split at q<;>nomatch q
theorem eL.gr(p:eL K ρ H v h' Q)(g:Gr ρ H ρ1 H1):eL K ρ1 H1 v h' Q:=λv' ρ' H' g'=>p v' ρ' H' (g.trans g')
theorem k8.gr(p:k8 K ρ H h' Q)(g:Gr ρ H ρ1 H1):k8 K ρ1 H1 h' Q:=fun ρ' H' g'=>p ρ' H' (g.trans g')
theorem gC.gr(p:gC K ρ H e h' Q)(g:Gr ρ H ρ1 H1):gC K ρ1 H1 e h' Q:=λv' ρ' H' g'=>p v' ρ' H' (g.trans g')
theorem wL.gr(p:wL K ρ H D h' f)(g:Gr ρ H ρ1 H1):wL K ρ1 H1 D h' f:=by
 cases f with
 | nx e=>exact gC.gr p g
 | bk e=>exact gC.gr p g
 | ct e=>exact gC.gr p g
 | rt e=>exact eL.gr p g
end
def SE c (K:SV) (t:TE) (m:ME):= ∀ ρ h H e σ Q v h',dt K ρ h H->fg K ρ H e σ ->m c e h= .ok v h'->eL K ρ H v h' Q->t σ H Q
def ST c (K:SV) (t:TT) (m:MT):= ∀ ρ h H e σ Q b h',dt K ρ h H->fg K ρ H e σ ->m c e h= .ok b h'->k8 K ρ H h' (Q b)->t σ H Q
def SA c (K:SV) (t:TA) (m:MA):= ∀ ρ h H e σ Q vs h',dt K ρ h H->fg K ρ H e σ ->m c e h= .ok vs h'->Np K ρ H vs h' Q->t σ H Q
def SS c (K:SV) (t:TS) (m:MS):= ∀ ρ h H e σ D f h',dt K ρ h H->fg K ρ H e σ ->m c e h= .ok f h'->wL K ρ H D h' f->t D σ H
def SG(K:SV)(t:TG)(m:MG):= ∀ ρ h H e σ Q v v' e' h',dt K ρ h H->fg K ρ H e σ ->rel K ρ H v v'->m v e h= .ok e' h'->gC K ρ H e' h' Q->t v' σ H Q
noncomputable def jO.eU(it:jO)(h:PH):Bool:=match it.gd with
 | none=>true
 | some n=>decide (h[n]?=fv (.lst it.items)\/h[n]?=fv (.kq it.items))
def Sg(K:SV)(ρ0:List Tp) H0 (J:It) (it:jO):= ∀ i ρ h H,Gr ρ0 H0 ρ H->dt K ρ h H->it.eU h=true ->
 (∀ x,it.items[i]?=fv x->J.go i H∧ ∀ v H',J.Ln i H v H'-> ∃ ρ',Gr ρ H ρ' H'∧dt K ρ' h H'∧rel K ρ' H' x v)∧(i=it.items.length->J.stop i H)
def SI c (K:SV) (t:TI) (m:MI):= ∀ ρ h H e σ R it h',dt K ρ h H->fg K ρ H e σ ->m c e h= .ok it h'->(∀ ρ' H' J,Gr ρ H ρ' H'->dt K ρ' h' H'->Sg K ρ' H' J it->R J H')->t σ H R
def uG(K:SV)(pg:Tb)(k:Nat)(f:String):Sp:=λvs H Q _=> ∃ ρ h args v h',dt K ρ h H∧aB K ρ H args vs∧run pg k f args h= .ok v h'∧eL K ρ H v h' Q
noncomputable def gx:List Str:=["len", "range", "isinstance", "int", "bool", "tuple", "dict", "sorted", "min", "max", "abs", "all", "any", "sum", "str", "list", "zip", "set", "repr", "enumerate"]
def xB(K:SV)(v:V):= ∀ a,v= .ref a-> ∃ o,K.lookup a=fv o∧o.cls= .type "tuple" ∧o.dict=SU
structure cW (X:Cx) (pg:Tb) (k:Nat):Prop where
 room:dO k X.A
 calm:X.calm=true
 oG: ∀ v s,¬ X.xe v s
 defs: ∀ f d,pg.fns f=fv d->lG X.prog X.w X.K X.mg X.base (S3 f) k d.ps (uG X.K pg k f)
 blt: ∀ x∈gx,X.mg x=SU
 con: ∀ x v,pg.con x=fv v-> ∃ u v',X.mg x=fv u/\RelV v' u/\xB X.K v'/\ ∀ ρ H,rel X.K ρ H v v'
 sZ: ∀ x kvs,pg.sZ x=fv kvs-> ∃ a kws,X.mg x=fv (.ref a)/\KD X.prog X.w X.K a kws/\ ∀ ρ H,Vv (λ(p:Key × PV) (q:Key × V)=>p.1=q.1/\rel X.K ρ H p.2 q.2) kvs kws
theorem cW.fG(a:cW X pg k) vars scope cl C s₀ H₀ ex pn:cW (fG X vars scope cl C s₀ H₀ ex pn) pg k :=
 ⟨a.room,a.calm,a.oG,a.defs,a.blt,a.con,a.sZ⟩
structure JE(X:Cx)(pg:Tb)(k:Nat)(e:Uh)(m:ME):Prop where h:cW X pg k-> ∃ t,QE X e t/\SE (run pg k) X.K t m
structure JT(X:Cx)(pg:Tb)(k:Nat)(e:Uh)(m:MT):Prop where h:cW X pg k-> ∃ t,QT X e t/\ST (run pg k) X.K t m
structure JW(X:Cx)(pg:Tb)(k:Nat)(e:Uh)(m:MT):Prop where h:cW X pg k-> ∃ t,QW X e t/\ST (run pg k) X.K t m
structure JA(X:Cx)(pg:Tb)(k:Nat)(e:List Uh)(m:MA):Prop where h:cW X pg k-> ∃ t,QA X e t/\SA (run pg k) X.K t m
structure JS(X:Cx)(pg:Tb)(k:Nat)(s:XW)(m:MS):Prop where h:cW X pg k-> ∃ t,QS X s t/\SS (run pg k) X.K t m
structure xq(X:Cx)(pg:Tb)(k:Nat)(s:List XW)(m:MS):Prop where h:cW X pg k-> ∃ t,B0 X s t/\SS (run pg k) X.K t m
structure JG(X:Cx)(pg:Tb)(k:Nat)(e:Uh)(m:MG):Prop where h:cW X pg k-> ∃ t,QG X e t/\SG X.K t m
structure JI(X:Cx)(pg:Tb)(k:Nat)(tg e:Uh)(m:MI):Prop where h:cW X pg k-> ∃ t,QI X tg e t/\SI (run pg k) X.K t m
structure JF(X:Cx)(pg:Tb)(k:Nat)(es:List Uh)(m:MT):Prop where h:cW X pg k-> ∃ t,QF X es t/\ST (run pg k) X.K t m
def jo(K:SV)(r:R2)(f:PV->PV->PH->RV PV):= ∀ ρ h H x y x' y' Q v h',dt K ρ h H->rel K ρ H x x'->rel K ρ H y y'->f x y h= .ok v h'->eL K ρ H v h' Q->r x' y' H Q
def E8(K:SV)(r:List V->Hp->VK->Prop)(f:List PV->PH->RV PV):= ∀ ρ h H xs us Q v h',dt K ρ h H->aB K ρ H xs us->f xs h= .ok v h'->eL K ρ H v h' Q->r us H Q
def Lj(K:SV)(T:String)(r:V->List V->Hp->VK->Prop)(f:PV->List PV->PH->RV PV)(ty:PV->PH->Bool) :=
 (∀ ρ h H x x',dt K ρ h H->rel K ρ H x x'->ty x h=true->Lo K T x' H) /\
 ∀ ρ h H x x' xs us Q v h',dt K ρ h H->rel K ρ H x x'->aB K ρ H xs us->f x xs h= .ok v h'->eL K ρ H v h' Q->r x' us H Q
noncomputable def ae(i:Nat):ME:=λ_ e h=>match e[i]? with
 | some (fv v)=> .ok v h
 | _=> .no
noncomputable def eC(v:PV):ME:=λ_ _ h=> .ok v h
def ai(f:PV->PV->PH->RV PV)(a b:ME):ME:=λc e h=>(a c e h).bind λx h1=>(b c e h1).bind λy h2=>f x y h2
def rq(f:PV->PH->RV PV)(a:ME):ME:=λc e h=>(a c e h).bind f
noncomputable def rp(v:PV)(h:PH):RV Bool:=match v with
 | .bl b=> .ok b h
 | _=> .no
def dQ(a b:ME):ME:=λc e h=>((a c e h).bind rp).bind λx h1=>if x=true then b c e h1 else .ok (.bl false) h1
def O4(a b:ME):ME:=λc e h=>((a c e h).bind rp).bind λx h1=>if x=true then .ok (.bl true) h1 else b c e h1
def Bb(a:ME):ME:=λc e h=>((a c e h).bind rp).bind λx h1=> .ok (.bl (!x)) h1
def BW(t:MT)(a b:ME):ME:=λc e h=>(t c e h).bind λx h1=>if x=true then a c e h1 else b c e h1
def ao(a:ME):MT:=λc e h=>(a c e h).bind rp
def eJ(a b:MT):MT:=λc e h=>(a c e h).bind λx h1=>if x=true then b c e h1 else .ok false h1
def fL(a b:MT):MT:=λc e h=>(a c e h).bind λx h1=>if x=true then .ok true h1 else b c e h1
def bK(a:MT):MT:=λc e h=>(a c e h).bind λx h1=> .ok (!x) h1
noncomputable def ax:MT:=λ_ _ h=> .ok true h
noncomputable def ag:MA:=λ_ _ h=> .ok [] h
def aa(a:ME)(r:MA):MA:=λc e h=>(a c e h).bind λx h1=>(r c e h1).bind λxs h2=> .ok (x::xs) h2
noncomputable def fC n (r:RV α):=if n<=Ta then r else .no
def au(r:MA):ME:=λc e h=>(r c e h).bind λxs h1=>fC xs.length (.ok (.tup xs) h1)
def aC(r:MA):ME:=λc e h=>(r c e h).bind λxs h1=>fC xs.length (.ok (.ref h1.length) (h1++[.lst xs]))
def af(f:String)(r:MA):ME:=λc e h=>(r c e h).bind λxs h1=>c f xs h1
def eB(f:List PV->PH->RV PV)(r:MA):ME:=λc e h=>(r c e h).bind f
def eM(f:PV->List PV->PH->RV PV)(ty:PV->PH->Bool)(a:ME)(r:MA):ME:=λc e h=>(a c e h).bind λx h1=>if ty x h1=true then(r c e h1).bind λxs h2=>f x xs h2 else .no
def gm(f g:PV->PV->PH->RV PV)(a b d:ME):ME:=λc e h=>(a c e h).bind λx h1=>(b c e h1).bind λy h2=>((f x y h2).bind rp).bind λk h3=>if k=true then(d c e h3).bind λz h4=>g y z h4 else .ok (.bl false) h3
theorem iB:fC n r= .ok a h↔n<=Ta/\r= .ok a h:=by
 unfold fC;split
 . exact⟨λe=>⟨by assumption,e⟩,λe=>e.2⟩
 . exact⟨λe=>(by cases e),λe=>absurd e.1 (by assumption)⟩
theorem oD:rp v h= .ok b h'↔v= .bl b/\h'=h:=by
 cases v<;>simp[rp,eq_comm]
section
variable{X:Cx}{pg:Tb}{k:Nat}{a b c d e:Uh}{es:List Uh}{ma mb mc md:ME}{mr:MA}{mt mt':MT}{pos p pos' apos cpos:Pos}{x:Str}
theorem Ji i (hN:X.N[i]?=fv x:=by rfl) (hv:Ko X.env.scope x:=by first | exact YG rfl | exact Xe (YG rfl) | exact Xe (Xe rfl)) (hd:(x == ("__debug__"))=false:=by decide)
  (hcd:(x == ("__classdict__"))=false:=by decide):JE X pg k (.Name x pos) (ae i):=⟨λA=>⟨_,qv i hN hv hd hcd,fun ρ h H e σ Q v h' s r q P=>by
 unfold ae at q;split at q
 . cases q;obtain⟨v',e1,e2⟩:=r.get i v (by assumption);exact⟨v',e1,P v' ρ H (.refl _ _) s e2⟩
 . cases q⟩⟩
theorem ya{K}(hr: ∀ ρ H,rel K ρ H v v'):SE cf K (tC v') (eC v):=fun ρ h H e σ Q w h' s r q P=>by cases q;exact P v' ρ H (.refl _ _) s (hr ρ H)
theorem HB:JE X pg k (.Constant (.int n) j pos) (eC (.int n)):=⟨λA=>⟨_,Jo,ya fun ρ H=>by rw[rel]⟩⟩
theorem MY:JE X pg k (.Constant (.bool n) j pos) (eC (.bl n)):=⟨λA=>⟨_,N4,ya fun ρ H=>by rw[rel]⟩⟩
theorem KA:JE X pg k (.Constant .none j pos) (eC .non):=⟨λA=>⟨_,Io,ya fun ρ H=>by rw[rel]⟩⟩
theorem Ka:JE X pg k (.Constant (.str n) j pos) (eC (.str n)):=⟨λA=>⟨_,K8,ya fun ρ H=>by rw[rel]⟩⟩
theorem J8(hc:pg.con x=fv v)(hg:Gl X x)(hd:(x == ("__debug__"))=false:=by decide):JE X pg k (.Name x pos) (eC v):=⟨λA=>by obtain⟨u,v',e1,e2,_,e3⟩:=A.con x v hc;exact⟨_,wA hg e1 e2 hd,ya e3⟩⟩
theorem sQ(hg:Gl X x)(hb:x∈gx)(hv:UN x=fv (.type T))(hn:x≠ "__name__" :=by decide)(hd:(x == ("__debug__"))=false:=by decide):JE X pg k (.Name x pos) (eC (.ty T)) :=
 ⟨λA=>⟨_,Dh (v:= .ty T) hg (A.blt x hb) hv rfl hn hd,ya fun ρ H=>by rw[rel]⟩⟩
theorem vE{K}(ho:jo K r f)(ha:SE cf K ta ma)(hb:SE cf K tb mb):SE cf K (DC r ta tb) (ai f ma mb):=fun ρ h H e σ Q v h' s r q P=>by
 obtain⟨x,h1,e1,q⟩:=bind_eq.mp q;obtain⟨y,h2,e2,q⟩:=bind_eq.mp q;refine ha ρ h H e σ _ x h1 s r e1 λx' ρ1 H1 g1 s1 r1=>?_;refine hb ρ1 h1 H1 e σ _ y h2 s1 (r.gr g1) e2 λy' ρ2 H2 g2 s2 r2=>?_;exact ho ρ2 h2 H2 x y x' y' Q v h' s2 (rel.gr g2 _ _ r1) r2 q (P.gr (g1.trans g2))
theorem Ma(ho:cW X pg k-> ∃ r,cG X (UP op) r/\jo X.K r f)(ha:JE X pg k a ma)(hb:JE X pg k b mb):JE X pg k (.BinOp a op b pos) (ai f ma mb):=⟨λA =>
 let ⟨_,q1,s1⟩:=ha.h A;let ⟨_,q2,s2⟩:=hb.h A;by obtain⟨_,q,s⟩:=ho A;exact⟨_,N2 q q1 q2,vE s s1 s2⟩⟩
theorem yW(ho:cW X pg k-> ∃ r,cG X (Tw op) r/\jo X.K r f)(ha:JE X pg k a ma)(hb:JE X pg k b mb)(hm:Ur op b=false):JE X pg k (.Compare a [op] [b] pos) (ai f ma mb):=⟨λA =>
 let ⟨_,q1,s1⟩:=ha.h A;let ⟨_,q2,s2⟩:=hb.h A;by obtain⟨_,q,s⟩:=ho A;exact⟨_,CD q q1 q2 hm,vE s s1 s2⟩⟩
theorem kN{K}(ha:SE cf K ta ma):ST cf K (tQ ta) (ao ma):=fun ρ h H e σ Q v h' s r q P=>by
 obtain⟨x,h1,e1,q⟩:=bind_eq.mp q;obtain⟨rfl,rfl⟩:=oD.mp q;refine ha ρ h H e σ _ _ _ s r e1 λx' ρ1 H1 g1 s1 r1=>?_;exact⟨v,r1,P ρ1 H1 g1 s1⟩
theorem yV(ho:cW X pg k-> ∃ r,cG X (Tw op) r/\jo X.K r f)(ha:JE X pg k a ma)(hb:JE X pg k b mb)(hm:Ur op b=false):JT X pg k (.Compare a [op] [b] pos) (ao (ai f ma mb)):=⟨λA =>
 let ⟨_,q1,s1⟩:=ha.h A;let ⟨_,q2,s2⟩:=hb.h A;by obtain⟨_,q,s⟩:=ho A;exact⟨_,Cz q q1 q2 hm,kN (vE s s1 s2)⟩⟩
theorem Jy(ha:JE X pg k e ma)(he: ∀ whole,ZO e X.env whole=(do let v <- whole;aag e.pos;WW [v] (truthy v)):=by intro _;rfl):JT X pg k e (ao ma):=⟨λA =>
 by obtain⟨_,q1,s1⟩:=ha.h A;exact⟨_,Kd q1 he,kN s1⟩⟩
theorem NK{op:UnaryOp}{f:PV->PH->RV PV}(ho:cW X pg k-> ∃ r,Lq X (aah op) r/\ ∀ ρ h H x x' Q v h',dt X.K ρ h H->rel X.K ρ H x x'->f x h= .ok v h'->eL X.K ρ H v h' Q->r x' H Q)(ha:JE X pg k a ma):JE X pg k (.UnaryOp op a pos) (rq f ma):=⟨λA =>
 let ⟨_,q1,s1⟩:=ha.h A;let ⟨_,q,s⟩:=ho A;⟨_,N0 q q1,fun ρ h H e σ Q v h' z r q P=>by
  obtain⟨x,h1,e1,q⟩:=bind_eq.mp q;exact s1 ρ h H e σ _ x h1 z r e1 λx' ρ1 H1 g1 z1 r1=>s ρ1 h1 H1 x x' Q v h' z1 r1 q (P.gr g1)⟩⟩
theorem Ht(ha:JE X pg k a ma):JE X pg k (.UnaryOp .Not a pos) (Bb ma):=⟨λA =>
 by obtain⟨_,q1,s1⟩:=ha.h A;exact⟨_,KR q1,fun ρ h H e σ Q v h' s r q P=>by
  obtain⟨x,h2,q2,q⟩:=bind_eq.mp q;obtain⟨y,h1,e1,q2⟩:=bind_eq.mp q2;obtain⟨rfl,rfl⟩:=oD.mp q2;cases q;refine s1 ρ h H e σ _ _ _ s r e1 λx' ρ1 H1 g1 z1 r1=>?_;exact⟨x,r1,P _ ρ1 H1 g1 z1 (by rw[rel])⟩⟩⟩
theorem GX(h:JE X pg k a ma):JE X pg k (.BoolOp op [a] pos) ma:=⟨λA=>by obtain⟨_,q1,s1⟩:=h.h A;exact⟨_,ID q1,s1⟩⟩
theorem Ju{rest}(ha:JE X pg k a ma)(hb:JE X pg k (.BoolOp .And (b::rest) pos) mb):JE X pg k (.BoolOp .And (a::b::rest) pos) (dQ ma mb):=⟨λA =>
 by obtain⟨_,q1,s1⟩:=ha.h A;exact by obtain⟨_,q2,s2⟩:=hb.h A;exact⟨_,IF q1 q2,fun ρ h H e σ Q v h' s r q P=>by
  obtain⟨x,h2,q2,q⟩:=bind_eq.mp q;obtain⟨y,h1,e1,q2⟩:=bind_eq.mp q2;obtain⟨rfl,rfl⟩:=oD.mp q2;refine s1 ρ h H e σ _ _ _ s r e1 λx' ρ1 H1 g1 z1 r1=>?_;refine⟨x,r1,?_⟩;cases x with
  | true=>exact s2 ρ1 _ H1 e σ _ _ _ z1 (r.gr g1) q (P.gr g1)
  | false=>cases q;exact P _ ρ1 H1 g1 z1 (by rw[rel])⟩⟩
theorem LO{rest}(ha:JE X pg k a ma)(hb:JE X pg k (.BoolOp .Or (b::rest) pos) mb):JE X pg k (.BoolOp .Or (a::b::rest) pos) (O4 ma mb):=⟨λA =>
 by obtain⟨_,q1,s1⟩:=ha.h A;exact by obtain⟨_,q2,s2⟩:=hb.h A;exact⟨_,Ob q1 q2,fun ρ h H e σ Q v h' s r q P=>by
  obtain⟨x,h2,q2,q⟩:=bind_eq.mp q;obtain⟨y,h1,e1,q2⟩:=bind_eq.mp q2;obtain⟨rfl,rfl⟩:=oD.mp q2;refine s1 ρ h H e σ _ _ _ s r e1 λx' ρ1 H1 g1 z1 r1=>?_;refine⟨x,r1,?_⟩;cases x with
  | false=>exact s2 ρ1 _ H1 e σ _ _ _ z1 (r.gr g1) q (P.gr g1)
  | true=>cases q;exact P _ ρ1 H1 g1 z1 (by rw[rel])⟩⟩
theorem Aq(hc:JT X pg k c mt)(ha:JE X pg k a ma)(hb:JE X pg k b mb):JE X pg k (.IfExp c a b pos) (BW mt ma mb):=⟨λA =>
 by obtain⟨_,q0,s0⟩:=hc.h A;exact let ⟨_,q1,s1⟩:=ha.h A;let ⟨_,q2,s2⟩:=hb.h A;⟨_,Aj q0 q1 q2,fun ρ h H e σ Q v h' s r q P=>by
  obtain⟨x,h1,e1,q⟩:=bind_eq.mp q;refine s0 ρ h H e σ _ _ _ s r e1 fun ρ1 H1 g1 z1=>?_;cases x with
  | true=>exact s1 ρ1 _ H1 e σ _ _ _ z1 (r.gr g1) q (P.gr g1)
  | false=>exact s2 ρ1 _ H1 e σ _ _ _ z1 (r.gr g1) q (P.gr g1)⟩⟩
theorem Dx(ha:JT X pg k a mt):JW X pg k (.BoolOp .And [a] pos) mt:=⟨λA=>by obtain⟨_,q1,s1⟩:=ha.h A;exact⟨_,CS q1,s1⟩⟩
theorem Gj(ha:JT X pg k a mt):JW X pg k (.BoolOp .Or [a] pos) mt:=⟨λA=>by obtain⟨_,q1,s1⟩:=ha.h A;exact⟨_,K4 q1,s1⟩⟩
theorem AU{rest}(ha:JT X pg k a mt)(hb:JW X pg k (.BoolOp .And (b::rest) pos) mt'):JW X pg k (.BoolOp .And (a::b::rest) pos) (eJ mt mt'):=⟨λA =>
 by obtain⟨_,q1,s1⟩:=ha.h A;exact by obtain⟨_,q2,s2⟩:=hb.h A;exact⟨_,JZ q1 q2,fun ρ h H e σ Q v h' s r q P=>by
  obtain⟨x,h1,e1,q⟩:=bind_eq.mp q;refine s1 ρ h H e σ _ _ _ s r e1 fun ρ1 H1 g1 z1=>?_;cases x with
  | true=>exact s2 ρ1 _ H1 e σ _ _ _ z1 (r.gr g1) q (P.gr g1)
  | false=>cases q;exact P ρ1 H1 g1 z1⟩⟩
theorem FN{rest}(ha:JT X pg k a mt)(hb:JW X pg k (.BoolOp .Or (b::rest) pos) mt'):JW X pg k (.BoolOp .Or (a::b::rest) pos) (fL mt mt'):=⟨λA =>
 by obtain⟨_,q1,s1⟩:=ha.h A;exact by obtain⟨_,q2,s2⟩:=hb.h A;exact⟨_,Nu q1 q2,fun ρ h H e σ Q v h' s r q P=>by
  obtain⟨x,h1,e1,q⟩:=bind_eq.mp q;refine s1 ρ h H e σ _ _ _ s r e1 fun ρ1 H1 g1 z1=>?_;cases x with
  | false=>exact s2 ρ1 _ H1 e σ _ _ _ z1 (r.gr g1) q (P.gr g1)
  | true=>cases q;exact P ρ1 H1 g1 z1⟩⟩
theorem JW.pt(h:JW X pg k e mt):JT X pg k e mt:=⟨λA=>by obtain⟨_,q1,s1⟩:=h.h A;exact⟨_,q1.pt,s1⟩⟩
theorem Kh(ha:JT X pg k a mt):JT X pg k (.UnaryOp .Not a pos) (bK mt):=⟨λA=>by obtain⟨_,q1,s1⟩:=ha.h A;exact⟨_,Kg q1,fun ρ h H e σ Q v h' s r q P=>by
  obtain⟨x,h1,e1,q⟩:=bind_eq.mp q;cases q;exact s1 ρ h H e σ _ _ _ s r e1 fun ρ1 H1 g1 z1=>P ρ1 H1 g1 z1⟩⟩
theorem IB:JF X pg k [] ax:=⟨λA=>⟨_,Gb,fun ρ h H e σ Q v h' s r q P=>by cases q;exact P ρ H (.refl _ _) s⟩⟩
theorem Km(h:JT X pg k c mt):JF X pg k [c] mt:=⟨λA=>by obtain⟨_,q1,s1⟩:=h.h A;exact⟨_,Je q1,s1⟩⟩
theorem JR:JA X pg k [] ag:=⟨λA=>⟨_,yO,fun ρ h H e σ Q v h' s r q P=>by cases q;exact P [] ρ H (.refl _ _) s (cJ.mpr rfl)⟩⟩
theorem Fb(ha:JE X pg k e ma)(hr:JA X pg k es mr)(hs:noStar e=true:=by rfl):JA X pg k (e::es) (aa ma mr):=⟨λA =>
 by obtain⟨_,q1,s1⟩:=ha.h A;exact by obtain⟨_,q2,s2⟩:=hr.h A;exact⟨_,qk q1 q2 hs,fun ρ h H e σ Q v h' s r q P=>by
  obtain⟨x,h1,e1,q⟩:=bind_eq.mp q;obtain⟨xs,h2,e2,q⟩:=bind_eq.mp q;cases q;refine s1 ρ h H e σ _ _ _ s r e1 λx' ρ1 H1 g1 z1 r1=>?_;refine s2 ρ1 h1 H1 e σ _ _ _ z1 (r.gr g1) e2 λus ρ2 H2 g2 z2 r2=>?_;exact P _ ρ2 H2 (g1.trans g2) z2 (aN.mpr ⟨x',us,rfl,rel.gr g2 _ _ r1,r2⟩)⟩⟩
theorem GU(h:JA X pg k es mr):JE X pg k (.Tuple es x1 pos) (au mr):=⟨λA =>
 by obtain⟨_,q1,s1⟩:=h.h A;exact⟨_,J3 q1,fun ρ h H e σ Q v h' s r q P=>by
  obtain⟨xs,h1,e1,q⟩:=bind_eq.mp q;obtain⟨hl,q⟩:=iB.mp q;cases q;refine s1 ρ h H e σ _ _ _ s r e1 λus ρ1 H1 g1 z1 r1=>⟨by rw[<- r1.len];exact hl,λp hp=>?_⟩
  refine P _ ρ1 _ (g1.trans (Gr.wU hp)) (z1.tup hp) ?_;exact⟨p,us,rfl,bH,aB.gr (Gr.wU hp) _ _ r1⟩⟩⟩
theorem g7{K}(s:dt K ρ h H)(r:aB K ρ H xs us)(P:eL K ρ H (.ref h.length) (h++[.lst xs]) Q) p (hp:H p=SU):Q (.ref p) (upd H p (.lst us)):=by
 refine P _ (ρ ++[p]) _ (Gr.new hp [p]) (s.new hp ⟨us,bH,aB.gr (Gr.new hp [p]) _ _ r⟩) ?_;exact⟨p,by rw[<- s.len,TU (Te _)];simp,rfl⟩
theorem JV(h:JA X pg k es mr):JE X pg k (.List es pos) (aC mr):=⟨λA =>
 by obtain⟨_,q1,s1⟩:=h.h A;exact⟨_,Jv q1,fun ρ h H e σ Q v h' s r q P=>by
  obtain⟨xs,h1,e1,q⟩:=bind_eq.mp q;obtain⟨hl,q⟩:=iB.mp q;cases q;exact s1 ρ h H e σ _ _ _ s r e1 λus ρ1 H1 g1 z1 r1=>⟨by rw[<- r1.len];exact hl,λp hp=>g7 z1 r1 (P.gr g1) p hp⟩⟩⟩
theorem E3{d}(hf:pg.fns f=fv d)(hg:Gl X (S3 f))(ha:JA X pg k (e::es) mr)(hdb:(S3 f == ("__debug__"))=false:=by decide)(he:noStar e=true:=by rfl)(hpl:es.all noStar=true:=by rfl) :
  JE X pg k (.Call (.Name (S3 f) p) (e::es) [] pos) (af f mr):=⟨λA =>
 by obtain⟨_,q1,s1⟩:=ha.h A;exact⟨_,qd (A.defs f d hf) A.room hg (Te _) q1 hdb he hpl,fun ρ h H e σ Q v h' s r q P=>by
  obtain⟨xs,h1,e1,q⟩:=bind_eq.mp q;refine s1 ρ h H e σ _ _ _ s r e1 λus ρ1 H1 g1 z1 r1=>?_;rw[Tv];exact⟨ρ1,h1,xs,v,h',z1,r1,q,P.gr g1⟩⟩⟩
theorem NN{K}(ho:E8 K r f)(ha:SA cf K ta mr):SE cf K (Ik r ta) (eB f mr):=fun ρ h H e σ Q v h' s r q P=>by
 obtain⟨xs,h1,e1,q⟩:=bind_eq.mp q;exact ha ρ h H e σ _ _ _ s r e1 λus ρ1 H1 g1 z1 r1=>ho ρ1 h1 H1 xs us Q v h' z1 r1 q (P.gr g1)
theorem Ea{id}(hc:cW X pg k-> ∃ r,bO X (.builtin id) r/\E8 X.K r f)(hg:Gl X x)(hb:x∈gx)(hv:UN x=fv (.builtin id))(ha:JA X pg k (e::es) mr)
  (hn:x≠ "__name__" :=by decide) (hdb:(x == ("__debug__"))=false:=by decide) (he:noStar e=true:=by rfl) (hpl:es.all noStar=true:=by rfl):JE X pg k (.Call (.Name x p) (e::es) [] pos) (eB f mr):=⟨λA =>
 by obtain⟨_,q1,s1⟩:=ha.h A;exact by obtain⟨_,q,s⟩:=hc A;exact⟨_,qB q hg (A.blt x hb) hv q1 hn hdb he hpl,NN s s1⟩⟩
theorem OI(hc:cW X pg k-> ∃ r,bO X (.type T) r/\E8 X.K r f)(hg:Gl X x)(hb:x∈gx)(hv:UN x=fv (.type T))(ha:JA X pg k (e::es) mr)
  (hn:x≠ "__name__" :=by decide) (hdb:(x == ("__debug__"))=false:=by decide) (he:noStar e=true:=by rfl) (hpl:es.all noStar=true:=by rfl):JE X pg k (.Call (.Name x p) (e::es) [] pos) (eB f mr):=⟨λA =>
 by obtain⟨_,q1,s1⟩:=ha.h A;exact by obtain⟨_,q,s⟩:=hc A;exact⟨_,qT q hg (A.blt x hb) hv q1 hn hdb he hpl,NN s s1⟩⟩
theorem AE{id}(pa:PlainAttrs T)(slot:Slot T name id)(hty:typeOf (.builtin id)=pure (.type "method_descriptor"))(hm:cW X pg k-> ∃ r,zG X id r/\Lj X.K T r f ty)
  (ho:JE X pg k d md) (ha:JA X pg k [e] mr) (hbase:Wg d name X.env (Vl d X.env)=Vl d X.env:=by rfl) (hline:(apos.endLine == cpos.line)=true:=by rfl) (hs:noStar e=true:=by rfl) :
  JE X pg k (.Call (.Attribute d name apos) [e] [] cpos) (eM f ty md mr):=⟨λA =>
 by obtain⟨_,q0,s0⟩:=ho.h A;exact by obtain⟨_,q1,s1⟩:=ha.h A;exact by obtain⟨_,q,s⟩:=hm A;exact⟨_,Fw pa slot hty q q0 q1 hbase hline hs,fun ρ h H e σ Q v h' z r q P=>by
  obtain⟨x,h1,e1,q⟩:=bind_eq.mp q;refine s0 ρ h H e σ _ _ _ z r e1 λx' ρ1 H1 g1 z1 r1=>?_;split at q
  . rename_i ht;obtain⟨xs,h2,e2,q⟩:=bind_eq.mp q;refine⟨s.1 ρ1 h1 H1 x x' z1 r1 ht,?_⟩;exact s1 ρ1 h1 H1 e σ _ _ _ z1 (r.gr g1) e2 λus ρ2 H2 g2 z2 r2=>s.2 ρ2 h2 H2 x x' xs us Q v h' z2 (rel.gr g2 _ _ r1) r2 q (P.gr (g1.trans g2))
  . simp_all⟩⟩
theorem rN{K}(ho:jo K r f)(ho':jo K r' g)(ha:SE cf K ta ma)(hb:SE cf K tb mb)(hc:SE cf K tc mc):SE cf K (mU r r' ta tb tc) (gm f g ma mb mc):=fun ρ h H e σ Q v h' s r q P=>by
 obtain⟨x,h1,e1,q⟩:=bind_eq.mp q;obtain⟨y,h2,e2,q⟩:=bind_eq.mp q;obtain⟨z,h3,e3,q⟩:=bind_eq.mp q;obtain⟨z0,h4,e4,e5⟩:=bind_eq.mp e3;obtain⟨rfl,rfl⟩:=oD.mp e5;refine ha ρ h H e σ _ x h1 s r e1 λx' ρ1 H1 g1 s1 r1=>?_;refine hb ρ1 h1 H1 e σ _ y h2 s1 (r.gr g1) e2 λy' ρ2 H2 g2 s2 r2=>?_;refine ho ρ2 h2 H2 x y x' y' _ _ _ s2 (rel.gr g2 _ _ r1) r2 e4 λz' ρ3 H3 g3 s3 r3=>?_;refine⟨z,r3,?_⟩;cases z with
 | true =>
  obtain⟨w,h5,e5,q⟩:=bind_eq.mp q
  refine hc ρ3 _ H3 e σ _ w h5 s3 (r.gr ((g1.trans g2).trans g3)) e5 λw' ρ4 H4 g4 s4 r4=>?_
  exact ho' ρ4 h5 H4 y w y' w' Q v h' s4 (rel.gr (g3.trans g4) _ _ r2) r4 q (P.gr (((g1.trans g2).trans g3).trans g4))
 | false=>cases q;exact P _ ρ3 H3 ((g1.trans g2).trans g3) s3 (by rw[rel])
theorem Bq(ho:cW X pg k-> ∃ r,cG X (Tw op) r/\jo X.K r f)(ho':cW X pg k-> ∃ r,cG X (Tw op') r/\jo X.K r g)(ha:JE X pg k a ma)(hb:JE X pg k b mb)(hc:JE X pg k c mc)
  (hm:XF [op,op'] [b,c]=false:=by with_unfolding_all rfl):JE X pg k (.Compare a [op,op'] [b,c] pos) (gm f g ma mb mc):=⟨λA =>
 let ⟨_,q1,s1⟩:=ha.h A;let ⟨_,q2,s2⟩:=hb.h A;let ⟨_,q3,s3⟩:=hc.h A;let ⟨_,q,s⟩:=ho A;let ⟨_,q',s'⟩:=ho' A;⟨_,AG q q' q1 q2 q3 hm,rN s s' s1 s2 s3⟩⟩
theorem A7{op op':CmpOp}{f g:PV->PV->PH->RV PV}(ho:cW X pg k-> ∃ r,cG X (Tw op) r/\jo X.K r f)(ho':cW X pg k-> ∃ r,cG X (Tw op') r/\jo X.K r g)(ha:JE X pg k a ma)(hb:JE X pg k b mb)(hc:JE X pg k c mc)
  (hm:XF [op,op'] [b,c]=false:=by with_unfolding_all rfl):JT X pg k (.Compare a [op,op'] [b,c] pos) (ao (gm f g ma mb mc)):=⟨λA =>
 let ⟨_,q1,s1⟩:=ha.h A;let ⟨_,q2,s2⟩:=hb.h A;let ⟨_,q3,s3⟩:=hc.h A;let ⟨_,q,s⟩:=ho A;let ⟨_,q',s'⟩:=ho' A;⟨_,zK q q' q1 q2 q3 hm,kN (rN s s' s1 s2 s3)⟩⟩
end
noncomputable def bz:MS:=λ_ e h=> .ok (.nx e) h
def ah(a b:MS):MS:=λc e h=>(a c e h).bind λf h1=>match f with
 | .nx e1=>b c e1 h1
 | f=> .ok f h1
def dn(a:ME):MS:=λc e h=>(a c e h).bind λ_ h1=> .ok (.nx e) h1
def av(a:ME):MS:=λc e h=>(a c e h).bind λv h1=> .ok (.rt v) h1
def bC(t:MT)(a b:MS):MS:=λc e h=>(t c e h).bind λx h1=>if x=true then a c e h1 else b c e h1
def ay(a:ME)(g:MG):MS:=λc e h=>(a c e h).bind λv h1=>(g v e h1).bind λe1 h2=> .ok (.nx e1) h2
noncomputable def gN(i:Nat):MG:=λv e h=> .ok (e.set i (fv v)) h
noncomputable def gT(n:Nat)(g:List PV->a9->PH->RV a9):MG:=λv e h=>match v.seq? with
 | some xs=>if xs.length=n then g xs e h else .no
 | none=> .no
noncomputable def eO:List PV->a9->PH->RV a9:=λvs e h=>match vs with
 | []=> .ok e h
 | _=> .no
def ba(g:MG)(r:List PV->a9->PH->RV a9):List PV->a9->PH->RV a9:=λvs e h=>match vs with
 | []=> .no
 | v::t=>(g v e h).bind λe1 h1=>r t e1 h1
def nW(f:PV->PV->PV->PH->RV Unit)(o i a:ME):MS:=λc e h=>(a c e h).bind λv h1=>(o c e h1).bind λx h2=>(i c e h2).bind λy h3=>(f x y v h3).bind λ_ h4=> .ok (.nx e) h4
def bM(it:jO)(step:PV->a9->PH->RV Fl):List PV->a9->PH->RV Fl
 | [],e,h=>if it.eU h=true then .ok (.nx e) h else .no
 | x::xs,e,h=>if it.eU h=true then(step x e h).bind (λf h1=>match f with
   | .nx e1=>bM it step xs e1 h1
   | .ct e1=>bM it step xs e1 h1
   | .bk e1=> .ok (.nx e1) h1
   | .rt v=> .ok (.rt v) h1) else .no
def cI(i:MI)(g:MG)(b:MS):MS:=λc e h=>(i c e h).bind λit h1=>bM it (λx e h=>(g x e h).bind λe1 h1=>b c e1 h1) it.items e h1
def eW(it:jO)(step:PV->PH->RV (Option PV)):List PV->List PV->PH->RV (List PV)
 | [],ys,h=>if it.eU h=true then .ok ys h else .no
 | x::xs,ys,h=>if it.eU h=true/\ys.length < Ta then(step x h).bind (λo h1=>match o with
   | some y=>eW it step xs (ys++[y]) h1
   | none=>eW it step xs ys h1) else .no
def aY k (g:MG) (t:MT) (a:ME) c (e:a9) x h:=(g x (e++S4 k SU) h).bind λe2 h2=>(t c e2 h2).bind λb h3=>if b=true then(a c e2 h3).bind (λy h4=> .ok (fv y) h4) else .ok SU h3
def dw(k:Nat)(i:MI)(g:MG)(t:MT)(a:ME):ME:=λc e h=>(i c e h).bind λit h1=>(eW it (aY k g t a c e) it.items [] h1).bind λys h2=> .ok (.ref h2.length) (h2++[.lst ys])
section
variable{X:Cx}{pg:Tb}{k:Nat}{a b c d e o i:Uh}{es:List Uh}{ma mb mc md mo mi:ME}{mr:MA}{mt mt':MT}{ms ms' mu:MS}{pos p pos' apos cpos spos:Pos}{x y:Str}{st:XW}{body rest:List XW}{g:MG}{mI:MI}{tg iter:Uh}{gs:List PV->a9->PH->RV a9}
theorem MR{c K}:SS c K AJ bz:=fun ρ h H e σ D f h' s r q P=>by cases q;exact P σ ρ H (.refl _ _) s r
theorem HM{c K}(h1:SS c K t ms)(h2:SS c K u mu):SS c K (GV t u) (ah ms mu):=fun ρ h H e σ D f h' s r q P=>by
 obtain⟨f1,h1',e1,q⟩:=bind_eq.mp q;refine h1 ρ h H e σ _ f1 h1' s r e1 ?_;cases f1 with
 | nx e'=>exact fun σ1 ρ1 H1 g1 s1 r1=>h2 ρ1 h1' H1 e' σ1 D f h' s1 r1 q (P.gr g1)
 | rt v=>cases q;exact P
 | bk e'=>cases q;exact P
 | ct e'=>cases q;exact P
theorem Dj:xq X pg k [] bz:=⟨λA=>⟨_,CJ,MR⟩⟩
theorem EX(h:JS X pg k st ms):xq X pg k [st] ms:=⟨λA=>by obtain⟨_,q,s⟩:=h.h A;exact⟨_,EC q,s⟩⟩
theorem A9(h1:JS X pg k st ms)(h2:xq X pg k rest mu):xq X pg k (st::rest) (ah ms mu):=⟨λA=>by obtain⟨_,q1,s1⟩:=h1.h A;exact by obtain⟨_,q2,s2⟩:=h2.h A;exact⟨_,yZ q1 q2,HM s1 s2⟩⟩
theorem D7(ha:JE X pg k e ma)(hs:VY e SU pos.line X.env=pure false:=by rfl):JS X pg k (.Expr e pos) (dn ma):=⟨λA=>by obtain⟨_,q1,s1⟩:=ha.h A;exact⟨_,CC q1 hs,fun ρ h H e σ D f h' s r q P=>by
 obtain⟨x,h1,e1,q⟩:=bind_eq.mp q;cases q;exact s1 ρ h H e σ _ x _ s r e1 λx' ρ1 H1 g1 z1 r1=>P σ ρ1 H1 g1 z1 (r.gr g1)⟩⟩
theorem KO(ha:JE X pg k e ma):JS X pg k (.Return (fv e) pos) (av ma):=⟨λA=>by obtain⟨_,q1,s1⟩:=ha.h A;exact⟨_,Ge q1,fun ρ h H e σ D f h' s r q P=>by
 obtain⟨x,h1,e1,q⟩:=bind_eq.mp q;cases q;exact s1 ρ h H e σ _ x _ s r e1 P⟩⟩
theorem L4(hc:JT X pg k c mt)(ha:xq X pg k A ms)(hb:xq X pg k B mu):JS X pg k (.If c A B pos) (bC mt ms mu):=⟨λZ =>
 by obtain⟨_,q0,s0⟩:=hc.h Z;exact let ⟨_,q1,s1⟩:=ha.h Z;let ⟨_,q2,s2⟩:=hb.h Z;⟨_,MV q0 q1 q2,fun ρ h H e σ D f h' s r q P=>by
  obtain⟨x,h1,e1,q⟩:=bind_eq.mp q;refine s0 ρ h H e σ _ _ _ s r e1 fun ρ1 H1 g1 z1=>?_;cases x with
  | true=>exact s1 ρ1 _ H1 e σ _ _ _ z1 (r.gr g1) q (P.gr g1)
  | false=>exact s2 ρ1 _ H1 e σ _ _ _ z1 (r.gr g1) q (P.gr g1)⟩⟩
theorem vw{K i}:SG K (fX i) (gN i):=fun ρ h H e σ Q v v' e' h' s r rv q P=>by cases q;exact P _ ρ H (.refl _ _) s (r.set i rv)
theorem ED{i}(hN:X.N.Nodup)(hi:X.N[i]?=fv x)(hx:Loc X.env.scope x)(hf:X.fn x=true\/X.env.scope.names.lookup x=fv .local:=by first | exact .inl rfl | exact .inr rfl | assumption):JG X pg k (.Name x pos) (gN i):=⟨λA=>⟨_,vF hN hi hx hf,vw⟩⟩
structure Nl(X:Cx)(pg:Tb)(k:Nat)(e:List Uh)(m:List PV->a9->PH->RV a9):Prop where
 h:cW X pg k-> ∃ t,Ld X e t/\ ∀ ρ h H e σ Q vs us e' h',dt X.K ρ h H->fg X.K ρ H e σ ->aB X.K ρ H vs us->m vs e h= .ok e' h'->gC X.K ρ H e' h' Q->t us σ H Q
theorem EB:Nl X pg k [] eO:=⟨λA=>⟨_,vG,fun ρ h H e σ Q vs us e' h' s r rv q P=>by
 cases vs with
 | nil=>cases q;exact⟨rv,P σ ρ H (.refl _ _) s r⟩
 | cons=>cases q⟩⟩
theorem Bs(h1:JG X pg k e g)(h2:Nl X pg k es gs)(hs:(UI (e::es) X.env).map (·.2)=W9 e X.env::(UI es X.env).map (·.2):=by rfl):Nl X pg k (e::es) (ba g gs):=⟨λA =>
 by obtain⟨_,q1,s1⟩:=h1.h A;exact by obtain⟨_,q2,s2⟩:=h2.h A;exact⟨_,rG q1 q2 hs,fun ρ h H e σ Q vs us e' h' s r rv q P=>by
 cases vs with
 | nil=>cases q
 | cons v t =>
  obtain⟨w,u,rfl,r1,r2⟩:=aN.mp rv
  obtain⟨e1,h1,e2,q⟩:=bind_eq.mp q
  refine⟨w,u,rfl,?_⟩
  exact s1 ρ h H e σ _ v w e1 h1 s r r1 e2 fun σ1 ρ1 H1 g1 z1 y1=>s2 ρ1 h1 H1 e1 σ1 Q t u e' h' z1 y1 (aB.gr g1 _ _ r2) q (P.gr g1)⟩⟩
theorem Gn{j}(h:Nl X pg k es gs)(hn:(UI es X.env).length=n:=by rfl)(hst:(UI es X.env).findIdx? (·.1)=SU:=by rfl):JG X pg k (.Tuple es j pos) (gT n gs):=⟨λA =>
 by obtain⟨_,q1,s1⟩:=h.h A;exact⟨_,AX A.calm q1 hn hst,fun ρ h H e σ Q v v' e' h' s r rv q P=>by
 unfold gT at q
 split at q
 . rename_i xs ex;obtain⟨a,vs,rfl,z,rr⟩:=rel.seq ex rv;split at q
   . rename_i hl;exact⟨a,vs,rfl,z,by rw[<- rr.len];exact hl,s1 ρ h H e σ Q xs vs e' h' s r rr q P⟩
   . nomatch q
 . nomatch q⟩⟩
theorem Iw(hN:X.N.Nodup)(hi:X.N[j]?=fv x)(hx:Loc X.env.scope x)(he:JE X pg k e ma)(hs:VY e (fv (.Name x pos')) pos.line X.env=pure false:=by rfl)(hf:X.fn x=true\/X.env.scope.names.lookup x=fv .local:=by first | exact .inl rfl | exact .inr rfl | assumption) :
  JS X pg k (.Assign [.Name x pos'] e pos) (ay ma (gN j)):=⟨λA=>by obtain⟨_,q1,s1⟩:=he.h A;exact⟨_,F8 hN hi hx q1 hs hf,fun ρ h H e σ D f h' s r q P=>by
 obtain⟨v,h1,e1,q⟩:=bind_eq.mp q;obtain⟨e2,h2,e3,q⟩:=bind_eq.mp q;cases q;cases e3;exact s1 ρ h H e σ _ v _ s r e1 λv' ρ1 H1 g1 z1 r1=>P _ ρ1 H1 g1 z1 ((r.gr g1).set j r1)⟩⟩
theorem Lb(hp:cW X pg k-> ∃ t,oR X t/\ ∀ ρ h H x y v x' y' v' u h' Q,dt X.K ρ h H->rel X.K ρ H x x'->rel X.K ρ H y y'->rel X.K ρ H v v'->f x y v h= .ok u h'->k8 X.K ρ H h' Q->t x' y' v' H Q)
  (ho:JE X pg k o mo) (hi:JE X pg k i mi) (hv:JE X pg k e ma) (hs:Zb [.Subscript o i pos'] e pos.line X.env=pure false:=by rfl) (hw:Zc [.Subscript o i pos'] e X.env=pure SU:=by rfl) (h1:(UI [.Subscript o i pos'] X.env).map (·.2)=[W9 (.Subscript o i pos') X.env]:=by rfl)
  (ha: ∀ v,W9 (.Subscript o i pos') X.env v=(do
   let ov <- WW [v] (Vl o X.env)
   let iv <- WW [v,ov] (Vl i X.env)
   aag pos'
   WW [v,ov,iv] (setItem ov iv v)
   release [v,ov,iv] []):=by intro _;rfl):JS X pg k (.Assign [.Subscript o i pos'] e pos) (nW f mo mi ma):=⟨λA =>
 let ⟨_,q0,s0⟩:=hv.h A;let ⟨_,q1,s1⟩:=ho.h A;let ⟨_,q2,s2⟩:=hi.h A;by obtain⟨_,q3,s3⟩:=hp A;exact⟨_,Kf q0 ⟨Hq q1.h q2.h q3 ha⟩ hs hw h1,fun ρ h H e σ D f' h' s r q P=>by
 obtain⟨v,h1,e1,q⟩:=bind_eq.mp q
 obtain⟨x,h2,e2,q⟩:=bind_eq.mp q
 obtain⟨y,h3,e3,q⟩:=bind_eq.mp q
 obtain⟨u,h4,e4,q⟩:=bind_eq.mp q
 cases q
 refine s0 ρ h H e σ _ v h1 s r e1 λv' ρ1 H1 g1 z1 r1=>?_
 refine s1 ρ1 h1 H1 e σ _ x h2 z1 (r.gr g1) e2 λx' ρ2 H2 g2 z2 r2=>?_
 refine s2 ρ2 h2 H2 e σ _ y h3 z2 (r.gr (g1.trans g2)) e3 λy' ρ3 H3 g3 z3 r3=>?_
 have g:=(g1.trans g2).trans g3
 exact s3 ρ3 h3 H3 x y v x' y' v' u _ _ z3 (rel.gr g3 _ _ r2) r3 (rel.gr (g2.trans g3) _ _ r1) e4 fun ρ4 H4 g4 z4=>P σ ρ4 H4 (g.trans g4) z4 (r.gr (g.trans g4))⟩⟩
theorem Jb(hi:JI X pg k tg iter mI)(hg:JG X pg k tg g)(hb:xq X pg k body ms)(hp:PassesOwn (TM X.prog X.w) X.A X.env X.xe)(hs: ∀ x,Ul iter X.env x=pure x:=by intro _;rfl):JS X pg k (.For tg iter body [] pos) (cI mI g ms):=⟨λA =>
 by obtain⟨_,q1,s1⟩:=hi.h A;exact by obtain⟨_,q2,s2⟩:=hg.h A;exact by obtain⟨_,q3,s3⟩:=hb.h A;exact⟨_,Jx hp A.calm q1 q2 q3 hs,fun ρ h H e σ D f h' s r q P=>by
 obtain ⟨it,h1,e1,q⟩:=bind_eq.mp q
 refine s1 ρ h H e σ _ it h1 s r e1 fun ρ1 H1 J g1 z1 w1=>?_
 let step:=λx e h=>(g x e h).bind λe1 h1=>ms (run pg k) e1 h1
 refine ⟨λi m σ' H'=> ∃ ρ' h2 e',Gr ρ1 H1 ρ' H'∧dt X.K ρ' h2 H'∧fg X.K ρ' H' e' σ'∧i<=it.items.length∧m=it.items.length - i∧bM it step (it.items.drop i) e' h2= .ok f h',⟨_, ρ1,h1,e,.refl _ _,z1,r.gr g1,U2 _,rfl,q⟩,?_⟩
 rintro i m σ2 H2 ⟨ρ2,h2,e2,g2,z2,r2,hi,rfl,q2⟩
 cases hx:it.items[i]? with
 | none =>
  have hl:=Xk.mp hx
  rw[VN hl,bM] at q2
  split at q2
  . rename_i hf;cases q2;exact .inl ⟨(w1 i ρ2 _ H2 g2 z2 hf).2 (by omega),P σ2 ρ2 H2 (g1.trans g2) z2 r2⟩
  . cases q2
 | some x =>
  have hlt:=(Tg.mp hx).1
  have hd:it.items.drop i=x::it.items.drop (i+1):=by
   rw[Xl hlt,(Tg.mp hx).2]
  rw[hd,bM] at q2
  split at q2
  . rename_i hf;obtain⟨go,yl⟩:=(w1 i ρ2 _ H2 g2 z2 hf).1 x hx;obtain⟨f3,h3,e3,q3⟩:=bind_eq.mp q2;obtain ⟨e4,h4,e5,q4⟩:=bind_eq.mp e3;refine .inr ⟨go,fun σ' H'=> ∃ ρ' h2 e',Gr ρ1 H1 ρ' H'∧dt X.K ρ' h2 H'∧fg X.K ρ' H' e' σ'∧bM it step (it.items.drop (i+1)) e' h2= .ok f h',?_,?_⟩
    . rintro σ' H' ⟨ρ',h2,e',a1,a2,a3,a4⟩;exact ⟨it.items.length - (i+1),by omega, ρ',h2,e',a1,a2,a3,hlt,rfl,a4⟩
    . intro v H3 hy;obtain ⟨ρ3,g3,z3,r3⟩:=yl v H3 hy;refine s2 ρ3 h2 H3 e2 σ2 _ x v e4 h4 z3 (r2.gr g3) r3 e5 fun σ4 ρ4 H4 g4 z4 r4=>?_;have gg:=(g2.trans g3).trans g4;refine s3 ρ4 h4 H4 e4 σ4 _ f3 h3 z4 r4 q4 ?_;cases f3 with
      | nx e6=>exact fun σ5 ρ5 H5 g5 z5 r5=>⟨ρ5,h3,e6,gg.trans g5,z5,r5,q3⟩
      | ct e6=>exact fun σ5 ρ5 H5 g5 z5 r5=>⟨ρ5,h3,e6,gg.trans g5,z5,r5,q3⟩
      | bk e6=>cases q3;exact gC.gr P (g1.trans gg)
      | rt v=>cases q3;exact eL.gr P (g1.trans gg)
  . simp_all⟩⟩
theorem Fx{K tg}(s1:SI cf K wi mI)(s2:SG K tg g)(s3:ST cf K tt mt)(s4:SE cf K te ma):SE cf K (Pd n wi tg tt te) (dw n mI g mt ma):=fun ρ h H e σ Q v h' s r q P=>by
 obtain⟨it,h1,e1,q⟩:=bind_eq.mp q;obtain ⟨ys,h2,e2,q⟩:=bind_eq.mp q;cases q;refine s1 ρ h H e σ _ it h1 s r e1 fun ρ1 H1 J g1 z1 w1=>?_;refine ⟨λi m us H'=> ∃ ρ' h3 zs,Gr ρ1 H1 ρ' H'∧dt K ρ' h3 H'∧aB K ρ' H' zs us∧i<=it.items.length∧m=it.items.length - i∧eW it (aY n g mt ma cf e) (it.items.drop i) zs h3= .ok ys h2,⟨_, ρ1,h1,[],.refl _ _,z1,cJ.mpr rfl,U2 _,rfl,e2⟩,?_⟩;rintro i m us H2 ⟨ρ2,h3,zs,g2,z2,r2,hi,rfl,q2⟩;cases hx:it.items[i]? with
 | none =>
  have hl:=Xk.mp hx
  rw[VN hl,eW] at q2
  split at q2
  . rename_i hf;cases q2;exact .inl ⟨(w1 i ρ2 _ H2 g2 z2 hf).2 (by omega),λp hp=>g7 z2 r2 (P.gr (g1.trans g2)) p hp⟩
  . cases q2
 | some x =>
  have hlt:=(Tg.mp hx).1
  have hd:it.items.drop i=x::it.items.drop (i+1):=by
   rw[Xl hlt,(Tg.mp hx).2]
  rw[hd,eW] at q2
  split at q2
  . rename_i hf;obtain⟨go,yl⟩:=(w1 i ρ2 _ H2 g2 z2 hf.1).1 x hx;obtain⟨o,h4,e3,q3⟩:=bind_eq.mp q2;obtain⟨e4,h5,e5,q4⟩:=bind_eq.mp e3;obtain⟨b,h6,e6,q5⟩:=bind_eq.mp q4;refine .inr ⟨go,by rw[<- r2.len];exact hf.2,λv H3 hy=>?_⟩;obtain⟨ρ3,g3,z3,r3⟩:=yl v H3 hy;refine s2 ρ3 h3 H3 _ _ _ x v e4 h5 z3 (((r.gr (g1.trans (g2.trans g3)))).more n) r3 e5 fun σ4 ρ4 H4 g4 z4 r4=>?_;refine s3 ρ4 h5 H4 e4 σ4 _ b h6 z4 r4 e6 fun ρ5 H5 g5 z5=>?_;have gg:=((g2.trans g3).trans g4).trans g5;cases b with
    | false=>cases q5;exact ⟨it.items.length - (i+1),by omega, ρ5,_,zs,gg,z5,aB.gr ((g3.trans g4).trans g5) _ _ r2,hlt,rfl,q3⟩
    | true =>
     obtain ⟨y,h7,e7,q6⟩:=bind_eq.mp q5
     cases q6
     refine s4 ρ5 h6 H5 e4 σ4 _ y _ z5 (r4.gr g5) e7 λy' ρ6 H6 g6 z6 r6=>?_
     exact ⟨it.items.length - (i+1),by omega, ρ6,_,zs++[y],gg.trans g6,z6,(aB.gr (((g3.trans g4).trans g5).trans g6) _ _ r2).app (aB.one r6),hlt,rfl,q3⟩
  . simp_all
end
noncomputable def Rv(c:CF)(K:SV)(m:ME):TE:=fun σ H Q=> ∃ ρ h e v h',dt K ρ h H∧fg K ρ H e σ ∧m c e h= .ok v h'∧eL K ρ H v h' Q
noncomputable def RC(c:CF)(K:SV)(m:MT):TT:=fun σ H Q=> ∃ ρ h e b h',dt K ρ h H/\fg K ρ H e σ /\m c e h= .ok b h'/\k8 K ρ H h' (Q b)
theorem Fp{K}:SE c K (Rv c K m) m:=fun ρ h H e σ Q v h' s r q P=>⟨ρ,h,e,v,h',s,r,q,P⟩
theorem F3{K}:ST c K (RC c K m) m:=fun ρ h H e σ Q v h' s r q P=>⟨ρ,h,e,v,h',s,r,q,P⟩
theorem JE.NW(j:JE X pg k e m)(A:cW X pg k):QE X e (Rv (run pg k) X.K m) :=
 by obtain⟨_,q,s⟩:=j.h A;exact⟨λpins st σ H Q I=>by rintro ⟨ρ,h,e,v,h',a,b,c,d⟩;exact q.h pins st σ H Q I (s ρ h H e σ Q v h' a b c d)⟩
theorem JF.NW(j:JF X pg k e m)(A:cW X pg k):QF X e (RC (run pg k) X.K m) :=
 by obtain⟨_,q,s⟩:=j.h A;exact⟨λpins st σ H Q I=>by rintro ⟨ρ,h,e,v,h',a,b,c,d⟩;exact q.h pins st σ H Q I (s ρ h H e σ Q v h' a b c d)⟩
structure GC(K:SV)(n:Nat)(t:TG)(m:MG):Prop where
 sg:SG K t m
 gk:GK n t
 mono:u9 t
structure Pc(K:SV)(n:Nat)(t:BX)(m:List PV->a9->PH->RV a9):Prop where
 sg: ∀ ρ h H e σ Q vs us e' h',dt K ρ h H->fg K ρ H e σ ->aB K ρ H vs us->m vs e h= .ok e' h'->gC K ρ H e' h' Q->t us σ H Q
 gk:LP n t
 mono: ∀ xs σ H Q Q',(∀ σ2 H2,Q σ2 H2->Q' σ2 H2)->t xs σ H Q->t xs σ H Q'
theorem Cq{K}(h:n<=i):GC K n (fX i) (gN i):=⟨vw,DS h,vm⟩
theorem vW{K}:Pc K n yy eO:=⟨fun ρ h H e σ Q vs us e' h' s r rv q P=>by
 cases vs with
 | nil=>cases q;exact⟨rv,P σ ρ H (.refl _ _) s r⟩
 | cons=>exact(by cases q),Iu,λxs σ H Q Q' f q=>⟨q.1,f _ _ q.2⟩⟩
theorem jR{K}(a:GC K n t m)(b:Pc K n ts ms):Pc K n (lx t ts) (ba m ms):=⟨fun ρ h H e σ Q vs us e' h' s r rv q P=>by
 cases vs with
 | nil=>cases q
 | cons v t =>
  obtain⟨w,u,rfl,r1,r2⟩:=aN.mp rv
  obtain⟨e1,h1,e2,q⟩:=bind_eq.mp q
  refine⟨w,u,rfl,?_⟩
  exact a.sg ρ h H e σ _ v w e1 h1 s r r1 e2 fun σ1 ρ1 H1 g1 z1 y1=>b.sg ρ1 h1 H1 e1 σ1 Q t u e' h' z1 y1 (aB.gr g1 _ _ r2) q (P.gr g1),Ek a.gk a.mono b.gk,
 λxs σ H Q Q' f=>by rintro ⟨v,r,e,q⟩;exact⟨v,r,e,a.mono _ _ _ _ _ (fun σ2 H2 z=>b.mono _ _ _ _ _ f z) q⟩⟩
theorem yM{K}(b:Pc K n ts ms):GC K n (uC K j ts) (gT j ms):=⟨fun ρ h H e σ Q v v' e' h' s r rv q P=>by
 unfold gT at q;split at q
 . rename_i xs ex;obtain⟨a,vs,rfl,z,rr⟩:=rel.seq ex rv;split at q
   . rename_i hl;exact⟨a,vs,rfl,z,by rw[<- rr.len];exact hl,b.sg ρ h H e σ Q xs vs e' h' s r rr q P⟩
   . nomatch q
 . exact(nomatch q),HJ b.gk,λx σ H Q Q' f=>by rintro ⟨a,xs,e1,e2,e3,q⟩;exact⟨a,xs,e1,e2,e3,b.mono _ _ _ _ _ f q⟩⟩
section
variable{X:Cx}{pg:Tb}{k:Nat}{e tg iter:Uh}{ma:ME}{mt:MT}{g:MG}{tG:TG}{mI:MI}{scope:Xm}{ifs:List Uh}{pos spos py:Pos}{y:Str}
theorem tU vars (hkind:scope.kind= .function) (hlc:ij scope.names X.env.scope.names X.N vars=true) (hi:JI X pg k tg iter mI)
  (hb: ∀ cl C s₀ H₀ ex pn,(cW X pg k->QG (fG X vars scope cl C s₀ H₀ ex pn) tg tG)/\JF (fG X vars scope cl C s₀ H₀ ex pn) pg k ifs mt/\JE (fG X vars scope cl C s₀ H₀ ex pn) pg k e ma) (hG:GC X.K X.N.length tG g)
  (hs: ∀ x,Ul iter X.env x=pure x:=by intro _;rfl):JE X pg k (.ListComp e [⟨tg,iter,ifs,0⟩] scope pos) (dw vars.length mI g mt ma):=⟨λA =>
 by obtain⟨_,q1,s1⟩:=hi.h A;exact⟨_,Br vars A.calm A.oG hkind hlc q1 (λcl C s₀ H₀ ex pn=>by obtain⟨h1,h2,h3⟩:=hb cl C s₀ H₀ ex pn;exact⟨h1 A,h2.NW (A.fG ..),h3.NW (A.fG ..)⟩) hG.gk hs,Fx s1 hG.sg F3 Fp⟩⟩
theorem rR vars i (hkind:scope.kind= .function) (hlc:ij scope.names X.env.scope.names X.N vars=true) (hN:X.N.Nodup) (hiy:X.N[i]?=fv y) (hy:Loc X.env.scope y) (hi:JI X pg k tg iter mI)
  (hb: ∀ cl C s₀ H₀ ex pn,(cW X pg k->QG (fG X vars scope cl C s₀ H₀ ex pn) tg tG)/\JF (fG X vars scope cl C s₀ H₀ ex pn) pg k ifs mt/\JE (fG X vars scope cl C s₀ H₀ ex pn) pg k e ma) (hG:GC X.K X.N.length tG g)
  (hsw:VY (.ListComp e [⟨tg,iter,ifs,0⟩] scope pos) (fv (.Name y py)) spos.line X.env=pure true:=by rfl) (hs: ∀ x,Ul iter X.env x=pure x:=by intro _;rfl)
  (hf:X.fn y=true\/X.env.scope.names.lookup y=fv .local:=by first | exact .inl rfl | exact .inr rfl | assumption) :
  JS X pg k (.Assign [.Name y py] (.ListComp e [⟨tg,iter,ifs,0⟩] scope pos) spos) (ay (dw vars.length mI g mt ma) (gN i)):=⟨λA =>
 by obtain⟨_,q1,s1⟩:=hi.h A;exact⟨_,BF vars i A.calm A.oG hkind hlc hN hiy hy q1 (λcl C s₀ H₀ ex pn=>let ⟨h1,h2,h3⟩:=hb cl C s₀ H₀ ex pn;⟨h1 A,h2.NW (A.fG ..),h3.NW (A.fG ..)⟩) hG.gk hsw hs hf,fun ρ h H e σ D f h' s r q P=>by
  obtain⟨v,h1,e1,q⟩:=bind_eq.mp q;obtain⟨e2,h2,e3,q⟩:=bind_eq.mp q;cases q;cases e3;exact Fx s1 hG.sg F3 Fp ρ h H e σ _ v _ s r e1 λv' ρ1 H1 g1 z1 r1=>P _ ρ1 H1 g1 z1 ((r.gr g1).set i r1)⟩⟩
end
section
variable{K:SV}{ρ ρ':List Tp}{H H':Hp}{h h':PH}
mutual
theorem rel.flat: ∀(x:PV)(v:V),x.flat=true->rel K ρ' H' x v->rel K ρ H' x v
 | .non,v,_,h=>by simpa only[rel] using h
 | .bl _,v,_,h=>by simpa only[rel] using h
 | .int _,v,_,h=>by simpa only[rel] using h
 | .str _,v,_,h=>by simpa only[rel] using h
 | .ty _,v,_,h=>by simpa only[rel] using h
 | .ref n,v,f,h=>by simp[PV.flat] at f
 | .tup xs,v,f,h=>by
  rw[rel] at h ⊢;rw[PV.flat] at f;obtain⟨a,vs,e,s,r⟩:=h;exact⟨a,vs,e,s,aB.flat xs vs f r⟩
 | .ktup xs,v,f,h=>by
  rw[rel] at h ⊢;rw[PV.flat] at f;obtain⟨a,vs,e,s,r⟩:=h;exact⟨a,vs,e,s,aB.flat xs vs f r⟩
theorem aB.flat: ∀(xs:List PV)(vs:List V),PV.du xs=true->aB K ρ' H' xs vs->aB K ρ H' xs vs
 | [],vs,_,h=>by simpa only[aB] using h
 | x::r,vs,f,h=>by
  rw[aB] at h ⊢;rw[PV.du,Td] at f;obtain⟨v,t,e,h1,h2⟩:=h;exact ⟨v,t,e,rel.flat x v f.1 h1,aB.flat r t f.2 h2⟩
end
mutual
theorem rel.jd(g: ∀ (n:Nat) (a:Tp), ρ[n]?=fv a-> ρ'[n]?=fv a): ∀(x:PV)(v:V),x.jd ρ.length=true->rel K ρ' H' x v->rel K ρ H' x v
 | .non,v,_,h=>by simpa only [rel] using h
 | .bl _,v,_,h=>by simpa only [rel] using h
 | .int _,v,_,h=>by simpa only [rel] using h
 | .str _,v,_,h=>by simpa only[rel] using h
 | .ty _,v,_,h=>by simpa only[rel] using h
 | .ref n,v,f,h=>by
  rw[rel] at h ⊢;rw[PV.jd,decide_eq_true_eq] at f;obtain⟨a,e,h⟩:=h;have:=g n _ (TN f);rw[e] at this;exact⟨a,by rw[TN f,<- Ud this],h⟩
 | .tup xs,v,f,h=>by
  rw[rel] at h ⊢;rw[PV.jd] at f;obtain⟨a,vs,e,s,r⟩:=h;exact⟨a,vs,e,s,aB.jd g xs vs f r⟩
 | .ktup xs,v,f,h=>by
  rw[rel] at h ⊢;rw [PV.jd] at f;obtain ⟨a,vs,e,s,r⟩:=h;exact ⟨a,vs,e,s,aB.jd g xs vs f r⟩
theorem aB.jd(g: ∀ (n:Nat) (a:Tp), ρ[n]?=fv a-> ρ'[n]?=fv a): ∀(xs:List PV)(vs:List V),PV.jI ρ.length xs=true->aB K ρ' H' xs vs->aB K ρ H' xs vs
 | [],vs,_,h=>by simpa only [aB] using h
 | x::r,vs,f,h=>by
  rw [aB] at h ⊢;rw[PV.jI,Td] at f;obtain⟨v,t,e,h1,h2⟩:=h;exact⟨v,t,e,rel.jd g x v f.1 h1,aB.jd g r t f.2 h2⟩
end
mutual
theorem rel.low: ∀(x:PV)(v:V),rel K ρ H x v->x.jd ρ.length=true
 | .non,v,_=>rfl
 | .bl _,v,_=>rfl
 | .int _,v,_=>rfl
 | .str _,v,_=>rfl
 | .ty _,v,_=>rfl
 | .ref n,v,h=>by
  rw[rel] at h;obtain⟨a,e,h⟩:=h;rw[PV.jd,decide_eq_true_eq];exact(Tg.mp e).1
 | .tup xs,v,h=>by
  rw[rel] at h;obtain⟨a,vs,e,s,r⟩:=h;rw[PV.jd];exact aB.low xs vs r
 | .ktup xs,v,h=>by
  rw[rel] at h;obtain⟨a,vs,e,s,r⟩:=h;rw[PV.jd];exact aB.low xs vs r
theorem aB.low: ∀(xs:List PV)(vs:List V),aB K ρ H xs vs->PV.jI ρ.length xs=true
 | [],vs,_=>rfl
 | x::r,vs,h=>by
  rw[aB] at h;obtain⟨v,t,e,h1,h2⟩:=h;rw[PV.jI,rel.low x v h1,aB.low r t h2];rfl
end
theorem Paired.low: ∀{kvs kws},Vv (λ(p:Key × PV) (q:Key × V)=>p.1=q.1/\rel K ρ H p.2 q.2) kvs kws->PV.jI ρ.length (kvs.map (·.2))=true
 | _,_,.nil=>rfl
 | _,_,.cons r t=>by rw[S7,PV.jI,rel.low _ _ r.2,Paired.low t];rfl
theorem kP.low: ∀{o},kP K ρ H a o->o.jd ρ.length=true
 | .lst xs,⟨vs,_,r⟩=>aB.low _ _ r
 | .kq xs,⟨vs,_,r⟩=>aB.low _ _ r
 | .dct kvs,⟨kws,_,r⟩=>Paired.low r
theorem Paired.jd(g: ∀ (n:Nat) (a), ρ[n]?=fv a-> ρ'[n]?=fv a): ∀{kvs kws},PV.jI ρ.length (kvs.map (·.2))=true ->
  Vv (λ(p:Key × PV) (q)=>p.1=q.1∧rel K ρ' H' p.2 q.2) kvs kws->Vv (λ(p) (q:Key × V)=>p.1=q.1∧rel K ρ H' p.2 q.2) kvs kws
 | _,_,_,.nil=> .nil
 | _,_,f,.cons r t=>by
  rw [S7,PV.jI,Td] at f;exact .cons ⟨r.1,rel.jd g _ _ f.1 r.2⟩ (Paired.jd g f.2 t)
theorem kP.jd(g: ∀ (n:Nat) (a), ρ[n]?=fv a-> ρ'[n]?=fv a): ∀{o},o.jd ρ.length=true->kP K ρ' H' a o->kP K ρ H' a o
 | .lst xs,f,⟨vs,e,r⟩=>⟨vs,e,aB.jd g _ _ f r⟩
 | .kq xs,f,⟨vs,e,r⟩=>⟨vs,e,aB.jd g _ _ f r⟩
 | .dct kvs,f,⟨kws,e,r⟩=>⟨kws,e,Paired.jd g f r⟩
theorem dt.drop(s:dt K ρ h H)(g:Gr ρ H ρ' H')(s':dt K ρ' h' H')(ok:cw h.length h h'=true):dt K ρ (h'.take h.length) H':=by
 have old: ∀{i:Nat}{o:PO},(h'.take h.length)[i]?=fv o->i < h.length/\h'[i]?=fv o:=λ{i o} e=>by
  have hi:i < h.length:=by
   have:=(Tg.mp e).1;rw[TL] at this;omega
  rw[Zu,if_pos hi] at e;exact⟨hi,e⟩
 refine⟨by rw[TL,s.len,WU (m8 ok)],λi j a oi oj ei ej mi mj ri rj=>?_,λi o a e ea=>?_⟩
 . exact s'.nd i j a oi oj (old ei).2 (old ej).2 mi mj (g.pre _ _ ri) (g.pre _ _ rj)
 . have r:=s'.ob i o a (old e).2 (g.pre _ _ ea);obtain⟨o0,e0,_,z⟩:=pV ok e;refine kP.jd g.pre ?_ r;rcases z with z | z
   . subst z;exact(s.ob i o0 a e0 ea).low
   . rw[s.len];exact z
theorem gb(s:dt K ρ h H)(e:settle h v h'= .ok w h2)(P:eL K ρ H w h2 Q):eL K ρ H v h' Q:=by
 unfold settle at e;split at e
 . rename_i ok;rw[Td] at ok;cases e;exact λv' ρ' H' g s' r=>P v' ρ H' ⟨λ_ _ z=>z,g.tup,g.jL⟩ (s.drop g s' ok.2) (rel.flat _ _ ok.1 r)
 . simp_all
end
theorem gL{K}: ∀{args vs},aB K ρ H args vs-> ∀ n,fg K ρ H (args.map fv++S4 n SU) (vs.map fv++S4 n SU)
 | args,vs,r,n=>by
  have:fg K ρ H (args.map fv) (vs.map fv):=⟨by simp[r.len],λi v e=>by
   rw[T7] at e;cases q:args[i]? with
   | none=>simp_all
   | some w =>
    rw[q] at e
    cases e
    obtain⟨v',e1,e2⟩:=r.get q
    exact⟨v',by simp_all,e2⟩⟩
  exact this.more n
structure iX(P:Ug)(w:Uz)(K:SV)(mg:Str->Option S5)(base:UU)(pg:Tb)(f:String)(d:Df):Prop where
 ex: ∃(st:XW)(N:List Str),At K mg (S3 f) st/\dW N d.ps (aE st)/\N.length=d.ps.length+d.nl /\
  (∀(kV doc pm:S5)(an:Option Tp)(cdv ct:S5)(us:List S5),us.length=d.ps.length->VR (UE (S3 f) (S3 f) (cR st) (bu st) (aE st) .none kV doc pm an cdv ct) ⟨us,[]⟩=pure (d.ps.zip us)) /\
  ∀(fa:Tp)(cdv:S5)(A:U5)(outer:List Env)(s:Tc)(H:Hp)(E:XK)(k:Nat),xq (jf qP P w K mg base N (S3 f) (aE st) fa cdv A outer s H E).oG pg k (bu st) d.body
structure Top(P:Ug)(w:Uz)(K:SV)(mg:Str->Option S5)(pg:Tb):Prop where
 blt: ∀ x∈gx,mg x=SU
 con: ∀ x v,pg.con x=fv v-> ∃ u v',mg x=fv u/\RelV v' u/\xB K v'/\ ∀ ρ H,rel K ρ H v v'
 sZ: ∀ x kvs,pg.sZ x=fv kvs-> ∃ a kws,mg x=fv (.ref a)∧KD P w K a kws∧ ∀ ρ H,Vv (λ(p:Key × PV) (q:Key × V)=>p.1=q.1∧rel K ρ H p.2 q.2) kvs kws
section
variable {P:Ug} {w:Uz} {K:SV} {mg:Str->Option S5} {base:UU} {pg:Tb}
theorem BL(T : Top P w K mg pg)(G : ∀ f d, pg.fns f = fv d -> iX P w K mg base pg f d) : ∀ k f d, pg.fns f = fv d -> lG P w K mg base (S3 f) k d.ps (uG K pg k f) := by
  intro k
  induction k with
  | zero =>
    intro f d hf
    obtain ⟨st, N, a, S, hl, hb, body⟩ := (G f d hf).ex
    exact At.xg a hb λvs H Q E => by rintro ⟨ρ, h, args, v, h', _, _, q, _⟩ ; exact by cases q
  | succ k ih =>
    intro f d hf
    obtain ⟨st, N, a, S, hl, hb, body⟩ := (G f d hf).ex
    have run_eq : ∀{args : List PV}{h h' : PH}{v : PV}, run pg (k + 1) f args h = .ok v h' -> args.length = d.ps.length ∧
        ((∃ w h2, d.body (run pg k) (args.map fv ++ S4 d.nl SU) h = .ok (.rt w) h2 /\ settle h w h2 = .ok v h') ∨
         (∃ e h2, d.body (run pg k) (args.map fv ++ S4 d.nl SU) h = .ok (.nx e) h2 /\ settle h .non h2 = .ok v h')) := λ{args h h' v} q => by
      rw [run, hf] at q;simp only at q;split at q
      . rename_i hn;refine ⟨hn, ?_⟩;split at q
        . rename_i w h2 e; exact .inl ⟨w, h2, e, q⟩
        . rename_i e' h2 e; exact .inr ⟨e', h2, e, q⟩
        . nomatch q
        . cases q
        . nomatch q
      . simp_all
    refine At.Q3 a S hb (λvs H Q E => by rintro ⟨ρ, h, args, v, h', _, r, q, _⟩ ; exact by rw [<- r.len]; exact (run_eq q).1) ?_
    rintro fa cdv A outer s H vs Q E hr ⟨ρ, h, args, v, h', sm, r, q, post⟩
    have amb : cW (jf qP P w K mg base N (S3 f) (aE st) fa cdv A outer s H E).oG pg k := ⟨hr, rfl, λ_ _ z => z, ih, T.blt, T.con, T.sZ⟩
    obtain ⟨t, qt, st'⟩ := (body fa cdv A outer s H E k).h amb
    refine ⟨t, qt, ?_⟩
    obtain ⟨hn, q⟩ := run_eq q
    have he : L2.start N vs = vs.map fv ++ S4 d.nl SU := by
      unfold L2.start;rw [hl, <- r.len, hn, XQ]
    rw [he]
    rcases q with ⟨w, h2, e, q⟩ | ⟨e', h2, e, q⟩
    . exact st' ρ h H _ _ _ _ h2 sm (gL r _) e (gb sm q post)
    . exact st' ρ h H _ _ _ _ h2 sm (gL r _) e fun σ' ρ' H' g s' _ => gb sm q post .non ρ' H' g s' (by rw [rel])
end
def p2(f:Int->Int->RV PV):PV->PV->PH->RV PV:=λx y h=>match x,y with
 | .int i,.int j=>(f i j).bind λv _=> .ok v h
 | _,_=> .no
noncomputable def BU(v:PV):RV PV:= .ok v []
section
variable{K:SV}{X:Cx}{pg:Tb}{k:Nat}
theorem Kx(hf: ∀ i j v h,f i j= .ok v h->C i j/\ ∀ ρ H,rel K ρ H v (g i j)):jo K (rI C g) (p2 f):=fun ρ h H x y x' y' Q v h' s rx ry q P=>by
 unfold p2 at q;split at q
 . rename_i i j;obtain⟨w,h0,e,q⟩:=bind_eq.mp q;cases q;obtain⟨hc,hr⟩:=hf i j v h0 e;exact⟨i,j,rx,ry,hc,P _ ρ H (.refl _ _) s (hr ρ H)⟩
 . cases q
theorem rV(hf: ∀ i j v h,f i j= .ok v h-> ∀ ρ H,rel K ρ H v (g i j)):jo K (BY g) (p2 f):=fun ρ h H x y x' y' Q v h' s rx ry q P=>by
 unfold p2 at q;split at q
 . rename_i i j;obtain⟨w,h0,e,q⟩:=bind_eq.mp q;cases q;exact⟨i,j,rx,ry,P _ ρ H (.refl _ _) s (hf i j v h0 e ρ H)⟩
 . cases q
def yu:=p2 λi j=>BU (.int (i - j))
def hV:=p2 λi j=>if 0 < j then BU (.int (i % j)) else .no
def xJ:=p2 λi j=>if 0<=j/\j<=1000000/\i.natAbs < 2 ^ 64 then BU (.int (i ^ j.toNat)) else .no
def qA:=p2 λi j=>BU (.bl (decide (i < j)))
def ur:=p2 λi j=>BU (.bl (decide (i<=j)))
def pG:=p2 λi j=>BU (.bl (decide (j < i)))
def QR:=p2 λi j=>BU (.bl (decide (j<=i)))
noncomputable def xA:PV->PH->RV PV:=λx h=>match x with
 | .int i=> .ok (.int (-i)) h
 | _=> .no
theorem Nv:cW X pg k-> ∃ r,cG X (UP .Sub) r/\jo X.K r yu:=λ_=>⟨_,G6,rV λi j v h e ρ H=>by cases e;rw[rel]⟩
theorem MF:cW X pg k-> ∃ r,cG X (UP .Mod) r/\jo X.K r hV:=λ_=>⟨_,Jf,Kx λi j v h e=>by
 split at e
 . cases e;exact⟨by assumption,fun ρ H=>by rw[rel]⟩
 . cases e⟩
theorem Nb:cW X pg k-> ∃ r,cG X (UP .Pow) r/\jo X.K r xJ:=λ_=>⟨_,Iy,Kx λi j v h e=>by
 split at e
 . cases e;exact⟨by assumption,fun ρ H=>by rw[rel]⟩
 . cases e⟩
theorem Rh:cW X pg k-> ∃ r,cG X (Tw .Lt) r/\jo X.K r qA:=λ_=>⟨_,NA,rV λi j v h e ρ H=>by cases e;rw[rel]⟩
theorem PX:cW X pg k-> ∃ r,cG X (Tw .LtE) r/\jo X.K r ur:=λ_=>⟨_,M4,rV λi j v h e ρ H=>by cases e;rw[rel]⟩
theorem Qw:cW X pg k-> ∃ r,cG X (Tw .Gt) r/\jo X.K r pG:=λ_=>⟨_,N9,rV λi j v h e ρ H=>by cases e;rw[rel]⟩
theorem QV:cW X pg k-> ∃ r,cG X (Tw .GtE) r/\jo X.K r QR:=λ_=>⟨_,LN,rV λi j v h e ρ H=>by cases e;rw[rel]⟩
theorem Og:cW X pg k-> ∃ r,Lq X (aah .USub) r/\ ∀ ρ h H x x' Q v h',dt X.K ρ h H->rel X.K ρ H x x'->xA x h= .ok v h'->eL X.K ρ H v h' Q->r x' H Q:=λ_=>⟨_,Kq,fun ρ h H x x' Q v h' s rx q P=>by
 cases x with
 | int i =>
  rw[rel] at rx
  cases q
  exact⟨_,rx,P _ ρ H (.refl _ _) s (by rw[rel])⟩
 | _=>nomatch q⟩
def HA(xs:List PV)(h:PH):RV PV:=fC xs.length (.ok (.ref h.length) (h++[.lst xs]))
def ak:PV->PV->PH->RV PV:=λx y h=>match x,y with
 | .int i,.int j=> .ok (.int (i+j)) h
 | .str a,.str b=>fC (a.length+b.length) (.ok (.str (a++b)) h)
 | .tup xs,.tup ys=>fC (xs.length+ys.length) (.ok (.tup (xs++ys)) h)
 | .ref n,.ref m=>(match h[n]?,h[m]? with
  | some (.lst xs),fv (.lst ys)=>HA (xs++ys) h
  | _,_=> .no)
 | _,_=> .no
theorem dt.lst{ρ h H}(s:dt K ρ h H){n xs}(e:h[n]?=fv (.lst xs)){v}(r:rel K ρ H (.ref n) v): ∃ a vs,v= .ref a/\ ρ[n]?=fv a/\H a=fv (.lst vs)/\aB K ρ H xs vs:=by
 obtain⟨a,ea,rfl⟩:=r;obtain⟨vs,e1,e2⟩:=s.ob n _ a e ea;exact⟨a,vs,rfl,ea,e1,e2⟩
theorem dt.kq(s:dt K ρ h H)(e:h[n]?=fv (.kq xs))(r:rel K ρ H (.ref n) v): ∃ a vs,v= .ref a/\ ρ[n]?=fv a/\gi K H a vs/\aB K ρ H xs vs:=by
 obtain⟨a,ea,rfl⟩:=r;obtain⟨vs,e1,e2⟩:=s.ob n _ a e ea;exact⟨a,vs,rfl,ea,e1.sq,e2⟩
noncomputable def cH(h:PH)(n:Nat):Option (List PV):=match h[n]? with
 | some (.lst xs)=>fv xs
 | some (.kq xs)=>fv xs
 | _=>SU
theorem dt.sq(s:dt K ρ h H)(e:cH h n=fv xs)(r:rel K ρ H (.ref n) v): ∃ a vs,v= .ref a/\ ρ[n]?=fv a/\gi K H a vs/\aB K ρ H xs vs:=by
 unfold cH at e;split at e
 . cases e;obtain⟨a,vs,e1,e2,e3,e4⟩:=s.lst (by assumption) r;exact⟨a,vs,e1,e2,.of e3,e4⟩
 . cases e;exact s.kq (by assumption) r
 . cases e
theorem lS(s:dt K ρ h H)(r:aB K ρ H xs us)(P:eL K ρ H (.tup xs) h Q) p (hp:H p=SU):Q (.ref p) (upd H p (.tup us)):=by
 refine P _ ρ _ (Gr.wU hp) (s.tup hp) ?_;exact⟨p,us,rfl,bH,aB.gr (Gr.wU hp) _ _ r⟩
theorem Nt:cW X pg k-> ∃ r,cG X (UP .Add) r/\jo X.K r ak:=λ_=>⟨_,Ib,fun ρ h H x y x' y' Q v h' s rx ry q P=>by
 unfold ak at q;split at q
 . cases q;exact .inl ⟨_,_,rx,ry,P _ ρ H (.refl _ _) s (by rw[rel])⟩
 . obtain⟨hl,q⟩:=iB.mp q;cases q;exact .inr (.inr (.inr (.inr ⟨_,_,rx,ry,hl,P _ ρ H (.refl _ _) s (by rw[rel])⟩)))
 . rename_i xs ys;obtain⟨hl,q⟩:=iB.mp q;cases q;have ry':=ry;obtain⟨a,us,e1,e2,e3⟩:=rx;obtain⟨b,ws,d1,d2,d3⟩:=ry;cases xs with
   | nil =>
    subst e3
    exact .inr (.inr (.inr (.inl ⟨a,b,ws,e1,d1,.of e2,.of d2,d1 ▸ P y' ρ H (.refl _ _) s ry'⟩)))
   | cons x r =>
    refine .inr (.inr (.inl ⟨a,b,us,ws,e1,d1,.of e2,.of d2,?_,by rw[<- e3.len,<- d3.len];exact hl,?_⟩))
    . rintro rfl;have:=e3.len;simp at this
    . refine⟨λz=>?_,λ_ p hp=>lS s (e3.app d3) P p hp⟩;subst z;have:=WQ d3.len;subst this;rw[Tv] at P;exact P _ ρ H (.refl _ _) s (by exact⟨a,us,rfl,e2,e3⟩)
 . split at q
   . rename_i h1 h2;obtain⟨hl,q⟩:=iB.mp q;cases q;obtain⟨a,us,rfl,_,e1,e2⟩:=s.lst h1 rx;obtain⟨b,ws,rfl,_,d1,d2⟩:=s.lst h2 ry;refine .inr (.inl ⟨a,b,us,ws,rfl,rfl,e1,d1,?_,λp hp=>g7 s (e2.app d2) P p hp⟩);rw[<- e2.len,<- d2.len];simpa using hl
   . nomatch q
 . nomatch q⟩
noncomputable def aU(kvs:List (Key × PV)) k:=(kvs.find? λkv=>decide (kv.1=k)).map (·.2)
noncomputable def fA kvs (k:Key) (v:PV) :=
 if (kvs.any λkv=>decide (kv.1=k))=true then kvs.map (λkv=>if kv.1=k then(kv.1,v) else kv) else kvs++[(k,v)]
noncomputable def ig:PV->Option Key
 | .int i=>fv (.inl i)
 | .str x=>fv (.inr x)
 | _=>SU
theorem fh{k}(e:ig x=fv k)(r:rel K ρ H x v):v=kV k:=by
 cases x<;>simp only[ig,reduceCtorEq,Xt] at e<;>(subst e;exact r)
abbrev RK(K:SV)(ρ :List Tp)(H:Hp)(kvs:List (Key × PV))(kws:List (Key × V)):Prop:=Vv (λ(p:Key × PV) (q:Key × V)=>p.1=q.1/\rel K ρ H p.2 q.2) kvs kws
theorem RK.val: ∀{kvs kws} k,RK K ρ H kvs kws->match aU kvs k,fI kws k with
  | some x,fv v=>rel K ρ H x v
  | none,SU=>True
  | _,_=>False
 | _,_,k,.nil=>trivial
 | _,_,k,.cons (a:=p) (b:=q) r t=>by
  have ih:=RK.val k t;unfold aU fI at ih ⊢;rw[aac,aac,<- r.1];by_cases e:p.1=k
  . simp only[e,decide_true];exact r.2
  . simp only[e,decide_false];exact ih
theorem RK.some{k}(r:RK K ρ H kvs kws)(e:aU kvs k=fv x): ∃ v,fI kws k=fv v/\rel K ρ H x v:=by
 have:=RK.val k r;rw[e] at this;cases q:fI kws k with
 | none=>rw[q] at this;exact U6 this
 | some v=>rw[q] at this;exact⟨v,rfl,this⟩
theorem RK.is k (r:RK K ρ H kvs kws):(fI kws k).isSome=(aU kvs k).isSome:=by
 have:=RK.val k r;cases p:aU kvs k<;>cases q:fI kws k<;>rw[p,q] at this<;>first | rfl | exact U6 this
theorem RK.len(r:RK K ρ H kvs kws):kvs.length=kws.length:=Xw r
theorem RK.any: ∀{kvs kws} k,RK K ρ H kvs kws->(kws.any λkv=>decide (kv.1=k))=kvs.any λkv=>decide (kv.1=k)
 | _,_,k,.nil=>rfl
 | _,_,k,.cons (a:=p) (b:=q) r t=>by rw[UX,UX,RK.any k t,r.1]
theorem RK.Ao{k}(h:rel K ρ H x v): ∀{kvs kws},RK K ρ H kvs kws->RK K ρ H (kvs.map λkv=>if kv.1=k then(kv.1,x) else kv) (kws.map λkv=>if kv.1=k then(kv.1,v) else kv)
 | _,_,.nil=> .nil
 | _,_,.cons (a:=p) (b:=q) a t=> .cons (by
   show(if p.1=k then(p.1,x) else p).1=(if q.1=k then(q.1,v) else q).1/\rel K ρ H (if p.1=k then(p.1,x) else p).2 (if q.1=k then(q.1,v) else q).2;rw[<- a.1];split
   . exact⟨rfl,h⟩
   . exact a) (RK.Ao h t)
theorem RK.snoc{k}(h:rel K ρ H x v): ∀{kvs kws},RK K ρ H kvs kws->RK K ρ H (kvs++[(k,x)]) (kws++[(k,v)])
 | _,_,.nil=> .cons ⟨rfl,h⟩ .nil
 | _,_,.cons a t=> .cons a (RK.snoc h t)
theorem RK.put{k}(r:RK K ρ H kvs kws)(h:rel K ρ H x v):RK K ρ H (fA kvs k x) (putK kws k v):=by
 unfold fA putK;rw[RK.any k r];split
 . exact RK.Ao h r
 . exact RK.snoc h r
def aW:PV->PV->PH->RV PV:=λx y h=>match x with
 | .tup xs=>(match y with
  | .int i=>(match fY xs i with | some v=> .ok v h | none=> .no)
  | _=> .no)
 | .ktup xs=>(match y with
  | .int i=>(match fY xs i with | some v=> .ok v h | none=> .no)
  | _=> .no)
 | .str z=>(match y with
  | .int i=>fC z.length (match fY z.cps.toList i with | some c=> .ok (.str ⟨#[c]⟩) h | none=> .no)
  | _=> .no)
 | .ref n=>(match h[n]? with
  | some (.dct kvs)=>(match ig y with
   | some k=>(match aU kvs k with | some v=> .ok v h | none=> .no)
   | none=> .no)
  | some (.lst xs)=>(match y with
   | .int i=>(match fY xs i with | some v=> .ok v h | none=> .no)
   | _=> .no)
  | some (.kq xs)=>(match y with
   | .int i=>(match fY xs i with | some v=> .ok v h | none=> .no)
   | _=> .no)
  | none=> .no)
 | _=> .no
theorem aB.at(r:aB K ρ H xs vs)(e:fY xs i=fv x): ∃ v,fY vs i=fv v/\rel K ρ H x v:=by
 unfold fY at e ⊢;rw[<- r.len];cases q:tV xs.length i with
 | none=>simp_all
 | some j =>
  rw [q] at e
  exact r.get e
noncomputable def So:R2:=λx y H Q=> ∃ a v,x= .ref a∧je H a y (fv v)∧Q v H
theorem xc(hu : X.A.units + 1 < VQ) : xu X So := by
  intro value slice pins s σ H x y v u Q I rx ry h hs;obtain ⟨a, w, rfl, g, q⟩ := h;obtain rfl : v = Tx a := rx;have hT := sN I g;refine SW ?_;refine SW (wpAny_specialOf hT Xj.lookup ?_);have fin : TC (TM X.prog X.w) X.A (Xp slice false (.ref a) u) (λr s₃ => TC (TM X.prog X.w) X.A (letTemporaryGo value (.ref a) r >>= λ_ => pure r) (EP X pins σ Q) X.xe s₃) X.xe s := by
    rw [hs];exact wpAny_operating (yn hu I g ry λw' s' I' r' => SW (YH (To ⟨w, H, I', r', q⟩)))
  first
    | exact To (SW fin)
    | exact SW (To (SW fin))
    | exact SW fin
theorem cW.hu(A:cW X pg k):X.A.units+1 < VQ:=Oo A.room
theorem Rg:cW X pg k-> ∃ r,xu X r/\jo X.K r aW:=λA=>⟨_,GF.or (xc A.hu),fun ρ h H x y x' y' Q v h' s rx ry q P=>by
 cases x with
 | tup xs =>
  cases y with
  | int i =>
   simp only[aW] at q
   split at q
   . rename_i w e;cases q;obtain⟨a,vs,rfl,z,r⟩:=rel.seq (x:= .tup xs) rfl rx;obtain⟨u,e1,e2⟩:=r.at e;exact .inl (.inr (.inl ⟨a,vs,i,u,rfl,ry,z,e1,P _ ρ H (.refl _ _) s e2⟩))
   . nomatch q
  | _=>cases q
 | ktup xs =>
  cases y with
  | int i =>
   simp only[aW] at q
   split at q
   . rename_i w e;cases q;obtain⟨a,vs,rfl,z,r⟩:=rel.seq (x:= .ktup xs) rfl rx;obtain⟨u,e1,e2⟩:=r.at e;exact .inl (.inr (.inl ⟨a,vs,i,u,rfl,ry,z,e1,P _ ρ H (.refl _ _) s e2⟩))
   . nomatch q
  | _=>cases q
 | str z =>
  cases y with
  | int i =>
   obtain⟨hl,q⟩:=iB.mp q
   split at q
   . rename_i c e;cases q;exact .inl (.inr (.inr ⟨z,i,c,rx,ry,hl,e,P _ ρ H (.refl _ _) s (by rw[rel])⟩))
   . nomatch q
  | _=>cases q
 | ref n =>
  simp only[aW] at q
  split at q
  . rename_i kvs e;split at q
    . rename_i key ek;split at q
      . rename_i w ew;cases q;obtain⟨a,ea,rfl⟩:=rx;obtain⟨kws,e1,e2⟩:=s.ob n _ a e ea;obtain⟨u,e3,e4⟩:=RK.some e2 ew;have:=fh ek ry;subst this;exact .inr ⟨a,u,rfl,e3 ▸ je.k (k:=key) e1,P _ ρ H (.refl _ _) s e4⟩
      . nomatch q
    . nomatch q
  . rename_i xs e;cases y with
    | int i =>
     simp only at q
     split at q
     . rename_i w ew;cases q;obtain⟨a,vs,rfl,_,z,r⟩:=s.lst e rx;obtain⟨u,e1,e2⟩:=r.at ew;exact .inl (.inl ⟨a,vs,i,u,rfl,ry,.of z,e1,P _ ρ H (.refl _ _) s e2⟩)
     . nomatch q
    | _=>nomatch q
  . rename_i xs e;cases y with
    | int i =>
     simp only at q
     split at q
     . rename_i w ew;cases q;obtain⟨a,vs,rfl,_,z,r⟩:=s.kq e rx;obtain⟨u,e1,e2⟩:=r.at ew;exact .inl (.inl ⟨a,vs,i,u,rfl,ry,z,e1,P _ ρ H (.refl _ _) s e2⟩)
     . nomatch q
    | _=>nomatch q
  . nomatch q
 | _=>cases q⟩
theorem NQ(hr:cW X pg k-> ∃ r,xu X r/\jo X.K r f)(ha:JE X pg k a ma)(hb:JE X pg k b mb)(hs:qh b):JE X pg k (.Subscript a b pos) (ai f ma mb):=⟨λA =>
 let ⟨_,q1,s1⟩:=ha.h A;let ⟨_,q2,s2⟩:=hb.h A;by obtain⟨_,q,s⟩:=hr A;exact⟨_,Ou q q1 q2 hs,vE s s1 s2⟩⟩
def lN:PV->PV->PV->PH->RV Unit:=λx y v h=>match x with
 | .ref n=>(match h[n]? with
  | some (.dct kvs)=>(match ig y with
   | some k=>if kvs.length < Ta then .ok () (h.set n (.dct (fA kvs k v))) else .no
   | none=> .no)
  | some (.lst xs)=>(match y with
   | .int i=>(match tV xs.length i with | some j=> .ok () (h.set n (.lst (xs.set j v))) | none=> .no)
   | _=> .no)
  | _=> .no)
 | _=> .no
noncomputable def Oy:JQ:=λo i v H Q=> ∃ a H',o= .ref a/\uS H a i v H'/\Q H'
theorem set_dict(hu:X.A.units+1 < VQ):oR X Oy:=by
 intro pins s σ H o i v ov iv u Q I ro ri rv h;obtain⟨a,H',rfl,g,q⟩:=h;obtain rfl:ov=Tx a:=ro;exact xY hu I g ri rv λs' I'=>⟨H',I',q⟩
theorem oR.or(h:oR X t)(h':oR X t'):oR X (λo i v H Q=>t o i v H Q\/t' o i v H Q):=by
 intro pins s σ H o i v ov iv u Q I ro ri rv q;rcases q with q | q
 . exact h pins s σ H o i v ov iv u Q I ro ri rv q
 . exact h' pins s σ H o i v ov iv u Q I ro ri rv q
theorem Of:cW X pg k-> ∃ t,oR X t/\ ∀ ρ h H x y v x' y' v' u h' Q,dt X.K ρ h H->rel X.K ρ H x x'->rel X.K ρ H y y'->rel X.K ρ H v v'->lN x y v h= .ok u h'->k8 X.K ρ H h' Q->t x' y' v' H Q:=λA =>
 ⟨_,oR.or set_list (set_dict A.hu),fun ρ h H x y v x' y' v' u h' Q s rx ry rv q P=>by
 cases x with
 | ref n =>
  simp only[lN] at q
  obtain⟨a,ea,rfl⟩:=rx
  split at q
  . rename_i kvs e;split at q
    . rename_i key ek;split at q
      . rename_i hl;cases q;obtain⟨kws,e1,e2⟩:=s.ob n _ a e ea;have:=fh ek ry;subst this;refine .inr ⟨a,_,rfl,uS.k e1 (by rw[<- RK.len e2];exact hl),?_⟩;have g:Gr ρ H ρ (upd H a (.dK (putK kws key v'))):=Gr.write (.inr ⟨_,e1⟩);exact P ρ _ g (s.write e ea rfl rfl ⟨_,bH,Paired.gG g (RK.put e2 rv)⟩)
      . nomatch q
    . nomatch q
  . rename_i xs e;cases y with
    | int i =>
     simp only at q
     split at q
     . rename_i j ej;cases q;obtain⟨vs,e1,e2⟩:=s.ob n _ a e ea;have g:Gr ρ H ρ (upd H a (.lst (vs.set j v'))):=Gr.write (.inl ⟨_,e1⟩);exact .inl ⟨a,vs,i,j,rfl,ry,e1,by rw[<- e2.len];exact ej,P ρ _ g (s.write e ea rfl rfl ⟨_,bH,aB.gr g _ _ (e2.set j rv)⟩)⟩
     . nomatch q
    | _=>cases q
  . nomatch q
 | _=>cases q⟩
end
mutual
def cM(K:SV)(H:Hp):Wz->V->Prop
 | .none,v=>v= .non
 | .bool b,v=>v= .bl b
 | .int i,v=>v= .int i
 | .str x,v=>v= .str x
 | .list xs,v=> ∃ a vs,v= .ref a/\gi K H a vs/\fO K H xs vs
 | .tuple xs,v=> ∃ a vs,v= .ref a/\fB K H a vs/\fO K H xs vs
 | .dict _,_=>False
def fO(K:SV)(H:Hp):List Wz->List V->Prop
 | [],vs=>vs=[]
 | x::r,vs=> ∃ v t,vs=v::t/\cM K H x v/\fO K H r t
end
mutual
theorem cM.reads{X:Cx}{pins:List (Tp × Obj)}{σ :L2.St}{H:Hp}{s:Tc}(I:Inv X pins σ H s): ∀(d:Wz)(v:V)(u:S5),cM X.K H d v->RelV v u-> ∃ as,Reads s.heap u d as
 | .none,v,u,h,r=>by rw[cM] at h;subst h;cases(show u=WB from r);exact⟨_,.none⟩
 | .bool b,v,u,h,r=>by rw[cM] at h;subst h;cases(show u=W7 b from r);exact⟨_,.bool b⟩
 | .int i,v,u,h,r=>by rw[cM] at h;subst h;obtain⟨t,rfl⟩:=(show ∃ t,u=XD i t from r);exact⟨_,.int i t⟩
 | .str x,v,u,h,r=>by rw[cM] at h;subst h;obtain⟨t,rfl⟩:=(show ∃ t,u=W4 x t from r);exact⟨_,.str x t⟩
 | .list xs,v,u,h,r=>by
  rw[cM] at h;obtain⟨a,vs,rfl,z,q⟩:=h;cases(show u=Tx a from r);obtain⟨az,rv,⟨o,n,e,c,_,dd⟩,_⟩:=I.list z;obtain⟨as,ra⟩:=fO.reads I xs vs az q rv;exact⟨_,.list e c dd (by simpa using ra)⟩
 | .tuple xs,v,u,h,r=>by
  rw[cM] at h;obtain⟨a,vs,rfl,z,q⟩:=h;cases(show u=Tx a from r);obtain⟨az,rv,⟨o,e,c,n,dd⟩,_⟩:=I.tuple z;obtain⟨as,ra⟩:=fO.reads I xs vs az q rv;exact⟨_,.tuple e c dd (by simpa using ra)⟩
 | .dict _,v,u,h,r=>by rw[cM] at h;exact h.elim
theorem fO.reads{X:Cx}{pins:List (Tp × Obj)}{σ :L2.St}{H:Hp}{s:Tc}(I:Inv X pins σ H s): ∀(xs:List Wz)(vs:List V)(us:List S5),fO X.K H xs vs->Vals vs us-> ∃ as,ReadsAll s.heap us xs as
 | [],vs,us,h,r=>by rw[fO] at h;subst h;cases r;exact⟨_,.nil⟩
 | x::t,vs,us,h,r=>by
  rw[fO] at h;obtain⟨v,w,rfl,h1,h2⟩:=h;cases r with
  | cons r1 r2 =>
   obtain⟨as,a⟩:=cM.reads I x v _ h1 r1
   obtain⟨bs,b⟩:=fO.reads I t w _ h2 r2
   exact⟨_,.cons a b⟩
end
mutual
def mM(sub:Nat->Option Wz):PV->Option Wz
 | .non=>fv .none
 | .bl b=>fv (.bool b)
 | .int i=>fv (.int i)
 | .str x=>fv (.str x)
 | .tup xs=>(dv sub xs).map .tuple
 | .ktup xs=>(dv sub xs).map .tuple
 | .ref n=>sub n
 | .ty _=>SU
def dv(sub:Nat->Option Wz):List PV->Option (List Wz)
 | []=>fv []
 | x::r=>match mM sub x,dv sub r with
  | some d1,fv ds1=>fv (d1::ds1)
  | _,_=>SU
end
noncomputable def dat:Nat->PH->PV->Option Wz
 | 0,_=>mM λ_=>SU
 | n+1,h=>mM λm=>match h[m]? with
  | some (.lst xs)=>(dv (λj=>dat n h (.ref j)) xs).map .list
  | some (.kq xs)=>(dv (λj=>dat n h (.ref j)) xs).map .list
  | _=>SU
mutual
theorem mM.v{K:SV}{ρ :List Tp}{H:Hp}{sub:Nat->Option Wz}(hs: ∀ n d v,sub n=fv d->rel K ρ H (.ref n) v->cM K H d v): ∀(x:PV)(d:Wz)(v:V),mM sub x=fv d->rel K ρ H x v->cM K H d v
 | .non,d,v,e,r=>by cases e;rw[rel] at r;rw[cM];exact r
 | .bl b,d,v,e,r=>by cases e;rw[rel] at r;rw[cM];exact r
 | .int b,d,v,e,r=>by cases e;rw[rel] at r;rw[cM];exact r
 | .str b,d,v,e,r=>by cases e;rw[rel] at r;rw[cM];exact r
 | .ty b,d,v,e,r=>by nomatch e
 | .ref n,d,v,e,r=>hs n d v e r
 | .tup xs,d,v,e,r=>by
  rw[mM] at e;cases q:dv sub xs with
  | none=>rw[q] at e;nomatch e
  | some ds =>
   rw[q] at e;cases e
   obtain⟨a,vs,e1,e2,e3⟩:=rel.seq (x:= .tup xs) rfl r
   rw[cM];exact⟨a,vs,e1,e2,dv.v hs xs ds vs q e3⟩
 | .ktup xs,d,v,e,r=>by
  rw[mM] at e;cases q:dv sub xs with
  | none=>rw[q] at e;nomatch e
  | some ds =>
   rw[q] at e;cases e
   obtain⟨a,vs,e1,e2,e3⟩:=rel.seq (x:= .ktup xs) rfl r
   rw[cM];exact⟨a,vs,e1,e2,dv.v hs xs ds vs q e3⟩
theorem dv.v{K:SV}{ρ :List Tp}{H:Hp}{sub:Nat->Option Wz}(hs: ∀ n d v,sub n=fv d->rel K ρ H (.ref n) v->cM K H d v): ∀(xs:List PV)(ds:List Wz)(vs:List V),dv sub xs=fv ds->aB K ρ H xs vs->fO K H ds vs
 | [],ds,vs,e,r=>by cases e;rw[aB] at r;rw[fO];exact r
 | x::t,ds,vs,e,r=>by
  rw[dv] at e;split at e
  . rename_i d ds' e1 e2;cases e;obtain⟨v,w,rfl,r1,r2⟩:=aN.mp r;rw[fO];exact⟨v,w,rfl,mM.v hs x d v e1 r1,dv.v hs t ds' w e2 r2⟩
  . nomatch e
end
theorem dat.v{K}(s:dt K ρ h H): ∀ n x d v,dat n h x=fv d->rel K ρ H x v->cM K H d v
 | 0,x,d,v,e,r=>mM.v (λ_ _ _ z _=>by cases z) x d v e r
 | n+1,x,d,v,e,r=>by
  refine mM.v (λm d' v' z rv=>?_) x d v e r;split at z
  . rename_i xs em;cases q:dv (λj=>dat n h (.ref j)) xs with
    | none=>rw[q] at z;nomatch z
    | some ds =>
     rw[q] at z;cases z
     obtain⟨a,vs,e1,_,e2,e3⟩:=s.lst em rv
     exact⟨a,vs,e1,.of e2,dv.v (λj d v z rv=>dat.v s n (.ref j) d v z rv) xs ds vs q e3⟩
  . rename_i xs em;cases q:dv (λj=>dat n h (.ref j)) xs with
    | none=>rw[q] at z;nomatch z
    | some ds =>
     rw[q] at z;cases z
     obtain⟨a,vs,e1,_,e2,e3⟩:=s.kq em rv
     exact⟨a,vs,e1,e2,dv.v (λj d v z rv=>dat.v s n (.ref j) d v z rv) xs ds vs q e3⟩
  . cases z
section
variable{K:SV}{X:Cx}{pg:Tb}{k:Nat}
noncomputable def N7(K:SV)(f:Bool->Bool):R2:=λx y H Q=> ∃ d d',cM K H d x/\cM K H d' y/\d.canLay0=true/\d'.canLay0=true/\min d.depth d'.depth<=64/\Q (.bl (f (Xf d d'))) H
theorem Kn(hr:X.A.units+64 < VQ):cG X (Tw .Eq) (N7 X.K id):=by
 rintro pins s σ H x y v u Q I rx ry ⟨d,d',h1,h2,c1,c2,hd,q⟩;obtain⟨as,ra⟩:=cM.reads I d x v h1 rx;obtain⟨bs,rb⟩:=cM.reads I d' y u h2 ry;exact SeqAt.compareEq_reads ra rb c1 c2 (by omega) ⟨.bl _,H,I,rfl,q⟩
theorem GQ(hr:X.A.units+64 < VQ):cG X (Tw .NotEq) (N7 X.K not):=by
 rintro pins s σ H x y v u Q I rx ry ⟨d,d',h1,h2,c1,c2,hd,q⟩;obtain⟨as,ra⟩:=cM.reads I d x v h1 rx;obtain⟨bs,rb⟩:=cM.reads I d' y u h2 ry;exact SeqAt.compareNe_reads ra rb c1 c2 (by omega) ⟨.bl _,H,I,rfl,q⟩
noncomputable def iE:PV->PV->Bool
 | .non,.non=>true | .non,.int _=>true | .int _,.non=>true | .non,.bl _=>true | .bl _,.non=>true | .non,.str _=>true | .str _,.non=>true
 | .int _,.int _=>true | .bl _,.bl _=>true | .str _,.str _=>true
 | .int _,.str _=>true | .str _,.int _=>true | .bl _,.str _=>true | .str _,.bl _=>true
 | _,_=>false
noncomputable def f9(h:PH):PV->Bool
 | .ref n=>(match h[n]? with
  | some (.dct _)=>true
  | _=>false)
 | _=>false
noncomputable def isStr:PV->Bool
 | .str _=>true
 | _=>false
def alike x y h :=
 if iE x y=true then fv (decide (x=y)) else match dat 6 h x,dat 6 h y with
  | some a,fv b=>if a.canLay0=true/\b.canLay0=true/\min a.depth b.depth<=64 then fv (Xf a b) else SU
  | _,_=>if f9 h x=true/\isStr y=true then fv false else SU
def hU(x y:PV)(h:PH):RV PV:=match alike x y h with
 | some b=> .ok (.bl b) h
 | none=> .no
def i8(x y:PV)(h:PH):RV PV:=match alike x y h with
 | some b=>if f9 h x=true then .no else .ok (.bl (!b)) h
 | none=> .no
theorem BM{ρ : List Tp}{H : Hp}{x y : PV}{x' y' : V}(h : iE x y = true)(rx : rel K ρ H x x')(ry : rel K ρ H y y') : DD x' y' = true /\ decide (x' = y') = decide (x = y) := by
  cases x <;> cases y <;> first
    | exact absurd (show false = true from h) Tn
    | (rw [rel] at rx; rw [rel] at ry; subst rx; subst ry; exact ⟨rfl, by simp⟩)
theorem nj(s:dt K ρ h H)(rx:rel K ρ H x x')(ry:rel K ρ H y y')(e:alike x y h=fv b) :
  (DD x' y'=true∧b=decide (x'=y'))∨(∃ d d',cM K H d x'∧cM K H d' y'∧d.canLay0=true∧d'.canLay0=true∧min d.depth d'.depth<=64∧b=Xf d d') ∨
  (f9 h x=true∧b=false∧ ∃ p z,x'= .ref p∧y'= .str z∧ ∃ kvs,H p=fv (.dK kvs)):=by
 unfold alike at e;split at e
 . rename_i hs;cases e;obtain⟨z,w⟩:=BM hs rx ry;exact .inl ⟨z,w.symm⟩
 . split at e
   . rename_i a c e1 e2;split at e
     . rename_i hc;cases e;exact .inr (.inl ⟨a,c,dat.v s 6 x a x' e1 rx,dat.v s 6 y c y' e2 ry,hc.1,hc.2.1,hc.2.2,rfl⟩)
     . nomatch e
   . split at e
     . rename_i hc;cases e;refine .inr (.inr ⟨hc.1,rfl,?_⟩);obtain⟨c1,c2⟩:=hc;cases x with
       | ref n =>
        cases y with
        | str z =>
         obtain⟨a,ea,rfl⟩:=rx
         simp only[f9] at c1
         split at c1
         . rename_i kvs en;obtain⟨kws,e1,_⟩:=s.ob n _ a en ea;exact⟨a,z,rfl,ry,kws,e1⟩
         . cases c1
        | _=>cases c2
       | _=>cases c1
     . nomatch e
theorem Nf:cW X pg k-> ∃ r,cG X (Tw .Eq) r/\jo X.K r hU:=λA=>⟨_,Nj.or ((Kn A.room.units).or (wg A.room.ui)),fun ρ h H x y x' y' Q v h' s rx ry q P=>by
 unfold hU at q;split at q
 . rename_i b e;cases q;have fin:=P _ ρ H (.refl _ _) s (by rw[rel]);rcases nj s rx ry e with⟨z,rfl⟩ | ⟨d,d',h1,h2,h3,h4,h5,rfl⟩ | ⟨_,rfl,p,z,e1,e2,kvs,e3⟩
   . exact .inl ⟨z,fin⟩
   . exact .inr (.inl ⟨d,d',h1,h2,h3,h4,h5,fin⟩)
   . exact .inr (.inr ⟨p,z,e1,e2,.inr (.inr ⟨kvs,e3⟩),fin⟩)
 . cases q⟩
theorem QX:cW X pg k-> ∃ r,cG X (Tw .NotEq) r/\jo X.K r i8:=λA=>⟨_,L6.or (GQ A.room.units),fun ρ h H x y x' y' Q v h' s rx ry q P=>by
 unfold i8 at q;split at q
 . rename_i b e;split at q
   . nomatch q
   . rename_i hd;cases q;have fin:=P _ ρ H (.refl _ _) s (by rw[rel]);rcases nj s rx ry e with⟨z,rfl⟩ | ⟨d,d',h1,h2,h3,h4,h5,rfl⟩ | ⟨z,_⟩
     . exact .inl ⟨z,fin⟩
     . exact .inr ⟨d,d',h1,h2,h3,h4,h5,fin⟩
     . exact absurd z hd
 . nomatch q⟩
noncomputable def NM(K:SV)(f:Bool->Bool):R2:=λx y H Q=> ∃ p vs xs d,y= .ref p/\(gi K H p vs\/fB K H p vs)/\fO K H xs vs/\cM K H d x/\Xv xs=true/\d.canLay0=true/\min (Yq xs) d.depth<=60/\Q (.bl (f (xs.any λz=>Xf z d))) H
theorem Iz(hr:X.A.units+64 < VQ):cG X (Tw .In) (NM X.K id):=by
 rintro pins s σ H x y v u Q I rx ry ⟨p,vs,xs,d,e,hq,h1,h2,c1,c2,hd,q⟩;subst e;obtain⟨bs,rb⟩:=cM.reads I d x v h2 rx;rcases hq with hq | hq
 . obtain⟨as,ra⟩:=cM.reads I (.list xs) (.ref p) u (by exact⟨p,vs,rfl,hq,h1⟩) ry;exact SeqAt.in_list_reads ra rb c1 c2 (by omega) ⟨.bl _,H,I,rfl,q⟩
 . obtain⟨as,ra⟩:=cM.reads I (.tuple xs) (.ref p) u (by exact⟨p,vs,rfl,hq,h1⟩) ry;exact SeqAt.in_tuple_reads ra rb c1 c2 (by omega) ⟨.bl _,H,I,rfl,q⟩
theorem xC(hr:X.A.units+64 < VQ):cG X (Tw .NotIn) (NM X.K not):=by
 rintro pins s σ H x y v u Q I rx ry ⟨p,vs,xs,d,e,hq,h1,h2,c1,c2,hd,q⟩;subst e;obtain⟨bs,rb⟩:=cM.reads I d x v h2 rx;rcases hq with hq | hq
 . obtain⟨as,ra⟩:=cM.reads I (.list xs) (.ref p) u (by exact⟨p,vs,rfl,hq,h1⟩) ry;exact SeqAt.notIn_list_reads ra rb c1 c2 (by omega) ⟨.bl _,H,I,rfl,q⟩
 . obtain⟨as,ra⟩:=cM.reads I (.tuple xs) (.ref p) u (by exact⟨p,vs,rfl,hq,h1⟩) ry;exact SeqAt.notIn_tuple_reads ra rb c1 c2 (by omega) ⟨.bl _,H,I,rfl,q⟩
noncomputable def Mp(f:Bool->Bool):R2:=λx y H Q=> ∃ a o,y= .ref a/\je H a x o/\Q (.bl (f o.isSome)) H
theorem HR(hu:X.A.units+1 < VQ):cG X (Tw .In) (Mp id):=by
 rintro pins s σ H x y v u Q I rx ry ⟨a,o,e,g,q⟩;subst e;obtain rfl:u=Tx a:=ry;exact Q8 hu I g rx λs' I'=>⟨.bl _,H,I',rfl,q⟩
theorem xO(hu:X.A.units+1 < VQ):cG X (Tw .NotIn) (Mp not):=by
 rintro pins s σ H x y v u Q I rx ry ⟨a,o,e,g,q⟩;subst e;obtain rfl:u=Tx a:=ry;exact DU hu I g rx λs' I'=>⟨.bl _,H,I',rfl,q⟩
def itemsOf(h:PH):PV->Option (List PV)
 | .tup xs=>fv xs
 | .ktup xs=>fv xs
 | .ref n=>cH h n
 | _=>SU
theorem dt.items(s:dt K ρ h H)(e:itemsOf h x=fv xs)(r:rel K ρ H x v): ∃ a vs,v= .ref a/\(gi K H a vs\/fB K H a vs)/\aB K ρ H xs vs:=by
 cases x with
 | tup ys=>cases e;obtain⟨a,vs,e1,e2,e3⟩:=rel.seq (x:= .tup xs) rfl r;exact⟨a,vs,e1,.inr e2,e3⟩
 | ktup ys=>cases e;obtain⟨a,vs,e1,e2,e3⟩:=rel.seq (x:= .ktup xs) rfl r;exact⟨a,vs,e1,.inr e2,e3⟩
 | ref n=>obtain⟨a,vs,e1,_,e2,e3⟩:=s.sq e r;exact⟨a,vs,e1,.inl e2,e3⟩
 | _=>cases e
noncomputable def d7:PV->Bool
 | .non=>true
 | .bl _=>true
 | .int _=>true
 | .str _=>true
 | _=>false
noncomputable def vM:PV->PV->Bool
 | .non,.non=>true
 | .bl a,.bl b=>a == b
 | .bl a,.int b=>(if a then 1 else 0) == b
 | .int a,.bl b=>a == (if b then 1 else 0)
 | .int a,.int b=>a == b
 | .str a,.str b=>a == b
 | _,_=>false
theorem tT(h:d7 x=true)(r:rel K ρ H x v):hZ v=true:=by
 cases x<;>first | (revert h;simp [d7];done) | (subst r;rfl)
theorem C0(hx : d7 x = true)(hy : d7 y = true)(rx : rel K ρ H x v)(ry : rel K ρ H y w) : Cv v w = vM x y := by
  cases x <;> first
    | (exfalso; revert hx; simp [d7]; done)
    | (cases y <;> first
        | (exfalso; revert hy; simp[d7]; done)
        | (subst rx; subst ry; rfl))
theorem Fm(hx:d7 x=true)(rx:rel K ρ H x v): ∀{xs vs},xs.all d7=true->aB K ρ H xs vs->vs.all hZ=true/\LI v vs=xs.any λz=>vM z x
 | [],vs,_,r=>by subst r;exact⟨rfl,rfl⟩
 | y::t,vs,h,r=>by
  obtain⟨w,u,rfl,r1,r2⟩:=aN.mp r;simp only[Td,Ub] at h;obtain⟨a,b⟩:=Fm hx rx h.2 r2;refine⟨by rw[Ub,tT h.1 r1,a];rfl,?_⟩;unfold LI at b ⊢;rw[UX,UX,b,C0 h.1 hx r1 rx]
def isIn(x y:PV)(h:PH):Option Bool:=match itemsOf h y with
 | some xs=>if (d7 x&&xs.all d7)=true then fv (xs.any λz=>vM z x) else(match dat 6 h x,dv (λj=>dat 6 h (.ref j)) xs with
  | some d,fv ds=>if Xv ds=true/\d.canLay0=true/\min (Yq ds) d.depth<=60 then fv (ds.any λz=>Xf z d) else SU
  | _,_=>SU)
 | none=>(match y with
  | .ref n=>(match h[n]? with
   | some (.dct kvs)=>(ig x).map λk=>(aU kvs k).isSome
   | _=>SU)
  | .str j=>(match x with
   | .str i=>fv (!(UG j i 0 j.length 1).isEmpty)
   | _=>SU)
  | _=>SU)
def fK(x y:PV)(h:PH):RV PV:=match isIn x y h with
 | some b=> .ok (.bl b) h
 | none=> .no
def cX(x y:PV)(h:PH):RV PV:=match isIn x y h with
 | some b=> .ok (.bl (!b)) h
 | none=> .no
theorem pX(s:dt K ρ h H)(rx:rel K ρ H x x')(ry:rel K ρ H y y')(e:isIn x y h=fv b) :
  (∃ p xs,y'= .ref p/\(gi K H p xs\/fB K H p xs)/\hZ x'=true/\xs.all hZ=true/\b=LI x' xs) \/
  (∃ p vs xs d,y'= .ref p/\(gi K H p vs\/fB K H p vs)/\fO K H xs vs/\cM K H d x'/\Xv xs=true/\d.canLay0=true/\min (Yq xs) d.depth<=60/\b=xs.any λz=>Xf z d) \/
  (∃ a o,y'= .ref a/\je H a x' o/\b=o.isSome) \/
  (∃ i j,x'= .str i/\y'= .str j/\b= !(UG j i 0 j.length 1).isEmpty):=by
 unfold isIn at e;split at e
 . rename_i xs ei;obtain⟨a,vs,rfl,z,r⟩:=s.items ei ry;split at e
   . rename_i hf;cases e;rw[Td] at hf;obtain⟨f1,f2⟩:=Fm hf.1 rx hf.2 r;exact .inl ⟨a,vs,rfl,z,tT hf.1 rx,f1,f2.symm⟩
   . split at e
     . rename_i d ds e1 e2;split at e
       . rename_i hc;cases e;exact .inr (.inl ⟨a,vs,ds,d,rfl,z,dv.v (λj d v w rv=>dat.v s 6 (.ref j) d v w rv) xs ds vs e2 r,dat.v s 6 x d x' e1 rx,hc.1,hc.2.1,hc.2.2,rfl⟩)
       . nomatch e
     . nomatch e
 . split at e
   . rename_i n ei;split at e
     . rename_i kvs en;cases q:ig x with
       | none=>simp_all
       | some key =>
        rw[q] at e
        cases e
        obtain⟨a,ea,rfl⟩:=ry
        obtain⟨kws,e1,e2⟩:=s.ob n _ a en ea
        have:=fh q rx
        subst this
        exact .inr (.inr (.inl ⟨a,_,rfl,je.k (k:=key) e1,(RK.is key e2).symm⟩))
     . simp_all
   . split at e
     . cases e;exact .inr (.inr (.inr ⟨_,_,rx,ry,rfl⟩))
     . nomatch e
   . nomatch e
theorem NU:cW X pg k-> ∃ r,cG X (Tw .In) r/\jo X.K r fK:=λA=>⟨_,w6.or ((Iz A.room.units).or ((HR A.hu).or yg)),fun ρ h H x y x' y' Q v h' s rx ry q P=>by
 unfold fK at q;split at q
 . rename_i b e;cases q;have fin:=P _ ρ H (.refl _ _) s (by rw[rel]);rcases pX s rx ry e with⟨p,xs,e1,e2,e3,e4,rfl⟩ | ⟨p,vs,xs,d,e1,e2,e3,e4,e5,e6,e7,rfl⟩ | ⟨a,o,e1,e2,rfl⟩ | ⟨i,j,e1,e2,rfl⟩
   . exact .inl ⟨p,xs,e1,e2,e3,e4,fin⟩
   . exact .inr (.inl ⟨p,vs,xs,d,e1,e2,e3,e4,e5,e6,e7,fin⟩)
   . exact .inr (.inr (.inl ⟨a,o,e1,e2,fin⟩))
   . exact .inr (.inr (.inr ⟨i,j,e1,e2,fin⟩))
 . cases q⟩
theorem C6:cW X pg k-> ∃ r,cG X (Tw .NotIn) r/\jo X.K r cX:=λA=>⟨_,ql.or ((xC A.room.units).or ((xO A.hu).or qr)),fun ρ h H x y x' y' Q v h' s rx ry q P=>by
 unfold cX at q;split at q
 . rename_i b e;cases q;have fin:=P _ ρ H (.refl _ _) s (by rw[rel]);rcases pX s rx ry e with⟨p,xs,e1,e2,e3,e4,rfl⟩ | ⟨p,vs,xs,d,e1,e2,e3,e4,e5,e6,e7,rfl⟩ | ⟨a,o,e1,e2,rfl⟩ | ⟨i,j,e1,e2,rfl⟩
   . exact .inl ⟨p,xs,e1,e2,e3,e4,fin⟩
   . exact .inr (.inl ⟨p,vs,xs,d,e1,e2,e3,e4,e5,e6,e7,fin⟩)
   . exact .inr (.inr (.inl ⟨a,o,e1,e2,fin⟩))
   . exact .inr (.inr (.inr ⟨i,j,e1,e2,fin⟩))
 . cases q⟩
noncomputable def gz(neg:Bool)(x:PV)(h:PH):RV PV:= .ok (.bl (if neg then !decide (x= .non) else decide (x= .non))) h
theorem EM(r:rel K ρ H x v):decide (v= .non)=decide (x= .non):=by
 cases x with
 | non=>subst r;rfl
 | bl=>subst r;rfl
 | int=>subst r;rfl
 | str=>subst r;rfl
 | ty=>subst r;rfl
 | tup=>obtain⟨a,_,rfl,_⟩:=r;rfl
 | ktup=>obtain⟨a,_,rfl,_⟩:=r;rfl
 | ref=>obtain⟨a,_,rfl⟩:=r;rfl
variable{a:Uh}{ma:ME}{pos pos':Pos}
theorem uH(neg:Bool)(s1:SE c K ta ma):SE c K (fun σ H Q=>ta σ H λx H1=>Q (.bl (if neg then !decide (x= .non) else decide (x= .non))) H1) (rq (gz neg) ma):=fun ρ h H e σ Q v h' s r q P=>by
 obtain⟨x,h1,e1,q⟩:=bind_eq.mp q;cases q;refine s1 ρ h H e σ _ x _ s r e1 λx' ρ1 H1 g1 z1 r1=>?_;rw[EM r1];exact P _ ρ1 H1 g1 z1 (by rw[rel])
theorem HX(ha:JE X pg k a ma):JE X pg k (.Compare a [.Is] [.Constant .none j pos'] pos) (rq (gz false) ma):=⟨λA=>by obtain⟨_,q1,s1⟩:=ha.h A;exact⟨_,IC q1,uH false s1⟩⟩
theorem KG(ha:JE X pg k a ma):JT X pg k (.Compare a [.Is] [.Constant .none j pos'] pos) (ao (rq (gz false) ma)):=⟨λA=>by obtain⟨_,q1,s1⟩:=ha.h A;exact⟨_,IW q1,kN (uH false s1)⟩⟩
theorem DK(ha:JE X pg k a ma):JT X pg k (.Compare a [.IsNot] [.Constant .none j pos'] pos) (ao (rq (gz true) ma)):=⟨λA=>by obtain⟨_,q1,s1⟩:=ha.h A;exact⟨_,E9 q1,kN (uH true s1)⟩⟩
end
section
variable{K:SV}{X:Cx}{pg:Tb}{k:Nat}
abbrev MO:=CF->a9->PH->RV (Option Int)
noncomputable def aR:MO:=λ_ _ h=> .ok SU h
def aK(a:ME):MO:=λc e h=>(a c e h).bind λv h1=>match v with
 | .int i=> .ok (fv i) h1
 | _=> .no
def bV(xs:List PV)(lo hi:Option Int):=(xs.drop (HT.eF xs.length 0 lo)).take (HT.eF xs.length xs.length hi - HT.eF xs.length 0 lo)
def FC(x:PV)(lo hi:Option Int)(h:PH):RV PV:=match x with
 | .tup xs=> .ok (.tup (bV xs lo hi)) h
 | .ref n=>(match cH h n with
  | some xs=> .ok (.ref h.length) (h++[.lst (bV xs lo hi)])
  | none=> .no)
 | _=> .no
def dR(a:ME)(l u:MO):ME:=λc e h=>(a c e h).bind λx h1=>(l c e h1).bind λlo h2=>(u c e h2).bind λhi h3=>FC x lo hi h3
structure JO(X:Cx)(pg:Tb)(k:Nat)(e:Option Uh)(m:MO):Prop where
 h:cW X pg k-> ∃ t,QO X e t/\ ∀ ρ h H e σ Q o h',dt X.K ρ h H->fg X.K ρ H e σ ->m (run pg k) e h= .ok o h'->k8 X.K ρ H h' (Q o)->t σ H Q
theorem Ce:JO X pg k SU aR:=⟨λA=>⟨_,Cd,fun ρ h H e σ Q o h' s r q P=>by cases q;exact P ρ H (.refl _ _) s⟩⟩
theorem Eu(ha:JE X pg k e ma):JO X pg k (fv e) (aK ma):=⟨λA=>by obtain⟨_,q1,s1⟩:=ha.h A;exact⟨_,EJ q1,fun ρ h H e σ Q o h' s r q P=>by
 obtain⟨v,h1,e1,q⟩:=bind_eq.mp q;refine s1 ρ h H e σ _ v h1 s r e1 λv' ρ1 H1 g1 z1 r1=>?_;cases v with
 | int i=>cases q;exact⟨i,r1,P ρ1 H1 g1 z1⟩
 | _=>cases q⟩⟩
theorem aB.cut(r:aB K ρ H xs vs) lo hi:aB K ρ H (bV xs lo hi) (lL vs lo hi):=by
 unfold bV lL;rw[<- r.len];exact(r.drop _).take _
theorem Be{lo p2}(ha:JE X pg k e ma)(hl:JO X pg k lo ml)(hh:JO X pg k hi mu):JE X pg k (.Subscript e (.Slice lo hi SU p2) pos) (dR ma ml mu):=⟨λA =>
 by obtain⟨_,q1,s1⟩:=ha.h A;exact by obtain⟨_,q2,s2⟩:=hl.h A;exact by obtain⟨_,q3,s3⟩:=hh.h A;exact⟨_,yS Sx q1 q2 q3,fun ρ h H e σ Q v h' s r q P=>by
 obtain⟨x,h1,e1,q⟩:=bind_eq.mp q
 obtain⟨lo,h2,e2,q⟩:=bind_eq.mp q
 obtain⟨hi,h3,e3,q⟩:=bind_eq.mp q
 refine s1 ρ h H e σ _ x h1 s r e1 λx' ρ1 H1 g1 z1 r1=>?_
 refine s2 ρ1 h1 H1 e σ _ lo h2 z1 (r.gr g1) e2 fun ρ2 H2 g2 z2=>?_
 refine s3 ρ2 h2 H2 e σ _ hi h3 z2 (r.gr (g1.trans g2)) e3 fun ρ3 H3 g3 z3=>?_
 have r3:=rel.gr (K:=X.K) (g2.trans g3) _ _ r1
 have P3:=P.gr ((g1.trans g2).trans g3)
 cases x with
 | tup xs =>
  cases q
  obtain⟨a,vs,rfl,d1,d2⟩:=r3
  by_cases hw:HT.eF vs.length 0 lo=0/\HT.eF vs.length vs.length hi=vs.length
  . refine .inr (.inr ⟨a,vs,rfl,.of d1,hw,P3 _ ρ3 H3 (.refl _ _) z3 ?_⟩);have:bV xs lo hi=xs:=by
     unfold bV;rw[d2.len,hw.1,hw.2,YL,ZI,<- d2.len,ZX]
    rw[this];exact⟨a,vs,rfl,d1,d2⟩
  . exact .inr (.inl ⟨a,vs,rfl,.of d1,hw,λp hp=>lS z3 (d2.cut lo hi) P3 p hp⟩)
 | ref n =>
  simp only[FC] at q
  split at q
  . rename_i xs en;cases q;obtain⟨a,vs,rfl,_,d1,d2⟩:=z3.sq en r3;exact .inl ⟨a,vs,rfl,d1,λp hp=>g7 z3 (d2.cut lo hi) P3 p hp⟩
  . cases q
 | _=>cases q⟩⟩
def aO:List PV->PH->RV PV:=λxs h=>match xs with
 | [x]=>(match itemsOf h x with
  | some ys=> .ok (.int ys.length) h
  | none=>(match x with
   | .str z=>fC z.length (.ok (.int z.length) h)
   | .ref n=>(match h[n]? with
    | some (.dct kvs)=> .ok (.int kvs.length) h
    | _=> .no)
   | _=> .no))
 | _=> .no
theorem bQ(r:aB K ρ H [x] us): ∃ u,us=[u]/\rel K ρ H x u:=by
 obtain⟨v,t,rfl,r1,r2⟩:=aN.mp r;exact⟨v,by rw[r2],r1⟩
theorem tE(r:aB K ρ H [x,y] us): ∃ u w,us=[u,w]/\rel K ρ H x u/\rel K ρ H y w:=by
 obtain⟨v,t,rfl,r1,r2⟩:=aN.mp r;obtain⟨w,rfl,r3⟩:=bQ r2;exact⟨v,w,rfl,r1,r3⟩
theorem Oi:cW X pg k-> ∃ r,bO X (.builtin "len") r/\E8 X.K r aO:=λA=>⟨_,Dz.or xy,fun ρ h H xs us Q v h' s r q P=>by
 unfold aO at q;split at q
 . obtain⟨u,rfl,r1⟩:=bQ r;have r:=r1;split at q
   . rename_i ys e;cases q;obtain⟨a,vs,rfl,z,r2⟩:=s.items e r;exact .inl (.inl ⟨a,vs,rfl,z,by rw[<- r2.len];exact P _ ρ H (.refl _ _) s (by rw[rel])⟩)
   . split at q
     . obtain⟨hl,q⟩:=iB.mp q;cases q;subst r;exact .inl (.inr ⟨_,rfl,hl,P _ ρ H (.refl _ _) s (by rw[rel])⟩)
     . split at q
       . rename_i e;cases q;obtain⟨a,ea,rfl⟩:=r;obtain⟨kws,e1,e2⟩:=s.ob _ _ a e ea;exact .inr ⟨a,kws,rfl,e1,by rw[<- RK.len e2];exact P _ ρ H (.refl _ _) s (by rw[rel])⟩
       . nomatch q
     . nomatch q
 . nomatch q⟩
inductive Ty where
 | non | bool | int | str | tuple | list | dict
 deriving DecidableEq
noncomputable def Ty.n:Ty->String
 | .non=> "NoneType" | .bool=> "bool" | .int=> "int" | .str=> "str" | .tuple=> "tuple" | .list=> "list" | .dict=> "dict"
noncomputable def Ty.of:String->Option Ty
 | "bool" =>fv .bool | "int" =>fv .int | "str" =>fv .str | "tuple" =>fv .tuple | "list" =>fv .list | "dict" =>fv .dict
 | _=>SU
noncomputable def Ty.MX(a b:Ty):=decide (a=b)||(decide (a= .bool)&&decide (b= .int))
def tyP(h:PH):PV->Option Ty
 | .non=>fv .non
 | .bl _=>fv .bool
 | .int _=>fv .int
 | .str _=>fv .str
 | .tup _=>fv .tuple
 | .ref n=>(match h[n]? with
  | some (.lst _)=>fv .list
  | some (.dct _)=>fv .dict
  | _=>SU)
 | _=>SU
theorem zD(s:dt K ρ h H)(e:tyP h x=fv t)(r:rel K ρ H x v):jc K H v (.type t.n):=by
 cases x with
 | non=>cases e;subst r;exact .non
 | bl b=>cases e;subst r;exact .bl b
 | int i=>cases e;subst r;exact .int i
 | str z=>cases e;subst r;exact .str z
 | tup xs=>cases e;obtain⟨a,vs,rfl,e1,_⟩:=r;exact .tup e1
 | ref n =>
  obtain⟨a,ea,rfl⟩:=r
  simp only[tyP] at e
  split at e
  . rename_i en;cases e;obtain⟨vs,e1,_⟩:=s.ob n _ a en ea;exact .lst e1
  . rename_i en;cases e;obtain⟨vs,e1,_⟩:=s.ob n _ a en ea;exact .dK e1
  . cases e
 | _=>cases e
theorem Ak(a b:Ty)(hb:b≠ .non):Xa K (.type a.n) (.type b.n)=fv (a.MX b):=by
 cases b<;>first | (exact absurd rfl hb) | (cases a<;>rfl)
theorem Ty.NO(h:Ty.of T=fv t):T=t.n/\t≠ .non:=by
 unfold Ty.of at h;split at h<;>first | (cases h;exact⟨rfl,by decide⟩) | cases h
def wO:List PV->Option (List Ty)
 | []=>fv []
 | .ty T::r=>(match Ty.of T,wO r with
  | some t,fv ts=>fv (t::ts)
  | _,_=>SU)
 | _=>SU
def aP:List PV->PH->RV PV:=λxs h=>match xs with
 | [x,.ty T]=>(match tyP h x,Ty.of T with
  | some a,fv b=> .ok (.bl (a.MX b)) h
  | _,_=> .no)
 | [x,.tup ts]=>(match tyP h x,wO ts with
  | some a,fv bs=> .ok (.bl (bs.any a.MX)) h
  | _,_=> .no)
 | _=> .no
theorem wH: ∀{ts bs vs},wO ts=fv bs->aB K ρ H ts vs->vs=(bs.map Ty.n).map V.ty/\ ∀ b∈bs,b≠ .non
 | [],bs,vs,e,r=>by cases e;subst r;exact⟨rfl,λ_ m=>by cases m⟩
 | .ty T::t,bs,vs,e,r=>by
  simp only[wO] at e;split at e
  . rename_i b bs' e1 e2;cases e;obtain⟨v,w,rfl,r1,r2⟩:=aN.mp r;obtain⟨h1,h2⟩:=wH e2 r2;obtain⟨n1,n2⟩:=Ty.NO e1;refine⟨by rw[r1,h1,n1];rfl,λc m=>?_⟩;rcases Tq.mp m with rfl | m
    . exact n2
    . exact h2 c m
  . cases e
 | .non::_,_,_,e,_=>by cases e
 | .bl _::_,_,_,e,_=>by cases e
 | .int _::_,_,_,e,_=>by cases e
 | .str _::_,_,_,e,_=>by cases e
 | .tup _::_,_,_,e,_=>by cases e
 | .ktup _::_,_,_,e,_=>by cases e
 | .ref _::_,_,_,e,_=>by cases e
theorem vA(a:Ty): ∀(bs:List Ty),(∀ b∈bs,b≠ .non)->YQ K (.type a.n) ((bs.map Ty.n).map V2)=fv (bs.any a.MX)
 | [],_=>rfl
 | b::r,h=>by
  have h1:=Ak (K:=K) a b (h b S8);have h2:=vA a r λc m=>h c (S9 _ m);simp only[S7,UX,YQ,h1,h2];cases a.MX b<;>rfl
theorem OB:cW X pg k-> ∃ r,bO X (.builtin "isinstance") r/\E8 X.K r aP:=λA=>⟨_,AI,fun ρ h H xs us Q v h' s r q P=>by
 unfold aP at q;split at q
 . rename_i x T;split at q
   . rename_i a b e1 e2;cases q;obtain⟨u,w,rfl,r1,r2⟩:=tE r;subst r2;obtain⟨n1,n2⟩:=Ty.NO e2;exact .inl ⟨u,T,_,_,rfl,zD s e1 r1,by rw[n1];exact Ak a b n2,P _ ρ H (.refl _ _) s (by rw[rel])⟩
   . nomatch q
 . split at q
   . rename_i a bs e1 e2;cases q;obtain⟨u,w,rfl,r1,r2⟩:=tE r;obtain⟨p,vs,rfl,e3,e4⟩:=r2;obtain⟨h1,h2⟩:=wH e2 e4;subst h1;exact .inr ⟨u,p,_,_,_,rfl,e3,zD s e1 r1,vA a bs h2,P _ ρ H (.refl _ _) s (by rw[rel])⟩
   . nomatch q
 . nomatch q⟩
def cN:List PV->PH->RV PV:=λxs h=>match xs with
 | [.tup ys]=> .ok (.tup ys) h
 | [.ref n]=>(match cH h n with
  | some ys=> .ok (.tup ys) h
  | none=> .no)
 | _=> .no
theorem EZ:cW X pg k-> ∃ r,bO X (.type "tuple") r/\E8 X.K r cN:=λA=>⟨_,DL,fun ρ h H xs us Q v h' s r q P=>by
 unfold cN at q;split at q
 . cases q;obtain⟨u,rfl,r1⟩:=bQ r;have r:=r1;have r':=r;obtain⟨a,vs,rfl,e1,e2⟩:=r;exact⟨a,vs,rfl,.inr ⟨.of e1,P _ ρ H (.refl _ _) s r'⟩⟩
 . split at q
   . rename_i ys e;cases q;obtain⟨u,rfl,r1⟩:=bQ r;have r:=r1;obtain⟨a,vs,rfl,_,e1,e2⟩:=s.sq e r;exact⟨a,vs,rfl,.inl ⟨e1,λp hp=>lS s e2 P p hp⟩⟩
   . nomatch q
 . nomatch q⟩
def dN:List PV->PH->RV PV:=λxs h=>match xs with
 | [x]=>(match itemsOf h x with
  | some ys=> .ok (.ref h.length) (h++[.lst ys])
  | none=> .no)
 | _=> .no
theorem Hz:cW X pg k-> ∃ r,bO X (.type "list") r/\E8 X.K r dN:=λA=>⟨_,qD,fun ρ h H xs us Q v h' s r q P=>by
 unfold dN at q;split at q
 . split at q
   . rename_i ys e;cases q;obtain⟨u,rfl,r1⟩:=bQ r;have r:=r1;obtain⟨a,vs,rfl,z,r2⟩:=s.items e r;exact⟨a,vs,rfl,z,λp hp=>g7 s r2 P p hp⟩
   . nomatch q
 . nomatch q⟩
noncomputable def vf:List PV->Option (List Bool)
 | []=>fv []
 | .bl b::r=>(vf r).map (b:: ·)
 | _=>SU
noncomputable def mO:List PV->Option (List Int)
 | []=>fv []
 | .int b::r=>(mO r).map (b:: ·)
 | _=>SU
theorem wo: ∀{xs bs},vf xs=fv bs->xs=bs.map PV.bl
 | [],bs,e=>by cases e;rfl
 | .bl b::r,bs,e=>by
  rw[vf] at e;cases q:vf r with
  | none=>simp_all
  | some cs=>rw[q] at e;cases e;rw[wo q];rfl
 | .non::_,_,e=>by cases e
 | .int _::_,_,e=>by cases e
 | .str _::_,_,e=>by cases e
 | .tup _::_,_,e=>by cases e
 | .ktup _::_,_,e=>by cases e
 | .ref _::_,_,e=>by cases e
 | .ty _::_,_,e=>by cases e
theorem tK: ∀{xs:List PV}{bs:List Int},mO xs=fv bs->xs=bs.map PV.int
 | [],bs,e=>by cases e;rfl
 | .int b::r,bs,e=>by
  rw[mO] at e;cases q:mO r with
  | none=>rw[q] at e;nomatch e
  | some cs=>rw[q] at e;cases e;rw[tK q];rfl
 | .non::_,_,e=>nomatch e
 | .bl _::_,_,e=>nomatch e
 | .str _::_,_,e=>nomatch e
 | .tup _::_,_,e=>nomatch e
 | .ktup _::_,_,e=>nomatch e
 | .ref _::_,_,e=>nomatch e
 | .ty _::_,_,e=>nomatch e
theorem wD: ∀{bs:List Bool}{vs},aB K ρ H (bs.map PV.bl) vs->vs=bs.map V.bl
 | [],vs,r=>cJ.mp r
 | b::t,vs,r=>by
  obtain⟨v,w,rfl,r1,r2⟩:=aN.mp r;rw[r1,wD r2];rfl
theorem tj{ρ :List Tp}{H:Hp}: ∀{bs:List Int}{vs:List V},aB K ρ H (bs.map PV.int) vs->vs=bs.map V.int
 | [],vs,r=>cJ.mp r
 | b::t,vs,r=>by
  obtain⟨v,w,rfl,r1,r2⟩:=aN.mp r;rw[rel] at r1;rw[r1,tj r2];rfl
def pF{α :Type}(g:List PV->Option (List α))(f:List α ->PV):List PV->PH->RV PV:=λxs h=>match xs with
 | [.ref n]=>(match cH h n with
  | some ys=>(match g ys with
   | some bs=> .ok (f bs) h
   | none=> .no)
  | none=> .no)
 | _=> .no
theorem sr(q:pF g f xs h= .ok v h'): ∃ n ys bs,xs=[.ref n]/\cH h n=fv ys/\g ys=fv bs/\v=f bs/\h'=h:=by
 unfold pF at q;split at q
 . split at q
   . split at q
     . cases q;exact⟨_,_,_,rfl,by assumption,by assumption,rfl,rfl⟩
     . nomatch q
   . nomatch q
 . nomatch q
def fw:=pF vf λbs=> .bl (bs.all id)
def t6:=pF mO λbs=> .int bs.sum
theorem Md:cW X pg k-> ∃ r,bO X (.builtin "all") r/\E8 X.K r fw:=λA=>⟨_,DY A.calm,fun ρ h H xs us Q v h' s r q P=>by
 obtain⟨n,ys,bs,rfl,e1,e2,rfl,rfl⟩:=sr q;obtain⟨u,rfl,r1⟩:=bQ r;have r:=r1;obtain⟨a,vs,rfl,_,z,r2⟩:=s.sq e1 r;rw[wo e2] at r2;exact⟨a,bs,rfl,by rw[wD r2] at z;exact z,P _ ρ H (.refl _ _) s (by rw[rel])⟩⟩
theorem Nn:cW X pg k-> ∃ r,bO X (.builtin "sum") r/\E8 X.K r t6:=λA=>⟨_,CQ A.calm,fun ρ h H xs us Q v h' s r q P=>by
 obtain⟨n,ys,bs,rfl,e1,e2,rfl,rfl⟩:=sr q;obtain⟨u,rfl,r1⟩:=bQ r;have r:=r1;obtain⟨a,vs,rfl,_,z,r2⟩:=s.sq e1 r;rw[tK e2] at r2;exact⟨a,bs,rfl,by rw[tj r2] at z;exact z,P _ ρ H (.refl _ _) s (by rw[rel])⟩⟩
def cS:PV->PH->Bool:=λx h=>match x with
 | .ref n=>(match h[n]? with
  | some (.lst _)=>true
  | _=>false)
 | _=>false
theorem ou(s:dt K ρ h H)(r:rel K ρ H x v)(e:cS x h=true):Lo K "list" v H:=by
 cases x with
 | ref n =>
  simp only[cS] at e
  split at e
  . rename_i en;obtain⟨a,vs,rfl,_,e1,_⟩:=s.lst en r;exact .inl ⟨rfl,vs,.of e1⟩
  . cases e
 | _=>cases e
def dm:PV->List PV->PH->RV PV:=λx vs h=>match x,vs with
 | .ref n,[v]=>(match h[n]? with
  | some (.lst xs)=>if xs.length < Ta then .ok .non (h.set n (.lst (xs++[v]))) else .no
  | _=> .no)
 | _,_=> .no
theorem zS:cW X pg k-> ∃ r,zG X "list.append" r/\Lj X.K "list" r dm cS:=λA=>⟨_,yq,fun ρ h H x x' s r e=>ou s r e,fun ρ h H x x' xs us Q v h' s rx rs q P=>by
 unfold dm at q;split at q
 . split at q
   . rename_i ys en;split at q
     . rename_i hl;cases q;obtain⟨a,vs,rfl,ea,e1,e2⟩:=s.lst en rx;obtain⟨u,rfl,r⟩:=bQ rs;have g:Gr ρ H ρ (upd H a (.lst (vs++[u]))):=Gr.write (.inl ⟨_,e1⟩);exact⟨a,vs,u,rfl,rfl,e1,by rw[<- e2.len];exact hl,P _ ρ _ g (s.write en ea rfl rfl ⟨_,bH,aB.gr g _ _ (e2.app (aB.one r))⟩) (by rw[rel])⟩
     . nomatch q
   . nomatch q
 . nomatch q⟩
def dZ:PV->List PV->PH->RV PV:=λx vs h=>match x,vs with
 | .ref n,[.ref m]=>(match h[n]?,h[m]? with
  | some (.lst xs),fv (.lst ys)=>fC (xs.length+ys.length) (.ok .non (h.set n (.lst (xs++ys))))
  | _,_=> .no)
 | _,_=> .no
theorem Bw:cW X pg k-> ∃ r,zG X "list.extend" r/\Lj X.K "list" r dZ cS:=λA=>⟨_,yf,fun ρ h H x x' s r e=>ou s r e,fun ρ h H x x' xs us Q v h' s rx rs q P=>by
 unfold dZ at q;split at q
 . rename_i n m;split at q
   . rename_i ys zs en em;obtain⟨hl,q⟩:=iB.mp q;cases q;obtain⟨a,vs,rfl,ea,e1,e2⟩:=s.lst en rx;obtain⟨u,rfl,r⟩:=bQ rs;obtain⟨b,ws,rfl,eb,d1,d2⟩:=s.lst em r;have g:Gr ρ H ρ (upd H a (.lst (vs++ws))):=Gr.write (.inl ⟨_,e1⟩);exact⟨a,b,vs,ws,rfl,rfl,e1,d1,by rw[<- e2.len,<- d2.len];exact hl,P _ ρ _ g (s.write en ea rfl rfl ⟨_,bH,aB.gr g _ _ (e2.app d2)⟩) (by rw[rel])⟩
   . nomatch q
 . nomatch q⟩
end
section
variable{K:SV}{X:Cx}{pg:Tb}{k:Nat}{tg l:Uh}
theorem qf{σ :L2.St}(I:Inv X pins σ H s): ∀ b∈[s.heap.objs.size],lM X pins H b:=λb hb=>by
 have e:b=s.heap.objs.size:=by simpa using hb
 subst e;exact I.GY (Te _) (I.bL.fresh (Te _))
theorem Bt{pins:List (Tp × Obj)}{σ :L2.St}{H:Hp}{s:Tc}{R:It->Hp->Prop}{a:Tp}{xs:List V}(I:Inv X pins σ H s)(hq:gi X.K H a xs)(q:R (Rm X.K a) H):TC (TM X.prog X.w) X.A (Zl (.ref a)) (LR X pins σ tg R) X.xe s:=by
 obtain⟨az,rv,p,hz⟩:=I.list hq;exact Wy p.isList ⟨s.heap.objs.size,[s.heap.objs.size],_,_,H,rfl,I.kept (t':=s.toks) (λb o e=>S0 _ e),xi a _,⟨_,Tr _ rfl,rfl,rfl⟩,qf I,q⟩
theorem Ad{pins:List (Tp × Obj)}{σ :L2.St}{H:Hp}{s:Tc}{R:It->Hp->Prop}{a:Tp}{xs:List V}(I:Inv X pins σ H s)(hq:fB X.K H a xs)(q:R (OY X.K a) H):TC (TM X.prog X.w) X.A (Zl (.ref a)) (LR X pins σ tg R) X.xe s:=by
 obtain⟨az,rv,p,hz⟩:=I.tuple hq;exact Xg (show s.heap.IsTuple a az.toArray from p) ⟨s.heap.objs.size,[s.heap.objs.size],_,_,H,rfl,I.kept (t':=s.toks) (λb o e=>S0 _ e),uO a _,⟨_,Tr _ rfl,rfl,rfl⟩,qf I,q⟩
theorem zu{pins:List (Tp × Obj)}{σ :L2.St}{H:Hp}{s:Tc}{R:It->Hp->Prop}{z:Str}{t:Tok}(I:Inv X pins σ H s)(q:R (O5 z) H):TC (TM X.prog X.w) X.A (Zl (.str z t)) (LR X pins σ tg R) X.xe s:=by
 cases ha:z.cps.all (· < 128)
 . exact wpAny_pyIter_wide ha ⟨s.heap.objs.size,[s.heap.objs.size],_,_,H,rfl,I.kept (t':=s.toks) (λb o e=>S0 _ e),tD z t _ (by decide) (λA' hA=>Walks.strWide hA _ z t) (λ_ _ _ _ _ st h=>wpAny_pyIter_striter_wide st h),⟨_,Tr _ rfl,rfl,rfl⟩,qf I,q⟩
 . exact wpAny_pyIter_ascii ha ⟨s.heap.objs.size,[s.heap.objs.size],_,_,H,rfl,I.kept (t':=s.toks) (λb o e=>S0 _ e),tD z t _ (by decide) (λA' hA=>Walks.strAscii hA _ z t) (λ_ _ _ _ _ st h=>wpAny_pyIter_striter_ascii st h),⟨_,Tr _ rfl,rfl,rfl⟩,qf I,q⟩
def LW(K:SV)(tl:TE):TI:=fun σ H R=>tl σ H λx H1=>(∃ a xs,x= .ref a/\gi K H1 a xs/\R (Rm K a) H1)\/(∃ a xs,x= .ref a/\fB K H1 a xs/\R (OY K a) H1)\/ ∃ z,x= .str z/\R (O5 z) H1
theorem Jn(hl:PE X l tl):PI X tg l (LW X.K tl):=by
 intro pins s σ H R I h;refine iq (hl pins s σ H _ I h) λv s1 x H1 I1 r1 q1=>?_;rcases q1 with⟨a,xs,rfl,hq,q⟩ | ⟨a,xs,rfl,hq,q⟩ | ⟨z,rfl,q⟩
 . cases r1;exact Bt I1 hq q
 . cases r1;exact Ad I1 hq q
 . obtain⟨t,rfl⟩:=r1;exact zu I1 q
def rT(x:PV)(h:PH):RV jO:=match x with
 | .tup xs=> .ok ⟨SU,xs⟩ h
 | .ktup xs=> .ok ⟨SU,xs⟩ h
 | .str z=> .ok ⟨SU,z.cps.toList.map λc=> .str ⟨#[c]⟩⟩ h
 | .ref n=>(match cH h n with
  | some xs=> .ok ⟨fv n,xs⟩ h
  | none=> .no)
 | _=> .no
def cU(a:ME):MI:=λc e h=>(a c e h).bind rT
end
section
variable{X:Cx}{pg:Tb}{k:Nat}{tg l:Uh}{ma:ME}{ta:TE}
theorem KY{K}(s1:SE c K ta ma):SI c K (LW K ta) (cU ma):=fun ρ h H e σ R it h' s r q P=>by
 obtain⟨x,h1,e1,q⟩:=bind_eq.mp q;refine s1 ρ h H e σ _ x h1 s r e1 λx' ρ1 H1 g1 z1 r1=>?_;have tupc: ∀(xs:List PV),x.seq?=fv xs->it=⟨SU,xs⟩->h'=h1->(∃ a xs,x'= .ref a/\fB K H1 a xs/\R (OY K a) H1):=λxs ex ei eh=>by
  subst ei eh;obtain⟨a,vs,rfl,zz,rr⟩:=rel.seq ex r1;refine⟨a,vs,rfl,zz,P ρ1 H1 _ g1 z1 λi ρ2 h2 H2 g s _=>?_⟩;have z2:=g.Ia zz;have r2:=aB.gr g _ _ rr;refine⟨λy e=>?_,λe=>⟨vs,z2,by rw[e,<- rr.len];exact Te _⟩⟩;obtain⟨v,d1,d2⟩:=r2.get e;refine⟨⟨vs,v,z2,d1⟩,?_⟩;rintro w H' ⟨rfl,hw⟩;have:=hw vs z2;rw[d1] at this;cases this;exact⟨ρ2,.refl _ _,s,d2⟩
 cases x with
 | tup xs=>cases q;exact .inr (.inl (tupc xs rfl rfl rfl))
 | ktup xs=>cases q;exact .inr (.inl (tupc xs rfl rfl rfl))
 | str z =>
  cases q
  refine .inr (.inr ⟨z,r1,P ρ1 H1 _ g1 z1 λi ρ2 h2 H2 g s _=>⟨λy e=>?_,λe=>by show i=z.cps.size;simpa using e⟩⟩)
  rw[T7] at e
  cases q:z.cps.toList[i]? with
  | none=>simp_all
  | some c =>
   rw[q] at e
   cases e
   have hc:z.cps[i]?=fv c:=by simpa using q
   refine⟨(Array.getElem?_eq_some_iff.mp hc).1,?_⟩
   rintro v H' ⟨rfl,c',e1,rfl⟩
   rw[hc] at e1
   cases e1
   exact⟨ρ2,.refl _ _,s,by rw[rel]⟩
 | ref n =>
  simp only[rT] at q
  split at q
  . rename_i xs en;cases q;obtain⟨a,vs,rfl,ea,zz,rr⟩:=z1.sq en r1;refine .inl ⟨a,vs,rfl,zz,P ρ1 H1 _ g1 z1 λi ρ2 h2 H2 g s hf=>?_⟩;have ea2:=g.pre _ _ ea;have hl:cH h2 n=fv xs:=by
     have:h2[n]?=fv (.lst xs)\/h2[n]?=fv (.kq xs):=by simpa [jO.eU] using hf
     unfold cH;rcases this with q | q<;>rw[q]
    obtain⟨a',vs2,e3,e4,z2,r2⟩:=s.sq hl (show rel K ρ2 H2 (.ref n) (.ref a) by exact⟨a,ea2,rfl⟩);cases e3;refine⟨λy e=>?_,λe=>⟨vs2,z2,by rw[e,<- r2.len];exact Te _⟩⟩;obtain⟨v,d1,d2⟩:=r2.get e;refine⟨⟨vs2,v,z2,d1⟩,?_⟩;rintro w H' ⟨rfl,hw⟩;have:=hw vs2 z2;rw[d1] at this;cases this;exact⟨ρ2,.refl _ _,s,d2⟩
  . cases q
 | _=>cases q
theorem Jh(ha:JE X pg k l ma):JI X pg k tg l (cU ma):=⟨λA=>by obtain⟨_,q1,s1⟩:=ha.h A;exact⟨_,⟨Jn q1.h⟩,KY s1⟩⟩
def aZ lo n:=(Vi n).map λ(i:Nat)=>PV.int (lo+(i))
def a8(r:MA):MI:=λc e h=>(r c e h).bind λvs h1=>match vs with
 | [.int j]=>if -(2 ^ 62)<=j/\j < 2 ^ 62 then .ok ⟨SU,aZ 0 j.toNat⟩ h1 else .no
 | _=> .no
theorem x6{K} lo n:Sg K ρ H (OR lo n) ⟨SU,aZ lo n⟩:=λi ρ1 h1 H1 g s _=>by
 refine⟨λy e=>?_,λe=>by show n<=i;rw[e];simp[aZ]⟩;unfold aZ at e;rw[T7] at e;rcases ZK i n with z | z
 . rw[List.getElem?_range z] at e;cases e;exact⟨z,λv H'=>by rintro ⟨e1,e2⟩;exact by subst e1;subst e2;exact⟨ρ1,.refl _ _,s,by rw[rel]⟩⟩
 . simp_all
variable{a b:Uh}{p pos:Pos}{mr:MA}
theorem yt(hg:Gl X "range")(ha:JA X pg k [a] mr)(hs:Ue [a] X.env=[(false,Vl a X.env)]:=by rfl):JI X pg k tg (.Call (.Name "range" p) [a] [] pos) (a8 mr):=⟨λA =>
 by obtain⟨_,q1,s1⟩:=ha.h A;exact⟨_,⟨xK hg (A.blt _ (by decide)) q1.h hs⟩,fun ρ h H e σ R it h' s r q P=>by
 obtain⟨vs,h1,e1,q⟩:=bind_eq.mp q
 refine s1 ρ h H e σ _ vs h1 s r e1 λus ρ1 H1 g1 z1 r1=>?_
 split at q
 . rename_i j;split at q
   . rename_i hj;cases q;obtain⟨u,rfl,r2⟩:=bQ r1;subst r2;exact⟨j,rfl,hj.1,hj.2,P ρ1 H1 _ g1 z1 (x6 0 _)⟩
   . nomatch q
 . nomatch q⟩⟩
abbrev MP:=CF->a9->PH->RV (List (Key × PV))
noncomputable def gP:MP:=λ_ _ h=> .ok [] h
def aQ(a b:ME)(r:MP):MP:=λc e h=>(a c e h).bind λx h1=>match ig x with
 | some key=>(b c e h1).bind λv h2=>(r c e h2).bind λkvs h3=> .ok ((key,v)::kvs) h3
 | none=> .no
def bp(kvs more:List (Key × PV)):=more.foldl (λacc kv=>fA acc kv.1 kv.2) kvs
def ef(r:MP):ME:=λc e h=>(r c e (h++[.dct []])).bind λkvs h1=>if h1[h.length]?=fv (.dct [])/\kvs.length<=15 then .ok (.ref h.length) (h1.set h.length (.dct (bp [] kvs))) else .no
structure JP(X:Cx)(pg:Tb)(k:Nat)(pos:Pos)(ks:List (Option Uh))(vs:List Uh)(m:MP):Prop where
 h:cW X pg k-> ∃ t,QP X pos ks vs t/\ ∀ ρ h H e σ Q kvs h',dt X.K ρ h H->fg X.K ρ H e σ ->m (run pg k) e h= .ok kvs h'->(∀ kws ρ' H',Gr ρ H ρ' H'->dt X.K ρ' h' H'->RK X.K ρ' H' kvs kws->Q (kws.map λkv=>(kV kv.1,kv.2)) H')->kF t σ H Q
theorem HN:JP X pg k pos [] [] gP:=⟨λA=>⟨_,DA,fun ρ h H e σ Q kvs h' s r q P=>by cases q;exact P [] ρ H (.refl _ _) s .nil⟩⟩
theorem DP(hk:JE X pg k kk mk)(hv:JE X pg k v mv)(hr:JP X pg k pos ks vs mp):JP X pg k pos (fv kk::ks) (v::vs) (aQ mk mv mp):=⟨λA =>
 let ⟨_,q1,s1⟩:=hk.h A;let ⟨_,q2,s2⟩:=hv.h A;by obtain⟨_,q3,s3⟩:=hr.h A;exact⟨_,BE q1 q2 q3,fun ρ h H e σ Q kvs h' s r q P=>by
 obtain⟨x,h1,e1,q⟩:=bind_eq.mp q
 refine s1 ρ h H e σ _ x h1 s r e1 λx' ρ1 H1 g1 z1 r1=>?_
 split at q
 . rename_i key ek;obtain⟨v,h2,e2,q⟩:=bind_eq.mp q;obtain⟨kvs',h3,e3,q⟩:=bind_eq.mp q;cases q;refine s2 ρ1 h1 H1 e σ _ v h2 z1 (r.gr g1) e2 λv' ρ2 H2 g2 z2 r2=>?_;refine s3 ρ2 h2 H2 e σ _ kvs' _ z2 (r.gr (g1.trans g2)) e3 λkws ρ3 H3 g3 z3 r3=>?_;have:=P ((key,v')::kws) ρ3 H3 ((g1.trans g2).trans g3) z3 (.cons ⟨rfl,rel.gr g3 _ _ r2⟩ r3);rw[fh ek r1];exact this
 . cases q⟩⟩
theorem RK.merge{K}: ∀{more mw kvs kws},RK K ρ H more mw->RK K ρ H kvs kws->RK K ρ H (bp kvs more) (gq kws mw)
 | _,_,_,_,.nil,r=>r
 | _,_,_,_,.cons (a:=p) (b:=q) a t,r=>by
  show RK K ρ H (bp (fA _ p.1 p.2) _) (gq (putK _ q.1 q.2) _);refine RK.merge t ?_;rw[<- a.1];exact RK.put r a.2
theorem D6(h:JP X pg k pos ks vs mp)(hall:ks.all (·.isSome)=true)(hl:ks.length=vs.length)(h0:ks≠[])(h15:ks.length<=15):JE X pg k (.Dict ks vs pos) (ef mp):=⟨λA =>
 by obtain⟨_,q1,s1⟩:=h.h A;exact⟨_,Dy q1 hall hl h0 h15,fun ρ h H e σ Q v h' s r q P p hp=>by
 obtain⟨kvs,h1,e1,q⟩:=bind_eq.mp q
 split at q
 . rename_i hc;cases q;have g0:Gr ρ H (ρ ++[p]) (upd H p (.dK [])):=Gr.new hp [p];have s0:dt X.K (ρ ++[p]) (h++[.dct []]) (upd H p (.dK [])):=s.new hp ⟨[],bH,.nil⟩;refine s1 (ρ ++[p]) _ _ e σ _ kvs h1 s0 (r.gr g0) e1 λkws ρ1 H1 g1 z1 r1=>?_;have ep:(ρ ++[p])[h.length]?=fv p:=by rw[<- s.len,TU (Te _)];simp
   have ep1:=g1.pre _ _ ep;obtain⟨kw0,e2,e3⟩:=z1.ob h.length _ p hc.1 ep1;cases e3;refine⟨e2,kws,rfl,by rw[<- RK.len r1];exact hc.2,?_⟩;have gw:Gr ρ1 H1 ρ1 (upd H1 p (.dK (gq [] kws))):=Gr.write (.inr ⟨_,e2⟩);refine P _ ρ1 _ ((g0.trans g1).trans gw) (z1.write hc.1 ep1 rfl rfl ⟨_,bH,RK.merge (Paired.gG gw r1) .nil⟩) ?_;exact⟨p,ep1,rfl⟩
 . cases q⟩⟩
noncomputable def jC:ME:=λ_ _ h=> .ok (.ref h.length) (h++[.dct []])
theorem BC:JE X pg k (.Dict [] [] pos) jC:=⟨λA=>⟨_,AS,fun ρ h H e σ Q v h' s r q P p hp=>by
 cases q;refine P _ (ρ ++[p]) _ (Gr.new hp [p]) (s.new hp ⟨[],bH,.nil⟩) ?_;exact⟨p,by rw[<- s.len,TU (Te _)];simp,rfl⟩⟩⟩
def sF(kvs:List (Key × PV))(a:ME):ME:=λc e h=>(a c e h).bind λx h1=>match ig x with
 | some key=>(match aU kvs key with
  | some v=> .ok v h1
  | none=> .no)
 | none=> .no
def ug(neg:Bool)(kvs:List (Key × PV))(a:ME):ME:=λc e h=>(a c e h).bind λx h1=>match ig x with
 | some key=> .ok (.bl (if neg then !(aU kvs key).isSome else(aU kvs key).isSome)) h1
 | none=> .no
variable{x:Str}{kvs:List (Key × PV)}{i:Uh}{mi:ME}{pos':Pos}
theorem Fh(hd:pg.sZ x=fv kvs)(hg:Gl X x)(hi:JE X pg k i mi)(hs:DN i)(hdb:(x == ("__debug__"))=false:=by decide):JE X pg k (.Subscript (.Name x pos') i pos) (sF kvs mi):=⟨λA =>
 by obtain⟨a,kws,e1,e2,e3⟩:=A.sZ x kvs hd;exact by obtain⟨_,q1,s1⟩:=hi.h A;exact⟨_,DZ e2 (qK hg e1 hdb) q1 hs,fun ρ h H e σ Q v h' s r q P=>by
 obtain⟨y,h1,d1,q⟩:=bind_eq.mp q
 refine s1 ρ h H e σ _ y h1 s r d1 λy' ρ1 H1 g1 z1 r1=>?_
 split at q
 . rename_i key ek;split at q
   . rename_i w ew;cases q;obtain⟨u,f1,f2⟩:=RK.some (e3 ρ1 H1) ew;exact⟨key,u,fh ek r1,f1,P _ ρ1 H1 g1 z1 f2⟩
   . nomatch q
 . nomatch q⟩⟩
theorem K1(hd:pg.sZ x=fv kvs)(hg:Gl X x)(hi:JE X pg k i mi)(hdb:(x == ("__debug__" :Str))=false:=by decide)(hm:Ur .In (.Name x pos')=false:=by rfl):JE X pg k (.Compare i [.In] [.Name x pos'] pos) (ug false kvs mi):=⟨λA =>
 let ⟨a,kws,e1,e2,e3⟩:=A.sZ x kvs hd;let ⟨_,q1,s1⟩:=hi.h A;⟨_,IK e2 q1 (qK hg e1 hdb) hm,fun ρ h H e σ Q v h' s r q P=>by
 obtain⟨y,h1,d1,q⟩:=bind_eq.mp q
 refine s1 ρ h H e σ _ y h1 s r d1 λy' ρ1 H1 g1 z1 r1=>?_
 split at q
 . rename_i key ek;cases q;exact⟨key,fh ek r1,by rw[RK.is key (e3 ρ1 H1)];exact P _ ρ1 H1 g1 z1 (by rw[rel];rfl)⟩
 . nomatch q⟩⟩
theorem xp(hd:pg.sZ x=fv kvs)(hg:Gl X x)(hi:JE X pg k i mi)(hdb:(x == ("__debug__" :Str))=false:=by decide)(hm:Ur .NotIn (.Name x pos')=false:=by rfl):JT X pg k (.Compare i [.NotIn] [.Name x pos'] pos) (ao (ug true kvs mi)):=⟨λA =>
 let ⟨a,kws,e1,e2,e3⟩:=A.sZ x kvs hd;let ⟨_,q1,s1⟩:=hi.h A;⟨_,xx e2 q1 (qK hg e1 hdb) hm,kN fun ρ h H e σ Q v h' s r q P=>by
 obtain⟨y,h1,d1,q⟩:=bind_eq.mp q
 refine s1 ρ h H e σ _ y h1 s r d1 λy' ρ1 H1 g1 z1 r1=>?_
 split at q
 . rename_i key ek;cases q;exact⟨key,fh ek r1,by rw[RK.is key (e3 ρ1 H1)];exact P _ ρ1 H1 g1 z1 (by rw[rel];rfl)⟩
 . nomatch q⟩⟩
def yU(d a b:ME):ME:=λc e h=>(d c e h).bind λx h1=>if f9 h1 x=true then(a c e h1).bind (λy h2=>(b c e h2).bind λz h3=>match x,ig y with
 | .ref n,fv key=>(match h3[n]? with
  | some (.dct kvs)=> .ok ((aU kvs key).getD z) h3
  | _=> .no)
 | _,_=> .no) else .no
theorem E5(ho:JE X pg k o md)(he:JE X pg k e me)(hf:JE X pg k f mf)(m:M2 X o "get" apos e f cpos):JE X pg k (.Call (.Attribute o "get" apos) [e,f] [] cpos) (yU md me mf):=⟨λA =>
 let ⟨_,q1,s1⟩:=ho.h A;let ⟨_,q2,s2⟩:=he.h A;let ⟨_,q3,s3⟩:=hf.h A;⟨_,zE A.hu q1 q2 q3 m,fun ρ h H e σ Q v h' s r q P=>by
 obtain⟨x,h1,e1,q⟩:=bind_eq.mp q
 refine s1 ρ h H e σ _ x h1 s r e1 λx' ρ1 H1 g1 z1 r1=>?_
 split at q
 . rename_i hd;obtain⟨y,h2,e2,q⟩:=bind_eq.mp q;obtain⟨z,h3,e3,q⟩:=bind_eq.mp q;cases x with
   | ref n =>
    obtain⟨a,ea,rfl⟩:=r1
    refine⟨a,rfl,?_,?_⟩
    . simp only[f9] at hd;split at hd
      . rename_i kvs0 en;obtain⟨kws,d1,_⟩:=z1.ob n _ a en ea;exact .inl ⟨kws,.inl d1⟩
      . cases hd
    refine s2 ρ1 h1 H1 e σ _ y h2 z1 (r.gr g1) e2 λy' ρ2 H2 g2 z2 r2=>?_
    refine s3 ρ2 h2 H2 e σ _ z h3 z2 (r.gr (g1.trans g2)) e3 λz' ρ3 H3 g3 z3 r3=>?_
    cases ek:ig y with
    | none=>simp only[ek] at q;nomatch q
    | some key =>
     simp only[ek] at q
     split at q
     . rename_i kvs en;cases q;obtain⟨kws,d1,d2⟩:=z3.ob n _ a en (g3.pre _ _ (g2.pre _ _ ea));have:=fh ek r2;subst this;refine⟨_,je.k (k:=key) d1,P _ ρ3 H3 ((g1.trans g2).trans g3) z3 ?_⟩;have:=RK.val key d2;cases p1:aU kvs key<;>cases p2:fI kws key<;>rw[p1,p2] at this<;>first | exact r3 | exact this | exact U6 this
     . nomatch q
   | _=>cases hd
 . nomatch q⟩⟩
end
section
variable{K:SV}{X:Cx}{pg:Tb}{k:Nat}
noncomputable def eN:List PV->Option (List Str)
 | []=>fv []
 | .str x::r=>(eN r).map (x:: ·)
 | _=>SU
theorem ow: ∀{xs ss},eN xs=fv ss->xs=ss.map PV.str
 | [],bs,e=>by cases e;rfl
 | .str b::r,bs,e=>by
  rw[eN] at e;cases q:eN r with
  | none=>simp_all
  | some cs=>rw[q] at e;cases e;rw[ow q];rfl
 | .non::_,_,e=>by cases e
 | .bl _::_,_,e=>by cases e
 | .int _::_,_,e=>by cases e
 | .tup _::_,_,e=>by cases e
 | .ktup _::_,_,e=>by cases e
 | .ref _::_,_,e=>by cases e
 | .ty _::_,_,e=>by cases e
theorem kM: ∀ ss,eN (ss.map PV.str)=fv ss
 | []=>rfl
 | b::r=>by rw[S7,eN,kM r];rfl
theorem gF: ∀{ss:List Str}{vs},aB K ρ H (ss.map PV.str) vs↔vs=ss.map V.str
 | [],vs=>cJ
 | b::t,vs=>by
  constructor
  . rintro ⟨v,w,rfl,r1,r2⟩;rw[r1,gF.mp r2];rfl
  . rintro rfl;exact⟨.str b,t.map V.str,rfl,by rw[rel],gF.mpr rfl⟩
theorem RK.keys: ∀{kvs kws},RK K ρ H kvs kws->kws.map (·.1)=kvs.map (·.1)
 | _,_,.nil=>rfl
 | _,_,.cons a t=>by rw[S7,S7,RK.keys t,a.1]
theorem iX.of{P:Ug}{w:Uz}{K:SV}{mg:Str->Option S5}{base:UU}{pg:Tb}{f:String}{d:Df}(b:MS)(st:XW)(N:List Str)(e:d.body=b)(a:At K mg (S3 f) st)(S:dW N d.ps (aE st))(hl:N.length=d.ps.length+d.nl)
  (hb: ∀(kV doc pm:S5)(an:Option Tp)(cdv ct:S5)(us:List S5),us.length=d.ps.length->VR (UE (S3 f) (S3 f) (cR st) (bu st) (aE st) .none kV doc pm an cdv ct) ⟨us,[]⟩=pure (d.ps.zip us))
  (h: ∀(fa:Tp)(cdv:S5)(A:U5)(outer:List Env)(s:Tc)(H:Hp)(E:XK)(k:Nat),xq (jf qP P w K mg base N (S3 f) (aE st) fa cdv A outer s H E).oG pg k (bu st) b):iX P w K mg base pg f d :=
 ⟨st,N,a,S,hl,hb,by rw[e];exact h⟩
end
section
variable{X:Cx}{pins:List (Tp × Obj)}{σ :L2.St}{H:Hp}{s:Tc}{h':UU}
theorem Js{turned:List Tp}(I:Inv X pins σ H s)(kp: ∀ b o,b ∉ turned->s.heap.get? b=fv o->h'.get? b=fv o)(fp: ∀ b∈turned,lM X pins H b):Inv X pins σ H { s with heap:=h',toks:=t'}:=by
 have away: ∀ b u,H b=fv u->b ∉ turned:=λb u e m=>by
  have:=(fp b m).1;rw[e] at this;cases this
 refine I.step (g':=s.gens) (d':=s.drawn) (ch:=turned) (λb m=>?_) (λb o _ _ n e _=>kp b o n e) (λb o _ _ n e _=>⟨o.slots,kp b o n e⟩) (λ_ _ _ _ e=>e) (λb o n e=>⟨o,kp b o n e⟩) (λ_ _ e=>e) (λ_ _ _ e=>e) (λb ps e=>⟨#[],by simp_all⟩) (λm hm=>?_) (λb u e=>?_) I.bare
 . obtain⟨_,a2,_,a4,a5,a6⟩:=fp b m;exact⟨a4,a2,a5,a6⟩
 . obtain⟨o,es,ep,ho,r⟩:=hm;exact⟨o,es,ep,kp _ o (λm=>(fp _ m).2.1 rfl) ho,r⟩
 . refine(I.bL b u e).nM (λc v hc q=>kp c v ?_ q) (λ_ q=>q) λ_ _ q=>q;rcases hc with z | z
   . rw[z];exact away b u e
   . exact away c _ z
theorem xn{turned:List Tp}{p:Tp}(I:Inv X pins σ H s)(kp: ∀ b o,b ∉ turned->s.heap.get? b=fv o->h'.get? b=fv o)(fp: ∀ b∈turned,lM X pins H b)(hp:s.heap.objs.size<=p)
  (new:bF X.prog X.w (upd H p (.tup vs)) h' p (.tup vs)):Inv X pins σ (upd H p (.tup vs)) { s with heap:=h',toks:=t'}:=by
 have hn:=I.bL.fresh hp;have away: ∀ b u,H b=fv u->b ∉ turned:=λb u e m=>by
  have:=(fp b m).1;rw[e] at this;cases this
 have old: ∀ b o,s.heap.get? b=fv o->b≠p:=λb o e z=>absurd (Tf (Tu e) (z ▸ hp)) (Uq _);refine I.step (g':=s.gens) (d':=s.drawn) (ch:=turned) (λb m=>?_) (λb o _ _ n e _=>kp b o n e) (λb o _ _ n e _=>⟨o.slots,kp b o n e⟩) (λb o _ e n=>by rw[aT (old b o e)];exact n) (λb o n e=>⟨o,kp b o n e⟩)
  (λb xs e=>by rw[aT (aX e hn)];exact e) (λb o u e=>by rw[aT (aX e hn)];exact e) (λb ps e=>⟨#[],by rw[aT (aX e hn),e];simp⟩) (λm hm=>?_) (λb u e=>?_) I.bare
 . obtain⟨_,a2,_,a4,a5,a6⟩:=fp b m;exact⟨a4,a2,a5,a6⟩
 . obtain⟨o,es,ep,ho,r⟩:=hm;exact⟨o,es,ep,kp _ o (λm=>(fp _ m).2.1 rfl) ho,r⟩
 . by_cases hb:b=p
   . subst hb;rw[bH] at e;cases e;exact new
   . rw[aT hb] at e;refine(I.bL b u e).nM (λc v hc q=>kp c v ?_ q) (λc q=>by rw[aT (aX q hn)];exact q) λc xs q=>by rw[aT (aX q hn)];exact q
     rcases hc with z | z
     . rw[z];exact away b u e
     . exact away c _ z
end
def RI(K : SV)(a1 a2 : Tp) : It :=
  ⟨λi H => ∃ xs ys x y, fB K H a1 xs /\ fB K H a2 ys /\ xs[i]? = fv x /\ ys[i]? = fv y,
   λi H v H' => ∃ p x y, H p = SU /\ v = .ref p /\ H' = upd H p (.tup [x, y]) /\ (∀ xs, fB K H a1 xs -> xs[i]? = fv x) /\ ∀ ys, fB K H a2 ys -> ys[i]? = fv y,
   λi H => ∃ xs ys, fB K H a1 xs /\ fB K H a2 ys /\ (xs.length <= i ∨ ys.length <= i)⟩
theorem xQ{TI TO}(Z:rP h z TI TO i1 i2 l1 l2 k)(kp: ∀ b∈[z,TI,TO,i1,i2],∀ o,h.get? b=fv o->h'.get? b=fv o):rP h' z TI TO i1 i2 l1 l2 k:=by
 obtain ⟨a,b,⟨u,v,c⟩,⟨o1,d1,d2⟩,⟨o2,e1,e2⟩⟩:=Z;exact ⟨kp _ (by simp) _ a,kp _ (by simp) _ b,⟨u,v,kp _ (by simp) _ c⟩,⟨o1,kp _ (by simp) _ d1,d2⟩,⟨o2,kp _ (by simp) _ e1,e2⟩⟩
theorem AA{K TI TO}(D:ZJ z TI TO i1 i2 a1 a2) :
  Turn P w K (.Tuple els j pos) (RI K a1 a2) [z,TI,TO,i1,i2] z (λi h=>rP h z TI TO i1 i2 a1 a2 i) where
 mem:=by simp
 obj:=λi h Z b hb=>by
  obtain⟨e1,e2,⟨u,v,e3⟩,⟨o4,e4,_,d4⟩,⟨o5,e5,_,d5⟩⟩:=Z;simp only[UD,or_false,Tq] at hb;rcases hb with rfl | rfl | rfl | rfl | rfl
  . exact⟨_,e1,λv q=>by cases q⟩
  . exact⟨_,e2,λv q=>by cases q⟩
  . exact⟨_,e3,λv q=>by cases q⟩
  . exact⟨_,e4,λv q=>by rw[d4] at q;nomatch q⟩
  . exact⟨_,e5,λv q=>by rw[d5] at q;nomatch q⟩
 keep:=λi h h' Z kp=>xQ Z kp
 item:=by
  intro X hP hw hK hc i pins s σ H E I hf Z hg;subst hP hw hK;obtain⟨xs,ys,x,y,s1,s2,ex,ey⟩:=hg;obtain⟨us,ru,pu,_⟩:=I.tuple s1;obtain⟨ws,rw',pw,_⟩:=I.tuple s2;obtain⟨ux,eu,rx⟩:=ru.get ex;obtain⟨uy,ew,ry⟩:=rw'.get ey;refine nY D Z pu pw (by simpa using eu) (by simpa using ew) λh1 f1 f2 f3 f4 f5 f6 f7=>⟨_,rfl,?_⟩
  refine wpAny_letOwnedTupleGo_zip (s:={ s with heap:=h1}) f1 λh2 g1 g2=>?_;have ex1:=g2.extBut;have zlt:=Tu Z.yo;have pz:=V6 zlt;have new:=ex1 _ _ pz f6;have hn:=I.bL.fresh (Te _);have I2:Inv X pins σ (upd H s.heap.objs.size (.tup [x,y])) { s with heap:=h2,toks:=s.toks}:=by
   refine xn (turned:=[z,TO,i1,i2]) I (λb o nb e=>?_) (λb hb=>hf b ?_) (Te _) ?_
   . simp only[Tq,UD,or_false,not_or] at nb;exact ex1 _ _ nb.1 (f7 b o nb.1 nb.2.1 nb.2.2.1 nb.2.2.2 e)
   . simp only[Tq,UD,or_false] at hb ⊢;rcases hb with rfl | rfl | rfl | rfl<;>simp
   . exact⟨by show 2<=Ta;decide,[ux,uy],.cons rx (.cons ry .nil),_,new,rfl,_,rfl,rfl⟩
  refine⟨.ref s.heap.objs.size,upd H s.heap.objs.size (.tup [x,y]),I2,rfl,⟨_,x,y,hn,rfl,rfl,λxs' q=>?_,λys' q=>?_⟩,?_,λb hb=>?_⟩
  . rw[I.kO q s1];exact ex
  . rw[I.kO q s2];exact ey
  . obtain⟨o4,e4,c4⟩:=f4;obtain⟨o5,e5,c5⟩:=f5;exact⟨g1,ex1 _ _ D.TIz f2,⟨_,_,ex1 _ _ D.TOz f3⟩,⟨o4,ex1 _ _ D.i1z e4,c4⟩,⟨o5,ex1 _ _ D.i2z e5,c5⟩⟩
  . have hb0:=(hf b hb).1;have: ∃ o,s.heap.get? b=fv o:=by
     obtain⟨e1,e2,⟨u,v,e3⟩,⟨o4,e4,_⟩,⟨o5,e5,_⟩⟩:=Z;simp only[UD,or_false,Tq] at hb;rcases hb with rfl | rfl | rfl | rfl | rfl
     . exact⟨_,e1⟩
     . exact⟨_,e2⟩
     . exact⟨_,e3⟩
     . exact⟨_,e4⟩
     . exact⟨_,e5⟩
    obtain⟨o,eo⟩:=this;rw[aT (TQ (Tu eo))];exact hb0
 done:=by
  intro X hP hw hK hc i pins s σ H E I hf Z hg;subst hP hw hK;obtain⟨xs,ys,s1,s2,he⟩:=hg;obtain⟨us,ru,pu,_⟩:=I.tuple s1;obtain⟨ws,rw',pw,_⟩:=I.tuple s2;refine oI (I.ok.hd hc) D Z pu pw ?_ λh1 kp=>⟨rfl,Js (turned:=[z,TO,i1,i2]) (t':=s.toks) I (λb o nb e=>?_) λb hb=>hf b ?_⟩
  . have l1:=ru.length;have l2:=rw'.length;rcases he with he | he
    . simp_all
    . simp_all
  . simp only[Tq,UD,or_false,not_or] at nb;exact kp b o nb.1 nb.2.1 nb.2.2.1 nb.2.2.2 e
  . grind
 self:=λA i s Q E Z h=>ZY Z.yo h
abbrev tI(a:Tp):Obj:={ cls:= .type "tuple_iterator",data:= .fields #[.ref a,.int 0 0]}
abbrev Ph(h:UU)(a b:Tp):UU :=
 Vd (Vd (Vd (Vd (Vd h (tI a)) (tI b)) { cls:= .type "tuple",data:= .seq #[.ref h.objs.size,.ref (h.objs.size+1)]}) { cls:= .type "tuple",data:= .seq #[.none,.none]})
  { cls:= .type "zip",data:= .fields #[.none,.bool false,.bool false,.ref (h.objs.size+2),.ref (h.objs.size+3)]}
theorem qQ a b us ws:Meets (WI.«zip.__new__» ⟨[.type "zip",.ref a,.ref b],[]⟩) (λ_ R u=>u.heap.IsTuple a us/\u.heap.IsTuple b ws/\R (.ok (.ret (.ref (u.heap.objs.size+4)))) { u with heap:=Ph u.heap a b}) :=
 .of_wp λprog w A R u hu=>by
  obtain⟨hp,gg,dd,tk,os⟩:=u;obtain⟨ha,hb,hr⟩:=hu;have sub:=sub_zip;have fa:=ha;have fb:Heap.IsTuple (Shared.heap ⟨hp.push (tI a),gg,dd,tk,os⟩) b ws:=by obtain⟨o,e,c⟩:=hb;exact⟨o,S0 _ e,c⟩
  wp_walk using Xg fa,Xg fb
  refine⟨_,rfl,?_⟩;simp only[UA];exact hr
section
variable{X:Cx}{pg:Tb}{k:Nat}{a b:Uh}{ma mb:ME}{p pos:Pos}{els:List Uh}{j:Nat}{tpos:Pos}
theorem Kk h l1 l2:rP (Ph h l1 l2) (h.objs.size+4) (h.objs.size+2) (h.objs.size+3) h.objs.size (h.objs.size+1) l1 l2 0/\(Ph h l1 l2).objs.size=h.objs.size+5:=by
 have n1:(Vd h (tI l1)).objs.size=h.objs.size+1:=UA ..;have n2:(Vd (Vd h (tI l1)) (tI l2)).objs.size=h.objs.size+2:=by rw[UA,n1]
 have n3:(Vd (Vd (Vd h (tI l1)) (tI l2)) { cls:= .type "tuple",data:= .seq #[.ref h.objs.size,.ref (h.objs.size+1)]}).objs.size=h.objs.size+3:=by rw[UA,n2]
 have n4:(Vd (Vd (Vd (Vd h (tI l1)) (tI l2)) { cls:= .type "tuple",data:= .seq #[.ref h.objs.size,.ref (h.objs.size+1)]}) { cls:= .type "tuple",data:= .seq #[.none,.none]}).objs.size=h.objs.size+4:=by rw[UA,n3]
 refine⟨⟨?_,?_,⟨.none,.none,?_⟩,⟨tI l1,?_,rfl,rfl⟩,⟨tI l2,?_,rfl,rfl⟩⟩,by rw[UA,n4]⟩
 . rw[<- n4];exact Tr _ rfl
 . refine S0 _ (S0 _ ?_);rw[<- n2];exact Tr _ rfl
 . refine S0 _ ?_;rw[<- n3];exact Tr _ rfl
 . exact S0 _ (S0 _ (S0 _ (S0 _ (Tr _ rfl))))
 . refine S0 _ (S0 _ (S0 _ ?_));rw[<- n1];exact Tr _ rfl
def Mv(K:SV)(ta:TA):TI:=fun σ H R=>ta σ H λvs H1=> ∃ a1 a2 xs ys,vs=[.ref a1,.ref a2]/\fB K H1 a1 xs/\fB K H1 a2 ys/\R (RI K a1 a2) H1
theorem Hn(hg:Gl X "zip")(hm:X.mg "zip" =SU)(ha:PA X [a,b] ta)(hs:Ue [a,b] X.env=[(false,Vl a X.env),(false,Vl b X.env)])(hs2:Ue [b] X.env=[(false,Vl b X.env)]) :
  PI X (.Tuple els j tpos) (.Call (.Name "zip" p) [a,b] [] pos) (Mv X.K ta):=by
 intro pins s σ H R I h;refine Call_ (jA I hg hm boot_zip (Vo (Eo (ha pos pins s σ H _ I h) λus s1 vs H1 I1 r1 ⟨a1,a2,xs,ys,e,q1,q2,q⟩=>?_) (by simp_all) (by rw[hs2];rfl)));subst e;cases r1 with
 | cons ra rr =>
  cases rr with
  | cons rb rr =>
   cases rr
   cases ra
   cases rb
   obtain⟨u1,_,p1,_⟩:=I1.tuple q1
   obtain⟨u2,_,p2,_⟩:=I1.tuple q2
   refine callType_new F.called_zip (by decide) (F.typeCall_zip_2 _ _) (F.newCall_zip_2 _ _) (λobj=>F.args_object_init_3 obj _ _) F.entry_zip_new (qQ a1 a2 u1.toArray u2.toArray) ⟨p1,p2,?_⟩
   obtain⟨Z,zs⟩:=Kk s1.heap a1 a2
   have lt1:=let ⟨_,e,_⟩:=p1;Tu e
   have lt2:=let ⟨_,e,_⟩:=p2;Tu e
   refine⟨⟨_,Z.yo,rfl⟩,ZY Z.yo ?_⟩
   have kp: ∀ c o,s1.heap.get? c=fv o->(Ph s1.heap a1 a2).get? c=fv o:=λc o e=>S0 _ (S0 _ (S0 _ (S0 _ (S0 _ e))))
   refine⟨s1.heap.objs.size+4,[s1.heap.objs.size+4,s1.heap.objs.size+2,s1.heap.objs.size+3,s1.heap.objs.size,s1.heap.objs.size+1],_,_,H1,rfl,I1.kept (t':=s1.toks) kp,AA (zipApart_new lt1 lt2),Z,λc hc=>?_,q⟩
   have hle:s1.heap.objs.size<=c:=by
    grind
   exact I1.GY hle (I1.bL.fresh hle)
def GS(a b:ME):MI:=λc e h=>(a c e h).bind λx h1=>(b c e h1).bind λy h2=>match x.seq?,y.seq? with
 | some xs,fv ys=> .ok ⟨SU,(xs.zip ys).map λp=> .tup [p.1,p.2]⟩ h2
 | _,_=> .no
theorem Lg(hg:Gl X "zip")(ha:JE X pg k a ma)(hb:JE X pg k b mb)(hs1:noStar a=true:=by rfl)(hs2:noStar b=true:=by rfl):JI X pg k (.Tuple els j tpos) (.Call (.Name "zip" p) [a,b] [] pos) (GS ma mb):=⟨λA =>
 let ⟨_,q1,s1⟩:=ha.h A;let ⟨_,q2,s2⟩:=hb.h A
 ⟨_,⟨Hn hg (A.blt _ (by decide +kernel)) (qk q1 (qk q2 yO hs2) hs1).h (by rw[bW hs1,bW hs2];rfl) (by rw[bW hs2];rfl)⟩,fun ρ h H e σ R it h' s r q P=>by
 obtain⟨x,h1,e1,q⟩:=bind_eq.mp q
 obtain⟨y,h2,e2,q⟩:=bind_eq.mp q
 refine s1 ρ h H e σ _ x h1 s r e1 λx' ρ1 H1 g1 z1 r1=>?_
 refine s2 ρ1 h1 H1 e σ _ y h2 z1 (r.gr g1) e2 λy' ρ2 H2 g2 z2 r2=>?_
 split at q
 . rename_i xs ys ex ey;cases q;obtain⟨a1,us,rfl,t1,d1⟩:=rel.seq ex (rel.gr g2 _ _ r1);obtain⟨a2,ws,rfl,t2,d2⟩:=rel.seq ey r2;refine⟨a1,a2,us,ws,rfl,t1,t2,P ρ2 H2 _ (g1.trans g2) z2 λi ρ3 h3 H3 g s3 _=>⟨λv ev=>?_,λei=>?_⟩⟩
   . rw[T7] at ev;cases ez:(xs.zip ys)[i]? with
     | none=>simp_all
     | some pr =>
      rw[ez] at ev
      cases ev
      obtain⟨zx,zy⟩:=List.getElem?_zip_eq_some.mp ez
      obtain⟨u,f1,f2⟩:=(aB.gr g _ _ d1).get zx
      obtain⟨w,f3,f4⟩:=(aB.gr g _ _ d2).get zy
      refine⟨⟨us,ws,u,w,g.Ia t1,g.Ia t2,f1,f3⟩,?_⟩
      rintro v' H' ⟨p,u',w',hp,rfl,rfl,k1,k2⟩
      have:=k1 us (g.Ia t1)
      rw[f1] at this;cases this
      have:=k2 ws (g.Ia t2)
      rw[f3] at this;cases this
      have gn:Gr ρ3 H3 ρ3 (upd H3 p (.tup [u,w])):=Gr.wU hp
      refine⟨ρ3,gn,s3.tup hp,?_⟩
      exact⟨p,_,rfl,bH,aN.mpr ⟨_,_,rfl,rel.gr gn _ _ f2,aB.one (rel.gr gn _ _ f4)⟩⟩
   . refine⟨us,ws,g.Ia t1,g.Ia t2,?_⟩;have:i=min xs.length ys.length:=by simpa using ei
     rw[<- d1.len,<- d2.len];omega
 . cases q⟩⟩
end
structure bJ(P:Ug)(w:Uz)(K:SV)(mg:Str->Option S5)(pg:Tb)(f:String)(d:Df)(st:XW)(N:List Str):Prop where
 at_:At K mg (S3 f) st
 sc:dW N d.ps (aE st)
 len:N.length=d.ps.length+d.nl
 bd: ∀(kV doc pm:S5)(an:Option Tp)(cdv ct:S5)(us:List S5),us.length=d.ps.length->VR (UE (S3 f) (S3 f) (cR st) (bu st) (aE st) .none kV doc pm an cdv ct) ⟨us,[]⟩=pure (d.ps.zip us)
 body: ∀(base:UU)(fa:Tp)(cdv:S5)(A:U5)(outer:List Env)(s:Tc)(H:Hp)(E:XK)(k:Nat),xq (jf qP P w K mg base N (S3 f) (aE st) fa cdv A outer s H E).oG pg k (bu st) d.body
section
variable{P:Ug}{w:Uz}{K:SV}{mg:Str->Option S5}{pg:Tb}
theorem bJ.of{f:String}{d:Df}(b:MS){st:XW}{N:List Str}(e:d.body=b)(a:At K mg (S3 f) st)(S:dW N d.ps (aE st))(hl:N.length=d.ps.length+d.nl)
  (hb: ∀(kV doc pm:S5)(an:Option Tp)(cdv ct:S5)(us:List S5),us.length=d.ps.length->VR (UE (S3 f) (S3 f) (cR st) (bu st) (aE st) .none kV doc pm an cdv ct) ⟨us,[]⟩=pure (d.ps.zip us))
  (h: ∀(base:UU)(fa:Tp)(cdv:S5)(A:U5)(outer:List Env)(s:Tc)(H:Hp)(E:XK)(k:Nat),xq (jf qP P w K mg base N (S3 f) (aE st) fa cdv A outer s H E).oG pg k (bu st) b):bJ P w K mg pg f d st N :=
 ⟨a,S,hl,hb,by rw[e];exact h⟩
theorem bJ.good{st}(g:bJ P w K mg pg f d st N):iX P w K mg base pg f d:=⟨st,N,g.at_,g.sc,g.len,g.bd,g.body base⟩
theorem As{fnT:List (String × Df)}(hf:pg.fns=λf=>(fnT.find? λp=>p.1 == f).map (·.2))(h: ∀ p∈fnT,∃ st N,bJ P w K mg pg p.1 p.2 st N) base: ∀ f d,pg.fns f=fv d->iX P w K mg base pg f d:=λf d e=>by
 rw[hf] at e;dsimp only at e;cases q:fnT.find? λp=>p.1 == f with
 | none=>simp_all
 | some p =>
  rw[q] at e
  cases e
  obtain⟨st,N,g⟩:=h p (V9 q)
  have:p.1=f:=by simpa using Yr q
  rw [<- this]
  exact g.good
theorem Ih{st}(T : Top P w K mg pg)(G : ∀ base f d, pg.fns f = fv d -> iX P w K mg base pg f d)(hf : pg.fns "law" = fv d)(hx : d.ps = [x])(g : bJ P w K mg pg "law" d st N)(hfa : mg "law" = fv (.ref fa)) :
    ∃ fd , (∀ s v, XX s fd ⟨[v], []⟩ [(x, v)]) /\ ∀ base , K.In base -> base.Ns TX mg -> j6 P w K mg base qP (k + 1) fa fd [x] (uG K pg (k + 1) "law") := by
  obtain ⟨f, fd, F, hm⟩ := g.at_;have e := hfa.symm.trans hm;cases e;refine ⟨fd, λs v => .of_eq ?_, λbase _ _ => ?_⟩
  . have := yF.args F g.bd [v] (by rw [hx]; rfl);rw [this, hx]; rfl
  . have key : ∀{args : List PV}{h h' : PH}{v : PV}, run pg (k + 1) "law" args h = .ok v h' -> args.length = d.ps.length ∧
        ((∃ w h2, d.body (run pg k) (args.map some ++ List.replicate d.nl none) h = .ok (.rt w) h2 /\ settle h w h2 = .ok v h') ∨
         (∃ e h2, d.body (run pg k) (args.map fv ++ S4 d.nl SU) h = .ok (.nx e) h2 /\ settle h .non h2 = .ok v h')) := λ{args h h' v} q => by
      rw [run, hf] at q;simp only at q;split at q
      . rename_i hn;refine ⟨hn, ?_⟩;split at q
        . rename_i w h2 e; exact .inl ⟨w, h2, e, q⟩
        . rename_i e' h2 e; exact .inr ⟨e', h2, e, q⟩
        . nomatch q
        . cases q
        . nomatch q
      . simp_all
    have S := g.sc;rw [hx] at S;refine yF.Q3 F S (λvs H Q E => by rintro ⟨ρ, h, args, v, h', _, r, q, _⟩ ; exact by rw [<- r.len, (key q).1, hx]) ?_;rintro fa cdv A outer s H vs Q E hr ⟨ρ, h, args, v, h', sm, r, q, post⟩;have amb : cW (jf qP P w K mg base N (S3 "law") (aE st) fa cdv A outer s H E).oG pg k := ⟨hr, rfl, λ_ _ z => z, BL T (G base) k, T.blt, T.con, T.sZ⟩
    obtain ⟨t, qt, st'⟩ := (g.body base fa cdv A outer s H E k).h amb;refine ⟨t, qt, ?_⟩;obtain ⟨hn, q⟩ := key q;have he : L2.start N vs = vs.map fv ++ S4 d.nl SU := by
      unfold L2.start;rw [g.len, <- r.len, hn, XQ]
    rw [he];rcases q with ⟨w, h2, e, q⟩ | ⟨e', h2, e, q⟩
    . exact st' ρ h H _ _ _ _ h2 sm (gL r _) e (gb sm q post)
    . exact st' ρ h H _ _ _ _ h2 sm (gL r _) e fun σ' ρ' H' g s' _ => gb sm q post .non ρ' H' g s' (by rw [rel])
end
theorem KQ{K}(hl: ∀ ns:List Int,ns.length<=63->Ok (run pg k "law" [.ref 0] [.kq (ns.map PV.int)]) λv _=>v= .bl true) H a (ns:List Int) (hn:ns.length<=63) (o:zF H) (q:gi K H a (ns.map V.int)) :
  uG K pg k "law" [.ref a] H (λv _=>v= .bl true) E:=by
 obtain⟨v,h',e,rfl⟩:=hl ns hn;refine⟨[a],_,[.ref 0],_,h',⟨rfl,λi j b oi oj ei ej mi mj _ _=>?_,λi ob b ei eb=>?_⟩,aB.one (by exact⟨a,rfl,rfl⟩),e,λv' ρ' H' g s r=>by exact r⟩
 . cases i with
   | zero=>simp at ei;subst ei;cases mi
   | succ i=>simp at ei
 . cases i with
   | zero =>
    simp at ei eb
    subst ei eb
    exact⟨_,Kl o q,aB.ints ns⟩
   | succ i=>simp at ei
section
variable{P:Ug}{w:Uz}{K:SV}{mg:Str->Option S5}{pg:Tb}
theorem Cu{conT:List (Str × PV)}(hc:pg.con=λx=>(conT.find? λp=>decide (p.1=x)).map (·.2))(h: ∀ p∈conT,∃ u v',mg p.1=fv u/\RelV v' u/\xB K v'/\ ∀ ρ H,rel K ρ H p.2 v'): ∀ x v,pg.con x=fv v-> ∃ u v',mg x=fv u/\RelV v' u/\xB K v'/\ ∀ ρ H,rel K ρ H v v':=λx v e=>by
 rw[hc] at e;dsimp only at e;cases q:conT.find? λp=>decide (p.1=x) with
 | none=>simp_all
 | some p =>
  rw[q] at e
  cases e
  have:p.1=x:=by simpa using Yr q
  rw[<- this]
  exact h p (V9 q)
theorem D0{dcT:List (Str × List (Key × PV))}(hc:pg.sZ=λx=>(dcT.find? λp=>decide (p.1=x)).map (·.2))(h: ∀ p∈dcT,∃ a kws,mg p.1=fv (.ref a)/\KD P w K a kws/\ ∀ ρ H,RK K ρ H p.2 kws) :
  ∀ x kvs,pg.sZ x=fv kvs-> ∃ a kws,mg x=fv (.ref a)/\KD P w K a kws/\ ∀ ρ H,Vv (λ(p:Key × PV) (q:Key × V)=>p.1=q.1/\rel K ρ H p.2 q.2) kvs kws:=λx v e=>by
 rw[hc] at e;dsimp only at e;cases q:dcT.find? λp=>decide (p.1=x) with
 | none=>simp_all
 | some p =>
  rw[q] at e
  cases e
  have:p.1=x:=by simpa using Yr q
  rw[<- this]
  exact h p (V9 q)
inductive CV:PV->S5->Prop where
 | int (i:Int) (t:Tok):CV (.int i) (.int i t)
 | str (x:Str) (t:Tok):CV (.str x) (.str x t)
theorem CV.v(c:CV x u): ∃ v,RelV v u/\ ∀ ρ H,rel K ρ H x v:=by
 cases c with
 | int i t=>exact⟨.int i,⟨t,rfl⟩,λ_ _=>by rw[rel]⟩
 | str z t=>exact⟨.str z,⟨t,rfl⟩,λ_ _=>by rw[rel]⟩
theorem R6.v: ∀{xs us},Vv CV xs us-> ∃ vs,Vals vs us/\ ∀ ρ H,aB K ρ H xs vs
 | _,_,.nil=>⟨[],.nil,λ_ _=>cJ.mpr rfl⟩
 | _,_,.cons c t=>by obtain⟨v,a,b⟩:=CV.v c;exact by obtain⟨vs,d,e⟩:=R6.v t;exact⟨v::vs,.cons a d,fun ρ H=>aN.mpr ⟨v,vs,rfl,b ρ H,e ρ H⟩⟩
theorem rF(hl:K.lookup a=fv ⟨.type "tuple",d,.seq us.toArray n,sl⟩)(hz:us.length<=Ta)(h:Vv CV xs us) ρ H:rel K ρ H (.ktup xs) (.ref a):=by
 obtain⟨vs,r,q⟩:=R6.v (K:=K) h;exact⟨a,vs,rfl,⟨_,us.toArray,n,hl,rfl,rfl,by omega,by omega⟩,q ρ H⟩
theorem iC{x:Str}{v:PV}{u:S5}(hm:mg x=fv u)(c:CV v u): ∃ u v',mg x=fv u/\RelV v' u/\xB K v'/\ ∀ ρ H,rel K ρ H v v':=by obtain⟨v',a,b⟩:=CV.v (K:=K) c;exact⟨u,v',hm,a,(λp e=>by subst e;cases(show u=Tx p from a);cases c),b⟩
theorem D1{x:Str}{a:Tp}{us:List S5}{n:Nat}{sl:Array (Option S5)}{xs:List PV}(hm:mg x=fv (.ref a))(hl:K.lookup a=fv ⟨.type "tuple",SU,.seq us.toArray n,sl⟩)(hz:us.length<=Ta)(h:Vv CV xs us) :
  ∃ u v',mg x=fv u/\RelV v' u/\xB K v'/\ ∀ ρ H,rel K ρ H (.ktup xs) v':=⟨_,.ref a,hm,rfl,λp e=>by cases e;exact⟨_,hl,rfl,rfl⟩,rF hl hz h⟩
def DV(K:SV) x (u:S5):= ∃ v,RelV v u/\ ∀ ρ H,rel K ρ H x v
theorem pK(c:CV x u):DV K x u:=CV.v c
theorem fz(hl:K.lookup a=fv ⟨.type "tuple",d,.seq us.toArray n,sl⟩)(hz:us.length<=Ta)(h:Vv CV xs us):DV K (.ktup xs) (.ref a):=⟨.ref a,rfl,rF hl hz h⟩
theorem CK(h:Vv (λ(p) (l:Str × Tok × S5)=>p.1= .inr l.1/\DV K p.2 l.2.2) kvs ls): ∃ kws,KV kws (ls.map λp=>((WH p.1),p.2.2))/\ ∀ ρ H,RK K ρ H kvs kws:=by
 induction h with
 | nil=>exact⟨[],.nil,λ_ _=> .nil⟩
 | @cons p l ps qs a t ih =>
  obtain⟨kws,r,q⟩:=ih
  obtain⟨e,v,r1,r2⟩:=a
  exact⟨(.inr l.1,v)::kws,.cons ⟨rfl,r1⟩ r,fun ρ H=> .cons ⟨e,r2 ρ H⟩ (q ρ H)⟩
theorem zq{x:Str}{a:Tp}{ls:List (Str × Tok × S5)}{kvs:List (Key × PV)}{ep:Nat}(hm:mg x=fv (.ref a))(hl:K.lookup a=fv { cls:= .type "dict",data:= .dict (ls.map (Ot w)).toArray ep})(ha:(a == U4)=false)(hn:(ls.map λp=>(WH p.1:Key)).Nodup)
  (h:Vv (λ(p:Key × PV) (l:Str × Tok × S5)=>p.1= .inr l.1/\DV K p.2 l.2.2) kvs ls): ∃ a kws,mg x=fv (.ref a)/\KD P w K a kws/\ ∀ ρ H,RK K ρ H kvs kws:=by
 obtain⟨kws,r,q⟩:=CK h;exact⟨a,kws,hm,Oh hl ha hn r,q⟩
end
abbrev JB(az:List S5)(n:Nat)(dd:Option Tp)(sl:Array (Option S5)):Obj:={ cls:= .type "tuple",dict:=dd,data:= .seq az.toArray n,slots:=sl}
theorem uq(h1: -(2 ^ 63)<=k)(h2:k < 2 ^ 63): ¬ (decide (k < -(2 ^ 63))||decide (k ≥ 2 ^ 63))=true:=by
 simp_all
theorem uV l az n k u dd sl (h1: -(2 ^ 63)<=k) (h2:k < 2 ^ 63) (hs:(az.toArray.isEmpty||k == 1)=true) :
  Meets (WI.«tuple.__mul__» ⟨[.ref l,.int k u],[]⟩) (λ_ R s=>s.heap.get? l=fv (JB az n dd sl)/\R (.ok (.ret (.ref l))) s) :=
 .of_wp λprog w A R s h=>by
  obtain⟨hl,h⟩:=h;refine UL (λz=>absurd z (uq h1 h2)) (λ_=>?_)
  wp_walk using UB hl,Wn hl
  refine UL (λ_=>?_) (λz=>absurd hs z)
  wp_walk using UB hl,Wn hl
  exact⟨_,rfl,h⟩
theorem vq l az n k u dd sl (h1: -(2 ^ 63)<=k) (h2:k<=0) (hs: ¬ (az.toArray.isEmpty||k == 1)=true) :
  Meets (WI.«tuple.__mul__» ⟨[.ref l,.int k u],[]⟩) (λ_ R s=>s.heap.get? l=fv (JB az n dd sl)/\R (.ok (.ret (.ref s.heap.objs.size))) { s with heap:=s.heap.push { cls:= .type "tuple",data:= .seq #[]}}) :=
 .of_wp λprog w A R s h=>by
  obtain⟨hl,h⟩:=h;have hz:(decide (k<=0)||az.toArray.isEmpty)=true:=by simp[h2]
  refine UL (λz=>absurd z (uq h1 (by omega))) (λ_=>?_)
  wp_walk using UB hl,Wn hl
  refine UL (λz=>absurd z hs) (λ_=>?_);refine UL (λ_=>?_) (λz=>absurd hz z);exact SW (m:=UW _) (US (To ⟨_,rfl,h⟩) (by size_fits))
theorem t9 l az n (k:Int) u dd sl (h1:0 < k) (h2:(az.length)*k<=100000) (hk:k<=100000) (hs: ¬ (az.toArray.isEmpty||k == 1)=true) :
  Meets (WI.«tuple.__mul__» ⟨[.ref l,.int k u],[]⟩) (λ_ R s=>s.heap.get? l=fv (JB az n dd sl)/\R (.ok (.ret (.ref s.heap.objs.size))) { s with heap:=s.heap.push { cls:= .type "tuple",data:= .seq (S4 k.toNat az).flatten.toArray}}) :=
 .of_wp λprog w A R s h=>by
  obtain⟨hp,g,d,tk,os⟩:=s;obtain⟨hl,h⟩:=h;have f1:=AutoSeq1.idx_int;have hz: ¬ (decide (k<=0)||az.toArray.isEmpty)=true:=by
   simp_all
  have hc1: ¬ ((az.toArray.size)*k > (2 ^ 63 - 1) / 8):=by rw[TK];omega
  have hc2: ¬ (Xh ((az.toArray.size)*k)=true):=by
   unfold Xh;rw[TK,decide_eq_true_eq,show((Ta))=16777216 from by decide];omega
  have e0:aam (λx1 x2=>x1++x2) #[] (S4 k.toNat az.toArray)=(S4 k.toNat az).flatten.toArray:=by
   have:=foldl_rep az k.toNat [];rw[TB] at this;exact this
  wp_walk using UB hl,Wn hl
  refine UL (λz=>absurd z (uq (by omega) (by omega))) (λ_=>?_)
  wp_walk using UB hl,Wn hl
  refine UL (λz=>absurd z hs) (λ_=>?_);refine UL (λz=>absurd z hz) (λ_=>?_);refine UL (λhab=>absurd hab hc1) (λ_=>?_);refine UL (λhab=>absurd hab hc2) (λ_=>?_);refine SW (m:=UW _) (US (To ⟨_,rfl,?_⟩) ?_)
  . rw[e0];exact h
  . rw[e0];show(S4 k.toNat az).flatten.toArray.size<=Ta;rw[TK,len_rep,WZ];refine Ua (show az.length*k.toNat<=100000 from ?_) (by decide);have e1:((az.length*k.toNat:Nat))=(az.length)*k:=by rw[Int.natCast_mul,Int.toNat_of_nonneg (by omega)]
    omega
def KW(K:SV):R2:=λx y H Q=> ∃ a k xs,x= .ref a/\y= .int k/\fB K H a xs/\(xs.length)*k<=100000/\ -100000<=k/\k<=100000/\(xs=[]\/k=1->Q (.ref a) H)/\(¬ (xs=[]\/k=1)-> ∀ p,H p=SU->Q (.ref p) (upd H p (.tup (S4 k.toNat xs).flatten)))
theorem Bf:cG X (UP .Mult) (KW X.K):=by
 intro pins s σ H x y v u Q I rx ry h;obtain⟨a,k,xs,rfl,rfl,ha,hl,k1,k2,q1,q2⟩:=h;cases(show v=Tx a from rx);obtain⟨t,rfl⟩:=ry;obtain⟨az,r1,p1,_⟩:=I.tuple ha;obtain⟨⟨cls,dd,data,sl⟩,ho,hc,n,hd⟩:=id p1;simp only at hc hd;subst hc hd;have hlen:=r1.length;refine Xi (T:= "tuple") (U:= "int") (by decide) ⟨_,ho,rfl⟩ (λs'=>X9 s' k t) kI PySem.F.fills_int_mul Yz qR PySem.F.slot_int_index.lookup
  (UQ Yz (X9 s k t) PySem.F.entry_int_rmul (PySem.F.args_int_rmul_2 _ _) (m7 k t a az.toArray n dd sl) ⟨ho,rfl,⟨_,ho,rfl⟩,?_⟩)
 have hx:=(r1.lV).symm;by_cases hs:xs=[]\/k=1
 . have hb:(az.toArray.isEmpty||k == 1)=true:=by
    simp_all
   exact UQ Vp ⟨_,ho,rfl⟩ Wt (Wj _ _) (uV a az n k t dd sl (by omega) (by omega) hb) ⟨ho,⟨.ref a,H,I,rfl,q1 hs⟩⟩
 . have hb: ¬ (az.toArray.isEmpty||k == 1)=true:=λz=>hs (by
    rw[WT] at z;rcases z with z | z
    . exact .inl (hx.mpr (by simpa using z))
    . exact .inr (by simpa using z))
   by_cases hk:0 < k
   . refine UQ Vp ⟨_,ho,rfl⟩ Wt (Wj _ _) (t9 a az n k t dd sl hk (by rw[<- hlen];exact hl) k2 hb) ⟨ho,?_⟩;refine⟨.ref s.heap.objs.size,_,I.laid (t':=s.toks) (o:= .tup (S4 k.toNat xs).flatten) (λb ob q=>S0 _ q) (Te _) ?_,rfl,q2 hs _ (I.bL.fresh (Te _))⟩;refine⟨?_,_,r1.rep k.toNat,oK.new _ _⟩;rw[len_rep,WZ];refine Ua (show xs.length*k.toNat<=100000 from ?_) (by decide);have e1:((xs.length*k.toNat:Nat))=(xs.length)*k:=by grind
     omega
   . refine UQ Vp ⟨_,ho,rfl⟩ Wt (Wj _ _) (vq a az n k t dd sl (by omega) (by omega) hb) ⟨ho,?_⟩;refine⟨.ref s.heap.objs.size,_,I.laid (t':=s.toks) (o:= .tup (S4 k.toNat xs).flatten) (λb ob q=>S0 _ q) (Te _) ?_,rfl,q2 hs _ (I.bL.fresh (Te _))⟩;have:k.toNat=0:=by omega
     rw[this];exact⟨U2 _,[],.nil,oK.new _ _⟩
section
variable{X:Cx}{pg:Tb}{k:Nat}
theorem aB.rep{K}(r:aB K ρ H xs vs): ∀ n,aB K ρ H (S4 n xs).flatten (S4 n vs).flatten
 | 0=>cJ.mpr rfl
 | n+1=>by exact r.app (r.rep n)
def gf:PV->PV->PH->RV PV:=λx y h=>match x,y with
 | .int i,.int j=>if (-(2 ^ 64) < i/\i < 2 ^ 64)\/(-(2 ^ 64) < j/\j < 2 ^ 64) then .ok (.int (i*j)) h else .no
 | .tup xs,.int k=>if (xs.length)*k<=100000/\ -100000<=k/\k<=100000 then .ok (.tup (S4 k.toNat xs).flatten) h else .no
 | .ref n,.int k=>(match h[n]? with
  | some (.lst xs)=>if (-(2 ^ 63)<=k/\k < 2 ^ 63)/\xs.length*k.toNat<=Ta then .ok (.ref h.length) (h++[.lst (S4 k.toNat xs).flatten]) else .no
  | _=> .no)
 | _,_=> .no
theorem JX:cW X pg k-> ∃ r,cG X (UP .Mult) r/\jo X.K r gf:=λ_=>⟨_,Gv.or (Bf.or Gx),fun ρ h H x y x' y' Q v h' s rx ry q P=>by
 unfold gf at q;split at q
 . split at q
   . rename_i hc;cases q;exact .inl ⟨_,_,rx,ry,hc,P _ ρ H (.refl _ _) s (by rw[rel])⟩
   . nomatch q
 . rename_i xs k;split at q
   . rename_i hc;cases q;have rx':=rx;obtain⟨a,us,rfl,e2,e3⟩:=rx;refine .inr (.inl ⟨a,k,us,rfl,ry,.of e2,by rw[<- e3.len];exact hc.1,hc.2.1,hc.2.2,λz=>?_,λz p hp=>lS s (e3.rep _) P p hp⟩);have:(S4 k.toNat xs).flatten=xs:=by
      rcases z with z | z
      . subst z;have:=WQ e3.len;subst this;simp
      . rw[z];simp[S4]
     rw[this] at P;exact P _ ρ H (.refl _ _) s rx'
   . nomatch q
 . split at q
   . rename_i xs en;split at q
     . rename_i hc;cases q;obtain⟨a,us,rfl,_,e1,e2⟩:=s.lst en rx;exact .inr (.inr ⟨a,_,us,rfl,ry,e1,hc.1.1,hc.1.2,by rw[<- e2.len];exact hc.2,λp hp=>g7 s (e2.rep _) P p hp⟩)
     . nomatch q
   . nomatch q
 . nomatch q⟩
end
def fin h (r:RV Fl):=match r with
 | .ok (.rt v) h'=>settle h v h'
 | .ok (.nx _) h'=>settle h .non h'
 | .ok _ _=> .no
 | .ex c us h'=> .ex c us h'
 | .no=> .no
theorem run_eq(hf:pg.fns f=fv d)(hn:vs.length=d.ps.length):run pg (k+1) f vs h=fin h (d.body (run pg k) (vs.map fv++S4 d.nl SU) h):=by
 rw[run,hf];simp only[if_pos hn];rfl
theorem bj:(RV.ok a h).bind f=f a h:=(rfl)
theorem cx:fin h (.ok (.rt v) h')=settle h v h':=(rfl)
theorem DJ[Decidable c]:fin h (if c then a else b)=if c then fin h a else fin h b:=by split<;>rfl
theorem cA:settle h v h= .ok v h:=by unfold settle;split<;>simp
theorem hI(hv:v.flat=true):settle h v (h++g)= .ok v h:=by unfold settle;rw[hv,jv];simp
theorem jr(hv:v.flat=false):settle h v h'= .ok v h':=by unfold settle;rw[hv];rfl
theorem uc(hv:v.flat=true)(e:h[i]?=fv o)(m:o.gj=o'.gj)(hu:o'.jd h.length=true):settle h v (h.set i o'++g)= .ok v (h.set i o'):=by
 unfold settle;have:cw h.length h (h.set i o'++g)=true:=by
  have h1:=mR hu h (h++g) i o (jv _ h g) e m
  rwa[List.set_append_left _ _ (Tg.mp e).1] at h1
 rw[hv,this];simp[List.take_append_of_le_length]
theorem sV{h:PH}{v:PV}{i:Nat}{o o':PO}:settle h v (h.set i o')= .ok v (h.set i o'):=by
 unfold settle;split
 . rw[<- aaa (as:=h) (i:=i) (a:=o'),ZX]
 . rfl
theorem aj:S3 a=S3 b↔a=b:=by
 refine⟨λe=>?_,λe=>by rw[e]⟩;rw[Yi,Yi] at e;have e1:a.toList.map Zv=b.toList.map Zv:=by
  have:=congrArg (λs:Str=>s.cps.toList) e;simpa using this
 have inj: ∀{l m:List Char},l.map Zv=m.map Zv->l=m:=by
  intro l
  induction l with
  | nil=>intro m h;cases m with | nil=>rfl | cons=>cases h
  | cons x r ih =>
   intro m h
   cases m with
   | nil=>cases h
   | cons y t =>
    simp only[VW,S7] at h
    have:=Char.toNat_inj.mp h.1
    rw[this,ih h.2]
 exact String.toList_inj.mp (inj e1)
section
variable{c:CF}{e e1:a9}{h h1:PH}{a b d:ME}{t u:MT}{r:MA}{x y v:PV}{f g:PV->PV->PH->RV PV}{s s':MS}{i n:Nat}
def LD(f:PV->PV->PH->RV PV)(b:ME) c e x h1:=(b c e h1).bind λy h2=>f x y h2
theorem rZ:ai f a b c e h=(a c e h).bind (LD f b c e):=rfl
theorem nJ:LD f b c e x h1=(b c e h1).bind (f x):=rfl
theorem NP{f}:rq f a c e h=(a c e h).bind f:=rfl
noncomputable def F6(o:Option (Option PV))(h:PH):RV PV:=match o with
 | some (fv v)=> .ok v h
 | _=> .no
theorem qx:ae i c e h=F6 (e[i]?) h:=rfl
theorem lQ:F6 (fv (fv v)) h= .ok v h:=rfl
theorem xo:eC v c e h= .ok v h:=rfl
theorem iG:rp (.bl p) h= .ok p h:=rfl
noncomputable def Ab(b:ME) c e x h1:=if x=true then b c e h1 else .ok (.bl false) h1
theorem Ig:dQ a b c e h=((a c e h).bind rp).bind (Ab b c e):=rfl
theorem DB:Ab b c e true h=b c e h:=rfl
theorem C9:Ab b c e false h= .ok (.bl false) h:=rfl
theorem Dp[Decidable p]:Ab b c e (decide p) h=if p then b c e h else .ok (.bl false) h:=by unfold Ab;by_cases q:p<;>simp[q]
noncomputable def NL(b:ME) c e x h1:=if x=true then .ok (.bl true) h1 else b c e h1
theorem OJ:O4 a b c e h=((a c e h).bind rp).bind (NL b c e):=rfl
theorem Li:NL b c e true h= .ok (.bl true) h:=rfl
theorem Ic:NL b c e false h=b c e h:=rfl
theorem Gm[Decidable p]:NL b c e (decide p) h=if p then .ok (.bl true) h else b c e h:=by unfold NL;by_cases q:p<;>simp[q]
noncomputable def MD(x:Bool)(h1:PH):RV PV:= .ok (.bl (!x)) h1
theorem Ga:Bb a c e h=((a c e h).bind rp).bind MD:=rfl
theorem C4:MD p h= .ok (.bl (!p)) h:=rfl
noncomputable def HW(a b:ME) c e x h1:=if x=true then a c e h1 else b c e h1
theorem Oj:BW t a b c e h=(t c e h).bind (HW a b c e):=rfl
theorem GI:HW a b c e true h=a c e h:=rfl
theorem H9:HW a b c e false h=b c e h:=rfl
theorem HS[Decidable p]:HW a b c e (decide p) h=if p then a c e h else b c e h:=by unfold HW;by_cases q:p<;>simp[q]
theorem Hv[Decidable p]:HW a b c e (!decide p) h=if p then b c e h else a c e h:=by unfold HW;by_cases q:p<;>simp[q]
theorem iw:ao a c e h=(a c e h).bind rp:=rfl
noncomputable def nN(u:MT) c e x h1:=if x=true then u c e h1 else .ok false h1
theorem Cf:eJ t u c e h=(t c e h).bind (nN u c e):=rfl
theorem zI:nN u c e true h=u c e h:=rfl
theorem AK:nN u c e false h= .ok false h:=rfl
theorem Ap[Decidable p]:nN u c e (decide p) h=if p then u c e h else .ok false h:=by unfold nN;by_cases q:p<;>simp[q]
theorem Bc[Decidable p]:nN u c e (!decide p) h=if p then .ok false h else u c e h:=by unfold nN;by_cases q:p<;>simp[q]
noncomputable def uJ(u:MT) c e x h1:=if x=true then .ok true h1 else u c e h1
theorem GD:fL t u c e h=(t c e h).bind (uJ u c e):=rfl
theorem Du:uJ u c e true h= .ok true h:=rfl
theorem ET:uJ u c e false h=u c e h:=rfl
theorem Dr[Decidable p]:uJ u c e (decide p) h=if p then .ok true h else u c e h:=by unfold uJ;by_cases q:p<;>simp[q]
theorem EE[Decidable p]:uJ u c e (!decide p) h=if p then u c e h else .ok true h:=by unfold uJ;by_cases q:p<;>simp[q]
noncomputable def FQ(x:Bool)(h1:PH):RV Bool:= .ok (!x) h1
theorem g9:bK t c e h=(t c e h).bind FQ:=rfl
theorem fP:FQ p h= .ok (!p) h:=rfl
theorem qN:ax c e h= .ok true h:=rfl
theorem qE:ag c e h= .ok [] h:=rfl
noncomputable def IQ(x:PV)(xs:List PV)(h2:PH):RV (List PV):= .ok (x::xs) h2
def KS(r:MA) c e x h1:=(r c e h1).bind (IQ x)
theorem nP:aa a r c e h=(a c e h).bind (KS r c e):=rfl
theorem kW:KS r c e x h=(r c e h).bind (IQ x):=rfl
theorem kZ:IQ x xs h= .ok (x::xs) h:=rfl
theorem ky{r:RV α}(hn:n<=16777216):fC n r=r:=by exact if_pos hn
def Oq(xs:List PV)(h:PH):RV PV:=fC xs.length (.ok (.tup xs) h)
theorem J6:au r c e h=(r c e h).bind Oq:=rfl
theorem Fc:Oq xs h=fC xs.length (.ok (.tup xs) h):=(rfl)
def LS(xs:List PV)(h:PH):RV PV:=fC xs.length (.ok (.ref h.length) (h++[.lst xs]))
theorem HF:aC r c e h=(r c e h).bind LS:=rfl
theorem DO:LS xs h=fC xs.length (.ok (.ref h.length) (h++[.lst xs])):=(rfl)
theorem qz{f}:af f r c e h=(r c e h).bind (c f):=rfl
theorem OA{f}:eB f r c e h=(r c e h).bind f:=rfl
def F2(f:PV->List PV->PH->RV PV)(ty:PV->PH->Bool)(r:MA) c e x h1:=if ty x h1=true then(r c e h1).bind (f x) else .no
theorem L0{f}:eM f ty a r c e h=(a c e h).bind (F2 f ty r c e):=rfl
theorem lb{f:PV->List PV->PH->RV PV}{ty:PV->PH->Bool}(ht:ty x h=true):F2 f ty r c e x h=(r c e h).bind (f x):=if_pos ht
def xt(g:PV->PV->PH->RV PV)(d:ME) c e y k h3:=if k=true then(d c e h3).bind (g y) else .ok (.bl false) h3
def JD(f g:PV->PV->PH->RV PV) d c e x y h2:=((f x y h2).bind rp).bind (xt g d c e y)
def Mz(f g:PV->PV->PH->RV PV)(b d:ME) c e x h1:=(b c e h1).bind (JD f g d c e x)
theorem Nm:gm f g a b d c e h=(a c e h).bind (Mz f g b d c e):=rfl
theorem KJ:Mz f g b d c e x h=(b c e h).bind (JD f g d c e x):=rfl
theorem Jj:JD f g d c e x y h=((f x y h).bind rp).bind (xt g d c e y):=rfl
theorem E6:xt g d c e y true h=(d c e h).bind (g y):=rfl
theorem EY:xt g d c e y false h= .ok (.bl false) h:=rfl
theorem EW[Decidable p]:xt g d c e y (decide p) h=if p then(d c e h).bind (g y) else .ok (.bl false) h:=by unfold xt;by_cases q:p<;>simp[q]
noncomputable def yc(s:MS) c (f:Fl) (h1:PH):=match f with
 | .nx e1=>s c e1 h1
 | f=> .ok f h1
theorem jJ:ah s s' c e h=(s c e h).bind (yc s' c):=rfl
theorem wc:yc s c (.nx e) h=s c e h:=(rfl)
theorem iW:yc s c (.rt v) h= .ok (.rt v) h:=rfl
theorem Ep:yc s c (.bk e) h= .ok (.bk e) h:=rfl
theorem Fd:yc s c (.ct e) h= .ok (.ct e) h:=rfl
theorem vB:bz c e h= .ok (.nx e) h:=rfl
noncomputable def L5(e:a9)(_:PV)(h1:PH):RV Fl:= .ok (.nx e) h1
theorem wB:dn a c e h=(a c e h).bind (L5 e):=rfl
theorem sO:L5 e x h= .ok (.nx e) h:=rfl
noncomputable def MZ(v:PV)(h1:PH):RV Fl:= .ok (.rt v) h1
theorem nT:av a c e h=(a c e h).bind MZ:=rfl
theorem jQ:MZ v h= .ok (.rt v) h:=rfl
noncomputable def uA(s s':MS) c e x h1:=if x=true then s c e h1 else s' c e h1
theorem kD:bC t s s' c e h=(t c e h).bind (uA s s' c e):=rfl
theorem mC:uA s s' c e true h=s c e h:=rfl
theorem mn:uA s s' c e false h=s' c e h:=rfl
theorem Dd[Decidable p]:uA s s' c e (decide p) h=if p then s c e h else s' c e h:=by unfold uA;by_cases q:p<;>simp[q]
theorem E4[Decidable p]:uA s s' c e (!decide p) h=if p then s' c e h else s c e h:=by unfold uA;by_cases q:p<;>simp[q]
noncomputable def Lh(e1:a9)(h2:PH):RV Fl:= .ok (.nx e1) h2
def tR(g:MG) e v h1:=(g v e h1).bind Lh
theorem yP{g}:ay a g c e h=(a c e h).bind (tR g e):=rfl
theorem vS:tR (gN i) e v h= .ok (.nx (e.set i (fv v))) h:=rfl
theorem Ct:tR (gT n gs) e v h=(gT n gs v e h).bind Lh:=rfl
theorem tZ:Lh e h= .ok (.nx e) h:=rfl
theorem gy:gN i v e h= .ok (e.set i (fv v)) h:=rfl
theorem FW(hn:xs.length=n):gT n gs (.tup xs) e h=gs xs e h:=if_pos hn
theorem y8:gT 2 gs (.tup [x1,x2]) e h=gs [x1,x2] e h:=rfl
theorem IE:gT 3 gs (.tup [x1,x2,x3]) e h=gs [x1,x2,x3] e h:=rfl
theorem JH:gT 4 gs (.tup [x1,x2,x3,x4]) e h=gs [x1,x2,x3,x4] e h:=rfl
theorem HQ:gT 5 gs (.tup [x1,x2,x3,x4,x5]) e h=gs [x1,x2,x3,x4,x5] e h:=rfl
theorem Ac:eO [] e h= .ok e h:=rfl
theorem AB{g r t}:ba g r (v::t) e h=(g v e h).bind (r t):=rfl
def zZ(f:PV->PV->PV->PH->RV Unit)(e:a9)(v x y:PV)(h3:PH):RV Fl:=(f x y v h3).bind λ_ h4=> .ok (.nx e) h4
def yJ(f:PV->PV->PV->PH->RV Unit)(i:ME) c e v x h2:=(i c e h2).bind (zZ f e v x)
def FK(f:PV->PV->PV->PH->RV Unit)(o i:ME) c e v h1:=(o c e h1).bind (yJ f i c e v)
theorem Ij{f i}:nW f o i a c e h=(a c e h).bind (FK f o i c e):=rfl
theorem Em{f i}:FK f o i c e v h=(o c e h).bind (yJ f i c e v):=rfl
theorem DR{f i}:yJ f i c e v x h=(i c e h).bind (zZ f e v x):=rfl
noncomputable def Ri(e:a9)(_:Unit)(h:PH):RV Fl:= .ok (.nx e) h
theorem C1{f}:zZ f e v x y h=(f x y v h).bind (Ri e):=rfl
theorem Hj{u}:Ri e u h= .ok (.nx e) h:=rfl
def bZ(g:MG)(s:MS) c x e h:=(g x e h).bind (s c)
def fork g s c e it h1:=bM it (bZ g s c) it.items e h1
theorem jq{i g}:cI i g s c e h=(i c e h).bind (fork g s c e):=(rfl)
theorem gU{g}:fork g s c e it h=bM it (bZ g s c) it.items e h:=(rfl)
theorem fQ{g}:bZ g s c x e h=(g x e h).bind (s c):=(rfl)
theorem Bj:cU a c e h=(a c e h).bind rT:=(rfl)
theorem Bz:rT (.tup xs) h= .ok ⟨SU,xs⟩ h:=(rfl)
theorem Ii:rT (.ktup xs) h= .ok ⟨SU,xs⟩ h:=(rfl)
def ON(n:Nat)(h:PH)(o:Option PO):RV jO:=match o with
 | some (.lst xs)=> .ok ⟨fv n,xs⟩ h
 | some (.kq xs)=> .ok ⟨fv n,xs⟩ h
 | _=> .no
theorem Hd:rT (.ref n) h=ON n h (h[n]?):=by
 have e:rT (.ref n) h=(match cH h n with | some xs=> .ok ⟨fv n,xs⟩ h | none=> .no):=rfl;rw[e];unfold cH ON;generalize h[n]?=oo;cases oo with
 | none=>rfl
 | some o=>cases o<;>rfl
theorem K0:ON n h (fv (.lst xs))= .ok ⟨fv n,xs⟩ h:=(rfl)
theorem GA:ON n h (fv (.kq xs))= .ok ⟨fv n,xs⟩ h:=(rfl)
def R5(vs:List PV)(h1:PH):RV jO:=match vs with
 | [.int j]=>if -(2 ^ 62)<=j/\j < 2 ^ 62 then .ok ⟨SU,aZ 0 j.toNat⟩ h1 else .no
 | _=> .no
theorem HK:a8 r c e h=(r c e h).bind R5:=by
 rfl
theorem EI(hj: -4611686018427387904<=j/\j < 4611686018427387904):R5 [.int j] h= .ok ⟨SU,aZ 0 j.toNat⟩ h:=by
 exact if_pos (by omega)
noncomputable def OZ(x y:PV)(h2:PH):RV jO:=match x.seq?,y.seq? with
 | some xs,fv ys=> .ok ⟨SU,(xs.zip ys).map λp=> .tup [p.1,p.2]⟩ h2
 | _,_=> .no
def Ro(b:ME) c e x h1:=(b c e h1).bind (OZ x)
theorem F5:GS a b c e h=(a c e h).bind (Ro b c e):=(rfl)
theorem Dl:Ro b c e x h=(b c e h).bind (OZ x):=(rfl)
theorem zM:OZ (.ktup xs) (.tup ys) h= .ok ⟨SU,(xs.zip ys).map λp=> .tup [p.1,p.2]⟩ h:=(rfl)
theorem zN:OZ (.tup xs) (.tup ys) h= .ok ⟨SU,(xs.zip ys).map λp=> .tup [p.1,p.2]⟩ h:=(rfl)
def Pj it (step:PV->a9->PH->RV Fl) (xs:List PV) (f:Fl) (h1:PH):=match f with
 | .nx e1=>bM it step xs e1 h1
 | .ct e1=>bM it step xs e1 h1
 | .bk e1=> .ok (.nx e1) h1
 | .rt v=> .ok (.rt v) h1
theorem zd{step}:bM ⟨SU,xs⟩ step [] e h= .ok (.nx e) h:=(rfl)
theorem nt{step}:bM ⟨SU,xs⟩ step (y::ys) e h=(step y e h).bind (Pj ⟨SU,xs⟩ step ys):=(rfl)
theorem gY{step}(hf:it.eU h=true):bM it step [] e h= .ok (.nx e) h:=by rw[bM,if_pos hf]
theorem fE{step}(hf:it.eU h=true):bM it step (y::ys) e h=(step y e h).bind (Pj it step ys):=by rw[bM,if_pos hf];rfl
theorem dg{step}:Pj it step xs (.nx e) h=bM it step xs e h:=(rfl)
theorem C8{step}:Pj it step xs (.rt v) h= .ok (.rt v) h:=(rfl)
noncomputable def KC(ys:List PV)(h2:PH):RV PV:= .ok (.ref h2.length) (h2++[.lst ys])
def MC k g t a c e it h1:=(eW it (aY k g t a c e) it.items [] h1).bind KC
theorem Nh{i g}:dw k i g t a c e h=(i c e h).bind (MC k g t a c e):=(rfl)
theorem II{g}:MC k g t a c e it h=(eW it (aY k g t a c e) it.items [] h).bind KC:=(rfl)
theorem J2:KC ys h= .ok (.ref h.length) (h++[.lst ys]):=(rfl)
noncomputable def Ag(y:PV)(h4:PH):RV (Option PV):= .ok (fv y) h4
def sU(a:ME) c e2 b h3:=if b=true then(a c e2 h3).bind Ag else .ok SU h3
def LX(t:MT) a c e2 h2:=(t c e2 h2).bind (sU a c e2)
theorem p6{g}:aY k g t a c e x h=(g x (e++S4 k SU) h).bind (LX t a c):=(rfl)
theorem vh:LX t a c e h=(t c e h).bind (sU a c e):=(rfl)
theorem qV:sU a c e true h=(a c e h).bind Ag:=(rfl)
theorem E1:sU a c e false h= .ok SU h:=(rfl)
theorem Es[Decidable p]:sU a c e (decide p) h=if p then(a c e h).bind Ag else .ok SU h:=by unfold sU;by_cases q:p<;>simp[q]
theorem Cy[Decidable p]:sU a c e (!decide p) h=if p then .ok SU h else(a c e h).bind Ag:=by unfold sU;by_cases q:p<;>simp[q]
theorem uX:Ag y h= .ok (fv y) h:=(rfl)
theorem d9{xs0:List PV}{step:PV->PH->RV (Option PV)}{f:PV->Option PV}: ∀(xs ys:List PV),(∀ x∈xs,step x h= .ok (f x) h)->xs.length+ys.length<=16777216->eW ⟨SU,xs0⟩ step xs ys h= .ok (ys++xs.filterMap f) h
 | [],ys,_,_=>by rw[eW,if_pos (show jO.eU ⟨SU,xs0⟩ h=true from rfl)];simp
 | x::xs,ys,hs,hl=>by
  have hl':ys.length < Ta:=by rw[S2] at hl;show ys.length < 16777216;omega
  rw[eW,if_pos ⟨show jO.eU ⟨SU,xs0⟩ h=true from rfl,hl'⟩,hs x S8,gS];cases q:f x with
  | none=>exact(d9 xs ys (λy m=>hs y (S9 _ m)) (by rw[S2] at hl;omega)).trans (by rw[Wk q])
  | some y=>exact(d9 xs (ys++[y]) (λz m=>hs z (S9 _ m)) (by rw[S2] at hl;simp;omega)).trans (by rw[Wl q];simp)
theorem kK{it:jO}(hf:it.eU h=true){step:PV->PH->RV (Option PV)}{f:PV->Option PV}: ∀(xs ys:List PV),(∀ x∈xs,step x h= .ok (f x) h)->xs.length+ys.length<=16777216->eW it step xs ys h= .ok (ys++xs.filterMap f) h
 | [],ys,_,_=>by rw[eW,if_pos hf];simp
 | x::xs,ys,hs,hl=>by
  have hl':ys.length < Ta:=by rw[S2] at hl;show ys.length < 16777216;omega
  rw[eW,if_pos ⟨hf,hl'⟩,hs x S8,gS];cases q:f x with
  | none=>exact(kK hf xs ys (λy m=>hs y (S9 _ m)) (by rw[S2] at hl;omega)).trans (by rw[Wk q])
  | some y=>exact(kK hf xs (ys++[y]) (λz m=>hs z (S9 _ m)) (by rw[S2] at hl;simp;omega)).trans (by rw[Wl q];simp)
theorem cP{α :Type}{it:jO}(hf:it.eU h=true){step:PV->PH->RV (Option PV)}{f: α ->Option PV}{g: α ->PV}: ∀(l:List α)(ys:List PV),(∀ x∈l,step (g x) h= .ok (f x) h)->l.length+ys.length<=16777216->eW it step (l.map g) ys h= .ok (ys++l.filterMap f) h
 | [],ys,_,_=>by rw[U0,eW,if_pos hf];simp
 | x::xs,ys,hs,hl=>by
  have hl':ys.length < Ta:=by rw[S2] at hl;show ys.length < 16777216;omega
  rw[S7,eW,if_pos ⟨hf,hl'⟩,hs x S8];cases q:f x with
  | none=>exact(cP hf xs ys (λy m=>hs y (S9 _ m)) (by grind)).trans (by rw[Wk q])
  | some y=>exact(cP hf xs (ys++[y]) (λz m=>hs z (S9 _ m)) (by rw[S2] at hl;simp;omega)).trans (by rw[Wl q];simp)
end
section
variable{h:PH}{i j:Int}{a b:Str}{x y z w u v:PV}{r xs ys:List PV}{p q:Bool}{n m:Nat}
theorem D2:yu (.int i) (.int j) h= .ok (.int (i - j)) h:=(rfl)
theorem Ff:ak (.int i) (.int j) h= .ok (.int (i+j)) h:=(rfl)
theorem bX(hl:xs.length+ys.length<=16777216):ak (.tup xs) (.tup ys) h= .ok (.tup (xs++ys)) h:=ky hl
theorem cF(e1:h[n]?=fv (.lst xs))(e2:h[m]?=fv (.lst ys))(hl:xs.length+ys.length<=16777216):ak (.ref n) (.ref m) h= .ok (.ref h.length) (h++[.lst (xs++ys)]):=by
 unfold ak;simp only[e1,e2];exact ky (by simpa using hl)
theorem EH(hj:0 < j):hV (.int i) (.int j) h= .ok (.int (i % j)) h:=by unfold hV p2;simp[hj,BU,gS]
theorem Dg(hj:0<=j/\j<=1000000/\i.natAbs < 18446744073709551616):xJ (.int i) (.int j) h= .ok (.int (i ^ j.toNat)) h:=by
 unfold xJ p2;simp only;rw[if_pos (by omega)];rfl
theorem l8(hj: -18446744073709551616 < j/\j < 18446744073709551616):gf (.int i) (.int j) h= .ok (.int (i*j)) h:=if_pos (.inr (by omega))
theorem wu(hl:(xs.length:Int)*i<=100000/\ -100000<=i/\i<=100000):gf (.tup xs) (.int i) h= .ok (.tup (S4 i.toNat xs).flatten) h:=if_pos hl
theorem Jq:qA (.int i) (.int j) h= .ok (.bl (decide (i < j))) h:=(rfl)
theorem HL:ur (.int i) (.int j) h= .ok (.bl (decide (i<=j))) h:=(rfl)
theorem Ja:pG (.int i) (.int j) h= .ok (.bl (decide (j < i))) h:=(rfl)
theorem Hh:QR (.int i) (.int j) h= .ok (.bl (decide (j<=i))) h:=(rfl)
theorem Er:xA (.int i) h= .ok (.int (-i)) h:=(rfl)
theorem vP:hU (.str a) (.str b) h= .ok (.bl (decide (a=b))) h:=by simp[hU,alike,iE]
theorem vH:hU (.int i) (.int j) h= .ok (.bl (decide (i=j))) h:=by simp[hU,alike,iE]
theorem Di:hU (.bl p) (.bl q) h= .ok (.bl (decide (p=q))) h:=by simp[hU,alike,iE]
theorem Ec:i8 (.int i) (.int j) h= .ok (.bl (!decide (i=j))) h:=by simp[i8,alike,iE,f9]
theorem ER:i8 (.bl p) (.bl q) h= .ok (.bl (!decide (p=q))) h:=by simp[i8,alike,iE,f9]
theorem zo:aW (.tup (x::r)) (.int 0) h= .ok x h:=by
 simp only[aW,fY,tV];rw[if_pos (by decide),if_pos (by simp_all)];rfl
theorem yp:aW (.tup (x::y::r)) (.int 1) h= .ok y h:=by
 simp only[aW,fY,tV];rw[if_pos (by decide),if_pos (by simp only[S2];omega)];rfl
theorem Dm:aW (.tup (x::y::z::r)) (.int 2) h= .ok z h:=by
 simp only[aW,fY,tV];rw[if_pos (by decide),if_pos (by simp only[S2];omega)];rfl
theorem CH:aW (.tup (x::y::z::w::r)) (.int 3) h= .ok w h:=by
 simp only[aW,fY,tV];rw[if_pos (by decide),if_pos (by simp only[S2];omega)];rfl
theorem rM:aW (.tup (x::y::z::w::u::r)) (.int 4) h= .ok u h:=by
 simp only[aW,fY,tV];rw[if_pos (by decide),if_pos (by simp only[S2];omega)];rfl
theorem MN(e:fY xs i=fv v):aW (.tup xs) (.int i) h= .ok v h:=by simp only[aW,e]
theorem cT{xs}(e:i=(n)){v: α}(q:xs[n]?=fv v):fY xs i=fv v:=by
 have hl:=(Tg.mp q).1;subst e;unfold fY tV;rw[if_pos (by omega),if_pos (by omega)];simpa using q
def HZ(y:PV)(h:PH)(o:Option PO):RV PV:=match o with
 | some (.dct kvs)=>(match ig y with
  | some k=>(match aU kvs k with | some v=> .ok v h | none=> .no)
  | none=> .no)
 | some (.lst xs)=>(match y with
  | .int i=>(match fY xs i with | some v=> .ok v h | none=> .no)
  | _=> .no)
 | some (.kq xs)=>(match y with
  | .int i=>(match fY xs i with | some v=> .ok v h | none=> .no)
  | _=> .no)
 | none=> .no
theorem tM:aW (.ref n) y h=HZ y h (h[n]?):=by
 rfl
noncomputable def JL(h:PH)(o:Option PV):RV PV:=match o with
 | some v=> .ok v h
 | none=> .no
theorem Bm:HZ (.str a) h (fv (.dct kvs))=JL h (aU kvs (.inr a)):=(rfl)
theorem u0:HZ (.int i) h (fv (.lst xs))=JL h (fY xs i):=(rfl)
theorem QH:HZ (.int i) h (fv (.kq xs))=JL h (fY xs i):=(rfl)
theorem j8:JL h (fv v)= .ok v h:=(rfl)
theorem lT:aU ((k,v)::kvs) k=fv v:=by simp[aU]
theorem j2(ne:k'≠k):aU ((k',v)::kvs) k=aU kvs k:=by simp[aU,ne]
def CU(n:Nat)(y v:PV)(h:PH)(o:Option PO):RV Unit:=match o with
 | some (.dct kvs)=>(match ig y with
  | some k=>if kvs.length < Ta then .ok () (h.set n (.dct (fA kvs k v))) else .no
  | none=> .no)
 | some (.lst xs)=>(match y with
  | .int i=>(match tV xs.length i with | some j=> .ok () (h.set n (.lst (xs.set j v))) | none=> .no)
  | _=> .no)
 | _=> .no
theorem N5:lN (.ref n) y v h=CU n y v h (h[n]?):=by
 rfl
theorem wM(hl:kvs.length < 16777216):CU n (.str a) v h (fv (.dct kvs))= .ok () (h.set n (.dct (fA kvs (.inr a) v))):=if_pos hl
def R7(n:Nat)(v:PV)(h:PH)(o:Option PO):RV PV:=match o with
 | some (.lst xs)=>if xs.length < Ta then .ok .non (h.set n (.lst (xs++[v]))) else .no
 | _=> .no
theorem QN:dm (.ref n) [v] h=R7 n v h (h[n]?):=by
 rfl
theorem JJ(hl:xs.length < 16777216):R7 n v h (fv (.lst xs))= .ok .non (h.set n (.lst (xs++[v]))):=if_pos hl
theorem len_T:aO [.tup xs] h= .ok (.int xs.length) h:=(rfl)
theorem len_K:aO [.ktup xs] h= .ok (.int xs.length) h:=(rfl)
theorem Gh:dN [.tup xs] h= .ok (.ref h.length) (h++[.lst xs]):=(rfl)
theorem L9:gz false .non h= .ok (.bl true) h:=(rfl)
theorem Nc:gz false (.int i) h= .ok (.bl false) h:=by simp[gz]
theorem N1:gz false (.str a) h= .ok (.bl false) h:=by simp[gz]
theorem Om:gz false (.bl p) h= .ok (.bl false) h:=by simp[gz]
theorem Ho:gz true .non h= .ok (.bl false) h:=(rfl)
section
variable{c:CF}{e:a9}{d k1 k2:ME}{rr:MA}{kvs:List (Key × PV)}{ff:PV->List PV->PH->RV PV}
def RX(a:Str)(z:PV)(h:PH)(o:Option PO):RV PV:=match o with
 | some (.dct kvs)=> .ok ((aU kvs (.inr a)).getD z) h
 | _=> .no
def Pm(x y z:PV)(h3:PH):RV PV:=match x,ig y with
 | .ref n,fv key=>(match h3[n]? with
  | some (.dct kvs)=> .ok ((aU kvs key).getD z) h3
  | _=> .no)
 | _,_=> .no
def Pb(b:ME) c e x y h2:=(b c e h2).bind (Pm x y)
def P4(a b:ME) c e x h1:=if f9 h1 x=true then(a c e h1).bind (Pb b c e x) else .no
def Qt(a b:ME) c e n h (o:Option PO):=match o with
 | some (.dct _)=>(a c e h).bind (Pb b c e (.ref n))
 | _=> .no
theorem Gi:yU d k1 k2 c e h=(d c e h).bind (P4 k1 k2 c e):=(rfl)
theorem DQ:P4 k1 k2 c e (.ref n) h=Qt k1 k2 c e n h (h[n]?):=by
 unfold P4 Qt f9;cases q:h[n]? with
 | none=>simp[q]
 | some o=>cases o<;>simp[q]
theorem zW:Qt k1 k2 c e n h (fv (.dct kvs))=(k1 c e h).bind (Pb k2 c e (.ref n)):=(rfl)
theorem CY:Pb k2 c e x y h=(k2 c e h).bind (Pm x y):=(rfl)
theorem Cg:Pm (.ref n) (.str a) z h=RX a z h (h[n]?):=by
 rfl
theorem zU:RX a z h (fv (.dct kvs))= .ok ((aU kvs (.inr a)).getD z) h:=(rfl)
def QL(f:PV->List PV->PH->RV PV)(r:MA) c e n h (o:Option PO):=match o with
 | some (.lst _)=>(r c e h).bind (f (.ref n))
 | _=> .no
theorem Fv:F2 ff cS rr c e (.ref n) h=QL ff rr c e n h (h[n]?):=by
 unfold F2 QL cS;cases q:h[n]? with
 | none=>simp[q]
 | some o=>cases o<;>simp[q]
theorem J7:QL ff rr c e n h (fv (.lst xs))=(rr c e h).bind (ff (.ref n)):=(rfl)
theorem A5:jC c e h= .ok (.ref h.length) (h++[.dct []]):=(rfl)
end
noncomputable def P0(h:PH)(o:Option PO):RV PV:=match o with
 | some (.lst xs)=> .ok (.tup xs) h
 | some (.kq xs)=> .ok (.tup xs) h
 | _=> .no
theorem CB:cN [.ref n] h=P0 h (h[n]?):=by
 unfold P0;cases q:h[n]? with
 | none=>simp[cN,cH,q]
 | some o=>cases o<;>simp[cN,cH,q]
theorem Bd:P0 h (fv (.lst xs))= .ok (.tup xs) h:=(rfl)
noncomputable def OO(h:PH)(o:Option PO):RV PV:=match o with
 | some (.lst xs)=> .ok (.int xs.length) h
 | some (.kq xs)=> .ok (.int xs.length) h
 | some (.dct kvs)=> .ok (.int kvs.length) h
 | _=> .no
theorem FY:aO [.ref n] h=OO h (h[n]?):=by
 unfold OO;cases q:h[n]? with
 | none=>simp[aO,itemsOf,cH,q]
 | some o=>cases o<;>simp[aO,itemsOf,cH,q]
theorem KP:OO h (fv (.lst xs))= .ok (.int xs.length) h:=(rfl)
theorem Hf:OO h (fv (.kq xs))= .ok (.int xs.length) h:=(rfl)
theorem j3{a:Str}: ∀{ss:List Str},((ss.map PV.str).any λz=>vM z (.str a))=decide (a∈ss)
 | []=>by simp
 | x::t=>by
  rw[S7,UX,j3];by_cases e:x=a
  . subst e;simp[show vM (.str x) (.str x)=(x == x) from rfl]
  . have e': ¬ a=x:=λz=>e z.symm;simp[show vM (.str x) (.str a)=(x == a) from rfl,e,e']
theorem all_strs: ∀{ss:List Str},((ss.map PV.str).all d7)=true
 | []=>rfl
 | x::t=>by rw[S7,Ub,all_strs];rfl
theorem CN{ss:List Str}:fK (.str a) (.tup (ss.map PV.str)) h= .ok (.bl (decide (a∈ss))) h:=by
 have:isIn (.str a) (.tup (ss.map PV.str)) h=fv (decide (a∈ss)):=by
  unfold isIn;simp only[itemsOf,all_strs,d7,UC,if_true,j3]
 unfold fK;rw[this]
theorem in_K{ss:List Str}:fK (.str a) (.ktup (ss.map PV.str)) h= .ok (.bl (decide (a∈ss))) h:=by
 have:isIn (.str a) (.ktup (ss.map PV.str)) h=fv (decide (a∈ss)):=by
  unfold isIn;simp only[itemsOf,all_strs,d7,UC,if_true,j3]
 unfold fK;rw[this]
section
variable{c:CF}{e:a9}{d:ME}{kvs:List (Key × PV)}
def RO(kvs:List (Key × PV))(x:PV)(h:PH):RV PV:=match ig x with
 | some key=>(match aU kvs key with
  | some v=> .ok v h
  | none=> .no)
 | none=> .no
theorem LK:sF kvs d c e h=(d c e h).bind (RO kvs):=(rfl)
theorem HH:RO kvs (.str a) h=JL h (aU kvs (.inr a)):=(rfl)
def Pn(neg:Bool)(kvs:List (Key × PV))(x:PV)(h:PH):RV PV:=match ig x with
 | some key=> .ok (.bl (if neg then !(aU kvs key).isSome else(aU kvs key).isSome)) h
 | none=> .no
theorem Ow{neg:Bool}:ug neg kvs d c e h=(d c e h).bind (Pn neg kvs):=(rfl)
theorem GP:Pn false kvs (.str a) h= .ok (.bl (aU kvs (.inr a)).isSome) h:=(rfl)
theorem J4:Pn true kvs (.str a) h= .ok (.bl (!(aU kvs (.inr a)).isSome)) h:=(rfl)
end
section
variable{c:CF}{e:a9}{d:ME}{l uu:MO}
def IT(uu:MO) c e x (lo:Option Int) h:=(uu c e h).bind (FC x lo)
def Ly(l uu:MO) c e x h:=(l c e h).bind (IT uu c e x)
theorem MH:dR d l uu c e h=(d c e h).bind (Ly l uu c e):=(rfl)
theorem Jk:Ly l uu c e x h=(l c e h).bind (IT uu c e x):=(rfl)
theorem Kb{lo}:IT uu c e x lo h=(uu c e h).bind (FC x lo):=(rfl)
theorem LC:aR c e h= .ok SU h:=(rfl)
noncomputable def RJ(v:PV)(h1:PH):RV (Option Int):=match v with
 | .int i=> .ok (fv i) h1
 | _=> .no
theorem Mj:aK d c e h=(d c e h).bind RJ:=(rfl)
theorem Il:RJ (.int i) h= .ok (fv i) h:=(rfl)
theorem PD{lo}:FC (.tup xs) lo hi h= .ok (.tup (bV xs lo hi)) h:=(rfl)
def Rc(lo hi:Option Int)(h:PH)(o:Option PO):RV PV:=match o with
 | some (.lst xs)=> .ok (.ref h.length) (h++[.lst (bV xs lo hi)])
 | some (.kq xs)=> .ok (.ref h.length) (h++[.lst (bV xs lo hi)])
 | _=> .no
theorem PZ{lo}:FC (.ref n) lo hi h=Rc lo hi h (h[n]?):=by
 unfold Rc;cases q:h[n]? with
 | none=>simp[FC,cH,q]
 | some o=>cases o<;>simp[FC,cH,q]
theorem Nr{lo}:Rc lo hi h (fv (.lst xs))= .ok (.ref h.length) (h++[.lst (bV xs lo hi)]):=(rfl)
theorem fT{lo}(h0:0<=lo):bV xs (fv lo) SU=xs.drop lo.toNat:=by
 have e:lo=((lo.toNat)):=by omega
 unfold bV;rw[e,HT.iR,HT.j9];simp only[Uu];rcases Ye lo.toNat xs.length with z | z
 . grind
 . rw[WE z,VN z];simp
theorem jD(h0:0<=hi):bV xs SU (fv hi)=xs.take hi.toNat:=by
 have e:hi=((hi.toNat)):=by omega
 unfold bV;rw[e,HT.iR,HT.j9];simp only[Uu,YL,ZI];rcases Ye hi.toNat xs.length with z | z
 . rw[WU z]
 . rw[WE z,U8 (Te _),U8 z]
theorem DH{lo hi:Int}(h0:0<=lo)(h1:0<=hi):bV xs (fv lo) (fv hi)=(xs.take hi.toNat).drop lo.toNat:=by
 have e:lo=((lo.toNat:Nat):Int):=by omega
 have e':hi=((hi.toNat:Nat):Int):=by omega
 unfold bV;rw[e,e',HT.iR,HT.iR];simp only[Uu];rw[List.drop_take];apply List.ext_getElem?;intro j;simp only[Zu,List.getElem?_drop];by_cases z:j < min hi.toNat xs.length - min lo.toNat xs.length
 . rw[if_pos z,if_pos (by omega),WU (by omega)]
 . rw[if_neg z];split
   . symm;exact List.getElem?_eq_none (by omega)
   . rfl
end
variable{o o':PO}{g:PH}{k:Nat}
theorem aI:(h++(o::g))[h.length]?=fv o:=by rw[TU (Te _)];simp
theorem aw:(h++g)[h.length+k]?=g[k]?:=by rw[TU (by omega)];congr 1;omega
theorem bb(hn:n < h.length):(h++g)[n]?=h[n]?:=TV hn
theorem dj:(h++g).set h.length o=h++g.set 0 o:=by simp
theorem mJ:(h++g).set (h.length+k) o=h++g.set k o:=by simp_all
theorem bP(e:h[n]?=fv o):n < h.length:=(Tg.mp e).1
end
section
variable{h:PH}{i j:Int}{a b:Str}{x y z w u v:PV}{r xs ys:List PV}{p q:Bool}{n m:Nat}
theorem aJ:aP [.tup xs,.ty "tuple"] h= .ok (.bl true) h:=(rfl)
theorem Kr:aP [.tup xs,.ty "list"] h= .ok (.bl false) h:=(rfl)
theorem zt:aP [.tup xs,.ty "int"] h= .ok (.bl false) h:=(rfl)
theorem vi:aP [.tup xs,.ty "str"] h= .ok (.bl false) h:=(rfl)
theorem Hb:aP [.tup xs,.tup [.ty "tuple",.ty "list"]] h= .ok (.bl true) h:=(rfl)
theorem dE:aP [.int i,.ty "tuple"] h= .ok (.bl false) h:=(rfl)
theorem qZ:aP [.int i,.ty "bool"] h= .ok (.bl false) h:=(rfl)
theorem qG:aP [.int i,.ty "int"] h= .ok (.bl true) h:=(rfl)
theorem uv:aP [.int i,.ty "str"] h= .ok (.bl false) h:=(rfl)
theorem AN:aP [.int i,.tup [.ty "tuple",.ty "list"]] h= .ok (.bl false) h:=(rfl)
theorem dB:aP [.str a,.ty "tuple"] h= .ok (.bl false) h:=(rfl)
theorem Bv:aP [.str a,.ty "bool"] h= .ok (.bl false) h:=(rfl)
theorem qy:aP [.str a,.ty "int"] h= .ok (.bl false) h:=(rfl)
theorem cD:aP [.str a,.ty "str"] h= .ok (.bl true) h:=(rfl)
theorem yR:aP [.str a,.tup [.ty "tuple",.ty "list"]] h= .ok (.bl false) h:=(rfl)
theorem dA:aP [.bl p,.ty "tuple"] h= .ok (.bl false) h:=(rfl)
theorem rn:aP [.bl p,.ty "bool"] h= .ok (.bl true) h:=(rfl)
theorem AV:aP [.bl p,.ty "int"] h= .ok (.bl true) h:=(rfl)
theorem vt:aP [.bl p,.ty "str"] h= .ok (.bl false) h:=(rfl)
theorem zO:aP [.bl p,.tup [.ty "tuple",.ty "list"]] h= .ok (.bl false) h:=(rfl)
theorem c9:aP [.non,.ty "tuple"] h= .ok (.bl false) h:=(rfl)
theorem zc:aP [.non,.ty "int"] h= .ok (.bl false) h:=(rfl)
theorem uY:aP [.non,.ty "str"] h= .ok (.bl false) h:=(rfl)
theorem AY:aP [.non,.tup [.ty "tuple",.ty "list"]] h= .ok (.bl false) h:=(rfl)
theorem vQ: ∀ bs ,vf (bs.map PV.bl)=fv bs
 | []=>rfl
 | b::r=>by rw[S7,vf,vQ r];rfl
theorem rJ: ∀ bs:List Int,mO (bs.map PV.int)=fv bs
 | []=>rfl
 | b::r=>by rw[S7,mO,rJ r];rfl
theorem pL{bs:List Bool}(e:h[n]?=fv (.lst (bs.map PV.bl))):fw [.ref n] h= .ok (.bl (bs.all id)) h:=by
 simp[fw,pF,cH,e,vQ]
theorem FI{bs:List Int}(e:h[n]?=fv (.lst (bs.map PV.int))):t6 [.ref n] h= .ok (.int bs.sum) h:=by
 simp[t6,pF,cH,e,rJ]
theorem strs_map: ∀ ss:List Str,eN (ss.map PV.str)=fv ss
 | []=>rfl
 | x::r=>by rw[S7,eN,strs_map r];rfl
theorem any_ints{i:Int}: ∀{ss:List Int},((ss.map PV.int).any λz=>vM z (.int i))=decide (i∈ss)
 | []=>by simp
 | x::t=>by
  rw[S7,UX,any_ints];by_cases e:x=i
  . subst e;simp[show vM (.int x) (.int x)=(x == x) from rfl]
  . have e': ¬ i=x:=λz=>e z.symm;simp[show vM (.int x) (.int i)=(x == i) from rfl,e,e']
theorem all_ints: ∀{ss:List Int},((ss.map PV.int).all d7)=true
 | []=>rfl
 | x::t=>by rw[S7,Ub,all_ints];rfl
theorem NX{ss:List Int}(e:h[n]?=fv (.lst (ss.map PV.int))):fK (.int i) (.ref n) h= .ok (.bl (decide (i∈ss))) h:=by
 have:isIn (.int i) (.ref n) h=fv (decide (i∈ss)):=by
  unfold isIn;simp only[itemsOf,cH,e,all_ints,d7,UC,if_true,any_ints]
 unfold fK;rw[this]
theorem uP:bV (x::xs) (fv 1) SU=xs:=by rw[P3.fT (by decide)];rfl
end
section
variable{c:CF}{e:a9}{h h1:PH}{a b:ME}{r:MP}{x y v:PV}{kvs:List (Key × PV)}{key:Key}{s:Str}{i:Int}{n:Nat}
def B6(n:Nat)(kvs:List (Key × PV))(h1:PH):RV PV:=if h1[n]?=fv (.dct [])/\kvs.length<=15 then .ok (.ref n) (h1.set n (.dct (bp [] kvs))) else .no
noncomputable def PQ(key:Key)(v:PV)(kvs:List (Key × PV))(h3:PH):RV (List (Key × PV)):= .ok ((key,v)::kvs) h3
def P7 key (r:MP) c e v h2:=(r c e h2).bind (PQ key v)
def Rr(b:ME)(r:MP)(c:CF)(e:a9)(x:PV)(h1:PH):RV (List (Key × PV)):=match ig x with
 | some key=>(b c e h1).bind (P7 key r c e)
 | none=> .no
theorem g8:ef r c e h=(r c e (h++[.dct []])).bind (B6 h.length):=(rfl)
theorem jm:gP c e h= .ok [] h:=(rfl)
theorem jy:aQ a b r c e h=(a c e h).bind (Rr b r c e):=(rfl)
theorem gJ:Rr b r c e (.str s) h=(b c e h).bind (P7 (.inr s) r c e):=(rfl)
theorem jw:P7 key r c e v h=(r c e h).bind (PQ key v):=(rfl)
theorem jt:PQ key v kvs h= .ok ((key,v)::kvs) h:=(rfl)
theorem uD(h1:h[n]?=fv (.dct []))(h2:kvs.length<=15):B6 n kvs h= .ok (.ref n) (h.set n (.dct (bp [] kvs))):=if_pos ⟨h1,h2⟩
theorem lR(h2:kvs.length<=15):B6 h.length kvs (h++[.dct []])= .ok (.ref h.length) (h++[.dct (bp [] kvs)]):=by
 rw[uD aI h2,dj];rfl
end
section
variable{X:Cx}{pg:Tb}{k:Nat}
def CG:V->List V->Hp->VK->Prop:=λx vs H Q=> ∃ l b kvs more,x= .ref l/\vs=[.ref b]/\l≠b/\H l=fv (.dK kvs)/\H b=fv (.dK more)/\kvs.length+more.length<=Ta/\Q .non (upd H l (.dK (gq kvs more)))
theorem wZ:zG X "dict.update" CG:=by
 intro pins s σ H x vs v us Q I rx rv h;obtain⟨l,b,kvs,more,rfl,rfl,hlb,hH,hB,hz,q⟩:=h;cases rx;obtain⟨u,rfl,ru⟩:=vals1 rv;cases(show u=Tx b from ru);obtain⟨z1,n1,vs1,r1,d1⟩:=pD I.bL hH;obtain⟨z2,n2,vs2,r2,d2⟩:=pD I.bL hB;refine ZH PySem.F.slot_dict_update d1.typeIs PySem.F.entry_dict_update (PySem.F.args_dict_update_2 _ _) (meets_dict_update (bE X.prog X.w) l b hlb n2) ⟨vs1,vs2,d1,d2,by rw[<- r1.length,<- r2.length];exact hz,λh' d' _ sb=>?_⟩;have ln:=gu more kvs;exact⟨.non,_,lY I (by rw[hH];exact trivial) sb (let ⟨q,_,_,hq,_⟩:=d';⟨q,hq⟩) (um (by omega) n1 (KV.merge r2 r1) d'),rfl,q⟩
def eQ:PV->PH->Bool:=λx h=>match x with
 | .ref n=>(match h[n]? with
  | some (.dct _)=>true
  | _=>false)
 | _=>false
theorem xM{ρ :List Tp}{h:PH}{H:Hp}{x:PV}{v:V}(s:dt X.K ρ h H)(r:rel X.K ρ H x v)(e:eQ x h=true):Lo X.K "dict" v H:=by
 cases x with
 | ref n =>
  simp only[eQ] at e
  split at e
  . rename_i kvs en;rw[rel] at r;obtain⟨a,ea,rfl⟩:=r;obtain⟨kws,e1,_⟩:=s.ob n _ a en ea;exact .inr (.inr (.inl ⟨rfl,.inl ⟨kws,e1⟩⟩))
  . nomatch e
 | _=>nomatch e
def bU:PV->List PV->PH->RV PV:=λx vs h=>match x,vs with
 | .ref n,[.ref m]=>(match h[n]?,h[m]? with
  | some (.dct kvs),fv (.dct more)=>if n≠m/\kvs.length+more.length<=Ta then .ok .non (h.set n (.dct (bp kvs more))) else .no
  | _,_=> .no)
 | _,_=> .no
theorem Av:cW X pg k-> ∃ r,zG X "dict.update" r/\Lj X.K "dict" r bU eQ:=λA=>⟨_,wZ,fun ρ h H x x' s r e=>xM s r e,fun ρ h H x x' xs us Q v h' s rx rs q P=>by
 unfold bU at q;split at q
 . rename_i n m;split at q
   . rename_i kvs more en em;split at q
     . rename_i hl;cases q;rw[rel] at rx;obtain⟨a,ea,rfl⟩:=rx;obtain⟨kws,e1,e2⟩:=s.ob n _ a en ea;obtain⟨u,rfl,r⟩:=bQ rs;rw[rel] at r;obtain⟨b,eb,rfl⟩:=r;obtain⟨mws,d1,d2⟩:=s.ob m _ b em eb;have hab:a≠b:=λe=>hl.1 (s.nd n m a _ _ en em rfl rfl ea (e ▸ eb));have g:Gr ρ H ρ (upd H a (.dK (gq kws mws))):=Gr.write (.inr ⟨_,e1⟩);exact⟨a,b,kws,mws,rfl,rfl,hab,e1,d1,by rw[<- RK.len e2,<- RK.len d2];exact hl.2,P _ ρ _ g (s.write en ea rfl rfl ⟨_,bH,RK.merge (Paired.gG g d2) (Paired.gG g e2)⟩) (by rw[rel])⟩
     . nomatch q
   . nomatch q
 . nomatch q⟩
end
section
variable{h:PH}{n m:Nat}{kvs more:List (Key × PV)}
theorem Ie(e1:h[n]?=fv (.dct kvs))(e2:h[m]?=fv (.dct more))(hn:n≠m)(hl:kvs.length+more.length<=1000):bU (.ref n) [.ref m] h= .ok .non (h.set n (.dct (bp kvs more))):=by
 have z:kvs.length+more.length<=Ta:=Ua hl (by decide);simp only[bU,e1,e2,if_pos (YZ hn z)]
theorem yX(e1:h[n]?=fv (.dct kvs)):eQ (.ref n) h=true:=by simp only[eQ,e1]
end
section
variable{α :Type}{p:List α ->Prop}
theorem Sz(h:p []): ∀ us:List α,us.length=0->p us:=λus e=>by simp_all
theorem OK{n:Nat}(h: ∀ a: α,∀ us:List α,us.length=n->p (a::us)): ∀ us:List α,us.length=n+1->p us:=λus e=>by
 cases us with
 | nil=>simp at e
 | cons a r=>exact h a r (by simpa using e)
theorem Sf(h: ∀ a,p [a]): ∀ us:List α,us.length=1->p us:=OK λa=>Sz (h a)
theorem Sh(h: ∀ a b,p [a,b]): ∀ us:List α,us.length=2->p us:=OK λa=>Sf (h a)
theorem RS(h: ∀ a b c,p [a,b,c]): ∀ us:List α,us.length=3->p us:=OK λa=>Sh (h a)
theorem Ss(h: ∀ a b c d,p [a,b,c,d]): ∀ us:List α,us.length=4->p us:=OK λa=>RS (h a)
end
section
variable{X:Cx}{pg:Tb}{k:Nat}{e iter:Uh}{ma:ME}{mt:MT}{mI:MI}{scope:Xm}{ifs:List Uh}{pos spos py vp wp tp:Pos}{y v w:Str}{i j m n:Nat}
theorem GC.of{K}(h:Y0 n i=true):GC K n (fX i) (gN i):=Cq (Nat.le_of_ble_eq_true h)
theorem Ir(hi:JI X pg k (.Name v vp) iter mI)
  (hb: ∀ cl C s₀ H₀ ex pn,(cW X pg k->QG (fG X [v] scope cl C s₀ H₀ ex pn) (.Name v vp) (fX m))/\JF (fG X [v] scope cl C s₀ H₀ ex pn) pg k ifs mt/\JE (fG X [v] scope cl C s₀ H₀ ex pn) pg k e ma)
  (hm:Y0 X.N.length m=true:=by rfl) (hkind:scope.kind= .function:=by rfl) (hlc:ij scope.names X.env.scope.names X.N [v]=true:=by rfl) (hs: ∀ x,Ul iter X.env x=pure x:=by intro _;rfl) :
  JE X pg k (.ListComp e [⟨.Name v vp,iter,ifs,0⟩] scope pos) (dw 1 mI (gN m) mt ma):=tU [v] hkind hlc hi hb (GC.of hm) hs
theorem GL(hi:JI X pg k (.Tuple [.Name v vp,.Name w wp] j tp) iter mI)
  (hb: ∀ cl C s₀ H₀ ex pn,(cW X pg k->QG (fG X [v,w] scope cl C s₀ H₀ ex pn) (.Tuple [.Name v vp,.Name w wp] j tp) (uC X.K 2 (lx (fX m) (lx (fX n) yy))))/\JF (fG X [v,w] scope cl C s₀ H₀ ex pn) pg k ifs mt/\JE (fG X [v,w] scope cl C s₀ H₀ ex pn) pg k e ma)
  (hm:Y0 X.N.length m=true:=by rfl) (hn:Y0 X.N.length n=true:=by rfl) (hkind:scope.kind= .function:=by rfl) (hlc:ij scope.names X.env.scope.names X.N [v,w]=true:=by rfl) (hs: ∀ x,Ul iter X.env x=pure x:=by intro _;rfl) :
  JE X pg k (.ListComp e [⟨.Tuple [.Name v vp,.Name w wp] j tp,iter,ifs,0⟩] scope pos) (dw 2 mI (gT 2 (ba (gN m) (ba (gN n) eO))) mt ma):=tU [v,w] hkind hlc hi hb (yM (jR (GC.of hm) (jR (GC.of hn) vW))) hs
theorem G7(hN:X.N.Nodup)(hi:JI X pg k (.Name v vp) iter mI)
  (hb: ∀ cl C s₀ H₀ ex pn,(cW X pg k->QG (fG X [v] scope cl C s₀ H₀ ex pn) (.Name v vp) (fX m))/\JF (fG X [v] scope cl C s₀ H₀ ex pn) pg k ifs mt/\JE (fG X [v] scope cl C s₀ H₀ ex pn) pg k e ma)
  (hm:Y0 X.N.length m=true:=by rfl) (hiy:X.N[i]?=fv y:=by rfl) (hy:Loc X.env.scope y:=by first | exact YG rfl | exact Xe rfl) (hkind:scope.kind= .function:=by rfl) (hlc:ij scope.names X.env.scope.names X.N [v]=true:=by rfl)
  (hsw:VY (.ListComp e [⟨.Name v vp,iter,ifs,0⟩] scope pos) (fv (.Name y py)) spos.line X.env=pure true:=by rfl) (hs: ∀ x,Ul iter X.env x=pure x:=by intro _;rfl)
  (hf:X.fn y=true\/X.env.scope.names.lookup y=fv .local:=by first | exact .inl rfl | exact .inr rfl | assumption) :
  JS X pg k (.Assign [.Name y py] (.ListComp e [⟨.Name v vp,iter,ifs,0⟩] scope pos) spos) (ay (dw 1 mI (gN m) mt ma) (gN i)):=rR [v] i hkind hlc hN hiy hy hi hb (GC.of hm) hsw hs hf
theorem K9(hN:X.N.Nodup)(hi:JI X pg k (.Tuple [.Name v vp,.Name w wp] j tp) iter mI)
  (hb: ∀ cl C s₀ H₀ ex pn,(cW X pg k->QG (fG X [v,w] scope cl C s₀ H₀ ex pn) (.Tuple [.Name v vp,.Name w wp] j tp) (uC X.K 2 (lx (fX m) (lx (fX n) yy))))/\JF (fG X [v,w] scope cl C s₀ H₀ ex pn) pg k ifs mt/\JE (fG X [v,w] scope cl C s₀ H₀ ex pn) pg k e ma)
  (hm:Y0 X.N.length m=true:=by rfl) (hn:Y0 X.N.length n=true:=by rfl) (hiy:X.N[i]?=fv y:=by rfl) (hy:Loc X.env.scope y:=by first | exact YG rfl | exact Xe rfl) (hkind:scope.kind= .function:=by rfl) (hlc:ij scope.names X.env.scope.names X.N [v,w]=true:=by rfl)
  (hsw:VY (.ListComp e [⟨.Tuple [.Name v vp,.Name w wp] j tp,iter,ifs,0⟩] scope pos) (fv (.Name y py)) spos.line X.env=pure true:=by rfl) (hs: ∀ x,Ul iter X.env x=pure x:=by intro _;rfl)
  (hf:X.fn y=true\/X.env.scope.names.lookup y=fv .local:=by first | exact .inl rfl | exact .inr rfl | assumption) :
  JS X pg k (.Assign [.Name y py] (.ListComp e [⟨.Tuple [.Name v vp,.Name w wp] j tp,iter,ifs,0⟩] scope pos) spos) (ay (dw 2 mI (gT 2 (ba (gN m) (ba (gN n) eO))) mt ma) (gN i)):=rR [v,w] i hkind hlc hN hiy hy hi hb (yM (jR (GC.of hm) (jR (GC.of hn) vW))) hsw hs hf
end
end P3
end
section
open PySem PySem.W PyProof.Rows
namespace L2
open PySem PySem.Spec PyProof.Rows
theorem qH: ∀{us ss},StrsAre us ss-> ∀ i hu(hs:i < ss.length),Y1 a us[i]=(ss[i] == a)
 | _,_,.nil,i,hu,_=>absurd hu (Nat.not_lt_zero i)
 | _,_,.cons x t h,0,_,_=>rfl
 | _,_,.cons x t h,i+1,hu,hs=>qH h i (Yj hu) (Yj hs)
theorem Am{ss:List Str}(h:a∈ss):ss.idxOf a < ss.length:=List.idxOf_lt_length_iff.mpr h
end L2
namespace P3
open PySem PySem.Spec PyProof.Rows L2
section
variable{X:Cx}{pg:Tb}{k j n:Nat}{es:List Uh}{t:BX}{pos:Pos}{vars:List Str}{scope:Xm}{cl:List (Str × Tp)}{C:Tp}{s0:Tc}{H0:Hp}{ex:List Tp}{pn:List (Tp × Obj)}
theorem EO(A:cW X pg k)(h:Ld (fG X vars scope cl C s0 H0 ex pn) es t)(hn:(UI es (fG X vars scope cl C s0 H0 ex pn).env).length=n:=by rfl)(hst:(UI es (fG X vars scope cl C s0 H0 ex pn).env).findIdx? (·.1)=SU:=by rfl):QG (fG X vars scope cl C s0 H0 ex pn) (.Tuple es j pos) (uC X.K n t):=AX A.calm h hn hst
end
end P3
end
section
open PySem PySem.W PyProof.Rows
namespace L2
open PySem PySem.Spec PyProof.Rows
open PySem.AutoSeq1 (wpAny_loadPart')
theorem Ck f (J:List Nat-> β ->Tc->Prop) Q
  (step: ∀ i r b u,J (i::r) b u->TC M A (f i b) (λz u'=>match z with
   | .yield b'=>J r b' u'
   | .done b'=>Q b' u') E u) (stop: ∀ b u,J [] b u->Q b u) (rg:Std.Legacy.Range) (b) (h:J (List.range' rg.start rg.size rg.step) b s):TC M A (forIn rg b f) Q E s:=by
 rw[YS];exact wpAny_forIn_list f J Q step stop _ b h
theorem xV l az n di sl x (e:S5->Bool) (he: ∀ y,y∈az->MeetsSeq.EqGives y x (e y)) j hj (h1:e az[j]=true) (h0: ∀(m:Nat) hm,m < j->e az[m]=false) :
  Meets (WI.«tuple.index» ⟨[.ref l,x],[]⟩) (λ_ R s=>s.heap.get? l=fv { cls:= .type "tuple",dict:=di,data:= .seq az n,slots:=sl}/\R (.ok (.ret (.int (j) s.toks))) { s with toks:=s.toks+1}) :=
 .of_wp λprog w A R u hu=>by
  obtain⟨hp,gg,dd,tk,os⟩:=u;obtain⟨hl,hr⟩:=hu
  wp_walk using wpAny_loadPart' hl,Ck _ (λrest b u'=>b=(SU,())/\u'=(⟨hp,gg,dd,tk,os⟩)/\ ∃ m,rest=List.range' m (az.size - m)/\m<=j) _
  case step =>
   rintro i r b u' ⟨rfl,rfl,m,em,mj⟩
   have hm:m < az.size:=by omega
   rw[show az.size - m=(az.size - (m+1))+1 by omega,List.range'_succ] at em
   obtain⟨rfl,rfl⟩:=aar em
   have ei:=V8 hm
   rw[ei]
   refine SW (he az[i] (Array.getElem_mem hm) prog w _ _ _ _ ?_)
   by_cases c:i=j
   . subst c;rw[h1]
     wp_walk
     exact⟨_,rfl,hr⟩
   . rw[h0 i hm (by omega)]
     wp_walk
     exact⟨rfl,rfl,i+1,rfl,by omega⟩
  case stop =>
   rintro b u' ⟨_,_,m,em,mj⟩
   have:=congrArg VJ em
   rw[Tj,List.length_range'] at this
   omega
  case h=>exact⟨rfl,rfl,0,by simp_all,U2 _⟩
section
variable{X:Cx}
def Eb:V->List V->Hp->VK->Prop:=λx vs H Q=> ∃(l:Tp)(ss:List Str)(a:Str),x= .ref l/\vs=[.str a]/\H l=fv (.lst (ss.map V.str))/\a∈ss/\Q (.int (ss.idxOf a)) H
theorem places{a:Str}{t:Tok}{az:List S5}{ss:List Str}(sa:StrsAre az ss)(ln:az.length=ss.length)(ha:a∈ss) :
  ∃ hj:ss.idxOf a < az.toArray.size,Y1 a az.toArray[ss.idxOf a]=true/\ ∀(m:Nat)(hm:m < az.toArray.size),m < ss.idxOf a->Y1 a az.toArray[m]=false:=by
 have hj:=Am ha;refine⟨by rw[TK,ln];exact hj,?_,λm hm hlt=>?_⟩
 . show Y1 a (az[ss.idxOf a]'(by rw[ln];exact hj))=true;rw[qH sa _ _ hj,List.getElem_idxOf hj];exact beq_self_eq_true a
 . have hm':m < ss.length:=by simp_all
   show Y1 a (az[m]'(by omega))=false;have nf:=List.not_of_lt_findIdx (p:=(· == a)) (xs:=ss) (i:=m) hlt
   rw[qH sa _ _ hm'];simpa using nf
theorem xv:O9 X "list.index" Eb:=by
 intro pins s σ H x vs v us Q I rx rv h;obtain⟨l,ss,a,rfl,rfl,hH,ha,q⟩:=h;cases rx;obtain⟨u,rfl,t,rfl⟩:=rv.one;obtain⟨z,az,n,r,hl,e⟩:=I.rD hH;have sa:=og r;have ln:az.length=ss.length:=by simp_all
 obtain⟨hj,h1,h0⟩:=places (t:=t) sa ln ha;refine UQ F.slot_list_index ⟨_,e,rfl⟩ F.entry_list_index (F.args_list_index_2 _ _)
  (MeetsSeq.list_index l az.toArray n (.str a t) (Y1 a) (λy hy=>eq_isStrOf a t sa y (by simp_all)) (ss.idxOf a) hj (by have:=Am ha;have:Ta=16777216:=rfl;omega) h1 h0) ⟨e,?_⟩
 exact⟨.int (ss.idxOf a),H,I.tok _,⟨_,rfl⟩,q⟩
def Cw(K:SV):V->List V->Hp->VK->Prop:=λx vs H Q=> ∃(l:Tp)(ss:List Str)(a:Str),x= .ref l/\vs=[.str a]/\fB K H l (ss.map V.str)/\a∈ss/\Q (.int (ss.idxOf a)) H
theorem wX:O9 X "tuple.index" (Cw X.K):=by
 intro pins s σ H x vs v us Q I rx rv h;obtain⟨l,ss,a,rfl,rfl,hH,ha,q⟩:=h;cases rx;obtain⟨u,rfl,t,rfl⟩:=rv.one;obtain⟨az,r,⟨o,e,ec,n,ed⟩,z⟩:=I.tuple hH;have sa:=og r;have ln:az.length=ss.length:=by rw[<- r.length,SX]
 obtain⟨hj,h1,h0⟩:=places (t:=t) sa ln ha;obtain⟨oc,od,oa,os⟩:=o;cases ec;cases ed;refine UQ F.slot_tuple_index ⟨_,e,rfl⟩ F.entry_tuple_index (F.args_tuple_index_2 _ _)
  (xV l az.toArray n od os (.str a t) (Y1 a) (λy hy=>eq_isStrOf a t sa y (by simp_all)) (ss.idxOf a) hj h1 h0) ⟨e,?_⟩
 exact⟨.int (ss.idxOf a),H,I.tok _,⟨_,rfl⟩,q⟩
variable{o e:Uh}{to:TE}{t:TA}{name:Str}{apos cpos:Pos}{id:String}{r:V->List V->Hp->VK->Prop}
end
end L2
namespace P3
open PySem PySem.Spec PyProof.Rows L2
section
variable{X:Cx}{pg:Tb}{k:Nat}{d e:Uh}{md:ME}{mr:MA}{apos cpos:Pos}
def kj:PV->List PV->PH->RV PV:=λx vs h=>match x,vs with
 | .ref n,[.str a]=>(match h[n]? with
  | some (.lst xs)=>(match eN xs with
   | some ss=>if a∈ss then .ok (.int (ss.idxOf a)) h else .no
   | none=> .no)
  | _=> .no)
 | _,_=> .no
theorem BA:cW X pg k-> ∃ r,zG X "list.index" r/\Lj X.K "list" r kj cS:=λA=>⟨_,xv,fun ρ h H x x' s r e=>ou s r e,fun ρ h H x x' xs us Q v h' s rx rs q P=>by
 unfold kj at q;split at q
 . rename_i n a;split at q
   . rename_i ys en;split at q
     . rename_i ss es;split at q
       . rename_i ha;cases q;obtain⟨b,vs,rfl,ea,e1,e2⟩:=s.lst en rx;obtain⟨u,rfl,r⟩:=bQ rs;subst r;rw[ow es,gF] at e2;subst e2;exact⟨b,ss,a,rfl,rfl,e1,ha,P _ ρ H (.refl _ _) s (by rw[rel])⟩
       . nomatch q
     . nomatch q
   . nomatch q
 . nomatch q⟩
def yv(x:PV)(vs:List PV)(h:PH):RV PV:=match x,vs with
 | .ktup xs,[.str a]=>(match eN xs with
  | some ss=>if a∈ss then .ok (.int (ss.idxOf a)) h else .no
  | none=> .no)
 | _,_=> .no
def Qj(v:PV)(mr:MA):ME:=λc e h=>(mr c e h).bind λvs h2=>yv v vs h2
theorem xI{p}(hc:pg.con x=fv v)(hg:Gl X x)(ha:JA X pg k [e] mr)(hd:(x == ("__debug__"))=false:=by decide)(hbase:Wg (.Name x p) "index" X.env (Vl (.Name x p) X.env)=Vl (.Name x p) X.env:=by rfl)(hline:(apos.endLine == cpos.line)=true:=by rfl)(hs:noStar e=true:=by rfl) :
  JE X pg k (.Call (.Attribute (.Name x p) "index" apos) [e] [] cpos) (Qj v mr):=⟨λA=>by
 obtain⟨u,v',e1,e2,cn,e3⟩:=A.con x v hc;obtain⟨_,q1,s1⟩:=ha.h A;refine⟨_,Fw PySem.F.plainAttrs_tuple PySem.F.slot_tuple_index PySem.F.type_tuple_index wX (wA hg e1 e2 hd) q1 hbase hline hs,fun ρ h H e σ Q w h' z r q P=>?_⟩;obtain⟨xs,h2,e2',q⟩:=bind_eq.mp q;unfold yv at q;split at q
 . rename_i ys a _;split at q
   . rename_i ss es;split at q
     . rename_i hm;cases q;have r0:=e3 ρ H;obtain⟨pa,vs,rfl,_,_⟩:=r0;obtain⟨o,o1,o2,o3⟩:=cn pa rfl;refine⟨.inr (.inl ⟨rfl,o,o1,o2,o3⟩),?_⟩;refine s1 ρ h H e σ _ _ _ z r e2' λus ρ2 H2 g2 z2 r2=>?_;obtain⟨p',vs',ep,sq,rv⟩:=rel.seq (x:= .ktup ys) rfl (e3 ρ2 H2);cases ep;obtain⟨u',rfl,ru⟩:=bQ r2;subst ru;rw[ow es,gF] at rv;subst rv;exact⟨_,ss,a,rfl,rfl,sq,hm,P.gr g2 _ ρ2 H2 (.refl _ _) z2 (by rw[rel])⟩
     . nomatch q
   . nomatch q
 . nomatch q⟩
end
section
variable{c:CF}{e:a9}{h:PH}{d:ME}{r:MA}{x v:PV}{ss:List Str}{a:Str}{n:Nat}
theorem rW:Qj v r c e h=(r c e h).bind (yv v):=(rfl)
theorem Jw(ha:a∈ss):yv (.ktup (ss.map PV.str)) [.str a] h= .ok (.int (ss.idxOf a)) h:=by
 unfold yv;simp only[kM,if_pos ha]
theorem EN(e1:h[n]?=fv (.lst (ss.map PV.str)))(ha:a∈ss):kj (.ref n) [.str a] h= .ok (.int (ss.idxOf a)) h:=by
 unfold kj;simp only[e1,kM,if_pos ha]
end
section
variable{X:Cx}{pg:Tb}{k:Nat}
def M3(d:Wz):=d.showable=true/\d.hasDict=false/\d.depth<=64/\d.shown.length<=Ta
instance (d:Wz):Decidable (M3 d):=by unfold M3;infer_instance
end
section
variable{P:Ug}{w:Uz}{K:SV}{mg:Str->Option S5}{pg:Tb}
theorem bJ.on{st}(a:At K mg (S3 f) st)(S:dW N ps (aE st))(hl:N.length=ps.length+n)
  (hb: ∀ kV doc pm an cdv ct us,us.length=ps.length->VR (UE (S3 f) (S3 f) (cR st) (bu st) (aE st) .none kV doc pm an cdv ct) ⟨us,[]⟩=pure (ps.zip us))
  (h:N.Nodup-> ∀ base fa cdv A outer s H E k,xq (jf qP P w K mg base N (S3 f) (aE st) fa cdv A outer s H E).oG pg k (bu st) b):bJ P w K mg pg f ⟨ps,n,b⟩ st N :=
 ⟨a,S,hl,hb,h S.nd⟩
end
def eI(i:Int):=eC (.int i)
def eS(x:Str):=eC (.str x)
def eX(i:Nat)(j:Int):=ai aW (ae i) (eI j)
def mQ a b:=ao (ai hU a b)
def a1 a:=aa a ag
def a2 a b:=aa a (a1 b)
def a3 a b d:=aa a (a2 b d)
section
variable{a b d:ME}{c:CF}{e:a9}{h:PH}{i:Nat}{j:Int}{s:Str}{x y z v:PV}
theorem Fq:eI j c e h= .ok (.int j) h:=rfl
theorem yT:eS s c e h= .ok (.str s) h:=rfl
def xk(o:Option (Option PV)) j h:=(F6 o h).bind λx h1=>aW x (.int j) h1
theorem sf:eX i j c e h=xk (e[i]?) j h:=rfl
theorem sJ:xk (fv (fv v)) j h=aW v (.int j) h:=rfl
def Pa x y h:=(hU x y h).bind rp
def RW(b:ME) c e x h:=(b c e h).bind (Pa x)
theorem Mm:mQ a b c e h=(a c e h).bind (RW b c e):=by
 show((a c e h).bind _).bind rp=_;cases a c e h with
 | ok x h1 =>
  show((b c e h1).bind _).bind rp=(b c e h1).bind (Pa x)
  cases b c e h1<;>rfl
 | _=>rfl
theorem HP:RW b c e x h=(b c e h).bind (Pa x):=rfl
theorem HU:Pa x y h=(hU x y h).bind rp:=rfl
noncomputable def RF(x:PV)(h:PH):RV (List PV):= .ok [x] h
theorem Fu:a1 a c e h=(a c e h).bind RF:=rfl
theorem yY:RF x h= .ok [x] h:=rfl
noncomputable def Pf(x y:PV)(h:PH):RV (List PV):= .ok [x,y] h
def RZ(b:ME) c e x h:=(b c e h).bind (Pf x)
theorem Bu:a2 a b c e h=(a c e h).bind (RZ b c e):=by
 show(a c e h).bind _=_;cases a c e h with
 | ok x h1 =>
  show((b c e h1).bind _).bind _=(b c e h1).bind (Pf x)
  cases b c e h1<;>rfl
 | _=>rfl
theorem BD:RZ b c e x h=(b c e h).bind (Pf x):=rfl
theorem y0:Pf x y h= .ok [x,y] h:=rfl
noncomputable def O1(x y z:PV)(h:PH):RV (List PV):= .ok [x,y,z] h
def OQ(d:ME) c e x y h:=(d c e h).bind (O1 x y)
def Sb(b d:ME) c e x h:=(b c e h).bind (OQ d c e x)
theorem NS:a3 a b d c e h=(a c e h).bind (Sb b d c e):=by
 show(a c e h).bind (KS (a2 b d) c e)=_;cases a c e h with
 | ok x h1 =>
  show(a2 b d c e h1).bind _=(b c e h1).bind (OQ d c e x)
  rw[Bu]
  cases b c e h1 with
  | ok y h2 =>
   show((d c e h2).bind _).bind _=(d c e h2).bind (O1 x y)
   cases d c e h2<;>rfl
  | _=>rfl
 | _=>rfl
theorem Kj:Sb b d c e x h=(b c e h).bind (OQ d c e x):=rfl
theorem Gu:OQ d c e x y h=(d c e h).bind (O1 x y):=rfl
theorem Hs:O1 x y z h= .ok [x,y,z] h:=rfl
end
abbrev QU(h:UU)(z TI TO T:Tp)(b:Bool):Prop :=
 h.get? z=fv { cls:= .type "zip",dict:=SU,data:= .fields #[.int (T:Int) 0,.bool b,.bool false,.ref TI,.ref TO],slots:= #[]}
section
variable{prog:Ug}{w:Uz}{A:U5}{E:S5->Tc->Prop}{s:Tc}
structure ze(h:UU)(z TI TO i1 i2 l1 l2:Tp)(k:Nat)(xs ys:Array S5):Prop where
 st:(∃ a b,IsZip h z TI TO .none/\XB h TO a b)\/ ∃ T b o,QU h z TI TO T b/\h.get? T=fv o/\T≠z/\T≠i1/\T≠i2/\T≠TO
 az:XB h TI (.ref i1) (.ref i2)
 one:h.IsListIter i1 l1 k
 two:h.IsListIter i2 l2 k
 l1:h.IsList l1 xs
 l2:h.IsList l2 ys
theorem ze.ty{TI TO l1 l2}(Z:ze s.heap z TI TO i1 i2 l1 l2 k xs ys):s.TypeIs (.ref z) "zip" :=by
 rcases Z.st with⟨a,b,e,_⟩ | ⟨T,b,o,e,_⟩
 . exact⟨_,e,rfl⟩
 . exact⟨_,e,rfl⟩
theorem ze.kept{TI TO l1 l2}(Z:ze h z TI TO i1 i2 l1 l2 k xs ys)(ns:S≠z/\S≠TI/\S≠TO/\S≠i1/\S≠i2/\S≠l1/\S≠l2)(kp: ∀ b o,b≠S->h.get? b=fv o->h'.get? b=fv o)
  (al: ∀ T o,h.get? T=fv o-> ∃ o',h'.get? T=fv o'):ze h' z TI TO i1 i2 l1 l2 k xs ys:=by
 obtain⟨n1,n2,n3,n4,n5,n6,n7⟩:=ns;obtain⟨st,hTI,h1,h2,hl1,hl2⟩:=Z;refine⟨?_,kp _ _ n2.symm hTI,h1.at λo e=>kp _ o n4.symm e,h2.at λo e=>kp _ o n5.symm e,hl1.at λo e=>kp _ o n6.symm e,hl2.at λo e=>kp _ o n7.symm e⟩;rcases st with⟨a,b,hz,hTO⟩ | ⟨T,b,o,hz,hT,t⟩
 . exact .inl ⟨a,b,kp _ _ n1.symm hz,kp _ _ n3.symm hTO⟩
 . obtain⟨o',e⟩:=al T o hT;exact .inr ⟨T,b,o',kp _ _ n1.symm hz,e,t⟩
end
end P3
end
section
open PySem PySem.W PyProof.Rows
namespace L2
open PySem PySem.Spec PyProof.Rows
section
variable{X:Cx}
noncomputable def Jd:R2:=λx y H Q=> ∃ a b,x= .bl a/\y= .bl b/\Q (.bl (a !=b)) H
theorem zX:cG X (Tw .IsNot) Jd:=by
 intro pins s σ H x y v u Q I rx ry h;obtain⟨a,b,rfl,rfl,q⟩:=h;cases rx;cases ry;exact isnot_bool ⟨.bl _,H,I,rfl,q⟩
end
end L2
namespace P3
open PySem PySem.Spec PyProof.Rows L2
section
variable{X:Cx}{pg:Tb}{k:Nat}
noncomputable def mG(x y:PV)(h:PH):RV PV:=match x,y with
 | .bl a,.bl b=> .ok (.bl (a !=b)) h
 | _,_=> .no
theorem EK:cW X pg k-> ∃ r,cG X (Tw .IsNot) r/\jo X.K r mG:=λ_=>⟨_,zX,fun ρ h H x y x' y' Q v h' s rx ry q P=>by
 unfold mG at q;split at q
 . cases q;rw[rel] at rx ry;exact⟨_,_,rx,ry,P _ ρ H (.refl _ _) s (by rw[rel])⟩
 . cases q⟩
theorem El{a b:Bool}{h:PH}:mG (.bl a) (.bl b) h= .ok (.bl (a !=b)) h:=(rfl)
variable{d:Uh}{md:ME}{apos cpos:Pos}
end
end P3
end
section
open PySem PySem.W PyProof.Rows
namespace L2
open PySem PySem.Spec PyProof.Rows
section
variable{X:Cx}
theorem Bk:cG X (UP .FloorDiv) (rI (λ_ j=>0 < j/\j < 18446744073709551616) λi j=> .int (i / j)):=O7 λi j _ _ _ _ _ hc q=>by
 have h1:(0:Int) < j:=hc.1;have h2:j < 18446744073709551616:=hc.2;have z:j.natAbs≠0:=by omega
 have lg:j.natAbs.log2 < 64:=(Nat.log2_lt z).mpr (by omega);exact floordiv_int (by omega) (by rw[Int.fdiv_eq_ediv_of_nonneg i (by omega)];exact q) (.inl (PyProof.noPylong_of_log2 (by omega)))
theorem qa: ∀{ss:List Str}{az:List S5},Vals (ss.map V.str) az-> ∃ l:List (Str × Tok),az=VH l/\l.map (·.1)=ss
 | [],az,h=>by cases h;exact⟨[],rfl,rfl⟩
 | x::r,az,h=>by
  cases h with
  | cons a b =>
   obtain⟨t,rfl⟩:=a
   obtain⟨l,rfl,e⟩:=qa b
   exact⟨(x,t)::l,rfl,by rw[S7,e]⟩
end
end L2
namespace P3
open PySem PySem.Spec PyProof.Rows L2
section
variable{X:Cx}{pg:Tb}{k:Nat}
def jz:PV->PV->PH->RV PV:=p2 λi j=>if 0 < j/\j < 18446744073709551616 then BU (.int (i / j)) else .no
theorem CP:cW X pg k-> ∃ r,cG X (UP .FloorDiv) r/\jo X.K r jz:=λ_=>⟨_,Bk,Kx λi j v h e=>by
 split at e
 . rename_i c;cases e;exact⟨c,fun ρ H=>by rw[rel]⟩
 . cases e⟩
theorem xE{i j:Int}{h:PH}(hj:0 < j/\j < 18446744073709551616):jz (.int i) (.int j) h= .ok (.int (i / j)) h:=by unfold jz p2;simp[hj,BU,gS]
theorem nV{K:SV}{ρ :List Tp}{H:Hp}: ∀{ss:List Str}{vs:List V},aB K ρ H (ss.map PV.str) vs->vs=ss.map V.str
 | [],vs,h=>by rw[U0,aB] at h;exact h
 | x::r,vs,h=>by
  rw[S7] at h;obtain⟨v,t,rfl,r1,r2⟩:=aN.mp h;rw[rel] at r1;rw[r1,nV r2];rfl
theorem kE: ∀{xs:List PV}{ss:List Str},eN xs=fv ss->xs=ss.map PV.str
 | [],ss,e=>by cases e;rfl
 | x::r,ss,e=>by
  cases x<;>simp only[eN,reduceCtorEq] at e;rename_i a;cases q:eN r with
  | none=>rw[q] at e;cases e
  | some t =>
   rw[q] at e
   cases e
   rw[kE q];rfl
noncomputable def mX(x:PV)(_:PH):Bool:=match x with
 | .str _=>true
 | _=>false
theorem yh{K:SV}{ρ :List Tp}{h:PH}{H:Hp}{x:PV}{v:V}(r:rel K ρ H x v)(e:mX x h=true):Lo K "str" v H:=by
 unfold mX at e;split at e
 . rw[rel] at r;subst r;exact rfl
 . cases e
theorem pT: ∀ ss:List Str,eN (ss.map PV.str)=fv ss
 | []=>rfl
 | x::r=>by rw[S7,eN,pT r];rfl
variable{d e1 e2:Uh}{md:ME}{mr:MA}{apos cpos:Pos}
end
end P3
end
section
open PySem PySem.W PyProof.Rows
namespace L2
open PySem PySem.Spec PyProof.Rows
section
variable{X:Cx}
theorem nX: ∀(l:List (Str × Tok)),Vals ((l.map (·.1)).map V.str) (VH l)
 | []=> .nil
 | (x,t)::r=> .cons ⟨t,rfl⟩ (nX r)
def Dw:V->List V->Hp->VK->Prop:=λx vs H Q=> ∃ a b,x= .str a/\vs=[.str b]/\(b.length == 0)=false/\a.length<=Ta/\(Ve a b).length<=Ta/\ ∀ p,H p=SU->Q (.ref p) (upd H p (.lst ((Ve a b).map V.str)))
theorem x8:zG X "str.split" Dw:=by
 intro pins s σ H x vs v us Q I rx rv h;obtain⟨a,b,rfl,rfl,hb,ha,hn,q⟩:=h;obtain⟨t,rfl⟩:=rx;obtain⟨u,rfl,t2,rfl⟩:=rv.one;have put: ∀(ps:List (Str × Tok))(tk:Nat),ps.map (·.1)=Ve a b->EP X pins σ Q (.ref s.heap.objs.size) { s with heap:=s.heap.push { cls:= .type "list",data:= .seq (VH ps).toArray},toks:=tk}:=λps tk e=>by
  refine⟨.ref s.heap.objs.size,upd H s.heap.objs.size (.lst ((Ve a b).map V.str)),I.laid (t':=tk) (λb u e=>S0 _ e) (Te _) ?_,rfl,q _ (I.bL.fresh (Te _))⟩;exact⟨by rw[SX];exact hn,VH ps,0,by rw[<- e];exact nX ps,Tr _ rfl⟩
 cases c:(decide (a.length < b.length)||decide (Y6 a < Y6 b)) with
 | true =>
  refine UQ F.slot_str_split (Wq _ _ _) F.entry_str_split (F.args_str_split_2 _ _) (meets_str_split_cannot_occur a b t t2 c) ?_
  exact put [(a,t)] s.toks (by unfold Ve;rw[if_pos c];rfl)
 | false =>
  cases o:(UG a b 0 a.length (a.length+1)).isEmpty with
  | true =>
   refine UQ F.slot_str_split (Wq _ _ _) F.entry_str_split (F.args_str_split_2 _ _) (meets_str_split_not_found a b t t2 c hb o) ?_
   exact put [(a,t)] s.toks (by unfold Ve;rw[if_neg (by rw[c];decide),if_pos o];rfl)
  | false =>
   have e:Ve a b=Builtin.Str.partsBetween a (UG a b 0 a.length (a.length+1)) b.length:=by
    unfold Ve;rw[if_neg (by rw[c];decide),if_neg (by rw[o];decide)]
   refine UQ F.slot_str_split (Wq _ _ _) F.entry_str_split (F.args_str_split_2 _ _) (meets_str_split_sep a b t t2 c hb o ha (by rw[<- e];exact hn)) ?_
   have w:=put (numbered s.toks (Ve a b)) (s.toks+(Ve a b).length) (numbered_texts _ _)
   rw[<- strsFrom_eq,e] at w
   exact w
noncomputable def dd:List Str->List Str
 | []=>[]
 | x::r=>if x∈dd r then dd r else x::dd r
theorem kr: ∀(l:List Str)(k:Str),k∈dd l↔k∈l
 | [],k=>Iff.rfl
 | x::r,k=>by
  unfold dd;split
  . rename_i h;rw[kr r k,Tq];exact⟨.inr,λz=>z.elim (λe=>by rw[e];exact(kr r x).mp h) id⟩
  . rw[Tq,Tq,kr r k]
theorem Al: ∀ l:List Str,(dd l).Nodup
 | []=>YT
 | x::r=>by
  unfold dd;split
  . exact Al r
  . rename_i h;exact Vj.mpr ⟨h,Al r⟩
end
section
variable{prog:Ug}{w:Uz}{A:U5}
def sS(prog:Ug)(w:Uz)(h:UU)(S:Tp)(l:List Str):Prop:= ∃ ds:List Str,ds.Nodup/\(∀ k,k∈ds↔k∈l)/\h.SetOf (XC prog w) S (λk=>decide (k∈ds)) ds.length
theorem sS.at{h h':UU}{S:Tp}{l:List Str}(x:sS prog w h S l)(k: ∀ o,h.get? S=fv o->h'.get? S=fv o):sS prog w h' S l:=by
 obtain⟨ds,a,b,o,es,ep,t,e,r⟩:=x;exact⟨ds,a,b,o,es,ep,t,k _ e,r⟩
theorem mF{R:Result->Tc->Prop}{I:Tp}{fp wr:List Tp}{G:Array GenState->Array GenState->Prop}{n:Nat}{Pv:Nat->S5->Prop}{St:Nat->Tc->Prop}(W:WalksS prog w A.in1 I fp wr G n Pv St)(S:Tp)(out:S ∉ fp)
  (xs:List Str) (hx:xs.length=n) (hv: ∀ i v,Pv i v-> ∃ x t,xs[i]?=fv x/\v= .str x t) (fC:n+1 < ZZ): ∀(j i:Nat)(s:Tc),n - i=j->i<=n->St i s->sS prog w s.heap S (xs.take i) ->
   (∀ s',Moved (S::wr) G s s'->sS prog w s'.heap S xs->R (.ok (.ret .none)) s')->XY (TM prog w) A (.builtin "set.update.loop" ⟨[.ref S,.ref I],[]⟩) R s:=by
 have outw:S ∉ wr:=λh=>out (W.sub _ h);have more: ∀ b∈wr,b∈S::wr:=λb z=>S9 _ z;intro j
 induction j with
 | zero =>
  intro i s hj hi st hS hR
  obtain rfl:i=n:=by omega
  refine Ys Wb ?_
  rw[YU Vn _]
  refine SW (m:=ZQ (.ref I)) (W.done s _ _ st λs' mv=>?_)
  refine To (hR s' (mv.mono more) ?_)
  rw[U8 (by omega)] at hS
  exact hS.at λo e=>mv.heap S _ outw e
 | succ j ih =>
  intro i s hj hi st hS hR
  have lt:i < n:=by omega
  refine Ys Wb ?_
  rw[YU Vn _]
  refine SW (m:=ZQ (.ref I)) (W.item i s _ _ lt st λv s' pv st' mv=>?_)
  obtain⟨x,t,ex,rfl⟩:=hv i v pv
  obtain⟨ds,nd,me,so⟩:=hS.at λo e=>mv.heap S _ outw e
  have dl:ds.length<=i:=by
   have:=List.Nodup.length_le_of_subset nd (l₂ :=xs.take i) λk z=>(me k).mp z;rw[TL] at this;omega
  refine SW (m:=WW [W4 x t] (setAdd S (.str x t))) (VA ?_)
  unfold setAdd
  refine VA (SW ((XC prog w).pyHash (k:=x) (strKind_is _ _ _ _) ?_))
  refine wpAny_setAddHashed_of (knd:=XC prog w) (s:={ s' with toks:=s'.toks+1}) (strKind_is _ _ _ _) rfl so (by omega) λh' sb so2=>?_
  have nx:sS prog w h' S (xs.take (i+1)):=by
   have et:xs.take (i+1)=xs.take i++[x]:=by rw[List.take_add_one,ex];rfl
   by_cases z:x∈ds
   . refine⟨ds,nd,λk=>?_,Z8 so2 (λk=>?_) (by simp[z])⟩
     . rw[et,Tt,<- me k,TY];exact⟨.inl,λq=>q.elim id λe=>by rw[e];exact z⟩
     . by_cases e:k=x
       . subst e;simp[z]
       . simp[e]
   . refine⟨ds++[x],Vf.mpr ⟨nd,by simp,λp hp q hq e=>z ?_⟩,λk=>?_,Z8 so2 (λk=>?_) (by simp[z])⟩
     . rw[TY.mp hq] at e;rw[<- e];exact hp
     . rw[et,Tt,Tt,me k]
     . by_cases e:k=x
       . subst e;simp
       . simp[e]
  refine To ⟨plainId_quiet Vn _,ih (i+1) _ (by omega) lt (W.frame _ s' _ _ st' (Z5 _) λb hb o e=>?_) nx λs2 mv2 z=>?_⟩
  . rw[sb.2 b λh:b=S=>out (h ▸ hb)];exact e
  . refine hR s2 (Moved.trans W.gtrans ((mv.mono more).then_heap (Z5 _) λb o hb e=>?_) mv2) z;rw[sb.2 b λh:b=S=>hb (h ▸ S8)];exact e
set_option maxHeartbeats 4000000 in
theorem nK{E:S5->Tc->Prop}{s:Tc}{l:Tp}{ps:List (Str × Tok)}{Q:S5->Tc->Prop}(calm:A.handled=SU)(isl:s.heap.IsList l (VH ps).toArray)(fC:ps.length+1 < ZZ)
  (h: ∀(h':UU)(tk:Nat),sS prog w h' s.heap.objs.size (ps.map (·.1))->(∀ b o,b < s.heap.objs.size->s.heap.get? b=fv o->h'.get? b=fv o)->Q (.ref s.heap.objs.size) { s with heap:=h',toks:=tk}):TC (TM prog w) A (call (.type "set") [.ref l]) Q E s:=by
 obtain⟨c,tl,a1⟩:=U1.mro;have a2:=U1.made;have a3:=U1.sub;have a4:=U1.notType;have a5:=U1.canCreate;have a6:=PySem.F.typeCall_set_1 (.ref l);refine wpAny_call (codeAny_of_tree (?_:TC _ _ (PySem.callAny (.type "set") _) _ _ _));refine To ⟨Code.quiet_builtin _ (by decide +kernel),Ys PySem.F.entry_type_call ?_⟩;rw[Around.under_plain (weight_type_call_type "set" [.ref l] []) rfl]
 repeat any_goals first | assumption | wp_step
 generalize hn:s.heap.objs.size=n at *
 let o0:Bool->Obj:=λled=>{ cls:= .type "set",dict:=SU,data:= .set #[] 0 (.fresh 0 0 led)}
 refine WX (code_set_new_1 (.ref l) (E:=E) (Q₁ :=λv u=> ∃ led,v= .ref n/\u={ s with heap:=s.heap.push (o0 led)}) λled=>⟨led,by rw[hn],rfl⟩) λr u hr=>?_;rcases r with e | fl
 . exact hr
 rcases fl with _ | _ | _ | v<;>first | exact hr.elim | skip
 obtain⟨led,rfl,rfl⟩:=hr;have b1:(s.heap.push (o0 led)).get? n=fv (o0 led):=by rw[<- hn];exact Tr _ rfl
 have b2:Shared.TypeIs { s with heap:=s.heap.push (o0 led)} (.ref n) "set" :=⟨_,b1,rfl⟩
 have b3:=U1.init.lookup;have b4:=U1.init.bind (.ref n)
 repeat any_goals first | assumption | wp_step
 refine WX (codeAny_call_builtin (R:=wants (λv u=>v= .none/\ ∃ h' tk,u={ s with heap:=h',toks:=tk}/\sS prog w h' n (ps.map (·.1))/\ ∀ b o,b < n->s.heap.get? b=fv o->h'.get? b=fv o) E) U1.init.plain PySem.F.entry_set_init (PySem.check_set_init_1 b2 ?_)) λr u hr=>?_
 . obtain⟨⟨oc,od,oda,osl⟩,g1,g2,m,g3⟩:=isl;simp only at g2 g3;subst g2;subst g3;have ln:l < n:=by rw[<- hn];exact Tu g1
   have c1:(s.heap.push (o0 led)).get? l=fv { cls:= .type "list",dict:=od,data:= .seq (VH ps).toArray m,slots:=osl}:=S0 _ g1;have c2:=PySem.F.sub_list_set;have c3:=PySem.F.sub_list_frozenset;have c4:(V2 "list" == V2 "dict")=false:=by decide
   have c5:(s.heap.push (o0 led)).IsList l (VH ps).toArray:=⟨_,c1,rfl,m,rfl⟩
   unfold WI.«set.__init__» noKeywords aad;generalize hP:Zl=it
   wp_walk
   subst hP;refine Wy c5 (SW (wpAny_runValue ?_));have z1:(s.heap.push (o0 led)).objs.size=n+1:=by rw[UA,hn]
   have z2:l≠(s.heap.push (o0 led)).objs.size:=by rw[z1];exact TQ (Xs ln)
   have z3:n ∉ [(s.heap.push (o0 led)).objs.size,l]:=by
    rw[z1];simp only[Tq,UD,or_false,not_or];exact⟨TQ (XG _),V6 ln⟩
   refine mF ((aao (show A.in1.in1.in1.handled=SU by simp[calm]) _ l z2 (VH ps).toArray).toS) n z3 (ps.map (·.1)) (by simp[VH]) (λi v e=>?_) (by simp[VH];omega) _ 0 _ rfl (U2 _) ⟨⟨_,Tr _ rfl,rfl,rfl⟩,c5.push _⟩ ?_ ?_
   . have e':(VH ps)[i]?=fv v:=by simpa using e
     unfold VH at e';rw[T7] at e';cases q:ps[i]? with
     | none=>rw[q] at e';cases e'
     | some z=>rw[q] at e';cases e';exact⟨z.1,z.2,by rw[T7,q];rfl,rfl⟩
   . refine⟨[],YT,λk=>by simp,?_⟩;exact Z8 ((PyProof.Rows.setObjOf_fresh (knd:=XC prog w) led).setOf (S0 _ b1) (by decide)) (λ_=>by simp) rfl
   . rintro ⟨h',g',d',tk',os'⟩ mv sT;obtain rfl:g'=s.gens:=mv.gens;obtain rfl:d'=s.drawn:=mv.drawn;obtain rfl:os'=s.os:=mv.os;refine To (To ⟨rfl,h',tk',rfl,sT,λb o hb e=>?_⟩);refine mv.heap b o ?_ (S0 _ (S0 _ e));rw[z1];simp only[Tq,UD,or_false,not_or];exact⟨TQ hb,TQ (Xs hb)⟩
 . rcases r with e | fl
   . exact hr
   rcases fl with _ | _ | _ | v<;>first | exact hr.elim | skip
   obtain⟨rfl,h',tk,rfl,sT,kp⟩:=hr
   repeat any_goals first | assumption | wp_step
   exact h _ _ sT kp
end
section
variable{X:Cx}{e:Uh}{te:TA}{p p2 p3 pos:Pos}
def Su(te:TA):TE:=fun σ H Q=>te σ H λvs H1=> ∃ l ss,vs=[.ref l]/\H1 l=fv (.lst (ss.map V.str))/\ss.length<=1000/\Q (.int ((dd ss).length:Nat)) H1
theorem yx(hL:Gl X "len")(mL:X.mg "len" =SU)(hS:Gl X "set")(mS:X.mg "set" =SU)(calm:X.A.handled=SU)(he:PA X [e] te)(s1:Ue [e] X.env=[(false,Vl e X.env)])(s2:Ue [.Call (.Name "set" p2) [e] [] p3] X.env=[(false,Vl (.Call (.Name "set" p2) [e] [] p3) X.env)]) :
  PE X (.Call (.Name "len" p) [.Call (.Name "set" p2) [e] [] p3] [] pos) (Su te):=by
 intro pins s σ H Q I h;refine Call_ (jA I hL mL PySem.boot_len (WD ?_ s2 rfl));rw[s2];refine Wo ?_;refine Call_ (jA I hS mS boot_set (Vo (iU (he p3 pins s σ H _ I h) λus u ⟨vs,H1,I1,r1,q1⟩=>?_) s1 rfl));obtain⟨l,ss,rfl,hl,hz,q⟩:=q1;obtain⟨v,rfl,rv⟩:=r1.one;cases rv;obtain⟨_,az,n,r,_,ob⟩:=I1.rD hl;obtain⟨ps,rfl,ep⟩:=qa r;have lp:ps.length=ss.length:=by rw[<- ep,SX]
 refine nK (ps:=ps) calm ⟨_,ob,rfl,n,rfl⟩ (by unfold ZZ;omega) λh' tk sT kp=>Xo ?_;obtain⟨ds,nd,me,o,es,en,tb,g1,g2,g3,_,_,g4,g5,g6⟩:=sT;have I2:=I1.kept (t':=tk) λb o e=>kp b o (Tu e) e;have dl:ds.length=(dd ss).length:=((List.perm_ext_iff_of_nodup nd (Al ss)).mpr λk=>by rw[me,ep,kr]).length_eq;refine call_len_set g1 g2 g3 g5 (by unfold ZZ at g4;omega) ?_;rw[g6,dl];exact⟨.int _,H1,I2.kept (t':=tk+1+1) (λb o e=>e),⟨_,rfl⟩,q⟩
end
end L2
namespace P3
open PySem PySem.Spec PyProof.Rows L2
section
variable{X:Cx}{pg:Tb}{k:Nat}{e:Uh}{mr:MA}{p p2 p3 pos:Pos}
noncomputable def oz(x:PV)(vs:List PV)(h:PH):RV PV:=match x,vs with
 | .str a,[.str b]=>if (b.length == 0)=false/\a.length<=Ta/\(Ve a b).length<=Ta then .ok (.ref h.length) (h++[.lst ((Ve a b).map PV.str)]) else .no
 | _,_=> .no
theorem m_split:cW X pg k-> ∃ r,zG X "str.split" r/\Lj X.K "str" r oz mX:=λA=>⟨_,x8,fun ρ h H x x' s r e=>yh r e,fun ρ h H x x' xs us Q v h' s rx rs q P=>by
 unfold oz at q;split at q
 . rename_i a b;split at q
   . rename_i c;cases q;obtain⟨u,rfl,r1⟩:=bQ rs;rw[rel] at rx r1;exact⟨a,b,rx,by rw[r1],c.1,c.2.1,c.2.2,λp hp=>g7 s (gF.mpr rfl) P p hp⟩
   . cases q
 . cases q⟩
theorem Et{a b:Str}{h:PH}(hb:(b.length == 0)=false)(ha:a.length<=16777216)(hn:(Ve a b).length<=16777216):oz (.str a) [.str b] h= .ok (.ref h.length) (h++[.lst ((Ve a b).map PV.str)]):=if_pos ⟨hb,ha,hn⟩
def OC(xs:List PV)(h:PH):RV PV:=match xs with
 | [.ref n]=>(match h[n]? with
  | some (.lst ys)=>(match eN ys with
   | some ss=>if ss.length<=1000 then .ok (.int ((dd ss).length:Nat)) h else .no
   | none=> .no)
  | _=> .no)
 | _=> .no
def Ll(r:MA):ME:=λc e h=>(r c e h).bind OC
theorem xH(hL:Gl X "len")(hS:Gl X "set")(ha:JA X pg k [e] mr)(hs:noStar e=true:=by rfl):JE X pg k (.Call (.Name "len" p) [.Call (.Name "set" p2) [e] [] p3] [] pos) (Ll mr):=⟨λA=>by
 obtain⟨_,q1,s1⟩:=ha.h A;refine⟨_,⟨yx hL (A.blt _ (by decide +kernel)) hS (A.blt _ (by decide +kernel)) (A.room.hd) q1.h (bW hs) (bW rfl)⟩,fun ρ h H e σ Q v h' s r q P=>?_⟩;obtain⟨xs,h1,z1,q⟩:=bind_eq.mp q;refine s1 ρ h H e σ _ _ _ s r z1 λus ρ1 H1 g1 w1 r1=>?_;unfold OC at q;split at q
 . rename_i n;split at q
   . rename_i ys en;split at q
     . rename_i ss es;split at q
       . rename_i hz;cases q;obtain rfl:=kE es;obtain⟨u,rfl,r2⟩:=bQ r1;obtain⟨b,vs,rfl,ea,e1,e2⟩:=w1.lst en r2;rw[nV e2] at e1;exact⟨b,ss,rfl,e1,hz,P.gr g1 _ ρ1 H1 (.refl _ _) w1 (by rw[rel])⟩
       . cases q
     . cases q
   . cases q
 . cases q⟩
theorem uR{r:MA}{c:CF}{e:a9}{h:PH}:Ll r c e h=(r c e h).bind OC:=(rfl)
theorem su{n:Nat}{h:PH}{ss:List Str}(e:h[n]?=fv (.lst (ss.map PV.str)))(hl:ss.length<=1000):OC [.ref n] h= .ok (.int ((dd ss).length:Nat)) h:=by
 simp only[OC,e,pT,if_pos hl]
end
end P3
end
section
open PySem PySem.W PyProof.Rows
namespace L2
open PySem PySem.Spec PyProof.Rows
section
variable{X:Cx}
def Sk(K:SV)(H:Hp)(p:Tp):Prop:=(∃ xs,gi K H p xs)\/(∃ xs,fB K H p xs)\/ ∃ kvs,H p=fv (.dK kvs)
theorem rS{A:U5}{s:Tc}{l:Tp}{o:Obj}{es:Array ZU}{ep:Nat}(b:Str)(u:Tok)(hl:s.heap.get? l=fv o)(hx:o.ExactDict)(hd:o.data= .dict es ep)(hu:A.units < VQ):aal A s (.str b u) (.ref l) false:=λprog w E Q h=>by
 unfold eqBool;refine VA (UL (λz=>absurd (eq_of_beq z) nofun) λ_=>SW ?_);obtain⟨cls,dc,data,sl⟩:=o;have hc:cls= .type "dict" :=hx.1;simp only at hd;subst hc;subst hd;have st:=Wq s b u;have td:s.TypeIs (.ref l) "dict" :=⟨_,hl,rfl⟩
 refine Yf (k:=false) st td (by decide) (by rw[isSubtype_type];kernel_rfl) Y7 V4 ?_ ?_ (λ_ z=>Z6 (show isSame (.str b u) (.ref l)=pure false from rfl) z) (.inr hu) (Uo h)
 . exact λ_ q=>UQ Y7 st YO (Yy _ _) (kg b u l (.type "dict") es ep dc sl) ⟨hl,q⟩
 . exact λ_ q=>UQ V4 td Yx (Yg _ _) (jg l _ b u) ⟨hl,q⟩
noncomputable def Pz(K:SV):R2:=λx y H Q=> ∃(p q:Tp)(ss:List Str),x= .ref p/\y= .ref q/\Sk K H p/\gi K H q (ss.map V.str)/\Q (.bl false) H
theorem Gf(hu:X.A.units+64 < VQ):cG X (Tw .In) (Pz X.K):=by
 intro pins s σ H x y v u Q I rx ry h;obtain⟨p,q,ss,rfl,rfl,hp,hq,hQ⟩:=h;cases(show v=Tx p from rx);cases(show u=Tx q from ry);obtain⟨az,hv,pl,hz⟩:=I.list hq;refine aab (λ_=>false) pl.isList (λw hw=>?_) ⟨.bl false,H,I,by rw[show az.toArray.any (λ_=>false)=false by simp];rfl,hQ⟩;have hw':w∈az:=by simpa using hw
 obtain⟨ps,rfl,_⟩:=qa hv;obtain⟨z,_,rfl⟩:=TR.mp hw';have Lp:X.A.in1.units < VQ:=by
  have:X.A.in1.units=X.A.units+1:=rfl;omega
 rcases hp with⟨xs,hp⟩ | ⟨xs,hp⟩ | ⟨kvs,hp⟩
 . obtain⟨_,_,pl2,_⟩:=I.list hp;exact SeqAt.EqAt.str_list _ _ pl2.isList Lp
 . obtain⟨_,_,pl2,_⟩:=I.tuple hp;exact SeqAt.EqAt.str_tuple _ _ pl2 Lp
 . obtain⟨_,_,vs,_,o,es,ep,e,hx,hd,_⟩:=pD I.bL hp;exact rS _ _ e hx hd Lp
end
end L2
namespace P3
open PySem PySem.Spec PyProof.Rows L2
section
variable{X:Cx}{pg:Tb}{k:Nat}
def eK(h:PH):PV->Bool
 | .tup _=>true
 | .ref n=>(match h[n]? with
  | some (.lst _)=>true
  | some (.dct _)=>true
  | _=>false)
 | _=>false
theorem sP{ρ :List Tp}{h:PH}{H:Hp}{x:PV}{v:V}(s:dt X.K ρ h H)(r:rel X.K ρ H x v)(e:eK h x=true): ∃ p,v= .ref p/\Sk X.K H p:=by
 unfold eK at e;split at e
 . rw[rel] at r;obtain⟨a,vs,rfl,z,_⟩:=r;exact⟨a,rfl,.inr (.inl ⟨vs,fB.of z⟩)⟩
 . rename_i n;split at e
   . rename_i xs en;obtain⟨b,vs,rfl,_,e1,_⟩:=s.lst en r;exact⟨b,rfl,.inl ⟨vs,gi.of e1⟩⟩
   . rename_i kvs en;rw[rel] at r;obtain⟨a,ea,rfl⟩:=r;obtain⟨kws,e1,_⟩:=s.ob n _ a en ea;exact⟨a,rfl,.inr (.inr ⟨kws,e1⟩)⟩
   . cases e
 . cases e
def fW(x y:PV)(h:PH):RV PV:=match y with
 | .str _=>if eK h x=true then .ok (.bl false) h else hU x y h
 | .tup []=>(match x with
  | .tup xs=> .ok (.bl xs.isEmpty) h
  | _=>hU x y h)
 | _=>hU x y h
theorem LZ:cW X pg k-> ∃ r,cG X (Tw .Eq) r/\jo X.K r fW:=λA=>by
 obtain⟨r0,o0,s0⟩:=Nf A;refine⟨_,o0.or ((wg A.room.ui).or (Fg A.room.ui)),fun ρ h H x y x' y' Q v h' s rx ry q P=>?_⟩;unfold fW at q;split at q
 . split at q
   . rename_i b;cases q;obtain⟨p,rfl,bx⟩:=sP s rx b;rw[rel] at ry;exact .inr (.inl ⟨p,_,rfl,ry,bx,P _ ρ H (.refl _ _) s (by rw[rel])⟩)
   . exact .inl (s0 ρ h H _ _ _ _ Q v h' s rx ry q P)
 . split at q
   . cases q;rw[rel] at rx ry;obtain⟨a,vs,rfl,z1,r1⟩:=rx;obtain⟨b,us,rfl,z2,r2⟩:=ry;rw[aB] at r2;subst r2;refine .inr (.inr ⟨a,b,vs,rfl,rfl,fB.of z1,fB.of z2,?_⟩);have e: ∀{xs:List PV}{ws:List V},aB X.K ρ H xs ws->xs.isEmpty=ws.isEmpty:=λ{xs ws} r=>by
      have:=r.len;cases xs<;>cases ws<;>first | rfl | cases this
     rw[<- e r1];exact P _ ρ H (.refl _ _) s (by rw[rel])
   . exact .inl (s0 ρ h H _ _ _ _ Q v h' s rx ry q P)
 . exact .inl (s0 ρ h H _ _ _ _ Q v h' s rx ry q P)
def qp(h:PH):PV->Bool
 | .ref m=>(match h[m]? with
  | some (.lst ys)=>(eN ys).isSome
  | _=>false)
 | _=>false
def oN(x y:PV)(h:PH):RV PV:=if eK h x=true/\qp h y=true then .ok (.bl false) h else fK x y h
theorem NT:cW X pg k-> ∃ r,cG X (Tw .In) r/\jo X.K r oN:=λA=>by
 obtain⟨r0,o0,s0⟩:=NU A;refine⟨_,o0.or (Gf A.room.units),fun ρ h H x y x' y' Q v h' s rx ry q P=>?_⟩;unfold oN at q;split at q
 . rename_i c;cases q;obtain⟨p,rfl,bx⟩:=sP s rx c.1;have c2:=c.2;unfold qp at c2;split at c2
   . rename_i m;split at c2
     . rename_i ys en;cases es:eN ys with
       | none=>rw[es] at c2;cases c2
       | some ss =>
        obtain rfl:=kE es
        obtain⟨b,vs,rfl,_,e1,e2⟩:=s.lst en ry
        rw[nV e2] at e1
        exact .inr ⟨p,b,ss,rfl,rfl,bx,gi.of e1,P _ ρ H (.refl _ _) s (by rw[rel])⟩
     . cases c2
   . cases c2
 . exact .inl (s0 ρ h H _ _ _ _ Q v h' s rx ry q P)
end
end P3
end
section
open PySem PySem.W PyProof.Rows
set_option maxHeartbeats 5000000
namespace K03
open PySem L2 P3 PyProof.Rows
noncomputable def top(i:Nat):Stmt:=PySem.Challenge.pw_leastrecord_k03_programs_told.main.body.getD i (.Pass ⟨0,0,0,0⟩)
noncomputable def cj:List (Key × PV):=[(.inr "let",(.ktup [(.str "pocket"),(.str "sum")])),(.inr "leap",(.ktup [(.str "target"),(.str "sum")])),(.inr "get",(.ktup [(.str "pocket"),(.str "box")])),(.inr "put",(.ktup [(.str "box"),(.str "sum")])),(.inr "take",(.ktup [(.str "lock")])),(.inr "free",(.ktup [(.str "lock")])),(.inr "send",(.ktup [(.str "lane"),(.str "sum")])),(.inr "fetch",(.ktup [(.str "pocket"),(.str "lane")])),(.inr "say",(.ktup [(.str "door"),(.str "sum")])),(.inr "clock",(.ktup [(.str "pocket")])),(.inr "lot",(.ktup [(.str "pocket"),(.str "chances")])),(.inr "hear",(.ktup [(.str "pocket"),(.str "door")]))]
noncomputable def bh:List (Key × PV):=[(.inr "add",(.int 2)),(.inr "sub",(.int 2)),(.inr "mul",(.int 2)),(.inr "less",(.int 2)),(.inr "same",(.int 2)),(.inr "not",(.int 1))]
def jF :=
  (av (dQ (eB aP (aa (ae 0) (aa (eC (.ty "int")) ag))) (Bb (eB aP (aa (ae 0) (aa (eC (.ty "bool")) ag))))))
def fR:Df:=⟨["thing"],0,jF⟩
def gK :=
  (av (dQ (af "is_whole" (a1 (ae 0))) (gm ur ur (ae 1) (ae 0) (ae 2))))
def eG:Df:=⟨["thing", "least", "most"],0,gK⟩
def oy :=
  (av (af "is_between" (a3 (ae 0) (eI 0) (eI 999))))
def gQ:Df:=⟨["thing"],0,oy⟩
def fc :=
  (av (dQ (eB aP (aa (ae 0) (aa (eC (.ty "tuple")) ag))) (ai hU (eB aO (a1 (ae 0))) (ae 1))))
def cL:Df:=⟨["thing", "many"],0,fc⟩
def pO:MS :=
  (av (O4 (ai fK (ae 0) (eC (.ktup [(.str "box"),(.str "lock"),(.str "lane"),(.str "door"),(.str "hand")]))) (O4 (ug false cj (ae 0)) (ug false bh (ae 0)))))
def iZ:Df:=⟨["text"],0,pO⟩
def fJ:MS :=
  (ah (bC (fL (bK (ao (eB aP (aa (ae 0) (aa (eC (.ty "str")) ag))))) (bK (ao (gm ur ur (eI 1) (eB aO (a1 (ae 0))) (eI 8))))) (av (eC (.bl false))) bz)
  (av (dQ (eB fw (aa (dw 1 (cU (ae 0)) (gN 1) ax (ai fK (ae 1) (eS "abcdefghijklmnopqrstuvwxyz"))) ag)) (Bb (af "is_word" (a1 (ae 0)))))))
def dI:Df:=⟨["thing"],0,fJ⟩
def nU:MS :=
  (av (gm ur ur (eI 1) (af "sums_within" (a2 (ae 0) (eI 1))) (eI 12)))
def iJ:Df:=⟨["thing"],0,nU⟩
def aM:MS :=
  (ah (bC (fL (ao (ai pG (ae 1) (eI 5))) (fL (bK (ao (eB aP (aa (ae 0) (aa (eC (.ty "tuple")) ag))))) (ao (ai fW (ae 0) (au ag))))) (av (eI 0)) bz)
  (ah (ay (eX 0 0) (gN 2))
  (ah (bC (ao (ai fW (ae 2) (eS "num"))) (av (BW (eJ (ao (af "is_tuple_of" (a2 (ae 0) (eI 2)))) (ao (af "is_value" (a1 (eX 0 1))))) (eI 1) (eI 0))) bz)
  (ah (bC (ao (ai fW (ae 2) (eS "of"))) (av (BW (eJ (ao (af "is_tuple_of" (a2 (ae 0) (eI 2)))) (ao (af "is_name" (a1 (eX 0 1))))) (eI 1) (eI 0))) bz)
  (ah (bC (fL (bK (ao (eB aP (aa (ae 2) (aa (eC (.ty "str")) ag))))) (fL (ao (ug true bh (ae 2))) (ao (ai i8 (eB aO (a1 (ae 0))) (ai ak (sF bh (ae 2)) (eI 1)))))) (av (eI 0)) bz)
  (ah (ay (dw 1 (cU (dR (ae 0) (aK (eI 1)) aR)) (gN 4) ax (af "sums_within" (aa (ae 4) (aa (ai ak (ae 1) (eI 1)) ag)))) (gN 3))
  (av (BW (ao (ai fK (eI 0) (ae 3))) (eI 0) (ai ak (eI 1) (eB t6 (a1 (ae 3))))))))))))
def aH:Df:=⟨["thing", "deep"],2,aM⟩
def cC:MS :=
  (ah (bC (fL (bK (ao (af "is_tuple_of" (aa (ae 0) (aa (eB aO (aa (eC (.ktup [(.str "box"),(.str "lock"),(.str "lane"),(.str "door"),(.str "hand")])) ag)) ag))))) (bK (ao (eB fw (aa (dw 1 (cU (ae 0)) (gN 1) ax (af "is_few" (a1 (ae 1)))) ag))))) (av (eC (.bl false))) bz)
  (ah (bC (bK (ao (eB fw (aa (dw 1 (cU (eX 0 0)) (gN 1) ax (af "is_box" (a1 (ae 1)))) ag)))) (av (eC (.bl false))) bz)
  (ah (bC (bK (ao (eB fw (aa (dw 1 (cU (ai ak (ai ak (eX 0 1) (eX 0 2)) (eX 0 3))) (gN 1) ax (af "is_name" (a1 (ae 1)))) ag)))) (av (eC (.bl false))) bz)
  (ah (bC (fL (ao (ai hU (eB aO (a1 (eX 0 4))) (eI 0))) (bK (ao (eB fw (aa (dw 1 (cU (eX 0 4)) (gN 1) ax (af "is_hand" (a1 (ae 1)))) ag))))) (av (eC (.bl false))) bz)
  (av (dQ (af "has_unlike_names" (a1 (ae 0))) (eB fw (aa (dw 1 (cU (eX 0 4)) (gN 1) ax (af "are_rows" (a2 (ae 0) (eX 1 1)))) ag))))))))
def gW:Df:=⟨["thing"],0,cC⟩
def jZ:MS :=
  (av (dQ (eB aP (aa (ae 0) (aa (eC (.ty "tuple")) ag))) (ai ur (eB aO (a1 (ae 0))) (eI 4))))
def gB:Df:=⟨["thing"],0,jZ⟩
def gA:MS :=
  (av (dQ (af "is_tuple_of" (a2 (ae 0) (eI 2))) (dQ (af "is_name" (a1 (eX 0 0))) (af "is_value" (a1 (eX 0 1))))))
def fi:Df:=⟨["thing"],0,gA⟩
def dM:MS :=
  (ah (bC (fL (bK (ao (af "is_tuple_of" (a2 (ae 0) (eI 2))))) (bK (ao (af "is_name" (a1 (eX 0 0)))))) (av (eC (.bl false))) bz)
  (av (dQ (eB aP (aa (eX 0 1) (aa (eC (.ty "tuple")) ag))) (ai ur (eB aO (a1 (eX 0 1))) (eI 30)))))
def cK:Df:=⟨["thing"],0,dM⟩
def fV:MS :=
  (ah (ay (aC ag) (gN 1))
  (ah (cI (cU (eC (.ktup [(.str "box"),(.str "lock"),(.str "lane"),(.str "door"),(.str "hand")]))) (gN 2) (dn (eM dZ cS (ae 1) (aa (af "names_of" (a2 (ae 0) (ae 2))) ag))))
  (av (ai hU (Ll (a1 (ae 1))) (eB aO (a1 (ae 1)))))))
def dF:Df:=⟨["program"],2,fV⟩
def mH:MS :=
  (av (eB fw (aa (dw 1 (cU (ae 1)) (gN 2) ax (af "is_row" (aa (ae 0) (aa (ae 2) (aa (eB aO (a1 (ae 1))) ag))))) ag)))
def hW:Df:=⟨["program", "rows"],0,mH⟩
def fj:MS :=
  (ah (bC (fL (bK (ao (eB aP (aa (ae 1) (aa (eC (.ty "tuple")) ag))))) (fL (ao (ai hU (eB aO (a1 (ae 1))) (eI 0))) (bK (ao (eB aP (aa (eX 1 0) (aa (eC (.ty "str")) ag))))))) (av (eC (.bl false))) bz)
  (ah (bC (fL (ao (ug true cj (eX 1 0))) (ao (ai i8 (eB aO (a1 (ae 1))) (ai ak (eB aO (aa (sF cj (eX 1 0)) ag)) (eI 1))))) (av (eC (.bl false))) bz)
  (av (eB fw (aa (dw 2 (GS (sF cj (eX 1 0)) (dR (ae 1) (aK (eI 1)) aR)) (gT 2 (ba (gN 3) (ba (gN 4) eO))) ax (af "is_part" (aa (ae 0) (a3 (ae 3) (ae 4) (ae 2))))) ag)))))
def dy:Df:=⟨["program", "row", "many"],0,fj⟩
def pB:MS :=
  (ah (bC (mQ (ae 1) (eS "pocket")) (av (af "is_name" (a1 (ae 2)))) bz)
  (ah (bC (mQ (ae 1) (eS "sum")) (av (af "is_sum" (a1 (ae 2)))) bz)
  (ah (bC (mQ (ae 1) (eS "target")) (av (af "is_between" (a3 (ae 2) (eI 0) (ae 3)))) bz)
  (ah (bC (mQ (ae 1) (eS "chances")) (av (af "is_between" (a3 (ae 2) (eI 2) (eI 1000)))) bz)
  (av (ai oN (ae 2) (af "names_of" (a2 (ae 0) (ae 1)))))))))
def ja:Df:=⟨["program", "part", "thing", "many"],0,pB⟩
def dC :=
  (ah (ay (ai aW (ae 0) (Qj (.ktup [(.str "box"),(.str "lock"),(.str "lane"),(.str "door"),(.str "hand")]) (a1 (ae 1)))) (gN 2))
  (ah (bC (fL (mQ (ae 1) (eS "box")) (mQ (ae 1) (eS "hand"))) (av (dw 1 (cU (ae 2)) (gN 3) ax (eX 3 0))) bz)
  (av (eB dN (a1 (ae 2))))))
def jB:Df:=⟨["program", "sort"],1,dC⟩
def iH :=
  (ah (ay (af "names_of" (a2 (ae 0) (ae 1))) (gN 3))
  (av (BW (ao (ai fK (ae 2) (ae 3))) (eM kj cS (ae 3) (a1 (ae 2))) (eC .non))))
def ft:Df:=⟨["program", "sort", "name"],1,iH⟩
def o9 :=
  (av (ai aW (ai aW (eX 0 4) (ae 1)) (eI 1)))
def iS:Df:=⟨["program", "hand"],0,o9⟩
def fk:MS :=
  (ah (ay (BW (ao (ai pG (eB aO (a1 (ae 0))) (eI 0))) (ai aW (ae 0) (ai hV (ae 1) (eB aO (a1 (ae 0))))) (eI 0)) (gN 3))
  (ah (ay (ae 3) (gN 4))
  (ah (bC (ao (ai QR (ae 3) (ai xJ (eI 10) (eI 18)))) (ah (cI (a8 (aa (ai hV (ai jz (ae 1) (eB aO (a1 (ae 0)))) (eI 60)) ag)) (gN 5) (ay (ai jz (ae 4) (eI 1000003)) (gN 4)))
  (bC (ao (ai pG (ae 4) (eI 0))) (av (ai hV (ai hV (ai jz (ae 4) (eI 2)) (eI 500009)) (ae 2))) bz)) bz)
  (ah (ay (ai ak (ai ak (ai hV (ae 3) (eI 1000003)) (ai gf (ai gf (eI 31) (ae 1)) (ae 1))) (eI 1)) (gN 6))
  (av (ai hV (ai hV (ai gf (ai hV (ai gf (ae 6) (eI 48271)) (eI 999983)) (eI 7919)) (eI 524287)) (ae 2)))))))
def cZ:Df:=⟨["_law_script", "_law_k", "_law_many"],4,fk⟩
def lu:MS :=
  (ah (nW lN (ae 0) (eS "k") (ai ak (ai aW (ae 0) (eS "k")) (eI 1)))
  (av (af "_law_draw" (aa (ai aW (ae 0) (eS "script")) (aa (ai aW (ae 0) (eS "k")) (a1 (ae 1)))))))
def gh:Df:=⟨["_law_state", "_law_many"],0,lu⟩
def jW:MS :=
  (ah (ay (aC (aa (eS "a") (aa (eS "ab") (aa (eS "abc") (aa (eS "lets") (aa (eS "leaper") (aa (eS "getit") (aa (eS "puts") (aa (eS "taken") (aa (eS "freed") (a3 (eS "sender") (eS "fetched") (eS "says")))))))))))) (gN 1))
  (ah (ay (ai ak (ae 1) (aC (aa (eS "clocks") (aa (eS "lots") (aa (eS "hearth") (aa (eS "added") (aa (eS "subway") (aa (eS "mulled") (a3 (eS "lesser") (eS "samey") (eS "nothing")))))))))) (gN 1))
  (ah (ay (ai ak (ae 1) (aC (aa (eS "boxes") (aa (eS "locker") (aa (eS "lanes") (aa (eS "doors") (aa (eS "hands") (aa (eS "b") (a3 (eS "zzzzzzzz") (eS "of") (eS "num")))))))))) (gN 1))
  (ah (ay (af "_law_pick" (aa (ae 0) (aa (eB aO (a1 (ae 1))) ag))) (gN 2))
  (av (ai ak (dR (ae 1) (aK (ae 2)) aR) (dR (ae 1) aR (aK (ae 2)))))))))
def fF:Df:=⟨["_law_state"],2,jW⟩
def ck:MS :=
  (ah (ay (af "_law_pick" (a2 (ae 0) (eI 9))) (gN 3))
  (ah (bC (eJ (ao (ai qA (ae 2) (eI 5))) (eJ (ao (ai pG (ae 3) (eI 2))) (ao (ai pG (ai aW (ae 0) (eS "left")) (eI 1))))) (ah (nW lN (ae 0) (eS "left") (ai yu (ai aW (ae 0) (eS "left")) (eI 2)))
  (ah (ay (ai aW (aC (aa (eS "add") (aa (eS "sub") (a3 (eS "mul") (eS "less") (eS "same"))))) (af "_law_pick" (a2 (ae 0) (eI 5)))) (gN 4))
  (ah (ay (af "_law_sum_in" (aa (ae 0) (aa (ae 1) (aa (ai ak (ae 2) (eI 1)) ag)))) (gN 5))
  (av (au (aa (ae 4) (aa (ae 5) (aa (af "_law_sum_in" (aa (ae 0) (aa (ae 1) (aa (ai ak (ae 2) (eI 1)) ag)))) ag)))))))) bz)
  (ah (bC (eJ (ao (ai qA (ae 2) (eI 5))) (eJ (mQ (ae 3) (eI 2)) (ao (ai pG (ai aW (ae 0) (eS "left")) (eI 0))))) (ah (nW lN (ae 0) (eS "left") (ai yu (ai aW (ae 0) (eS "left")) (eI 1)))
  (av (au (aa (eS "not") (aa (af "_law_sum_in" (aa (ae 0) (aa (ae 1) (aa (ai ak (ae 2) (eI 1)) ag)))) ag))))) bz)
  (ah (bC (ao (ai hU (ai hV (ae 3) (eI 2)) (eI 0))) (av (au (aa (eS "num") (aa (ai aW (aC (aa (eI 0) (aa (eI 1) (aa (eI 2) (aa (eI 999) (aa (af "_law_pick" (a2 (ae 0) (eI 1000))) ag)))))) (af "_law_pick" (a2 (ae 0) (eI 5)))) ag)))) bz)
  (av (au (aa (eS "of") (aa (ai aW (ae 1) (af "_law_pick" (aa (ae 0) (aa (eB aO (a1 (ae 1))) ag)))) ag))))))))
def bG:Df:=⟨["_law_state", "_law_pockets", "_law_deep"],3,ck⟩
def nQ:MS :=
  (ah (nW lN (ae 0) (eS "left") (ai aW (aC (aa (eI 0) (a3 (eI 2) (eI 5) (eI 11)))) (af "_law_pick" (a2 (ae 0) (eI 4)))))
  (av (af "_law_sum_in" (a3 (ae 0) (ae 1) (eI 1)))))
def gR:Df:=⟨["_law_state", "_law_pockets"],0,nQ⟩
def mP:MS :=
  (ah (ay (aC (aa (eS "let") (aa (eS "let") (a3 (eS "leap") (eS "clock") (eS "lot"))))) (gN 4))
  (ah (cI (cU (aC (aa (au (aa (eS "box") (aa (aC (a2 (eS "get") (eS "put"))) ag))) (aa (au (aa (eS "lock") (aa (aC (a2 (eS "take") (eS "free"))) ag))) (aa (au (aa (eS "lane") (aa (aC (a2 (eS "send") (eS "fetch"))) ag))) ag))))) (gT 2 (ba (gN 5) (ba (gN 6) eO))) (bC (ao (ai i8 (ai aW (ae 1) (ae 5)) (aC ag))) (ay (ai ak (ai ak (ae 4) (ae 6)) (ae 6)) (gN 4)) bz))
  (ah (bC (ao (ai i8 (ai aW (ae 1) (eS "door")) (aC ag))) (ay (ai ak (ae 4) (aC (a3 (eS "say") (eS "hear") (eS "say")))) (gN 4)) bz)
  (ah (ay (ai aW (ae 4) (af "_law_pick" (aa (ae 0) (aa (eB aO (a1 (ae 4))) ag)))) (gN 7))
  (ah (ay (ai aW (ae 2) (af "_law_pick" (aa (ae 0) (aa (eB aO (a1 (ae 2))) ag)))) (gN 8))
  (ah (ay (ef (aQ (eS "get") (eS "box") (aQ (eS "put") (eS "box") (aQ (eS "take") (eS "lock") (aQ (eS "free") (eS "lock") (aQ (eS "send") (eS "lane") (aQ (eS "fetch") (eS "lane") gP))))))) (gN 9))
  (ah (dn (eM bU eQ (ae 9) (aa (ef (aQ (eS "say") (eS "door") (aQ (eS "hear") (eS "door") gP))) ag)))
  (ah (bC (mQ (ae 7) (eS "let")) (av (au (aa (eS "let") (aa (ae 8) (aa (af "_law_sum" (a2 (ae 0) (ae 2))) ag))))) bz)
  (ah (bC (mQ (ae 7) (eS "leap")) (av (au (aa (eS "leap") (aa (af "_law_pick" (aa (ae 0) (aa (ai ak (ae 3) (eI 1)) ag))) (aa (af "_law_sum" (a2 (ae 0) (ae 2))) ag))))) bz)
  (ah (bC (mQ (ae 7) (eS "clock")) (av (au (a2 (eS "clock") (ae 8)))) bz)
  (ah (bC (mQ (ae 7) (eS "lot")) (av (au (aa (eS "lot") (aa (ae 8) (aa (ai aW (aC (aa (eI 2) (aa (eI 3) (aa (eI 1000) (aa (ai ak (eI 2) (af "_law_pick" (a2 (ae 0) (eI 999)))) ag))))) (af "_law_pick" (a2 (ae 0) (eI 4)))) ag))))) bz)
  (ah (ay (ai aW (ae 1) (ai aW (ae 9) (ae 7))) (gN 6))
  (ah (ay (ai aW (ae 6) (af "_law_pick" (aa (ae 0) (aa (eB aO (a1 (ae 6))) ag)))) (gN 10))
  (ah (bC (ao (ai fK (ae 7) (au (a2 (eS "take") (eS "free"))))) (av (au (a2 (ae 7) (ae 10)))) bz)
  (ah (bC (ao (ai fK (ae 7) (au (a3 (eS "get") (eS "fetch") (eS "hear"))))) (av (au (a3 (ae 7) (ae 8) (ae 10)))) bz)
  (av (au (aa (ae 7) (aa (ae 10) (aa (af "_law_sum" (a2 (ae 0) (ae 2))) ag))))))))))))))))))))
def gX:Df:=⟨["_law_state", "_law_named", "_law_pockets", "_law_many"],7,mP⟩
def iA:MS :=
  (ah (ay (af "_law_names" (a1 (ae 0))) (gN 1))
  (ah (ay jC (gN 2))
  (ah (cI (cU (aC (aa (eS "box") (aa (eS "lock") (a3 (eS "lane") (eS "door") (eS "hand")))))) (gN 3) (ah (ay (af "_law_pick" (a2 (ae 0) (eI 5))) (gN 4))
  (ah (bC (mQ (ae 3) (eS "hand")) (ay (ai ak (eI 1) (ai hV (ae 4) (eI 4))) (gN 4)) bz)
  (ah (nW lN (ae 2) (ae 3) (dR (ae 1) aR (aK (ae 4))))
  (ay (dR (ae 1) (aK (ae 4)) aR) (gN 1))))))
  (ah (ay (ai ak (ai ak (ai ak (dR (ae 1) aR (aK (eI 2))) (dR (ai aW (ae 2) (eS "box")) aR (aK (eI 1)))) (dR (ai aW (ae 2) (eS "hand")) aR (aK (eI 1)))) (aC (aa (ai aW (aC (a3 (eS "a") (eS "ab") (eS "boxes"))) (af "_law_pick" (a2 (ae 0) (eI 3)))) ag))) (gN 5))
  (ah (ay (aC ag) (gN 6))
  (ah (cI (cU (ai aW (ae 2) (eS "hand"))) (gN 7) (ah (ay (ai aW (aC (aa (af "_law_pick" (a2 (ae 0) (eI 4))) (aa (ai ak (eI 3) (af "_law_pick" (a2 (ae 0) (eI 6)))) (aa (ai ak (eI 3) (af "_law_pick" (a2 (ae 0) (eI 6)))) (a1 (eI 30)))))) (af "_law_pick" (a2 (ae 0) (eI 4)))) (gN 4))
  (dn (eM dm cS (ae 6) (aa (au (aa (ae 7) (aa (eB cN (aa (dw 1 (a8 (a1 (ae 4))) (gN 9) ax (af "_law_row" (aa (ae 0) (a3 (ae 2) (ae 5) (ae 4))))) ag)) ag))) ag)))))
  (ah (ay (eB cN (aa (dw 1 (cU (ai aW (ae 2) (eS "box"))) (gN 9) ax (au (aa (ae 9) (aa (ai aW (aC (aa (eI 0) (aa (eI 1) (aa (eI 999) (aa (af "_law_pick" (a2 (ae 0) (eI 1000))) ag))))) (af "_law_pick" (a2 (ae 0) (eI 4)))) ag)))) ag)) (gN 8))
  (av (au (aa (ae 8) (aa (eB cN (aa (ai aW (ae 2) (eS "lock")) ag)) (aa (eB cN (aa (ai aW (ae 2) (eS "lane")) ag)) (aa (eB cN (aa (ai aW (ae 2) (eS "door")) ag)) (aa (eB cN (a1 (ae 6))) ag))))))))))))))
def dY:Df:=⟨["_law_state"],8,iA⟩
def gO:MS :=
  (ah (ay (aC (aa (eC .non) (aa (eC (.bl true)) (aa (eC (.bl false)) (aa (eI 0) (aa (eI 1) (aa (eI 1000) (aa (rq xA (eI 1)) (aa (eI 999) (aa (eS "") (aa (eS "a") (aa (eS "lets") (aa (eS "let") (aa (eS "add") (aa (eS "num") (aa (eS "of") (aa (eS "not") (aa (au ag) (aa (aC ag) (aa jC ag)))))))))))))))))))) (gN 2))
  (ah (ay (ai ak (ae 2) (aC (aa (au (a2 (eS "num") (eI 5))) (aa (au (aa (eS "num") (aa (eC (.bl true)) ag))) (aa (au (a2 (eS "num") (eI 1000))) (aa (au (a2 (eS "of") (eS "let"))) (aa (au (a1 (eS "not"))) (aa (au (aa (eS "add") (aa (au (a2 (eS "num") (eI 1))) ag))) (aa (ai xJ (eI 10) (eI 39)) ag))))))))) (gN 2))
  (ah (ay (ai ak (ae 2) (aC (aa (au (aa (eS "num") (aa (aC (a1 (eI 5))) ag))) (aa (aC (a2 (eS "num") (eI 5))) (aa (au (a2 (eS "of") (eS "A"))) (aa (au (a2 (eS "of") (eS ""))) (aa (au (a2 (eS "of") (eS "abcdefghi"))) (aa (ef (aQ (eS "num") (eI 5) gP)) (aa (au (a2 (eS "a") (eI 5))) ag))))))))) (gN 2))
  (ah (ay (ai ak (ae 2) (aC (aa (au (aa (eS "not") (aa (au (a2 (eS "of") (eS "not"))) ag))) (aa (au (a2 (eS "take") (eS "a"))) (aa (au (a2 (eS "clock") (eS "b"))) (aa (au (aa (eS "leap") (aa (eI 0) (aa (au (a2 (eS "num") (eI 1))) ag)))) (aa (eI 31) (a3 (eS "box") (eI 1001) (eI 2))))))))) (gN 2))
  (ah (bC (ao (eB aP (aa (ae 1) (aa (eC (.ty "tuple")) ag)))) (ay (ai ak (ae 2) (aC (aa (eB dN (a1 (ae 1))) (aa (ai ak (ae 1) (au (a1 (eI 0)))) (aa (dR (ae 1) aR (aK (rq xA (eI 1)))) (aa (au (a2 (eS "not") (ae 1))) (aa (ai ak (ae 1) (dR (ae 1) aR (aK (eI 1)))) (aa (dR (ae 1) (aK (eI 1)) aR) (aa (ai gf (ae 1) (eI 2)) ag))))))))) (gN 2)) bz)
  (av (ai aW (ae 2) (af "_law_pick" (aa (ae 0) (aa (eB aO (a1 (ae 2))) ag))))))))))
def jG:Df:=⟨["_law_state", "_law_thing"],1,gO⟩
def lH:MS :=
  (ah (bC (eJ (ao (eB aP (aa (ae 1) (aa (eC (.ty "tuple")) ag)))) (eJ (ao (ai pG (eB aO (a1 (ae 1))) (eI 0))) (eJ (ao (ai qA (ae 2) (eI 7))) (ao (ai pG (af "_law_pick" (a2 (ae 0) (eI 4))) (eI 0)))))) (ah (ay (af "_law_pick" (aa (ae 0) (aa (eB aO (a1 (ae 1))) ag))) (gN 3))
  (ah (ay (af "_law_bent" (aa (ae 0) (aa (ai aW (ae 1) (ae 3)) (aa (ai ak (ae 2) (eI 1)) ag)))) (gN 4))
  (av (ai ak (ai ak (dR (ae 1) aR (aK (ae 3))) (au (a1 (ae 4)))) (dR (ae 1) (aK (ai ak (ae 3) (eI 1))) aR))))) bz)
  (av (af "_law_odd" (a2 (ae 0) (ae 1)))))
def iF:Df:=⟨["_law_state", "_law_thing", "_law_deep"],2,lH⟩
def fH:MS :=
  (av (dQ (eB aP (aa (ae 0) (aa (eC (.ty "int")) ag))) (dQ (Bb (eB aP (aa (ae 0) (aa (eC (.ty "bool")) ag)))) (gm ur ur (ae 1) (ae 0) (ae 2)))))
def de:Df:=⟨["_law_thing", "_law_least", "_law_most"],0,fH⟩
def bI:MS :=
  (ah (ay (eS "let leap get put take free send fetch say clock lot hear add sub mul less same not box lock lane") (gN 1))
  (ah (bC (fL (bK (ao (eB aP (aa (ae 0) (aa (eC (.ty "str")) ag))))) (fL (ao (ai fK (ae 0) (eM oz mX (ae 1) (a1 (eS " "))))) (ao (ai fK (ae 0) (au (a2 (eS "door") (eS "hand"))))))) (av (eC (.bl false))) bz)
  (av (dQ (gm qA qA (eI 0) (eB aO (a1 (ae 0))) (eI 9)) (ai hU (dw 1 (cU (ae 0)) (gN 2) (ao (ai cX (ae 2) (eS "abcdefghijklmnopqrstuvwxyz"))) (ae 2)) (aC ag))))))
def bc:Df:=⟨["_law_thing"],1,bI⟩
def aV:MS :=
  (ah (bC (fL (bK (ao (eB aP (aa (ae 0) (aa (eC (.ty "tuple")) ag))))) (fL (ao (ai fW (eB aO (a1 (ae 0))) (eI 0))) (ao (ai pG (ae 1) (eI 5))))) (av (eI 99)) bz)
  (ah (bC (eJ (ao (ai fW (eX 0 0) (eS "num"))) (eJ (ao (ai fW (eB aO (a1 (ae 0))) (eI 2))) (ao (af "_law_whole" (a3 (eX 0 1) (eI 0) (eI 999)))))) (av (eI 1)) bz)
  (ah (bC (eJ (ao (ai fW (eX 0 0) (eS "of"))) (eJ (ao (ai fW (eB aO (a1 (ae 0))) (eI 2))) (ao (af "_law_is_name" (a1 (eX 0 1)))))) (av (eI 1)) bz)
  (ah (ay (ef (aQ (eS "add") (eI 3) (aQ (eS "sub") (eI 3) (aQ (eS "mul") (eI 3) (aQ (eS "less") (eI 3) (aQ (eS "same") (eI 3) (aQ (eS "not") (eI 2) gP))))))) (gN 2))
  (ah (bC (fL (bK (ao (eB aP (aa (eX 0 0) (aa (eC (.ty "str")) ag))))) (ao (ai i8 (yU (ae 2) (eX 0 0) (eI 0)) (eB aO (a1 (ae 0)))))) (av (eI 99)) bz)
  (av (ai ak (eI 1) (eB t6 (aa (dw 1 (cU (dR (ae 0) (aK (eI 1)) aR)) (gN 3) ax (af "_law_sums_in" (aa (ae 3) (aa (ai ak (ae 1) (eI 1)) ag)))) ag)))))))))
def aL:Df:=⟨["_law_thing", "_law_deep"],1,aV⟩
def jj:MS :=
  (av (ai ur (af "_law_sums_in" (a2 (ae 0) (eI 1))) (eI 12)))
def eZ:Df:=⟨["_law_thing"],0,jj⟩
def df:MS :=
  (ah (bC (fL (bK (ao (eB aP (aa (ae 0) (aa (eC (.ty "tuple")) ag))))) (bK (ao (gm ur ur (ae 1) (eB aO (a1 (ae 0))) (eI 4))))) (av (eC (.bl false))) bz)
  (av (ai cX (eC (.bl false)) (dw 1 (cU (ae 0)) (gN 2) ax (dQ (eB aP (aa (ae 2) (aa (eC (.ty "tuple")) ag))) (ai hU (eB aO (a1 (ae 2))) (eI 2)))))))
def cg:Df:=⟨["_law_thing", "_law_least"],0,df⟩
def gc:MS :=
  (ah (bC (mQ (ae 0) (eS "pocket")) (av (af "_law_is_name" (a1 (ae 1)))) bz)
  (ah (bC (mQ (ae 0) (eS "sum")) (av (af "_law_is_sum" (a1 (ae 1)))) bz)
  (ah (bC (mQ (ae 0) (eS "row")) (av (af "_law_whole" (a3 (ae 1) (eI 0) (ae 3)))) bz)
  (ah (bC (mQ (ae 0) (eS "lots")) (av (af "_law_whole" (a3 (ae 1) (eI 2) (eI 1000)))) bz)
  (av (dQ (eB aP (aa (ae 1) (aa (eC (.ty "str")) ag))) (ai fK (ae 1) (ai aW (ae 2) (ae 0)))))))))
def cQ:Df:=⟨["_law_form", "_law_part", "_law_named", "_law_many"],0,gc⟩
def gE:MS :=
  (ah (ay (ef (aQ (eS "let") (aC (a2 (eS "pocket") (eS "sum"))) (aQ (eS "leap") (aC (a2 (eS "row") (eS "sum"))) (aQ (eS "get") (aC (a2 (eS "pocket") (eS "box"))) (aQ (eS "put") (aC (a2 (eS "box") (eS "sum"))) gP))))) (gN 3))
  (ah (dn (eM bU eQ (ae 3) (aa (ef (aQ (eS "take") (aC (a1 (eS "lock"))) (aQ (eS "free") (aC (a1 (eS "lock"))) (aQ (eS "send") (aC (a2 (eS "lane") (eS "sum"))) (aQ (eS "fetch") (aC (a2 (eS "pocket") (eS "lane"))) gP))))) ag)))
  (ah (dn (eM bU eQ (ae 3) (aa (ef (aQ (eS "say") (aC (a2 (eS "door") (eS "sum"))) (aQ (eS "clock") (aC (a1 (eS "pocket"))) (aQ (eS "lot") (aC (a2 (eS "pocket") (eS "lots"))) (aQ (eS "hear") (aC (a2 (eS "pocket") (eS "door"))) gP))))) ag)))
  (ah (bC (fL (bK (ao (eB aP (aa (ae 0) (aa (eC (.ty "tuple")) ag))))) (fL (ao (ai qA (eB aO (a1 (ae 0))) (eI 2))) (fL (bK (ao (eB aP (aa (eX 0 0) (aa (eC (.ty "str")) ag))))) (ao (ai cX (eX 0 0) (ae 3)))))) (av (eC (.bl false))) bz)
  (ah (ay (ai aW (ae 3) (eX 0 0)) (gN 4))
  (ah (bC (ao (ai i8 (eB aO (a1 (ae 4))) (ai yu (eB aO (a1 (ae 0))) (eI 1)))) (av (eC (.bl false))) bz)
  (av (ai cX (eC (.bl false)) (dw 1 (a8 (aa (eB aO (a1 (ae 4))) ag)) (gN 5) ax (af "_law_part_right" (aa (ai aW (ae 4) (ae 5)) (aa (ai aW (ae 0) (ai ak (ae 5) (eI 1))) (a2 (ae 1) (ae 2))))))))))))))
def eT:Df:=⟨["_law_row_here", "_law_named", "_law_many"],2,gE⟩
def bw:MS :=
  (ah (bC (fL (bK (ao (eB aP (aa (ae 0) (aa (eC (.ty "tuple")) ag))))) (fL (ao (ai i8 (eB aO (a1 (ae 0))) (eI 5))) (fL (bK (ao (af "_law_pairs" (a2 (eX 0 0) (eI 0))))) (bK (ao (af "_law_pairs" (a2 (eX 0 4) (eI 1)))))))) (av (eC (.bl false))) bz)
  (ah (bC (ao (ai fK (eC (.bl false)) (dw 1 (cU (dR (ae 0) (aK (eI 1)) (aK (eI 4)))) (gN 5) ax (dQ (eB aP (aa (ae 5) (aa (eC (.ty "tuple")) ag))) (ai qA (eB aO (a1 (ae 5))) (eI 5)))))) (av (eC (.bl false))) bz)
  (ah (ay (ef (aQ (eS "box") (dw 1 (cU (eX 0 0)) (gN 5) ax (eX 5 0)) (aQ (eS "lock") (eB dN (a1 (eX 0 1))) (aQ (eS "lane") (eB dN (a1 (eX 0 2))) gP)))) (gN 1))
  (ah (nW lN (ae 1) (eS "door") (eB dN (a1 (eX 0 3))))
  (ah (ay (ai ak (ai ak (ai ak (ai ak (ai aW (ae 1) (eS "box")) (ai aW (ae 1) (eS "lock"))) (ai aW (ae 1) (eS "lane"))) (ai aW (ae 1) (eS "door"))) (dw 1 (cU (eX 0 4)) (gN 5) ax (eX 5 0))) (gN 2))
  (ah (bC (fL (ao (ai fK (eC (.bl false)) (dw 1 (cU (ae 2)) (gN 5) ax (af "_law_is_name" (a1 (ae 5)))))) (ao (ai qA (Ll (a1 (ae 2))) (eB aO (a1 (ae 2)))))) (av (eC (.bl false))) bz)
  (ah (bC (ao (ai fK (eC (.bl false)) (dw 1 (cU (eX 0 0)) (gN 5) ax (af "_law_whole" (a3 (eX 5 1) (eI 0) (eI 999)))))) (av (eC (.bl false))) bz)
  (ah (cI (cU (eX 0 4)) (gT 2 (ba (gN 3) (ba (gN 4) eO))) (ah (bC (fL (bK (ao (eB aP (aa (ae 4) (aa (eC (.ty "tuple")) ag))))) (ao (ai pG (eB aO (a1 (ae 4))) (eI 30)))) (av (eC (.bl false))) bz)
  (bC (ao (ai fK (eC (.bl false)) (dw 1 (cU (ae 4)) (gN 5) ax (af "_law_row_right" (aa (ae 5) (aa (ae 1) (aa (eB aO (a1 (ae 4))) ag))))))) (av (eC (.bl false))) bz)))
  (av (eC (.bl true)))))))))))
def dX:Df:=⟨["_law_thing"],4,bw⟩
def bN:MS :=
  (ah (bC (ao (eB aP (aa (ae 1) (aa (au (aa (eC (.ty "tuple")) (aa (eC (.ty "list")) ag))) ag)))) (ah (bC (fL (ao (ai i8 (eB aP (aa (ae 0) (aa (eC (.ty "tuple")) ag))) (eB aP (aa (ae 1) (aa (eC (.ty "tuple")) ag))))) (ao (ai i8 (eB aP (aa (ae 0) (aa (eC (.ty "list")) ag))) (eB aP (aa (ae 1) (aa (eC (.ty "list")) ag)))))) (av (eC (.bl false))) bz)
  (av (dQ (ai hU (eB aO (a1 (ae 0))) (eB aO (a1 (ae 1)))) (eB fw (aa (dw 1 (a8 (aa (eB aO (a1 (ae 1))) ag)) (gN 2) ax (af "_law_same" (aa (ai aW (ae 0) (ae 2)) (aa (ai aW (ae 1) (ae 2)) ag)))) ag))))) bz)
  (ah (bC (ao (rq (gz false) (ae 1))) (av (rq (gz false) (ae 0))) bz)
  (ah (bC (fL (ao (eB aP (aa (ae 1) (aa (eC (.ty "bool")) ag)))) (ao (eB aP (aa (ae 0) (aa (eC (.ty "bool")) ag))))) (av (dQ (eB aP (aa (ae 1) (aa (eC (.ty "bool")) ag))) (dQ (eB aP (aa (ae 0) (aa (eC (.ty "bool")) ag))) (ai hU (ae 0) (ae 1))))) bz)
  (ah (bC (ao (eB aP (aa (ae 1) (aa (eC (.ty "int")) ag)))) (av (dQ (eB aP (aa (ae 0) (aa (eC (.ty "int")) ag))) (ai hU (ae 0) (ae 1)))) bz)
  (av (dQ (eB aP (aa (ae 0) (aa (eC (.ty "str")) ag))) (ai hU (ae 0) (ae 1))))))))
def bA:Df:=⟨["_law_found", "_law_due"],0,bN⟩
def fq:MS :=
  (ah (ay (aC (aa (eS "box") (aa (eS "lock") (a3 (eS "lane") (eS "door") (eS "hand"))))) (gN 1))
  (ah (ay (aC (aa (dw 1 (cU (eX 0 0)) (gN 8) ax (eX 8 0)) (aa (eB dN (a1 (eX 0 1))) (aa (eB dN (a1 (eX 0 2))) (aa (eB dN (a1 (eX 0 3))) ag))))) (gN 2))
  (ah (dn (eM dm cS (ae 2) (aa (dw 1 (cU (eX 0 4)) (gN 8) ax (eX 8 0)) ag)))
  (ah (cI (a8 (a1 (eI 5))) (gN 3) (ah (cI (a8 (a1 (eI 5))) (gN 4) (cI (a8 (aa (eB aO (aa (ai aW (ae 2) (ae 4)) ag)) ag)) (gN 5) (ah (ay (BW (ao (ai hU (ae 4) (ae 3))) (ae 5) (eC .non)) (gN 6))
  (bC (bK (ao (af "_law_same" (aa (af "number_of" (aa (ae 0) (aa (ai aW (ae 1) (ae 3)) (aa (ai aW (ai aW (ae 2) (ae 4)) (ae 5)) ag)))) (a1 (ae 6)))))) (av (eC (.bl false))) bz))))
  (bC (fL (ao (rq (gz true) (af "number_of" (aa (ae 0) (aa (ai aW (ae 1) (ae 3)) (a1 (eS "nobody"))))))) (ao (rq (gz true) (af "number_of" (aa (ae 0) (aa (ai aW (ae 1) (ae 3)) (a1 (eS "")))))))) (av (eC (.bl false))) bz)))
  (ah (cI (a8 (aa (eB aO (a1 (eX 0 4))) ag)) (gN 7) (bC (bK (ao (af "_law_same" (aa (af "rows_of" (a2 (ae 0) (ae 7))) (aa (ai aW (ai aW (eX 0 4) (ae 7)) (eI 1)) ag))))) (av (eC (.bl false))) bz))
  (av (eC (.bl true))))))))
def cY:Df:=⟨["_law_program_here"],7,fq⟩
def iP:MS :=
  (ah (ay (af "_law_pick" (a2 (ae 0) (eI 11))) (gN 2))
  (ah (ay (dw 1 (cU (eX 1 0)) (gN 11) ax (eX 11 0)) (gN 3))
  (ah (ay (ai ak (ae 3) (eB dN (aa (ai ak (ai ak (eX 1 1) (eX 1 2)) (eX 1 3)) ag))) (gN 3))
  (ah (ay (ai ak (ae 3) (dw 1 (cU (dR (eX 1 4) (aK (eI 1)) aR)) (gN 11) ax (eX 11 0))) (gN 3))
  (ah (bC (mQ (ae 2) (eI 10)) (ah (ay (eB cN (aa (dw 1 (cU (dR (aC (aa (eS "xa") (aa (eS "xb") (a3 (eS "xc") (eS "xd") (eS "xe"))))) aR (aK (ai ak (eI 4) (af "_law_pick" (a2 (ae 0) (eI 2))))))) (gN 11) ax (au (a2 (ae 11) (eI 0)))) ag)) (gN 4))
  (av (ai ak (au (a1 (ae 4))) (dR (ae 1) (aK (eI 1)) aR)))) bz)
  (ah (bC (eJ (ao (ai pG (ae 2) (eI 7))) (ao (ai i8 (ae 3) (aC ag)))) (ah (ay (ai aW (ae 3) (af "_law_pick" (aa (ae 0) (aa (eB aO (a1 (ae 3))) ag)))) (gN 5))
  (ah (ay (aC (aa (au (a2 (eS "take") (ae 5))) (aa (au (a3 (eS "get") (eS "a") (ae 5))) (aa (au (aa (eS "send") (aa (ae 5) (aa (au (a2 (eS "num") (eI 1))) ag)))) (aa (au (aa (eS "say") (aa (ae 5) (aa (au (a2 (eS "num") (eI 1))) ag)))) ag))))) (gN 6))
  (ah (ay (au (aa (ai aW (ai aW (eX 1 4) (eI 0)) (eI 0)) (aa (au (aa (ai aW (ae 6) (af "_law_pick" (a2 (ae 0) (eI 4)))) ag)) ag))) (gN 7))
  (av (ai ak (dR (ae 1) aR (aK (eI 4))) (au (aa (ai ak (au (a1 (ae 7))) (dR (eX 1 4) (aK (eI 1)) aR)) ag))))))) bz)
  (ah (bC (eJ (ao (ai pG (ae 2) (eI 5))) (ao (ai i8 (ae 3) (aC ag)))) (ah (ay (ai aW (ae 3) (af "_law_pick" (aa (ae 0) (aa (eB aO (a1 (ae 3))) ag)))) (gN 5))
  (av (ai ak (dR (ae 1) aR (aK (eI 4))) (au (aa (ai ak (dR (eX 1 4) (aK (eI 1)) aR) (au (aa (au (a2 (ae 5) (au ag))) ag))) ag))))) bz)
  (ah (bC (ao (ai qA (ae 2) (eI 3))) (ah (ay (eB cN (aa (dR (aC (aa (eS "xa") (aa (eS "xb") (a3 (eS "xc") (eS "xd") (eS "xe"))))) aR (aK (ai ak (eI 4) (af "_law_pick" (a2 (ae 0) (eI 2)))))) ag)) (gN 8))
  (av (ai ak (ai ak (dR (ae 1) aR (aK (ai ak (ae 2) (eI 1)))) (au (a1 (ae 8)))) (dR (ae 1) (aK (ai ak (ae 2) (eI 2))) aR)))) bz)
  (ah (ay (ai aW (eX 1 4) (eI 0)) (gN 9))
  (ah (bC (mQ (ae 2) (eI 3)) (av (ai ak (dR (ae 1) aR (aK (eI 4))) (au (aa (au (aa (eX 9 0) (aa (ai gf (au (aa (au (a2 (eS "clock") (eS "a"))) ag)) (ai ak (eI 30) (af "_law_pick" (a2 (ae 0) (eI 2))))) ag))) ag)))) bz)
  (ah (bC (mQ (ae 2) (eI 4)) (ah (ay (eB cN (aa (dw 1 (cU (dR (aC (aa (eS "xa") (aa (eS "xb") (a3 (eS "xc") (eS "xd") (eS "xe"))))) aR (aK (ai ak (eI 4) (af "_law_pick" (a2 (ae 0) (eI 2))))))) (gN 11) ax (au (a2 (ae 11) (au ag)))) ag)) (gN 7))
  (av (ai ak (dR (ae 1) aR (aK (eI 4))) (au (a1 (ae 7)))))) bz)
  (ah (ay (au (aa (eS "leap") (aa (ai ak (eI 2) (af "_law_pick" (a2 (ae 0) (eI 2)))) (aa (au (a2 (eS "num") (eI 1))) ag)))) (gN 10))
  (av (ai ak (dR (ae 1) aR (aK (eI 4))) (au (aa (au (aa (au (aa (eX 9 0) (aa (au (aa (ae 10) (aa (au (a2 (eS "clock") (eS "a"))) ag))) ag))) ag)) ag))))))))))))))))
def iL:Df:=⟨["_law_state", "_law_program_here"],9,iP⟩
def Bp:MS :=
  (ah (ay (ef (aQ (eS "script") (ae 0) (aQ (eS "k") (eI 0) gP))) (gN 1))
  (ah (ay (aC (aa (af "_law_program" (a1 (ae 1))) ag)) (gN 2))
  (ah (dn (eM dm cS (ae 2) (aa (af "_law_program" (a1 (ae 1))) ag)))
  (ah (cI (cU (ai ak (ae 2) (ae 2))) (gN 3) (bC (fL (ao (ai mG (af "is_program" (a1 (ae 3))) (eC (.bl true)))) (bK (ao (af "_law_numbers_right" (a1 (ae 3)))))) (av (eC (.bl false))) bz))
  (ah (ay (dw 1 (a8 (a1 (eI 4))) (gN 9) ax (af "_law_odd" (a2 (ae 1) (au ag)))) (gN 4))
  (ah (cI (cU (ae 2)) (gN 3) (cI (a8 (a1 (eI 6))) (gN 5) (ah (ay (ae 3) (gN 6))
  (ah (cI (a8 (aa (ai ak (eI 1) (ai hV (ae 5) (eI 3))) ag)) (gN 7) (ah (ay (af "_law_bent" (a3 (ae 1) (ae 6) (eI 0))) (gN 6))
  (dn (eM dm cS (ae 4) (a1 (ae 6))))))
  (dn (eM dm cS (ae 4) (aa (af "_law_wide" (a2 (ae 1) (ae 3))) ag)))))))
  (ah (cI (cU (ae 4)) (gN 6) (ah (ay (af "is_program" (a1 (ae 6))) (gN 8))
  (bC (fL (bK (ao (eB aP (aa (ae 8) (aa (eC (.ty "bool")) ag))))) (ao (ai i8 (ae 8) (af "_law_is_program" (a1 (ae 6)))))) (av (eC (.bl false))) bz)))
  (av (eC (.bl true))))))))))
def BI:Df:=⟨["_law_script"],8,Bp⟩
structure cv(pg:Tb):Prop where
 uW:pg.fns "is_whole" =fv fR
 qS:pg.fns "is_between" =fv eG
 tY:pg.fns "is_value" =fv gQ
 oM:pg.fns "is_tuple_of" =fv cL
 xr:pg.fns "is_word" =fv iZ
 xR:pg.fns "is_name" =fv dI
 By:pg.fns "is_sum" =fv iJ
 ji:pg.fns "sums_within" =fv aH
 qe:pg.fns "is_program" =fv gW
 Ba:pg.fns "is_few" =fv gB
 AQ:pg.fns "is_box" =fv fi
 xa:pg.fns "is_hand" =fv cK
 jx:pg.fns "has_unlike_names" =fv dF
 vd:pg.fns "are_rows" =fv hW
 Ay:pg.fns "is_row" =fv dy
 xh:pg.fns "is_part" =fv ja
 uU:pg.fns "names_of" =fv jB
 se:pg.fns "number_of" =fv ft
 xD:pg.fns "rows_of" =fv iS
 sv:pg.fns "_law_draw" =fv cZ
 rY:pg.fns "_law_pick" =fv gh
 rl:pg.fns "_law_names" =fv fF
 eV:pg.fns "_law_sum_in" =fv bG
 vc:pg.fns "_law_sum" =fv gR
 vg:pg.fns "_law_row" =fv gX
 ng:pg.fns "_law_program" =fv dY
 uz:pg.fns "_law_odd" =fv jG
 lF:pg.fns "_law_bent" =fv iF
 qm:pg.fns "_law_whole" =fv de
 mE:pg.fns "_law_is_name" =fv bc
 iy:pg.fns "_law_sums_in" =fv aL
 oU:pg.fns "_law_is_sum" =fv eZ
 qM:pg.fns "_law_pairs" =fv cg
 jX:pg.fns "_law_part_right" =fv cQ
 kJ:pg.fns "_law_row_right" =fv eT
 kh:pg.fns "_law_is_program" =fv dX
 lI:pg.fns "_law_same" =fv bA
 iz:pg.fns "_law_numbers_right" =fv cY
 rQ:pg.fns "_law_wide" =fv iL
 F4:pg.fns "law" =fv BI
 OP:pg.con "SORTS" =fv (.ktup [(.str "box"),(.str "lock"),(.str "lane"),(.str "door"),(.str "hand")])
 Lw:pg.con "LETTERS" =fv (.str "abcdefghijklmnopqrstuvwxyz")
 BH:pg.con "LONGEST_NAME" =fv (.int 8)
 FX:pg.con "MOST_SUMS" =fv (.int 12)
 Ls:pg.con "DEEPEST" =fv (.int 5)
 yi:pg.con "MOST_OF_A_SORT" =fv (.int 4)
 Fz:pg.con "MOST_ROWS" =fv (.int 30)
 yG:pg.con "LEAST_CHANCES" =fv (.int 2)
 yK:pg.con "MOST_CHANCES" =fv (.int 1000)
 cj:pg.sZ "ROW_PARTS" =fv cj
 bh:pg.sZ "SUM_PARTS" =fv bh
def fnT:List (String × Df):=[("is_whole",fR),("is_between",eG),("is_value",gQ),("is_tuple_of",cL),("is_word",iZ),("is_name",dI),("is_sum",iJ),("sums_within",aH),("is_program",gW),("is_few",gB),("is_box",fi),("is_hand",cK),("has_unlike_names",dF),("are_rows",hW),("is_row",dy),("is_part",ja),("names_of",jB),("number_of",ft),("rows_of",iS),("_law_draw",cZ),("_law_pick",gh),("_law_names",fF),("_law_sum_in",bG),("_law_sum",gR),("_law_row",gX),("_law_program",dY),("_law_odd",jG),("_law_bent",iF),("_law_whole",de),("_law_is_name",bc),("_law_sums_in",aL),("_law_is_sum",eZ),("_law_pairs",cg),("_law_part_right",cQ),("_law_row_right",eT),("_law_is_program",dX),("_law_same",bA),("_law_numbers_right",cY),("_law_wide",iL),("law",BI)]
noncomputable def conT:List (Str × PV):=[("SORTS",(.ktup [(.str "box"),(.str "lock"),(.str "lane"),(.str "door"),(.str "hand")])),("LETTERS",(.str "abcdefghijklmnopqrstuvwxyz")),("LONGEST_NAME",(.int 8)),("MOST_SUMS",(.int 12)),("DEEPEST",(.int 5)),("MOST_OF_A_SORT",(.int 4)),("MOST_ROWS",(.int 30)),("LEAST_CHANCES",(.int 2)),("MOST_CHANCES",(.int 1000))]
def dcT:List (Str × List (Key × PV)):=[("ROW_PARTS",cj),("SUM_PARTS",bh)]
def tb:Tb:=⟨λf=>(fnT.find? λp=>p.1 == f).map (·.2),λx=>(conT.find? λp=>decide (p.1=x)).map (·.2),λx=>(dcT.find? λp=>decide (p.1=x)).map (·.2)⟩
theorem br{l:List (String × Df)}(nd:(l.map (·.1)).Nodup)(i:Nat)(e:l[i]?=fv (f,d)):(l.find? λp=>p.1 == f).map (·.2)=fv d:=by
 induction l generalizing i d with
 | nil=>cases e
 | cons x l ih =>
  rw[S7,Vj] at nd
  cases i with
  | zero =>
   simp_all
  | succ i =>
   rw[Ut] at e
   have m:=Uw e
   have ne: ¬ (x.1 == f)=true:=λz=>nd.1 (by rw[beq_iff_eq.mp z];exact TR.mpr ⟨_,m,rfl⟩)
   rw[List.find?_cons_of_neg (p:=λp:String × Df=>p.1 == f) ne]
   exact ih nd.2 i e
theorem bt:(fnT.map (·.1)).Nodup:=by decide +kernel
theorem has:cv tb:=⟨br bt 0 rfl,br bt 1 rfl,br bt 2 rfl,br bt 3 rfl,br bt 4 rfl,br bt 5 rfl,br bt 6 rfl,br bt 7 rfl,br bt 8 rfl,br bt 9 rfl,br bt 10 rfl,br bt 11 rfl,br bt 12 rfl,br bt 13 rfl,br bt 14 rfl,br bt 15 rfl,br bt 16 rfl,br bt 17 rfl,br bt 18 rfl,br bt 19 rfl,br bt 20 rfl,br bt 21 rfl,br bt 22 rfl,br bt 23 rfl,br bt 24 rfl,br bt 25 rfl,br bt 26 rfl,br bt 27 rfl,br bt 28 rfl,br bt 29 rfl,br bt 30 rfl,br bt 31 rfl,br bt 32 rfl,br bt 33 rfl,br bt 34 rfl,br bt 35 rfl,br bt 36 rfl,br bt 37 rfl,br bt 38 rfl,br bt 39 rfl,rfl,rfl,rfl,rfl,rfl,rfl,rfl,rfl,rfl,rfl,rfl⟩
local macro_rules
 | `(tactic| array_get_dec)=> do
  let tm (x:String):Lean.MacroM Lean.Term:=match x with
   | "?"=>`(?_)
   | "_"=>`(_)
   | "A"=>`(by assumption)
   | "R"=>`(rfl)
   | "F"=>`(λ_ _=>rfl)
   | "K"=>`(by decide +kernel)
   | "D"=>`(by decide)
   | "Q"=>`(⟨rfl,rfl,rfl,rfl⟩)
   | "L"=>`(λ_ _ _ _ _ _=>⟨λ_=>?_,?_,?_⟩)
   | "O"=>`(by first | exact YG rfl | exact Xe rfl)
   | "Z"=>`(by intro z;cases z)
   | "w"=>`(zV _)
   | x=>pure (Lean.mkIdent x.toName)
  let al (a:String):Lean.MacroM (Lean.TSyntax `tactic):=do
   match a.splitOn " " with
   | ["p",q,n]=>`(tactic| refine $(Lean.mkIdent q.toName) ($(Lean.mkIdent n.toName) ?_ ?_))
   | [n]=>`(tactic| refine $(Lean.mkIdent n.toName))
   | n::r=>do
     let ts ← r.toArray.mapM tm
     `(tactic| refine $(Lean.mkIdent n.toName) $ts*)
   | []=>Lean.Macro.throwUnsupported
  let fs (x:List (Lean.TSyntax `tactic)):Lean.MacroM (Lean.TSyntax `tactic):=do
   let e ← `(tactic| fail)
   x.foldrM (λa b=>`(tactic| first | $a:tactic | $b:tactic)) e
  let gr (g:String):Lean.MacroM (Lean.TSyntax `tactic):=do
   match g.splitOn ":" with
   | [h,b]=>do
     let y ← fs (← (b.splitOn "|").mapM al)
     match h.splitOn " " with
     | [n,k]=>do
       let hs ← (Array.range k.toNat!).mapM λ_=>`(_)
       `(tactic| (show $(Lean.mkIdent n.toName) $hs*;$y:tactic))
     | _=>Lean.Macro.throwUnsupported
   | _=>Lean.Macro.throwUnsupported
  let a ← ("JE 5:Ji _|HB|Ka|KA|MY|NQ Rg ? ? F|E3 A R ?|Ma ? ? ?|xH R R ?|xI A R ?|GU ?|JV ?|yW ? ? ? w|yW ? ? ? R|HX ?|Bq ? ? ? ? ?|K1 A R ?|Ht ?|NK Og ?|Ju ? ?|LO ? ?|GX ?|Aq ? ? ?|Fh A R ? F|Be ? ? ?|BC|D6 ? R R Z D|E5 ? ? ? Q|Ir ? L|GL ? L|J8 A R|Ea Oi R K PySem.boot_len ?|Ea OB R K boot_isinstance ?|Ea Md R K boot_all ?|Ea Nn R K boot_sum ?|OI EZ R K boot_tuple ?|OI Hz R K boot_list ?|sQ R K boot_int|sQ R K boot_bool|sQ R K boot_str|sQ R K boot_list|sQ R K boot_tuple|AE PySem.F.plainAttrs_list PySem.F.slot_list_append PySem.F.type_list_append zS ? ?|AE PySem.F.plainAttrs_list PySem.F.slot_list_extend PySem.F.type_list_extend Bw ? ?|AE PySem.F.plainAttrs_dict PySem.F.slot_dict_update PySem.F.type_dict_update Av ? ?|AE PySem.F.plainAttrs_list PySem.F.slot_list_index PySem.F.type_list_index BA ? ?|AE PySem.F.plainAttrs_str PySem.F.slot_str_split PySem.F.type_str_split m_split ? ?#JA 5:JR|Fb ? ?#xq 5:Dj|EX ?|A9 ? ?#JS 5:G7 A ? L|K9 A ? L|Iw A R O ?|L4 ? ? ?|KO ?|D7 ?|Lb Of ? ? ?|Jb ? ? ? PassesOwn.never#JT 5:yV ? ? ? w|yV ? ? ? R|KG ?|DK ?|A7 ? ? ? ? ?|xp A R ?|p JW.pt AU|p JW.pt FN|Kh ?|Jy ?#JW 5:AU ? ?|FN ? ?|Dx ?|Gj ?#JO 5:Ce|Eu ?#JP 7:HN|DP ? ? ?#JG 5:ED A R O|Gn ?#Nl 5:EB|Bs ? ?#JI 6:yt R ?|Lg R ? ?|Jh ?#JF 5:IB|Km ?#QG 3:vF A R O|EO A ?#Ld 3:vG|rG ? ?".splitOn "#").mapM gr
  let b ← ("Nt|CP|MF|JX|Nb|Nv|Nf|QV|Qw|NU|PX|Rh|QX|C6|LZ|NT|EK".splitOn "|").mapM al
  let t ← fs (a++b)
  `(tactic| repeat' first | $t:tactic | fail)
local macro_rules
 | `(tactic| clean_wf)=> `(tactic| (refine bJ.on (by assumption) ⟨rfl,rfl,rfl,by decide +kernel,rfl,by decide +kernel,by decide +kernel⟩ rfl (λ_ _ _ _ _ _=>by first | exact Sf λ_=>rfl | exact Sh λ_ _=>rfl | exact RS λ_ _ _=>rfl | exact Ss λ_ _ _ _=>rfl) λ_ _ _ _ _ _ _ _ _ _=>?_;obtain⟨⟩:= ‹cv _›; array_get_dec))
section
variable {P:Ug} {w:Uz} {K:SV} {mg:Str->Option S5} {pg:Tb}
theorem tW(T:cv pg)(a:At K mg "is_whole" (top 1)):bJ P w K mg pg "is_whole" fR (top 1) ["thing"]:=by clean_wf
theorem qb(T:cv pg)(a:At K mg "is_between" (top 2)):bJ P w K mg pg "is_between" eG (top 2) ["thing", "least", "most"]:=by clean_wf
theorem t7(T:cv pg)(a:At K mg "is_value" (top 3)):bJ P w K mg pg "is_value" gQ (top 3) ["thing"]:=by clean_wf
theorem oP(T:cv pg)(a:At K mg "is_tuple_of" (top 4)):bJ P w K mg pg "is_tuple_of" cL (top 4) ["thing", "many"]:=by clean_wf
theorem wV(T:cv pg)(a:At K mg "is_word" (top 11)):bJ P w K mg pg "is_word" iZ (top 11) ["text"]:=by clean_wf
theorem xU(T:cv pg)(a:At K mg "is_name" (top 12)):bJ P w K mg pg "is_name" dI (top 12) ["thing"]:=by
 have z0:(j4 ["thing"] ["sign"]).Nodup:=by decide +kernel
 clean_wf
theorem za(T:cv pg)(a:At K mg "is_sum" (top 16)):bJ P w K mg pg "is_sum" iJ (top 16) ["thing"]:=by clean_wf
theorem oZ(T:cv pg)(a:At K mg "sums_within" (top 17)):bJ P w K mg pg "sums_within" aH (top 17) ["thing", "deep", "word", "inner"]:=by
 have z0:(j4 ["thing", "deep", "word", "inner"] ["part"]).Nodup:=by decide +kernel
 clean_wf
theorem qC(T:cv pg)(a:At K mg "is_program" (top 23)):bJ P w K mg pg "is_program" gW (top 23) ["thing"]:=by
 have z0:(j4 ["thing"] ["part"]).Nodup:=by decide +kernel
 have z1:(j4 ["thing"] ["one"]).Nodup:=by decide +kernel
 have z2:(j4 ["thing"] ["hand"]).Nodup:=by decide +kernel
 clean_wf
theorem AW(T:cv pg)(a:At K mg "is_few" (top 24)):bJ P w K mg pg "is_few" gB (top 24) ["thing"]:=by clean_wf
theorem zJ(T:cv pg)(a:At K mg "is_box" (top 25)):bJ P w K mg pg "is_box" fi (top 25) ["thing"]:=by clean_wf
theorem yj(T:cv pg)(a:At K mg "is_hand" (top 26)):bJ P w K mg pg "is_hand" cK (top 26) ["thing"]:=by clean_wf
theorem jE(T:cv pg)(a:At K mg "has_unlike_names" (top 27)):bJ P w K mg pg "has_unlike_names" dF (top 27) ["program", "names", "sort"]:=by clean_wf
theorem tX(T:cv pg)(a:At K mg "are_rows" (top 28)):bJ P w K mg pg "are_rows" hW (top 28) ["program", "rows"]:=by
 have z0:(j4 ["program", "rows"] ["row"]).Nodup:=by decide +kernel
 clean_wf
theorem BN(T:cv pg)(a:At K mg "is_row" (top 29)):bJ P w K mg pg "is_row" dy (top 29) ["program", "row", "many"]:=by
 have z0:(j4 ["program", "row", "many"] ["part", "thing"]).Nodup:=by decide +kernel
 clean_wf
theorem yz(T:cv pg)(a:At K mg "is_part" (top 30)):bJ P w K mg pg "is_part" ja (top 30) ["program", "part", "thing", "many"]:=by clean_wf
theorem uk(T:cv pg)(a:At K mg "names_of" (top 31)):bJ P w K mg pg "names_of" jB (top 31) ["program", "sort", "ones"]:=by
 have z0:(j4 ["program", "sort", "ones"] ["one"]).Nodup:=by decide +kernel
 clean_wf
theorem rL(T:cv pg)(a:At K mg "number_of" (top 32)):bJ P w K mg pg "number_of" ft (top 32) ["program", "sort", "name", "names"]:=by clean_wf
theorem xX(T:cv pg)(a:At K mg "rows_of" (top 33)):bJ P w K mg pg "rows_of" iS (top 33) ["program", "hand"]:=by clean_wf
theorem sG(T:cv pg)(a:At K mg "_law_draw" (top 35)):bJ P w K mg pg "_law_draw" cZ (top 35) ["_law_script", "_law_k", "_law_many", "_law_cell", "_law_left", "_law_j", "_law_seed"]:=by clean_wf
theorem sX(T:cv pg)(a:At K mg "_law_pick" (top 36)):bJ P w K mg pg "_law_pick" gh (top 36) ["_law_state", "_law_many"]:=by clean_wf
theorem qi(T:cv pg)(a:At K mg "_law_names" (top 37)):bJ P w K mg pg "_law_names" fF (top 37) ["_law_state", "_law_some", "_law_turn"]:=by clean_wf
theorem oS(T:cv pg)(a:At K mg "_law_sum_in" (top 38)):bJ P w K mg pg "_law_sum_in" bG (top 38) ["_law_state", "_law_pockets", "_law_deep", "_law_way", "_law_word", "_law_one"]:=by clean_wf
theorem uI(T:cv pg)(a:At K mg "_law_sum" (top 39)):bJ P w K mg pg "_law_sum" gR (top 39) ["_law_state", "_law_pockets"]:=by clean_wf
theorem uL(T:cv pg)(a:At K mg "_law_row" (top 40)):bJ P w K mg pg "_law_row" gX (top 40) ["_law_state", "_law_named", "_law_pockets", "_law_many", "_law_kinds", "_law_sort", "_law_some", "_law_kind", "_law_pocket", "_law_sorts", "_law_thing"]:=by clean_wf
theorem mV(T:cv pg)(a:At K mg "_law_program" (top 41)):bJ P w K mg pg "_law_program" dY (top 41) ["_law_state", "_law_names_here", "_law_named", "_law_sort", "_law_many", "_law_pockets", "_law_hands", "_law_name", "_law_boxes"]:=by
 have z0:(j4 ["_law_state", "_law_names_here", "_law_named", "_law_sort", "_law_many", "_law_pockets", "_law_hands", "_law_name", "_law_boxes"] ["_law_k"]).Nodup:=by decide +kernel
 have z1:(j4 ["_law_state", "_law_names_here", "_law_named", "_law_sort", "_law_many", "_law_pockets", "_law_hands", "_law_name", "_law_boxes"] ["_law_name"]).Nodup:=by decide +kernel
 clean_wf
theorem uE(T:cv pg)(a:At K mg "_law_odd" (top 42)):bJ P w K mg pg "_law_odd" jG (top 42) ["_law_state", "_law_thing", "_law_some"]:=by clean_wf
theorem tL(T:cv pg)(a:At K mg "_law_bent" (top 43)):bJ P w K mg pg "_law_bent" iF (top 43) ["_law_state", "_law_thing", "_law_deep", "_law_k", "_law_part"]:=by clean_wf
theorem qF(T:cv pg)(a:At K mg "_law_whole" (top 44)):bJ P w K mg pg "_law_whole" de (top 44) ["_law_thing", "_law_least", "_law_most"]:=by clean_wf
theorem m6(T:cv pg)(a:At K mg "_law_is_name" (top 45)):bJ P w K mg pg "_law_is_name" bc (top 45) ["_law_thing", "_law_language"]:=by
 have z0:(j4 ["_law_thing", "_law_language"] ["_law_sign"]).Nodup:=by decide +kernel
 clean_wf
theorem nZ(T:cv pg)(a:At K mg "_law_sums_in" (top 46)):bJ P w K mg pg "_law_sums_in" aL (top 46) ["_law_thing", "_law_deep", "_law_sizes"]:=by
 have z0:(j4 ["_law_thing", "_law_deep", "_law_sizes"] ["_law_part"]).Nodup:=by decide +kernel
 clean_wf
theorem oO(T:cv pg)(a:At K mg "_law_is_sum" (top 47)):bJ P w K mg pg "_law_is_sum" eZ (top 47) ["_law_thing"]:=by clean_wf
theorem qY(T:cv pg)(a:At K mg "_law_pairs" (top 48)):bJ P w K mg pg "_law_pairs" cg (top 48) ["_law_thing", "_law_least"]:=by
 have z0:(j4 ["_law_thing", "_law_least"] ["_law_one"]).Nodup:=by decide +kernel
 clean_wf
theorem j7(T:cv pg)(a:At K mg "_law_part_right" (top 49)):bJ P w K mg pg "_law_part_right" cQ (top 49) ["_law_form", "_law_part", "_law_named", "_law_many"]:=by clean_wf
theorem kY(T:cv pg)(a:At K mg "_law_row_right" (top 50)):bJ P w K mg pg "_law_row_right" eT (top 50) ["_law_row_here", "_law_named", "_law_many", "_law_forms", "_law_form"]:=by
 have z0:(j4 ["_law_row_here", "_law_named", "_law_many", "_law_forms", "_law_form"] ["_law_k"]).Nodup:=by decide +kernel
 clean_wf
theorem j1(T:cv pg)(a:At K mg "_law_is_program" (top 51)):bJ P w K mg pg "_law_is_program" dX (top 51) ["_law_thing", "_law_named", "_law_names_here", "_law_name", "_law_rows"]:=by
 have z0:(j4 ["_law_thing", "_law_named", "_law_names_here", "_law_name", "_law_rows"] ["_law_some"]).Nodup:=by decide +kernel
 have z1:(j4 ["_law_thing", "_law_named", "_law_names_here", "_law_name", "_law_rows"] ["_law_one"]).Nodup:=by decide +kernel
 have z2:(j4 ["_law_thing", "_law_named", "_law_names_here", "_law_name", "_law_rows"] ["_law_name"]).Nodup:=by decide +kernel
 have z3:(j4 ["_law_thing", "_law_named", "_law_names_here", "_law_name", "_law_rows"] ["_law_row_here"]).Nodup:=by decide +kernel
 clean_wf
theorem sC(T:cv pg)(a:At K mg "_law_same" (top 52)):bJ P w K mg pg "_law_same" bA (top 52) ["_law_found", "_law_due"]:=by
 have z0:(j4 ["_law_found", "_law_due"] ["_law_k"]).Nodup:=by decide +kernel
 clean_wf
theorem ir(T:cv pg)(a:At K mg "_law_numbers_right" (top 53)):bJ P w K mg pg "_law_numbers_right" cY (top 53) ["_law_program_here", "_law_sorts", "_law_named", "_law_k", "_law_j", "_law_at", "_law_due", "_law_hand"]:=by
 have z0:(j4 ["_law_program_here", "_law_sorts", "_law_named", "_law_k", "_law_j", "_law_at", "_law_due", "_law_hand"] ["_law_one"]).Nodup:=by decide +kernel
 clean_wf
theorem sH(T:cv pg)(a:At K mg "_law_wide" (top 54)):bJ P w K mg pg "_law_wide" iL (top 54) ["_law_state", "_law_program_here", "_law_way", "_law_things", "_law_boxes", "_law_name", "_law_rows", "_law_more", "_law_some", "_law_hand", "_law_row_here"]:=by
 have z0:(j4 ["_law_state", "_law_program_here", "_law_way", "_law_things", "_law_boxes", "_law_name", "_law_rows", "_law_more", "_law_some", "_law_hand", "_law_row_here"] ["_law_one"]).Nodup:=by decide +kernel
 have z1:(j4 ["_law_state", "_law_program_here", "_law_way", "_law_things", "_law_boxes", "_law_name", "_law_rows", "_law_more", "_law_some", "_law_hand", "_law_row_here"] ["_law_name"]).Nodup:=by decide +kernel
 clean_wf
theorem Fo(T:cv pg)(a:At K mg "law" (top 55)):bJ P w K mg pg "law" BI (top 55) ["_law_script", "_law_state", "_law_programs", "_law_program_here", "_law_some", "_law_k", "_law_thing", "_law_turn", "_law_found"]:=by
 have z0:(j4 ["_law_script", "_law_state", "_law_programs", "_law_program_here", "_law_some", "_law_k", "_law_thing", "_law_turn", "_law_found"] ["_law_k"]).Nodup:=by decide +kernel
 clean_wf
end
set_option maxHeartbeats 1000000
theorem oE: ∀ ss:List Str,dv f (ss.map PV.str)=fv (ss.map WG)
 | []=>rfl
 | x::r=>by rw[S7,dv,oE r];rfl
theorem rO{ss:List Str}(e:h[n]?=fv (.lst (ss.map PV.str))):dat (k+1) h (.ref n)=fv (.list (ss.map WG)):=by
 unfold dat;simp only[mM,e,oE,VU]
theorem ne_nil(e1:h[n]?=fv (.lst (ss.map PV.str)))(e2:h[m]?=fv (.lst []))(ok: ∀ x∈ss,TZ x=true):i8 (.ref n) (.ref m) h= .ok (.bl (!decide (ss=[]))) h:=by
 have d1:=rO (k:=5) e1;have d2:=rO (k:=5) (ss:=[]) (n:=m) e2;have sc:iE (.ref n) (.ref m)=false:=rfl;have dp: ∀ xs:List Str,aap (.list (xs.map WG))=xs.all TZ:=λxs=>by
  rw[aap,PyProof.Rows.canLayAll_strs']
 have al:alike (.ref n) (.ref m) h=fv (decide (ss=[])):=by
  unfold alike;rw[sc,d1,d2];have c1:(YV (ss.map WG)).canLay0=true:=by rw[dp];exact Uk.mpr ok
  have c2:(YV (([]).map WG)).canLay0=true:=by rfl
  have c3:min (YV (ss.map WG)).depth (YV (([]:List Str).map WG)).depth<=64:=Ua (ZS _ _) (by decide);simp only[VM,if_false,c1,c3,if_true];cases ss with
  | nil=>rfl
  | cons x r=>rfl
 have nd:f9 h (.ref n)=false:=by simp only[f9,e1]
 unfold i8;rw[al,nd];rfl
theorem eY(e:h[n]?=fv (.lst xs)):jO.eU ⟨fv n,xs⟩ h=true:=by
 unfold jO.eU;simp only[e,true_or,decide_true]
inductive Th(h:PH):PV->Prop
 | non:Th h .non
 | bl (b:Bool):Th h (.bl b)
 | int (i:Int):Th h (.int i)
 | str (s:Str) (l:s.length<=1000) (o:TZ s=true):Th h (.str s)
 | tup (xs:List PV) (l:xs.length<=1000000) (a: ∀ x∈xs,Th h x):Th h (.tup xs)
 | box (n:Nat) (b:eK h (.ref n)=true):Th h (.ref n)
theorem Th.mono{h h':PH}(s: ∀ n,eK h (.ref n)=true->eK h' (.ref n)=true){x:PV}(t:Th h x):Th h' x:=by
 induction t with
 | non=>exact .non
 | bl b=>exact .bl b
 | int i=>exact .int i
 | str z l o=>exact .str z l o
 | tup xs l _ ih=>exact .tup xs l ih
 | box n b=>exact .box n (s n b)
theorem lZ{h:PH}{n:Nat}(b:eK h (.ref n)=true):(∃ xs,h[n]?=fv (.lst xs))\/ ∃ kvs,h[n]?=fv (.dct kvs):=by
 simp only[eK] at b;split at b
 . exact .inl ⟨_,by assumption⟩
 . exact .inr ⟨_,by assumption⟩
 . cases b
theorem gM{h:PH}{n:Nat}{xs:List PV}(e:h[n]?=fv (.lst xs)):eK h (.ref n)=true:=by simp only[eK,e]
theorem l7{h:PH}{n:Nat}{kvs:List (Key × PV)}(e:h[n]?=fv (.dct kvs)):eK h (.ref n)=true:=by simp only[eK,e]
theorem cm{h X:PH}{n:Nat}{o:PO}(e:h[n]?=fv o):(h++X)[n]?=fv o:=by
 rw[TV ((Tg.mp e).1)];exact e
theorem Th.gr{h:PH}(X:PH){x:PV}(t:Th h x):Th (h++X) x:=t.mono λn b=>by
 rcases lZ b with⟨_,e⟩ | ⟨_,e⟩
 . exact gM (cm e)
 . exact l7 (cm e)
theorem bo{h:PH}{n:Nat}(b:eK h (.ref n)=true):aP [.ref n,.ty "tuple"] h= .ok (.bl false) h/\aP [.ref n,.ty "str"] h= .ok (.bl false) h/\aP [.ref n,.ty "int"] h= .ok (.bl false) h:=by
 have k:tyP h (.ref n)=fv .list\/tyP h (.ref n)=fv .dict:=by
  rcases lZ b with⟨_,e⟩ | ⟨_,e⟩
  . exact .inl (by simp only[tyP,e])
  . exact .inr (by simp only[tyP,e])
 rcases k with k | k<;>simp only[aP,k]<;>exact⟨rfl,rfl,rfl⟩
theorem eq_nil{h:PH}{n m:Nat}{ss:List Str}(e1:h[n]?=fv (.lst (ss.map PV.str)))(e2:h[m]?=fv (.lst []))(ok: ∀ x∈ss,TZ x=true):hU (.ref n) (.ref m) h= .ok (.bl (decide (ss=[]))) h:=by
 have k:=ne_nil e1 e2 ok;unfold i8 at k;unfold hU;cases al:alike (.ref n) (.ref m) h with
 | none=>rw[al] at k;cases k
 | some b =>
  have nd:f9 h (.ref n)=false:=by simp only[f9,e1]
  rw[al,nd] at k
  simp only[VM,if_false] at k
  have:(!b)=(!decide (ss=[])):=by injection k with k;injection k
  show RV.ok (PV.bl b) h=_
  rw[show b=decide (ss=[]) by revert this;cases b<;>cases decide (ss=[])<;>decide]
theorem vU: ∀{ss:List Bool},((ss.map PV.bl).all d7)=true
 | []=>rfl
 | x::t=>by rw[S7,Ub,vU];rfl
theorem wJ{i:Bool}: ∀{ss:List Bool},((ss.map PV.bl).any λz=>vM z (.bl i))=decide (i∈ss)
 | []=>by simp
 | x::t=>by
  rw[S7,UX,wJ];cases x<;>cases i<;>simp[vM]
theorem FT{h:PH}{n:Nat}{ss:List Bool}(e:h[n]?=fv (.lst (ss.map PV.bl))):isIn (.bl false) (.ref n) h=fv (!ss.all id):=by
 have k:decide (false∈ss)= !ss.all id:=by
  clear e
  induction ss with
  | nil=>rfl
  | cons b r ih=>cases b<;>simp[ih]
 unfold P3.isIn;simp only[itemsOf,cH,e,vU,d7,UC,if_true,wJ,k]
theorem OL{h:PH}{n:Nat}{ss:List Bool}(e:h[n]?=fv (.lst (ss.map PV.bl))):fK (.bl false) (.ref n) h= .ok (.bl (!ss.all id)) h:=by unfold fK;rw[FT e]
theorem Ae{h:PH}{n:Nat}{ss:List Bool}(e:h[n]?=fv (.lst (ss.map PV.bl))):cX (.bl false) (.ref n) h= .ok (.bl (ss.all id)) h:=by unfold cX;rw[FT e];simp only[Bool.not_not]
theorem vx{h:PH}{n:Nat}{a:Str}{ss:List Str}(e:h[n]?=fv (.lst (ss.map PV.str))):fK (.str a) (.ref n) h= .ok (.bl (decide (a∈ss))) h:=by
 have:isIn (.str a) (.ref n) h=fv (decide (a∈ss)):=by
  unfold P3.isIn;simp only[itemsOf,cH,e,P3.all_strs,d7,UC,if_true,j3]
 unfold fK;rw[this]
theorem bT{h g:PH}{b:Bool}:P3.settle h (.bl b) (h++g)= .ok (.bl b) h:=hI rfl
theorem gD{h g:PH}{i:Int}:P3.settle h (.int i) (h++g)= .ok (.int i) h:=hI rfl
theorem aA{a b:MS}{c:CF}{e e1:a9}{h h1:PH}(q:a c e h= .ok (.nx e1) h1):ah a b c e h=b c e1 h1:=by rw[jJ,q,bj,wc]
end K03
end
section
open PySem L2 P3
local macro_rules
 | `(tactic| simp? [$ls,*])=> `(tactic| simp? (disch:=omega) only [$ls,*])
 | `(tactic| simp? (disch:= $t) only [$ls,*])=> do
  let xs ← ("↓Fq ↓yT ↓sf sJ ↓Mm HP HU ↓Fu yY ↓Bu BD y0 ↓NS Kj Gu Hs ↓rZ nJ ↓NP ↓qx lQ ↓xo iG ↓Ig DB C9 Dp ↓OJ Li Ic Gm ↓Ga C4 ↓Oj GI H9 HS Hv ↓iw ↓Cf zI AK Ap Bc ↓GD Du ET Dr EE ↓g9 fP ↓qN ↓qE ↓nP kW kZ ↓J6 Fc ↓HF DO ky ↓qz ↓OA ↓L0 ↓Nm KJ Jj E6 EY EW ↓jJ wc iW Ep Fd ↓vB ↓wB sO ↓nT jQ ↓kD mC mn Dd E4 ↓yP vS Ct tZ gy y8 IE JH HQ FW Ac AB ↓Ij Em DR C1 Hj ↓jq gU fQ ↓Bj Bz Ii Hd K0 GA ↓HK EI ↓F5 Dl zM zN ↓Nh II J2 p6 vh qV E1 Es Cy uX bj zH cx DJ cA List.getElem?_cons_zero List.getElem?_cons_succ List.set_cons_zero List.set_cons_succ List.map_cons List.map_nil List.cons_append List.nil_append List.replicate_succ List.replicate_zero List.length_cons List.length_nil D2 Ff bX EH xE Dg Jq HL Ja Hh Er vP vH Di Ec ER zo yp Dm CH rM tM Bm u0 QH j8 lT N5 QN len_T len_K Gh ↓Gi DQ zW CY Cg zU Fv J7 JJ ↓A5 aI aw dj mJ CB Bd FY KP Hf ↓MH Jk Kb ↓LC ↓Mj Il PD PZ Nr List.append_assoc List.length_append CN in_K ↓LK HH ↓Ow GP J4 L9 Nc N1 Om Ho aj decide_true decide_false Bool.not_true Bool.not_false if_true if_false reduceIte ite_self Bool.false_eq_true String.reduceEq String.reduceNe reduceCtorEq Int.reduceEq Int.reduceNe Int.reduceLT Int.reduceLE Int.reduceSub Int.reduceAdd Int.reduceMul Int.reduceToNat Int.reduceNeg".splitOn " ").toArray.mapM λw=>if w.startsWith "↓" then `(Lean.Parser.Tactic.simpLemma| ↓$(Lean.mkIdent (w.drop 1).toName):term) else `(Lean.Parser.Tactic.simpLemma| $(Lean.mkIdent w.toName):term)
  let ys : Lean.TSyntaxArray [`Lean.Parser.Tactic.simpStar,`Lean.Parser.Tactic.simpErase,`Lean.Parser.Tactic.simpLemma] := ls.getElems ++ xs.map (λx=>⟨x.raw⟩)
  `(tactic| simp (disch:= $t) only [$ys,*])
section
set_option maxHeartbeats 1000000
namespace K03
noncomputable def aS(lo hi:Int):PV->Bool
 | .int i=>decide (lo<=i/\i<=hi)
 | _=>false
noncomputable def BO:PV->Bool
 | .int _=>true
 | _=>false
noncomputable def cy(m:Nat):PV->Bool
 | .tup xs=>decide (xs.length=m)
 | _=>false
noncomputable def lets:Str:= "abcdefghijklmnopqrstuvwxyz"
def cV(c:Nat):Bool:= !(UG lets ⟨#[c]⟩ 0 lets.length 1).isEmpty
noncomputable def W5:List Str:=["box", "lock", "lane", "door", "hand"]
noncomputable def Lu:List Str:=["let", "leap", "get", "put", "take", "free", "send", "fetch", "say", "clock", "lot", "hear"]
noncomputable def W6:List Str:=["add", "sub", "mul", "less", "same", "not"]
noncomputable def vK:List Str:=["let", "leap", "get", "put", "take", "free", "send", "fetch", "say", "clock", "lot", "hear", "add", "sub", "mul", "less", "same", "not", "box", "lock", "lane"]
def oB(s:Str):Bool:=decide (s∈W5)||(decide (s∈Lu)||decide (s∈W6))
def aD:PV->Bool
 | .str s=>decide (1<=s.length∧s.length<=8)&&((s.cps.toList.all cV)&& !oB s)
 | _=>false
theorem iY{s:Str}: ∀{kvs:List (Key × PV)}{ws:List Str},(kvs.map λkv:Key × PV=>kv.1)=ws.map WH->(aU kvs (.inr s)).isSome=decide (s∈ws)
 | [],[],_=>rfl
 | [],w::t,e=>by cases e
 | kv::r,[],e=>by cases e
 | kv::r,w::t,e=>by
  obtain⟨k,v⟩:=kv;rw[S7,S7] at e;obtain⟨e1,e2⟩:=aar e;simp only at e1;subst e1;by_cases c:w=s
  . subst c;rw[lT];simp
  . rw[j2 (by simpa using c),iY e2];simp[V1 c]
theorem mK:Ve (S3 "let leap get put take free send fetch say clock lot hear add sub mul less same not box lock lane") (S3 " ")=vK:=by decide +kernel
theorem Cj(s:Str):(decide (s∈vK)||decide (s∈[S3 "door",S3 "hand"]))=oB s:=by
 have a: ∀ x∈vK++[S3 "door",S3 "hand"],x∈W5++(Lu++W6):=by decide +kernel
 have b: ∀ x∈W5++(Lu++W6),x∈vK++[S3 "door",S3 "hand"]:=by decide +kernel
 have c:s∈vK++[S3 "door",S3 "hand"]↔s∈W5++(Lu++W6):=⟨a s,b s⟩
 rw[Tt,Tt,Tt] at c;unfold oB;rw[<- YW,<- YW,<- YW];exact decide_eq_decide.mpr c
theorem pQ{s:Str}{h:PH}(l:s.length<=1000):aO [.str s] h= .ok (.int s.length) h:=by
 show fC s.length _=_;exact ky (by omega)
theorem Oz{s:Str}{h:PH}:rT (.str s) h= .ok ⟨SU,s.cps.toList.map λc=> .str ⟨#[c]⟩⟩ h:=rfl
theorem isJ{s:Str}{h:PH}:mX (.str s) h=true:=rfl
theorem CM{c:Nat}{h:PH}:fK (.str ⟨#[c]⟩) (.str lets) h= .ok (.bl (cV c)) h:=rfl
theorem uZ{c:Nat}{h:PH}:cX (.str ⟨#[c]⟩) (.str lets) h= .ok (.bl (!cV c)) h:=rfl
section
variable{pg:Tb}(T:cv pg)
include T
theorem IJ(j:Nat){h:PH}{x:PV}(t:Th h x):run pg (j+1) "is_whole" [x] h= .ok (.bl (BO x)) h:=by
 rw[run_eq T.uW rfl];cases t with
 | box n b=>simp? [fR,jF,(bo b).2.2,BO]
 | _=>simp? [fR,jF,qG,qZ,zt,qy,zc,AV,rn,BO]
theorem nR(j:Nat){h:PH}{x:PV}(t:Th h x)(lo hi:Int):run pg (j+2) "is_between" [x,.int lo,.int hi] h= .ok (.bl (aS lo hi x)) h:=by
 rw[run_eq T.qS rfl];have w:=IJ T j t;cases t with
 | int i =>
  simp? [eG,gK,w,BO,aS]
  by_cases e:lo<=i
  . simp only[e,if_true,true_and,cx,cA]
  . simp only[e,if_false,false_and,cx,cA,decide_false]
 | _=>simp? [eG,gK,w,BO,aS]
theorem value_eq(j:Nat){h:PH}{x:PV}(t:Th h x):run pg (j+3) "is_value" [x] h= .ok (.bl (aS 0 999 x)) h:=by
 rw[run_eq T.tY rfl];simp? [gQ,oy,nR T j t]
theorem jb(j:Nat){h:PH}{x:PV}(t:Th h x)(lo hi:Int):run pg (j+1) "_law_whole" [x,.int lo,.int hi] h= .ok (.bl (aS lo hi x)) h:=by
 rw[run_eq T.qm rfl];cases t with
 | int i =>
  simp? [de,fH,qG,qZ,aS]
  by_cases e:lo<=i
  . simp only[e,if_true,true_and,cx,cA]
  . simp only[e,if_false,false_and,cx,cA,decide_false]
 | box n b=>simp? [de,fH,(bo b).2.2,aS]
 | _=>simp? [de,fH,zt,qy,zc,AV,rn,aS]
theorem qW(j:Nat){h:PH}{x:PV}(t:Th h x)(m:Nat):run pg (j+1) "is_tuple_of" [x,.int m] h= .ok (.bl (cy m x)) h:=by
 rw[run_eq T.oM rfl];cases t with
 | tup xs l a =>
  simp? [cL,fc,aJ,cy,Int.ofNat_inj]
 | box n b=>simp? [cL,fc,(bo b).1,cy]
 | _=>simp? [cL,fc,dE,dB,c9,dA,cy]
theorem FO(j:Nat){h:PH}(s:Str):run pg (j+1) "is_word" [.str s] h= .ok (.bl (oB s)) h:=by
 rw[run_eq T.xr rfl];have e1: ∀ h,fK (.str s) (.ktup [.str "box",.str "lock",.str "lane",.str "door",.str "hand"]) h= .ok (.bl (decide (s∈W5))) h:=λh=>in_K (ss:=W5);have e2:(aU cj (.inr s)).isSome=decide (s∈Lu):=iY rfl;have e3:(aU bh (.inr s)).isSome=decide (s∈W6):=iY rfl;simp? [iZ,pO,e1,e2,e3];unfold oB;by_cases a:s∈W5
 . simp only[a,if_true,decide_true,ZG,cx,cA]
 . by_cases b:s∈Lu
   . simp only[a,b,if_true,if_false,decide_true,decide_false,ZG,Bool.or_true,cx,cA]
   . simp only[a,b,if_false,decide_false,aas,cx,cA]
theorem j0(j:Nat){h:PH}{x:PV}(t:Th h x):run pg (j+2) "is_name" [x] h= .ok (.bl (aD x)) h:=by
 rw[run_eq T.xR rfl];cases t with
 | str s l o =>
  by_cases e:1<=s.length/\s.length<=8
  . have e1:(1:Int)<=(s.length:Int):=by omega
    have e2:(s.length:Int)<=8:=by omega
    have z:s.cps.toList.length<=8:=e.2;have lc: ∀(g:CF)(E:a9),P3.eW ⟨SU,s.cps.toList.map λc=> .str ⟨#[c]⟩⟩ (aY 1 (gN 1) ax (ai fK (ae 1) (eS "abcdefghijklmnopqrstuvwxyz")) g [fv (.str s)]) (s.cps.toList.map λc=> .str ⟨#[c]⟩) [] h= .ok ((s.cps.toList.map cV).map PV.bl) h:=λg E=>by
     refine(cP (α :=Nat) rfl s.cps.toList [] (f:=λc=>fv (.bl (cV c))) (λc _=>?_) (by simp only[Tj];omega)).trans ?_
     . have si: ∀ h,fK (.str ⟨#[c]⟩) (.str "abcdefghijklmnopqrstuvwxyz") h= .ok (.bl (cV c)) h:=λh=>CM;simp? [si]
     . rw[TB,TJ,Up];rfl
    have al:fw [.ref h.length] (h++[.lst ((s.cps.toList.map cV).map PV.bl)])= .ok (.bl (s.cps.toList.all cV)) (h++[.lst ((s.cps.toList.map cV).map PV.bl)]):=by
     rw[pL (bs:=s.cps.toList.map cV) aI];simp
    simp? [dI,fJ,cD,pQ l,e1,e2,Oz,lc _ [],al,FO T j s];simp only[aD,e,and_self,decide_true,Us];cases s.cps.toList.all cV<;>simp? [FO T j s,bT,Us,Uc]
  . have n:aD (.str s)=false:=by simp only[aD,e,decide_false,Uc]
    rw[n];by_cases e1:(1:Int)<=(s.length:Int)
    . have e2: ¬ (s.length:Int)<=8:=by omega
      simp? [dI,fJ,cD,pQ l,e1,e2]
    . simp? [dI,fJ,cD,pQ l,e1]
 | box n b=>simp? [dI,fJ,(bo b).2.1,aD]
 | _=>simp? [dI,fJ,vi,uv,uY,vt,aD]
theorem nH(j:Nat){h:PH}{x:PV}(t:Th h x):run pg (j+1) "_law_is_name" [x] h= .ok (.bl (aD x)) h:=by
 rw[run_eq T.mE rfl];cases t with
 | str s l o =>
  have sp: ∀ h,oz (.str "let leap get put take free send fetch say clock lot hear add sub mul less same not box lock lane") [.str " "] h= .ok (.ref h.length) (h++[.lst (vK.map PV.str)]):=λh=>by
   rw [Et (by decide +kernel) (by decide +kernel) (by rw [mK];decide),mK]
  have dh: ∀ h,fK (.str s) (.tup [.str "door",.str "hand"]) h= .ok (.bl (decide (s∈[S3 "door",S3 "hand"]))) h:=λh=>CN (ss:=["door", "hand"])
  have i1:fK (.str s) (.ref h.length) (h++[.lst (vK.map PV.str)])= .ok (.bl (decide (s∈vK))) (h++[.lst (vK.map PV.str)]):=vx aI
  have we:=Cj s
  by_cases c:oB s=true
  . have n:aD (.str s)=false:=by simp only[aD,c,WK,YF]
    rw[n];by_cases a:s∈vK
    . simp? [bc,bI,cD,lb isJ,sp,bT,i1,a]
    . have b:s∈[S3 "door",S3 "hand"]:=by
       rw[c] at we;simpa only[a,decide_false,aas,decide_eq_true_eq] using we
      simp? [bc,bI,cD,lb isJ,sp,bT,i1,a,dh,b]
  . have c':oB s=false:=by simpa using c
    rw[c',Bool.or_eq_false_iff,decide_eq_false_iff_not,decide_eq_false_iff_not] at we;obtain⟨a,b⟩:=we;by_cases e1:(0:Int) < (s.length:Int)
    . by_cases e2:(s.length:Int) < 9
      . let fs:List Str:=(s.cps.toList.filter λc=> !cV c).map λc=>⟨#[c]⟩
        have z:s.cps.toList.length<=8:=by have:s.cps.toList.length=s.length:=rfl;omega
        have lc: ∀(g:CF),P3.eW ⟨SU,s.cps.toList.map λc=> .str ⟨#[c]⟩⟩ (aY 1 (gN 2) (ao (ai cX (ae 2) (eS "abcdefghijklmnopqrstuvwxyz"))) (ae 2) g [fv (.str s),fv (.str "let leap get put take free send fetch say clock lot hear add sub mul less same not box lock lane")]) (s.cps.toList.map λc=> .str ⟨#[c]⟩) [] (h++[.lst (vK.map PV.str)])= .ok (fs.map PV.str) (h++[.lst (vK.map PV.str)]):=λg=>by
         refine(cP (α :=Nat) rfl s.cps.toList [] (f:=λc=>if cV c=true then SU else fv (.str ⟨#[c]⟩)) (λc _=>?_) (by simp only[Tj];omega)).trans ?_
         . have si: ∀ h,cX (.str ⟨#[c]⟩) (.str "abcdefghijklmnopqrstuvwxyz") h= .ok (.bl (!cV c)) h:=λh=>uZ;cases q:cV c<;>simp? [si,q]
         . rw[TB];have k: ∀ cs:List Nat,(cs.filterMap λc=>if cV c=true then SU else fv (PV.str ⟨#[c]⟩))=((cs.filter λc=> !cV c).map λc=>(⟨#[c]⟩:Str)).map PV.str:=λcs=>by
            induction cs with
            | nil=>rfl
            | cons c r ih=>rw[Wa,Z0,ih];cases cV c<;>rfl
           rw[k]
        have fo: ∀ y∈fs,TZ y=true:=λy my=>by
         obtain⟨c,mc,rfl⟩:=TR.mp my;have o':s.cps.toList.all (λc=>decide (c < 0x110000))=true:=by rw[Array.all_toList];exact o
         have:=Uk.mp o' c (Ym.mp mc).1;simpa [TZ] using this
        have fe:decide (fs=[])=s.cps.toList.all cV:=by
         have k: ∀ cs:List Nat,decide (((cs.filter λc=> !cV c).map λc=>(⟨#[c]⟩:Str))=[])=cs.all cV:=λcs=>by
          induction cs with
          | nil=>rfl
          | cons c r ih=>rw[Z0,Ub,<- ih];cases cV c<;>simp
         exact k _
        have eq:hU (.ref (h.length+1)) (.ref (h.length+(0+1+1))) (h++([.lst (vK.map PV.str),.lst (fs.map PV.str),.lst []]))= .ok (.bl (s.cps.toList.all cV)) (h++([.lst (vK.map PV.str),.lst (fs.map PV.str),.lst []])):=by
         rw[eq_nil (ss:=fs) (by rw[aw];rfl) (by rw[aw];rfl) fo,fe]
        have n:aD (.str s)=s.cps.toList.all cV:=by
         have:1<=s.length/\s.length<=8:=by omega
         simp only[aD,this,c',and_self,decide_true,Us,V5,Ze]
        rw[n];simp? [bc,bI,cD,lb isJ,sp,bT,i1,a,dh,b,pQ l,e1,e2,Oz,lc,eq]
      . have n:aD (.str s)=false:=by
         have: ¬ (1<=s.length/\s.length<=8):=by omega
         simp only[aD,this,decide_false,Uc]
        rw[n];simp? [bc,bI,cD,lb isJ,sp,bT,i1,a,dh,b,pQ l,e1,e2]
    . have n:aD (.str s)=false:=by
       have: ¬ (1<=s.length/\s.length<=8):=by omega
       simp only[aD,this,decide_false,Uc]
      rw[n];simp? [bc,bI,cD,lb isJ,sp,bT,i1,a,dh,b,pQ l,e1]
 | box n b=>simp? [bc,bI,(bo b).2.1,aD]
 | _=>simp? [bc,bI,vi,uv,uY,vt,aD]
end
noncomputable def Od:List Str:=["add", "sub", "mul", "less", "same"]
def il(s:Str):Nat:=if s= "not" then 1 else if s∈Od then 2 else 0
noncomputable def fD(f:PV->Bool):List PV->Bool
 | [x]=>f x
 | _=>false
noncomputable def fN:List PV->Option Str
 | .str w::_=>fv w
 | _=>SU
noncomputable def parts:PV->List PV
 | .tup xs=>xs
 | _=>[]
def sw:Nat->PV->Nat
 | 0,_=>0
 | k+1,x=>match fN (parts x) with
  | none=>0
  | some w=>if w= "num" then(if fD (aS 0 999) (parts x).tail=true then 1 else 0) else if w= "of" then(if fD aD (parts x).tail=true then 1 else 0)
   else if il w=0\/(parts x).tail.length≠il w then 0 else if 0∈(parts x).tail.map (sw k) then 0 else 1+((parts x).tail.map (sw k)).sum
def li:Nat->PV->Nat
 | 0,_=>99
 | k+1,x=>match fN (parts x) with
  | none=>99
  | some w=>if w= "num" /\fD (aS 0 999) (parts x).tail=true then 1 else if w= "of" /\fD aD (parts x).tail=true then 1
   else if il w=0\/(parts x).tail.length≠il w then 99 else 1+((parts x).tail.map (li k)).sum
theorem FA: ∀(k:Nat)(x:PV),(sw k x=0->99<=li k x)/\(sw k x≠0->li k x=sw k x)
 | 0,_=>⟨λ_=>Te _,λe=>absurd rfl e⟩
 | k+1,x=>by
  unfold sw li;cases fN (parts x) with
  | none=>exact⟨λ_=>Te _,λe=>absurd rfl e⟩
  | some w =>
   have n0:il "num" =0:=by decide +kernel
   have o0:il "of" =0:=by decide +kernel
   have ne:(S3 "of")≠ "num" :=by decide +kernel
   simp only
   by_cases a:w= "num"
   . subst a;have ne': ¬ (S3 "num" =S3 "of"):=V1 ne;simp only[if_true,true_and,n0,true_or,ne',false_and,if_false];split<;>simp
   . by_cases b:w= "of"
     . subst b;simp only[ne,if_true,if_false,true_and,false_and,o0,true_or];split<;>simp
     . simp only[a,b,false_and,if_false];by_cases c:il w=0\/(parts x).tail.length≠il w
       . rw[if_pos c,if_pos c];exact⟨λ_=>Te _,λe=>absurd rfl e⟩
       . rw[if_neg c,if_neg c];have all: ∀ ys:List PV,(0∈ys.map (sw k)->99<=(ys.map (li k)).sum)/\(0 ∉ ys.map (sw k)->(ys.map (li k)).sum=(ys.map (sw k)).sum):=λys=>by
          induction ys with
          | nil=>simp
          | cons y r ih =>
           obtain⟨i1,i2⟩:=ih
           obtain⟨l1,l2⟩:=FA k y
           simp only[S7,Tq,WL,not_or]
           refine⟨?_,λm=>?_⟩
           . rintro (m | m)
             . have:=l1 m.symm;omega
             . have:=i1 m;omega
           . rw[l2 (V1 m.1),i2 m.2]
         obtain⟨a1',a2'⟩:=all (parts x).tail;by_cases m:0∈(parts x).tail.map (sw k)
         . simp only[m,if_true];exact⟨λ_=>by have:=a1' m;omega,λe=>absurd rfl e⟩
         . simp only[m,if_false];exact⟨λe=>by omega,λ_=>by rw[a2' m]⟩
def oW(x:PV):Bool:=decide (1<=sw 5 x/\sw 5 x<=12)
theorem HV(x:PV):decide (li 5 x<=12)=oW x:=by
 obtain⟨a,b⟩:=FA 5 x;unfold oW;by_cases z:sw 5 x=0
 . have:=a z;rw[decide_eq_decide];omega
 . have:=b z;rw[decide_eq_decide];omega
theorem pZ{s:Str}(n:il s≠0):aU bh (.inr s)=fv (.int (il s:Nat)):=by
 have:s∈W6:=by
  unfold il at n;by_cases e:s= "not"
  . subst e;decide +kernel
  . rw[if_neg e] at n;by_cases m:s∈Od
    . exact(show ∀ x∈Od,x∈W6 by decide +kernel) s m
    . rw[if_neg m] at n;exact absurd rfl n
 have k: ∀ x∈W6,aU bh (.inr x)=fv (.int (il x:Nat)):=by
  simp only[W6,S6];refine⟨?_,?_,?_,?_,?_,?_,λ_ m=>nomatch m⟩<;>simp[bh,aU,aj,il,Od]
 exact k s this
theorem tN{s:Str}(n:il s=0):decide (s∈W6)=false:=by
 rw[decide_eq_false_iff_not];intro m;exact absurd n ((show ∀ x∈W6,il x≠0 by decide +kernel) s m)
noncomputable def dS:List (Key × PV):=[(.inr "add",.int 3),(.inr "sub",.int 3),(.inr "mul",.int 3),(.inr "less",.int 3),(.inr "same",.int 3),(.inr "not",.int 2)]
theorem Hw(s:Str):(aU dS (.inr s)).getD (.int 0)= .int (if il s=0 then 0 else(il s:Nat)+1):=by
 by_cases n:il s=0
 . rw[if_pos n];have:(aU dS (.inr s)).isSome=false:=(iY (ws:=W6) rfl).trans (tN n);cases q:aU dS (.inr s) with
   | none=>rfl
   | some v=>rw[q] at this;cases this
 . rw[if_neg n];have:s∈W6:=by
    by_cases m:s∈W6
    . exact m
    . exfalso;have z:=(iY (kvs:=bh) (ws:=W6) (s:=s) rfl)
      rw[pZ n] at z;simp[m] at z
   have k: ∀ x∈W6,(aU dS (.inr x)).getD (.int 0)= .int ((il x:Nat)+1):=by
    simp only[W6,S6];refine⟨?_,?_,?_,?_,?_,?_,λ_ m=>nomatch m⟩<;>simp[dS,aU,aj,il,Od]
   exact k s this
noncomputable def mB(s:Str):PV->Bool
 | .str w=>decide (w=s)
 | _=>false
theorem Ah{h:PH}{x:PV}(t:Th h x)(s:Str):fW x (.str s) h= .ok (.bl (mB s x)) h:=by
 cases t with
 | str w l o=>exact vP
 | box n b=>unfold fW;rw[if_pos b];rfl
 | tup xs l a=>rfl
 | non=>simp[fW,eK,hU,alike,iE,mB]
 | int i=>simp[fW,eK,hU,alike,iE,mB]
 | bl b=>simp[fW,eK,hU,alike,iE,mB]
theorem ic{h:PH}{xs:List PV}:fW (.tup xs) (.tup []) h= .ok (.bl xs.isEmpty) h:=rfl
theorem iN{h:PH}{a b:Int}:fW (.int a) (.int b) h= .ok (.bl (decide (a=b))) h:=vH
theorem Dk{k:Nat}{xs:List PV}(e:fN xs=SU):sw (k+1) (.tup xs)=0:=by
 unfold sw;simp only[parts,e]
theorem ki{k:Nat}{w:Str}{ys:List PV}:sw (k+1) (.tup (.str w::ys))=if w= "num" then(if fD (aS 0 999) ys=true then 1 else 0) else if w= "of" then(if fD aD ys=true then 1 else 0) else if il w=0\/ys.length≠il w then 0 else if 0∈ys.map (sw k) then 0 else 1+(ys.map (sw k)).sum:=rfl
theorem Th.all{h:PH}{xs:List PV}(t:Th h (.tup xs)): ∀ x∈xs,Th h x:=by cases t;assumption
section
variable{pg:Tb}(T:cv pg)
include T
theorem wm: ∀(k j:Nat){h:PH}{x:PV}(_:Th h x)(d:Int),k<=5->d=6 - k->run pg (j+k+4) "sums_within" [x,.int d] h= .ok (.int (sw k x:Nat)) h
 | 0,j,h,x,t,d,_,e=>by
  have g:(5:Int) < d:=by omega
  rw[run_eq T.ji rfl];simp? [aH,aM,g];rfl
 | k+1,j,h,x,t,d,k5,e=>by
  have g: ¬ (5:Int) < d:=by omega
  rw[run_eq T.ji rfl];cases t with
  | box n b =>
   simp? [aH,aM,g,(bo b).1]
   rfl
  | tup xs l a =>
   cases xs with
   | nil =>
    simp? [aH,aM,g,aJ,ic,List.isEmpty_nil]
    rfl
   | cons y ys =>
    have ty:=a y S8
    have tys: ∀ z∈ys,Th h z:=λz m=>a z (S9 _ m)
    have t2: ∀ j,run pg (j+1) "is_tuple_of" [.tup (y::ys),.int 2] h= .ok (.bl (cy 2 (.tup (y::ys)))) h:=λj=>qW T j (.tup _ l a) 2
    have q1:=Ah ty "num"
    have q2:=Ah ty "of"
    have isS:aP [y,.ty "str"] h= .ok (.bl (fN (y::ys)).isSome) h:=by
     cases ty with
     | box n b=>exact(bo b).2.1
     | _=>rfl
    cases hd:fN (y::ys) with
    | none =>
     have q1':mB "num" y=false:=by cases y<;>first | rfl | cases hd
     have q2':mB "of" y=false:=by cases y<;>first | rfl | cases hd
     rw[Dk hd]
     simp? [aH,aM,g,aJ,ic,Uv,q1,q2,q1',q2',isS,hd,Vu]
     rfl
    | some w =>
     obtain rfl:y= .str w:=by cases y<;>first | (cases hd;rfl) | cases hd
     rw[ki]
     have b2: ∀(z1 z2:PV)(r:List PV),cy 2 (.tup [z1])=false/\cy 2 (.tup [z1,z2])=true/\ ∀ z3,cy 2 (.tup (z1::z2::z3::r))=false:=λz1 z2 r=>⟨rfl,rfl,λz3=>by simp[cy]⟩
     by_cases e1:w= "num"
     . have q1':mB "num" (.str w)=true:=by simp[mB,e1]
       rw[if_pos e1];rcases ys with _ | ⟨z,_ | ⟨z2,r⟩⟩
       . simp? [aH,aM,g,aJ,ic,Uv,q1,q1',t2,(b2 (.str w) .non []).1];rfl
       . have tz:=value_eq T (j+(k+1)) (tys z S8);simp? [aH,aM,g,aJ,ic,Uv,q1,q1',t2,(b2 (.str w) z []).2.1,tz];cases q:aS 0 999 z<;>simp? [fD,q]<;>rfl
       . simp? [aH,aM,g,aJ,ic,Uv,q1,q1',t2,(b2 (.str w) z r).2.2 z2];rfl
     . have q1':mB "num" (.str w)=false:=by simp[mB,e1]
       rw[if_neg e1];by_cases e2:w= "of"
       . have q2':mB "of" (.str w)=true:=by simp[mB,e2]
         rw[if_pos e2];rcases ys with _ | ⟨z,_ | ⟨z2,r⟩⟩
         . simp? [aH,aM,g,aJ,ic,Uv,q1,q1',q2,q2',t2,(b2 (.str w) .non []).1];rfl
         . have tz:=j0 T (j+(k+1)+1) (tys z S8);simp? [aH,aM,g,aJ,ic,Uv,q1,q1',q2,q2',t2,(b2 (.str w) z []).2.1,tz];cases q:aD z<;>simp? [fD,q]<;>rfl
         . simp? [aH,aM,g,aJ,ic,Uv,q1,q1',q2,q2',t2,(b2 (.str w) z r).2.2 z2];rfl
       . have q2':mB "of" (.str w)=false:=by simp[mB,e2]
         rw[if_neg e2];have km:(aU bh (.inr w)).isSome=decide (w∈W6):=iY rfl;have isS':aP [.str w,.ty "str"] h= .ok (.bl true) h:=rfl;by_cases n:il w=0
         . rw[if_pos (.inl n)];have km':=km.trans (tN n);simp? [aH,aM,g,aJ,ic,Uv,q1,q1',q2,q2',isS',km'];rfl
         . have sp:=pZ n;have km':(aU bh (.inr w)).isSome=true:=by rw[sp];rfl
           by_cases m:ys.length=il w
           . have m':((ys.length:Int)+1=(il w:Int)+1):=by omega
             rw[if_neg (by rintro (c | c);exact n c;exact c m)];have lc:P3.eW ⟨SU,ys⟩ (aY 1 (gN 4) ax (af "sums_within" (aa (ae 4) (aa (ai ak (ae 1) (eI 1)) ag))) (run pg (j+(k+1)+3)) [fv (.tup (.str w::ys)),fv (.int d),fv (.str w),SU]) ys [] h= .ok ((ys.map λz=>(sw k z:Int)).map PV.int) h:=by
              refine(d9 ys [] (f:=λz=>fv (.int (sw k z:Nat))) (λz mz=>?_) (by simp only[S2,Tj] at l ⊢; omega)).trans ?_
              . have ih:=wm k j (tys z mz) (d+1) (by omega) (by omega);have ih':run pg (j+(k+1)+3) "sums_within" [z,.int (d+1)] h= .ok (.int (sw k z:Nat)) h:=by rw[show j+(k+1)+3=j+k+4 by omega];exact ih
                simp? [ih']
              . rw[TB,TJ,Up];rfl
             have zi:fK (.int 0) (.ref h.length) (h++[.lst ((ys.map λz=>(sw k z:Int)).map PV.int)])= .ok (.bl (decide (0∈ys.map (sw k)))) (h++[.lst ((ys.map λz=>(sw k z:Int)).map PV.int)]):=by
              rw[NX (ss:=ys.map λz=>(sw k z:Int)) aI];have:(0:Int)∈(ys.map λz=>(sw k z:Int))↔0∈ys.map (sw k):=by simp[TR]
              rw[decide_eq_decide.mpr this]
             have sm:t6 [.ref h.length] (h++[.lst ((ys.map λz=>(sw k z:Int)).map PV.int)])= .ok (.int ((ys.map (sw k)).sum:Nat)) (h++[.lst ((ys.map λz=>(sw k z:Int)).map PV.int)]):=by
              rw[FI (bs:=ys.map λz=>(sw k z:Int)) aI];have: ∀ zs:List PV,(zs.map λz=>(sw k z:Int)).sum=((zs.map (sw k)).sum:Nat):=λzs=>by
               induction zs with
               | nil=>rfl
               | cons z r ih=>simp only[S7,WL,ih];omega
              rw[this]
             by_cases c:0∈ys.map (sw k)
             . rw[if_pos c];simp? [aH,aM,g,aJ,ic,Uv,q1,q1',q2,q2',isS',sp,Uy,TF,Ti,m',uP,lc,zi,c,gD]
             . rw[if_neg c];simp? [aH,aM,g,aJ,ic,Uv,q1,q1',q2,q2',isS',sp,Uy,TF,Ti,m',uP,lc,zi,c,sm,gD]
           . have m': ¬ ((ys.length:Int)+1=(il w:Int)+1):=by omega
             rw[if_pos (.inr m)];simp? [aH,aM,g,aJ,ic,Uv,q1,q1',q2,q2',isS',sp,Uy,TF,Ti,m']
  | _ =>
   simp? [aH,aM,g,dE,dB,c9,dA]
   rfl
theorem Jt(j:Nat){h:PH}{x:PV}(t:Th h x):run pg (j+10) "is_sum" [x] h= .ok (.bl (oW x)) h:=by
 rw[run_eq T.By rfl];have k:=wm T 5 j t 1 (by omega) (by omega);unfold oW;by_cases c:1<=sw 5 x
 . have c':(1:Int)<=(sw 5 x:Nat):=by omega
   have d:decide ((sw 5 x:Int)<=12)=decide (sw 5 x<=12):=decide_eq_decide.mpr (by omega);simp? [iJ,nU,k,c,c',d,true_and]
 . have c': ¬ (1:Int)<=(sw 5 x:Nat):=by omega
   simp? [iJ,nU,k,c,c',false_and]
end
theorem CO{k:Nat}{xs:List PV}(e:fN xs=SU):li (k+1) (.tup xs)=99:=by
 unfold li;simp only[parts,e]
theorem Cm{k:Nat}{w:Str}{ys:List PV}:li (k+1) (.tup (.str w::ys))=if w= "num" /\fD (aS 0 999) ys=true then 1 else if w= "of" /\fD aD ys=true then 1 else if il w=0\/ys.length≠il w then 99 else 1+(ys.map (li k)).sum:=rfl
theorem vZ{y:PV}{ys:List PV}{h:PH}(ty:Th h y)(tys: ∀ z∈ys,Th h z){s:Str}{f:PV->Bool}{c:CF}{E:a9}{m:ME}(hm: ∀ z,ys=[z]->m c (fv (.tup (y::ys))::E) h= .ok (.bl (f z)) h) :
  eJ (ao (ai fW (eX 0 0) (eS s))) (eJ (ao (ai fW (eB aO (a1 (ae 0))) (eI 2))) (ao m)) c (fv (.tup (y::ys))::E) h= .ok (mB s y&&fD f ys) h:=by
 have q1:=Ah ty s;cases c1:mB s y with
 | false=>simp? [q1,c1,Uc]
 | true =>
  rcases ys with _ | ⟨z,_ | ⟨z2,r⟩⟩
  . simp? [q1,c1,iN,fD,Us,TF,Ti]
  . simp? [q1,c1,iN,fD,Us,hm z rfl,TF,Ti]
  . have: ¬ (((r.length:Int)+1+1+1:Int)=2):=by omega
    simp? [q1,c1,iN,fD,Us,this,TF,Ti]
theorem ue{h:PH}:B6 h.length [(.inr "add",.int 3),(.inr "sub",.int 3),(.inr "mul",.int 3),(.inr "less",.int 3),(.inr "same",.int 3),(.inr "not",.int 2)] (h++[.dct []])= .ok (.ref h.length) (h++[.dct dS]):=by
 have e:bp [] dS=dS:=by simp[bp,dS,fA,aj]
 refine(lR (kvs:=dS) (by decide)).trans ?_;rw[e]
section
variable{pg:Tb}(T:cv pg)
include T
theorem sR: ∀(k j:Nat){h:PH}{x:PV}(_:Th h x)(d:Int),k<=5->d=6 - k->run pg (j+k+2) "_law_sums_in" [x,.int d] h= .ok (.int (li k x:Nat)) h
 | 0,j,h,x,t,d,_,e=>by
  have g:(5:Int) < d:=by omega
  rw[run_eq T.iy rfl];cases t with
  | box n b=>simp? [aL,aV,g,(bo b).1];rfl
  | tup xs l a =>
   cases xs with
   | nil=>simp? [aL,aV,g,aJ,iN];rfl
   | cons y ys =>
    have: ¬ ((ys.length:Int)+1=0):=by omega
    simp? [aL,aV,g,aJ,iN,this,TF,Ti];rfl
  | _=>simp? [aL,aV,g,dE,dB,c9,dA];rfl
 | k+1,j,h,x,t,d,k5,e=>by
  have g: ¬ (5:Int) < d:=by omega
  rw[run_eq T.iy rfl];cases t with
  | box n b=>simp? [aL,aV,g,(bo b).1];rfl
  | tup xs l a =>
   cases xs with
   | nil=>simp? [aL,aV,g,aJ,iN];rfl
   | cons y ys =>
    have ty:=a y S8
    have tys: ∀ z∈ys,Th h z:=λz m=>a z (S9 _ m)
    have l0: ¬ ((ys.length:Int)+1=0):=by omega
    have isS: ∀ g,aP [y,.ty "str"] (h++g)= .ok (.bl (fN (y::ys)).isSome) (h++g):=λg=>by
     cases ty.gr g with
     | box n b=>exact(bo b).2.1
     | _=>rfl
    have A1: ∀ E,eJ (ao (ai fW (eX 0 0) (eS "num"))) (eJ (ao (ai fW (eB aO (a1 (ae 0))) (eI 2))) (ao (af "_law_whole" (a3 (eX 0 1) (eI 0) (eI 999))))) (run pg (j+(k+1)+1)) (fv (.tup (y::ys))::E) h= .ok (mB "num" y&&fD (aS 0 999) ys) h:=λE=>vZ ty tys λz ez=>by
     subst ez;have tz:=jb T (j+(k+1)) (tys z S8) 0 999;simp? [tz]
    have A2: ∀ E,eJ (ao (ai fW (eX 0 0) (eS "of"))) (eJ (ao (ai fW (eB aO (a1 (ae 0))) (eI 2))) (ao (af "_law_is_name" (a1 (eX 0 1))))) (run pg (j+(k+1)+1)) (fv (.tup (y::ys))::E) h= .ok (mB "of" y&&fD aD ys) h:=λE=>vZ ty tys λz ez=>by
     subst ez;have tz:=nH T (j+(k+1)) (tys z S8);simp? [tz]
    cases hd:fN (y::ys) with
    | none =>
     have q1':mB "num" y=false:=by cases y<;>first | rfl | cases hd
     have q2':mB "of" y=false:=by cases y<;>first | rfl | cases hd
     rw[CO hd]
     rw[q1',Uc] at A1
     rw[q2',Uc] at A2
     have is':=isS []
     simp? [aL,aV,g,aJ,iN,l0,TF,Ti,↓A1,↓A2,g8,jm,jy,gJ,jw,jt,ue,isS,hd,Vu,gD]
    | some w =>
     obtain rfl:y= .str w:=by cases y<;>first | (cases hd;rfl) | cases hd
     rw[Cm]
     have Q1:(mB "num" (.str w)&&fD (aS 0 999) ys)=decide (w= "num" /\fD (aS 0 999) ys=true):=by
      simp only[mB,aae,Y8]
     have Q2:(mB "of" (.str w)&&fD aD ys)=decide (w= "of" /\fD aD ys=true):=by
      simp only[mB,aae,Y8]
     rw[Q1] at A1
     rw[Q2] at A2
     by_cases e1:w= "num" /\fD (aS 0 999) ys=true
     . rw[if_pos e1];rw[decide_eq_true e1] at A1;simp? [aL,aV,g,aJ,iN,l0,TF,Ti,↓A1]
     . rw[if_neg e1];rw[decide_eq_false e1] at A1;by_cases e2:w= "of" /\fD aD ys=true
       . rw[if_pos e2];rw[decide_eq_true e2] at A2;simp? [aL,aV,g,aJ,iN,l0,TF,Ti,↓A1,↓A2]
       . rw[if_neg e2];rw[decide_eq_false e2] at A2;have ds:=Hw w;by_cases c:il w=0\/ys.length≠il w
         . rw[if_pos c];have ne: ¬ ((if il w=0 then 0 else((il w:Nat):Int)+1)=(ys.length:Int)+1):=by split<;>omega
           simp? [aL,aV,g,aJ,cD,iN,l0,TF,Ti,↓A1,↓A2,g8,jm,jy,gJ,jw,jt,ue,ds,ne,gD]
         . rw[if_neg c];have ne:(if il w=0 then 0 else((il w:Nat):Int)+1)=(ys.length:Int)+1:=by split<;>omega
           have lc:P3.eW ⟨SU,ys⟩ (aY 1 (gN 3) ax (af "_law_sums_in" (aa (ae 3) (aa (ai ak (ae 1) (eI 1)) ag))) (run pg (j+(k+1)+1)) [fv (.tup (.str w::ys)),fv (.int d),fv (.ref h.length)]) ys [] (h++[.dct dS])= .ok ((ys.map λz=>(li k z:Int)).map PV.int) (h++[.dct dS]):=by
            refine(d9 ys [] (f:=λz=>fv (.int (li k z:Nat))) (λz mz=>?_) (by simp only[S2,Tj] at l ⊢; omega)).trans ?_
            . have ih:=sR k j ((tys z mz).gr [.dct dS]) (d+1) (by omega) (by omega);have ih':run pg (j+(k+1)+1) "_law_sums_in" [z,.int (d+1)] (h++[.dct dS])= .ok (.int (li k z:Nat)) (h++[.dct dS]):=by rw[show j+(k+1)+1=j+k+2 by omega];exact ih
              simp? [ih']
            . rw[TB,TJ,Up];rfl
           have sm:t6 [.ref (h.length+1)] (h++[.dct dS,.lst ((ys.map λz=>(li k z:Int)).map PV.int)])= .ok (.int ((ys.map (li k)).sum:Nat)) (h++[.dct dS,.lst ((ys.map λz=>(li k z:Int)).map PV.int)]):=by
            rw[FI (bs:=ys.map λz=>(li k z:Int)) (by rw[aw];rfl)];have: ∀ zs:List PV,(zs.map λz=>(li k z:Int)).sum=((zs.map (li k)).sum:Nat):=λzs=>by
             induction zs with
             | nil=>rfl
             | cons z r ih=>simp only[S7,WL,ih];omega
            rw[this]
           simp? [aL,aV,g,aJ,cD,iN,l0,TF,Ti,↓A1,↓A2,g8,jm,jy,gJ,jw,jt,ue,ds,ne,uP,lc,sm,gD]
  | _=>simp? [aL,aV,g,dE,dB,c9,dA];rfl
theorem Ey(j:Nat){h:PH}{x:PV}(t:Th h x):run pg (j+8) "_law_is_sum" [x] h= .ok (.bl (oW x)) h:=by
 rw[run_eq T.oU rfl];have k:=sR T 5 j t 1 (by omega) (by omega);have d:decide ((li 5 x:Int)<=12)=oW x:=(decide_eq_decide.mpr (by omega)).trans (HV x);simp? [eZ,jj,k,d]
end
noncomputable def pr(q:Str × PV):PV:= .tup [.str q.1,q.2]
structure Bn where
 b:List (Str × PV)
 l:List Str
 n:List Str
 d:List Str
 a:List (Str × PV)
def Bn.v(p:Bn):PV:= .tup [.tup (p.b.map pr),.tup (p.l.map PV.str),.tup (p.n.map PV.str),.tup (p.d.map PV.str),.tup (p.a.map pr)]
def Bn.nm(p:Bn)(s:Str):List Str:=if s= "box" then p.b.map (·.1) else if s= "hand" then p.a.map (·.1) else if s= "lock" then p.l else if s= "lane" then p.n else p.d
def Bn.fC(p:Bn):Prop:=p.b.length<=4/\p.l.length<=4/\p.n.length<=4/\p.d.length<=4/\p.a.length<=4
theorem kC{qs:List (Str × PV)}{m:Nat}{g:CF}{e:a9}{h:PH}{it:jO}(hf:it.eU h=true)(hm:e.length=m)(hq:qs.length<=1000000):P3.eW it (aY 1 (gN m) ax (eX m 0) g e) (qs.map pr) [] h= .ok ((qs.map (·.1)).map PV.str) h:=by
 refine(cP (α :=Str × PV) hf qs [] (f:=λq=>fv (.str q.1)) (λq _=>?_) (by simp only[Tj];omega)).trans ?_
 . have e1:(e++S4 1 SU).set m (fv (pr q))=e++[fv (pr q)]:=by
    subst hm;simp[S4]
   have e2:(e++[fv (pr q)])[m]?=fv (fv (pr q)):=by subst hm;simp
   simp(disch:=omega) only[p6,gy,e1,bj,vh,qN,qV,sf,e2];simp only[sJ,pr,zo,uX,bj]
 . rw[TB,TJ,Up];rfl
section
variable{pg:Tb}(T:cv pg)
include T
theorem mW(j:Nat)(h:PH)(p:Bn)(pf:p.fC){s:Str}(ms:s∈W5):run pg (j+1) "names_of" [p.v,.str s] h= .ok (.ref h.length) (h++[.lst ((p.nm s).map PV.str)]):=by
 have A: ∀ s∈W5,dC (run pg j) [fv p.v,fv (.str s),SU] h= .ok (.rt (.ref h.length)) (h++[.lst ((p.nm s).map PV.str)]):=by
  have ik: ∀ s∈W5,yv (.ktup [.str "box",.str "lock",.str "lane",.str "door",.str "hand"]) [.str s] h= .ok (.int (W5.idxOf s:Nat)) h:=λs m=>Jw (ss:=W5) m;simp only[W5,S6] at ik ⊢;obtain⟨i0,i1,i2,i3,i4,_⟩:=ik;rw[show((Yk (S3 "box") [S3 "box",S3 "lock",S3 "lane",S3 "door",S3 "hand"]:Nat):Int)=0 by decide +kernel] at i0;rw[show((Yk (S3 "lock") [S3 "box",S3 "lock",S3 "lane",S3 "door",S3 "hand"]:Nat):Int)=1 by decide +kernel] at i1;rw[show((Yk (S3 "lane") [S3 "box",S3 "lock",S3 "lane",S3 "door",S3 "hand"]:Nat):Int)=2 by decide +kernel] at i2;rw[show((Yk (S3 "door") [S3 "box",S3 "lock",S3 "lane",S3 "door",S3 "hand"]:Nat):Int)=3 by decide +kernel] at i3;rw[show((Yk (S3 "hand") [S3 "box",S3 "lock",S3 "lane",S3 "door",S3 "hand"]:Nat):Int)=4 by decide +kernel] at i4;obtain⟨f0,f1,f2,f3,f4⟩:=pf;refine⟨?_,?_,?_,?_,?_,λ_ m=>nomatch m⟩
  . have lc: ∀(g:CF),P3.eW ⟨SU,p.b.map pr⟩ (aY 1 (gN 3) ax (eX 3 0) g [fv (.tup [.tup (p.b.map pr),.tup (p.l.map PV.str),.tup (p.n.map PV.str),.tup (p.d.map PV.str),.tup (p.a.map pr)]),fv (.str "box"),fv (.tup (p.b.map pr))]) (p.b.map pr) [] h= .ok ((p.b.map (·.1)).map PV.str) h:=λg=>kC rfl rfl (by omega)
    simp? [dC,Bn.v,rW,i0,lc,Bn.nm]
  . simp? [dC,Bn.v,rW,i1,Bn.nm]
  . simp? [dC,Bn.v,rW,i2,Bn.nm]
  . simp? [dC,Bn.v,rW,i3,Bn.nm]
  . have lc: ∀(g:CF),P3.eW ⟨SU,p.a.map pr⟩ (aY 1 (gN 3) ax (eX 3 0) g [fv (.tup [.tup (p.b.map pr),.tup (p.l.map PV.str),.tup (p.n.map PV.str),.tup (p.d.map PV.str),.tup (p.a.map pr)]),fv (.str "hand"),fv (.tup (p.a.map pr))]) (p.a.map pr) [] h= .ok ((p.a.map (·.1)).map PV.str) h:=λg=>kC rfl rfl (by omega)
    simp? [dC,Bn.v,rW,i4,lc,Bn.nm]
 rw[run_eq T.uU rfl];exact(congrArg (fin _) (A s ms)).trans (by rw[cx];exact jr rfl)
end
noncomputable def nF(ss:List Str):PV->Bool
 | .str s=>decide (s∈ss)
 | _=>false
def bB(p:Bn)(many:Nat)(f:Str)(x:PV):Bool:=if f= "pocket" then aD x else if f= "sum" then oW x else if f= "target" then aS 0 many x else if f= "chances" then aS 2 1000 x else nF (p.nm f) x
noncomputable def FM:List Str:=["pocket", "sum", "target", "chances", "box", "lock", "lane", "door"]
noncomputable def lf(f:Str):Str:=if f= "target" then "row" else if f= "chances" then "lots" else f
theorem vO{x:PV}(e: ∀ s,vM (.str s) x=false): ∀{ss:List Str},((ss.map PV.str).any λz=>vM z x)=false
 | []=>rfl
 | s::r=>by rw[S7,UX,vO e,e s];rfl
theorem Sy{h:PH}{n:Nat}{ss:List Str}{x:PV}(e:h[n]?=fv (.lst (ss.map PV.str)))(t:Th h x):oN x (.ref n) h= .ok (.bl (nF ss x)) h:=by
 have sa:qp h (.ref n)=true:=by simp only[qp,e,strs_map,Uy]
 have fl: ∀ x:PV,d7 x=true->eK h x=false->(∀ s,vM (.str s) x=false)->oN x (.ref n) h= .ok (.bl false) h:=λx f b q=>by
  unfold oN;rw[if_neg (by rw[b];exact λc=>nomatch c.1)];have:isIn x (.ref n) h=fv false:=by
   unfold P3.isIn;simp only[itemsOf,cH,e,P3.all_strs,f,UC,if_true,vO q]
  unfold fK;rw[this]
 cases t with
 | str s l o =>
  unfold oN
  rw[if_neg (λc=>nomatch c.1)]
  exact vx e
 | box m b=>unfold oN;rw[if_pos ⟨b,sa⟩];rfl
 | tup xs l a=>unfold oN;rw[if_pos ⟨rfl,sa⟩];rfl
 | non=>exact fl _ rfl rfl λ_=>rfl
 | int i=>exact fl _ rfl rfl λ_=>rfl
 | bl b=>exact fl _ rfl rfl λ_=>rfl
structure B1(h:PH)(r:Nat)(p:Bn):Prop where
 ex: ∃ b l n d:Nat,h[r]?=fv (.dct [(.inr "box",.ref b),(.inr "lock",.ref l),(.inr "lane",.ref n),(.inr "door",.ref d)])/\h[b]?=fv (.lst ((p.b.map (·.1)).map PV.str))/\h[l]?=fv (.lst (p.l.map PV.str))/\h[n]?=fv (.lst (p.n.map PV.str))/\h[d]?=fv (.lst (p.d.map PV.str))
theorem B1.gr{h:PH}{r:Nat}{p:Bn}(X:PH)(n:B1 h r p):B1 (h++X) r p:=by
 obtain⟨b,l,n,d,e0,e1,e2,e3,e4⟩:=n;exact⟨b,l,n,d,cm e0,cm e1,cm e2,cm e3,cm e4⟩
section
variable{pg:Tb}(T:cv pg)
include T
theorem En(j:Nat){h:PH}{x:PV}(t:Th h x)(p:Bn)(pf:p.fC)(many:Nat){f:Str}(mf:f∈FM):run pg (j+11) "is_part" [p.v,.str f,x,.int many] h= .ok (.bl (bB p many f x)) h:=by
 have A: ∀ f∈FM,run pg (j+11) "is_part" [p.v,.str f,x,.int many] h= .ok (.bl (bB p many f x)) h:=by
  have n0:=j0 T (j+8) t;have s0:=Jt T j t;have w1:=nR T (j+8) t 0 many;have w2:=nR T (j+8) t 2 1000;have k: ∀ s∈W5,run pg (j+10) "names_of" [p.v,.str s] h= .ok (.ref h.length) (h++[.lst ((p.nm s).map PV.str)]):=λs ms=>mW T (j+9) h p pf ms;have ia: ∀ s:Str,oN x (.ref h.length) (h++[.lst ((p.nm s).map PV.str)])= .ok (.bl (nF (p.nm s) x)) (h++[.lst ((p.nm s).map PV.str)]):=λs=>Sy aI (t.gr _);simp only[W5,S6] at k;obtain⟨k0,k1,k2,k3,_⟩:=k;simp only[FM,S6];refine⟨?_,?_,?_,?_,?_,?_,?_,?_,λ_ m=>nomatch m⟩<;>rw[run_eq T.xh rfl]<;>simp? [ja,pB,n0,s0,w1,w2,k0,k1,k2,k3,ia,bB,bT]
 exact A f mf
theorem oq(j:Nat){h:PH}{x:PV}{r:Nat}(t:Th h x)(p:Bn)(N:B1 h r p)(many:Nat){f:Str}(mf:f∈FM):run pg (j+9) "_law_part_right" [.str (lf f),x,.ref r,.int many] h= .ok (.bl (bB p many f x)) h:=by
 have A: ∀ f∈FM,run pg (j+9) "_law_part_right" [.str (lf f),x,.ref r,.int many] h= .ok (.bl (bB p many f x)) h:=by
  have n0:=nH T (j+7) t;have s0:=Ey T j t;have w1:=jb T (j+7) t 0 many;have w2:=jb T (j+7) t 2 1000;obtain⟨b,l,n,d,e0,e1,e2,e3,e4⟩:=N;have V: ∀(s:Str)(m:Nat)(ss:List Str),aU [(.inr "box",PV.ref b),(.inr "lock",.ref l),(.inr "lane",.ref n),(.inr "door",.ref d)] (.inr s)=fv (.ref m)->h[m]?=fv (.lst (ss.map PV.str))-> ∀(c:CF)(E:a9),dQ (eB aP (aa (ae 1) (aa (eC (.ty "str")) ag))) (ai fK (ae 1) (ai aW (ae 2) (ae 0))) c (fv (.str s)::fv x::fv (.ref r)::E) h= .ok (.bl (nF ss x)) h:=λs m ss v em c E=>by
   cases t with
   | str a l o =>
    have:=vx (a:=a) em
    simp? [cD,e0,v,this,nF]
   | box n b=>simp? [(bo b).2.1,nF]
   | _=>simp? [vi,uv,uY,vt,nF]
  have v0:=V "box" b _ (by simp[aU,aj]) e1;have v1:=V "lock" l _ (by simp[aU,aj]) e2;have v2:=V "lane" n _ (by simp[aU,aj]) e3;have v3:=V "door" d _ (by simp[aU,aj]) e4;simp only[FM,S6];refine⟨?_,?_,?_,?_,?_,?_,?_,?_,λ_ m=>nomatch m⟩<;>rw[run_eq T.jX rfl]<;>simp? [lf,cQ,gc,n0,s0,w1,w2,↓v0,↓v1,↓v2,↓v3,bB,Bn.nm]
 exact A f mf
end
noncomputable def kR:List (Str × List Str):=[("let",["pocket", "sum"]),("leap",["target", "sum"]),("get",["pocket", "box"]),("put",["box", "sum"]),("take",["lock"]),("free",["lock"]),("send",["lane", "sum"]),("fetch",["pocket", "lane"]),("say",["door", "sum"]),("clock",["pocket"]),("lot",["pocket", "chances"]),("hear",["pocket", "door"])]
noncomputable def px:List (Str × List Str)->Str->Option (List Str)
 | [],_=>SU
 | q::r,w=>if q.1=w then fv q.2 else px r w
def da(p:Bn)(many:Nat)(xs:List PV):Option (List Str)->Bool
 | some fs=>decide (xs.length=fs.length)&&(fs.zip xs).all λq=>bB p many q.1 q.2
 | none=>false
def c8(p:Bn)(many:Nat):PV->Bool
 | .tup (.str w::xs)=>da p many xs (px kR w)
 | _=>false
theorem qL{p:Bn}{many:Nat}{xs:List PV}(e:fN xs=SU):c8 p many (.tup xs)=false:=by
 rcases xs with _ | ⟨y,r⟩
 . rfl
 . cases y<;>first | rfl | cases e
theorem vN: ∀{l:List (Str × List Str)}{w:Str}{fs:List Str},px l w=fv fs-> ∃ q∈l,q.2=fs
 | q::r,w,fs,e=>by
  unfold px at e;split at e
  . exact⟨q,S8,Ud e⟩
  . obtain⟨q',m,e'⟩:=vN e;exact⟨q',S9 _ m,e'⟩
theorem qU{w:Str}{fs:List Str}(e:px kR w=fv fs):(∀ f∈fs,f∈FM)/\1<=fs.length/\fs.length<=2:=by
 obtain⟨q,m,rfl⟩:=vN e;exact(show ∀ q∈kR,(∀ f∈q.2,f∈FM)/\1<=q.2.length/\q.2.length<=2 by decide +kernel) q m
theorem vy{f:List Str->PV}{w:Str}: ∀{l:List (Str × List Str)},aU (l.map λq=>((.inr q.1:Key),f q.2)) (.inr w)=(px l w).map f
 | []=>rfl
 | q::r=>by
  rw[S7,px];by_cases c:q.1=w
  . rw[if_pos c,c,lT];rfl
  . rw[if_neg c,j2 (by simpa using c),vy]
theorem vR{p:Bn}{many:Nat}: ∀(qs:List (Str × PV)),(qs.map λq=>bB p many q.1 q.2).all id=qs.all λq=>bB p many q.1 q.2
 | []=>rfl
 | q::r=>by rw[S7,Ub,Ub,vR r];rfl
section
variable{pg:Tb}(T:cv pg)
include T
theorem Iq(j:Nat){h:PH}{x:PV}(t:Th h x)(p:Bn)(pf:p.fC)(many:Nat):run pg (j+12) "is_row" [p.v,x,.int many] h= .ok (.bl (c8 p many x)) h:=by
 rw[run_eq T.Ay rfl];cases t with
 | box n b=>simp? [dy,fj,(bo b).1,c8]
 | tup xs l a =>
  cases xs with
  | nil=>simp? [dy,fj,aJ,c8,Ti]
  | cons y ys =>
   have ty:=a y S8
   have tys: ∀ z∈ys,Th h z:=λz m=>a z (S9 _ m)
   have l0: ¬ ((ys.length:Int)+1=0):=by omega
   have isS:aP [y,.ty "str"] h= .ok (.bl (fN (y::ys)).isSome) h:=by
    cases ty with
    | box n b=>exact(bo b).2.1
    | _=>rfl
   cases hd:fN (y::ys) with
   | none =>
    rw[qL hd]
    simp? [dy,fj,aJ,l0,TF,Ti,isS,hd,Vu]
   | some w =>
    obtain rfl:y= .str w:=by cases y<;>first | (cases hd;rfl) | cases hd
    have vl:aU cj (.inr w)=(px kR w).map λfs=> .ktup (fs.map PV.str):=vy (l:=kR) (f:=λfs=> .ktup (fs.map PV.str))
    show _=RV.ok (PV.bl (da p many ys (px kR w))) h
    cases lk:px kR w with
    | none =>
     rw[lk] at vl
     simp? [dy,fj,aJ,cD,l0,TF,Ti,vl,Option.map_none,Vu,da]
    | some fs =>
     rw[lk] at vl
     obtain⟨fm,_,f2⟩:=qU lk
     by_cases c:ys.length=fs.length
     . have c':(ys.length:Int)+1=(fs.length:Int)+1:=by omega
       have l1: ¬ ((fs.length:Int)+1=0):=by omega
       have zm:((fs.map PV.str).zip ys).map (λq:PV × PV=>PV.tup [q.1,q.2])=(fs.zip ys).map λq=> .tup [.str q.1,q.2]:=by
        rw[List.zip_map_left,Up];rfl
       have lc:P3.eW ⟨SU,(fs.zip ys).map λq=> .tup [.str q.1,q.2]⟩ (aY 2 (gT 2 (ba (gN 3) (ba (gN 4) eO))) ax (af "is_part" (aa (ae 0) (a3 (ae 3) (ae 4) (ae 2)))) (run pg (j+11)) [fv p.v,fv (.tup (.str w::ys)),fv (.int many)]) ((fs.zip ys).map λq=> .tup [.str q.1,q.2]) [] h= .ok (((fs.zip ys).map λq=>bB p many q.1 q.2).map PV.bl) h:=by
        refine(cP (α :=Str × PV) rfl (fs.zip ys) [] (f:=λq=>fv (.bl (bB p many q.1 q.2))) (λq mq=>?_) (by rw[List.length_zip];simp only[Tj];omega)).trans ?_
        . obtain⟨m1,m2⟩:=WS (show(q.1,q.2)∈fs.zip ys from mq);have pe:=En T j (tys q.2 m2) p pf many (fm q.1 m1);simp? [pe]
        . rw[TB,TJ,Up];rfl
       have al:fw [.ref h.length] (h++[.lst (((fs.zip ys).map λq=>bB p many q.1 q.2).map PV.bl)])= .ok (.bl ((fs.zip ys).all λq=>bB p many q.1 q.2)) (h++[.lst (((fs.zip ys).map λq=>bB p many q.1 q.2).map PV.bl)]):=by
        rw[pL (bs:=(fs.zip ys).map λq=>bB p many q.1 q.2) aI,vR]
       simp? [dy,fj,aJ,cD,l0,TF,Ti,SX,vl,VU,Uy,c',l1,da,c,uP,zm,lc,al,bT,Us]
     . have c': ¬ ((ys.length:Int)+1=(fs.length:Int)+1):=by omega
       simp? [dy,fj,aJ,cD,l0,TF,Ti,SX,vl,VU,Uy,c',da,c,Uc]
 | _=>simp? [dy,fj,dE,dB,c9,dA,c8]
end
def PL:MS:=(ay (ef (aQ (eS "let") (aC (a2 (eS "pocket") (eS "sum"))) (aQ (eS "leap") (aC (a2 (eS "row") (eS "sum"))) (aQ (eS "get") (aC (a2 (eS "pocket") (eS "box"))) (aQ (eS "put") (aC (a2 (eS "box") (eS "sum"))) gP))))) (gN 3))
def Pr:MS:=(dn (eM bU eQ (ae 3) (aa (ef (aQ (eS "take") (aC (a1 (eS "lock"))) (aQ (eS "free") (aC (a1 (eS "lock"))) (aQ (eS "send") (aC (a2 (eS "lane") (eS "sum"))) (aQ (eS "fetch") (aC (a2 (eS "pocket") (eS "lane"))) gP))))) ag)))
def Qv:MS:=(dn (eM bU eQ (ae 3) (aa (ef (aQ (eS "say") (aC (a2 (eS "door") (eS "sum"))) (aQ (eS "clock") (aC (a1 (eS "pocket"))) (aQ (eS "lot") (aC (a2 (eS "pocket") (eS "lots"))) (aQ (eS "hear") (aC (a2 (eS "pocket") (eS "door"))) gP))))) ag)))
def CZ:MS:=(bC (fL (bK (ao (eB aP (aa (ae 0) (aa (eC (.ty "tuple")) ag))))) (fL (ao (ai qA (eB aO (a1 (ae 0))) (eI 2))) (fL (bK (ao (eB aP (aa (eX 0 0) (aa (eC (.ty "str")) ag))))) (ao (ai cX (eX 0 0) (ae 3)))))) (av (eC (.bl false))) bz)
def Q6:MS:=(ay (ai aW (ae 3) (eX 0 0)) (gN 4))
def QQ:MS:=(bC (ao (ai i8 (eB aO (a1 (ae 4))) (ai yu (eB aO (a1 (ae 0))) (eI 1)))) (av (eC (.bl false))) bz)
def Pg:MS:=(av (ai cX (eC (.bl false)) (dw 1 (a8 (aa (eB aO (a1 (ae 4))) ag)) (gN 5) ax (af "_law_part_right" (aa (ai aW (ae 4) (ae 5)) (aa (ai aW (ae 0) (ai ak (ae 5) (eI 1))) (a2 (ae 1) (ae 2))))))))
def Qu:MS:=Pg
def Nk:MS:=ah QQ Qu
def NY:MS:=ah Q6 Nk
def nS:MS:=ah CZ NY
def Qp:MS:=ah Qv nS
def QM:MS:=ah Pr Qp
theorem AF{c:CF}{e:a9}(h:PH){k1 k2 k3 k4:Str}{m1 m2 m3 m4:MA}{x1 x2 x3 x4:List PV}(e1: ∀ h,m1 c e h= .ok x1 h)(e2: ∀ h,m2 c e h= .ok x2 h)(e3: ∀ h,m3 c e h= .ok x3 h)(e4: ∀ h,m4 c e h= .ok x4 h)(l1:x1.length<=100)(l2:x2.length<=100)(l3:x3.length<=100)(l4:x4.length<=100) :
  ef (aQ (eS k1) (aC m1) (aQ (eS k2) (aC m2) (aQ (eS k3) (aC m3) (aQ (eS k4) (aC m4) gP)))) c e h= .ok (.ref h.length) (h++[.dct (bp [] [(.inr k1,.ref (h.length+1)),(.inr k2,.ref (h.length+2)),(.inr k3,.ref (h.length+3)),(.inr k4,.ref (h.length+4))]),.lst x1,.lst x2,.lst x3,.lst x4]):=by
 have dk: ∀(kvs:List (Key × PV))(Y:PH),kvs.length<=15->B6 h.length kvs (h++ .dct []::Y)= .ok (.ref h.length) (h++ .dct (bp [] kvs)::Y):=λkvs Y hl=>by
  rw [uD aI hl,dj];rfl
 simp? [g8,jy,jm,gJ,jw,jt,e1,e2,e3,e4];exact dk [(.inr k1,.ref (h.length+1)),(.inr k2,.ref (h.length+2)),(.inr k3,.ref (h.length+3)),(.inr k4,.ref (h.length+4))] [.lst x1,.lst x2,.lst x3,.lst x4] (show 4<=15 by decide)
noncomputable def dP:List (Str × Nat × List Str):=[("let",1,["pocket", "sum"]),("leap",2,["target", "sum"]),("get",3,["pocket", "box"]),("put",4,["box", "sum"]),("take",6,["lock"]),("free",7,["lock"]),("send",8,["lane", "sum"]),("fetch",9,["pocket", "lane"]),("say",11,["door", "sum"]),("clock",12,["pocket"]),("lot",13,["pocket", "chances"]),("hear",14,["pocket", "door"])]
noncomputable def dG(L:Nat)(l:List (Str × Nat × List Str)):List (Key × PV):=l.map λq=>(.inr q.1,.ref (L+q.2.1))
noncomputable def EL(a:Str):PO:= .lst [.str a]
noncomputable def oH(a b:Str):PO:= .lst [.str a,.str b]
def yA(L:Nat):PH:=[.dct (dG L (dP.take 4)),oH "pocket" "sum",oH "row" "sum",oH "pocket" "box",oH "box" "sum"]
def yB(L:Nat):PH:=[.dct (dG L ((dP.drop 4).take 4)),EL "lock",EL "lock",oH "lane" "sum",oH "pocket" "lane"]
def yC(L:Nat):PH:=[.dct (dG L (dP.drop 8)),oH "door" "sum",EL "pocket",oH "pocket" "lots",oH "pocket" "door"]
def yD(L:Nat)(n:Nat):PH:= .dct (dG L (dP.take n))::(yA L).tail
def yH(L:Nat):PH:=yD L 12++(yB L++yC L)
theorem N8(L:Nat): ∀ q∈dP,(yH L)[q.2.1]?=fv (.lst ((q.2.2.map lf).map PV.str)):=by
 simp only[dP,S6];refine⟨?_,?_,?_,?_,?_,?_,?_,?_,?_,?_,?_,?_,λ_ m=>nomatch m⟩<;>simp[yH,yD,yA,yB,yC,EL,oH,lf,aj]
theorem rA{L:Nat}{w:Str}: ∀{l:List (Str × Nat × List Str)},px (l.map λq=>(q.1,q.2.2)) w=SU->aU (dG L l) (.inr w)=SU
 | [],_=>rfl
 | q::r,e=>by
  rw[S7,px] at e;by_cases c:q.1=w
  . rw[if_pos c] at e;cases e
  . rw[if_neg c] at e;show aU (((.inr q.1:Key),PV.ref (L+q.2.1))::dG L r) _=_;rw[j2 (by simpa using c)];exact rA e
theorem rE{L:Nat}{w:Str}{fs:List Str}: ∀{l:List (Str × Nat × List Str)},px (l.map λq=>(q.1,q.2.2)) w=fv fs-> ∃ q∈l,q.2.2=fs/\aU (dG L l) (.inr w)=fv (.ref (L+q.2.1))
 | [],e=>nomatch e
 | q::r,e=>by
  rw[S7,px] at e;by_cases c:q.1=w
  . rw[if_pos c] at e;refine⟨q,S8,Ud e,?_⟩;show aU (((.inr q.1:Key),PV.ref (L+q.2.1))::dG L r) _=_;rw[c,lT]
  . rw[if_neg c] at e;obtain⟨q',m,e1,e2⟩:=rE (L:=L) e;refine⟨q',S9 _ m,e1,?_⟩;show aU (((.inr q.1:Key),PV.ref (L+q.2.1))::dG L r) _=_;rw[j2 (by simpa using c)];exact e2
theorem KL{c:CF}{h:PH}{a b d:Option PV}:PL c [a,b,d,SU,SU] h= .ok (.nx [a,b,d,fv (.ref h.length),SU]) (h++yA h.length):=by
 have e:=AF (c:=c) (e:=[a,b,d,SU,SU]) h (k1:= "let") (k2:= "leap") (k3:= "get") (k4:= "put") (m1:=a2 (eS "pocket") (eS "sum")) (m2:=a2 (eS "row") (eS "sum")) (m3:=a2 (eS "pocket") (eS "box")) (m4:=a2 (eS "box") (eS "sum")) (x1:=[.str "pocket",.str "sum"]) (x2:=[.str "row",.str "sum"]) (x3:=[.str "pocket",.str "box"]) (x4:=[.str "box",.str "sum"]) (λ_=>rfl) (λ_=>rfl) (λ_=>rfl) (λ_=>rfl) (by decide) (by decide) (by decide) (by decide);have m:bp [] [((.inr "let" :Key),PV.ref (h.length+1)),(.inr "leap",.ref (h.length+2)),(.inr "get",.ref (h.length+3)),(.inr "put",.ref (h.length+4))]=dG h.length (dP.take 4):=by simp[bp,fA,aj,dG,dP]
 rw[m] at e;simp? [PL,↓e];rfl
theorem IU{c:CF}{h:PH}{a b d:Option PV}:Pr c [a,b,d,fv (.ref h.length),SU] (h++yA h.length)= .ok (.nx [a,b,d,fv (.ref h.length),SU]) (h++(yD h.length 8++yB h.length)):=by
 have e:=AF (c:=c) (e:=[a,b,d,fv (.ref h.length),SU]) (h++yA h.length) (k1:= "take") (k2:= "free") (k3:= "send") (k4:= "fetch") (m1:=a1 (eS "lock")) (m2:=a1 (eS "lock")) (m3:=a2 (eS "lane") (eS "sum")) (m4:=a2 (eS "pocket") (eS "lane")) (x1:=[.str "lock"]) (x2:=[.str "lock"]) (x3:=[.str "lane",.str "sum"]) (x4:=[.str "pocket",.str "lane"]) (λ_=>rfl) (λ_=>rfl) (λ_=>rfl) (λ_=>rfl) (by decide) (by decide) (by decide) (by decide);have ll:(h++yA h.length).length=h.length+5:=S1;rw[ll] at e;have m:bp [] [((.inr "take" :Key),PV.ref (h.length+5+1)),(.inr "free",.ref (h.length+5+2)),(.inr "send",.ref (h.length+5+3)),(.inr "fetch",.ref (h.length+5+4))]=dG h.length ((dP.drop 4).take 4):=by simp[bp,fA,aj,dG,dP]
 rw[m] at e;have mt: ∀ r,F2 bU eQ r c [a,b,d,fv (.ref h.length),SU] (.ref h.length) (h++yA h.length)=(r c [a,b,d,fv (.ref h.length),SU] (h++yA h.length)).bind (bU (.ref h.length)):=λr=>lb (yX (kvs:=dG h.length (dP.take 4)) aI);have up:bU (.ref h.length) [.ref (h.length+5)] (h++(yA h.length++yB h.length))= .ok .non (h++(yD h.length 8++yB h.length)):=by
  refine(Ie (kvs:=dG h.length (dP.take 4)) (more:=dG h.length ((dP.drop 4).take 4)) ?_ ?_ (by omega) (show 8<=1000 by decide)).trans ?_
  . exact aI
  . rw[aw];rfl
  . have mm:bp (dG h.length (dP.take 4)) (dG h.length ((dP.drop 4).take 4))=dG h.length (dP.take 8):=by simp[bp,fA,aj,dG,dP]
    rw[mm,dj];rfl
 simp? [Pr,mt,↓e];exact(congrArg (λr=>RV.bind r (L5 _)) up).trans rfl
theorem HC{c:CF}{h:PH}{a b d:Option PV}:Qv c [a,b,d,fv (.ref h.length),SU] (h++(yD h.length 8++yB h.length))= .ok (.nx [a,b,d,fv (.ref h.length),SU]) (h++yH h.length):=by
 have e:=AF (c:=c) (e:=[a,b,d,fv (.ref h.length),SU]) (h++(yD h.length 8++yB h.length)) (k1:= "say") (k2:= "clock") (k3:= "lot") (k4:= "hear") (m1:=a2 (eS "door") (eS "sum")) (m2:=a1 (eS "pocket")) (m3:=a2 (eS "pocket") (eS "lots")) (m4:=a2 (eS "pocket") (eS "door")) (x1:=[.str "door",.str "sum"]) (x2:=[.str "pocket"]) (x3:=[.str "pocket",.str "lots"]) (x4:=[.str "pocket",.str "door"]) (λ_=>rfl) (λ_=>rfl) (λ_=>rfl) (λ_=>rfl) (by decide) (by decide) (by decide) (by decide);have ll:(h++(yD h.length 8++yB h.length)).length=h.length+10:=S1;rw[ll] at e;have m:bp [] [((.inr "say" :Key),PV.ref (h.length+10+1)),(.inr "clock",.ref (h.length+10+2)),(.inr "lot",.ref (h.length+10+3)),(.inr "hear",.ref (h.length+10+4))]=dG h.length (dP.drop 8):=by simp[bp,fA,aj,dG,dP]
 rw[m] at e;have mt: ∀ r,F2 bU eQ r c [a,b,d,fv (.ref h.length),SU] (.ref h.length) (h++(yD h.length 8++yB h.length))=(r c [a,b,d,fv (.ref h.length),SU] (h++(yD h.length 8++yB h.length))).bind (bU (.ref h.length)):=λr=>lb (yX (kvs:=dG h.length (dP.take 8)) aI);have up:bU (.ref h.length) [.ref (h.length+10)] (h++(yD h.length 8++(yB h.length++yC h.length)))= .ok .non (h++yH h.length):=by
  refine(Ie (kvs:=dG h.length (dP.take 8)) (more:=dG h.length (dP.drop 8)) ?_ ?_ (by omega) (show 12<=1000 by decide)).trans ?_
  . exact aI
  . rw[aw];rfl
  . have mm:bp (dG h.length (dP.take 8)) (dG h.length (dP.drop 8))=dG h.length (dP.take 12):=by simp[bp,fA,aj,dG,dP]
    rw[mm,dj];rfl
 simp? [Qv,mt,↓e];exact(congrArg (λr=>RV.bind r (L5 _)) up).trans rfl
theorem B9{h:PH}{n:Nat}{w:Str}{kvs:List (Key × PV)}(e:h[n]?=fv (.dct kvs)):cX (.str w) (.ref n) h= .ok (.bl (!(aU kvs (.inr w)).isSome)) h:=by
 have:isIn (.str w) (.ref n) h=fv (aU kvs (.inr w)).isSome:=by
  unfold P3.isIn;simp only[itemsOf,cH,e,ig,VU]
 unfold cX;rw[this]
theorem Ew{p:Bn}{many:Nat}{fs:List Str}{ys:List PV}(e:ys.length=fs.length)(f1:1<=fs.length)(f2:fs.length<=2):(∃ f y,fs=[f]/\ys=[y])\/ ∃ f g y z,fs=[f,g]/\ys=[y,z]:=by
 rcases fs with _ | ⟨f,_ | ⟨g,_ | ⟨k,r⟩⟩⟩
 . simp at f1
 . rcases ys with _ | ⟨y,_ | ⟨z,s⟩⟩
   . simp at e
   . exact .inl ⟨f,y,rfl,rfl⟩
   . simp at e
 . rcases ys with _ | ⟨y,_ | ⟨z,_ | ⟨u,s⟩⟩⟩
   . simp at e
   . simp at e
   . exact .inr ⟨f,g,y,z,rfl,rfl⟩
   . simp at e
 . simp at f2
section
variable{pg:Tb}(T:cv pg)
include T
theorem F9(j:Nat){H:PH}{w:Str}{r m:Nat}(p:Bn)(N:B1 H r p)(many:Nat){fs:List Str}{ys:List PV}(ty: ∀ y∈ys,Th H y)(fm: ∀ f∈fs,f∈FM)(e:ys.length=fs.length)(f1:1<=fs.length)(f2:fs.length<=2)(em:H[m]?=fv (.lst ((fs.map lf).map PV.str)))(a:PV) :
  ∃ X,Pg (run pg (j+9)) [fv (.tup (.str w::ys)),fv (.ref r),fv (.int many),fv a,fv (.ref m)] H= .ok (.rt (.bl ((fs.zip ys).all λq=>bB p many q.1 q.2))) (H++X):=by
 have fin1: ∀(l:List (Nat × Str × PV))(ps:List Bool),P3.eW ⟨SU,l.map λq=> .int q.1⟩ (aY 1 (gN 5) ax (af "_law_part_right" (aa (ai aW (ae 4) (ae 5)) (aa (ai aW (ae 0) (ai ak (ae 5) (eI 1))) (a2 (ae 1) (ae 2))))) (run pg (j+9)) [fv (.tup (.str w::ys)),fv (.ref r),fv (.int many),fv a,fv (.ref m)]) (l.map λq=> .int q.1) [] H= .ok (ps.map PV.bl) H->aZ 0 fs.length=(l.map λq=> .int q.1)-> ∃ X,Pg (run pg (j+9)) [fv (.tup (.str w::ys)),fv (.ref r),fv (.int many),fv a,fv (.ref m)] H= .ok (.rt (.bl (ps.all id))) (H++X):=λl ps lc er=>by
  have ni:cX (.bl false) (.ref H.length) (H++[.lst (ps.map PV.bl)])= .ok (.bl (ps.all id)) (H++[.lst (ps.map PV.bl)]):=Ae aI;refine⟨[.lst (ps.map PV.bl)],?_⟩;simp? [Pg,em,SX,Uu,er,lc,ni]
 rcases Ew (p:=p) (many:=many) e f1 f2 with⟨f,y,rfl,rfl⟩ | ⟨f,g,y,z,rfl,rfl⟩
 . have p1:=oq T j (ty y S8) p N many (fm f S8);obtain⟨X,ex⟩:=fin1 [(0,f,y)] [bB p many f y] (by
    refine(cP (α :=Nat × Str × PV) rfl [(0,f,y)] [] (f:=λq=>fv (.bl (bB p many q.2.1 q.2.2))) (λq mq=>?_) (by simp)).trans rfl;obtain rfl:q=(0,f,y):=by simpa using mq
    have i1:fY [PV.str (lf f)] 0=fv (.str (lf f)):=rfl;simp? [em,i1,p1,Ti,Zf]) rfl
   exact⟨X,by rw[ex];simp⟩
 . have p1:=oq T j (ty y S8) p N many (fm f S8);have p2:=oq T j (ty z (S9 _ S8)) p N many (fm g (S9 _ S8));obtain⟨X,ex⟩:=fin1 [(0,f,y),(1,g,z)] [bB p many f y,bB p many g z] (by
    refine(cP (α :=Nat × Str × PV) rfl [(0,f,y),(1,g,z)] [] (f:=λq=>fv (.bl (bB p many q.2.1 q.2.2))) (λq mq=>?_) (by simp)).trans rfl;have i1:fY [PV.str (lf f),.str (lf g)] 0=fv (.str (lf f)):=rfl;have i2:fY [PV.str (lf f),.str (lf g)] 1=fv (.str (lf g)):=rfl;simp only[Tq,UD,or_false] at mq;rcases mq with rfl | rfl
    . simp? [em,i1,p1,Ti,Zf]
    . simp? [em,i2,p2,Ti,Zf]) rfl
   exact⟨X,by rw[ex];simp⟩
theorem EA(j:Nat){h:PH}{x:PV}{r:Nat}(t:Th h x)(p:Bn)(N:B1 h r p)(many:Nat):run pg (j+10) "_law_row_right" [x,.ref r,.int many] h= .ok (.bl (c8 p many x)) h:=by
 have B: ∃ X,nS (run pg (j+9)) [fv x,fv (.ref r),fv (.int many),fv (.ref h.length),SU] (h++yH h.length)= .ok (.rt (.bl (c8 p many x))) (h++X):=by
  have eD:(h++yH h.length)[h.length]?=fv (.dct (dG h.length dP)):=aI;generalize hH:h++yH h.length=H at eD ⊢;have tH:Th H x:=hH ▸ t.gr _;have NH:B1 H r p:=hH ▸ N.gr _;have en: ∀{v:Bool},nS (run pg (j+9)) [fv x,fv (.ref r),fv (.int many),fv (.ref h.length),SU] H= .ok (.rt (.bl v)) H-> ∃ X,nS (run pg (j+9)) [fv x,fv (.ref r),fv (.int many),fv (.ref h.length),SU] H= .ok (.rt (.bl v)) (h++X):=λe=>⟨yH h.length,by rw[hH];exact e⟩
  cases tH with
  | box n b=>exact en (by simp? [nS,CZ,(bo b).1,c8])
  | tup xs l a =>
   cases xs with
   | nil=>exact en (by simp? [nS,CZ,aJ,c8,Ti])
   | cons y ys =>
    have ty:=a y S8
    have tys: ∀ z∈ys,Th H z:=λz m=>a z (S9 _ m)
    have isS:aP [y,.ty "str"] H= .ok (.bl (fN (y::ys)).isSome) H:=by
     cases ty with
     | box n b=>exact(bo b).2.1
     | _=>rfl
    by_cases l2:((ys.length:Int)+1 < 2)
    . have e0:ys=[]:=by cases ys with | nil=>rfl | cons _ _=>simp at l2;omega
      have rf:c8 p many (.tup (y::ys))=false:=by
       cases hd:fN (y::ys) with
       | none=>exact qL hd
       | some w =>
        obtain rfl:y= .str w:=by cases y<;>first | (cases hd;rfl) | cases hd
        show da p many ys (px kR w)=false
        cases lk:px kR w with
        | none=>rfl
        | some fs =>
         have:=(qU lk).2.1
         subst e0
         have z: ¬ (0=fs.length):=by omega
         simp only[da,Tj,z,decide_false,Uc]
      rw[rf];exact en (by simp? [nS,CZ,aJ,l2,TF,Ti])
    . cases hd:fN (y::ys) with
      | none =>
       rw[qL hd]
       exact en (by simp? [nS,CZ,aJ,l2,TF,Ti,isS,hd,Vu])
      | some w =>
       obtain rfl:y= .str w:=by cases y<;>first | (cases hd;rfl) | cases hd
       have ni:=B9 (w:=w) eD
       show ∃ X,_=RV.ok (Fl.rt (PV.bl (da p many ys (px kR w)))) (h++X)
       cases lk:px kR w with
       | none =>
        have vn:aU (dG h.length dP) (.inr w)=SU:=rA (l:=dP) lk
        rw[vn] at ni
        exact en (by simp? [nS,CZ,aJ,cD,l2,TF,Ti,ni,Vu,da])
       | some fs =>
        obtain⟨fm,f1,f2⟩:=qU lk
        obtain⟨q,mq,rfl,vs⟩:=rE (L:=h.length) (l:=dP) lk
        rw[vs] at ni
        have em:H[h.length+q.2.1]?=fv (.lst ((q.2.2.map lf).map PV.str)):=by rw[<- hH,aw];exact N8 _ q mq
        by_cases c:ys.length=q.2.2.length
        . have c':((q.2.2.length:Int)=(ys.length:Int)+1 - 1):=by omega
          obtain⟨X,ex⟩:=F9 T j (w:=w) p NH many tys fm c f1 f2 em (.ref h.length);refine⟨yH h.length++X,?_⟩;rw[<- SY,hH];simp only[da,c,decide_true,Us];refine(aA (e1:=[fv (.tup (.str w::ys)),fv (.ref r),fv (.int many),fv (.ref h.length),SU]) (h1:=H) ?_).trans ?_
          . simp? [CZ,aJ,cD,l2,TF,Ti,ni,Uy]
          refine(aA (e1:=[fv (.tup (.str w::ys)),fv (.ref r),fv (.int many),fv (.ref h.length),fv (.ref (h.length+q.2.1))]) (h1:=H) ?_).trans ?_
          . simp? [Q6,eD,vs]
          refine(aA (e1:=[fv (.tup (.str w::ys)),fv (.ref r),fv (.int many),fv (.ref h.length),fv (.ref (h.length+q.2.1))]) (h1:=H) ?_).trans ex
          . simp? [QQ,em,SX,c',TF,Ti]
        . have c': ¬ ((q.2.2.length:Int)=(ys.length:Int)+1 - 1):=by omega
          simp only[da,c,decide_false,Uc];exact en (by simp? [nS,NY,Nk,CZ,Q6,QQ,aJ,cD,l2,TF,Ti,ni,Uy,eD,vs,em,SX,c'])
  | _=>exact en (by simp? [nS,CZ,dE,dB,c9,dA,c8])
 obtain⟨X,ex⟩:=B;have A:gE (run pg (j+9)) [fv x,fv (.ref r),fv (.int many),SU,SU] h= .ok (.rt (.bl (c8 p many x))) (h++X):=by
  show ah PL QM _ _ _=_;refine(aA KL).trans ?_;refine(aA IU).trans ?_;exact(aA HC).trans ex
 rw[run_eq T.kJ rfl];exact(congrArg (fin _) A).trans (by rw[cx];exact bT)
end
def RE:MS:=(ay (aC ag) (gN 1))
def Lp:MS:=(cI (cU (eC (.ktup [(.str "box"),(.str "lock"),(.str "lane"),(.str "door"),(.str "hand")]))) (gN 2) (dn (eM dZ cS (ae 1) (aa (af "names_of" (a2 (ae 0) (ae 2))) ag))))
def RL:MS:=(av (ai hU (Ll (a1 (ae 1))) (eB aO (a1 (ae 1)))))
def Mx:MS:=RL
def P8:MS:=ah Lp Mx
def Bn.all(p:Bn):List Str:=W5.flatMap p.nm
theorem Bn.all_eq(p:Bn):p.all=p.b.map (·.1)++(p.l++(p.n++(p.d++p.a.map (·.1)))):=by
 simp[Bn.all,W5,Bn.nm,aj]
theorem Bn.yQ{p:Bn}(pf:p.fC)(s:Str):(p.nm s).length<=4:=by
 obtain⟨f0,f1,f2,f3,f4⟩:=pf;unfold Bn.nm;split
 . rw[SX];exact f0
 . split
   . rw[SX];exact f4
   . split
     . exact f1
     . split
       . exact f2
       . exact f3
theorem Bn.CT{p:Bn}(pf:p.fC):p.all.length<=20:=by
 obtain⟨f0,f1,f2,f3,f4⟩:=pf;rw[Bn.all_eq];simp only[S1,SX];omega
theorem uT: ∀ l:List Str,(dd l).length<=l.length/\((dd l).length=l.length↔l.Nodup)
 | []=>⟨Te _,⟨λ_=>YT,λ_=>rfl⟩⟩
 | x::r=>by
  obtain⟨a,b⟩:=uT r;unfold dd;by_cases m:x∈dd r
  . rw[if_pos m];have m':=(kr r x).mp m;refine⟨by rw[S2];omega,⟨λe=>by rw[S2] at e;omega,λn=>absurd m' (Vj.mp n).1⟩⟩
  . rw[if_neg m];have m':x ∉ r:=λc=>m ((kr r x).mpr c);refine⟨by rw[S2,S2];omega,?_⟩;rw[S2,S2,Vj,<- b];exact⟨λe=>⟨m',by omega⟩,λe=>by omega⟩
section
variable{pg:Tb}(T:cv pg)
include T
theorem vC(j:Nat)(h:PH)(p:Bn)(pf:p.fC)(az:List PV): ∀(ss acc:List Str)(Y:PH)(o:Option PV),(∀ s∈ss,s∈W5)->acc.length+4*ss.length<=1000-> ∃ Y' o',bM ⟨SU,az⟩ (bZ (gN 2) (dn (eM dZ cS (ae 1) (aa (af "names_of" (a2 (ae 0) (ae 2))) ag))) (run pg (j+1))) (ss.map PV.str) [fv p.v,fv (.ref h.length),o] (h++ .lst (acc.map PV.str)::Y)= .ok (.nx [fv p.v,fv (.ref h.length),o']) (h++ .lst ((acc++ss.flatMap p.nm).map PV.str)::Y')
 | [],acc,Y,o,_,_=>⟨Y,o,by simp[bM,jO.eU]⟩
 | s::r,acc,Y,o,hs,hl=>by
  rw[S2] at hl;have nl:=Bn.yQ pf s;obtain⟨Y',o',e⟩:=vC j h p pf az r (acc++p.nm s) (Y++[.lst ((p.nm s).map PV.str)]) (fv (.str s)) (λz m=>hs z (S9 _ m)) (by rw[S1];omega);refine⟨Y',o',?_⟩;have ne:=mW T j (h++ .lst (acc.map PV.str)::Y) p pf (hs s S8);rw[SY,Va] at ne;have ex:dZ (.ref h.length) [.ref (VJ (h++ .lst (acc.map PV.str)::Y))] (h++ .lst (acc.map PV.str)::(Y++[.lst ((p.nm s).map PV.str)]))= .ok .non (h++ .lst ((acc++p.nm s).map PV.str)::(Y++[.lst ((p.nm s).map PV.str)])):=by
   have e1:(h++ .lst (acc.map PV.str)::(Y++[.lst ((p.nm s).map PV.str)]))[h.length]?=fv (.lst (acc.map PV.str)):=aI;have e2:(h++ .lst (acc.map PV.str)::(Y++[.lst ((p.nm s).map PV.str)]))[VJ (h++ .lst (acc.map PV.str)::Y)]?=fv (.lst ((p.nm s).map PV.str)):=by
    rw[<- Va,<- SY];exact aI
   unfold dZ;simp only[e1,e2];rw[ky (by simp only[SX];omega),dj,UM];rfl
  have ml:F2 dZ cS (aa (af "names_of" (a2 (ae 0) (ae 2))) ag) (run pg (j+1)) [fv p.v,fv (.ref h.length),fv (.str s)] (.ref h.length) (h++ .lst (acc.map PV.str)::Y)=(aa (af "names_of" (a2 (ae 0) (ae 2))) ag (run pg (j+1)) [fv p.v,fv (.ref h.length),fv (.str s)] (h++ .lst (acc.map PV.str)::Y)).bind (dZ (.ref h.length)):=by
   rw[Fv,aI];rfl
  rw[S7,nt,Vy,<- SY,<- e];have st:bZ (gN 2) (dn (eM dZ cS (ae 1) (aa (af "names_of" (a2 (ae 0) (ae 2))) ag))) (run pg (j+1)) (.str s) [fv p.v,fv (.ref h.length),o] (h++ .lst (acc.map PV.str)::Y)= .ok (.nx [fv p.v,fv (.ref h.length),fv (.str s)]) (h++ .lst ((acc++p.nm s).map PV.str)::(Y++[.lst ((p.nm s).map PV.str)])):=by
   rw[fQ];simp only[gy,Vb,Vc,bj];rw[wB,L0];simp only[qx,Vg,Ut,lQ,bj,ml,nP,qz,Bu,BD,y0,ne,kW,kZ,qE,ex,sO]
  rw[st];rfl
theorem xF(j:Nat)(h:PH)(p:Bn)(pf:p.fC): ∃ v:Bool,run pg (j+2) "has_unlike_names" [p.v] h= .ok (.bl v) h/\(v=true↔p.all.Nodup):=by
 obtain⟨Y,o,e⟩:=vC T j h p pf (W5.map PV.str) W5 [] [] SU (λ_ m=>m) (by decide);rw[TB] at e;refine⟨decide (((dd p.all).length:Int)=(p.all.length:Int)),?_,by rw[decide_eq_true_eq,<- (uT p.all).2];omega⟩;have l20:=Bn.CT pf;have A:fV (run pg (j+1)) [fv p.v,SU,SU] h= .ok (.rt (.bl (decide (((dd p.all).length:Int)=(p.all.length:Int))))) (h++ .lst (p.all.map PV.str)::Y):=by
  show ah RE P8 _ _ _=_;refine(aA (e1:=[fv p.v,fv (.ref h.length),SU]) (h1:=h++[.lst []]) ?_).trans ?_
  . simp? [RE]
  refine(aA (e1:=[fv p.v,fv (.ref h.length),o]) (h1:=h++ .lst (p.all.map PV.str)::Y) ?_).trans ?_
  . have e':bM ⟨SU,[.str "box",.str "lock",.str "lane",.str "door",.str "hand"]⟩ (bZ (gN 2) (dn (eM dZ cS (ae 1) (aa (af "names_of" (a2 (ae 0) (ae 2))) ag))) (run pg (j+1))) [.str "box",.str "lock",.str "lane",.str "door",.str "hand"] [fv p.v,fv (.ref h.length),SU] (h++[.lst []])= .ok (.nx [fv p.v,fv (.ref h.length),o]) (h++ .lst (p.all.map PV.str)::Y):=e;simp? [Lp,e']
  . have ls:=su (n:=h.length) (h:=h++ .lst (p.all.map PV.str)::Y) (ss:=p.all) aI (by omega);simp? [Mx,RL,uR,ls,SX]
 rw[run_eq T.jx rfl];exact(congrArg (fin _) A).trans (by rw[cx];exact bT)
end
def M7:MS:=(bC (fL (bK (ao (af "is_tuple_of" (aa (ae 0) (aa (eB aO (aa (eC (.ktup [(.str "box"),(.str "lock"),(.str "lane"),(.str "door"),(.str "hand")])) ag)) ag))))) (bK (ao (eB fw (aa (dw 1 (cU (ae 0)) (gN 1) ax (af "is_few" (a1 (ae 1)))) ag))))) (av (eC (.bl false))) bz)
def OU:MS:=(bC (bK (ao (eB fw (aa (dw 1 (cU (eX 0 0)) (gN 1) ax (af "is_box" (a1 (ae 1)))) ag)))) (av (eC (.bl false))) bz)
def O8:MS:=(bC (bK (ao (eB fw (aa (dw 1 (cU (ai ak (ai ak (eX 0 1) (eX 0 2)) (eX 0 3))) (gN 1) ax (af "is_name" (a1 (ae 1)))) ag)))) (av (eC (.bl false))) bz)
def Mg:MS:=(bC (fL (ao (ai hU (eB aO (a1 (eX 0 4))) (eI 0))) (bK (ao (eB fw (aa (dw 1 (cU (eX 0 4)) (gN 1) ax (af "is_hand" (a1 (ae 1)))) ag))))) (av (eC (.bl false))) bz)
def OS:MS:=(av (dQ (af "has_unlike_names" (a1 (ae 0))) (eB fw (aa (dw 1 (cU (eX 0 4)) (gN 1) ax (af "are_rows" (a2 (ae 0) (eX 1 1)))) ag))))
def Qo:MS:=OS
def Fe:MS:=ah Mg Qo
def L7:MS:=ah O8 Fe
def Hx:MS:=ah OU L7
noncomputable def cz:PV->Bool
 | .tup xs=>decide (xs.length<=4)
 | _=>false
def j5:PV->Bool
 | .tup [a,b]=>aD a&&aS 0 999 b
 | _=>false
def d6:PV->Bool
 | .tup [a,.tup rs]=>aD a&&decide (rs.length<=30)
 | _=>false
structure Bn.Ok(p:Bn):Prop where
 fC:p.fC
 bx: ∀ q∈p.b,aD (.str q.1)=true/\aS 0 999 q.2=true
 lk: ∀ s∈p.l,aD (.str s)=true
 ln: ∀ s∈p.n,aD (.str s)=true
 dr: ∀ s∈p.d,aD (.str s)=true
 ne:p.a≠[]
 hn: ∀ q∈p.a,aD (.str q.1)=true/\ ∃ rs,q.2= .tup rs/\rs.length<=30/\ ∀ r∈rs,c8 p rs.length r=true
 un:p.all.Nodup
def lj(x:PV):Prop:= ∃ p:Bn,x=p.v/\p.Ok
theorem jS{x:PV}(e:aD x=true): ∃ s,x= .str s:=by
 cases x<;>first | exact⟨_,rfl⟩ | cases e
theorem dH: ∀{xs:List PV},xs.all aD=true-> ∃ ss:List Str,xs=ss.map PV.str/\ ∀ s∈ss,aD (.str s)=true
 | [],_=>⟨[],rfl,λ_ m=>nomatch m⟩
 | x::r,e=>by
  rw[Ub,Td] at e;obtain⟨s,rfl⟩:=jS e.1;obtain⟨ss,rfl,h⟩:=dH e.2;exact⟨s::ss,rfl,S6.mpr ⟨e.1,h⟩⟩
theorem G8{x:PV}(e:j5 x=true): ∃ q,x=pr q/\aD (.str q.1)=true/\aS 0 999 q.2=true:=by
 unfold j5 at e;split at e
 . rw[Td] at e;obtain⟨s,rfl⟩:=jS e.1;exact⟨(s,_),rfl,e⟩
 . cases e
theorem B2{x:PV}(e:d6 x=true): ∃ q,x=pr q/\aD (.str q.1)=true/\ ∃ rs,q.2= .tup rs/\rs.length<=30:=by
 unfold d6 at e;split at e
 . rename_i a rs;rw[Td,decide_eq_true_eq] at e;obtain⟨s,rfl⟩:=jS e.1;exact⟨(s,.tup rs),rfl,e.1,rs,rfl,e.2⟩
 . cases e
theorem uo{P:PV->Bool}{Q:Str × PV->Prop}(h: ∀ x,P x=true-> ∃ q,x=pr q/\Q q): ∀{xs:List PV},xs.all P=true-> ∃ qs:List (Str × PV),xs=qs.map pr/\ ∀ q∈qs,Q q
 | [],_=>⟨[],rfl,λ_ m=>nomatch m⟩
 | x::r,e=>by
  rw[Ub,Td] at e;obtain⟨s,rfl,hs⟩:=h _ e.1;obtain⟨ss,rfl,h⟩:=uo h e.2;exact⟨s::ss,rfl,S6.mpr ⟨hs,h⟩⟩
section
variable{pg:Tb}(T:cv pg)
include T
theorem JC(j:Nat){h:PH}{x:PV}(t:Th h x):run pg (j+1) "is_few" [x] h= .ok (.bl (cz x)) h:=by
 rw[run_eq T.Ba rfl];cases t with
 | box n b=>simp? [gB,jZ,(bo b).1,cz]
 | tup xs l a =>
  have:decide ((xs.length:Int)<=4)=decide (xs.length<=4):=decide_eq_decide.mpr (by omega)
  simp? [gB,jZ,aJ,cz,this]
 | _=>simp? [gB,jZ,dE,dB,c9,dA,cz]
theorem IV(j:Nat){h:PH}{x:PV}(t:Th h x):run pg (j+4) "is_box" [x] h= .ok (.bl (j5 x)) h:=by
 rw[run_eq T.AQ rfl];have t2:run pg (j+3) "is_tuple_of" [x,.int 2] h= .ok (.bl (cy 2 x)) h:=qW T (j+2) t 2;cases t with
 | tup xs l a =>
  rcases xs with _ | ⟨y,_ | ⟨z,_ | ⟨u,r⟩⟩⟩
  . have:cy 2 (.tup [])=false:=rfl;simp? [fi,gA,t2,this,j5]
  . have:cy 2 (.tup [y])=false:=rfl;simp? [fi,gA,t2,this,j5]
  . have:cy 2 (.tup [y,z])=true:=rfl;have n0:=j0 T (j+1) (a y S8);have v0:=value_eq T j (a z (S9 _ S8));cases q:aD y<;>simp? [fi,gA,t2,this,n0,v0,q,j5,Us,Uc]
  . have:cy 2 (.tup (y::z::u::r))=false:=by simp[cy]
    simp? [fi,gA,t2,this,j5]
 | _ =>
  simp? [fi,gA,t2,cy,j5]
theorem Ed(j:Nat){h:PH}{x:PV}(t:Th h x):run pg (j+3) "is_hand" [x] h= .ok (.bl (d6 x)) h:=by
 rw[run_eq T.xa rfl];have t2:run pg (j+2) "is_tuple_of" [x,.int 2] h= .ok (.bl (cy 2 x)) h:=qW T (j+1) t 2;cases t with
 | tup xs l a =>
  rcases xs with _ | ⟨y,_ | ⟨z,_ | ⟨u,r⟩⟩⟩
  . have:cy 2 (.tup [])=false:=rfl;simp? [cK,dM,t2,this,d6]
  . have:cy 2 (.tup [y])=false:=rfl;simp? [cK,dM,t2,this,d6]
  . have:cy 2 (.tup [y,z])=true:=rfl;have n0:=j0 T j (a y S8);have tz:=a z (S9 _ S8);cases tz with
    | tup rs l2 _ =>
     have l3:decide ((rs.length:Int)<=30)=decide (rs.length<=30):=decide_eq_decide.mpr (by omega)
     cases q:aD y<;>simp? [cK,dM,t2,this,n0,q,aJ,l3,d6,Us,Uc]
    | box n b=>cases q:aD y<;>simp? [cK,dM,t2,this,n0,q,(bo b).1,d6]
    | _=>cases q:aD y<;>simp? [cK,dM,t2,this,n0,q,dE,dB,c9,dA,d6]
  . have:cy 2 (.tup (y::z::u::r))=false:=by simp[cy]
    have hb:d6 (.tup (y::z::u::r))=false:=by cases z<;>rfl
    simp? [cK,dM,t2,this,hb]
 | _ =>
  simp? [cK,dM,t2,cy,d6]
theorem Ef(j:Nat){h:PH}{rs:List PV}(t:Th h (.tup rs))(p:Bn)(pf:p.fC):run pg (j+13) "are_rows" [p.v,.tup rs] h= .ok (.bl (rs.all (c8 p rs.length))) h:=by
 rw[run_eq T.vd rfl];have l:rs.length<=1000000:=by cases t;assumption
 have lc:P3.eW ⟨SU,rs⟩ (aY 1 (gN 2) ax (af "is_row" (aa (ae 0) (aa (ae 2) (aa (eB aO (a1 (ae 1))) ag)))) (run pg (j+12)) [fv p.v,fv (.tup rs)]) rs [] h= .ok ((rs.map (c8 p rs.length)).map PV.bl) h:=by
  refine(d9 rs [] (f:=λr=>fv (.bl (c8 p rs.length r))) (λr mr=>?_) (by simp only[Tj];omega)).trans ?_
  . have re:=Iq T j (t.all r mr) p pf rs.length;simp? [re]
  . rw[TB,TJ,Up];rfl
 have al:fw [.ref h.length] (h++[.lst ((rs.map (c8 p rs.length)).map PV.bl)])= .ok (.bl (rs.all (c8 p rs.length))) (h++[.lst ((rs.map (c8 p rs.length)).map PV.bl)]):=by
  rw[pL (bs:=rs.map (c8 p rs.length)) aI,VO];rfl
 simp? [hW,mH,lc,al,bT]
end
theorem kf{c:CF}{x:PV}{h:PH}{xs:List PV}{F:PV->Bool}{f:String}{e0:ME}(He:e0 c [fv x] h= .ok (.tup xs) h)(l:xs.length<=1000000)(H: ∀ z∈xs,c f [z] h= .ok (.bl (F z)) h):eB fw (aa (dw 1 (cU e0) (gN 1) ax (af f (a1 (ae 1)))) ag) c [fv x] h= .ok (.bl (xs.all F)) (h++[.lst ((xs.map F).map PV.bl)]):=by
 have lc:P3.eW ⟨SU,xs⟩ (aY 1 (gN 1) ax (af f (a1 (ae 1))) c [fv x]) xs [] h= .ok ((xs.map F).map PV.bl) h:=by
  refine(d9 xs [] (f:=λr=>fv (.bl (F r))) (λr mr=>?_) (by simp only[Tj];omega)).trans ?_
  . simp? [H r mr]
  . rw[TB,TJ,Up];rfl
 have al:fw [.ref h.length] (h++[.lst ((xs.map F).map PV.bl)])= .ok (.bl (xs.all F)) (h++[.lst ((xs.map F).map PV.bl)]):=by
  rw[pL (bs:=xs.map F) aI,VO];rfl
 simp? [He,lc,al]
theorem Au{q r:Str × PV}(e:pr q=pr r):q=r:=by
 unfold pr at e;obtain⟨a,b⟩:=q;obtain⟨a',b'⟩:=r;simp only[PV.tup.injEq,VW,PV.str.injEq,and_true] at e;rw[e.1,e.2]
theorem map_inj{α β :Type}{f: α -> β}(h: ∀ {a b},f a=f b->a=b): ∀{xs ys:List α},xs.map f=ys.map f->xs=ys
 | [],[],_=>rfl
 | x::xs,y::ys,e=>by
  rw[S7,S7,VW] at e;rw[h e.1,map_inj h e.2]
theorem Bn.AD{p q:Bn}(e:p.v=q.v):p=q:=by
 obtain⟨b,l,n,d,a⟩:=p;obtain⟨b',l',n',d',a'⟩:=q;simp only[Bn.v,PV.tup.injEq,VW,and_true] at e;obtain⟨e1,e2,e3,e4,e5⟩:=e;have si: ∀{a b:Str},PV.str a=PV.str b->a=b:=λe=>PV.str.inj e;rw[map_inj Au e1,map_inj si e2,map_inj si e3,map_inj si e4,map_inj Au e5]
theorem PN{xs:List PV}(e:xs.length=5)(f:xs.all cz=true): ∃ b l n d a,xs=[.tup b,.tup l,.tup n,.tup d,.tup a]/\b.length<=4/\l.length<=4/\n.length<=4/\d.length<=4/\a.length<=4:=by
 have g: ∀ x,cz x=true-> ∃ ys,x= .tup ys/\ys.length<=4:=λx q=>by
  cases x<;>first | exact⟨_,rfl,by simpa [cz] using q⟩ | cases q
 rcases xs with _ | ⟨x0,_ | ⟨x1,_ | ⟨x2,_ | ⟨x3,_ | ⟨x4,_ | ⟨x5,r⟩⟩⟩⟩⟩⟩<;>try (simp at e)
 simp only[Ub,Yl,Ze,Td] at f;obtain⟨b,rfl,hb⟩:=g _ f.1;obtain⟨l,rfl,hl⟩:=g _ f.2.1;obtain⟨n,rfl,hn⟩:=g _ f.2.2.1;obtain⟨d,rfl,hd⟩:=g _ f.2.2.2.1;obtain⟨a,rfl,ha⟩:=g _ f.2.2.2.2;exact⟨b,l,n,d,a,rfl,hb,hl,hn,hd,ha⟩
theorem kG{xs:List PV}{F:PV->Bool}(h: ∀ x∈xs,F x=true):xs.all F=true:=Uk.mpr h
theorem Bn.Ok.all1{p:Bn}(o:p.Ok):cy 5 p.v=true/\(parts p.v).all cz=true/\(p.b.map pr).all j5=true/\(p.l.map PV.str).all aD=true/\(p.n.map PV.str).all aD=true/\(p.d.map PV.str).all aD=true/\(p.a.map pr).all d6=true:=by
 obtain⟨f0,f1,f2,f3,f4⟩:=o.fC;have nm: ∀ ss:List Str,(∀ s∈ss,aD (.str s)=true)->(ss.map PV.str).all aD=true:=λss h=>kG λx m=>by
  obtain⟨s,ms,rfl⟩:=TR.mp m;exact h s ms
 refine⟨rfl,?_,kG λx m=>?_,nm _ o.lk,nm _ o.ln,nm _ o.dr,kG λx m=>?_⟩
 . simp only[Bn.v,parts,Ub,Yl,cz,SX,f0,f1,f2,f3,f4,decide_true,UC]
 . obtain⟨q,mq,rfl⟩:=TR.mp m;obtain⟨a,b⟩:=o.bx q mq;show(aD (.str q.1)&&aS 0 999 q.2)=true;rw[a,b];rfl
 . obtain⟨q,mq,rfl⟩:=TR.mp m;obtain⟨a,rs,e,b,_⟩:=o.hn q mq;show d6 (.tup [.str q.1,q.2])=true;rw[e];show(aD (.str q.1)&&decide (rs.length<=30))=true;rw[a,decide_eq_true b];rfl
def oQ(p:Bn)(v:PV):Bool:=(parts v).all (c8 p (parts v).length)
section
variable{pg:Tb}(T:cv pg)
include T
theorem KZ(j:Nat)(h:PH)(p:Bn)(pf:p.fC)(t:Th h p.v)(hr: ∀ q∈p.a,∃ rs,q.2= .tup rs): ∃(v:Bool)(X:PH),OS (run pg (j+13)) [fv p.v] h= .ok (.rt (.bl v)) (h++X)/\(v=true↔p.all.Nodup/\ ∀ q∈p.a,oQ p q.2=true):=by
 obtain⟨u,eu,hu⟩:=xF T (j+11) h p pf;have lc:P3.eW ⟨SU,p.a.map pr⟩ (aY 1 (gN 1) ax (af "are_rows" (a2 (ae 0) (eX 1 1))) (run pg (j+13)) [fv p.v]) (p.a.map pr) [] h= .ok ((p.a.map λq=>oQ p q.2).map PV.bl) h:=by
  refine(cP (α :=Str × PV) rfl p.a [] (f:=λq=>fv (.bl (oQ p q.2))) (λq mq=>?_) (by have:=pf.2.2.2.2;simp only[Tj];omega)).trans ?_
  . obtain⟨rs,er⟩:=hr q mq;have tq:Th h (.tup rs):=er ▸ (((t.all _ (by simp[Bn.v]:PV.tup (p.a.map pr)∈_)).all _ (T9 mq)).all q.2 (by simp[pr]));have re:=Ef T j tq p pf;have e2:oQ p q.2=rs.all (c8 p rs.length):=by rw[er];rfl
    simp? [pr,er,re,e2];rfl
  . rw[TB,TJ,Up];rfl
 have al:fw [.ref h.length] (h++[.lst ((p.a.map λq=>oQ p q.2).map PV.bl)])= .ok (.bl (p.a.all λq=>oQ p q.2)) (h++[.lst ((p.a.map λq=>oQ p q.2).map PV.bl)]):=by
  rw[pL (bs:=p.a.map λq=>oQ p q.2) aI,VO];rfl
 have i4: ∀ h,aW p.v (.int 4) h= .ok (.tup (p.a.map pr)) h:=λh=>by unfold Bn.v;exact rM
 cases u with
 | false=>exact⟨false,[],by rw[Tv];simp? [OS,eu],⟨λe=>absurd e Tn,λe=>hu.mpr e.1⟩⟩
 | true =>
  refine⟨p.a.all λq=>oQ p q.2,[.lst ((p.a.map λq=>oQ p q.2).map PV.bl)],?_,?_⟩
  . simp? [OS,eu,i4,lc,al]
  . rw[Uk];exact⟨λe=>⟨hu.mp rfl,e⟩,λe=>e.2⟩
theorem vX(j:Nat){h:PH}{x:PV}(t:Th h x): ∃ v:Bool,run pg (j+14) "is_program" [x] h= .ok (.bl v) h/\(v=true↔lj x):=by
 suffices B: ∃(v:Bool)(X:PH),cC (run pg (j+13)) [fv x] h= .ok (.rt (.bl v)) (h++X)/\(v=true↔lj x) by
  obtain⟨v,X,e,i⟩:=B;refine⟨v,?_,i⟩;rw[run_eq T.qe rfl];exact(congrArg (fin _) e).trans (by rw[cx];exact bT)
 have no: ∀ X,¬ lj x->cC (run pg (j+13)) [fv x] h= .ok (.rt (.bl false)) (h++X)-> ∃(v:Bool)(X:PH),cC (run pg (j+13)) [fv x] h= .ok (.rt (.bl v)) (h++X)/\(v=true↔lj x):=λX n e=>⟨false,X,e,⟨λe=>absurd e Tn,λe=>absurd e n⟩⟩
 have bd:cC=ah M7 Hx:=rfl;have t5:run pg (j+13) "is_tuple_of" [x,.int ((0+1+1+1+1+1:Nat):Int)] h= .ok (.bl (cy 5 x)) h:=qW T (j+12) t 5;cases c0:cy 5 x with
 | false =>
  refine no [] (λ⟨p,e,o⟩=>?_) ?_
  . subst e;rw[o.all1.1] at c0;cases c0
  . rw[Tv,bd];simp? [M7,t5,c0]
 | true =>
  obtain⟨xs,rfl,e5⟩: ∃ xs,x= .tup xs/\xs.length=5:=by cases x<;>first | exact⟨_,rfl,by simpa [cy] using c0⟩ | cases c0
  have A0:=kf (c:=run pg (j+13)) (x:= .tup xs) (h:=h) (xs:=xs) (F:=cz) (f:= "is_few") (e0:=ae 0) rfl (by omega) λz mz=>JC T (j+12) (t.all z mz)
  cases c1:xs.all cz with
  | false =>
   refine no [.lst ((xs.map cz).map PV.bl)] (λ⟨p,e,o⟩=>?_) ?_
   . have:=o.all1.2.1;rw[<- e] at this;rw[show parts (.tup xs)=xs from rfl,c1] at this;cases this
   . rw[c1] at A0;rw[bd];simp? [M7,t5,c0,↓A0]
  | true =>
   obtain⟨b,l,n,d,a,rfl,b4,l4,n4,d4,a4⟩:=PN e5 c1
   rw[c1] at A0
   have s0:M7 (run pg (j+13)) [fv (.tup [.tup b,.tup l,.tup n,.tup d,.tup a])] h= .ok (.nx [fv (.tup [.tup b,.tup l,.tup n,.tup d,.tup a])]) (h++[.lst (([.tup b,.tup l,.tup n,.tup d,.tup a].map cz).map PV.bl)]):=by
    simp? [M7,t5,c0,↓A0]
   generalize hX:([.lst (([PV.tup b,.tup l,.tup n,.tup d,.tup a].map cz).map PV.bl)]:PH)=X0 at s0
   have tb: ∀ X,∀ z∈b,Th (h++X) z:=λX z m=>((t.all (.tup b) (by simp)).all z m).gr X
   have tl: ∀ X,∀ z∈l++n++d,Th (h++X) z:=λX z m=>by
    rcases Tt.mp m with m | m
    . rcases Tt.mp m with m | m
      . exact((t.all (.tup l) (by simp)).all z m).gr X
      . exact((t.all (.tup n) (by simp)).all z m).gr X
    . exact((t.all (.tup d) (by simp)).all z m).gr X
   have ta: ∀ X,∀ z∈a,Th (h++X) z:=λX z m=>((t.all (.tup a) (by simp)).all z m).gr X
   have A1:=kf (c:=run pg (j+13)) (x:= .tup [.tup b,.tup l,.tup n,.tup d,.tup a]) (h:=h++X0) (xs:=b) (F:=j5) (f:= "is_box") (e0:=eX 0 0) rfl (by omega) λz mz=>IV T (j+9) (tb X0 z mz)
   have go: ∀{r:RV Fl},Hx (run pg (j+13)) [fv (.tup [.tup b,.tup l,.tup n,.tup d,.tup a])] (h++X0)=r->cC (run pg (j+13)) [fv (.tup [.tup b,.tup l,.tup n,.tup d,.tup a])] h=r:=λe=>by rw[bd];exact(aA s0).trans e
   have pq: ∀ p:Bn,PV.tup [.tup b,.tup l,.tup n,.tup d,.tup a]=p.v->b=p.b.map pr/\l=p.l.map PV.str/\n=p.n.map PV.str/\d=p.d.map PV.str/\a=p.a.map pr:=λp e=>by
    simpa only[Bn.v,PV.tup.injEq,VW,and_true] using e
   cases c2:b.all j5 with
   | false =>
    refine no (X0++[.lst ((b.map j5).map PV.bl)]) (λ⟨p,e,o⟩=>?_) (go ?_)
    . have:=o.all1.2.2.1;rw[<- (pq p e).1,c2] at this;cases this
    . rw[c2] at A1;rw[<- SY];simp(disch:=omega) only[Hx,OU,↓A1,bj,jJ,kD,g9,iw,iG,fP,V5,mC,nT,xo,jQ,iW]
   | true =>
    rw[c2] at A1
    have s1:OU (run pg (j+13)) [fv (.tup [.tup b,.tup l,.tup n,.tup d,.tup a])] (h++X0)= .ok (.nx [fv (.tup [.tup b,.tup l,.tup n,.tup d,.tup a])]) (h++X0++[.lst ((b.map j5).map PV.bl)]):=by
     simp(disch:=omega) only[OU,↓A1,bj,kD,g9,iw,iG,fP,WK,mn,vB]
    rw[SY] at s1
    generalize hX1:X0++[.lst ((b.map j5).map PV.bl)]=X1 at s1
    have ad: ∀ h,(ai ak (ai ak (eX 0 1) (eX 0 2)) (eX 0 3)) (run pg (j+13)) [fv (.tup [.tup b,.tup l,.tup n,.tup d,.tup a])] h= .ok (.tup (l++n++d)) h:=λh=>by
     simp(disch:=(first | omega | (simp only[S1];omega))) only[rZ,nJ,sf,sJ,Vg,yp,Dm,CH,bj,bX]
    have A2:=kf (c:=run pg (j+13)) (x:= .tup [.tup b,.tup l,.tup n,.tup d,.tup a]) (h:=h++X1) (xs:=l++n++d) (F:=aD) (f:= "is_name") (e0:=ai ak (ai ak (eX 0 1) (eX 0 2)) (eX 0 3)) (ad _) (by simp only[S1];omega) λz mz=>j0 T (j+11) (tl X1 z mz)
    cases c3:(l++n++d).all aD with
    | false =>
     refine no (X1++[.lst (((l++n++d).map aD).map PV.bl)]) (λ⟨p,e,o⟩=>?_) (go ((aA s1).trans ?_))
     . obtain⟨_,e2,e3,e4,_⟩:=pq p e;obtain⟨_,_,_,o1,o2,o3,_⟩:=o.all1;rw[e2,e3,e4,Vk,Vk,o1,o2,o3] at c3;cases c3
     . rw[c3] at A2;rw[<- SY];simp(disch:=omega) only[L7,O8,↓A2,bj,jJ,kD,g9,iw,iG,fP,V5,mC,nT,xo,jQ,iW]
    | true =>
     rw[c3] at A2
     have s2:O8 (run pg (j+13)) [fv (.tup [.tup b,.tup l,.tup n,.tup d,.tup a])] (h++X1)= .ok (.nx [fv (.tup [.tup b,.tup l,.tup n,.tup d,.tup a])]) (h++X1++[.lst (((l++n++d).map aD).map PV.bl)]):=by
      simp(disch:=omega) only[O8,↓A2,bj,kD,g9,iw,iG,fP,WK,mn,vB]
     rw[SY] at s2
     generalize hX2:X1++[.lst (((l++n++d).map aD).map PV.bl)]=X2 at s2
     have go2: ∀{r:RV Fl},Fe (run pg (j+13)) [fv (.tup [.tup b,.tup l,.tup n,.tup d,.tup a])] (h++X2)=r->cC (run pg (j+13)) [fv (.tup [.tup b,.tup l,.tup n,.tup d,.tup a])] h=r:=λe=>go ((aA s1).trans ((aA s2).trans e))
     rcases a with _ | ⟨a0,ar⟩
     . refine no X2 (λ⟨p,e,o⟩=>?_) (go2 ?_)
       . have:=(pq p e).2.2.2.2;exact o.ne (by cases q:p.a with | nil=>rfl | cons _ _=>rw[q] at this;cases this)
       . simp? [Fe,Mg,Ti]
     . have l0: ¬ ((ar.length:Int)+1=0):=by omega
       have A3:=kf (c:=run pg (j+13)) (x:= .tup [.tup b,.tup l,.tup n,.tup d,.tup (a0::ar)]) (h:=h++X2) (xs:=a0::ar) (F:=d6) (f:= "is_hand") (e0:=eX 0 4) rfl (by omega) λz mz=>Ed T (j+10) (ta X2 z mz);cases c4:(a0::ar).all d6 with
       | false =>
        refine no (X2++[.lst (((a0::ar).map d6).map PV.bl)]) (λ⟨p,e,o⟩=>?_) (go2 ?_)
        . obtain⟨_,_,_,_,_,_,o4⟩:=o.all1;rw[<- (pq p e).2.2.2.2,c4] at o4;cases o4
        . rw[c4] at A3;rw[<- SY];have k:bK (ao (eB fw (aa (dw 1 (cU (eX 0 4)) (gN 1) ax (af "is_hand" (a1 (ae 1)))) ag))) (run pg (j+13)) [fv (.tup [.tup b,.tup l,.tup n,.tup d,.tup (a0::ar)])] (h++X2)= .ok true (h++X2++[.lst (((a0::ar).map d6).map PV.bl)]):=by
           simp only[↓A3,bj,g9,iw,iG,fP,V5]
          simp? [Fe,Mg,↓k,l0,TF,Ti]
       | true =>
        rw[c4] at A3
        have s3:Mg (run pg (j+13)) [fv (.tup [.tup b,.tup l,.tup n,.tup d,.tup (a0::ar)])] (h++X2)= .ok (.nx [fv (.tup [.tup b,.tup l,.tup n,.tup d,.tup (a0::ar)])]) (h++X2++[.lst (((a0::ar).map d6).map PV.bl)]):=by
         have k:bK (ao (eB fw (aa (dw 1 (cU (eX 0 4)) (gN 1) ax (af "is_hand" (a1 (ae 1)))) ag))) (run pg (j+13)) [fv (.tup [.tup b,.tup l,.tup n,.tup d,.tup (a0::ar)])] (h++X2)= .ok false (h++X2++[.lst (((a0::ar).map d6).map PV.bl)]):=by
          simp only[↓A3,bj,g9,iw,iG,fP,WK]
         simp? [Mg,↓k,l0,TF,Ti]
        rw[SY] at s3
        generalize hX3:X2++[.lst (((a0::ar).map d6).map PV.bl)]=X3 at s3
        generalize ha:a0::ar=a at *
        rw[Vk,Vk,Td,Td] at c3
        obtain⟨bs,rfl,hb⟩:=uo (Q:=λq=>aD (.str q.1)=true/\aS 0 999 q.2=true) (λx=>G8) c2
        obtain⟨ls,rfl,hl⟩:=dH c3.1.1
        obtain⟨ns,rfl,hn⟩:=dH c3.1.2
        obtain⟨ds,rfl,hd⟩:=dH c3.2
        obtain⟨as,rfl,hh⟩:=uo (Q:=λq=>aD (.str q.1)=true/\ ∃ rs,q.2= .tup rs/\rs.length<=30) (λx=>B2) c4
        have pf:(Bn.mk bs ls ns ds as).fC:=by
         simp only[SX] at b4 l4 n4 d4 a4;exact⟨b4,l4,n4,d4,a4⟩
        obtain⟨v,X,e4,i4⟩:=KZ T j (h++X3) ⟨bs,ls,ns,ds,as⟩ pf (t.gr X3) λq mq=>by
         obtain⟨_,rs,er,_⟩:=hh q mq;exact⟨rs,er⟩
        refine⟨v,X3++X,?_,i4.trans ⟨λz=>⟨⟨bs,ls,ns,ds,as⟩,rfl,pf,hb,hl,hn,hd,?_,λq mq=>?_,z.1⟩,λz=>?_⟩⟩
        . rw[<- SY];exact go2 ((aA s3).trans e4)
        . intro c;have c':as=[]:=c;rw[c'] at ha;cases ha
        . obtain⟨n0,rs,er,l3⟩:=hh q mq;refine⟨n0,rs,er,l3,λr mr=>?_⟩;have:=z.2 q mq;rw[er] at this;exact Uk.mp this r mr
        . obtain⟨p,ep,o⟩:=z;obtain rfl:=Bn.AD (p:=⟨bs,ls,ns,ds,as⟩) ep;refine⟨o.un,λq mq=>?_⟩;obtain⟨_,rs,er,_,hr⟩:=o.hn q mq;rw[er];exact Uk.mpr hr
end
def Lk:MS:=(bC (fL (bK (ao (eB aP (aa (ae 0) (aa (eC (.ty "tuple")) ag))))) (fL (ao (ai i8 (eB aO (a1 (ae 0))) (eI 5))) (fL (bK (ao (af "_law_pairs" (a2 (eX 0 0) (eI 0))))) (bK (ao (af "_law_pairs" (a2 (eX 0 4) (eI 1)))))))) (av (eC (.bl false))) bz)
def PY:MS:=(bC (ao (ai fK (eC (.bl false)) (dw 1 (cU (dR (ae 0) (aK (eI 1)) (aK (eI 4)))) (gN 5) ax (dQ (eB aP (aa (ae 5) (aa (eC (.ty "tuple")) ag))) (ai qA (eB aO (a1 (ae 5))) (eI 5)))))) (av (eC (.bl false))) bz)
def Pt:MS:=(ay (ef (aQ (eS "box") (dw 1 (cU (eX 0 0)) (gN 5) ax (eX 5 0)) (aQ (eS "lock") (eB dN (a1 (eX 0 1))) (aQ (eS "lane") (eB dN (a1 (eX 0 2))) gP)))) (gN 1))
def QY:MS:=(nW lN (ae 1) (eS "door") (eB dN (a1 (eX 0 3))))
def Rj:MS:=(ay (ai ak (ai ak (ai ak (ai ak (ai aW (ae 1) (eS "box")) (ai aW (ae 1) (eS "lock"))) (ai aW (ae 1) (eS "lane"))) (ai aW (ae 1) (eS "door"))) (dw 1 (cU (eX 0 4)) (gN 5) ax (eX 5 0))) (gN 2))
def LG:MS:=(bC (fL (ao (ai fK (eC (.bl false)) (dw 1 (cU (ae 2)) (gN 5) ax (af "_law_is_name" (a1 (ae 5)))))) (ao (ai qA (Ll (a1 (ae 2))) (eB aO (a1 (ae 2)))))) (av (eC (.bl false))) bz)
def P5:MS:=(bC (ao (ai fK (eC (.bl false)) (dw 1 (cU (eX 0 0)) (gN 5) ax (af "_law_whole" (a3 (eX 5 1) (eI 0) (eI 999)))))) (av (eC (.bl false))) bz)
def RN:MS:=(cI (cU (eX 0 4)) (gT 2 (ba (gN 3) (ba (gN 4) eO))) (ah (bC (fL (bK (ao (eB aP (aa (ae 4) (aa (eC (.ty "tuple")) ag))))) (ao (ai pG (eB aO (a1 (ae 4))) (eI 30)))) (av (eC (.bl false))) bz) (bC (ao (ai fK (eC (.bl false)) (dw 1 (cU (ae 4)) (gN 5) ax (af "_law_row_right" (aa (ae 5) (aa (ae 1) (aa (eB aO (a1 (ae 4))) ag))))))) (av (eC (.bl false))) bz)))
def Sq:MS:=(av (eC (.bl true)))
def Ql:MS:=Sq
def Ny:MS:=ah RN Ql
def QB:MS:=ah P5 Ny
def Ol:MS:=ah LG QB
def Rf:MS:=ah Rj Ol
def Qd:MS:=ah QY Rf
def Py:MS:=ah Pt Qd
def Pp:MS:=ah PY Py
noncomputable def ip(q:PV × PV):PV:= .tup [q.1,q.2]
def cO(m:Nat):PV->Bool
 | .tup xs=>decide (m<=xs.length/\xs.length<=4)&&xs.all (cy 2)
 | _=>false
def xb(p:Bn):PV->Bool
 | .tup rs=>decide (rs.length<=30)&&rs.all (c8 p rs.length)
 | _=>false
theorem Aw: ∀{xs:List PV},xs.all (cy 2)=true-> ∃ qs:List (PV × PV),xs=qs.map ip
 | [],_=>⟨[],rfl⟩
 | x::r,e=>by
  rw[Ub,Td] at e;obtain⟨qs,rfl⟩:=Aw e.2;obtain⟨q,rfl⟩: ∃ q,x=ip q:=by
   cases x with
   | tup ys =>
    have e1:ys.length=2:=by simpa [cy] using e.1
    rcases ys with _ | ⟨y,_ | ⟨z,_ | ⟨u,s⟩⟩⟩<;>try (simp at e1)
    exact⟨(y,z),rfl⟩
   | _=>nomatch e.1
  exact⟨q::qs,rfl⟩
theorem wF{c:CF}{h:PH}{z:PV}(t:Th h z){E:a9}{m:Nat}(hm:E[m]?=fv (fv z))(k:Int)(k5:k=2\/k=5):(k=2->dQ (eB aP (aa (ae m) (aa (eC (.ty "tuple")) ag))) (ai hU (eB aO (a1 (ae m))) (eI 2)) c E h= .ok (.bl (cy 2 z)) h)/\(k=5->dQ (eB aP (aa (ae m) (aa (eC (.ty "tuple")) ag))) (ai qA (eB aO (a1 (ae m))) (eI 5)) c E h= .ok (.bl (cz z)) h):=by
 cases t with
 | box n b=>constructor<;>(intro _;simp? [hm,(bo b).1,cy,cz])
 | tup xs l a =>
  have d1:decide ((xs.length:Int)=2)=decide (xs.length=2):=decide_eq_decide.mpr (by omega)
  have d2:decide ((xs.length:Int) < 5)=decide (xs.length<=4):=decide_eq_decide.mpr (by omega)
  constructor<;>(intro _;simp? [hm,aJ,cy,cz,d1,d2])
 | _=>constructor<;>(intro _;simp? [hm,dE,dB,c9,dA,cy,cz])
section
variable{pg:Tb}(T:cv pg)
include T
theorem r9(j:Nat){h:PH}{x:PV}(t:Th h x)(m:Nat):run pg (j+1) "_law_pairs" [x,.int m] h= .ok (.bl (cO m x)) h:=by
 rw[run_eq T.qM rfl];cases t with
 | box n b=>simp? [cg,df,(bo b).1,cO]
 | tup xs l a =>
  by_cases c1:m<=xs.length
  . have c1':(m:Int)<=(xs.length:Int):=by omega
    by_cases c2:xs.length<=4
    . have c2':(xs.length:Int)<=4:=by omega
      have lc:P3.eW ⟨SU,xs⟩ (aY 1 (gN 2) ax (dQ (eB aP (aa (ae 2) (aa (eC (.ty "tuple")) ag))) (ai hU (eB aO (a1 (ae 2))) (eI 2))) (run pg j) [fv (.tup xs),fv (.int m)]) xs [] h= .ok ((xs.map (cy 2)).map PV.bl) h:=by
       refine(d9 xs [] (f:=λz=>fv (.bl (cy 2 z))) (λz mz=>?_) (by simp only[Tj];omega)).trans ?_
       . have k:=(wF (c:=run pg j) (a z mz) (E:=[fv (.tup xs),fv (.int m),fv z]) (m:=2) rfl 2 (.inl rfl)).1 rfl;simp? [↓k]
       . rw[TB,TJ,Up];rfl
      have ni:cX (.bl false) (.ref h.length) (h++[.lst ((xs.map (cy 2)).map PV.bl)])= .ok (.bl (xs.all (cy 2))) (h++[.lst ((xs.map (cy 2)).map PV.bl)]):=by
       rw[Ae (ss:=xs.map (cy 2)) aI,VO];rfl
      simp? [cg,df,aJ,c1',c2',lc,ni,bT,cO,c1,c2,and_self,Us]
    . have c2': ¬ (xs.length:Int)<=4:=by omega
      simp? [cg,df,aJ,c1',c2',cO,c2,and_false,Uc]
  . have c1': ¬ (m:Int)<=(xs.length:Int):=by omega
    simp? [cg,df,aJ,c1',cO,c1,false_and,Uc]
 | _=>simp? [cg,df,dE,dB,c9,dA,cO]
end
noncomputable def D3(L:Nat):List (Key × PV):=[(.inr "box",.ref (L+1)),(.inr "lock",.ref (L+2)),(.inr "lane",.ref (L+3))]
noncomputable def D4(L:Nat):List (Key × PV):=[(.inr "box",.ref (L+1)),(.inr "lock",.ref (L+2)),(.inr "lane",.ref (L+3)),(.inr "door",.ref (L+4))]
def zz(L:Nat)(b l n d a:List PV):PH:=[.dct (D4 L),.lst b,.lst l,.lst n,.lst d,.lst (b++l),.lst (b++l++n),.lst (b++l++n++d),.lst a,.lst (b++l++n++d++a)]
theorem vz{qs:List (PV × PV)}{g:CF}{e:a9}{h:PH}(hm:e.length=5)(hq:qs.length<=1000000):P3.eW ⟨SU,qs.map ip⟩ (aY 1 (gN 5) ax (eX 5 0) g e) (qs.map ip) [] h= .ok (qs.map (·.1)) h:=by
 refine(cP (α :=PV × PV) rfl qs [] (f:=λq=>fv q.1) (λq _=>?_) (by simp only[Tj];omega)).trans ?_
 . have e1:(e++S4 1 SU).set 5 (fv (ip q))=e++[fv (ip q)]:=by
    rw[<- hm];simp[S4]
   have e2:(e++[fv (ip q)])[5]?=fv (fv (ip q)):=by rw[<- hm];simp
   simp(disch:=omega) only[p6,gy,e1,bj,vh,qN,qV,sf,e2];simp only[sJ,ip,zo,uX,bj]
 . rw[TB,TJ]
def lW(bq:List (PV × PV))(l n d:List PV)(aq:List (PV × PV)):PV:= .tup [.tup (bq.map ip),.tup l,.tup n,.tup d,.tup (aq.map ip)]
section
variable{c:CF}{bq aq:List (PV × PV)}{l n d:List PV}(hb:bq.length<=4)(hl:l.length<=4)(hn:n.length<=4)(hd:d.length<=4)(ha:aq.length<=4){H:PH}
include hb in
theorem GZ:Pt c [fv (lW bq l n d aq),SU,SU,SU,SU] H= .ok (.nx [fv (lW bq l n d aq),fv (.ref H.length),SU,SU,SU]) (H++[.dct (D3 H.length),.lst (bq.map (·.1)),.lst l,.lst n]):=by
 have dk: ∀(kvs:List (Key × PV))(Y:PH),kvs.length<=15->B6 H.length kvs (H++ .dct []::Y)= .ok (.ref H.length) (H++ .dct (bp [] kvs)::Y):=λkvs Y hl=>by
  rw[uD aI hl,dj];rfl
 have m:bp [] (D3 H.length)=D3 H.length:=by simp[bp,fA,aj,D3]
 have dk':=dk (D3 H.length) [.lst (bq.map (·.1)),.lst l,.lst n] (show 3<=15 by decide)
 rw[m] at dk';have lc:P3.eW ⟨SU,bq.map ip⟩ (aY 1 (gN 5) ax (eX 5 0) c [fv (lW bq l n d aq),SU,SU,SU,SU]) (bq.map ip) [] (H++[.dct []])= .ok (bq.map (·.1)) (H++[.dct []]):=vz rfl (by omega)
 unfold lW at lc ⊢;simp? [Pt,g8,jy,jm,gJ,jw,jt,lc];exact(congrArg (λr=>RV.bind r (tR (gN 1) _)) dk').trans rfl
theorem JU:QY c [fv (lW bq l n d aq),fv (.ref H.length),SU,SU,SU] (H++[.dct (D3 H.length),.lst (bq.map (·.1)),.lst l,.lst n])= .ok (.nx [fv (lW bq l n d aq),fv (.ref H.length),SU,SU,SU]) (H++[.dct (D4 H.length),.lst (bq.map (·.1)),.lst l,.lst n,.lst d]):=by
 have m:fA (D3 H.length) (.inr "door") (.ref (H.length+4))=D4 H.length:=by simp[fA,aj,D3,D4]
 have pd:=wM (h:=H++[.dct (D3 H.length),.lst (bq.map (·.1)),.lst l,.lst n,.lst d]) (n:=H.length) (a:= "door") (v:= .ref (H.length+4)) (kvs:=D3 H.length) (show 3 < 16777216 by decide)
 rw[m,dj] at pd;unfold lW;simp? [QY];exact(congrArg (λr=>RV.bind r (Ri _)) pd).trans rfl
include hb hl hn hd ha in
theorem GR:Rj c [fv (lW bq l n d aq),fv (.ref H.length),SU,SU,SU] (H++[.dct (D4 H.length),.lst (bq.map (·.1)),.lst l,.lst n,.lst d])= .ok (.nx [fv (lW bq l n d aq),fv (.ref H.length),fv (.ref (H.length+9)),SU,SU]) (H++zz H.length (bq.map (·.1)) l n d (aq.map (·.1))):=by
 have v1:aU (D4 H.length) (.inr "box")=fv (.ref (H.length+1)):=by simp[aU,D4,aj]
 have v2:aU (D4 H.length) (.inr "lock")=fv (.ref (H.length+2)):=by simp[aU,D4,aj]
 have v3:aU (D4 H.length) (.inr "lane")=fv (.ref (H.length+3)):=by simp[aU,D4,aj]
 have v4:aU (D4 H.length) (.inr "door")=fv (.ref (H.length+4)):=by simp[aU,D4,aj]
 generalize hB:bq.map (·.1)=B
 have B4:B.length<=4:=by rw[<- hB,SX];exact hb
 generalize hA:aq.map (·.1)=A
 have A4:A.length<=4:=by rw[<- hA,SX];exact ha
 have a1':ak (.ref (H.length+1)) (.ref (H.length+2)) (H++[.dct (D4 H.length),.lst B,.lst l,.lst n,.lst d])= .ok (.ref (H.length+5)) (H++[.dct (D4 H.length),.lst B,.lst l,.lst n,.lst d,.lst (B++l)]):=by
  refine(cF (xs:=B) (ys:=l) (by rw[aw];rfl) (by rw[aw];rfl) (by omega)).trans ?_;rw[S1,SY H];rfl
 have a2':ak (.ref (H.length+5)) (.ref (H.length+3)) (H++[.dct (D4 H.length),.lst B,.lst l,.lst n,.lst d,.lst (B++l)])= .ok (.ref (H.length+6)) (H++[.dct (D4 H.length),.lst B,.lst l,.lst n,.lst d,.lst (B++l),.lst (B++l++n)]):=by
  refine(cF (xs:=B++l) (ys:=n) (by rw[aw];rfl) (by rw[aw];rfl) (by rw[S1];omega)).trans ?_;rw[S1,SY H];rfl
 have a3':ak (.ref (H.length+6)) (.ref (H.length+4)) (H++[.dct (D4 H.length),.lst B,.lst l,.lst n,.lst d,.lst (B++l),.lst (B++l++n)])= .ok (.ref (H.length+7)) (H++[.dct (D4 H.length),.lst B,.lst l,.lst n,.lst d,.lst (B++l),.lst (B++l++n),.lst (B++l++n++d)]):=by
  refine(cF (xs:=B++l++n) (ys:=d) (by rw[aw];rfl) (by rw[aw];rfl) (by simp only[S1];omega)).trans ?_;rw[S1,SY H];rfl
 have a4':ak (.ref (H.length+7)) (.ref (H.length+8)) (H++[.dct (D4 H.length),.lst B,.lst l,.lst n,.lst d,.lst (B++l),.lst (B++l++n),.lst (B++l++n++d),.lst A])= .ok (.ref (H.length+9)) (H++zz H.length B l n d A):=by
  refine(cF (xs:=B++l++n++d) (ys:=A) (by rw[aw];rfl) (by rw[aw];rfl) (by simp only[S1];omega)).trans ?_;rw[S1,SY H];rfl
 have lc: ∀ h,P3.eW ⟨SU,aq.map ip⟩ (aY 1 (gN 5) ax (eX 5 0) c [fv (lW bq l n d aq),fv (.ref H.length),SU,SU,SU]) (aq.map ip) [] h= .ok A h:=λh=>hA ▸ vz rfl (by omega);have i4: ∀ h,aW (lW bq l n d aq) (.int 4) h= .ok (.tup (aq.map ip)) h:=λh=>by unfold lW;exact rM
 have el:dw 1 (cU (eX 0 4)) (gN 5) ax (eX 5 0) c [fv (lW bq l n d aq),fv (.ref H.length),SU,SU,SU] (H++[.dct (D4 H.length),.lst B,.lst l,.lst n,.lst d,.lst (B++l),.lst (B++l++n),.lst (B++l++n++d)])= .ok (.ref (H.length+8)) (H++[.dct (D4 H.length),.lst B,.lst l,.lst n,.lst d,.lst (B++l),.lst (B++l++n),.lst (B++l++n++d),.lst A]):=by
  simp? [i4,lc]
 simp(disch:=omega) only[Rj,yP,rZ,nJ,qx,lQ,yT,xo,bj,tM,aI,Bm,v1,v2,v3,v4,j8,a1',a2',a3',↓el,a4',vS,tZ,gy,Vg,Ut,Vb,Vc]
end
section
variable{pg:Tb}(T:cv pg)
theorem IM{c:CF}{x0 x1 x2 x3 x4:PV}{h:PH}(t1:Th h x1)(t2:Th h x2)(t3:Th h x3): ∃ X,PY c [fv (.tup [x0,x1,x2,x3,x4]),SU,SU,SU,SU] h= .ok (if (cz x1&&(cz x2&&cz x3))=true then .nx [fv (.tup [x0,x1,x2,x3,x4]),SU,SU,SU,SU] else .rt (.bl false)) (h++X):=by
 have lc:P3.eW ⟨SU,[x1,x2,x3]⟩ (aY 1 (gN 5) ax (dQ (eB aP (aa (ae 5) (aa (eC (.ty "tuple")) ag))) (ai qA (eB aO (a1 (ae 5))) (eI 5))) c [fv (.tup [x0,x1,x2,x3,x4]),SU,SU,SU,SU]) [x1,x2,x3] [] h= .ok (([x1,x2,x3].map cz).map PV.bl) h:=by
  refine(d9 [x1,x2,x3] [] (f:=λz=>fv (.bl (cz z))) (λz mz=>?_) (by simp)).trans ?_
  . have tz:Th h z:=by
     simp only[Tq,UD,or_false] at mz;rcases mz with rfl | rfl | rfl<;>assumption
    have k:=(wF (c:=c) tz (E:=[fv (.tup [x0,x1,x2,x3,x4]),SU,SU,SU,SU,fv z]) (m:=5) rfl 5 (.inr rfl)).2 rfl;simp? [↓k]
  . rw[TB,TJ,Up];rfl
 have cu:bV [x0,x1,x2,x3,x4] (fv 1) (fv 4)=[x1,x2,x3]:=by rw[P3.DH (by decide) (by decide)];rfl
 have ni:fK (.bl false) (.ref h.length) (h++[.lst (([x1,x2,x3].map cz).map PV.bl)])= .ok (.bl (!(cz x1&&(cz x2&&cz x3)))) (h++[.lst (([x1,x2,x3].map cz).map PV.bl)]):=by
  rw[OL (ss:=[x1,x2,x3].map cz) aI];simp
 refine⟨[.lst (([x1,x2,x3].map cz).map PV.bl)],?_⟩;have el:dw 1 (cU (dR (ae 0) (aK (eI 1)) (aK (eI 4)))) (gN 5) ax (dQ (eB aP (aa (ae 5) (aa (eC (.ty "tuple")) ag))) (ai qA (eB aO (a1 (ae 5))) (eI 5))) c [fv (.tup [x0,x1,x2,x3,x4]),SU,SU,SU,SU] h= .ok (.ref h.length) (h++[.lst (([x1,x2,x3].map cz).map PV.bl)]):=by
  have lc':=lc;simp only[S7,U0] at lc';simp? [cu,lc']
 cases q:(cz x1&&(cz x2&&cz x3))<;>rw[q] at ni<;>simp only[PY,kD,iw,rZ,nJ,xo,bj,↓el,ni,iG,WK,V5,mC,mn,nT,jQ,vB,VM,if_true,if_false]
include T
theorem IG(j:Nat){H:PH}{x:PV}{r m:Nat}{zs:List PV}(em:H[m]?=fv (.lst zs))(tz: ∀ z∈zs,Th H z)(lz:zs.length<=1000)(P:Bool)(hP:P=true↔ ∃ ss:List Str,zs=ss.map PV.str/\(∀ s∈ss,aD (.str s)=true)/\ss.Nodup): ∃ X,LG (run pg (j+1)) [fv x,fv (.ref r),fv (.ref m),SU,SU] H= .ok (if P=true then .nx [fv x,fv (.ref r),fv (.ref m),SU,SU] else .rt (.bl false)) (H++X):=by
 have lc:P3.eW ⟨fv m,zs⟩ (aY 1 (gN 5) ax (af "_law_is_name" (a1 (ae 5))) (run pg (j+1)) [fv x,fv (.ref r),fv (.ref m),SU,SU]) zs [] H= .ok ((zs.map aD).map PV.bl) H:=by
  refine(kK (eY em) zs [] (f:=λz=>fv (.bl (aD z))) (λz mz=>?_) (by simp only[Tj];omega)).trans ?_
  . have k:=nH T j (tz z mz);simp? [k]
  . rw[TB,TJ,Up];rfl
 have ni:fK (.bl false) (.ref H.length) (H++[.lst ((zs.map aD).map PV.bl)])= .ok (.bl (!zs.all aD)) (H++[.lst ((zs.map aD).map PV.bl)]):=by
  rw[OL (ss:=zs.map aD) aI,VO];rfl
 refine⟨[.lst ((zs.map aD).map PV.bl)],?_⟩;have el:dw 1 (cU (ae 2)) (gN 5) ax (af "_law_is_name" (a1 (ae 5))) (run pg (j+1)) [fv x,fv (.ref r),fv (.ref m),SU,SU] H= .ok (.ref H.length) (H++[.lst ((zs.map aD).map PV.bl)]):=by
  simp? [em,lc]
 have em':(H++[.lst ((zs.map aD).map PV.bl)])[m]?=fv (.lst zs):=cm em;generalize hH:H++[.lst ((zs.map aD).map PV.bl)]=H' at ni el em' ⊢;cases q:zs.all aD with
 | false =>
  have hp:P=false:=by
   cases P with
   | false=>rfl
   | true =>
    obtain⟨ss,rfl,hs,_⟩:=hP.mp rfl
    rw[kG (λz mz=>by obtain⟨s,ms,rfl⟩:=TR.mp mz;exact hs s ms)] at q
    cases q
  rw[q] at ni
  rw[hp]
  simp? [LG,↓el,ni]
 | true =>
  obtain⟨ss,rfl,hs⟩:=dH q
  rw[q] at ni
  rw[SX] at lz
  have ls:=su (n:=m) (h:=H') (ss:=ss) em' lz
  obtain⟨d1,d2⟩:=uT ss
  have pe:(((dd ss).length:Int) < (ss.length:Int))↔ ¬ P=true:=by
   have si: ∀{a b:Str},PV.str a=PV.str b->a=b:=λe=>PV.str.inj e;have k:P=true↔ss.Nodup:=hP.trans ⟨λ⟨ss',e,_,n⟩=>by rw[map_inj si e];exact n,λn=>⟨ss,rfl,hs,n⟩⟩;rw[k,<- d2];omega
  cases P with
  | true =>
   have pe': ¬ (((dd ss).length:Int) < (ss.length:Int)):=λc=>(pe.mp c) rfl
   simp? [LG,↓el,ni,uR,ls,em',SX,pe']
  | false =>
   have pe':(((dd ss).length:Int) < (ss.length:Int)):=pe.mpr (λc=>nomatch c)
   simp? [LG,↓el,ni,uR,ls,em',SX,pe']
theorem Ku(j:Nat){H:PH}{bq:List (PV × PV)}{x1 x2 x3 x4:PV}{r m:Nat}(tz: ∀ q∈bq,Th H q.2)(lz:bq.length<=4): ∃ X,P5 (run pg (j+1)) [fv (.tup [.tup (bq.map ip),x1,x2,x3,x4]),fv (.ref r),fv (.ref m),SU,SU] H= .ok (if (bq.all λq=>aS 0 999 q.2)=true then .nx [fv (.tup [.tup (bq.map ip),x1,x2,x3,x4]),fv (.ref r),fv (.ref m),SU,SU] else .rt (.bl false)) (H++X):=by
 have lc:P3.eW ⟨SU,bq.map ip⟩ (aY 1 (gN 5) ax (af "_law_whole" (a3 (eX 5 1) (eI 0) (eI 999))) (run pg (j+1)) [fv (.tup [.tup (bq.map ip),x1,x2,x3,x4]),fv (.ref r),fv (.ref m),SU,SU]) (bq.map ip) [] H= .ok ((bq.map λq=>aS 0 999 q.2).map PV.bl) H:=by
  refine(cP (α :=PV × PV) rfl bq [] (f:=λq=>fv (.bl (aS 0 999 q.2))) (λq mq=>?_) (by simp only[Tj];omega)).trans ?_
  . have k:=jb T j (tz q mq) 0 999;simp? [ip,k]
  . rw[TB,TJ,Up];rfl
 have ni:fK (.bl false) (.ref H.length) (H++[.lst ((bq.map λq=>aS 0 999 q.2).map PV.bl)])= .ok (.bl (!bq.all λq=>aS 0 999 q.2)) (H++[.lst ((bq.map λq=>aS 0 999 q.2).map PV.bl)]):=by
  rw[OL (ss:=bq.map λq=>aS 0 999 q.2) aI,VO];rfl
 refine⟨[.lst ((bq.map λq=>aS 0 999 q.2).map PV.bl)],?_⟩;cases q:bq.all λq=>aS 0 999 q.2<;>rw[q] at ni<;>simp? [P5,lc,ni]
end
def BZ:MS:=(bC (fL (bK (ao (eB aP (aa (ae 4) (aa (eC (.ty "tuple")) ag))))) (ao (ai pG (eB aO (a1 (ae 4))) (eI 30)))) (av (eC (.bl false))) bz)
def Kz:MS:=(bC (ao (ai fK (eC (.bl false)) (dw 1 (cU (ae 4)) (gN 5) ax (af "_law_row_right" (aa (ae 5) (aa (ae 1) (aa (eB aO (a1 (ae 4))) ag))))))) (av (eC (.bl false))) bz)
section
variable{pg:Tb}(T:cv pg)
include T
theorem Ni(j:Nat){H:PH}{x w v:PV}{r m:Nat}(p:Bn)(N:B1 H r p)(t:Th H v): ∃ X,ah BZ Kz (run pg (j+10)) [fv x,fv (.ref r),fv (.ref m),fv w,fv v] H= .ok (if xb p v=true then .nx [fv x,fv (.ref r),fv (.ref m),fv w,fv v] else .rt (.bl false)) (H++X):=by
 cases t with
 | box n b=>exact⟨[],by rw[Tv];simp? [BZ,(bo b).1,xb]⟩
 | tup rs l a =>
  by_cases c:rs.length<=30
  . have c': ¬ (30:Int) < (rs.length:Int):=by omega
    have lc:P3.eW ⟨SU,rs⟩ (aY 1 (gN 5) ax (af "_law_row_right" (aa (ae 5) (aa (ae 1) (aa (eB aO (a1 (ae 4))) ag)))) (run pg (j+10)) [fv x,fv (.ref r),fv (.ref m),fv w,fv (.tup rs)]) rs [] H= .ok ((rs.map (c8 p rs.length)).map PV.bl) H:=by
     refine(d9 rs [] (f:=λz=>fv (.bl (c8 p rs.length z))) (λz mz=>?_) (by simp only[Tj];omega)).trans ?_
     . have k:=EA T j (a z mz) p N rs.length;simp? [k]
     . rw[TB,TJ,Up];rfl
    have ni:fK (.bl false) (.ref H.length) (H++[.lst ((rs.map (c8 p rs.length)).map PV.bl)])= .ok (.bl (!rs.all (c8 p rs.length))) (H++[.lst ((rs.map (c8 p rs.length)).map PV.bl)]):=by
     rw[OL (ss:=rs.map (c8 p rs.length)) aI,VO];rfl
    refine⟨[.lst ((rs.map (c8 p rs.length)).map PV.bl)],?_⟩;have ok:xb p (.tup rs)=rs.all (c8 p rs.length):=by simp only[xb,c,decide_true,Us]
    rw[ok];cases q:rs.all (c8 p rs.length)<;>rw[q] at ni<;>simp? [BZ,Kz,aJ,c',lc,ni]
  . have c':(30:Int) < (rs.length:Int):=by omega
    have ok:xb p (.tup rs)=false:=by simp only[xb,c,decide_false,Uc]
    rw[ok];exact⟨[],by rw[Tv];simp? [BZ,aJ,c']⟩
 | _=>exact⟨[],by rw[Tv];simp? [BZ,dE,dB,c9,dA,xb]⟩
theorem wK(j:Nat){H:PH}{x:PV}{r m:Nat}(p:Bn)(N:B1 H r p)(az:List PV): ∀(qs:List (Str × PV))(Y:PH)(o3 o4:Option PV),(∀ q∈qs,Th H q.2)-> ∃(Y':PH)(o3' o4':Option PV),bM ⟨SU,az⟩ (bZ (gT 2 (ba (gN 3) (ba (gN 4) eO))) (ah BZ Kz) (run pg (j+10))) (qs.map pr) [fv x,fv (.ref r),fv (.ref m),o3,o4] (H++Y)= .ok (if (qs.all λq=>xb p q.2)=true then .nx [fv x,fv (.ref r),fv (.ref m),o3',o4'] else .rt (.bl false)) (H++Y')
 | [],Y,o3,o4,_=>⟨Y,o3,o4,by simp[bM,jO.eU]⟩
 | q::qs,Y,o3,o4,ht=>by
  obtain⟨X,e⟩:=Ni T j (x:=x) (w:= .str q.1) (m:=m) p (N.gr Y) ((ht q S8).gr Y);have st:bZ (gT 2 (ba (gN 3) (ba (gN 4) eO))) (ah BZ Kz) (run pg (j+10)) (pr q) [fv x,fv (.ref r),fv (.ref m),o3,o4] (H++Y)=ah BZ Kz (run pg (j+10)) [fv x,fv (.ref r),fv (.ref m),fv (.str q.1),fv q.2] (H++Y):=by
   unfold pr;rw[fQ];simp only[y8,FW,AB,Ac,gy,tZ,Vb,Vc,bj]
  rw[S7,nt,st,e,bj,Ub,SY];cases c:xb p q.2 with
  | false=>exact⟨Y++X,SU,SU,by simp only[VM,if_false,Uc,C8]⟩
  | true =>
   obtain⟨Y',o3',o4',e'⟩:=wK j (x:=x) (m:=m) p N az qs (Y++X) (fv (.str q.1)) (fv q.2) (λz mz=>ht z (S9 _ mz))
   exact⟨Y',o3',o4',by simp only[if_true,Us,dg];exact e'⟩
end
theorem qJ: ∀{qs:List (PV × PV)},(qs.map (·.1)).all aD=true-> ∃ bs:List (Str × PV),qs.map ip=bs.map pr/\qs.map (·.1)=(bs.map (·.1)).map PV.str/\qs.map (·.2)=bs.map (·.2)/\ ∀ q∈bs,aD (.str q.1)=true
 | [],_=>⟨[],rfl,rfl,rfl,λ_ m=>nomatch m⟩
 | q::r,e=>by
  rw[S7,Ub,Td] at e;obtain⟨s,es⟩:=jS e.1;obtain⟨bs,e1,e2,e3,e4⟩:=qJ e.2;refine⟨(s,q.2)::bs,?_,?_,?_,S6.mpr ⟨es ▸ e.1,e4⟩⟩
  . rw[S7,S7,e1];unfold ip pr;rw[es]
  . rw[S7,S7,S7,e2,es]
  . rw[S7,S7,e3]
theorem C2(Q:Prop): ∃ P:Bool,P=true↔Q:=by
 by_cases q:Q
 . exact⟨true,⟨λ_=>q,λ_=>rfl⟩⟩
 . exact⟨false,⟨λe=>absurd e Tn,λe=>absurd e q⟩⟩
theorem pR{qs:List (Str × PV)}{m:Nat}(l1:m<=qs.length)(l4:qs.length<=4):cO m (.tup (qs.map pr))=true:=by
 simp only[cO,SX,l1,l4,and_self,decide_true,Us];exact kG λx mx=>by
  obtain⟨q,_,rfl⟩:=TR.mp mx;rfl
theorem nG{x:PV}{m:Nat}(e:cO m x=true): ∃ qs:List (PV × PV),x= .tup (qs.map ip)/\m<=qs.length/\qs.length<=4:=by
 cases x with
 | tup xs =>
  simp only[cO,Td,decide_eq_true_eq] at e
  obtain⟨qs,rfl⟩:=Aw e.2
  rw[SX] at e
  exact⟨qs,rfl,e.1.1,e.1.2⟩
 | _=>nomatch e
theorem oh{x:PV}(e:cz x=true): ∃ xs,x= .tup xs/\xs.length<=4:=by
 cases x<;>first | exact⟨_,rfl,by simpa [cz] using e⟩ | cases e
section
variable{pg:Tb}(T:cv pg)
include T
theorem Jc(j:Nat){h:PH}{x0 x1 x2 x3 x4:PV}(t0:Th h x0)(t4:Th h x4):Lk (run pg (j+1)) [fv (.tup [x0,x1,x2,x3,x4]),SU,SU,SU,SU] h= .ok (if (cO 0 x0&&cO 1 x4)=true then .nx [fv (.tup [x0,x1,x2,x3,x4]),SU,SU,SU,SU] else .rt (.bl false)) h:=by
 have p0:run pg (j+1) "_law_pairs" [x0,.int 0] h= .ok (.bl (cO 0 x0)) h:=r9 T j t0 0;have p4:run pg (j+1) "_law_pairs" [x4,.int 1] h= .ok (.bl (cO 1 x4)) h:=r9 T j t4 1;cases a:cO 0 x0<;>cases b:cO 1 x4<;>simp? [Lk,aJ,p0,p4,a,b,TF,Ti,UC,Uc,YF]
theorem BQ(j:Nat){h:PH}{x:PV}(t:Th h x): ∃ v:Bool,run pg (j+11) "_law_is_program" [x] h= .ok (.bl v) h/\(v=true↔lj x):=by
 suffices B: ∃(v:Bool)(X:PH),bw (run pg (j+10)) [fv x,SU,SU,SU,SU] h= .ok (.rt (.bl v)) (h++X)/\(v=true↔lj x) by
  obtain⟨v,X,e,i⟩:=B;refine⟨v,?_,i⟩;rw[run_eq T.kh rfl];exact(congrArg (fin _) e).trans (by rw[cx];exact bT)
 have no: ∀ X,¬ lj x->bw (run pg (j+10)) [fv x,SU,SU,SU,SU] h= .ok (.rt (.bl false)) (h++X)-> ∃(v:Bool)(X:PH),bw (run pg (j+10)) [fv x,SU,SU,SU,SU] h= .ok (.rt (.bl v)) (h++X)/\(v=true↔lj x):=λX n e=>⟨false,X,e,⟨λe=>absurd e Tn,λe=>absurd e n⟩⟩
 have bd:bw=ah Lk Pp:=rfl;have seqR: ∀{a b:MS}{E:a9}{H H':PH}{v:PV},a (run pg (j+10)) E H= .ok (.rt v) H'->ah a b (run pg (j+10)) E H= .ok (.rt v) H':=λe=>by rw[jJ,e,bj,iW]
 have h0:h++[]=h:=Tv h;by_cases c5:(parts x).length=5
 rotate_left
 . refine no [] (λ⟨p,e,o⟩=>c5 (e ▸ rfl)) ?_;rw[bd,h0];refine seqR ?_;have c5': ∀ xs,x= .tup xs-> ¬ ((xs.length:Int)=5):=λxs e c=>c5 (by rw[e];show xs.length=5;omega);cases t with
   | box n b=>simp? [Lk,(bo b).1]
   | tup xs l a=>simp? [Lk,aJ,c5' xs rfl]
   | _=>simp? [Lk,dE,dB,c9,dA]
 . obtain⟨x0,x1,x2,x3,x4,rfl⟩: ∃ x0 x1 x2 x3 x4,x= .tup [x0,x1,x2,x3,x4]:=by
    cases x with
    | tup xs =>
     have e:xs.length=5:=c5
     rcases xs with _ | ⟨x0,_ | ⟨x1,_ | ⟨x2,_ | ⟨x3,_ | ⟨x4,_ | ⟨x5,r⟩⟩⟩⟩⟩⟩<;>try (simp at e)
     exact⟨x0,x1,x2,x3,x4,rfl⟩
    | _=>nomatch c5
   have pq: ∀ p:Bn,PV.tup [x0,x1,x2,x3,x4]=p.v->x0= .tup (p.b.map pr)/\x1= .tup (p.l.map PV.str)/\x2= .tup (p.n.map PV.str)/\x3= .tup (p.d.map PV.str)/\x4= .tup (p.a.map pr):=λp e=>by
    simpa only[Bn.v,PV.tup.injEq,VW,and_true] using e
   have t0:=t.all x0 (by simp);have t1:=t.all x1 (by simp);have t2:=t.all x2 (by simp);have t3:=t.all x3 (by simp);have t4:=t.all x4 (by simp);have s0:=Jc T (j+9) (x1:=x1) (x2:=x2) (x3:=x3) t0 t4;cases c0:(cO 0 x0&&cO 1 x4) with
   | false =>
    refine no [] (λ⟨p,e,o⟩=>?_) ?_
    . obtain⟨e0,_,_,_,e4⟩:=pq p e;obtain⟨f0,_,_,_,f4⟩:=o.fC;rw[e0,e4,pR (U2 _) f0,pR (Wc.mpr o.ne) f4] at c0;cases c0
    . rw[bd,h0];rw[c0] at s0;exact seqR s0
   | true =>
    rw[c0] at s0
    simp only[if_true] at s0
    rw[Td] at c0
    obtain⟨X1,s1⟩:=IM (c:=run pg (j+10)) (x0:=x0) (x4:=x4) t1 t2 t3
    cases c1:(cz x1&&(cz x2&&cz x3)) with
    | false =>
     rw[c1] at s1
     refine no X1 (λ⟨p,e,o⟩=>?_) (by rw[bd];exact(aA s0).trans (seqR s1))
     obtain⟨_,e1,e2,e3,_⟩:=pq p e
     obtain⟨_,f1,f2,f3,_⟩:=o.fC
     rw[e1,e2,e3] at c1
     simp[cz,f1,f2,f3] at c1
    | true =>
     rw[c1] at s1
     simp only[if_true] at s1
     rw[Td,Td] at c1
     obtain⟨bq,rfl,_,b4⟩:=nG c0.1
     obtain⟨aq,rfl,a1',a4⟩:=nG c0.2
     obtain⟨l,rfl,l4⟩:=oh c1.1
     obtain⟨n,rfl,n4⟩:=oh c1.2.1
     obtain⟨d,rfl,d4⟩:=oh c1.2.2
     have s2:=GZ (c:=run pg (j+10)) (l:=l) (n:=n) (d:=d) (aq:=aq) b4 (H:=h++X1)
     have s3:=JU (c:=run pg (j+10)) (bq:=bq) (l:=l) (n:=n) (d:=d) (aq:=aq) (H:=h++X1)
     have s4:=GR (c:=run pg (j+10)) b4 l4 n4 d4 a4 (H:=h++X1)
     have go: ∀{r:RV Fl},Ol (run pg (j+10)) [fv (lW bq l n d aq),fv (.ref (h++X1).length),fv (.ref ((h++X1).length+9)),SU,SU] (h++X1++zz (h++X1).length (bq.map (·.1)) l n d (aq.map (·.1)))=r->bw (run pg (j+10)) [fv (lW bq l n d aq),SU,SU,SU,SU] h=r:=λe=>by
      rw[bd];exact(aA s0).trans ((aA s1).trans ((aA s2).trans ((aA s3).trans ((aA s4).trans e))))
     generalize hL:(h++X1).length=L at go
     generalize hH:h++X1++zz L (bq.map (·.1)) l n d (aq.map (·.1))=H at go
     have gH: ∃ X,H=h++X:=⟨X1++zz L (bq.map (·.1)) l n d (aq.map (·.1)),by rw[<- hH,SY]⟩
     obtain⟨XH,eH⟩:=gH
     have at': ∀ k,H[L+k]?=(zz L (bq.map (·.1)) l n d (aq.map (·.1)))[k]?:=λk=>by rw[<- hH,<- hL,aw]
     have th: ∀{z:PV},Th h z->Th H z:=λz=>eH ▸ z.gr XH
     have tb: ∀ q∈bq,Th H q.1/\Th H q.2:=λq m=>by
      have:=t0.all _ (T9 m);exact⟨th (this.all q.1 (by simp[ip])),th (this.all q.2 (by simp[ip]))⟩
     have ta: ∀ q∈aq,Th H q.1/\Th H q.2:=λq m=>by
      have:=t4.all _ (T9 m);exact⟨th (this.all q.1 (by simp[ip])),th (this.all q.2 (by simp[ip]))⟩
     generalize hz:bq.map (·.1)++l++n++d++aq.map (·.1)=zs
     have tz: ∀ z∈zs,Th H z:=λz m=>by
      rw[<- hz] at m;simp only[Tt,TR] at m;rcases m with(((⟨q,mq,rfl⟩ | m) | m) | m) | ⟨q,mq,rfl⟩
      . exact(tb q mq).1
      . exact th (t1.all z m)
      . exact th (t2.all z m)
      . exact th (t3.all z m)
      . exact(ta q mq).1
     obtain⟨P,hP⟩:=C2 (∃ ss:List Str,zs=ss.map PV.str/\(∀ s∈ss,aD (.str s)=true)/\ss.Nodup)
     obtain⟨X5,s5⟩:=IG T (j+9) (x:=lW bq l n d aq) (r:=L) (m:=L+9) (by rw[at' 9,<- hz];rfl) tz (by rw[<- hz];simp only[S1,SX];omega) P hP
     have zp: ∀ p:Bn,lW bq l n d aq=p.v->zs=p.all.map PV.str/\bq.map ip=p.b.map pr/\aq.map ip=p.a.map pr:=λp e=>by
      obtain⟨e0,e1,e2,e3,e4⟩:=pq p e;have f1: ∀{qs:List (PV × PV)}{ps:List (Str × PV)},PV.tup (qs.map ip)= .tup (ps.map pr)->qs.map (·.1)=(ps.map (·.1)).map PV.str:=λ{qs ps} e=>by
       have:=congrArg (λl:List PV=>l.map λz=>(parts z).headD .non) (PV.tup.inj e);simpa [Up,ZL,ip,pr,parts] using this
      refine⟨?_,PV.tup.inj e0,PV.tup.inj e4⟩;rw[<- hz,f1 e0,PV.tup.inj e1,PV.tup.inj e2,PV.tup.inj e3,f1 e4,Bn.all_eq];simp
     cases P with
     | false =>
      refine no (XH++X5) (λ⟨p,e,o⟩=>?_) (by rw[<- SY,<- eH];exact go (seqR s5))
      have:false=true:=hP.mpr ⟨p.all,(zp p e).1,λs m=>by
       rw[Bn.all_eq] at m;simp only[Tt,TR] at m;rcases m with⟨q,mq,rfl⟩ | m | m | m | ⟨q,mq,rfl⟩
       . exact(o.bx q mq).1
       . exact o.lk s m
       . exact o.ln s m
       . exact o.dr s m
       . exact(o.hn q mq).1,o.un⟩
      cases this
     | true =>
      obtain⟨ss,es,hs,nd⟩:=hP.mp rfl
      simp only[if_true] at s5
      have al:zs.all aD=true:=kG λz m=>by
       rw[es] at m;obtain⟨s,ms,rfl⟩:=TR.mp m;exact hs s ms
      rw[<- hz,Vk,Vk,Vk,Vk,Td,Td,Td,Td] at al
      obtain⟨⟨⟨⟨al1,al2⟩,al3⟩,al4⟩,al5⟩:=al
      obtain⟨bs,eb1,eb2,eb3,hb⟩:=qJ al1
      obtain⟨as,ea1,ea2,ea3,hh⟩:=qJ al5
      obtain⟨ls,rfl,hl⟩:=dH al2
      obtain⟨ns,rfl,hn⟩:=dH al3
      obtain⟨ds,rfl,hd⟩:=dH al4
      let p:Bn:=⟨bs,ls,ns,ds,as⟩
      have pv:lW bq (ls.map PV.str) (ns.map PV.str) (ds.map PV.str) aq=p.v:=by
       show PV.tup [.tup (bq.map ip),_,_,_,.tup (aq.map ip)]=_;rw[eb1,ea1];rfl
      have N:B1 H L p:=⟨L+1,L+2,L+3,L+4,at' 0,by rw[at' 1,eb2];rfl,at' 2,at' 3,at' 4⟩
      have un:p.all.Nodup:=by
       have si: ∀{a b:Str},PV.str a=PV.str b->a=b:=λe=>PV.str.inj e;rw[map_inj si ((zp p pv).1.symm.trans es)];exact nd
      have pf:p.fC:=by
       have e1:=congrArg VJ eb3;have e2:=congrArg VJ ea3;simp only[SX] at e1 e2 l4 n4 d4;exact⟨by show bs.length<=4;omega,l4,n4,d4,by show as.length<=4;omega⟩
      have tb5: ∀ q∈bq,Th (H++X5) q.2:=λq m=>((tb q m).2).gr X5
      obtain⟨X6,s6⟩:=Ku T (j+9) (x1:= .tup (ls.map PV.str)) (x2:= .tup (ns.map PV.str)) (x3:= .tup (ds.map PV.str)) (x4:= .tup (aq.map ip)) (r:=L) (m:=L+9) tb5 b4
      have vb:(bq.all λq=>aS 0 999 q.2)=(bs.all λq=>aS 0 999 q.2):=by
       have:=congrArg (λl:List PV=>l.all (aS 0 999)) eb3;simpa only[VO,ZL] using this
      rw[vb] at s6
      cases c6:bs.all λq=>aS 0 999 q.2 with
      | false =>
       rw[c6] at s6
       refine no (XH++(X5++X6)) (λ⟨p',e,o⟩=>?_) (by rw[<- SY,<- eH,<- SY];exact go ((aA s5).trans (seqR s6)))
       obtain rfl:=Bn.AD (p:=p) (pv.symm.trans e)
       have:(bs.all λq=>aS 0 999 q.2)=true:=Uk.mpr λq mq=>(o.bx q mq).2
       rw[this] at c6;cases c6
      | true =>
       rw[c6] at s6
       simp only[if_true] at s6
       have ta6: ∀ q∈as,Th (H++X5++X6) q.2:=λq m=>by
        have m2:q.2∈aq.map (·.2):=by rw[ea3];exact T9 m
        obtain⟨q',mq,e⟩:=TR.mp m2;rw[<- e];exact(((ta q' mq).2).gr X5).gr X6
       obtain⟨Y',o3,o4,e7⟩:=wK T j (x:=lW bq (ls.map PV.str) (ns.map PV.str) (ds.map PV.str) aq) (m:=L+9) p ((N.gr X5).gr X6) (as.map pr) as [] SU SU ta6
       rw[Tv] at e7
       have s7:RN (run pg (j+10)) [fv (lW bq (ls.map PV.str) (ns.map PV.str) (ds.map PV.str) aq),fv (.ref L),fv (.ref (L+9)),SU,SU] (H++X5++X6)=bM ⟨SU,as.map pr⟩ (bZ (gT 2 (ba (gN 3) (ba (gN 4) eO))) (ah BZ Kz) (run pg (j+10))) (as.map pr) [fv (lW bq (ls.map PV.str) (ns.map PV.str) (ds.map PV.str) aq),fv (.ref L),fv (.ref (L+9)),SU,SU] (H++X5++X6):=by
        have i4:aW (lW bq (ls.map PV.str) (ns.map PV.str) (ds.map PV.str) aq) (.int 4) (H++X5++X6)= .ok (.tup (as.map pr)) (H++X5++X6):=by
         rw[<- ea1];exact rM
        show cI (cU (eX 0 4)) _ (ah BZ Kz) _ _ _=_;rw[jq,Bj,sf];simp only[Vg,sJ,i4,bj,Bz,gU]
       have go7: ∀{r:RV Fl},Ny (run pg (j+10)) [fv (lW bq (ls.map PV.str) (ns.map PV.str) (ds.map PV.str) aq),fv (.ref L),fv (.ref (L+9)),SU,SU] (H++X5++X6)=r->bw (run pg (j+10)) [fv (lW bq (ls.map PV.str) (ns.map PV.str) (ds.map PV.str) aq),SU,SU,SU,SU] h=r:=λe=>go ((aA s5).trans ((aA s6).trans e))
       have eH':H++X5++X6++Y'=h++(XH++(X5++(X6++Y'))):=by rw[eH];simp only[SY]
       have ok:(as.all λq=>xb p q.2)=true↔ ∀ q∈as,∃ rs,q.2= .tup rs/\rs.length<=30/\ ∀ r∈rs,c8 p rs.length r=true:=by
        rw[Uk];refine⟨λz q mq=>?_,λz q mq=>?_⟩
        . have:=z q mq;cases e:q.2 with
          | tup rs =>
           rw[e] at this
           simp only[xb,Td,decide_eq_true_eq,Uk] at this
           exact⟨rs,rfl,this⟩
          | _=>rw[e] at this;cases this
        . obtain⟨rs,e,l3,hr⟩:=z q mq;rw[e];simp only[xb,Td,decide_eq_true_eq,Uk];exact⟨l3,hr⟩
       cases c7:as.all λq=>xb p q.2 with
       | false =>
        rw[c7] at e7
        refine no (XH++(X5++(X6++Y'))) (λ⟨p',e,o⟩=>?_) (by rw[<- eH'];exact go7 (seqR (s7.trans e7)))
        obtain rfl:=Bn.AD (p:=p) (pv.symm.trans e)
        have:=ok.mpr λq mq=>(o.hn q mq).2
        rw[this] at c7;cases c7
       | true =>
        rw[c7] at e7
        simp only[if_true] at e7
        refine⟨true,XH++(X5++(X6++Y')),by rw[<- eH'];exact go7 ((aA (s7.trans e7)).trans rfl),⟨λ_=>⟨p,pv,pf,λq mq=>⟨hb q mq,Uk.mp c6 q mq⟩,hl,hn,hd,?_,λq mq=>⟨hh q mq,ok.mp c7 q mq⟩,un⟩,λ_=>rfl⟩⟩
        intro c
        have c':as=[]:=c
        have e2:=congrArg VJ ea3
        rw[c'] at e2
        simp only[SX,Tj] at e2
        omega
end
def bR(x:Str):Prop:=TZ x=true/\x.length<=20/\aD (.str x)=true/\x≠ "nobody"
inductive Bo where | add | sub | mul | less | same
noncomputable def Bo.w:Bo->Str
 | .add=> "add" | .sub=> "sub" | .mul=> "mul" | .less=> "less" | .same=> "same"
inductive Sm where
 | num (n:Int) | of (x:Str) | un (a:Sm) | bin (o:Bo) (a b:Sm)
def ie:Sm->PV
 | .num n=> .tup [.str "num",.int n]
 | .of x=> .tup [.str "of",.str x]
 | .un a=> .tup [.str "not",ie a]
 | .bin o a b=> .tup [.str o.w,ie a,ie b]
def Sm.dp:Sm->Nat
 | .num _=>1 | .of _=>1 | .un a=>a.dp+1 | .bin _ a b=>max a.dp b.dp+1
def Sm.cn:Sm->Nat
 | .num _=>1 | .of _=>1 | .un a=>a.cn+1 | .bin _ a b=>a.cn+b.cn+1
def Sm.ok:Sm->Prop
 | .num n=>0<=n/\n<=999 | .of x=>bR x | .un a=>a.ok | .bin _ a b=>a.ok/\b.ok
theorem dz: ∀ e ,(ie e).flat=true
 | .num n=>rfl
 | .of x=>rfl
 | .un a=>by simp[ie,PV.flat,PV.du,dz a]
 | .bin o a b=>by simp[ie,PV.flat,PV.du,dz a,dz b]
theorem Sm.qI: ∀ e:Sm,1<=e.cn
 | .num n=>Te _
 | .of x=>Te _
 | .un a=>by unfold Sm.cn;omega
 | .bin o a b=>by unfold Sm.cn;omega
theorem wN: ∀(e:Sm)(k:Nat),e.ok->e.dp<=k->sw k (ie e)=e.cn
 | .num n,k,o,d=>by
  obtain⟨k,rfl⟩: ∃ j,k=j+1:=⟨k - 1,by unfold Sm.dp at d;omega⟩
  have w:aS 0 999 (.int n)=true:=decide_eq_true o;rw[ie,ki,if_pos rfl];simp only[fD,w,if_true,Sm.cn]
 | .of x,k,o,d=>by
  obtain⟨k,rfl⟩: ∃ j,k=j+1:=⟨k - 1,by unfold Sm.dp at d;omega⟩
  have w:aD (.str x)=true:=o.2.2.1;rw[ie,ki,if_neg (by decide +kernel),if_pos rfl];simp only[fD,w,if_true,Sm.cn]
 | .un a,k,o,d=>by
  unfold Sm.dp at d;obtain⟨k,rfl⟩: ∃ j,k=j+1:=⟨k - 1,by omega⟩
  have ih:=wN a k o (by omega);have p:=a.qI;rw[ie,ki,if_neg (by decide +kernel),if_neg (by decide +kernel),if_neg (by rw[show il "not" =1 by decide +kernel];simp)];simp only[S7,U0,ih,Tq,UD,or_false,WL,List.sum_nil,Sm.cn];rw[if_neg (by omega)];omega
 | .bin q a b,k,o,d=>by
  unfold Sm.dp at d;obtain⟨k,rfl⟩: ∃ j,k=j+1:=⟨k - 1,by omega⟩
  have ih:=wN a k o.1 (by omega);have ih2:=wN b k o.2 (by omega);have p:=a.qI;have p2:=b.qI;have w:il q.w=2/\ ¬ q.w= "num" /\ ¬ q.w= "of" :=by cases q<;>decide +kernel
  rw[ie,ki,if_neg w.2.1,if_neg w.2.2,if_neg (by rw[w.1];simp)];simp only[S7,U0,ih,ih2,Tq,UD,or_false,WL,List.sum_nil,Sm.cn];rw[if_neg (by omega)];omega
def qj(e:Sm):Prop:=e.ok/\e.dp<=5/\e.cn<=12
theorem jY{e:Sm}(h:qj e):oW (ie e)=true:=by
 unfold oW;rw[wN e 5 h.1 h.2.1];exact decide_eq_true ⟨e.qI,h.2.2⟩
inductive Rw where
 | let_ (x:Str) (e:Sm) | leap (k:Int) (e:Sm) | take (l:Str) | free (l:Str) | get (x b:Str) | put (b:Str) (e:Sm)
 | send (l:Str) (e:Sm) | fetch (x l:Str) | say (d:Str) (e:Sm) | clock (x:Str) | lot (x:Str) (n:Int) | hear (x d:Str)
noncomputable def Rw.w:Rw->Str
 | .let_ _ _=> "let" | .leap _ _=> "leap" | .take _=> "take" | .free _=> "free" | .get _ _=> "get" | .put _ _=> "put"
 | .send _ _=> "send" | .fetch _ _=> "fetch" | .say _ _=> "say" | .clock _=> "clock" | .lot _ _=> "lot" | .hear _ _=> "hear"
def Rw.ps:Rw->List PV
 | .let_ x e=>[.str x,ie e] | .leap k e=>[.int k,ie e] | .take l=>[.str l] | .free l=>[.str l] | .get x b=>[.str x,.str b] | .put b e=>[.str b,ie e]
 | .send l e=>[.str l,ie e] | .fetch x l=>[.str x,.str l] | .say d e=>[.str d,ie e] | .clock x=>[.str x] | .lot x n=>[.str x,.int n] | .hear x d=>[.str x,.str d]
def jN(r:Rw):PV:= .tup (.str r.w::r.ps)
def jl(rs:List Rw):PV:= .tup (rs.map jN)
def oY(L:List Str)(n:Nat):Rw->Prop
 | .let_ x e=>x∈L/\qj e
 | .leap k e=>0<=k/\k<=n/\qj e
 | .put _ e=>qj e
 | .send _ e=>qj e
 | .say _ e=>qj e
 | .get x _=>x∈L
 | .fetch x _=>x∈L
 | .clock x=>x∈L
 | .lot x m=>x∈L/\2<=m/\m<=1000
 | .hear x _=>x∈L
 | _=>True
def vj(s1 s2 s3 s4:List Str):Rw->Prop
 | .put x _=>x∈s1
 | .send x _=>x∈s3
 | .say x _=>x∈s4
 | .get _ x=>x∈s1
 | .fetch _ x=>x∈s3
 | .hear _ x=>x∈s4
 | .take x=>x∈s2
 | .free x=>x∈s2
 | _=>True
theorem pP: ∀ hs:List Str,PV.du (hs.map PV.str)=true
 | []=>rfl
 | x::r=>by rw[S7,PV.du,pP r];rfl
theorem nq r:(jN r).flat=true:=by
 cases r<;>simp[jN,Rw.ps,PV.flat,PV.du,dz]
theorem p8: ∀ rs:List Rw,PV.du (rs.map jN)=true
 | []=>rfl
 | x::r=>by rw[S7,PV.du,p8 r,nq];rfl
noncomputable def aG(ns:List Int):PO:= .kq (ns.map PV.int)
theorem wG:(10:Int) ^ XR 18=1000000000000000000:=by decide +kernel
theorem qX:(10:Int) ^ 18=1000000000000000000:=by decide +kernel
theorem zv{ns:List Int}{i:Int}(h0:0<=i)(h1:i < ns.length): ∃ v:Int,fY (ns.map PV.int) i=fv (.int v):=by
 obtain⟨n,en⟩:=Vh h0;subst en;have hn:n < ns.length:=by omega
 exact⟨ns[n],P3.cT rfl (by rw[T7,TN hn];rfl)⟩
section
variable{pg:Tb}(T:cv pg)
include T
theorem CW(j:Nat){h:PH}{r:Nat}{ns:List Int}(hr:h[r]?=fv (aG ns))(hn:ns.length<=63){k m:Int}(k0:0<=k)(k9:k<=1000000)(m0:0 < m)(m9:m<=1000000000): ∃ v:Int,0<=v/\v < m/\run pg (j+1) "_law_draw" [.ref r,.int k,.int m] h= .ok (.int v) h:=by
 have fin1: ∀ v:Int,run pg (j+1) "_law_draw" [.ref r,.int k,.int m] h= .ok (.int (v % m)) h-> ∃ v:Int,0<=v/\v < m/\run pg (j+1) "_law_draw" [.ref r,.int k,.int m] h= .ok (.int v) h:=λv e=>⟨_,VX _ (by omega),VP _ m0,e⟩
 have key: ∃ v:Int,run pg (j+1) "_law_draw" [.ref r,.int k,.int m] h= .ok (.int (v % m)) h:=by
  rw[run_eq T.sv rfl];by_cases z:ns.length=0
  . have hz: ¬ (0:Int) < (ns.length:Int):=by omega
    have z18: ¬ (1000000000000000000:Int)<=0:=by omega
    simp? [cZ,fk,hr,aG,SX,hz,wG,qX,z18,l8];exact⟨_,rfl⟩
  . have hz:(0:Int) < (ns.length:Int):=by omega
    obtain⟨v,hv⟩:=zv (ns:=ns) (i:=k % ns.length) (VX _ (by omega)) (VP _ hz);have loop: ∀(xs xs0:List PV)(a:Int)(o:Option PV),∃(b:Int)(o':Option PV),bM ⟨SU,xs0⟩ (bZ (gN 5) (ay (ai jz (ae 4) (eI 1000003)) (gN 4)) (run pg j)) xs [fv (.ref r),fv (.int k),fv (.int m),fv (.int v),fv (.int a),o,SU] h= .ok (.nx [fv (.ref r),fv (.int k),fv (.int m),fv (.int v),fv (.int b),o',SU]) h:=by
     intro xs xs0
     induction xs with
     | nil=>intro a o;exact⟨a,o,rfl⟩
     | cons x xs ih =>
      intro a o
      obtain⟨b,o',e⟩:=ih (a / 1000003) (fv x)
      refine⟨b,o',?_⟩
      rw[nt]
      simp? [dg,e]
    have hm60:0<=k / (ns.length:Int) % 60/\k / (ns.length:Int) % 60 < 60:=⟨VX _ (by omega),VP _ (by omega)⟩
    by_cases z18:(1000000000000000000:Int)<=v
    . obtain⟨b,o',e⟩:=loop (aZ 0 (XR (k / (ns.length:Int) % 60))) (aZ 0 (XR (k / (ns.length:Int) % 60))) v SU;by_cases b0:0 < b
      . simp? [cZ,fk,hr,aG,SX,hz,hv,wG,qX,z18,e,b0,l8];exact⟨_,rfl⟩
      . simp? [cZ,fk,hr,aG,SX,hz,hv,wG,qX,z18,e,b0,l8];exact⟨_,rfl⟩
    . simp? [cZ,fk,hr,aG,SX,hz,hv,wG,qX,z18,l8];exact⟨_,rfl⟩
 obtain⟨v,e⟩:=key;exact fin1 v e
end
noncomputable def aF(k:Int)(o:Option Int):PO:= .dct ((.inr "script",.ref 0)::(.inr "k",.int k)::(match o with | none=>[] | some l=>[(.inr "left",.int l)]))
theorem DF{k:Int}{o:Option Int}{n:Nat}(hn:0 < n):(aF k o).jd n=true:=by cases o<;>simp[aF,PO.jd,PV.jI,PV.jd,hn]
theorem eE{ns:List Int}{k k':Int}{o o':Option Int}{g g':PH}{v:PV}(hv:v.flat=true):settle (aG ns::aF k o::g) v (aG ns::aF k' o'::(g++g'))= .ok v (aG ns::aF k' o'::g) :=
 uc (h:=aG ns::aF k o::g) (g:=g') (i:=1) (o:=aF k o) (o':=aF k' o') hv rfl rfl (DF (by simp))
theorem sY{ns:List Int}{k k':Int}{o o':Option Int}{g:PH}{v:PV}:settle (aG ns::aF k o::g) v (aG ns::aF k' o'::g)= .ok v (aG ns::aF k' o'::g) :=
 sV (h:=aG ns::aF k o::g) (i:=1) (o:=aF k o) (o':=aF k' o')
section
variable{ns:List Int}{k l v:Int}{o:Option Int}{g:PH}
theorem Mn{h:PH}:HZ (.str "k") h (fv (aF k o))= .ok (.int k) h:=by cases o<;>simp[aF,Bm,aU,aj,j8]
theorem vv{h:PH}:HZ (.str "script") h (fv (aF k o))= .ok (.ref 0) h:=by cases o<;>simp[aF,Bm,aU,aj,j8]
theorem iK{h:PH}:HZ (.str "left") h (fv (aF k (fv l)))= .ok (.int l) h:=by simp[aF,Bm,aU,aj,j8]
theorem Ov{h:PH}{n:Nat}:CU n (.str "k") (.int v) h (fv (aF k o))= .ok () (h.set n (aF v o)):=by
 unfold aF;rw[wM (by cases o<;>simp)];cases o<;>simp[fA,aj]
theorem ny{h:PH}{n:Nat}:CU n (.str "left") (.int v) h (fv (aF k o))= .ok () (h.set n (aF k (fv v))):=by
 unfold aF;rw[wM (by cases o<;>simp)];cases o<;>simp[fA,aj]
end
section
variable{pg:Tb}(T:cv pg)
include T
theorem bg(j:Nat)(g:PH){ns:List Int}(hn:ns.length<=63)(o:Option Int){k:Int}(m:Int)(k0:0<=k)(k9:k < 1000000)(m0:0 < m)(m9:m<=1000000000): ∃ v:Int,0<=v/\v < m/\run pg (j+2) "_law_pick" [.ref 1,.int m] (aG ns::aF k o::g)= .ok (.int v) (aG ns::aF (k+1) o::g):=by
 obtain⟨v,h0,h1,e⟩:=CW T j (h:=aG ns::aF (k+1) o::g) (r:=0) rfl hn (k:=k+1) (by omega) (by omega) m0 m9;refine⟨v,h0,h1,?_⟩;rw[run_eq T.rY rfl];simp? [gh,lu,Mn,Ov,vv,e,sY]
end
noncomputable def bS:Nat->Int
 | 0=>3
 | d+1=>2+2*bS d
theorem zC: ∀ d,3<=bS d
 | 0=>by decide
 | d+1=>by have:=zC d;unfold bS;omega
theorem Ee(h0:0<=v)(h1:v < 5): ∃ o:Bo,fY [PV.str "add",.str "sub",.str "mul",.str "less",.str "same"] v=fv (.str o.w):=by
 have:v=0\/v=1\/v=2\/v=3\/v=4:=by omega
 rcases this with rfl | rfl | rfl | rfl | rfl
 . exact⟨.add,rfl⟩
 . exact⟨.sub,rfl⟩
 . exact⟨.mul,rfl⟩
 . exact⟨.less,rfl⟩
 . exact⟨.same,rfl⟩
theorem HG{v w:Int}(h0:0<=v)(h1:v < 5)(w0:0<=w)(w1:w < 1000): ∃ n:Int,0<=n/\n<=999/\fY [PV.int 0,.int 1,.int 2,.int 999,.int w] v=fv (.int n):=by
 have:v=0\/v=1\/v=2\/v=3\/v=4:=by omega
 rcases this with rfl | rfl | rfl | rfl | rfl
 . exact⟨0,by decide,by decide,rfl⟩
 . exact⟨1,by decide,by decide,rfl⟩
 . exact⟨2,by decide,by decide,rfl⟩
 . exact⟨999,by decide,by decide,rfl⟩
 . exact⟨w,w0,by omega,rfl⟩
theorem gZ{ss:List Str}{v:Int}(h0:0<=v)(h1:v < ss.length): ∃ x∈ss,fY (ss.map PV.str) v=fv (.str x):=by
 obtain⟨n,en⟩:=Vh h0;subst en;have hn:n < ss.length:=by omega
 exact⟨ss[n],VI hn,P3.cT rfl (by rw[T7,TN hn];rfl)⟩
section
variable{pg:Tb}(T:cv pg)
include T
theorem vL(j:Nat){ns:List Int}(hn:ns.length<=63){np:Nat}{ps:List Str}(p0:0 < ps.length)(p9:ps.length<=1000)(hq: ∀ x∈ps,bR x)(deep w k:Int)(o:Option Int)(g:PH)(k0:0<=k)(k9:k+2<=1000000)(hp:g[np]?=fv (.lst (ps.map PV.str)))(u v:Option PV) :
  ∃(e:Sm)(k':Int)(g':PH),(e.ok/\e.cn=1)/\e.dp=1/\k<=k'/\k'<=k+2/\ah (bC (ao (ai hU (ai hV (ae 3) (eI 2)) (eI 0))) (av (au (aa (eS "num") (aa (ai aW (aC (aa (eI 0) (aa (eI 1) (aa (eI 2) (aa (eI 999) (aa (af "_law_pick" (a2 (ae 0) (eI 1000))) ag)))))) (af "_law_pick" (a2 (ae 0) (eI 5)))) ag)))) bz)
  (av (au (aa (eS "of") (aa (ai aW (ae 1) (af "_law_pick" (aa (ae 0) (aa (eB aO (a1 (ae 1))) ag)))) ag)))) (run pg (j+2)) [fv (.ref 1),fv (.ref (np+1+1)),fv (.int deep),fv (.int w),u,v] (aG ns::aF k o::g)= .ok (.rt (ie e)) (aG ns::aF k' o::(g++g')):=by
 by_cases z:w % 2=0
 . obtain⟨a,a0,a1,ea⟩:=bg T j g hn o (k:=k) 1000 k0 (by omega) (by decide) (by decide);obtain⟨b,b0,b1,eb⟩:=bg T j (g++[.lst [.int 0,.int 1,.int 2,.int 999,.int a]]) hn o (k:=k+1) 5 (by omega) (by omega) (by decide) (by decide);obtain⟨n,n0,n1,en⟩:=HG b0 b1 a0 a1;refine⟨.num n,k+1+1,[.lst [.int 0,.int 1,.int 2,.int 999,.int a]],⟨⟨n0,n1⟩,rfl⟩,rfl,by omega,by omega,?_⟩;simp? [z,ea,eb,en,ie]
 . obtain⟨a,a0,a1,ea⟩:=bg T j g hn o (k:=k) ps.length k0 (by omega) (by omega) (by omega);obtain⟨x,hx,ex⟩:=gZ a0 a1;refine⟨.of x,k+1,[],⟨hq x hx,rfl⟩,rfl,by omega,by omega,?_⟩;simp? [z,ea,hp,ex,ie,SX,Tv]
theorem yr(j:Nat){ns:List Int}(hn:ns.length<=63){np:Nat}{ps:List Str}(p0:0 < ps.length)(p9:ps.length<=1000)(hq: ∀ x∈ps,bR x): ∀(d:Nat)(deep:Int),deep+d=5-> ∀(k l:Int)(g:PH),0<=k->k+bS d<=1000000->0<=l->g[np]?=fv (.lst (ps.map PV.str)) ->
  ∃(e:Sm)(k' l':Int),(e.ok/\0<=l'/\(e.cn:Int)+l'<=1+l)/\e.dp<=d+1/\k<=k'/\k'<=k+bS d/\run pg (j+d+3) "_law_sum_in" [.ref 1,.ref (np+1+1),.int deep] (aG ns::aF k (fv l)::g)= .ok (ie e) (aG ns::aF k' (fv l')::g):=by
 intro d
 induction d with
 | zero =>
  intro deep hd k l g k0 k9 ll hp
  have hd5: ¬ deep < 5:=by omega
  simp only[bS] at k9
  obtain⟨w,w0,w1,ew⟩:=bg T j g hn (fv l) (k:=k) 9 k0 (by omega) (by decide) (by decide)
  obtain⟨e,k',g',h1,h2,h3,h4,h5⟩:=vL T j hn p0 p9 hq deep w (k+1) (fv l) g (by omega) (by omega) hp SU SU
  refine⟨e,k',l,⟨h1.1,ll,by have:=h1.2;omega⟩,by omega,by omega,by simp only[bS];omega,?_⟩
  rw[run_eq T.eV rfl]
  simp? [bG,ck,Nat.add_zero,ew,hd5,↓h5,eE (dz e)]
 | succ d ih =>
  intro deep hd k l g k0 k9 ll hp
  have hd5:deep < 5:=by omega
  have b3:=zC d
  simp only[bS] at k9
  have hlt:=bP hp
  obtain⟨w,w0,w1,ew⟩:=bg T (j+d+1) g hn (fv l) (k:=k) 9 k0 (by omega) (by decide) (by decide)
  by_cases c1:2 < w/\1 < l
  . obtain⟨a,a0,a1,ea⟩:=bg T (j+d+1) (g++[.lst [.str "add",.str "sub",.str "mul",.str "less",.str "same"]]) hn (fv (l - 2)) (k:=k+1) 5 (by omega) (by omega) (by decide) (by decide);obtain⟨o,eo⟩:=Ee a0 a1;have hp':(g++[.lst [.str "add",.str "sub",.str "mul",.str "less",.str "same"]])[np]?=fv (.lst (ps.map PV.str)):=by rw[bb hlt];exact hp
    obtain⟨e1,k1,l1,q1,q2,q3,q4,q5⟩:=ih (deep+1) (by omega) (k+1+1) (l - 2) _ (by omega) (by omega) (by omega) hp';obtain⟨e2,k2,l2,r1,r2,r3,r4,r5⟩:=ih (deep+1) (by omega) k1 l1 _ (by omega) (by omega) q1.2.1 hp';refine⟨.bin o e1 e2,k2,l2,⟨⟨q1.1,r1.1⟩,r1.2.1,by have:=q1.2.2;have:=r1.2.2;unfold Sm.cn;omega⟩,by unfold Sm.dp;omega,by omega,by simp only[bS];omega,?_⟩;rw[show j+(d+1)+3=(j+d+3)+1 by omega,run_eq T.eV rfl];have c11:=c1.1;have c12:=c1.2;simp? [bG,ck,ew,hd5,c11,c12,iK,ny,ea,eo,q5,r5];exact eE (v:=ie (.bin o e1 e2)) (dz _)
  . by_cases c2:w=2/\0 < l
    . obtain⟨c21,c22⟩:=c2;subst c21;obtain⟨e1,k1,l1,q1,q2,q3,q4,q5⟩:=ih (deep+1) (by omega) (k+1) (l - 1) g (by omega) (by omega) (by omega) hp;refine⟨.un e1,k1,l1,⟨q1.1,q1.2.1,by have:=q1.2.2;unfold Sm.cn;omega⟩,by unfold Sm.dp;omega,by omega,by simp only[bS];omega,?_⟩;rw[show j+(d+1)+3=(j+d+3)+1 by omega,run_eq T.eV rfl];simp? [bG,ck,ew,hd5,c22,iK,ny,q5];exact sY (v:=ie (.un e1))
    . obtain⟨e,k',g',h1,h2,h3,h4,h5⟩:=vL T (j+d+1) hn p0 p9 hq deep w (k+1) (fv l) g (by omega) (by omega) hp SU SU;refine⟨e,k',l,⟨h1.1,ll,by have:=h1.2;omega⟩,by omega,by omega,by simp only[bS];omega,?_⟩;rw[show j+(d+1)+3=(j+d+3)+1 by omega,run_eq T.eV rfl];by_cases d1:2 < w
      . have d2: ¬ 1 < l:=λz=>c1 ⟨d1,z⟩;have d3: ¬ w=2:=by omega
        simp? [bG,ck,ew,hd5,d1,d2,d3,iK,↓h5,eE (dz e)]
      . by_cases d3:w=2
        . subst d3;have d2: ¬ 0 < l:=λz=>c2 ⟨rfl,z⟩;simp? [bG,ck,ew,hd5,d1,d2,iK,↓h5,eE (dz e)]
        . simp? [bG,ck,ew,hd5,d1,d3,iK,↓h5,eE (dz e)]
omit T in
theorem Cs{v:Int}(h0:0<=v)(h1:v < 4): ∃ n:Int,(0<=n/\n<=11)/\fY [PV.int 0,.int 2,.int 5,.int 11] v=fv (.int n):=by
 have:v=0\/v=1\/v=2\/v=3:=by omega
 rcases this with rfl | rfl | rfl | rfl<;>exact⟨_,⟨by decide,by decide⟩,rfl⟩
theorem om(j:Nat){ns:List Int}(hn:ns.length<=63){np:Nat}{ps:List Str}(p0:0 < ps.length)(p9:ps.length<=1000)(hq: ∀ x∈ps,bR x)(k:Int)(o:Option Int)(g:PH)(k0:0<=k)(k9:k+80<=1000000)(hp:g[np]?=fv (.lst (ps.map PV.str))) :
  ∃(e:Sm)(k':Int)(o':Option Int),qj e/\k<=k'/\k'<=k+80/\run pg (j+8) "_law_sum" [.ref 1,.ref (np+1+1)] (aG ns::aF k o::g)= .ok (ie e) (aG ns::aF k' o'::g):=by
 obtain⟨a,a0,a1,ea⟩:=bg T (j+5) (g++[.lst [.int 0,.int 2,.int 5,.int 11]]) hn o (k:=k) 4 k0 (by omega) (by decide) (by decide);obtain⟨l,ll,el⟩:=Cs a0 a1;have hp':(g++[.lst [.int 0,.int 2,.int 5,.int 11]])[np]?=fv (.lst (ps.map PV.str)):=by rw[bb (bP hp)];exact hp
 have b4:bS 4=78:=by decide
 obtain⟨e,k',l',q1,q2,q3,q4,q5⟩:=yr T j hn p0 p9 hq 4 1 (by decide) (k+1) l _ (by omega) (by omega) ll.1 hp';refine⟨e,k',fv l',⟨q1.1,by omega,by have:=q1.2;omega⟩,by omega,by omega,?_⟩;rw[run_eq T.vc rfl];simp? [gR,nQ,ea,el,ny,q5,eE (dz e)]
end
def jn(s1 s2 s3 s4:List Str)(x:Str):Prop:=x= "let" \/x= "leap" \/x= "clock" \/x= "lot" \/(s1≠[]/\(x= "get" \/x= "put"))\/(s2≠[]/\(x= "take" \/x= "free"))\/(s3≠[]/\(x= "send" \/x= "fetch"))\/(s4≠[]/\(x= "say" \/x= "hear"))
theorem BP(c:CF){H:PH}{nd cc q b:Nat}{nm:List (Key × PV)}{ks qs ss:List Str}{sort:Str}(e1:H[nd]?=fv (.dct nm))(e2:aU nm (.inr sort)=fv (.ref b))(e3:H[b]?=fv (.lst (ss.map PV.str)))(e4:H[cc]?=fv (.lst (ks.map PV.str)))(e5:H[q]?=fv (.lst (qs.map PV.str)))
  (hs: ∀ x∈ss,TZ x=true) (hl:ks.length+qs.length+qs.length<=1000) (a0 a2 a3 u5 u6 n7 n8 n9 n10:Option PV) :
  ∃ g' c',(H++g')[c']?=fv (.lst ((if ss=[] then ks else ks++qs++qs).map PV.str))/\bZ (gT 2 (ba (gN 5) (ba (gN 6) eO))) (bC (ao (ai i8 (ai aW (ae 1) (ae 5)) (aC ag))) (ay (ai ak (ai ak (ae 4) (ae 6)) (ae 6)) (gN 4)) bz) c (.tup [.str sort,.ref q]) [a0,fv (.ref nd),a2,a3,fv (.ref cc),u5,u6,n7,n8,n9,n10] H =
   .ok (.nx [a0,fv (.ref nd),a2,a3,fv (.ref c'),fv (.str sort),fv (.ref q),n7,n8,n9,n10]) (H++g'):=by
 have l3:=bP e3;have l4:=bP e4;have l5:=bP e5;have ne:=ne_nil (h:=H++[.lst []]) (n:=b) (m:=H.length) (ss:=ss) (by rw[bb l3];exact e3) aI hs;by_cases z:ss=[]
 . refine⟨[.lst []],cc,by rw[if_pos z,bb l4];exact e4,?_⟩;simp? [e1,e2,ne,z]
 . have ad1:=cF (h:=H++[.lst []]) (n:=cc) (m:=q) (by rw[bb l4];exact e4) (by rw[bb l5];exact e5) (by rw[SX,SX];omega);have ad2:ak (.ref (H.length+(0+1))) (.ref q) (H++[.lst [],.lst (ks.map PV.str++qs.map PV.str)])= .ok (.ref (H.length+(0+1+1))) (H++[.lst [],.lst (ks.map PV.str++qs.map PV.str),.lst (ks.map PV.str++qs.map PV.str++qs.map PV.str)]):=by
    have:=cF (h:=H++[.lst [],.lst (ks.map PV.str++qs.map PV.str)]) (n:=H.length+(0+1)) (m:=q) (xs:=ks.map PV.str++qs.map PV.str) (ys:=qs.map PV.str) (by rw[aw];rfl) (by rw[bb l5];exact e5) (by rw[S1,SX,SX];omega);simpa using this
   refine⟨[.lst [],.lst (ks.map PV.str++qs.map PV.str),.lst (ks.map PV.str++qs.map PV.str++qs.map PV.str)],H.length+(0+1+1),by rw[if_neg z,aw,UM,UM];rfl,?_⟩;simp? [e1,e2,ne,z,ad1,ad2]
structure Named(H:PH)(nd:Nat)(s1 s2 s3 s4 s5:List Str):Prop where
 at_: ∃ b1 b2 b3 b4 b5:Nat,H[nd]?=fv (.dct [(.inr "box",.ref b1),(.inr "lock",.ref b2),(.inr "lane",.ref b3),(.inr "door",.ref b4),(.inr "hand",.ref b5)]) /\
  H[b1]?=fv (.lst (s1.map PV.str))/\H[b2]?=fv (.lst (s2.map PV.str))/\H[b3]?=fv (.lst (s3.map PV.str))/\H[b4]?=fv (.lst (s4.map PV.str))/\H[b5]?=fv (.lst (s5.map PV.str))
 ok:(∀ x∈s1,bR x)/\(∀ x∈s2,bR x)/\(∀ x∈s3,bR x)/\(∀ x∈s4,bR x)
 le:s1.length<=4/\s2.length<=4/\s3.length<=4/\s4.length<=4/\s5.length<=4
theorem iV{b1 b2 b3 b4 b5:Nat}:aU [((.inr "box" :Key),PV.ref b1),(.inr "lock",.ref b2),(.inr "lane",.ref b3),(.inr "door",.ref b4),(.inr "hand",.ref b5)] (.inr "box")=fv (.ref b1) /\
  aU [((.inr "box" :Key),PV.ref b1),(.inr "lock",.ref b2),(.inr "lane",.ref b3),(.inr "door",.ref b4),(.inr "hand",.ref b5)] (.inr "lock")=fv (.ref b2) /\
  aU [((.inr "box" :Key),PV.ref b1),(.inr "lock",.ref b2),(.inr "lane",.ref b3),(.inr "door",.ref b4),(.inr "hand",.ref b5)] (.inr "lane")=fv (.ref b3) /\
  aU [((.inr "box" :Key),PV.ref b1),(.inr "lock",.ref b2),(.inr "lane",.ref b3),(.inr "door",.ref b4),(.inr "hand",.ref b5)] (.inr "door")=fv (.ref b4) /\
  aU [((.inr "box" :Key),PV.ref b1),(.inr "lock",.ref b2),(.inr "lane",.ref b3),(.inr "door",.ref b4),(.inr "hand",.ref b5)] (.inr "hand")=fv (.ref b5):=by
 refine⟨?_,?_,?_,?_,?_⟩<;>simp[aU,aj]
theorem qO{p:Prop}[Decidable p]{ks qs:List Str}{n:Nat}(h:ks.length+qs.length+qs.length<=n):(if p then ks else ks++qs++qs).length<=n:=by
 split
 . omega
 . simp only[S1];omega
theorem q9{p:Prop}[Decidable p]{ks qs:List Str}{x:Str}(h:x∈(if p then ks else ks++qs++qs)):x∈ks\/(¬ p/\x∈qs):=by
 split at h
 . exact .inl h
 . rename_i z;rcases Tt.1 h with h | h
   . rcases Tt.1 h with h | h
     . exact .inl h
     . exact .inr ⟨z,h⟩
   . exact .inr ⟨z,h⟩
theorem zf(c : CF){H : PH}{nd : Nat}{s1 s2 s3 s4 s5 : List Str}(hn : Named H nd s1 s2 s3 s4 s5)(A0 A2 A3 n7 n8 n9 n10 : Option PV) :
    ∃ (g' : PH) (c' : Nat) (ks : List Str) (u5 u6 : PV), (H ++ g')[c']? = fv (.lst (ks.map PV.str)) /\ 0 < ks.length /\ ks.length <= 100 /\ (∀ x ∈ ks, jn s1 s2 s3 s4 x) /\ ∀ rest : MS,
    ah (ay (aC (aa (eS "let") (aa (eS "let") (a3 (eS "leap") (eS "clock") (eS "lot"))))) (gN 4))
    (ah (cI (cU (aC (aa (au (aa (eS "box") (aa (aC (a2 (eS "get") (eS "put"))) ag))) (aa (au (aa (eS "lock") (aa (aC (a2 (eS "take") (eS "free"))) ag))) (aa (au (aa (eS "lane") (aa (aC (a2 (eS "send") (eS "fetch"))) ag))) ag))))) (gT 2 (ba (gN 5) (ba (gN 6) eO))) (bC (ao (ai i8 (ai aW (ae 1) (ae 5)) (aC ag))) (ay (ai ak (ai ak (ae 4) (ae 6)) (ae 6)) (gN 4)) bz))
    (ah (bC (ao (ai i8 (ai aW (ae 1) (eS "door")) (aC ag))) (ay (ai ak (ae 4) (aC (a3 (eS "say") (eS "hear") (eS "say")))) (gN 4)) bz)
    rest)) c [A0, fv (.ref nd), A2, A3, SU, SU, SU, n7, n8, n9, n10] H = rest c [A0, fv (.ref nd), A2, A3, fv (.ref c'), fv u5, fv u6, n7, n8, n9, n10] (H ++ g') := by
  obtain ⟨b1, b2, b3, b4, b5, e0, e1, e2, e3, e4, e5⟩ := hn.at_;obtain ⟨o1, o2, o3, o4⟩ : (∀ x ∈ s1, TZ x = true) /\ (∀ x ∈ s2, TZ x = true) /\ (∀ x ∈ s3, TZ x = true) /\ (∀ x ∈ s4, TZ x = true) := ⟨λx m => (hn.ok.1 x m).1, λx m => (hn.ok.2.1 x m).1, λx m => (hn.ok.2.2.1 x m).1, λx m => (hn.ok.2.2.2 x m).1⟩
  obtain ⟨w1, w2, w3, w4, w5⟩ := iV (b1 := b1) (b2 := b2) (b3 := b3) (b4 := b4) (b5 := b5)
  let k0 : List Str := ["let", "let", "leap", "clock", "lot"]
  let G : PH := [.lst (k0.map PV.str), .lst [.str "get", .str "put"], .lst [.str "take", .str "free"], .lst [.str "send", .str "fetch"],
    .lst [.tup [.str "box", .ref (H.length + 1)], .tup [.str "lock", .ref (H.length + 2)], .tup [.str "lane", .ref (H.length + 3)]]]
  have old : ∀{n : Nat}{o : PO}(g : PH), H[n]? = fv o -> (H ++ g)[n]? = fv o := λg e => (bb (bP e)).trans e;have oldG : ∀{n : Nat}{o : PO}(g : PH), (H ++ G)[n]? = fv o -> (H ++ (G ++ g))[n]? = fv o := λg e => by rw [<- SY]; exact (bb (bP e)).trans e
  have G0 : (H ++ G)[H.length]? = fv (.lst (k0.map PV.str)) := aI;have G1 : (H ++ G)[H.length + 1]? = fv (.lst ((["get", "put"] : List Str).map PV.str)) := aw;have G2 : (H ++ G)[H.length + 2]? = fv (.lst ((["take", "free"] : List Str).map PV.str)) := aw;have G3 : (H ++ G)[H.length + 3]? = fv (.lst ((["send", "fetch"] : List Str).map PV.str)) := aw;have G4 : (H ++ G)[H.length + 4]? = fv (.lst [.tup [.str "box", .ref (H.length + 1)], .tup [.str "lock", .ref (H.length + 2)], .tup [.str "lane", .ref (H.length + 3)]]) := aw;have fin1 : ∀ g : PH, jO.eU ⟨fv (H.length + 4), [.tup [.str "box", .ref (H.length + 1)], .tup [.str "lock", .ref (H.length + 2)], .tup [.str "lane", .ref (H.length + 3)]]⟩ (H ++ (G ++ g)) = true := λg => by
    unfold jO.eU;simp only [oldG g G4, true_or, decide_true]
  obtain ⟨g1, c1, f1, st1⟩ := BP c (H := H ++ G) (nd := nd) (cc := H.length) (q := H.length + 1) (ks := k0) (qs := ["get", "put"]) (sort := "box") (old G e0) w1 (old G e1) G0 G1 o1 (by decide) A0 A2 A3 SU SU n7 n8 n9 n10;generalize hk1 : (if s1 = [] then k0 else k0 ++ (["get", "put"] : List Str) ++ (["get", "put"] : List Str)) = k1 at f1;have l1 : k1.length <= 20 := by rw [<- hk1]; exact qO (by decide)
  obtain ⟨g2, c2, f2, st2⟩ := BP c (H := H ++ G ++ g1) (nd := nd) (cc := c1) (q := H.length + 2) (ks := k1) (qs := ["take", "free"]) (sort := "lock") (by rw [SY]; exact old _ e0) w2 (by rw [SY]; exact old _ e2) f1 (by rw [SY]; exact oldG g1 G2) o2 (by show k1.length + 2 + 2 <= 1000; omega) A0 A2 A3 (fv (.str "box")) (fv (.ref (H.length + 1))) n7 n8 n9 n10;generalize hk2 : (if s2 = [] then k1 else k1 ++ (["take", "free"] : List Str) ++ (["take", "free"] : List Str)) = k2 at f2;have l2 : k2.length <= 30 := by rw [<- hk2]; exact qO (by show k1.length + 2 + 2 <= 30; omega)
  obtain ⟨g3, c3, f3, st3⟩ := BP c (H := H ++ G ++ g1 ++ g2) (nd := nd) (cc := c2) (q := H.length + 3) (ks := k2) (qs := ["send", "fetch"]) (sort := "lane") (by rw [SY, SY]; exact old _ e0) w3 (by rw [SY, SY]; exact old _ e3) f2 (by rw [SY, SY]; exact oldG _ G3) o3 (by show k2.length + 2 + 2 <= 1000; omega) A0 A2 A3 (fv (.str "lock")) (fv (.ref (H.length + 2))) n7 n8 n9 n10;generalize hk3 : (if s3 = [] then k2 else k2 ++ (["send", "fetch"] : List Str) ++ (["send", "fetch"] : List Str)) = k3 at f3;have l3 : k3.length <= 40 := by rw [<- hk3]; exact qO (by show k2.length + 2 + 2 <= 40; omega)
  have in0 : ∀ x ∈ k0, jn s1 s2 s3 s4 x := λx m => by
    rcases Tq.mp m with e | m
    . exact .inl e
    rcases Tq.mp m with e | m
    . exact .inl e
    rcases Tq.mp m with e | m
    . exact .inr (.inl e)
    rcases Tq.mp m with e | m
    . exact .inr (.inr (.inl e))
    rcases Tq.mp m with e | m
    . exact .inr (.inr (.inr (.inl e)))
    . cases m
  have two : ∀{x a b : Str}, x ∈ [a, b] -> x = a ∨ x = b := λm => by simpa using m
  have in1 : ∀ x ∈ k1, jn s1 s2 s3 s4 x := λx m => by
    rw [<- hk1] at m;rcases q9 m with m | ⟨z, m⟩
    . exact in0 x m
    . exact .inr (.inr (.inr (.inr (.inl ⟨z, two m⟩))))
  have in2 : ∀ x ∈ k2, jn s1 s2 s3 s4 x := λx m => by
    rw [<- hk2] at m;rcases q9 m with m | ⟨z, m⟩
    . exact in1 x m
    . exact .inr (.inr (.inr (.inr (.inr (.inl ⟨z, two m⟩)))))
  have in3 : ∀ x ∈ k3, jn s1 s2 s3 s4 x := λx m => by
    rw [<- hk3] at m;rcases q9 m with m | ⟨z, m⟩
    . exact in2 x m
    . exact .inr (.inr (.inr (.inr (.inr (.inr (.inl ⟨z, two m⟩))))))
  have p1 : 0 < k1.length := by rw [<- hk1]; split <;> simp [k0]
  have p2 : 0 < k2.length := by
                                   rw [<- hk2]; split
                                   . exact p1
                                   . simp only [S1, S2]; omega
  have p3 : 0 < k3.length := by
                                   rw [<- hk3]; split
                                   . exact p2
                                   . simp only [S1, S2]; omega
  have lp : bM ⟨fv (H.length + 4), [.tup [.str "box", .ref (H.length + 1)], .tup [.str "lock", .ref (H.length + 2)], .tup [.str "lane", .ref (H.length + 3)]]⟩ (bZ (gT 2 (ba (gN 5) (ba (gN 6) eO))) (bC (ao (ai i8 (ai aW (ae 1) (ae 5)) (aC ag))) (ay (ai ak (ai ak (ae 4) (ae 6)) (ae 6)) (gN 4)) bz) c) [.tup [.str "box", .ref (H.length + 1)], .tup [.str "lock", .ref (H.length + 2)], .tup [.str "lane", .ref (H.length + 3)]]
      [A0, fv (.ref nd), A2, A3, fv (.ref H.length), SU, SU, n7, n8, n9, n10] (H ++ G) = .ok (.nx [A0, fv (.ref nd), A2, A3, fv (.ref c3), fv (.str "lane"), fv (.ref (H.length + 3)), n7, n8, n9, n10]) (H ++ (G ++ (g1 ++ (g2 ++ g3)))) := by
    have z0 := fin1 [];rw [Tv] at z0;rw [fE z0, st1, bj, dg, SY, fE (fin1 g1)];rw [SY] at st2 st3;rw [st2, bj, dg, SY, SY, fE (fin1 (g1 ++ g2))];simp only [SY] at st3;rw [st3, bj, dg]
    try simp only [SY]
    rw [gY (fin1 (g1 ++ (g2 ++ g3)))]
  simp only [SY] at f3;have l4 := bP e4;have ev0 : ∀ rest' : MS, ah (ay (aC (aa (eS "let") (aa (eS "let") (a3 (eS "leap") (eS "clock") (eS "lot"))))) (gN 4))
    (ah (cI (cU (aC (aa (au (aa (eS "box") (aa (aC (a2 (eS "get") (eS "put"))) ag))) (aa (au (aa (eS "lock") (aa (aC (a2 (eS "take") (eS "free"))) ag))) (aa (au (aa (eS "lane") (aa (aC (a2 (eS "send") (eS "fetch"))) ag))) ag))))) (gT 2 (ba (gN 5) (ba (gN 6) eO))) (bC (ao (ai i8 (ai aW (ae 1) (ae 5)) (aC ag))) (ay (ai ak (ai ak (ae 4) (ae 6)) (ae 6)) (gN 4)) bz))
    rest') c [A0, fv (.ref nd), A2, A3, SU, SU, SU, n7, n8, n9, n10] H = rest' c [A0, fv (.ref nd), A2, A3, fv (.ref c3), fv (.str "lane"), fv (.ref (H.length + 3)), n7, n8, n9, n10] (H ++ (G ++ (g1 ++ (g2 ++ g3)))) := λrest' => by
    simp? (disch := omega) only [U0]
    exact (congrArg (λr => RV.bind r (yc rest' c)) lp).trans rfl
  generalize hJ : H ++ (G ++ (g1 ++ (g2 ++ g3))) = J at f3 ev0;have oJ : ∀{n : Nat}{o : PO}, H[n]? = fv o -> J[n]? = fv o := λe => by rw [<- hJ]; exact old _ e
  have ne := ne_nil (h := J ++ [.lst []]) (n := b4) (m := J.length) (ss := s4) (by rw [bb (bP (oJ e4))]; exact oJ e4) aI o4;by_cases z : s4 = []
  . refine ⟨G ++ (g1 ++ (g2 ++ g3)) ++ [.lst []], c3, k3, .str "lane", .ref (H.length + 3), ?_, p3, by omega, in3, λrest => ?_⟩
    . rw [<- SY, hJ, bb (bP f3)]; exact f3
    . rw [ev0, <- SY, hJ];simp? (disch := omega) only [oJ e0, w4, ne, z]
  . have ad : ak (.ref c3) (.ref (J.length + (0 + 1))) (J ++ [.lst [], .lst [.str "say", .str "hear", .str "say"]]) = .ok (.ref (J.length + (0 + 1 + 1))) (J ++ [.lst [], .lst [.str "say", .str "hear", .str "say"], .lst (k3.map PV.str ++ [.str "say", .str "hear", .str "say"])]) := by
      have := cF (h := J ++ [.lst [], .lst [.str "say", .str "hear", .str "say"]]) (n := c3) (m := J.length + (0 + 1)) (xs := k3.map PV.str) (ys := [.str "say", .str "hear", .str "say"]) (by rw [bb (bP f3)]; exact f3) (by rw [aw]; rfl) (by rw [SX]; simp only [S2, Tj]; omega);simpa using this
    refine ⟨G ++ (g1 ++ (g2 ++ g3)) ++ [.lst [], .lst [.str "say", .str "hear", .str "say"], .lst (k3.map PV.str ++ [.str "say", .str "hear", .str "say"])], J.length + (0 + 1 + 1), k3 ++ (["say", "hear", "say"] : List Str), .str "lane", .ref (H.length + 3), ?_, by simp, by simp; omega, λx m => ?_, λrest => ?_⟩
    . rw [<- SY, hJ, aw, UM]; rfl
    . rcases Tt.mp m with m | m
      . exact in3 x m
      . refine .inr (.inr (.inr (.inr (.inr (.inr (.inr ⟨z, ?_⟩))))));rcases Tq.mp m with e | m
        . exact .inl e
        rcases Tq.mp m with e | m
        . exact .inr e
        rcases Tq.mp m with e | m
        . exact .inl e
        . cases m
    . rw [ev0, <- SY, hJ];simp? (disch := omega) only [oJ e0, w4, ne, z, ad]
def fu(g:PH)(nd:Nat)(s1 s2 s3 s4 s5:List Str):Prop :=
 (∃ b1 b2 b3 b4 b5:Nat,g[nd]?=fv (.dct [(.inr "box",.ref (b1+1+1)),(.inr "lock",.ref (b2+1+1)),(.inr "lane",.ref (b3+1+1)),(.inr "door",.ref (b4+1+1)),(.inr "hand",.ref (b5+1+1))]) /\
  g[b1]?=fv (.lst (s1.map PV.str))/\g[b2]?=fv (.lst (s2.map PV.str))/\g[b3]?=fv (.lst (s3.map PV.str))/\g[b4]?=fv (.lst (s4.map PV.str))/\g[b5]?=fv (.lst (s5.map PV.str))) /\
 ((∀ x∈s1,bR x)/\(∀ x∈s2,bR x)/\(∀ x∈s3,bR x)/\(∀ x∈s4,bR x)) /\
 (s1.length<=4/\s2.length<=4/\s3.length<=4/\s4.length<=4/\s5.length<=4)
theorem fu.app{g g':PH}{nd:Nat}{s1 s2 s3 s4 s5:List Str}(h:fu g nd s1 s2 s3 s4 s5):fu (g++g') nd s1 s2 s3 s4 s5:=by
 obtain⟨⟨b1,b2,b3,b4,b5,e0,e1,e2,e3,e4,e5⟩,h2,h3⟩:=h;exact⟨⟨b1,b2,b3,b4,b5,(bb (bP e0)).trans e0,(bb (bP e1)).trans e1,(bb (bP e2)).trans e2,(bb (bP e3)).trans e3,(bb (bP e4)).trans e4,(bb (bP e5)).trans e5⟩,h2,h3⟩
theorem fu.up{g:PH}{nd:Nat}{s1 s2 s3 s4 s5:List Str}(h:fu g nd s1 s2 s3 s4 s5)(x y:PO):Named (x::y::g) (nd+1+1) s1 s2 s3 s4 s5:=by
 obtain⟨⟨b1,b2,b3,b4,b5,e0,e1,e2,e3,e4,e5⟩,h2,h3⟩:=h;exact⟨⟨_,_,_,_,_,e0,e1,e2,e3,e4,e5⟩,h2,h3⟩
theorem Hl{ns:List Int}{k:Int}{o:Option Int}{J:PH}{c:Nat}{xs:List PV}(h:(aG ns::aF k o::J)[c]?=fv (.lst xs)): ∃ c',c=c'+1+1/\J[c']?=fv (.lst xs):=by
 match c,h with
 | 0,h=>nomatch h
 | 1,h=>nomatch h
 | c+2,h=>exact⟨c,rfl,h⟩
noncomputable def dU:List (Key × PV):=[(.inr "get",.str "box"),(.inr "put",.str "box"),(.inr "take",.str "lock"),(.inr "free",.str "lock"),(.inr "send",.str "lane"),(.inr "fetch",.str "lane"),(.inr "say",.str "door"),(.inr "hear",.str "door")]
theorem yb:aU dU (.inr "get")=fv (.str "box")/\aU dU (.inr "put")=fv (.str "box")/\aU dU (.inr "take")=fv (.str "lock")/\aU dU (.inr "free")=fv (.str "lock") /\
  aU dU (.inr "send")=fv (.str "lane")/\aU dU (.inr "fetch")=fv (.str "lane")/\aU dU (.inr "say")=fv (.str "door")/\aU dU (.inr "hear")=fv (.str "door"):=by
 refine⟨?_,?_,?_,?_,?_,?_,?_,?_⟩<;>simp[dU,aU,aj]
theorem sh{a b c:Str}{h:PH}:fK (.str a) (.tup [.str b,.str c]) h= .ok (.bl (decide (a=b\/a=c))) h:=by
 have:=CN (h:=h) (a:=a) (ss:=[b,c]);simpa using this
theorem sx{a b c d:Str}{h:PH}:fK (.str a) (.tup [.str b,.str c,.str d]) h= .ok (.bl (decide (a=b\/a=c\/a=d))) h:=by
 have:=CN (h:=h) (a:=a) (ss:=[b,c,d]);simpa using this
theorem Gw{v w:Int}(h0:0<=v)(h1:v < 4)(w0:0<=w)(w1:w < 999): ∃ n:Int,2<=n/\n<=1000/\fY [PV.int 2,.int 3,.int 1000,.int (2+w)] v=fv (.int n):=by
 have:v=0\/v=1\/v=2\/v=3:=by omega
 rcases this with rfl | rfl | rfl | rfl
 . exact⟨2,by decide,by decide,rfl⟩
 . exact⟨3,by decide,by decide,rfl⟩
 . exact⟨1000,by decide,by decide,rfl⟩
 . exact⟨2+w,by omega,by omega,rfl⟩
section
variable{pg:Tb}(T:cv pg)
include T
theorem zB(j:Nat){ns:List Int}(hn:ns.length<=63){np nd sd:Nat}{ps L:List Str}(p0:0 < ps.length)(p9:ps.length<=1000)(hq: ∀ x∈ps,bR x)(hL: ∀ x∈ps,x∈L){s1 s2 s3 s4 s5:List Str}{J:PH}(hN:fu J nd s1 s2 s3 s4 s5)(hp:J[np]?=fv (.lst (ps.map PV.str)))(hs:J[sd]?=fv (.dct dU))
  (k many:Int) (o:Option Int) (k0:0<=k) (k9:k+82<=1000000) (m0:0<=many) (m9:many<=1000) {x y:Str} (hx:jn s1 s2 s3 s4 x) (hy:y∈ps) (u4 u5 u6:Option PV) :
  ∃(r:Rw)(k':Int)(o':Option Int)(g':PH),(oY L many.toNat r/\vj s1 s2 s3 s4 r)/\k<=k'/\k'<=k+82 /\
  ah (bC (mQ (ae 7) (eS "let")) (av (au (aa (eS "let") (aa (ae 8) (aa (af "_law_sum" (a2 (ae 0) (ae 2))) ag))))) bz)
  (ah (bC (mQ (ae 7) (eS "leap")) (av (au (aa (eS "leap") (aa (af "_law_pick" (aa (ae 0) (aa (ai ak (ae 3) (eI 1)) ag))) (aa (af "_law_sum" (a2 (ae 0) (ae 2))) ag))))) bz)
  (ah (bC (mQ (ae 7) (eS "clock")) (av (au (a2 (eS "clock") (ae 8)))) bz)
  (ah (bC (mQ (ae 7) (eS "lot")) (av (au (aa (eS "lot") (aa (ae 8) (aa (ai aW (aC (aa (eI 2) (aa (eI 3) (aa (eI 1000) (aa (ai ak (eI 2) (af "_law_pick" (a2 (ae 0) (eI 999)))) ag))))) (af "_law_pick" (a2 (ae 0) (eI 4)))) ag))))) bz)
  (ah (ay (ai aW (ae 1) (ai aW (ae 9) (ae 7))) (gN 6))
  (ah (ay (ai aW (ae 6) (af "_law_pick" (aa (ae 0) (aa (eB aO (a1 (ae 6))) ag)))) (gN 10))
  (ah (bC (ao (ai fK (ae 7) (au (a2 (eS "take") (eS "free"))))) (av (au (a2 (ae 7) (ae 10)))) bz)
  (ah (bC (ao (ai fK (ae 7) (au (a3 (eS "get") (eS "fetch") (eS "hear"))))) (av (au (a3 (ae 7) (ae 8) (ae 10)))) bz)
  (av (au (aa (ae 7) (aa (ae 10) (aa (af "_law_sum" (a2 (ae 0) (ae 2))) ag))))))))))))
  (run pg (j+8)) [fv (.ref 1),fv (.ref (nd+1+1)),fv (.ref (np+1+1)),fv (.int many),u4,u5,u6,fv (.str x),fv (.str y),fv (.ref (sd+1+1)),SU] (aG ns::aF k o::J)= .ok (.rt (jN r)) (aG ns::aF k' o'::(J++g')):=by
 obtain⟨⟨b1,b2,b3,b4,b5,e0,e1,e2,e3,e4,e5⟩,⟨n1,n2,n3,n4⟩,⟨l1,l2,l3,l4,l5⟩⟩:=hN;obtain⟨w1,w2,w3,w4,w5⟩:=iV (b1:=b1+1+1) (b2:=b2+1+1) (b3:=b3+1+1) (b4:=b4+1+1) (b5:=b5+1+1);obtain⟨v1,v2,v3,v4,v5,v6,v7,v8⟩:=yb;have yL:=hL y hy;have len0: ∀{s:List Str},s≠[]->0 < s.length:=λh=>Wc.mpr h;rcases hx with rfl | rfl | rfl | rfl | ⟨z,hx⟩ | ⟨z,hx⟩ | ⟨z,hx⟩ | ⟨z,hx⟩
 . obtain⟨e,k',o',q1,q2,q3,q4⟩:=om T j hn p0 p9 hq k o J k0 (by omega) hp;refine⟨.let_ y e,k',o',[],⟨⟨yL,q1⟩,trivial⟩,q2,by omega,?_⟩;simp? [q4,jN,Rw.w,Rw.ps,Tv]
 . obtain⟨a,a0,a1,ea⟩:=bg T (j+6) J hn o (k:=k) (many+1) k0 (by omega) (by omega) (by omega);obtain⟨e,k',o',q1,q2,q3,q4⟩:=om T j hn p0 p9 hq (k+1) o J (by omega) (by omega) hp;refine⟨.leap a e,k',o',[],⟨⟨a0,by omega,q1⟩,trivial⟩,by omega,by omega,?_⟩;simp? [ea,q4,jN,Rw.w,Rw.ps,Tv]
 . refine⟨.clock y,k,o,[],⟨yL,trivial⟩,by omega,by omega,?_⟩;simp? [jN,Rw.w,Rw.ps,Tv]
 . obtain⟨a,a0,a1,ea⟩:=bg T (j+6) J hn o (k:=k) 999 k0 (by omega) (by decide) (by decide);obtain⟨b,b0,b1,eb⟩:=bg T (j+6) (J++[.lst [.int 2,.int 3,.int 1000,.int (2+a)]]) hn o (k:=k+1) 4 (by omega) (by omega) (by decide) (by decide);obtain⟨n,n0,n9,en⟩:=Gw b0 b1 a0 a1;refine⟨.lot y n,k+1+1,o,[.lst [.int 2,.int 3,.int 1000,.int (2+a)]],⟨⟨yL,n0,n9⟩,trivial⟩,by omega,by omega,?_⟩;simp? [ea,eb,en,jN,Rw.w,Rw.ps]
 . have zl:=len0 z;obtain⟨a,a0,a1,ea⟩:=bg T (j+6) J hn o (k:=k) s1.length k0 (by omega) (by omega) (by omega);obtain⟨t,ht,et⟩:=gZ a0 a1;rcases hx with rfl | rfl
   . refine⟨.get y t,k+1,o,[],⟨yL,ht⟩,by omega,by omega,?_⟩;simp? [e0,hs,v1,w1,e1,SX,ea,et,sh,sx,jN,Rw.w,Rw.ps,Tv,true_or,or_true,or_false,false_or]
   . obtain⟨e,k',o',q1,q2,q3,q4⟩:=om T j hn p0 p9 hq (k+1) o J (by omega) (by omega) hp;refine⟨.put t e,k',o',[],⟨q1,ht⟩,by omega,by omega,?_⟩;simp? [e0,hs,v2,w1,e1,SX,ea,et,sh,sx,q4,jN,Rw.w,Rw.ps,Tv,true_or,or_true,or_false,false_or]
 . have zl:=len0 z;obtain⟨a,a0,a1,ea⟩:=bg T (j+6) J hn o (k:=k) s2.length k0 (by omega) (by omega) (by omega);obtain⟨t,ht,et⟩:=gZ a0 a1;rcases hx with rfl | rfl
   . refine⟨.take t,k+1,o,[],⟨trivial,ht⟩,by omega,by omega,?_⟩;simp? [e0,hs,v3,w2,e2,SX,ea,et,sh,sx,jN,Rw.w,Rw.ps,Tv,true_or,or_true,or_false,false_or]
   . refine⟨.free t,k+1,o,[],⟨trivial,ht⟩,by omega,by omega,?_⟩;simp? [e0,hs,v4,w2,e2,SX,ea,et,sh,sx,jN,Rw.w,Rw.ps,Tv,true_or,or_true,or_false,false_or]
 . have zl:=len0 z;obtain⟨a,a0,a1,ea⟩:=bg T (j+6) J hn o (k:=k) s3.length k0 (by omega) (by omega) (by omega);obtain⟨t,ht,et⟩:=gZ a0 a1;rcases hx with rfl | rfl
   . obtain⟨e,k',o',q1,q2,q3,q4⟩:=om T j hn p0 p9 hq (k+1) o J (by omega) (by omega) hp;refine⟨.send t e,k',o',[],⟨q1,ht⟩,by omega,by omega,?_⟩;simp? [e0,hs,v5,w3,e3,SX,ea,et,sh,sx,q4,jN,Rw.w,Rw.ps,Tv,true_or,or_true,or_false,false_or]
   . refine⟨.fetch y t,k+1,o,[],⟨yL,ht⟩,by omega,by omega,?_⟩;simp? [e0,hs,v6,w3,e3,SX,ea,et,sh,sx,jN,Rw.w,Rw.ps,Tv,true_or,or_true,or_false,false_or]
 . have zl:=len0 z;obtain⟨a,a0,a1,ea⟩:=bg T (j+6) J hn o (k:=k) s4.length k0 (by omega) (by omega) (by omega);obtain⟨t,ht,et⟩:=gZ a0 a1;rcases hx with rfl | rfl
   . obtain⟨e,k',o',q1,q2,q3,q4⟩:=om T j hn p0 p9 hq (k+1) o J (by omega) (by omega) hp;refine⟨.say t e,k',o',[],⟨q1,ht⟩,by omega,by omega,?_⟩;simp? [e0,hs,v7,w4,e4,SX,ea,et,sh,sx,q4,jN,Rw.w,Rw.ps,Tv,true_or,or_true,or_false,false_or]
   . refine⟨.hear y t,k+1,o,[],⟨yL,ht⟩,by omega,by omega,?_⟩;simp? [e0,hs,v8,w4,e4,SX,ea,et,sh,sx,jN,Rw.w,Rw.ps,Tv,true_or,or_true,or_false,false_or]
end
noncomputable def cE:List (Key × PV):=[(.inr "get",.str "box"),(.inr "put",.str "box"),(.inr "take",.str "lock"),(.inr "free",.str "lock"),(.inr "send",.str "lane"),(.inr "fetch",.str "lane")]
theorem ub:bp [] cE=cE/\bp [] [((.inr "say" :Key),PV.str "door"),(.inr "hear",.str "door")]=[(.inr "say",.str "door"),(.inr "hear",.str "door")]/\bp cE [((.inr "say" :Key),PV.str "door"),(.inr "hear",.str "door")]=dU:=by
 refine⟨?_,?_,?_⟩<;>simp[cE,dU,bp,fA,aj]
section
variable{pg:Tb}(T:cv pg)
include T
theorem F7(j:Nat){ns:List Int}(hn:ns.length<=63){np nd:Nat}{ps L:List Str}(p0:0 < ps.length)(p9:ps.length<=1000)(hq: ∀ x∈ps,bR x)(hL: ∀ x∈ps,x∈L){s1 s2 s3 s4 s5:List Str}{g:PH}(hN:fu g nd s1 s2 s3 s4 s5)(hp:g[np]?=fv (.lst (ps.map PV.str)))
  (k many:Int) (o:Option Int) (k0:0<=k) (k9:k+84<=1000000) (m0:0<=many) (m9:many<=1000) :
  ∃ (r:Rw) (k':Int) (o':Option Int),(oY L many.toNat r∧vj s1 s2 s3 s4 r)∧k<=k'∧k'<=k+84∧run pg (j+9) "_law_row" [.ref 1,.ref (nd+1+1),.ref (np+1+1),.int many] (aG ns::aF k o::g)= .ok (jN r) (aG ns::aF k' o'::g):=by
 have kk:=zf (run pg (j+8)) (hN.up (aG ns) (aF k o)) (fv (.ref 1)) (fv (.ref (np+1+1))) (fv (.int many)) SU SU SU SU;obtain ⟨m1,m2,m3⟩:=ub;have pre: ∃ (g':PH) (c':Nat) (ks:List Str) (u5 u6:PV),(g++g')[c']?=fv (.lst (ks.map PV.str))∧0 < ks.length∧ks.length<=100∧(∀ x∈ks,jn s1 s2 s3 s4 x)∧ ∀ rest, 
  ah (ay (aC (aa (eS "let") (aa (eS "let") (a3 (eS "leap") (eS "clock") (eS "lot"))))) (gN 4))
  (ah (cI (cU (aC (aa (au (aa (eS "box") (aa (aC (a2 (eS "get") (eS "put"))) ag))) (aa (au (aa (eS "lock") (aa (aC (a2 (eS "take") (eS "free"))) ag))) (aa (au (aa (eS "lane") (aa (aC (a2 (eS "send") (eS "fetch"))) ag))) ag))))) (gT 2 (ba (gN 5) (ba (gN 6) eO))) (bC (ao (ai i8 (ai aW (ae 1) (ae 5)) (aC ag))) (ay (ai ak (ai ak (ae 4) (ae 6)) (ae 6)) (gN 4)) bz))
  (ah (bC (ao (ai i8 (ai aW (ae 1) (eS "door")) (aC ag))) (ay (ai ak (ae 4) (aC (a3 (eS "say") (eS "hear") (eS "say")))) (gN 4)) bz)
  rest)) (run pg (j+8)) [fv (.ref 1),fv (.ref (nd+1+1)),fv (.ref (np+1+1)),fv (.int many),SU,SU,SU,SU,SU,SU,SU] (aG ns::aF k o::g) =
  rest (run pg (j+8)) [fv (.ref 1),fv (.ref (nd+1+1)),fv (.ref (np+1+1)),fv (.int many),fv (.ref (c'+1+1)),fv u5,fv u6,SU,SU,SU,SU] (aG ns::aF k o::(g++g')):=by
  obtain⟨g',c,ks,u5,u6,h1,h2,h3,h4,h5⟩:=kk
  obtain⟨c',rfl,h1'⟩:=Hl (J:=g++g') h1
  exact⟨g',c',ks,u5,u6,h1',h2,h3,h4,h5⟩
 obtain⟨g',c',ks,u5,u6,hc,kp,kl,hk,ev⟩:=pre;obtain⟨v,v0,v1,ev1⟩:=bg T (j+6) (g++g') hn o (k:=k) ks.length k0 (by omega) (by omega) (by omega);obtain⟨x,xm,ex⟩:=gZ v0 v1;obtain⟨w,w0,w1,ew1⟩:=bg T (j+6) (g++g') hn o (k:=k+1) ps.length (by omega) (by omega) (by omega) (by omega);obtain⟨y,ym,ey⟩:=gZ w0 w1;have hp':(g++g')[np]?=fv (.lst (ps.map PV.str)):=(bb (bP hp)).trans hp;have dk1:B6 ((g++g').length+1+1) cE (aG ns::aF (k+1+1) o::(g++g'++[.dct []]))= .ok (.ref ((g++g').length+1+1)) (aG ns::aF (k+1+1) o::(g++g'++[.dct cE])):=by
  have:=lR (h:=aG ns::aF (k+1+1) o::(g++g')) (kvs:=cE) (by decide);rw[m1] at this;exact this
 have dk2:B6 ((g++g'++[PO.dct cE]).length+1+1) [((.inr "say" :Key),PV.str "door"),(.inr "hear",.str "door")] (aG ns::aF (k+1+1) o::(g++g'++[PO.dct cE]++[.dct []]))= .ok (.ref ((g++g'++[PO.dct cE]).length+1+1)) (aG ns::aF (k+1+1) o::(g++g'++[PO.dct cE]++[.dct [(.inr "say",.str "door"),(.inr "hear",.str "door")]])):=by
  have:=lR (h:=aG ns::aF (k+1+1) o::(g++g'++[PO.dct cE])) (kvs:=[((.inr "say" :Key),PV.str "door"),(.inr "hear",.str "door")]) (by decide);rw[m2] at this;exact this
 generalize hJ:g++g'=J at *;obtain⟨r,k',o',g2,t1,t2,t3,t4⟩:=zB T j hn p0 p9 hq hL (J:=J++([.dct dU,.dct [(.inr "say",.str "door"),(.inr "hear",.str "door")]]:PH)) (sd:=J.length) (by rw[<- hJ];exact hN.app.app) (by rw[bb (bP hp')];exact hp') aI (k+1+1) many o (by omega) (by omega) m0 m9 (hk x xm) ym (fv (.ref (c'+1+1))) (fv u5) (fv u6);refine⟨r,k',o',t1,by omega,by omega,?_⟩;rw[run_eq T.vg rfl];unfold gX mP;refine(congrArg (fin _) (ev _)).trans ?_;have md: ∀ rr c e,F2 bU eQ rr c e (.ref (J.length+1+1)) (aG ns::aF (k+1+1) o::(J++[.dct cE]))=(rr c e (aG ns::aF (k+1+1) o::(J++[.dct cE]))).bind (bU (.ref (J.length+1+1))):=λrr c e=>lb (yX (kvs:=cE) aI);have up:bU (.ref (J.length+1+1)) [.ref (J.length+(0+1)+1+1)] (aG ns::aF (k+1+1) o::(J++[.dct cE,.dct [(.inr "say",.str "door"),(.inr "hear",.str "door")]]))= .ok .non (aG ns::aF (k+1+1) o::(J++[.dct dU,.dct [(.inr "say",.str "door"),(.inr "hear",.str "door")]])):=by
  have:=Ie (h:=aG ns::aF (k+1+1) o::(J++[.dct cE,.dct [(.inr "say",.str "door"),(.inr "hear",.str "door")]])) (n:=J.length+1+1) (m:=J.length+(0+1)+1+1) (kvs:=cE) (more:=[(.inr "say",.str "door"),(.inr "hear",.str "door")]) aI aw (by omega) (by decide);rw[m3] at this;rw[this];simp only[Vc,dj,Vb]
 rw[S1] at dk2;simp only[SY,Va,TB,S2,Tj] at dk2;unfold cE at dk1 md up dk2;simp? [hc,ev1,ex,hp',ew1,ey,SX,g8,jy,gJ,jw,jt,jm,dk1,dk2,md,up,↓t4,eE (nq r)];rw[<- hJ,SY];exact eE (nq r)
end
def p7:List Str:=["a", "ab", "abc", "lets", "leaper", "getit", "puts", "taken", "freed", "sender", "fetched", "says", "clocks", "lots", "hearth", "added", "subway", "mulled", "lesser", "samey", "nothing", "boxes", "locker", "lanes", "doors", "hands", "b", "zzzzzzzz", "of", "num"]
def nA:List PV:=[.str "a",.str "ab",.str "abc",.str "lets",.str "leaper",.str "getit",.str "puts",.str "taken",.str "freed",.str "sender",.str "fetched",.str "says"]
noncomputable def nB:List PV:=[.str "clocks",.str "lots",.str "hearth",.str "added",.str "subway",.str "mulled",.str "lesser",.str "samey",.str "nothing"]
def nC:List PV:=[.str "boxes",.str "locker",.str "lanes",.str "doors",.str "hands",.str "b",.str "zzzzzzzz",.str "of",.str "num"]
def nD:List PV:=[.str "a",.str "ab",.str "abc",.str "lets",.str "leaper",.str "getit",.str "puts",.str "taken",.str "freed",.str "sender",.str "fetched",.str "says",.str "clocks",.str "lots",.str "hearth",.str "added",.str "subway",.str "mulled",.str "lesser",.str "samey",.str "nothing"]
def nE:List PV:=[.str "a",.str "ab",.str "abc",.str "lets",.str "leaper",.str "getit",.str "puts",.str "taken",.str "freed",.str "sender",.str "fetched",.str "says",.str "clocks",.str "lots",.str "hearth",.str "added",.str "subway",.str "mulled",.str "lesser",.str "samey",.str "nothing",.str "boxes",.str "locker",.str "lanes",.str "doors",.str "hands",.str "b",.str "zzzzzzzz",.str "of",.str "num"]
theorem y7: ∀ x∈p7,bR x:=by unfold bR;decide +kernel
theorem Ki:p7.Nodup:=by decide +kernel
theorem vo{x y:PO}{J:PH}{a b:Nat}{xs ys:List PV}(e1:J[a]?=fv (.lst xs))(e2:J[b]?=fv (.lst ys))(hl:xs.length+ys.length<=10000):ak (.ref (a+1+1)) (.ref (b+1+1)) (x::y::J)= .ok (.ref (J.length+1+1)) (x::y::(J++[.lst (xs++ys)])) :=
 cF (h:=x::y::J) (n:=a+1+1) (m:=b+1+1) e1 e2 (by omega)
section
variable{pg:Tb}(T:cv pg)
include T
theorem zP(j:Nat){ns:List Int}(hn:ns.length<=63)(k:Int)(o:Option Int)(g:PH)(k0:0<=k)(k9:k < 1000000) :
  ∃(g':PH)(n:Nat)(nm:List Str),(g++g')[n]?=fv (.lst (nm.map PV.str))/\nm.length=30/\(∀ x∈nm,bR x)/\nm.Nodup/\run pg (j+3) "_law_names" [.ref 1] (aG ns::aF k o::g)= .ok (.ref (n+1+1)) (aG ns::aF (k+1) o::(g++g')):=by
 have ad1: ∀ x y,ak (.ref (g.length+1+1)) (.ref (g.length+(0+1)+1+1)) (x::y::(g++[.lst nA,.lst nB]))= .ok (.ref (g.length+(0+1+1)+1+1)) (x::y::(g++[.lst nA,.lst nB,.lst nD])):=λx y=>by
  exact(vo (x:=x) (y:=y) (J:=g++[.lst nA,.lst nB]) (a:=g.length) (b:=g.length+(0+1)) aI aw (by decide)).trans (by simp only[SY,S1,Va,TB,S2,Tj];rfl)
 have ad2: ∀ x y,ak (.ref (g.length+(0+1+1)+1+1)) (.ref (g.length+(0+1+1+1)+1+1)) (x::y::(g++[.lst nA,.lst nB,.lst nD,.lst nC]))= .ok (.ref (g.length+(0+1+1+1+1)+1+1)) (x::y::(g++[.lst nA,.lst nB,.lst nD,.lst nC,.lst nE])):=λx y=>by
  exact(vo (x:=x) (y:=y) (J:=g++[.lst nA,.lst nB,.lst nD,.lst nC]) (a:=g.length+(0+1+1)) (b:=g.length+(0+1+1+1)) aw aw (by decide)).trans (by simp only[SY,S1,Va,TB,S2,Tj];rfl)
 obtain⟨v,v0,v1,ev⟩:=bg T (j) (g++[.lst nA,.lst nB,.lst nD,.lst nC,.lst nE]) hn o (k:=k) 30 k0 k9 (by decide) (by decide);have hA:[.str "a",.str "ab",.str "abc",.str "lets",.str "leaper",.str "getit",.str "puts",.str "taken",.str "freed",.str "sender",.str "fetched",.str "says"]=nA:=rfl;have hB:[.str "clocks",.str "lots",.str "hearth",.str "added",.str "subway",.str "mulled",.str "lesser",.str "samey",.str "nothing"]=nB:=rfl;have hC:[.str "boxes",.str "locker",.str "lanes",.str "doors",.str "hands",.str "b",.str "zzzzzzzz",.str "of",.str "num"]=nC:=rfl;have lA:nA.length=12:=rfl;have lB:nB.length=9:=rfl;have lC:nC.length=9:=rfl;have lD:nD.length=21:=rfl;have c30:((nE.length:Nat):Int)=30:=rfl;have c1:bV nE (fv v) SU=(p7.drop v.toNat).map PV.str:=by rw[P3.fT v0,Zg];rfl
 have c2:bV nE SU (fv v)=(p7.take v.toNat).map PV.str:=by rw[P3.jD v0,Zh];rfl
 have ad3: ∀ x y,ak (.ref (g.length+(0+1+1+1+1+1)+1+1)) (.ref (g.length+(0+1+1+1+1+1+1)+1+1)) (x::y::(g++[.lst nA,.lst nB,.lst nD,.lst nC,.lst nE,.lst ((p7.drop v.toNat).map PV.str),.lst ((p7.take v.toNat).map PV.str)]))= .ok (.ref (g.length+(0+1+1+1+1+1+1+1)+1+1)) (x::y::(g++[.lst nA,.lst nB,.lst nD,.lst nC,.lst nE,.lst ((p7.drop v.toNat).map PV.str),.lst ((p7.take v.toNat).map PV.str),.lst ((p7.drop v.toNat++p7.take v.toNat).map PV.str)])):=λx y=>by
  have:=vo (x:=x) (y:=y) (J:=g++[.lst nA,.lst nB,.lst nD,.lst nC,.lst nE,.lst ((p7.drop v.toNat).map PV.str),.lst ((p7.take v.toNat).map PV.str)]) (a:=g.length+(0+1+1+1+1+1)) (b:=g.length+(0+1+1+1+1+1+1)) aw aw (by rw[SX,SX,Uj,TL];have:p7.length=30:=rfl;omega);rw[<- UM] at this;rw[this];simp only[SY,S1,Va,TB,S2,Tj]
 refine⟨[.lst nA,.lst nB,.lst nD,.lst nC,.lst nE,.lst ((p7.drop v.toNat).map PV.str),.lst ((p7.take v.toNat).map PV.str),.lst ((p7.drop v.toNat++p7.take v.toNat).map PV.str)],g.length+(0+1+1+1+1+1+1+1),p7.drop v.toNat++p7.take v.toNat,aw,?_,λx m=>?_,?_,?_⟩
 . rw[S1,Uj,TL];have:p7.length=30:=rfl;omega
 . rcases Tt.mp m with m | m
   . exact y7 x (Vz m)
   . exact y7 x (UJ m)
 . exact(List.perm_append_comm.trans (by rw[YB])).nodup_iff.mpr Ki
 . rw[run_eq T.rl rfl];simp? [fF,jW,hA,hB,hC,ad1,ad2,c30,ev,c1,c2,ad3];exact jr (v:= .ref _) rfl
end
def OM(h:PH)(a b:Option PO):RV PV:=match a,b with
 | some (.lst xs),fv (.lst ys)=>HA (xs++ys) h
 | _,_=> .no
theorem OD{n m:Nat}{h:PH}:ak (.ref n) (.ref m) h=OM h (h[n]?) (h[m]?):=by
 unfold ak OM
 first | rfl | (simp only;done) | (cases h[n]?<;>cases h[m]?<;>rfl)
theorem K3{h:PH}{xs ys:List PV}(hl:xs.length+ys.length<=10000):OM h (fv (.lst xs)) (fv (.lst ys))= .ok (.ref h.length) (h++[.lst (xs++ys)]):=by
 unfold OM HA;exact ky (by rw[S1];omega)
theorem lU{nm:List Str}{v:Int}(h0:0<=v):bV (nm.map PV.str) SU (fv v)=(nm.take v.toNat).map PV.str:=by rw[P3.jD h0,Zh]
theorem xP{nm:List Str}{v:Int}(h0:0<=v):bV (nm.map PV.str) (fv v) SU=(nm.drop v.toNat).map PV.str:=by rw[P3.fT h0,Zg]
theorem x9{a b c d e:PV}:fA [] (.inr "box") a=[(.inr "box",a)]/\fA [(.inr "box",a)] (.inr "lock") b=[(.inr "box",a),(.inr "lock",b)]/\fA [(.inr "box",a),(.inr "lock",b)] (.inr "lane") c=[(.inr "box",a),(.inr "lock",b),(.inr "lane",c)] /\
  fA [(.inr "box",a),(.inr "lock",b),(.inr "lane",c)] (.inr "door") d=[(.inr "box",a),(.inr "lock",b),(.inr "lane",c),(.inr "door",d)]/\fA [(.inr "box",a),(.inr "lock",b),(.inr "lane",c),(.inr "door",d)] (.inr "hand") e=[(.inr "box",a),(.inr "lock",b),(.inr "lane",c),(.inr "door",d),(.inr "hand",e)]:=by
 refine⟨?_,?_,?_,?_,?_⟩<;>simp[fA,aj]
section
variable {pg:Tb} (T:cv pg)
include T
theorem zb(j : Nat){ns : List Int}(hn : ns.length <= 63)(k : Int)(o : Option Int)(g : PH){n : Nat}{nm : List Str}(hg : g[n]? = fv (.lst (nm.map PV.str)))(k0 : 0 <= k)(k9 : k + 5 < 1000000)(nl : nm.length = 30) :
    ∃ m1 m2 m3 m4 m5 : Int, (0 <= m1 /\ m1 < 5) /\ (0 <= m2 /\ m2 < 5) /\ (0 <= m3 /\ m3 < 5) /\ (0 <= m4 /\ m4 < 5) /\ (0 <= m5 /\ m5 < 5) /\ ∀ rest : MS,
    ah (ay jC (gN 2))
    (ah (cI (cU (aC (aa (eS "box") (aa (eS "lock") (a3 (eS "lane") (eS "door") (eS "hand")))))) (gN 3) (ah (ay (af "_law_pick" (a2 (ae 0) (eI 5))) (gN 4))
    (ah (bC (mQ (ae 3) (eS "hand")) (ay (ai ak (eI 1) (ai hV (ae 4) (eI 4))) (gN 4)) bz)
    (ah (nW lN (ae 2) (ae 3) (dR (ae 1) aR (aK (ae 4))))
    (ay (dR (ae 1) (aK (ae 4)) aR) (gN 1))))))
    rest) (run pg (j + 2)) [fv (.ref 1), fv (.ref (n + 1 + 1)), SU, SU, SU, SU, SU, SU, SU] (aG ns :: aF k o :: g) =
    rest (run pg (j + 2)) [fv (.ref 1), fv (.ref (g.length + 11 + 1 + 1)), fv (.ref (g.length + 1 + 1)), fv (.str "hand"), fv (.int (1 + m5 % 4)), SU, SU, SU, SU] (aG ns :: aF (k + 5) o :: (g ++
      [.dct [(.inr "box", .ref (g.length + 2 + 1 + 1)), (.inr "lock", .ref (g.length + 4 + 1 + 1)), (.inr "lane", .ref (g.length + 6 + 1 + 1)), (.inr "door", .ref (g.length + 8 + 1 + 1)), (.inr "hand", .ref (g.length + 10 + 1 + 1))],
       .lst [.str "box", .str "lock", .str "lane", .str "door", .str "hand"],
       .lst ((nm.take m1.toNat).map PV.str), .lst ((nm.drop m1.toNat).map PV.str),
       .lst (((nm.drop m1.toNat).take m2.toNat).map PV.str), .lst (((nm.drop m1.toNat).drop m2.toNat).map PV.str),
       .lst ((((nm.drop m1.toNat).drop m2.toNat).take m3.toNat).map PV.str), .lst ((((nm.drop m1.toNat).drop m2.toNat).drop m3.toNat).map PV.str),
       .lst (((((nm.drop m1.toNat).drop m2.toNat).drop m3.toNat).take m4.toNat).map PV.str), .lst (((((nm.drop m1.toNat).drop m2.toNat).drop m3.toNat).drop m4.toNat).map PV.str),
       .lst ((((((nm.drop m1.toNat).drop m2.toNat).drop m3.toNat).drop m4.toNat).take (1 + m5 % 4).toNat).map PV.str), .lst ((((((nm.drop m1.toNat).drop m2.toNat).drop m3.toNat).drop m4.toNat).drop (1 + m5 % 4).toNat).map PV.str)])) := by
  have lt := bP hg;have old : ∀ G : PH, (g ++ G)[n]? = fv (.lst (nm.map PV.str)) := λG => (bb lt).trans hg;obtain ⟨m1, a1, b1, p1⟩ := bg T j (g ++ [.dct [], .lst [.str "box", .str "lock", .str "lane", .str "door", .str "hand"]]) hn o (k := k) 5 k0 (by omega) (by decide) (by decide)
  let G1 : PH := [.dct [(.inr "box", .ref (g.length + (0 + 1 + 1) + 1 + 1))], .lst [.str "box", .str "lock", .str "lane", .str "door", .str "hand"], .lst ((nm.take m1.toNat).map PV.str), .lst ((nm.drop m1.toNat).map PV.str)]
  obtain ⟨m2, a2, b2, p2⟩ := bg T j (g ++ G1) hn o (k := k + 1) 5 (by omega) (by omega) (by decide) (by decide)
  let G2 : PH := [.dct [(.inr "box", .ref (g.length + (0 + 1 + 1) + 1 + 1)), (.inr "lock", .ref (g.length + (0 + 1 + 1 + 1 + 1) + 1 + 1))], .lst [.str "box", .str "lock", .str "lane", .str "door", .str "hand"], .lst ((nm.take m1.toNat).map PV.str), .lst ((nm.drop m1.toNat).map PV.str), .lst (((nm.drop m1.toNat).take m2.toNat).map PV.str), .lst (((nm.drop m1.toNat).drop m2.toNat).map PV.str)]
  obtain ⟨m3, a3, b3, p3⟩ := bg T j (g ++ G2) hn o (k := k + 1 + 1) 5 (by omega) (by omega) (by decide) (by decide)
  let G3 : PH := [.dct [(.inr "box", .ref (g.length + (0 + 1 + 1) + 1 + 1)), (.inr "lock", .ref (g.length + (0 + 1 + 1 + 1 + 1) + 1 + 1)), (.inr "lane", .ref (g.length + (0 + 1 + 1 + 1 + 1 + 1 + 1) + 1 + 1))], .lst [.str "box", .str "lock", .str "lane", .str "door", .str "hand"], .lst ((nm.take m1.toNat).map PV.str), .lst ((nm.drop m1.toNat).map PV.str), .lst (((nm.drop m1.toNat).take m2.toNat).map PV.str), .lst (((nm.drop m1.toNat).drop m2.toNat).map PV.str),
       .lst ((((nm.drop m1.toNat).drop m2.toNat).take m3.toNat).map PV.str), .lst ((((nm.drop m1.toNat).drop m2.toNat).drop m3.toNat).map PV.str)]
  obtain ⟨m4, a4, b4, p4⟩ := bg T j (g ++ G3) hn o (k := k + 1 + 1 + 1) 5 (by omega) (by omega) (by decide) (by decide)
  let G4 : PH := [.dct [(.inr "box", .ref (g.length + (0 + 1 + 1) + 1 + 1)), (.inr "lock", .ref (g.length + (0 + 1 + 1 + 1 + 1) + 1 + 1)), (.inr "lane", .ref (g.length + (0 + 1 + 1 + 1 + 1 + 1 + 1) + 1 + 1)), (.inr "door", .ref (g.length + (0 + 1 + 1 + 1 + 1 + 1 + 1 + 1 + 1) + 1 + 1))], .lst [.str "box", .str "lock", .str "lane", .str "door", .str "hand"], .lst ((nm.take m1.toNat).map PV.str), .lst ((nm.drop m1.toNat).map PV.str), .lst (((nm.drop m1.toNat).take m2.toNat).map PV.str), .lst (((nm.drop m1.toNat).drop m2.toNat).map PV.str),
       .lst ((((nm.drop m1.toNat).drop m2.toNat).take m3.toNat).map PV.str), .lst ((((nm.drop m1.toNat).drop m2.toNat).drop m3.toNat).map PV.str), .lst (((((nm.drop m1.toNat).drop m2.toNat).drop m3.toNat).take m4.toNat).map PV.str), .lst (((((nm.drop m1.toNat).drop m2.toNat).drop m3.toNat).drop m4.toNat).map PV.str)]
  obtain ⟨m5, a5, b5, p5⟩ := bg T j (g ++ G4) hn o (k := k + 1 + 1 + 1 + 1) 5 (by omega) (by omega) (by decide) (by decide);refine ⟨m1, m2, m3, m4, m5, ⟨a1, b1⟩, ⟨a2, b2⟩, ⟨a3, b3⟩, ⟨a4, b4⟩, ⟨a5, b5⟩, λrest => ?_⟩;have mm : 0 <= m5 % 4 := VX _ (by decide);dsimp only [G1, G2, G3, G4] at p2 p3 p4 p5;have pu := λa b c d e => x9 (a := a) (b := b) (c := c) (d := d) (e := e);simp? (disch := first | omega | exact eY aw | (simp only [S2, Tj] <;> omega)) only [old, fE, gY, dg, lU, xP, wM, p1, p2, p3, p4, p5, (pu .non .non .non .non .non).1, λa => (pu a .non .non .non .non).1, λa b => (pu a b .non .non .non).2.1, λa b c => (pu a b c .non .non).2.2.1, λa b c d => (pu a b c d .non).2.2.2.1, λa b c d e => (pu a b c d e).2.2.2.2];have kk : k + 1 + 1 + 1 + 1 + 1 = k + 5 := by omega
  rw [kk]
theorem wR(j:Nat){ns:List Int}(hn:ns.length<=63)(k:Int)(o:Option Int)(g:PH){n:Nat}{nm:List Str}(hg:g[n]?=fv (.lst (nm.map PV.str)))(k0:0<=k)(k9:k+5 < 1000000)(nl:nm.length=30)(nk: ∀ x∈nm,bR x) :
  ∃ (g':PH) (nn nd:Nat) (s1 s2 s3 s4 s5 n5:List Str) (u3 u4:Option PV),fu (g++g') nd s1 s2 s3 s4 s5∧(g++g')[nn]?=fv (.lst (n5.map PV.str))∧n5.length<=30∧1<=s5.length∧s5.length<=4∧s1++(s2++(s3++(s4++(s5++n5))))=nm∧ ∀ rest:MS,
  ah (ay jC (gN 2))
  (ah (cI (cU (aC (aa (eS "box") (aa (eS "lock") (a3 (eS "lane") (eS "door") (eS "hand")))))) (gN 3) (ah (ay (af "_law_pick" (a2 (ae 0) (eI 5))) (gN 4))
  (ah (bC (mQ (ae 3) (eS "hand")) (ay (ai ak (eI 1) (ai hV (ae 4) (eI 4))) (gN 4)) bz)
  (ah (nW lN (ae 2) (ae 3) (dR (ae 1) aR (aK (ae 4))))
  (ay (dR (ae 1) (aK (ae 4)) aR) (gN 1))))))
  rest) (run pg (j+2)) [fv (.ref 1),fv (.ref (n+1+1)),SU,SU,SU,SU,SU,SU,SU] (aG ns::aF k o::g) =
  rest (run pg (j+2)) [fv (.ref 1),fv (.ref (nn+1+1)),fv (.ref (nd+1+1)),u3,u4,SU,SU,SU,SU] (aG ns::aF (k+5) o::(g++g')):=by
 obtain⟨m1,m2,m3,m4,m5,⟨a1,b1⟩,⟨a2,b2⟩,⟨a3,b3⟩,⟨a4,b4⟩,⟨a5,b5⟩,h⟩:=zb T j hn k o g hg k0 k9 nl;have q5:0<=m5 % 4/\m5 % 4 < 4:=⟨VX _ (by decide),VP _ (by decide)⟩
 have tk: ∀{l:List Str}{m:Nat}{x:Str},x∈l.take m->x∈l:=λh=>UJ h;have dr: ∀{l:List Str}{m:Nat}{x:Str},x∈l.drop m->x∈l:=λh=>Vz h;refine⟨_,_,_,nm.take m1.toNat,(nm.drop m1.toNat).take m2.toNat,((nm.drop m1.toNat).drop m2.toNat).take m3.toNat,(((nm.drop m1.toNat).drop m2.toNat).drop m3.toNat).take m4.toNat,((((nm.drop m1.toNat).drop m2.toNat).drop m3.toNat).drop m4.toNat).take (1+m5 % 4).toNat,((((nm.drop m1.toNat).drop m2.toNat).drop m3.toNat).drop m4.toNat).drop (1+m5 % 4).toNat,_,_,⟨⟨_,_,_,_,_,aI,aw,aw,aw,aw,aw⟩,⟨λx m=>nk x (tk m),λx m=>nk x (dr (tk m)),λx m=>nk x (dr (dr (tk m))),λx m=>nk x (dr (dr (dr (tk m))))⟩,?_⟩,aw,?_,?_,?_,by simp only[YB],h⟩
 . simp only[TL,Uj];omega
 . simp only[TL,Uj];omega
 . simp only[TL,Uj];omega
 . simp only[TL,Uj];omega
end
mutual
def bD:PV->Bool
 | .tup xs=>decide (xs.length<=100000)&&fS xs
 | .non=>true
 | .bl _=>true
 | .int _=>true
 | .str _=>true
 | _=>false
def fS:List PV->Bool
 | []=>true
 | x::r=>bD x&&fS r
end
mutual
def jK:PV->Nat
 | .tup xs=>yw xs+1
 | _=>0
def yw:List PV->Nat
 | []=>0
 | x::r=>max (jK x) (yw r)
end
theorem ph: ∀{xs:List PV}{x:PV},fS xs=true->x∈xs->bD x=true
 | y::r,x,h,m=>by
  rw[fS,Td] at h;rcases Tq.mp m with rfl | m
  . exact h.1
  . exact ph h.2 m
theorem Ax: ∀{xs:List PV}{x:PV},x∈xs->jK x<=yw xs
 | y::r,x,m=>by
  rw[yw];rcases Tq.mp m with rfl | m
  . omega
  . have:=Ax m;omega
theorem all_true(n:Nat):(S4 n true).all id=true:=by simp
theorem kQ{xs:List PV}{h:PH}:jO.eU ⟨SU,xs⟩ h=true:=rfl
theorem B8(n:Nat):[]++(Vi n).filterMap (λ_=>fv (PV.bl true))=(S4 n true).map PV.bl:=by simp[List.filterMap_some,List.map_const']
section
variable{pg:Tb}(T:cv pg)
include T
theorem same_refl: ∀(k:Nat)(h:PH)(v:PV),bD v=true->jK v<=k->run pg (k+1) "_law_same" [v,v] h= .ok (.bl true) h:=by
 intro k
 induction k with
 | zero =>
  intro h v hv hd
  rw[run_eq T.lI rfl]
  cases v with
  | tup xs=>rw[jK] at hd;omega
  | non=>simp? [bA,bN,AY,c9]
  | bl p=>simp? [bA,bN,zO,rn]
  | int i=>simp? [bA,bN,AN,qZ,qG]
  | str i=>simp? [bA,bN,yR,Bv,qy,cD]
  | _=>nomatch hv
 | succ k ih =>
  intro h v hv hd
  rw[run_eq T.lI rfl]
  cases v with
  | tup xs =>
   rw[bD,Td,decide_eq_true_eq] at hv
   rw[jK] at hd
   have e1:eW ⟨SU,aZ 0 xs.length⟩ (aY 1 (gN 2) ax (af "_law_same" (aa (ai aW (ae 0) (ae 2)) (aa (ai aW (ae 1) (ae 2)) ag))) (run pg (k+1)) [fv (.tup xs),fv (.tup xs)]) (aZ 0 xs.length) [] h= .ok ((S4 xs.length true).map PV.bl) h:=by
    rw[show aZ 0 xs.length=(Vi xs.length).map (λi:Nat=>PV.int (0+(i:Int))) from rfl];refine(cP (f:=λ_=>fv (PV.bl true)) (g:=λi:Nat=>PV.int (0+(i:Int))) kQ (Vi xs.length) [] (λq m=>?_) (by rw[ZM];exact Ua hv.1 (by decide))).trans (by rw[B8]);have hq:q < xs.length:=YC.mp m;have ix:=MN (h:=h) (P3.cT (xs:=xs) (i:=0+(q:Int)) (n:=q) (by omega) (TN hq));have im:xs[q]∈xs:=VI hq;have sm:=ih h xs[q] (ph hv.2 im) (by have:=Ax im;omega);simp? [ix,sm]
   have al:=pL (h:=h++[.lst ((S4 xs.length true).map PV.bl)]) (n:=h.length) aI
   rw[all_true] at al
   simp? [bA,bN,Hb,aJ,Kr,Uu,e1,al]
   exact hI rfl
  | non=>simp? [bA,bN,AY,c9]
  | bl p=>simp? [bA,bN,zO,rn]
  | int i=>simp? [bA,bN,AN,qZ,qG]
  | str i=>simp? [bA,bN,yR,Bv,qy,cD]
  | _=>nomatch hv
end
theorem EF{v:Int}(h0:0<=v)(h1:v < 3): ∃ x:Str,bR x/\fY [PV.str "a",.str "ab",.str "boxes"] v=fv (.str x):=by
 have:v=0\/v=1\/v=2:=by omega
 rcases this with rfl | rfl | rfl<;>exact⟨_,by unfold bR;decide +kernel,rfl⟩
theorem IH{v w:Int}(h0:0<=v)(h1:v < 4)(w0:0<=w)(w1:w < 1000): ∃ n:Int,(0<=n/\n<=999)/\fY [PV.int 0,.int 1,.int 999,.int w] v=fv (.int n):=by
 have:v=0\/v=1\/v=2\/v=3:=by omega
 rcases this with rfl | rfl | rfl | rfl<;>exact⟨_,by omega,rfl⟩
theorem Ca{v a b c:Int}(h0:0<=v)(h1:v < 4)(a0:0<=a)(a1:a < 4)(b0:0<=b)(b1:b < 6)(c0:0<=c)(c1:c < 6): ∃ n:Int,0<=n/\n<=30/\fY [PV.int a,.int (3+b),.int (3+c),.int 30] v=fv (.int n):=by
 have:v=0\/v=1\/v=2\/v=3:=by omega
 rcases this with rfl | rfl | rfl | rfl
 . exact⟨a,a0,by omega,rfl⟩
 . exact⟨3+b,by omega,by omega,rfl⟩
 . exact⟨3+c,by omega,by omega,rfl⟩
 . exact⟨30,by decide,by decide,rfl⟩
section
variable{pg:Tb}(T:cv pg)
include T
theorem uB(j:Nat){ns:List Int}(hn:ns.length<=63)(k:Int)(o:Option Int)(J:PH){nn nd:Nat}{s1 s2 s3 s4 s5 n5:List Str}(hN:fu J nd s1 s2 s3 s4 s5)(h5:J[nn]?=fv (.lst (n5.map PV.str)))(k0:0<=k)(k9:k+1 < 1000000)(ok1: ∀ x∈s1,bR x)(ok5: ∀ x∈s5,bR x)(okn: ∀ x∈n5,bR x)(u3 u4 n7 n8:Option PV) :
  ∃(G:PH)(np:Nat)(ps:List Str),(∀ x∈ps,bR x)/\(J++G)[np]?=fv (.lst (ps.map PV.str))/\0 < ps.length/\ps.length<=5/\ ∀ rest:MS,
  ah (ay (ai ak (ai ak (ai ak (dR (ae 1) aR (aK (eI 2))) (dR (ai aW (ae 2) (eS "box")) aR (aK (eI 1)))) (dR (ai aW (ae 2) (eS "hand")) aR (aK (eI 1)))) (aC (aa (ai aW (aC (a3 (eS "a") (eS "ab") (eS "boxes"))) (af "_law_pick" (a2 (ae 0) (eI 3)))) ag))) (gN 5))
  (ah (ay (aC ag) (gN 6)) rest) (run pg (j+2)) [fv (.ref 1),fv (.ref (nn+1+1)),fv (.ref (nd+1+1)),u3,u4,SU,SU,n7,n8] (aG ns::aF k o::J) =
  rest (run pg (j+2)) [fv (.ref 1),fv (.ref (nn+1+1)),fv (.ref (nd+1+1)),u3,u4,fv (.ref (np+1+1)),fv (.ref ((J++G).length+1+1)),n7,n8] (aG ns::aF (k+1) o::(J++G++[.lst []])):=by
 obtain⟨⟨b1,b2,b3,b4,b5,e0,e1,e2,e3,e4,e5⟩,_,_⟩:=hN;obtain⟨w1,w2,w3,w4,w5⟩:=iV (b1:=b1+1+1) (b2:=b2+1+1) (b3:=b3+1+1) (b4:=b4+1+1) (b5:=b5+1+1);have o0: ∀ G:PH,(J++G)[nd]?=_:=λG=>(bb (bP e0)).trans e0;have o1: ∀ G:PH,(J++G)[b1]?=_:=λG=>(bb (bP e1)).trans e1;have o5: ∀ G:PH,(J++G)[b5]?=_:=λG=>(bb (bP e5)).trans e5
 let A:List PV:=(n5.take 2).map PV.str
 let B:List PV:=(s1.take 1).map PV.str
 let C:List PV:=(s5.take 1).map PV.str
 have t2:bV (n5.map PV.str) SU (fv 2)=A:=lU (by decide);have t1:bV (s1.map PV.str) SU (fv 1)=B:=lU (by decide);have t5:bV (s5.map PV.str) SU (fv 1)=C:=lU (by decide);have lA:A.length<=2:=by simp only[A,SX,TL];omega
 have lB:B.length<=1:=by simp only[B,SX,TL];omega
 have lC:C.length<=1:=by simp only[C,SX,TL];omega
 obtain⟨v,v0,v1,ev⟩:=bg T j (J++[.lst A,.lst B,.lst (A++B),.lst C,.lst (A++(B++C)),.lst [.str "a",.str "ab",.str "boxes"]]) hn o (k:=k) 3 k0 (by omega) (by decide) (by decide);obtain⟨x,okx,ex⟩:=EF v0 v1;have eq:A++(B++(C++[PV.str x]))=(n5.take 2++(s1.take 1++(s5.take 1++[x]))).map PV.str:=by simp only[A,B,C,UM,S7,U0]
 refine⟨[.lst A,.lst B,.lst (A++B),.lst C,.lst (A++(B++C)),.lst [.str "a",.str "ab",.str "boxes"],.lst [.str x],.lst (A++(B++(C++[.str x])))],J.length+(0+1+1+1+1+1+1+1),n5.take 2++(s1.take 1++(s5.take 1++[x])),?_,?_,?_,?_,λrest=>?_⟩
 . intro z mz;rcases Tt.mp mz with m | m
   . exact okn z (UJ m)
   rcases Tt.mp m with m | m
   . exact ok1 z (UJ m)
   rcases Tt.mp m with m | m
   . exact ok5 z (UJ m)
   . rw[TY.mp m];exact okx
 . rw[<- eq];exact aw
 . simp only[S1,S2];omega
 . simp only[S1,S2,Tj,TL];omega
 . clear_value A B C
   simp? (disch:=first | omega | (simp only[S1,S2,Tj]<;>omega)) only[e0,o0,w1,w5,o1,o5,h5,t2,t1,t5,OD,K3,ev,ex]
theorem EG(j:Nat){ns:List Int}(hn:ns.length<=63){np nd:Nat}{ps L:List Str}(p0:0 < ps.length)(p9:ps.length<=1000)(hq: ∀ x∈ps,bR x)(hL: ∀ x∈ps,x∈L){s1 s2 s3 s4 s5:List Str}{g:PH}(hN:fu g nd s1 s2 s3 s4 s5)(hp:g[np]?=fv (.lst (ps.map PV.str)))(many:Int)(m0:0<=many)(m9:many<=30)(xs0:List PV)(e1 e3 e6 e7 e8:Option PV) :
  ∀(xs ys:List PV)(k:Int)(o:Option Int),0<=k->k+84*xs.length<=1000000->ys.length+xs.length<=1000-> ∃(rs:List Rw)(k':Int)(o':Option Int),rs.length=xs.length/\(∀ r∈rs,oY L many.toNat r/\vj s1 s2 s3 s4 r)/\k<=k'/\k'<=k+84*xs.length /\
   eW ⟨SU,xs0⟩ (aY 1 (gN 9) ax (af "_law_row" (aa (ae 0) (a3 (ae 2) (ae 5) (ae 4)))) (run pg (j+9)) [fv (.ref 1),e1,fv (.ref (nd+1+1)),e3,fv (.int many),fv (.ref (np+1+1)),e6,e7,e8]) xs ys (aG ns::aF k o::g)= .ok (ys++rs.map jN) (aG ns::aF k' o'::g):=by
 intro xs
 induction xs with
 | nil=>intro ys k o k0 k9 _;exact⟨[],k,o,rfl,λr m=>(nomatch m),by omega,by simp,by rw[P3.eW,if_pos kQ];simp⟩
 | cons x xs ih =>
  intro ys k o k0 k9 hl
  rw[S2] at k9 hl
  obtain⟨r,k1,o1,q1,q2,q3,q4⟩:=F7 T j hn p0 p9 hq hL hN hp k many o k0 (by omega) m0 (by omega)
  obtain⟨rs,k2,o2,r1,r2,r3,r4,r5⟩:=ih (ys++[jN r]) k1 o1 (by omega) (by omega) (by simp;omega)
  refine⟨r::rs,k2,o2,by simp[r1],λz m=>?_,by omega,by rw[S2];omega,?_⟩
  . rcases Tq.mp m with rfl | m
    . exact q1
    . exact r2 z m
  . have st:aY 1 (gN 9) ax (af "_law_row" (aa (ae 0) (a3 (ae 2) (ae 5) (ae 4)))) (run pg (j+9)) [fv (.ref 1),e1,fv (.ref (nd+1+1)),e3,fv (.int many),fv (.ref (np+1+1)),e6,e7,e8] x (aG ns::aF k o::g)= .ok (fv (jN r)) (aG ns::aF k1 o1::g):=by
     simp? [q4]
    have hz:ys.length < Ta:=Tf (show ys.length < 1001 by omega) (by decide);rw[P3.eW,if_pos ⟨kQ,hz⟩,st,gS];simpa using r5
end
def fM(h:Str × List Rw):PV:= .tup [.str h.1,jl h.2]
theorem oA: ∀ hs:List (Str × List Rw),PV.du (hs.map fM)=true
 | []=>rfl
 | h::r=>by simp only[S7,PV.du,oA r,fM,PV.flat,jl,p8,UC]
theorem yk(n:Nat):(aZ 0 n).length=n:=by
 rw[show aZ 0 n=(Vi n).map (λi:Nat=>PV.int (0+(i:Int))) from rfl,SX,ZM]
section
variable{pg:Tb}(T:cv pg)
include T
theorem A8(j:Nat){ns:List Int}(hn:ns.length<=63){np nd b5:Nat}{ps L:List Str}(p0:0 < ps.length)(p9:ps.length<=1000)(hq: ∀ x∈ps,bR x)(hL: ∀ x∈ps,x∈L){s1 s2 s3 s4 s5:List Str}{B:PH}(hN:fu B nd s1 s2 s3 s4 s5)(hp:B[np]?=fv (.lst (ps.map PV.str)))(h5:B[b5]?=fv (.lst (s5.map PV.str)))(u1 u3 n8:Option PV) :
  ∀(xs:List Str)(hs:List (Str × List Rw))(k:Int)(o:Option Int)(g2:PH)(u4 u7:Option PV),0<=k->k+2600*xs.length<=1000000->hs.length+xs.length<=100-> ∃(hs':List (Str × List Rw))(k':Int)(o':Option Int)(g3:PH)(u4' u7':Option PV),
   hs'.map (·.1)=xs/\(∀ h∈hs',h.2.length<=30/\ ∀ r∈h.2,oY L h.2.length r/\vj s1 s2 s3 s4 r)/\k<=k'/\k'<=k+2600*xs.length /\
   bM ⟨fv (b5+1+1),s5.map PV.str⟩ (bZ (gN 7) (ah (ay (ai aW (aC (aa (af "_law_pick" (a2 (ae 0) (eI 4))) (aa (ai ak (eI 3) (af "_law_pick" (a2 (ae 0) (eI 6)))) (aa (ai ak (eI 3) (af "_law_pick" (a2 (ae 0) (eI 6)))) (a1 (eI 30)))))) (af "_law_pick" (a2 (ae 0) (eI 4)))) (gN 4))
  (dn (eM dm cS (ae 6) (aa (au (aa (ae 7) (aa (eB cN (aa (dw 1 (a8 (a1 (ae 4))) (gN 9) ax (af "_law_row" (aa (ae 0) (a3 (ae 2) (ae 5) (ae 4))))) ag)) ag))) ag)))) (run pg (j+9))) (xs.map PV.str)
    [fv (.ref 1),u1,fv (.ref (nd+1+1)),u3,u4,fv (.ref (np+1+1)),fv (.ref (B.length+1+1)),u7,n8] (aG ns::aF k o::(B++(.lst (hs.map fM)::g2))) =
   .ok (.nx [fv (.ref 1),u1,fv (.ref (nd+1+1)),u3,u4',fv (.ref (np+1+1)),fv (.ref (B.length+1+1)),u7',n8]) (aG ns::aF k' o'::(B++(.lst ((hs++hs').map fM)::g3))):=by
 have fin1: ∀(k:Int)(o:Option Int)(g:PH),jO.eU ⟨fv (b5+1+1),s5.map PV.str⟩ (aG ns::aF k o::(B++g))=true:=λk o g=>eY (show(B++g)[b5]?=_ from(bb (bP h5)).trans h5);intro xs
 induction xs with
 | nil=>intro hs k o g2 u4 u7 k0 k9 _;exact⟨[],k,o,g2,u4,u7,rfl,λh m=>(nomatch m),by omega,by simp,by rw[U0,gY (fin1 _ _ _),Tv]⟩
 | cons x xs ih =>
  intro hs k o g2 u4 u7 k0 k9 hl
  rw[S2] at k9 hl
  obtain⟨a,a0,a1,ea⟩:=bg T (j+7) (B++(.lst (hs.map fM)::g2)) hn o (k:=k) 4 k0 (by omega) (by decide) (by decide)
  obtain⟨b,b0,b1,eb⟩:=bg T (j+7) (B++(.lst (hs.map fM)::g2)) hn o (k:=k+1) 6 (by omega) (by omega) (by decide) (by decide)
  obtain⟨c,c0,c1,ec⟩:=bg T (j+7) (B++(.lst (hs.map fM)::g2)) hn o (k:=k+1+1) 6 (by omega) (by omega) (by decide) (by decide)
  obtain⟨d,d0,d1,ed⟩:=bg T (j+7) (B++(.lst (hs.map fM)::(g2++[.lst [.int a,.int (3+b),.int (3+c),.int 30]]))) hn o (k:=k+1+1+1) 4 (by omega) (by omega) (by decide) (by decide)
  obtain⟨m,m0,m9,em⟩:=Ca d0 d1 a0 a1 b0 b1 c0 c1
  have ml:(aZ 0 m.toNat).length=m.toNat:=yk _
  obtain⟨rs,k1,o1,r1,r2,r3,r4,r5⟩:=EG T j hn p0 p9 hq hL (g:=B++(.lst (hs.map fM)::(g2++[.lst [.int a,.int (3+b),.int (3+c),.int 30]]))) hN.app ((bb (bP hp)).trans hp) m m0 m9 (aZ 0 m.toNat) u1 u3 (fv (.ref (B.length+1+1))) (fv (.str x)) n8 (aZ 0 m.toNat) [] (k+1+1+1+1) o (by omega) (by omega) (by rw[ml];simp;omega)
  rw[ml] at r1 r4
  obtain⟨hs',k2,o2,g3,u4',u7',q1,q2,q3,q4,q5⟩:=ih (hs++[(x,rs)]) k1 o1 (g2++[.lst [.int a,.int (3+b),.int (3+c),.int 30],.lst (rs.map jN)]) (fv (.int m)) (fv (.str x)) (by omega) (by omega) (by simp;omega)
  refine⟨(x,rs)::hs',k2,o2,g3,u4',u7',by rw[S7,q1],λh mm=>?_,by omega,by rw[S2];omega,?_⟩
  . rcases Tq.mp mm with rfl | mm
    . exact⟨by show rs.length<=30;omega,λr mr=>by show oY L rs.length r/\vj s1 s2 s3 s4 r;rw[r1];exact r2 r mr⟩
    . exact q2 h mm
  . rw[S7,fE (fin1 _ _ _)];have hz:(hs.map fM).length < 16777216:=by rw[SX];omega
    have e2:(hs++[(x,rs)]).map fM=hs.map fM++[.tup [.str x,.tup (rs.map jN)]]:=by rw[UM];rfl
    rw[e2] at q5;rw[show hs++(x,rs)::hs'=hs++[(x,rs)]++hs' by simp];rw[TB] at r5;simp? [ea,eb,ec,ed,em,r5,JJ hz,dg,q5]
theorem yN(j:Nat){ns:List Int}(hn:ns.length<=63){b1:Nat}{s1:List Str}{B:PH}(h1:B[b1]?=fv (.lst (s1.map PV.str)))(o:Option Int)(e1 e2 e3 e4 e5 e6 e7 e8:Option PV) :
  ∀(xs:List Str)(ys:List PV)(k:Int)(g2:PH),0<=k->k+2*xs.length<=1000000->ys.length+xs.length<=1000-> ∃(bs:List PV)(k':Int)(g3:PH),PV.du bs=true/\(∃ qs:List (Str × PV),bs=qs.map pr/\qs.map (·.1)=xs/\ ∀ q∈qs,aS 0 999 q.2=true/\ ∃ n,q.2= .int n)/\k<=k'/\k'<=k+2*xs.length /\
   eW ⟨fv (b1+1+1),s1.map PV.str⟩ (aY 1 (gN 9) ax (au (aa (ae 9) (aa (ai aW (aC (aa (eI 0) (aa (eI 1) (aa (eI 999) (aa (af "_law_pick" (a2 (ae 0) (eI 1000))) ag))))) (af "_law_pick" (a2 (ae 0) (eI 4)))) ag))) (run pg (j+2)) [fv (.ref 1),e1,e2,e3,e4,e5,e6,e7,e8]) (xs.map PV.str) ys (aG ns::aF k o::(B++g2))= .ok (ys++bs) (aG ns::aF k' o::(B++(g2++g3))):=by
 have fin1: ∀(k:Int)(o:Option Int)(g:PH),jO.eU ⟨fv (b1+1+1),s1.map PV.str⟩ (aG ns::aF k o::(B++g))=true:=λk o g=>eY (show(B++g)[b1]?=_ from(bb (bP h1)).trans h1);intro xs
 induction xs with
 | nil=>intro ys k g2 k0 k9 _;exact⟨[],k,[],rfl,⟨[],rfl,rfl,λ_ m=>(nomatch m)⟩,by omega,by simp,by rw[U0,P3.eW,if_pos (fin1 _ _ _)];simp⟩
 | cons x xs ih =>
  intro ys k g2 k0 k9 hl
  rw[S2] at k9 hl
  obtain⟨a,a0,a1,ea⟩:=bg T j (B++g2) hn o (k:=k) 1000 k0 (by omega) (by decide) (by decide)
  obtain⟨b,b0,b1,eb⟩:=bg T j (B++(g2++[.lst [.int 0,.int 1,.int 999,.int a]])) hn o (k:=k+1) 4 (by omega) (by omega) (by decide) (by decide)
  obtain⟨n,n9,en⟩:=IH (w:=a) b0 b1 a0 a1
  obtain⟨bs,k2,g3,q1,q5,q2,q3,q4⟩:=ih (ys++[.tup [.str x,.int n]]) (k+1+1) (g2++[.lst [.int 0,.int 1,.int 999,.int a]]) (by omega) (by omega) (by simp;omega)
  refine⟨.tup [.str x,.int n]::bs,k2,.lst [.int 0,.int 1,.int 999,.int a]::g3,by rw[PV.du,q1];rfl,(by obtain⟨qs,y1,y2,y3⟩:=q5;exact⟨(x,.int n)::qs,by rw[S7,y1];rfl,by rw[S7,y2],S6.mpr ⟨⟨decide_eq_true n9,n,rfl⟩,y3⟩⟩),by omega,by rw[S2];omega,?_⟩
  have st:aY 1 (gN 9) ax (au (aa (ae 9) (aa (ai aW (aC (aa (eI 0) (aa (eI 1) (aa (eI 999) (aa (af "_law_pick" (a2 (ae 0) (eI 1000))) ag))))) (af "_law_pick" (a2 (ae 0) (eI 4)))) ag))) (run pg (j+2)) [fv (.ref 1),e1,e2,e3,e4,e5,e6,e7,e8] (.str x) (aG ns::aF k o::(B++g2))= .ok (fv (.tup [.str x,.int n])) (aG ns::aF (k+1+1) o::(B++(g2++[.lst [.int 0,.int 1,.int 999,.int a]]))):=by
   simp? [ea,eb,en]
  have hz:ys.length < Ta:=Tf (show ys.length < 1001 by omega) (by decide)
  rw[S7,P3.eW,if_pos ⟨fin1 _ _ _,hz⟩,st,gS]
  simpa using q4
end
inductive Tz(b:Nat)(h:PH):PV->Prop
 | non:Tz b h .non
 | bl (a:Bool):Tz b h (.bl a)
 | int (i:Int):Tz b h (.int i)
 | str (s:Str) (o:(decide (s.length<=1000)&&TZ s)=true):Tz b h (.str s)
 | tup (xs:List PV) (l:xs.length<=b) (a: ∀ x∈xs,Tz b h x):Tz b h (.tup xs)
 | box (n:Nat) (a:eK h (.ref n)=true):Tz b h (.ref n)
theorem Tz.th{b:Nat}{h:PH}(hb:b<=1000000){x:PV}(t:Tz b h x):Th h x:=by
 induction t with
 | non=>exact .non
 | bl a=>exact .bl a
 | int i=>exact .int i
 | str z o =>
  rw[Td,decide_eq_true_eq] at o
  exact .str z o.1 o.2
 | tup xs l _ ih=>exact .tup xs (by omega) ih
 | box n a=>exact .box n a
theorem Tz.mono{b b':Nat}{h h':PH}(hb:b<=b')(s: ∀ n,eK h (.ref n)=true->eK h' (.ref n)=true){x:PV}(t:Tz b h x):Tz b' h' x:=by
 induction t with
 | non=>exact .non
 | bl a=>exact .bl a
 | int i=>exact .int i
 | str z o=>exact .str z o
 | tup xs l _ ih=>exact .tup xs (by omega) ih
 | box n a=>exact .box n (s n a)
theorem uw{h:PH}(X:PH)(n:Nat)(b:eK h (.ref n)=true):eK (h++X) (.ref n)=true:=by
 rcases lZ b with⟨_,e⟩ | ⟨_,e⟩
 . exact gM (cm e)
 . exact l7 (cm e)
theorem Tz.gr{b:Nat}{h:PH}(X:PH){x:PV}(t:Tz b h x):Tz b (h++X) x:=t.mono (Te _) (uw X)
theorem Qb{b:Nat}{h:PH}{x:PV}(hb:1<=b)(hx:Tz b h x):Tz b h (.tup [x]):= .tup _ hb (by simp only[S6];exact⟨hx,λ_ m=>nomatch m⟩)
theorem rX{b:Nat}{h:PH}{x y:PV}(hb:2<=b)(hx:Tz b h x)(hy:Tz b h y):Tz b h (.tup [x,y]):= .tup _ hb (by simp only[S6];exact⟨hx,hy,λ_ m=>nomatch m⟩)
theorem SK{b:Nat}{h:PH}{x y z:PV}(hb:3<=b)(hx:Tz b h x)(hy:Tz b h y)(hz:Tz b h z):Tz b h (.tup [x,y,z]):= .tup _ hb (by simp only[S6];exact⟨hx,hy,hz,λ_ m=>nomatch m⟩)
theorem BG{p:Bn}{L:List Str}{n:Nat}{r:Rw}(ok:oY L n r)(nm:vj (p.b.map (·.1)) p.l p.n p.d r)(hL: ∀ x∈L,bR x):c8 p n (jN r)=true:=by
 have nL: ∀ x∈L,aD (.str x)=true:=λx m=>(hL x m).2.2.1;have pk: ∀ x:PV,bB p n "pocket" x=aD x:=λx=>rfl;have ps: ∀ x:PV,bB p n "sum" x=oW x:=λx=>if_neg (by decide +kernel);have pt: ∀ x:PV,bB p n "target" x=aS 0 n x:=λx=>by unfold bB;simp[aj]
 have pc: ∀ x:PV,bB p n "chances" x=aS 2 1000 x:=λx=>by unfold bB;simp[aj]
 have pb: ∀ x:Str,bB p n "box" (.str x)=decide (x∈p.b.map (·.1)):=λx=>by unfold bB;simp only[aj,nF,Bn.nm,String.reduceEq,if_false,if_true]
 have pl: ∀ x:Str,bB p n "lock" (.str x)=decide (x∈p.l):=λx=>by unfold bB;simp[aj,nF,Bn.nm]
 have pn: ∀ x:Str,bB p n "lane" (.str x)=decide (x∈p.n):=λx=>by unfold bB;simp[aj,nF,Bn.nm]
 have pd: ∀ x:Str,bB p n "door" (.str x)=decide (x∈p.d):=λx=>by unfold bB;simp[aj,nF,Bn.nm]
 have one: ∀{f:Str}{x:PV},bB p n f x=true->da p n [x] (fv [f])=true:=λ{f x} a=>by
  simp only[da,S2,Tj,decide_true,Us,Zw,ZN,Ub,Yl,a,UC]
 have two: ∀{f g:Str}{x y:PV},bB p n f x=true->bB p n g y=true->da p n [x,y] (fv [f,g])=true:=λ{f g x y} a b=>by
  simp only[da,S2,Tj,decide_true,Us,Zw,ZN,Ub,Yl,a,b,UC]
 have lk: ∀(w:Str)(fs:List Str),px kR w=fv fs-> ∀ xs,da p n xs (fv fs)=true->c8 p n (.tup (.str w::xs))=true:=λw fs e xs h=>by
  show da p n xs (px kR w)=true;rw [e];exact h
 cases r with
 | let_ x e=>exact lk "let" ["pocket", "sum"] (by decide +kernel) _ (two ((pk _).trans (nL x ok.1)) ((ps _).trans (jY ok.2)))
 | leap k e=>exact lk "leap" ["target", "sum"] (by decide +kernel) _ (two ((pt _).trans (decide_eq_true ⟨ok.1,ok.2.1⟩)) ((ps _).trans (jY ok.2.2)))
 | take l=>exact lk "take" ["lock"] (by decide +kernel) _ (one ((pl _).trans (decide_eq_true nm)))
 | free l=>exact lk "free" ["lock"] (by decide +kernel) _ (one ((pl _).trans (decide_eq_true nm)))
 | get x b=>exact lk "get" ["pocket", "box"] (by decide +kernel) _ (two ((pk _).trans (nL x ok)) ((pb _).trans (decide_eq_true nm)))
 | put b e=>exact lk "put" ["box", "sum"] (by decide +kernel) _ (two ((pb _).trans (decide_eq_true nm)) ((ps _).trans (jY ok)))
 | send l e=>exact lk "send" ["lane", "sum"] (by decide +kernel) _ (two ((pn _).trans (decide_eq_true nm)) ((ps _).trans (jY ok)))
 | fetch x l=>exact lk "fetch" ["pocket", "lane"] (by decide +kernel) _ (two ((pk _).trans (nL x ok)) ((pn _).trans (decide_eq_true nm)))
 | say d e=>exact lk "say" ["door", "sum"] (by decide +kernel) _ (two ((pd _).trans (decide_eq_true nm)) ((ps _).trans (jY ok)))
 | clock x=>exact lk "clock" ["pocket"] (by decide +kernel) _ (one ((pk _).trans (nL x ok)))
 | lot x m=>exact lk "lot" ["pocket", "chances"] (by decide +kernel) _ (two ((pk _).trans (nL x ok.1)) ((pc _).trans (decide_eq_true ok.2)))
 | hear x d=>exact lk "hear" ["pocket", "door"] (by decide +kernel) _ (two ((pk _).trans (nL x ok)) ((pd _).trans (decide_eq_true nm)))
theorem dJ{h:PH}{x:Str}(o:bR x):Tz 31 h (.str x):= .str x (by rw [o.1,Ze,decide_eq_true_eq];have:=o.2.1;omega)
theorem dq{h:PH}(x:Str)(o:(decide (x.length<=1000)&&TZ x)=true):Tz 31 h (.str x):= .str x o
theorem cB{h:PH}{a b:PV}(ha:Tz 31 h a)(hb:Tz 31 h b):Tz 31 h (.tup [a,b]):= .tup _ (by simp) (by simp only [S6];exact ⟨ha,hb,λ_ m=>nomatch m⟩)
theorem cb{h:PH}{a b c:PV}(ha:Tz 31 h a)(hb:Tz 31 h b)(hc:Tz 31 h c):Tz 31 h (.tup [a,b,c]):= .tup _ (by simp) (by simp only[S6];exact⟨ha,hb,hc,λ_ m=>nomatch m⟩)
theorem lJ{h:PH}: ∀{e:Sm},e.ok->Tz 31 h (ie e)
 | .num n,_=>cB (dq _ (by decide +kernel)) (.int n)
 | .of x,o=>cB (dq _ (by decide +kernel)) (dJ o)
 | .un a,o=>cB (dq _ (by decide +kernel)) (lJ (e:=a) o)
 | .bin q a b,o=>cb (dq _ (by cases q<;>decide +kernel)) (lJ (e:=a) o.1) (lJ (e:=b) o.2)
theorem rw_th{h:PH}{L s1 s2 s3 s4:List Str}{n:Nat}{r:Rw}(ok:oY L n r)(nm:vj s1 s2 s3 s4 r)(hL: ∀ x∈L,bR x)(h1: ∀ x∈s1,bR x)(h2: ∀ x∈s2,bR x)(h3: ∀ x∈s3,bR x)(h4: ∀ x∈s4,bR x):Tz 31 h (jN r):=by
 cases r with
 | let_ x e=>exact cb (dq "let" (by decide +kernel)) (dJ (hL x ok.1)) (lJ ok.2.1)
 | leap k e=>exact cb (dq "leap" (by decide +kernel)) (.int k) (lJ ok.2.2.1)
 | take l=>exact cB (dq "take" (by decide +kernel)) (dJ (h2 l nm))
 | free l=>exact cB (dq "free" (by decide +kernel)) (dJ (h2 l nm))
 | get x b=>exact cb (dq "get" (by decide +kernel)) (dJ (hL x ok)) (dJ (h1 b nm))
 | put b e=>exact cb (dq "put" (by decide +kernel)) (dJ (h1 b nm)) (lJ ok.1)
 | send l e=>exact cb (dq "send" (by decide +kernel)) (dJ (h3 l nm)) (lJ ok.1)
 | fetch x l=>exact cb (dq "fetch" (by decide +kernel)) (dJ (hL x ok)) (dJ (h3 l nm))
 | say d e=>exact cb (dq "say" (by decide +kernel)) (dJ (h4 d nm)) (lJ ok.1)
 | clock x=>exact cB (dq "clock" (by decide +kernel)) (dJ (hL x ok))
 | lot x m=>exact cb (dq "lot" (by decide +kernel)) (dJ (hL x ok.1)) (.int m)
 | hear x d=>exact cb (dq "hear" (by decide +kernel)) (dJ (hL x ok)) (dJ (h4 d nm))
theorem iQ: ∀ e:Sm,bD (ie e)=true/\jK (ie e)<=e.dp
 | .num n=>⟨rfl,by simp[ie,jK,yw,Sm.dp]⟩
 | .of x=>⟨rfl,by simp[ie,jK,yw,Sm.dp]⟩
 | .un a=>by
  obtain⟨h1,h2⟩:=iQ a;exact⟨by simp[ie,bD,fS,h1],by simp only[ie,jK,yw,Sm.dp];omega⟩
 | .bin q a b=>by
  obtain⟨h1,h2⟩:=iQ a;obtain⟨h3,h4⟩:=iQ b;exact⟨by simp[ie,bD,fS,h1,h3],by simp only[ie,jK,yw,Sm.dp];omega⟩
theorem rw_plain{L:List Str}{n:Nat}{r:Rw}(ok:oY L n r):bD (jN r)=true/\jK (jN r)<=7:=by
 have g: ∀ e:Sm,qj e->bD (ie e)=true/\jK (ie e)<=5:=λe o=>⟨(iQ e).1,Ua (iQ e).2 o.2.1⟩
 have t1: ∀(w:Str)(x:PV)(e:Sm),(bD x=true/\jK x=0)->qj e->bD (.tup [.str w,x,ie e])=true/\jK (.tup [.str w,x,ie e])<=7:=λw x e hx o=>by
  obtain⟨h1,h2⟩:=g e o;exact⟨by simp[bD,fS,h1,hx.1],by simp only[jK,yw,hx.2];omega⟩
 have t2: ∀(w:Str)(x:PV),(bD x=true/\jK x=0)->bD (.tup [.str w,x])=true/\jK (.tup [.str w,x])<=7:=λw x hx=>⟨by simp[bD,fS,hx.1],by simp only[jK,yw,hx.2];omega⟩
 have t3: ∀(w:Str)(x y:PV),(bD x=true/\jK x=0)->(bD y=true/\jK y=0)->bD (.tup [.str w,x,y])=true/\jK (.tup [.str w,x,y])<=7:=λw x y hx hy=>⟨by simp[bD,fS,hx.1,hy.1],by simp only[jK,yw,hx.2,hy.2];omega⟩
 have st: ∀ x:Str,bD (.str x)=true/\jK (.str x)=0:=λx=>⟨rfl,rfl⟩
 have it: ∀ i:Int,bD (.int i)=true/\jK (.int i)=0:=λx=>⟨rfl,rfl⟩
 cases r with
 | let_ x e=>exact t1 _ _ e (st x) ok.2
 | leap k e=>exact t1 _ _ e (it k) ok.2.2
 | take l=>exact t2 _ _ (st l)
 | free l=>exact t2 _ _ (st l)
 | get x b=>exact t3 _ _ _ (st x) (st b)
 | put b e=>exact t1 _ _ e (st b) ok
 | send l e=>exact t1 _ _ e (st l) ok
 | fetch x l=>exact t3 _ _ _ (st x) (st l)
 | say d e=>exact t1 _ _ e (st d) ok
 | clock x=>exact t2 _ _ (st x)
 | lot x m=>exact t3 _ _ _ (st x) (it m)
 | hear x d=>exact t3 _ _ _ (st x) (st d)
theorem ua{L:List Str}{n:Nat}{rs:List Rw}(l:rs.length<=30)(ok: ∀ r∈rs,oY L n r):bD (jl rs)=true/\jK (jl rs)<=8:=by
 have k: ∀ rs:List Rw,(∀ r∈rs,oY L n r)->fS (rs.map jN)=true/\yw (rs.map jN)<=7:=λrs=>by
  induction rs with
  | nil=>exact λ_=>⟨rfl,U2 _⟩
  | cons r t ih =>
   intro ok
   obtain⟨h1,h2⟩:=ih λz m=>ok z (S9 _ m)
   obtain⟨h3,h4⟩:=rw_plain (ok r S8)
   exact⟨by rw[S7,fS,h1,h3];rfl,by rw[S7,yw];omega⟩
 obtain⟨h1,h2⟩:=k rs ok;have l':rs.length<=100000:=by omega
 exact⟨by simp only[jl,bD,SX,l',decide_true,h1,UC],by simp only[jl,jK];omega⟩
theorem mD{h:PH}{ss:List Str}(o: ∀ x∈ss,bR x)(l:ss.length<=31):Tz 31 h (.tup (ss.map PV.str)):= .tup _ (by rw[SX];omega) λx m=>by
 obtain⟨s,ms,rfl⟩:=TR.mp m;exact dJ (o s ms)
section
variable{pg:Tb}(T:cv pg)
include T
theorem mZ(j:Nat){ns:List Int}(hn:ns.length<=63)(k:Int)(o:Option Int)(g:PH)(k0:0<=k)(k9:k+11000<=1000000) :
  ∃(p:Bn)(k':Int)(o':Option Int),(p.Ok/\p.v.flat=true/\(∀ h,Tz 31 h p.v)/\(∀ q∈p.a,bD q.2=true/\jK q.2<=8)/\ ∀ s∈p.all,s≠ "nobody")/\k<=k'/\k'<=k+11000/\run pg (j+10) "_law_program" [.ref 1] (aG ns::aF k o::g)= .ok p.v (aG ns::aF k' o'::g):=by
 obtain⟨g1,n,nm,aa1,aa2,aa3,aa5,aa4⟩:=zP T (j+6) hn k o g k0 (by omega);obtain⟨g2,nn,nd,s1,s2,s3,s4,s5,n5,u3,u4,b1,b2,b3,b4,b5,b7,b6⟩:=wR T (j+7) hn (k+1) o (g++g1) aa1 (by omega) (by omega) aa2 aa3;have okm: ∀ x∈s1++(s2++(s3++(s4++(s5++n5)))),bR x:=λx m=>aa3 x (b7 ▸ m);have k1': ∀ x∈s1,bR x:=λx m=>okm x (by simp[m]);have k2': ∀ x∈s2,bR x:=λx m=>okm x (by simp[m]);have k3': ∀ x∈s3,bR x:=λx m=>okm x (by simp[m]);have k4': ∀ x∈s4,bR x:=λx m=>okm x (by simp[m]);have k5': ∀ x∈s5,bR x:=λx m=>okm x (by simp[m]);have k6': ∀ x∈n5,bR x:=λx m=>okm x (by simp[m]);obtain⟨g3,np,ps,cq,c1,c2,c3,c4⟩:=uB T (j+7) hn (k+1+5) o (g++g1++g2) b1 b2 (by omega) (by omega) k1' k5' k6' u3 u4 SU SU;have NB:fu (g++g1++g2++g3) nd s1 s2 s3 s4 s5:=b1.app;generalize hB:g++g1++g2++g3=B at *;have NB':=NB;obtain⟨⟨x1,x2,x3,x4,x5,e0,e1,e2,e3,e4,e5⟩,_,l1,l2,l3,l4,l5⟩:=NB';obtain⟨w1,w2,w3,w4,w5⟩:=iV (b1:=x1+1+1) (b2:=x2+1+1) (b3:=x3+1+1) (b4:=x4+1+1) (b5:=x5+1+1);obtain⟨hs,k1,o1,g4,v4,v7,d1,d2,d3,d4,d5⟩:=A8 T j hn (L:=ps) c2 (by omega) cq (λx m=>m) NB c1 e5 (fv (.ref (nn+1+1))) u3 SU s5 [] (k+1+5+1) o [] u4 SU (by omega) (by omega) (by simp;omega);obtain⟨bs,k2,g5,f1,f5,f2,f3,f4⟩:=yN T (j+7) hn e1 o1 (fv (.ref (nn+1+1))) (fv (.ref (nd+1+1))) u3 v4 (fv (.ref (np+1+1))) (fv (.ref (B.length+1+1))) v7 SU s1 [] k1 (.lst (hs.map fM)::g4) (by omega) (by omega) (by simp;omega);have pf:PV.flat (.tup [.tup bs,.tup (s2.map PV.str),.tup (s3.map PV.str),.tup (s4.map PV.str),.tup (hs.map fM)])=true:=by
  simp only[PV.flat,PV.du,f1,pP,oA,UC]
 obtain⟨qs,y1,y2,y3⟩:=f5
 let p:Bn:=⟨qs,s2,s3,s4,hs.map λh=>(h.1,jl h.2)⟩
 have pb:p.b.map (·.1)=s1:=y2
 have pa:p.a.map (·.1)=s5:=by
  show(hs.map λh=>(h.1,jl h.2)).map (·.1)=s5
  rw[Up];exact d1
 have pv:p.v= .tup [.tup bs,.tup (s2.map PV.str),.tup (s3.map PV.str),.tup (s4.map PV.str),.tup (hs.map fM)]:=by
  rw[y1];show PV.tup [_,_,_,_,.tup ((hs.map λh=>(h.1,jl h.2)).map pr)]=_;rw[Up];rfl
 have lq:qs.length<=4:=by rw[<- y2,SX] at l1;exact l1
 refine⟨p,k2,o1,⟨⟨⟨by show qs.length<=4;rw[<- y2,SX] at l1;exact l1,l2,l3,l4,by show(hs.map λh=>(h.1,jl h.2)).length<=4;have:=congrArg VJ d1;rw[SX] at this ⊢; omega⟩,λq m=>⟨(k1' q.1 (by rw[<- y2];exact T9 m)).2.2.1,(y3 q m).1⟩,λs m=>(k2' s m).2.2.1,λs m=>(k3' s m).2.2.1,λs m=>(k4' s m).2.2.1,?_,?_,?_⟩,by rw[pv];exact pf,λh=>?_,λq m=>?_,λs m=>?_⟩,by omega,by omega,?_⟩
 . intro c;have c':p.a.map (·.1)=[]:=by rw[c];rfl
   rw[pa] at c';rw[c'] at b4;simp at b4
 . intro q m;refine⟨(k5' q.1 (by rw[<- pa];exact T9 m)).2.2.1,?_⟩;obtain⟨h,mh,rfl⟩:=TR.mp m;obtain⟨r30,hr⟩:=d2 h mh;refine⟨h.2.map jN,rfl,by rw[SX];exact r30,λr mr=>?_⟩;obtain⟨w,mw,rfl⟩:=TR.mp mr;rw[SX];exact BG (hr w mw).1 (pb ▸ (hr w mw).2) cq
 . rw[Bn.all_eq,pb,pa];rw[<- b7] at aa5;have e:s1++(s2++(s3++(s4++(s5++n5))))=(s1++(s2++(s3++(s4++s5))))++n5:=by simp
   rw[e] at aa5;exact(Vf.mp aa5).1
 . rw[pv,y1];refine .tup _ (by simp) ?_;simp only[S6];refine⟨.tup _ (by rw[SX];omega) λx m=>?_,mD k2' (by omega),mD k3' (by omega),mD k4' (by omega),.tup _ ?_ λx m=>?_,λ_ m=>nomatch m⟩
   . obtain⟨q,mq,rfl⟩:=TR.mp m;obtain⟨n,en⟩:=(y3 q mq).2;unfold pr;rw[en];exact cB (dJ (k1' q.1 (by rw[<- y2];exact T9 mq))) (.int n)
   . have:=congrArg VJ d1;rw[SX] at this ⊢; omega
   . obtain⟨h,mh,rfl⟩:=TR.mp m;refine cB (dJ (k5' h.1 (by rw[<- d1];exact T9 mh))) (.tup _ (by rw[SX];have:=(d2 h mh).1;omega) λx m=>?_);obtain⟨w,mw,rfl⟩:=TR.mp m;obtain⟨w1,w2⟩:=(d2 h mh).2 w mw;exact rw_th w1 w2 cq k1' k2' k3' k4'
 . obtain⟨h,mh,rfl⟩:=TR.mp m;exact ua (d2 h mh).1 λr mr=>((d2 h mh).2 r mr).1
 . rw[Bn.all_eq,pb,pa] at m;refine(okm s ?_).2.2.2;simp only[Tt] at m ⊢;rcases m with m | m | m | m | m
   . exact .inl m
   . exact .inr (.inl m)
   . exact .inr (.inr (.inl m))
   . exact .inr (.inr (.inr (.inl m)))
   . exact .inr (.inr (.inr (.inr (.inl m))))
 rw[pv];rw[run_eq T.ng rfl];unfold dY iA;have s0: ∀ rest,ah (ay (af "_law_names" (a1 (ae 0))) (gN 1)) rest (run pg (j+9)) [fv (.ref 1),SU,SU,SU,SU,SU,SU,SU,SU] (aG ns::aF k o::g)=rest (run pg (j+9)) [fv (.ref 1),fv (.ref (n+1+1)),SU,SU,SU,SU,SU,SU,SU] (aG ns::aF (k+1) o::(g++g1)):=λrest=>by
  simp? [aa4]
 refine(congrArg (fin _) ((s0 _).trans ((b6 _).trans (c4 _)))).trans ?_;have o0: ∀ G:PH,(B++G)[nd]?=_:=λG=>(bb (bP e0)).trans e0;have y1: ∀ G:PH,(B++G)[x1]?=_:=λG=>(bb (bP e1)).trans e1;have y2: ∀ G:PH,(B++G)[x2]?=_:=λG=>(bb (bP e2)).trans e2;have y3: ∀ G:PH,(B++G)[x3]?=_:=λG=>(bb (bP e3)).trans e3;have y4: ∀ G:PH,(B++G)[x4]?=_:=λG=>(bb (bP e4)).trans e4;have y5: ∀ G:PH,(B++G)[x5]?=_:=λG=>(bb (bP e5)).trans e5;rw[U0,TB] at d5;rw[TB,Va] at f4;simp? [o0,w1,w2,w3,w4,w5,y1,y2,y3,y4,y5,d5,f4];rw[<- hB];simp only[SY];exact eE pf
end
def Qi:MS:=(ay (aC (aa (eS "box") (aa (eS "lock") (a3 (eS "lane") (eS "door") (eS "hand"))))) (gN 1))
def Ra:MS:=(ay (aC (aa (dw 1 (cU (eX 0 0)) (gN 8) ax (eX 8 0)) (aa (eB dN (a1 (eX 0 1))) (aa (eB dN (a1 (eX 0 2))) (aa (eB dN (a1 (eX 0 3))) ag))))) (gN 2))
def Rl:MS:=(dn (eM dm cS (ae 2) (aa (dw 1 (cU (eX 0 4)) (gN 8) ax (eX 8 0)) ag)))
def Sw:MS:=(cI (a8 (a1 (eI 5))) (gN 3) (ah (cI (a8 (a1 (eI 5))) (gN 4) (cI (a8 (aa (eB aO (aa (ai aW (ae 2) (ae 4)) ag)) ag)) (gN 5) (ah (ay (BW (ao (ai hU (ae 4) (ae 3))) (ae 5) (eC .non)) (gN 6)) (bC (bK (ao (af "_law_same" (aa (af "number_of" (aa (ae 0) (aa (ai aW (ae 1) (ae 3)) (aa (ai aW (ai aW (ae 2) (ae 4)) (ae 5)) ag)))) (a1 (ae 6)))))) (av (eC (.bl false))) bz)))) (bC (fL (ao (rq (gz true) (af "number_of" (aa (ae 0) (aa (ai aW (ae 1) (ae 3)) (a1 (eS "nobody"))))))) (ao (rq (gz true) (af "number_of" (aa (ae 0) (aa (ai aW (ae 1) (ae 3)) (a1 (eS "")))))))) (av (eC (.bl false))) bz)))
def Rt:MS:=(cI (a8 (aa (eB aO (a1 (eX 0 4))) ag)) (gN 7) (bC (bK (ao (af "_law_same" (aa (af "rows_of" (a2 (ae 0) (ae 7))) (aa (ai aW (ai aW (eX 0 4) (ae 7)) (eI 1)) ag))))) (av (eC (.bl false))) bz))
def Sl:MS:=(av (eC (.bl true)))
def Mc:MS:=Sl
def KI:MS:=ah Rt Mc
def Pu:MS:=ah Sw KI
def PB:MS:=ah Rl Pu
def Pq:MS:=ah Ra PB
noncomputable def rB(ss:List Str)(x:Str):PV:=if x∈ss then .int (ss.idxOf x:Nat) else .non
theorem kb{it:jO}{step:PV->a9->PH->RV Fl}{h:PH}(P:a9->Prop)(hf:it.eU h=true): ∀(xs:List PV),(∀ x∈xs,∀ e,P e-> ∃ e',step x e h= .ok (.nx e') h/\P e')-> ∀ e,P e-> ∃ e',bM it step xs e h= .ok (.nx e') h/\P e'
 | [],_,e,pe=>⟨e,gY hf,pe⟩
 | x::xs,hs,e,pe=>by
  obtain⟨e1,s1,p1⟩:=hs x S8 e pe;obtain⟨e2,s2,p2⟩:=kb P hf xs (λy m=>hs y (S9 _ m)) e1 p1;exact⟨e2,by rw[fE hf,s1,bj,dg];exact s2,p2⟩
section
variable{pg:Tb}(T:cv pg)
include T
theorem kX(j:Nat)(h:PH)(p:Bn)(pf:p.fC){s:Str}(ms:s∈W5)(x:Str):run pg (j+2) "number_of" [p.v,.str s,.str x] h= .ok (rB (p.nm s) x) h:=by
 have ne:=mW T j h p pf ms;have i1:=vx (h:=h++[.lst ((p.nm s).map PV.str)]) (n:=h.length) (a:=x) (ss:=p.nm s) aI;rw[run_eq T.se rfl];unfold rB;by_cases c:x∈p.nm s
 . have ix:=EN (h:=h++[.lst ((p.nm s).map PV.str)]) (n:=h.length) (ss:=p.nm s) aI c;simp? [ft,iH,ne,i1,c,ix,gD]
 . have sn:P3.settle h .non (h++[.lst ((p.nm s).map PV.str)])= .ok .non h:=hI rfl;simp? [ft,iH,ne,i1,c,sn]
theorem xG(j:Nat)(h:PH)(p:Bn){i:Nat}{q:Str × PV}(e:p.a[i]?=fv q):run pg (j+1) "rows_of" [p.v,.int i] h= .ok q.2 h:=by
 have at1:fY (p.a.map pr) (i:Int)=fv (pr q):=P3.cT rfl (by rw[T7,e];rfl);rw[run_eq T.xD rfl];have i4: ∀ h,aW p.v (.int 4) h= .ok (.tup (p.a.map pr)) h:=λh=>by unfold Bn.v;exact rM
 have i5: ∀ h,aW (.tup (p.a.map pr)) (.int i) h= .ok (pr q) h:=λh=>by
  show JL h (fY (p.a.map pr) i)=_;rw[at1];rfl
 have i6: ∀ h,aW (pr q) (.int 1) h= .ok q.2 h:=λh=>yp;simp? [iS,o9,i4,i5,i6]
theorem Jp(j:Nat)(h:PH)(p:Bn)(o:p.Ok)(hr: ∀ q∈p.a,bD q.2=true/\jK q.2<=8)(u1 u2:Option PV){i:Nat}(hi:i < p.a.length)(o3 o4 o5 o6 o7:Option PV):bZ (gN 7) (bC (bK (ao (af "_law_same" (aa (af "rows_of" (a2 (ae 0) (ae 7))) (aa (ai aW (ai aW (eX 0 4) (ae 7)) (eI 1)) ag))))) (av (eC (.bl false))) bz) (run pg (j+9)) (.int (0+(i:Int))) [fv p.v,u1,u2,o3,o4,o5,o6,o7] h= .ok (.nx [fv p.v,u1,u2,o3,o4,o5,o6,fv (.int (0+(i:Int)))]) h:=by
 have e:p.a[i]?=fv p.a[i]:=TN hi;have ro:=xG T (j+8) h p e;obtain⟨pl,d8⟩:=hr p.a[i] (VI hi);have sm:run pg (j+9) "_law_same" [p.a[i].2,p.a[i].2] h= .ok (.bl true) h:=same_refl T (j+8) h _ pl (by omega);have at1:fY (p.a.map pr) (i:Int)=fv (pr p.a[i]):=P3.cT rfl (by rw[T7,e];rfl);have i4: ∀ h,aW p.v (.int 4) h= .ok (.tup (p.a.map pr)) h:=λh=>by unfold Bn.v;exact rM
 have i5: ∀ h,aW (.tup (p.a.map pr)) (.int i) h= .ok (pr p.a[i]) h:=λh=>by
  show JL h (fY (p.a.map pr) i)=_;rw[at1];rfl
 have i6: ∀ h,aW (pr p.a[i]) (.int 1) h= .ok p.a[i].2 h:=λh=>yp;rw[W3];simp? [ro,sm,i4,i5,i6]
end
theorem vJ{f:Str->List Str}: ∀{l:List Str},(l.flatMap f).Nodup-> ∀{i:Nat}{a:Str},l[i]?=fv a->(f a).Nodup
 | [],_,i,a,e=>by simp at e
 | b::r,h,0,a,e=>by
  rw[Vy] at h;obtain rfl:b=a:=by simpa using e
  exact(Vf.mp h).1
 | b::r,h,i+1,a,e=>by
  rw[Vy] at h;exact vJ (Vf.mp h).2.1 (i:=i) (by simpa using e)
theorem wx{f:Str->List Str}: ∀{l:List Str},(l.flatMap f).Nodup-> ∀{i j:Nat}{a b x:Str},l[i]?=fv a->l[j]?=fv b->i≠j->x∈f a->x ∉ f b
 | [],_,i,j,a,b,x,e,_,_,_=>by simp at e
 | c::r,h,0,0,a,b,x,ea,eb,n,_=>absurd rfl n
 | c::r,h,0,j+1,a,b,x,ea,eb,n,m=>by
  rw[Vy] at h;obtain rfl:c=a:=by simpa using ea
  intro mb;exact(Vf.mp h).2.2 x m x (XS.mpr ⟨b,Uw (show r[j]?=fv b by simpa using eb),mb⟩) rfl
 | c::r,h,i+1,0,a,b,x,ea,eb,n,m=>by
  rw[Vy] at h;obtain rfl:c=b:=by simpa using eb
  intro mb;exact(Vf.mp h).2.2 x mb x (XS.mpr ⟨a,Uw (show r[i]?=fv a by simpa using ea),m⟩) rfl
 | c::r,h,i+1,j+1,a,b,x,ea,eb,n,m=>by
  rw[Vy] at h;exact wx (Vf.mp h).2.1 (i:=i) (j:=j) (by simpa using ea) (by simpa using eb) (by omega) m
structure Nz(H:PH)(L M:Nat)(p:Bn):Prop where
 s:H[L]?=fv (.lst (W5.map PV.str))
 n: ∃ refs:List PV,H[M]?=fv (.lst refs)/\ ∀(i:Nat)(s:Str),W5[i]?=fv s-> ∃ r:Nat,refs[i]?=fv (.ref r)/\H[r]?=fv (.lst ((p.nm s).map PV.str))
def Mi:MS:=(ay (BW (ao (ai hU (ae 4) (ae 3))) (ae 5) (eC .non)) (gN 6))
def Nx:MS:=(bC (bK (ao (af "_law_same" (aa (af "number_of" (aa (ae 0) (aa (ai aW (ae 1) (ae 3)) (aa (ai aW (ai aW (ae 2) (ae 4)) (ae 5)) ag)))) (a1 (ae 6)))))) (av (eC (.bl false))) bz)
section
variable{pg:Tb}(T:cv pg)
include T
theorem MW(j:Nat){H:PH}{L M:Nat}{p:Bn}(o:p.Ok)(N:Nz H L M p){k i a:Nat}{sk si x:Str}(hk:W5[k]?=fv sk)(hi:W5[i]?=fv si)(ha:(p.nm si)[a]?=fv x)(o5 o6 o7:Option PV) :
  ∃ o6',bZ (gN 5) (ah Mi Nx) (run pg (j+2)) (.int (0+(a:Int))) [fv p.v,fv (.ref L),fv (.ref M),fv (.int k),fv (.int i),o5,o6,o7] H= .ok (.nx [fv p.v,fv (.ref L),fv (.ref M),fv (.int k),fv (.int i),fv (.int a),o6',o7]) H:=by
 obtain⟨refs,hM,hr⟩:=N.n;obtain⟨r,er,hR⟩:=hr i si hi;have hS:=N.s;have msk:sk∈W5:=Uw hk;have nu:=kX T j H p o.fC msk x;have i1:aW (.ref L) (.int k) H= .ok (.str sk) H:=by
  rw[tM,hS,u0,P3.cT rfl (by rw[T7,hk];rfl)];rfl
 have i2:aW (.ref M) (.int i) H= .ok (.ref r) H:=by
  rw[tM,hM,u0,P3.cT rfl er];rfl
 have i3:aW (.ref r) (.int a) H= .ok (.str x) H:=by
  rw[tM,hR,u0,P3.cT rfl (by rw[T7,ha];rfl)];rfl
 have s1: ∀ v,bD v=true->jK v<=1->run pg (j+2) "_law_same" [v,v] H= .ok (.bl true) H:=λv a b=>same_refl T (j+1) H v a (by omega);have un:(W5.flatMap p.nm).Nodup:=o.un;by_cases c:i=k
 . subst c;obtain rfl:sk=si:=Ud (hk.symm.trans hi);have nv:rB (p.nm sk) x= .int a:=by
    have nd:=vJ un hk;unfold rB;rw[if_pos (Uw ha)];obtain⟨la,ga⟩:=Tg.mp ha;rw[<- ga,nd.idxOf_getElem]
   rw[nv] at nu;have sm:=s1 (.int a) rfl (U2 _);refine⟨fv (.int a),?_⟩;rw[W3];simp? [Mi,Nx,i1,i2,i3,nu,sm]
 . have nv:rB (p.nm sk) x= .non:=by
    unfold rB;rw[if_neg (wx un hi hk c (Uw ha))]
   rw[nv] at nu;have sm:=s1 .non rfl (by decide);have c': ¬ ((i:Int)=(k:Int)):=by omega
   refine⟨fv .non,?_⟩;rw[W3];simp? [Mi,Nx,i1,i2,i3,nu,sm,c']
end
def Pe:MS:=cI (a8 (aa (eB aO (aa (ai aW (ae 2) (ae 4)) ag)) ag)) (gN 5) (ah Mi Nx)
def O6:MS:=cI (a8 (a1 (eI 5))) (gN 4) Pe
def PR:MS:=(bC (fL (ao (rq (gz true) (af "number_of" (aa (ae 0) (aa (ai aW (ae 1) (ae 3)) (a1 (eS "nobody"))))))) (ao (rq (gz true) (af "number_of" (aa (ae 0) (aa (ai aW (ae 1) (ae 3)) (a1 (eS "")))))))) (av (eC (.bl false))) bz)
def RT:MS:=cI (a8 (a1 (eI 5))) (gN 3) (ah O6 PR)
theorem i9{n:Nat}{x:PV}(m:x∈aZ 0 n): ∃ i:Nat,i < n/\x= .int (0+(i:Int)):=by
 obtain⟨i,hi,rfl⟩:=TR.mp m;exact⟨i,YC.mp hi,rfl⟩
theorem FE{i:Nat}(h:i < 5): ∃ s,W5[i]?=fv s:=⟨_,TN (show i < W5.length from h)⟩
section
variable{pg:Tb}(T:cv pg)
include T
theorem G5(j:Nat){H:PH}{L M:Nat}{p:Bn}(o:p.Ok)(N:Nz H L M p){k i:Nat}{sk si:Str}(hk:W5[k]?=fv sk)(hi:W5[i]?=fv si)(o5 o6 o7:Option PV): ∃ o5' o6',Pe (run pg (j+2)) [fv p.v,fv (.ref L),fv (.ref M),fv (.int k),fv (.int i),o5,o6,o7] H= .ok (.nx [fv p.v,fv (.ref L),fv (.ref M),fv (.int k),fv (.int i),o5',o6',o7]) H:=by
 obtain⟨refs,hM,hr⟩:=N.n;obtain⟨r,er,hR⟩:=hr i si hi;have i2:aW (.ref M) (.int i) H= .ok (.ref r) H:=by
  rw[tM,hM,u0,P3.cT rfl er];rfl
 have l4:=Bn.yQ o.fC si;obtain⟨e',s',⟨o5',o6',rfl⟩⟩:=kb (it:=⟨SU,aZ 0 (p.nm si).length⟩) (step:=bZ (gN 5) (ah Mi Nx) (run pg (j+2))) (h:=H) (λe=> ∃ o5 o6,e=[fv p.v,fv (.ref L),fv (.ref M),fv (.int k),fv (.int i),o5,o6,o7]) rfl (aZ 0 (p.nm si).length) (λx mx e pe=>by
  obtain⟨o5,o6,rfl⟩:=pe;obtain⟨a,ha,rfl⟩:=i9 mx;obtain⟨o6',ee⟩:=MW T j o N hk hi (TN ha) o5 o6 o7;exact⟨_,ee,_,_,rfl⟩) _ ⟨o5,o6,rfl⟩
 refine⟨o5',o6',?_⟩;simp? [Pe,i2,hR,SX,Uu,s']
theorem GH(j:Nat){H:PH}{L M:Nat}{p:Bn}(o:p.Ok)(N:Nz H L M p){k:Nat}{sk:Str}(hk:W5[k]?=fv sk)(o4 o5 o6 o7:Option PV): ∃ o4' o5' o6',O6 (run pg (j+2)) [fv p.v,fv (.ref L),fv (.ref M),fv (.int k),o4,o5,o6,o7] H= .ok (.nx [fv p.v,fv (.ref L),fv (.ref M),fv (.int k),o4',o5',o6',o7]) H:=by
 obtain⟨e',s',⟨o4',o5',o6',rfl⟩⟩:=kb (it:=⟨SU,aZ 0 5⟩) (step:=bZ (gN 4) Pe (run pg (j+2))) (h:=H) (λe=> ∃ o4 o5 o6,e=[fv p.v,fv (.ref L),fv (.ref M),fv (.int k),o4,o5,o6,o7]) rfl (aZ 0 5) (λx mx e pe=>by
  obtain⟨o4,o5,o6,rfl⟩:=pe;obtain⟨a,ha,rfl⟩:=i9 mx;obtain⟨si,hi⟩:=FE ha;obtain⟨o5',o6',ee⟩:=G5 T j o N hk hi o5 o6 o7;refine⟨[fv p.v,fv (.ref L),fv (.ref M),fv (.int k),fv (.int a),o5',o6',o7],?_,fv (.int a),o5',o6',rfl⟩;rw[fQ,W3];simp only[gy,Vb,Vc,bj];exact ee) _ ⟨o4,o5,o6,rfl⟩
 refine⟨o4',o5',o6',?_⟩;simp? [O6,s']
theorem Gg(j:Nat){H:PH}{L M:Nat}{p:Bn}(o:p.Ok)(N:Nz H L M p)(nn: ∀ s∈p.all,s≠ "nobody")(o3 o4 o5 o6 o7:Option PV): ∃ o3' o4' o5' o6',RT (run pg (j+2)) [fv p.v,fv (.ref L),fv (.ref M),o3,o4,o5,o6,o7] H= .ok (.nx [fv p.v,fv (.ref L),fv (.ref M),o3',o4',o5',o6',o7]) H:=by
 have al: ∀(sk:Str),sk∈W5-> ∀ x∈p.nm sk,x∈p.all:=λsk m x mx=>XS.mpr ⟨sk,m,mx⟩;have e0: ∀ s∈p.all,s≠ "" :=λs m=>by
  have nb:aD (.str s)=true:=by
   rw[Bn.all_eq] at m;simp only[Tt,TR] at m;rcases m with⟨q,mq,rfl⟩ | m | m | m | ⟨q,mq,rfl⟩
   . exact(o.bx q mq).1
   . exact o.lk s m
   . exact o.ln s m
   . exact o.dr s m
   . exact(o.hn q mq).1
  intro c;rw[c] at nb;exact absurd nb (by decide +kernel)
 obtain⟨e',s',⟨o3',o4',o5',o6',rfl⟩⟩:=kb (it:=⟨SU,aZ 0 5⟩) (step:=bZ (gN 3) (ah O6 PR) (run pg (j+2))) (h:=H) (λe=> ∃ o3 o4 o5 o6,e=[fv p.v,fv (.ref L),fv (.ref M),o3,o4,o5,o6,o7]) rfl (aZ 0 5) (λx mx e pe=>by
  obtain⟨o3,o4,o5,o6,rfl⟩:=pe;obtain⟨k,hk5,rfl⟩:=i9 mx;obtain⟨sk,hk⟩:=FE hk5;have msk:sk∈W5:=Uw hk;obtain⟨o4',o5',o6',ee⟩:=GH T j o N hk o4 o5 o6 o7;have i1:aW (.ref L) (.int k) H= .ok (.str sk) H:=by
   rw[tM,N.s,u0,P3.cT rfl (by rw[T7,hk];rfl)];rfl
  have n1:=kX T j H p o.fC msk "nobody";have n2:=kX T j H p o.fC msk "";rw[rB,if_neg (λc=>nn _ (al sk msk _ c) rfl)] at n1;rw[rB,if_neg (λc=>e0 _ (al sk msk _ c) rfl)] at n2;refine⟨[fv p.v,fv (.ref L),fv (.ref M),fv (.int k),o4',o5',o6',o7],?_,fv (.int k),o4',o5',o6',rfl⟩;rw[fQ,W3];simp only[gy,Vb,Vc,bj];refine(aA ee).trans ?_;simp? [PR,i1,n1,n2]) _ ⟨o3,o4,o5,o6,rfl⟩
 refine⟨o3',o4',o5',o6',?_⟩;simp? [RT,s']
end
def nz(L:Nat)(b l n d a:List PV):PH:=[.lst (W5.map PV.str),.lst b,.lst l,.lst n,.lst d,.lst [.ref (L+1),.ref (L+2),.ref (L+3),.ref (L+4),.ref (L+6)],.lst a]
section
variable{pg:Tb}(T:cv pg)
include T
theorem va(j:Nat)(h:PH)(p:Bn)(o:p.Ok)(hr: ∀ q∈p.a,bD q.2=true/\jK q.2<=8)(nn: ∀ s∈p.all,s≠ "nobody"):run pg (j+10) "_law_numbers_right" [p.v] h= .ok (.bl true) h:=by
 obtain⟨f0,f1,f2,f3,f4⟩:=o.fC;generalize hB:(p.b.map (·.1)).map PV.str=B
 generalize hA:(p.a.map (·.1)).map PV.str=A
 have i0: ∀ h,aW p.v (.int 0) h= .ok (.tup (p.b.map pr)) h:=λh=>by unfold Bn.v;exact zo
 have i1: ∀ h,aW p.v (.int 1) h= .ok (.tup (p.l.map PV.str)) h:=λh=>by unfold Bn.v;exact yp
 have i2: ∀ h,aW p.v (.int 2) h= .ok (.tup (p.n.map PV.str)) h:=λh=>by unfold Bn.v;exact Dm
 have i3: ∀ h,aW p.v (.int 3) h= .ok (.tup (p.d.map PV.str)) h:=λh=>by unfold Bn.v;exact CH
 have i4: ∀ h,aW p.v (.int 4) h= .ok (.tup (p.a.map pr)) h:=λh=>by unfold Bn.v;exact rM
 have lB: ∀(h:PH)(E:a9),E.length=8->P3.eW ⟨SU,p.b.map pr⟩ (aY 1 (gN 8) ax (eX 8 0) (run pg (j+9)) E) (p.b.map pr) [] h= .ok B h:=λh E e=>hB ▸ kC rfl e (by omega);have lA: ∀(h:PH)(E:a9),E.length=8->P3.eW ⟨SU,p.a.map pr⟩ (aY 1 (gN 8) ax (eX 8 0) (run pg (j+9)) E) (p.a.map pr) [] h= .ok A h:=λh E e=>hA ▸ kC rfl e (by omega);have s0:Qi (run pg (j+9)) [fv p.v,SU,SU,SU,SU,SU,SU,SU] h= .ok (.nx [fv p.v,fv (.ref h.length),SU,SU,SU,SU,SU,SU]) (h++[.lst (W5.map PV.str)]):=by
  simp? [Qi,W5]
 have s1:Ra (run pg (j+9)) [fv p.v,fv (.ref h.length),SU,SU,SU,SU,SU,SU] (h++[.lst (W5.map PV.str)])= .ok (.nx [fv p.v,fv (.ref h.length),fv (.ref (h.length+5)),SU,SU,SU,SU,SU]) (h++[.lst (W5.map PV.str),.lst B,.lst (p.l.map PV.str),.lst (p.n.map PV.str),.lst (p.d.map PV.str),.lst [.ref (h.length+1),.ref (h.length+2),.ref (h.length+3),.ref (h.length+4)]]):=by
  generalize W5.map PV.str=w;have lB':=λg=>lB g [fv p.v,fv (.ref h.length),SU,SU,SU,SU,SU,SU] rfl;simp? [Ra,i0,i1,i2,i3,lB']
 have s2:Rl (run pg (j+9)) [fv p.v,fv (.ref h.length),fv (.ref (h.length+5)),SU,SU,SU,SU,SU] (h++[.lst (W5.map PV.str),.lst B,.lst (p.l.map PV.str),.lst (p.n.map PV.str),.lst (p.d.map PV.str),.lst [.ref (h.length+1),.ref (h.length+2),.ref (h.length+3),.ref (h.length+4)]])= .ok (.nx [fv p.v,fv (.ref h.length),fv (.ref (h.length+5)),SU,SU,SU,SU,SU]) (h++nz h.length B (p.l.map PV.str) (p.n.map PV.str) (p.d.map PV.str) A):=by
  unfold nz;generalize W5.map PV.str=w;have lA':=λg=>lA g [fv p.v,fv (.ref h.length),fv (.ref (h.length+5)),SU,SU,SU,SU,SU] rfl;have ap:=JJ (n:=h.length+5) (v:= .ref (h.length+6)) (xs:=[.ref (h.length+1),.ref (h.length+2),.ref (h.length+3),.ref (h.length+4)]) (h:=h++[.lst w,.lst B,.lst (p.l.map PV.str),.lst (p.n.map PV.str),.lst (p.d.map PV.str),.lst [.ref (h.length+1),.ref (h.length+2),.ref (h.length+3),.ref (h.length+4)],.lst A]) (show 4 < 16777216 by decide);rw[mJ] at ap;simp? [Rl,i4,lA'];exact(congrArg (λr=>RV.bind r (L5 _)) ap).trans rfl
 generalize hH:h++nz h.length B (p.l.map PV.str) (p.n.map PV.str) (p.d.map PV.str) A=H at s2;have at': ∀ k,H[h.length+k]?=(nz h.length B (p.l.map PV.str) (p.n.map PV.str) (p.d.map PV.str) A)[k]?:=λk=>by rw[<- hH,aw]
 have N:Nz H h.length (h.length+5) p:=by
  refine⟨at' 0,[.ref (h.length+1),.ref (h.length+2),.ref (h.length+3),.ref (h.length+4),.ref (h.length+6)],at' 5,λi s e=>?_⟩;have w: ∀ s:Str,p.nm s=if s= "box" then p.b.map (·.1) else if s= "hand" then p.a.map (·.1) else if s= "lock" then p.l else if s= "lane" then p.n else p.d:=λs=>rfl
  rcases i with _ | _ | _ | _ | _ | i<;>try (simp[W5] at e)
  . subst e;exact⟨h.length+1,rfl,by rw[at' 1,<- hB];rfl⟩
  . subst e;exact⟨h.length+2,rfl,by rw[at' 2];simp[nz,w,aj]⟩
  . subst e;exact⟨h.length+3,rfl,by rw[at' 3];simp[nz,w,aj]⟩
  . subst e;exact⟨h.length+4,rfl,by rw[at' 4];simp[nz,w,aj]⟩
  . subst e;exact⟨h.length+6,rfl,by rw[at' 6,<- hA];simp[nz,w,aj]⟩
 obtain⟨o3,o4,o5,o6,s3⟩:=Gg T (j+7) o N nn SU SU SU SU SU;obtain⟨e',s4,⟨o3',o4',o5',o6',o7',rfl⟩⟩:=kb (it:=⟨SU,aZ 0 p.a.length⟩) (step:=bZ (gN 7) (bC (bK (ao (af "_law_same" (aa (af "rows_of" (a2 (ae 0) (ae 7))) (aa (ai aW (ai aW (eX 0 4) (ae 7)) (eI 1)) ag))))) (av (eC (.bl false))) bz) (run pg (j+9))) (h:=H) (λe=> ∃ o3 o4 o5 o6 o7,e=[fv p.v,fv (.ref h.length),fv (.ref (h.length+5)),o3,o4,o5,o6,o7]) rfl (aZ 0 p.a.length) (λx mx e pe=>by
  obtain⟨o3,o4,o5,o6,o7,rfl⟩:=pe;obtain⟨i,hi,rfl⟩:=i9 mx;exact⟨_,Jp T j H p o hr _ _ hi o3 o4 o5 o6 o7,_,_,_,_,_,rfl⟩) _ ⟨o3,o4,o5,o6,SU,rfl⟩
 have s5:KI (run pg (j+9)) [fv p.v,fv (.ref h.length),fv (.ref (h.length+5)),o3,o4,o5,o6,SU] H= .ok (.rt (.bl true)) H:=by
  simp? [KI,Rt,Mc,Sl,i4,SX,Uu,s4]
 have A:fq (run pg (j+9)) [fv p.v,SU,SU,SU,SU,SU,SU,SU] h= .ok (.rt (.bl true)) H:=by
  show ah Qi Pq _ _ _=_;exact(aA s0).trans ((aA s1).trans ((aA s2).trans ((aA s3).trans s5)))
 rw[run_eq T.iz rfl];exact(congrArg (fin _) A).trans (by rw[cx,<- hH];exact bT)
end
def Qz:MS:=(ay (aC (aa (eC .non) (aa (eC (.bl true)) (aa (eC (.bl false)) (aa (eI 0) (aa (eI 1) (aa (eI 1000) (aa (rq xA (eI 1)) (aa (eI 999) (aa (eS "") (aa (eS "a") (aa (eS "lets") (aa (eS "let") (aa (eS "add") (aa (eS "num") (aa (eS "of") (aa (eS "not") (aa (au ag) (aa (aC ag) (aa jC ag)))))))))))))))))))) (gN 2))
def Qx:MS:=(ay (ai ak (ae 2) (aC (aa (au (a2 (eS "num") (eI 5))) (aa (au (aa (eS "num") (aa (eC (.bl true)) ag))) (aa (au (a2 (eS "num") (eI 1000))) (aa (au (a2 (eS "of") (eS "let"))) (aa (au (a1 (eS "not"))) (aa (au (aa (eS "add") (aa (au (a2 (eS "num") (eI 1))) ag))) (aa (ai xJ (eI 10) (eI 39)) ag))))))))) (gN 2))
def Qs:MS:=(ay (ai ak (ae 2) (aC (aa (au (aa (eS "num") (aa (aC (a1 (eI 5))) ag))) (aa (aC (a2 (eS "num") (eI 5))) (aa (au (a2 (eS "of") (eS "A"))) (aa (au (a2 (eS "of") (eS ""))) (aa (au (a2 (eS "of") (eS "abcdefghi"))) (aa (ef (aQ (eS "num") (eI 5) gP)) (aa (au (a2 (eS "a") (eI 5))) ag))))))))) (gN 2))
def P1:MS:=(ay (ai ak (ae 2) (aC (aa (au (aa (eS "not") (aa (au (a2 (eS "of") (eS "not"))) ag))) (aa (au (a2 (eS "take") (eS "a"))) (aa (au (a2 (eS "clock") (eS "b"))) (aa (au (aa (eS "leap") (aa (eI 0) (aa (au (a2 (eS "num") (eI 1))) ag)))) (aa (eI 31) (a3 (eS "box") (eI 1001) (eI 2))))))))) (gN 2))
def Lv:MS:=(bC (ao (eB aP (aa (ae 1) (aa (eC (.ty "tuple")) ag)))) (ay (ai ak (ae 2) (aC (aa (eB dN (a1 (ae 1))) (aa (ai ak (ae 1) (au (a1 (eI 0)))) (aa (dR (ae 1) aR (aK (rq xA (eI 1)))) (aa (au (a2 (eS "not") (ae 1))) (aa (ai ak (ae 1) (dR (ae 1) aR (aK (eI 1)))) (aa (dR (ae 1) (aK (eI 1)) aR) (aa (ai gf (ae 1) (eI 2)) ag))))))))) (gN 2)) bz)
def Mh:MS:=(av (ai aW (ae 2) (af "_law_pick" (aa (ae 0) (aa (eB aO (a1 (ae 2))) ag)))))
def Q0:MS:=Mh
def Mq:MS:=ah Lv Q0
def Qa:MS:=ah P1 Mq
def Qk:MS:=ah Qs Qa
def PU:MS:=ah Qx Qk
def z0(L:Nat):List PV:=[.non,.bl true,.bl false,.int 0,.int 1,.int 1000,.int (-1),.int 999,.str "",.str "a",.str "lets",.str "let",.str "add",.str "num",.str "of",.str "not",.tup [],.ref L,.ref (L+1)]
theorem J1{c:CF}{h:PH}{s t:Option PV}:Qz c [s,t,SU] h= .ok (.nx [s,t,fv (.ref (h.length+2))]) (h++[.lst [],.dct [],.lst (z0 h.length)]):=by
 simp? [Qz,z0]
theorem NR{b:Nat}{h:PH}(X:PH)(hb:3<=b): ∀ x∈z0 h.length,Tz b (h++ .lst []:: .dct []::X) x:=by
 have L: ∀ w:Str,(decide (w.length<=1000)&&TZ w)=true->Tz b (h++ .lst []:: .dct []::X) (.str w):=λw o=> .str w o;simp only[z0,S6];refine⟨.non,.bl _,.bl _,.int _,.int _,.int _,.int _,.int _,L _ (by decide +kernel),L _ (by decide +kernel),L _ (by decide +kernel),L _ (by decide +kernel),L _ (by decide +kernel),L _ (by decide +kernel),L _ (by decide +kernel),L _ (by decide +kernel),.tup [] (U2 _) (λ_ m=>(nomatch m)),.box _ (gM aI),.box _ (l7 (kvs:=[]) (by rw[aw];rfl)),λ_ m=>nomatch m⟩
def z1:List PV:=[.tup [.str "num",.int 5],.tup [.str "num",.bl true],.tup [.str "num",.int 1000],.tup [.str "of",.str "let"],.tup [.str "not"],.tup [.str "add",.tup [.str "num",.int 1]],.int (10 ^ 39)]
theorem M9:(10:Int) ^ XR 39=10 ^ 39:=rfl
theorem I0{c:CF}{h:PH}{s t:Option PV}{n:Nat}{xs:List PV}(e:h[n]?=fv (.lst xs))(l:xs.length<=1000):Qx c [s,t,fv (.ref n)] h= .ok (.nx [s,t,fv (.ref (h.length+1))]) (h++[.lst z1,.lst (xs++z1)]):=by
 have ad:ak (.ref n) (.ref h.length) (h++[.lst z1])= .ok (.ref (h.length+1)) (h++[.lst z1,.lst (xs++z1)]):=by
  refine(cF (xs:=xs) (ys:=z1) (cm e) aI (by show xs.length+7<=_;omega)).trans ?_;rw[S1,SY];rfl
 unfold z1 at ad ⊢;simp? [Qx,M9,ad]
def z2(L:Nat):List PV:=[.tup [.str "num",.ref L],.ref (L+1),.tup [.str "of",.str "A"],.tup [.str "of",.str ""],.tup [.str "of",.str "abcdefghi"],.ref (L+2),.tup [.str "a",.int 5]]
noncomputable def y2:PH:=[.lst [.int 5],.lst [.str "num",.int 5],.dct [(.inr "num",.int 5)]]
theorem Hm{c:CF}{h:PH}{s t:Option PV}{n:Nat}{xs:List PV}(e:h[n]?=fv (.lst xs))(l:xs.length<=1000):Qs c [s,t,fv (.ref n)] h= .ok (.nx [s,t,fv (.ref (h.length+4))]) (h++(y2++[.lst (z2 h.length),.lst (xs++z2 h.length)])):=by
 have ad:ak (.ref n) (.ref (h.length+3)) (h++(y2++[.lst (z2 h.length)]))= .ok (.ref (h.length+4)) (h++(y2++[.lst (z2 h.length),.lst (xs++z2 h.length)])):=by
  refine(cF (xs:=xs) (ys:=z2 h.length) (cm e) (by rw[aw];rfl) (by show xs.length+7<=_;omega)).trans ?_;rw[S1,SY];rfl
 have dk: ∀ H:PH,B6 H.length [(.inr "num",.int 5)] (H++[.dct []])= .ok (.ref H.length) (H++[.dct [(.inr "num",.int 5)]]):=λH=>by
  refine(lR (kvs:=[(.inr "num",.int 5)]) (by decide)).trans ?_;rw[show bp [] [((.inr "num" :Key),PV.int 5)]=[(.inr "num",.int 5)] from rfl]
 have dd:ef (aQ (eS "num") (eI 5) gP) c [s,t,fv (.ref n)] (h++[.lst [.int 5],.lst [.str "num",.int 5]])= .ok (.ref (h.length+2)) (h++y2):=by
  simp(disch:=omega) only[g8,jy,jm,gJ,jw,jt,yT,Fq,xo,bj];refine(dk _).trans ?_;rw[S1,SY];rfl
 unfold y2 z2 at ad ⊢;unfold y2 at dd;simp? [Qs,dd];exact(congrArg (λr=>RV.bind r (tR (gN 2) _)) ad).trans rfl
def z3:List PV:=[.tup [.str "not",.tup [.str "of",.str "not"]],.tup [.str "take",.str "a"],.tup [.str "clock",.str "b"],.tup [.str "leap",.int 0,.tup [.str "num",.int 1]],.int 31,.str "box",.int 1001,.int 2]
theorem IA{c:CF}{h:PH}{s t:Option PV}{n:Nat}{xs:List PV}(e:h[n]?=fv (.lst xs))(l:xs.length<=1000):P1 c [s,t,fv (.ref n)] h= .ok (.nx [s,t,fv (.ref (h.length+1))]) (h++[.lst z3,.lst (xs++z3)]):=by
 have ad:ak (.ref n) (.ref h.length) (h++[.lst z3])= .ok (.ref (h.length+1)) (h++[.lst z3,.lst (xs++z3)]):=by
  refine(cF (xs:=xs) (ys:=z3) (cm e) aI (by show xs.length+8<=_;omega)).trans ?_;rw[S1,SY];rfl
 unfold z3 at ad ⊢;simp? [P1,ad]
theorem LQ{b:Nat}{h:PH}(hb:3<=b): ∀ x∈z1,Tz b h x:=by
 have L: ∀ w:Str,(decide (w.length<=1000)&&TZ w)=true->Tz b h (.str w):=λw o=> .str w o;have n1:=L "num" (by decide +kernel);simp only[z1,S6];exact⟨rX (by omega) n1 (.int _),rX (by omega) n1 (.bl _),rX (by omega) n1 (.int _),rX (by omega) (L _ (by decide +kernel)) (L _ (by decide +kernel)),Qb (by omega) (L _ (by decide +kernel)),rX (by omega) (L _ (by decide +kernel)) (rX (by omega) n1 (.int _)),.int _,λ_ m=>nomatch m⟩
theorem OE{b:Nat}{h:PH}(X:PH)(hb:3<=b): ∀ x∈z2 h.length,Tz b (h++(y2++X)) x:=by
 have L: ∀ w:Str,(decide (w.length<=1000)&&TZ w)=true->Tz b (h++(y2++X)) (.str w):=λw o=> .str w o;have n1:=L "num" (by decide +kernel);have o1:=L "of" (by decide +kernel);simp only[z2,S6];exact⟨rX (by omega) n1 (.box _ (gM (xs:=[.int 5]) aI)),.box _ (gM (xs:=[.str "num",.int 5]) (by rw[aw];rfl)),rX (by omega) o1 (L _ (by decide +kernel)),rX (by omega) o1 (L _ (by decide +kernel)),rX (by omega) o1 (L _ (by decide +kernel)),.box _ (l7 (kvs:=[(.inr "num",.int 5)]) (by rw[aw];rfl)),rX (by omega) (L _ (by decide +kernel)) (.int _),λ_ m=>nomatch m⟩
theorem Nw{b:Nat}{h:PH}(hb:3<=b): ∀ x∈z3,Tz b h x:=by
 have L: ∀ w:Str,(decide (w.length<=1000)&&TZ w)=true->Tz b h (.str w):=λw o=> .str w o;simp only[z3,S6];exact⟨rX (by omega) (L _ (by decide +kernel)) (rX (by omega) (L _ (by decide +kernel)) (L _ (by decide +kernel))),rX (by omega) (L _ (by decide +kernel)) (L _ (by decide +kernel)),rX (by omega) (L _ (by decide +kernel)) (L _ (by decide +kernel)),SK (by omega) (L _ (by decide +kernel)) (.int _) (rX (by omega) (L _ (by decide +kernel)) (.int _)),.int _,L _ (by decide +kernel),.int _,.int _,λ_ m=>nomatch m⟩
theorem lX{xs:List PV}{lo hi:Option Int}:(∀ x∈bV xs lo hi,x∈xs)/\(bV xs lo hi).length<=xs.length:=by
 unfold bV;exact⟨λx m=>Vz (UJ m),by simp only[TL,Uj];omega⟩
def z4(L:Nat)(xs:List PV):List PV:=[.ref L,.tup (xs++[.int 0]),.tup (bV xs SU (fv (-1))),.tup [.str "not",.tup xs],.tup (xs++bV xs SU (fv 1)),.tup (bV xs (fv 1) SU),.tup (S4 (XR 2) xs).flatten]
theorem JN{c:CF}{h:PH}{s:Option PV}{ts:List PV}{n:Nat}{xs:List PV}(e:h[n]?=fv (.lst xs))(l:xs.length<=1000)(lt:ts.length<=10000):Lv c [s,fv (.tup ts),fv (.ref n)] h= .ok (.nx [s,fv (.tup ts),fv (.ref (h.length+2))]) (h++[.lst ts,.lst (z4 h.length ts),.lst (xs++z4 h.length ts)]):=by
 have ad:ak (.ref n) (.ref (h.length+1)) (h++[.lst ts,.lst (z4 h.length ts)])= .ok (.ref (h.length+2)) (h++[.lst ts,.lst (z4 h.length ts),.lst (xs++z4 h.length ts)]):=by
  refine(cF (xs:=xs) (ys:=z4 h.length ts) (cm e) (by rw[aw];rfl) (by show xs.length+7<=_;omega)).trans ?_;rw[S1,SY];rfl
 have c1:=(lX (xs:=ts) (lo:=SU) (hi:=fv 1)).2;have mu: ∀ h,gf (.tup ts) (.int 2) h= .ok (.tup (S4 (XR 2) ts).flatten) h:=λh=>wu (by omega);have a1': ∀ h,ak (.tup ts) (.tup (bV ts SU (fv 1))) h= .ok (.tup (ts++bV ts SU (fv 1))) h:=λh=>bX (by omega);have a0': ∀ h,ak (.tup ts) (.tup [.int 0]) h= .ok (.tup (ts++[.int 0])) h:=λh=>bX (by show ts.length+1<=_;omega);unfold z4 at ad ⊢;simp? [Lv,aJ,mu,a1',a0'];exact(congrArg (λr=>RV.bind r (tR (gN 2) _)) ad).trans rfl
theorem MB{b:Nat}{h:PH}{ts:List PV}(X:PH)(hb:3<=b)(t:Tz b h (.tup ts)): ∀ x∈z4 h.length ts,Tz (2*b) (h++ .lst ts::X) x:=by
 have lt:ts.length<=b:=by cases t;assumption
 have at0: ∀ x∈ts,Tz b h x:=by cases t;assumption
 have at': ∀ x∈ts,Tz (2*b) (h++ .lst ts::X) x:=λx m=>(at0 x m).mono (by omega) (uw _);have T1: ∀{ys:List PV},ys.length<=2*b->(∀ y∈ys,y∈ts)->Tz (2*b) (h++ .lst ts::X) (.tup ys):=λ{ys} l m=> .tup ys l λy my=>at' y (m y my);have c1:=lX (xs:=ts) (lo:=SU) (hi:=fv 1);have c2:=lX (xs:=ts) (lo:=fv 1) (hi:=SU);have c3:=lX (xs:=ts) (lo:=SU) (hi:=fv (-1));simp only[z4,S6];refine⟨.box _ (gM (xs:=ts) aI),.tup _ (by simp only[S1,S2,Tj];omega) λx m=>?_,T1 (by have:=c3.2;omega) c3.1,rX (by omega) (.str "not" (by decide +kernel)) (T1 (by omega) λ_ m=>m),T1 (by have:=c1.2;simp only[S1];omega) (λy m=>?_),T1 (by have:=c2.2;omega) c2.1,T1 ?_ (λy m=>?_),λ_ m=>nomatch m⟩
 . rcases Tt.mp m with m | m
   . exact at' x m
   . rw[TY.mp m];exact .int 0
 . rcases Tt.mp m with m | m
   . exact m
   . exact c1.1 y m
 . show(ts++(ts++[])).length<=_;simp only[S1,Tj];omega
 . have m':y∈ts++(ts++[]):=m;simp at m';exact m'
theorem pU: ∀{xs:List PV},PV.du xs=true-> ∀ x∈xs,x.flat=true
 | y::r,h,x,m=>by
  rw[PV.du,Td] at h;rcases Tq.mp m with rfl | m
  . exact h.1
  . exact pU h.2 x m
theorem Tz.flat{b:Nat}{h h':PH}{x:PV}(t:Tz b h x):x.flat=true->Tz b h' x:=by
 induction t with
 | non=>exact λ_=> .non
 | bl a=>exact λ_=> .bl a
 | int i=>exact λ_=> .int i
 | str z o=>exact λ_=> .str z o
 | tup xs l _ ih=>exact λf=> .tup xs l λx m=>ih x m (pU (by simpa only[PV.flat] using f) x m)
 | box n a=>exact λf=>nomatch f
theorem HY{ns:List Int}{k k':Int}{o o':Option Int}{g:PH}(n:Nat)(b:eK (aG ns::aF k o::g) (.ref n)=true):eK (aG ns::aF k' o'::g) (.ref n)=true:=by
 rcases n with _ | _ | n
 . nomatch b
 . rfl
 . exact b
theorem Tz.st{b:Nat}{ns:List Int}{k k':Int}{o o':Option Int}{g:PH}{x:PV}(t:Tz b (aG ns::aF k o::g) x):Tz b (aG ns::aF k' o'::g) x:=t.mono (Te _) HY
theorem leave{b:Nat}{ns:List Int}{k k':Int}{o o':Option Int}{g X:PH}{v:PV}(t:Tz b (aG ns::aF k' o'::(g++X)) v): ∃ g',P3.settle (aG ns::aF k o::g) v (aG ns::aF k' o'::(g++X))= .ok v (aG ns::aF k' o'::(g++g'))/\Tz b (aG ns::aF k' o'::(g++g')) v:=by
 cases f:v.flat with
 | true=>exact⟨[],by rw[Tv];exact eE f,t.flat f⟩
 | false=>exact⟨X,jr f,t⟩
section
variable{pg:Tb}(T:cv pg)
include T
theorem HE(j:Nat){ns:List Int}(hn:ns.length<=63)(k:Int)(o:Option Int)(G:PH)(k0:0<=k)(k9:k < 1000000){b n:Nat}{zs:List PV}{x:PV}(e:(aG ns::aF k o::G)[n]?=fv (.lst zs))(l0:0 < zs.length)(l9:zs.length<=1000)(tz: ∀ z∈zs,Tz b (aG ns::aF k o::G) z): ∃ v,Mh (run pg (j+2)) [fv (.ref 1),fv x,fv (.ref n)] (aG ns::aF k o::G)= .ok (.rt v) (aG ns::aF (k+1) o::G)/\Tz b (aG ns::aF (k+1) o::G) v:=by
 obtain⟨a,a0,a1',ea⟩:=bg T j G hn o (k:=k) zs.length k0 k9 (by omega) (by omega);obtain⟨i,rfl⟩:=Vh a0;have hi:i < zs.length:=by omega
 have e':(aG ns::aF (k+1) o::G)[n]?=fv (.lst zs):=by
  rcases n with _ | _ | n
  . cases e
  . cases e
  . exact e
 refine⟨zs[i],?_,(tz _ (VI hi)).st⟩;have i1:aW (.ref n) (.int (aat i)) (aG ns::aF (k+1) o::G)= .ok zs[i] (aG ns::aF (k+1) o::G):=by
  have at1:fY zs (aat i)=fv zs[i]:=P3.cT (n:=i) rfl (TN hi);rw[tM,e',u0,at1];rfl
 have ln:aO [.ref n] (aG ns::aF k o::G)= .ok (.int zs.length) (aG ns::aF k o::G):=by rw[FY,e];rfl
 have ea':run pg (j+2) "_law_pick" [.ref 1,.int zs.length] (aG ns::aF k o::G)= .ok (.int (aat i)) (aG ns::aF (k+1) o::G):=ea;unfold Mh;simp only[nT,rZ,qx,Vg,Ut,lQ,bj,nJ,qz,nP,kW,kZ,qE,OA,Fu,yY,ln,ea',i1,jQ]
theorem BR(j:Nat){ns:List Int}(hn:ns.length<=63)(k:Int)(o:Option Int)(g:PH)(k0:0<=k)(k9:k < 1000000){b:Nat}(b3:3<=b)(b9:b<=5000){x:PV}(t:Tz b (aG ns::aF k o::g) x): ∃(v:PV)(g':PH),run pg (j+3) "_law_odd" [.ref 1,x] (aG ns::aF k o::g)= .ok v (aG ns::aF (k+1) o::(g++g'))/\Tz (2*b) (aG ns::aF (k+1) o::(g++g')) v:=by
 generalize hH:aG ns::aF k o::g=H0 at t;have pre: ∃(X:PH)(n:Nat)(zs:List PV),(H0++X)[n]?=fv (.lst zs)/\0 < zs.length/\zs.length<=1000/\(∀ z∈zs,Tz (2*b) (H0++X) z)/\ ∀ r:RV Fl,Mh (run pg (j+2)) [fv (.ref 1),fv x,fv (.ref n)] (H0++X)=r->gO (run pg (j+2)) [fv (.ref 1),fv x,SU] H0=r:=by
  have s0:=J1 (c:=run pg (j+2)) (h:=H0) (s:=fv (.ref 1)) (t:=fv x);generalize h1:H0++[.lst [],.dct [],.lst (z0 H0.length)]=H1 at s0;have e1:H1[H0.length+2]?=fv (.lst (z0 H0.length)):=by rw[<- h1,aw];rfl
  have t1: ∀ z∈z0 H0.length,Tz (2*b) H1 z:=λz m=>h1 ▸ NR _ (by omega) z m;have s1:=I0 (c:=run pg (j+2)) (s:=fv (.ref 1)) (t:=fv x) e1 (by show 19<=1000;omega);generalize h2:H1++[.lst z1,.lst (z0 H0.length++z1)]=H2 at s1;have e2:H2[H1.length+1]?=fv (.lst (z0 H0.length++z1)):=by rw[<- h2,aw];rfl
  have t2: ∀ z∈z0 H0.length++z1,Tz (2*b) H2 z:=λz m=>by
   rcases Tt.mp m with m | m
   . exact h2 ▸ (t1 z m).gr _
   . exact LQ (by omega) z m
  have s2:=Hm (c:=run pg (j+2)) (s:=fv (.ref 1)) (t:=fv x) e2 (by show 26<=1000;omega);generalize h3:H2++(y2++[.lst (z2 H2.length),.lst (z0 H0.length++z1++z2 H2.length)])=H3 at s2;have e3:H3[H2.length+4]?=fv (.lst (z0 H0.length++z1++z2 H2.length)):=by rw[<- h3,aw];rfl
  have t3: ∀ z∈z0 H0.length++z1++z2 H2.length,Tz (2*b) H3 z:=λz m=>by
   rcases Tt.mp m with m | m
   . exact h3 ▸ (t2 z m).gr _
   . exact h3 ▸ OE _ (by omega) z m
  have s3:=IA (c:=run pg (j+2)) (s:=fv (.ref 1)) (t:=fv x) e3 (by show 33<=1000;omega);generalize h4:H3++[.lst z3,.lst (z0 H0.length++z1++z2 H2.length++z3)]=H4 at s3;have e4:H4[H3.length+1]?=fv (.lst (z0 H0.length++z1++z2 H2.length++z3)):=by rw[<- h4,aw];rfl
  have t4: ∀ z∈z0 H0.length++z1++z2 H2.length++z3,Tz (2*b) H4 z:=λz m=>by
   rcases Tt.mp m with m | m
   . exact h4 ▸ (t3 z m).gr _
   . exact Nw (by omega) z m
  obtain⟨X4,g4⟩: ∃ X,H4=H0++X:=by
   refine⟨[.lst [],.dct [],.lst (z0 H0.length)]++([.lst z1,.lst (z0 H0.length++z1)]++((y2++[.lst (z2 H2.length),.lst (z0 H0.length++z1++z2 H2.length)])++[.lst z3,.lst (z0 H0.length++z1++z2 H2.length++z3)])),?_⟩;rw[<- h4,<- h3,<- h2,<- h1];simp only[SY]
  have go: ∀{r:RV Fl},Mq (run pg (j+2)) [fv (.ref 1),fv x,fv (.ref (H3.length+1))] H4=r->gO (run pg (j+2)) [fv (.ref 1),fv x,SU] H0=r:=λe=>by
   show ah Qz PU _ _ _=_;exact(aA s0).trans ((aA s1).trans ((aA s2).trans ((aA s3).trans e)))
  have th:Tz b H4 x:=g4 ▸ t.gr X4;have nM:Lv (run pg (j+2)) [fv (.ref 1),fv x,fv (.ref (H3.length+1))] H4= .ok (.nx [fv (.ref 1),fv x,fv (.ref (H3.length+1))]) H4-> ∃(X:PH)(n:Nat)(zs:List PV),(H0++X)[n]?=fv (.lst zs)/\0 < zs.length/\zs.length<=1000/\(∀ z∈zs,Tz (2*b) (H0++X) z)/\ ∀ r:RV Fl,Mh (run pg (j+2)) [fv (.ref 1),fv x,fv (.ref n)] (H0++X)=r->gO (run pg (j+2)) [fv (.ref 1),fv x,SU] H0=r:=λs4 =>
   ⟨X4,H3.length+1,_,g4 ▸ e4,(by show 0 < 41;omega),(by show 41<=1000;omega),(λz m=>g4 ▸ t4 z m),λr e=>go ((aA s4).trans (g4 ▸ e))⟩
  cases th with
  | box n a=>exact nM (by simp? [Lv,(bo a).1])
  | tup ts l a =>
   have s4:=JN (c:=run pg (j+2)) (s:=fv (.ref 1)) (ts:=ts) e4 (by show 41<=1000;omega) (by omega)
   refine⟨X4++[.lst ts,.lst (z4 H4.length ts),.lst (z0 H0.length++z1++z2 H2.length++z3++z4 H4.length ts)],H4.length+2,z0 H0.length++z1++z2 H2.length++z3++z4 H4.length ts,?_,(by show 0 < 48;omega),(by show 48<=1000;omega),λz m=>?_,λr e=>go ((aA s4).trans ?_)⟩
   . rw[<- SY,<- g4,aw];rfl
   . rw[<- SY,<- g4];rcases Tt.mp m with m | m
     . exact(t4 z m).gr _
     . exact MB _ b3 (.tup ts l a) z m
   . rw[<- SY,<- g4] at e;exact e
  | _=>exact nM (by simp? [Lv,dE,dB,c9,dA])
 obtain⟨X,n,zs,e,l0,l9,tz,go⟩:=pre;subst hH;obtain⟨v,ev,tv⟩:=HE T j hn k o (g++X) k0 k9 (x:=x) e l0 l9 tz;obtain⟨g',eg,tg⟩:=leave (k:=k) (o:=o) tv;refine⟨v,g',?_,tg⟩;rw[run_eq T.uz rfl];exact(congrArg (fin _) (go _ ev)).trans (by rw[cx];exact eg)
end
def xl:MS:=(bC (eJ (ao (eB aP (aa (ae 1) (aa (eC (.ty "tuple")) ag)))) (eJ (ao (ai pG (eB aO (a1 (ae 1))) (eI 0))) (eJ (ao (ai qA (ae 2) (eI 7))) (ao (ai pG (af "_law_pick" (a2 (ae 0) (eI 4))) (eI 0)))))) (ah (ay (af "_law_pick" (aa (ae 0) (aa (eB aO (a1 (ae 1))) ag))) (gN 3)) (ah (ay (af "_law_bent" (aa (ae 0) (aa (ai aW (ae 1) (ae 3)) (aa (ai ak (ae 2) (eI 1)) ag)))) (gN 4)) (av (ai ak (ai ak (dR (ae 1) aR (aK (ae 3))) (au (a1 (ae 4)))) (dR (ae 1) (aK (ai ak (ae 3) (eI 1))) aR))))) bz)
def Qf:MS:=(av (af "_law_odd" (a2 (ae 0) (ae 1))))
def Qy:MS:=Qf
section
variable{pg:Tb}(T:cv pg)
include T
theorem AH(j:Nat){ns:List Int}(hn:ns.length<=63)(k:Int)(o:Option Int)(g:PH)(k0:0<=k)(k9:k < 1000000){b:Nat}(b3:3<=b)(b9:b<=5000){x:PV}(t:Tz b (aG ns::aF k o::g) x)(d u v:Option PV): ∃(w:PV)(g':PH),Qf (run pg (j+3)) [fv (.ref 1),fv x,d,u,v] (aG ns::aF k o::g)= .ok (.rt w) (aG ns::aF (k+1) o::(g++g'))/\Tz (2*b) (aG ns::aF (k+1) o::(g++g')) w:=by
 obtain⟨w,g',e,tw⟩:=BR T j hn k o g k0 k9 b3 b9 t;exact⟨w,g',by simp? [Qf,e],tw⟩
theorem E7: ∀(d j:Nat){ns:List Int}(_:ns.length<=63)(k:Int)(o:Option Int)(g:PH)(deep:Int),deep+d=7->0<=k->k+3*d+3 < 1000000-> ∀{b:Nat},3<=b->b<=5000-> ∀{x:PV},Tz b (aG ns::aF k o::g) x-> ∃(v:PV)(g':PH)(k':Int),k<=k'/\k'<=k+3*d+3/\run pg (j+d+4) "_law_bent" [.ref 1,x,.int deep] (aG ns::aF k o::g)= .ok v (aG ns::aF k' o::(g++g'))/\Tz (2*b) (aG ns::aF k' o::(g++g')) v:=by
 intro d
 induction d with
 | zero =>
  intro j ns hn k o g deep hd k0 k9 b b3 b9 x t
  have nd: ¬ deep < 7:=by omega
  obtain⟨w,g',e,tw⟩:=AH T j hn k o g k0 (by omega) b3 b9 t (fv (.int deep)) SU SU
  obtain⟨g2,eg,tg⟩:=leave (k:=k) (o:=o) tw
  refine⟨w,g2,k+1,by omega,by omega,?_,tg⟩
  have s0:xl (run pg (j+3)) [fv (.ref 1),fv x,fv (.int deep),SU,SU] (aG ns::aF k o::g)= .ok (.nx [fv (.ref 1),fv x,fv (.int deep),SU,SU]) (aG ns::aF k o::g):=by
   cases t with
   | box n a=>simp? [xl,(bo a).1]
   | tup ts l a =>
    by_cases z:(0:Int) < (ts.length:Int)
    . simp? [xl,aJ,z,nd]
    . simp? [xl,aJ,z]
   | _=>simp? [xl,dE,dB,c9,dA]
  rw[run_eq T.lF rfl]
  exact(congrArg (fin _) ((aA s0).trans e)).trans (by rw[cx];exact eg)
 | succ d ih =>
  intro j ns hn k o g deep hd k0 k9 b b3 b9 x t
  have yd:deep < 7:=by omega
  rw[show j+(d+1)+4=(j+d+4)+1 by omega,run_eq T.lF rfl]
  have plain: ∀ k1:Int,k<=k1->k1<=k+1->xl (run pg (j+d+4)) [fv (.ref 1),fv x,fv (.int deep),SU,SU] (aG ns::aF k o::g)= .ok (.nx [fv (.ref 1),fv x,fv (.int deep),SU,SU]) (aG ns::aF k1 o::g)-> ∃(v:PV)(g':PH)(k':Int),k<=k'/\k'<=k+3*(d+1:Nat)+3/\fin (aG ns::aF k o::g) (lH (run pg (j+d+4)) [fv (.ref 1),fv x,fv (.int deep),SU,SU] (aG ns::aF k o::g))= .ok v (aG ns::aF k' o::(g++g'))/\Tz (2*b) (aG ns::aF k' o::(g++g')) v:=λk1 l1 l2 s0=>by
   obtain⟨w,g',e,tw⟩:=AH T (j+d+1) hn k1 o g (by omega) (by omega) b3 b9 (t.st (k':=k1) (o':=o)) (fv (.int deep)) SU SU;obtain⟨g2,eg,tg⟩:=leave (k:=k) (o:=o) tw;exact⟨w,g2,k1+1,by omega,by omega,(congrArg (fin _) ((aA s0).trans e)).trans (by rw[cx];exact eg),tg⟩
  cases t with
  | box n a=>exact plain k (by omega) (by omega) (by simp? [xl,(bo a).1])
  | tup ts l a =>
   by_cases z:(0:Int) < (ts.length:Int)
   . obtain⟨c,c0,c1,ec⟩:=bg T (j+d+2) g hn o (k:=k) 4 k0 (by omega) (by decide) (by decide);by_cases y:(0:Int) < c
     . obtain⟨i0,i0',i1,ei⟩:=bg T (j+d+2) g hn o (k:=k+1) ts.length (by omega) (by omega) (by omega) (by omega);obtain⟨i,rfl⟩:=Vh i0';have hi:i < ts.length:=by omega
       have ei':run pg (j+d+4) "_law_pick" [.ref 1,.int ts.length] (aG ns::aF (k+1) o::g)= .ok (.int (i:Int)) (aG ns::aF (k+1+1) o::g):=ei;obtain⟨v,g',k',q1,q2,q3,q4⟩:=ih j hn (k+1+1) o g (deep+1) (by omega) (by omega) (by omega) b3 b9 ((a ts[i] (VI hi)).st (k':=k+1+1) (o':=o));have ix: ∀ h,aW (.tup ts) (.int (i:Int)) h= .ok ts[i] h:=λh=>MN (P3.cT rfl (TN hi));have c1':bV ts SU (fv (i:Int))=ts.take i:=by rw[P3.jD (by omega)];rfl
       have c2':bV ts (fv ((i:Int)+1)) SU=ts.drop (i+1):=by rw[P3.fT (by omega)];congr 1
       have a1': ∀ h,ak (.tup (ts.take i)) (.tup [v]) h= .ok (.tup (ts.take i++[v])) h:=λh=>bX (by simp only[TL,S2,Tj];omega);have a2': ∀ h,ak (.tup (ts.take i++[v])) (.tup (ts.drop (i+1))) h= .ok (.tup (ts.take i++[v]++ts.drop (i+1))) h:=λh=>bX (by simp only[TL,S1,Uj,S2,Tj];omega);have tv:Tz (2*b) (aG ns::aF k' o::(g++g')) (.tup (ts.take i++[v]++ts.drop (i+1))):=by
        have old: ∀ z∈ts,Tz (2*b) (aG ns::aF k' o::(g++g')) z:=λz m=>((a z m).st (k':=k') (o':=o)).mono (by omega) (uw g');refine .tup _ (by simp only[TL,S1,Uj,S2,Tj];omega) λz m=>?_;rcases Tt.mp m with m | m
        . rcases Tt.mp m with m | m
          . exact old z (UJ m)
          . rw[TY.mp m];exact q4
        . exact old z (Vz m)
       obtain⟨g2,eg,tg⟩:=leave (k:=k) (o:=o) tv;refine⟨_,g2,k',by omega,by omega,?_,tg⟩;refine(congrArg (fin _) (?_:_=RV.ok (Fl.rt (.tup (ts.take i++[v]++ts.drop (i+1)))) (aG ns::aF k' o::(g++g')))).trans (by rw[cx];exact eg);have B:xl (run pg (j+d+4)) [fv (.ref 1),fv (.tup ts),fv (.int deep),SU,SU] (aG ns::aF k o::g)= .ok (.rt (.tup (ts.take i++[v]++ts.drop (i+1)))) (aG ns::aF k' o::(g++g')):=by
        simp? [xl,aJ,z,yd,ec,y,ei',ix,q3,c1',c2',a1',a2']
       have C:ah xl Qy (run pg (j+d+4)) [fv (.ref 1),fv (.tup ts),fv (.int deep),SU,SU] (aG ns::aF k o::g)= .ok (.rt (.tup (ts.take i++[v]++ts.drop (i+1)))) (aG ns::aF k' o::(g++g')):=by rw[jJ,B,bj,iW]
       exact C
     . exact plain (k+1) (by omega) (by omega) (by simp? [xl,aJ,z,yd,ec,y])
   . exact plain k (by omega) (by omega) (by simp? [xl,aJ,z])
  | _=>exact plain k (by omega) (by omega) (by simp? [xl,dE,dB,c9,dA])
end
def P9:MS:=(ay (af "_law_pick" (a2 (ae 0) (eI 11))) (gN 2))
def Pl:MS:=(ay (dw 1 (cU (eX 1 0)) (gN 11) ax (eX 11 0)) (gN 3))
def O0:MS:=(ay (ai ak (ae 3) (eB dN (aa (ai ak (ai ak (eX 1 1) (eX 1 2)) (eX 1 3)) ag))) (gN 3))
def OW:MS:=(ay (ai ak (ae 3) (dw 1 (cU (dR (eX 1 4) (aK (eI 1)) aR)) (gN 11) ax (eX 11 0))) (gN 3))
def OF:MS:=(bC (mQ (ae 2) (eI 10)) (ah (ay (eB cN (aa (dw 1 (cU (dR (aC (aa (eS "xa") (aa (eS "xb") (a3 (eS "xc") (eS "xd") (eS "xe"))))) aR (aK (ai ak (eI 4) (af "_law_pick" (a2 (ae 0) (eI 2))))))) (gN 11) ax (au (a2 (ae 11) (eI 0)))) ag)) (gN 4)) (av (ai ak (au (a1 (ae 4))) (dR (ae 1) (aK (eI 1)) aR)))) bz)
def Lc:MS:=(bC (eJ (ao (ai pG (ae 2) (eI 7))) (ao (ai i8 (ae 3) (aC ag)))) (ah (ay (ai aW (ae 3) (af "_law_pick" (aa (ae 0) (aa (eB aO (a1 (ae 3))) ag)))) (gN 5)) (ah (ay (aC (aa (au (a2 (eS "take") (ae 5))) (aa (au (a3 (eS "get") (eS "a") (ae 5))) (aa (au (aa (eS "send") (aa (ae 5) (aa (au (a2 (eS "num") (eI 1))) ag)))) (aa (au (aa (eS "say") (aa (ae 5) (aa (au (a2 (eS "num") (eI 1))) ag)))) ag))))) (gN 6)) (ah (ay (au (aa (ai aW (ai aW (eX 1 4) (eI 0)) (eI 0)) (aa (au (aa (ai aW (ae 6) (af "_law_pick" (a2 (ae 0) (eI 4)))) ag)) ag))) (gN 7)) (av (ai ak (dR (ae 1) aR (aK (eI 4))) (au (aa (ai ak (au (a1 (ae 7))) (dR (eX 1 4) (aK (eI 1)) aR)) ag))))))) bz)
def Ha:MS:=(bC (eJ (ao (ai pG (ae 2) (eI 5))) (ao (ai i8 (ae 3) (aC ag)))) (ah (ay (ai aW (ae 3) (af "_law_pick" (aa (ae 0) (aa (eB aO (a1 (ae 3))) ag)))) (gN 5)) (av (ai ak (dR (ae 1) aR (aK (eI 4))) (au (aa (ai ak (dR (eX 1 4) (aK (eI 1)) aR) (au (aa (au (a2 (ae 5) (au ag))) ag))) ag))))) bz)
def K2:MS:=(bC (ao (ai qA (ae 2) (eI 3))) (ah (ay (eB cN (aa (dR (aC (aa (eS "xa") (aa (eS "xb") (a3 (eS "xc") (eS "xd") (eS "xe"))))) aR (aK (ai ak (eI 4) (af "_law_pick" (a2 (ae 0) (eI 2)))))) ag)) (gN 8)) (av (ai ak (ai ak (dR (ae 1) aR (aK (ai ak (ae 2) (eI 1)))) (au (a1 (ae 8)))) (dR (ae 1) (aK (ai ak (ae 2) (eI 2))) aR)))) bz)
def Qe:MS:=(ay (ai aW (eX 1 4) (eI 0)) (gN 9))
def NC:MS:=(bC (mQ (ae 2) (eI 3)) (av (ai ak (dR (ae 1) aR (aK (eI 4))) (au (aa (au (aa (eX 9 0) (aa (ai gf (au (aa (au (a2 (eS "clock") (eS "a"))) ag)) (ai ak (eI 30) (af "_law_pick" (a2 (ae 0) (eI 2))))) ag))) ag)))) bz)
def Ar:MS:=(bC (mQ (ae 2) (eI 4)) (ah (ay (eB cN (aa (dw 1 (cU (dR (aC (aa (eS "xa") (aa (eS "xb") (a3 (eS "xc") (eS "xd") (eS "xe"))))) aR (aK (ai ak (eI 4) (af "_law_pick" (a2 (ae 0) (eI 2))))))) (gN 11) ax (au (a2 (ae 11) (au ag)))) ag)) (gN 7)) (av (ai ak (dR (ae 1) aR (aK (eI 4))) (au (a1 (ae 7)))))) bz)
def NG:MS:=(ay (au (aa (eS "leap") (aa (ai ak (eI 2) (af "_law_pick" (a2 (ae 0) (eI 2)))) (aa (au (a2 (eS "num") (eI 1))) ag)))) (gN 10))
def NF:MS:=(av (ai ak (dR (ae 1) aR (aK (eI 4))) (au (aa (au (aa (au (aa (eX 9 0) (aa (au (aa (ae 10) (aa (au (a2 (eS "clock") (eS "a"))) ag))) ag))) ag)) ag))))
def Fs:MS:=NF
def BK:MS:=ah NG Fs
def N6:MS:=ah Ar BK
def QC:MS:=ah NC N6
def Qg:MS:=ah Qe QC
def ML:MS:=ah K2 Qg
def Qm:MS:=ah Ha ML
def PK:MS:=ah Lc Qm
def NV:MS:=ah OF PK
def Bn.th(p:Bn):List Str:=p.b.map (·.1)++(p.l++p.n++p.d)++(p.a.drop 1).map (·.1)
theorem J0{c:CF}{h:PH}{s w:Option PV}(p:Bn)(pf:p.fC): ∃ X n,(h++X)[n]?=fv (.lst (p.th.map PV.str))/\ ∀ rest,ah Pl (ah O0 (ah OW rest)) c [s,fv p.v,w,SU,SU,SU,SU,SU,SU,SU,SU] h=rest c [s,fv p.v,w,fv (.ref n),SU,SU,SU,SU,SU,SU,SU] (h++X):=by
 obtain⟨f0,f1,f2,f3,f4⟩:=pf;generalize hB:(p.b.map (·.1)).map PV.str=B
 have B4:B.length<=4:=by rw[<- hB,SX,SX];exact f0
 generalize hM:(p.l++p.n++p.d).map PV.str=M;have M12:M.length<=12:=by rw[<- hM,SX];simp only[S1];omega
 generalize hA:((p.a.drop 1).map (·.1)).map PV.str=A
 have A4:A.length<=4:=by rw[<- hA,SX,SX,Uj];omega
 have i0: ∀ h,aW p.v (.int 0) h= .ok (.tup (p.b.map pr)) h:=λh=>by unfold Bn.v;exact zo
 have i1: ∀ h,aW p.v (.int 1) h= .ok (.tup (p.l.map PV.str)) h:=λh=>by unfold Bn.v;exact yp
 have i2: ∀ h,aW p.v (.int 2) h= .ok (.tup (p.n.map PV.str)) h:=λh=>by unfold Bn.v;exact Dm
 have i3: ∀ h,aW p.v (.int 3) h= .ok (.tup (p.d.map PV.str)) h:=λh=>by unfold Bn.v;exact CH
 have i4: ∀ h,aW p.v (.int 4) h= .ok (.tup (p.a.map pr)) h:=λh=>by unfold Bn.v;exact rM
 have s1:Pl c [s,fv p.v,w,SU,SU,SU,SU,SU,SU,SU,SU] h= .ok (.nx [s,fv p.v,w,fv (.ref h.length),SU,SU,SU,SU,SU,SU,SU]) (h++[.lst B]):=by
  have lB: ∀ h,P3.eW ⟨SU,p.b.map pr⟩ (aY 1 (gN 11) ax (eX 11 0) c [s,fv p.v,w,SU,SU,SU,SU,SU,SU,SU,SU]) (p.b.map pr) [] h= .ok B h:=λh=>hB ▸ kC rfl rfl (by omega);simp? [Pl,i0,lB]
 have s2:O0 c [s,fv p.v,w,fv (.ref h.length),SU,SU,SU,SU,SU,SU,SU] (h++[.lst B])= .ok (.nx [s,fv p.v,w,fv (.ref (h.length+2)),SU,SU,SU,SU,SU,SU,SU]) (h++[.lst B,.lst M,.lst (B++M)]):=by
  have a1': ∀ h,ak (.tup (p.l.map PV.str)) (.tup (p.n.map PV.str)) h= .ok (.tup ((p.l++p.n).map PV.str)) h:=λh=>by
   rw[bX (by simp only[SX];omega),UM]
  have a2': ∀ h,ak (.tup ((p.l++p.n).map PV.str)) (.tup (p.d.map PV.str)) h= .ok (.tup M) h:=λh=>by
   rw[bX (by simp only[SX,S1];omega),<- UM,hM]
  have ad:ak (.ref h.length) (.ref (h.length+1)) (h++[.lst B,.lst M])= .ok (.ref (h.length+2)) (h++[.lst B,.lst M,.lst (B++M)]):=by
   refine(cF (xs:=B) (ys:=M) aI (by rw[aw];rfl) (by omega)).trans ?_;rw[S1,SY];rfl
  simp? [O0,i1,i2,i3,a1',a2'];exact(congrArg (λr=>RV.bind r (tR (gN 3) _)) ad).trans rfl
 have s3:OW c [s,fv p.v,w,fv (.ref (h.length+2)),SU,SU,SU,SU,SU,SU,SU] (h++[.lst B,.lst M,.lst (B++M)])= .ok (.nx [s,fv p.v,w,fv (.ref (h.length+4)),SU,SU,SU,SU,SU,SU,SU]) (h++[.lst B,.lst M,.lst (B++M),.lst A,.lst (B++M++A)]):=by
  have cu:bV (p.a.map pr) (fv 1) SU=(p.a.drop 1).map pr:=by rw[P3.fT (by decide),Zg];rfl
  have lA: ∀ h',P3.eW ⟨SU,(p.a.drop 1).map pr⟩ (aY 1 (gN 11) ax (eX 11 0) c [s,fv p.v,w,fv (.ref (h.length+2)),SU,SU,SU,SU,SU,SU,SU]) ((p.a.drop 1).map pr) [] h'= .ok A h':=λh'=>hA ▸ kC rfl rfl (by rw[Uj];omega);have ad:ak (.ref (h.length+2)) (.ref (h.length+3)) (h++[.lst B,.lst M,.lst (B++M),.lst A])= .ok (.ref (h.length+4)) (h++[.lst B,.lst M,.lst (B++M),.lst A,.lst (B++M++A)]):=by
   refine(cF (xs:=B++M) (ys:=A) (by rw[aw];rfl) (by rw[aw];rfl) (by rw[S1];omega)).trans ?_;rw[S1,SY h];rfl
  simp? [OW,i4,cu,lA];refine(congrArg (λr=>RV.bind r (tR (gN 3) _)) ad).trans ?_;simp only[SY];rfl
 refine⟨[.lst B,.lst M,.lst (B++M),.lst A,.lst (B++M++A)],h.length+4,?_,λrest=>(aA s1).trans ((aA s2).trans (aA s3))⟩;rw[aw,Bn.th,UM,UM,hB,hM,hA];rfl
noncomputable def Sd:List Str:=["xa", "xb", "xc", "xd", "xe"]
theorem qc{v:Int}(h0:0<=v)(h1:v < 2): ∃ ss:List Str,bV [.str "xa",.str "xb",.str "xc",.str "xd",.str "xe"] SU (fv (4+v))=ss.map PV.str∧(∀ x∈ss,bR x)∧ss.length<=5:=by
 have k: ∀ x∈Sd,bR x:=by unfold bR;decide +kernel
 refine ⟨Sd.take (4+v).toNat,?_,λx m=>k x (UJ m),by rw [TL];show min _ 5<=5;omega⟩;rw[P3.jD (by omega),Zh];rfl
theorem ka{x0 x1 x2 x3 x4:PV}:bV [x0,x1,x2,x3,x4] SU (fv 4)=[x0,x1,x2,x3]:=by rw[P3.jD (by decide)];rfl
section
variable{pg:Tb}(T:cv pg)
include T
theorem Hc(j:Nat){ns:List Int}(hn:ns.length<=63)(k:Int)(o:Option Int)(G:PH)(k0:0<=k)(k9:k < 1000000)(p:Bn)(n:Nat): ∃(ss:List Str)(X:PH),(∀ x∈ss,bR x)/\ss.length<=5/\OF (run pg (j+2)) [fv (.ref 1),fv p.v,fv (.int 10),fv (.ref n),SU,SU,SU,SU,SU,SU,SU] (aG ns::aF k o::G)= .ok (.rt (.tup [.tup (ss.map λx=> .tup [.str x,.int 0]),.tup (p.l.map PV.str),.tup (p.n.map PV.str),.tup (p.d.map PV.str),.tup (p.a.map pr)])) (aG ns::aF (k+1) o::(G++X)):=by
 obtain⟨a,a0,a1',ea⟩:=bg T j (G++[.lst [.str "xa",.str "xb",.str "xc",.str "xd",.str "xe"]]) hn o (k:=k) 2 k0 k9 (by decide) (by decide);obtain⟨ss,es,hs,l5⟩:=qc a0 a1';have lc: ∀ E H m,(aG ns::aF (k+1) o::H)[m]?=fv (.lst (ss.map PV.str))->E.length=11->P3.eW ⟨fv m,ss.map PV.str⟩ (aY 1 (gN 11) ax (au (a2 (ae 11) (eI 0))) (run pg (j+2)) E) (ss.map PV.str) [] (aG ns::aF (k+1) o::H)= .ok (ss.map λx=> .tup [.str x,.int 0]) (aG ns::aF (k+1) o::H):=λE H m em hE=>by
  refine(cP (α :=Str) (eY em) ss [] (f:=λx=>fv (.tup [.str x,.int 0])) (λx _=>?_) (by simp only[Tj];omega)).trans ?_
  . have e1:(E++S4 1 SU).set 11 (fv (.str x))=E++[fv (.str x)]:=by
     rw[<- hE];simp[S4]
    have e2:(E++[fv (PV.str x)])[11]?=fv (fv (.str x)):=by rw[<- hE];simp
    rw[p6,gy,e1];simp? [e2]
  . rw[TB,TJ]
 refine⟨ss,[.lst [.str "xa",.str "xb",.str "xc",.str "xd",.str "xe"],.lst (ss.map PV.str),.lst (ss.map λx=> .tup [.str x,.int 0])],hs,l5,?_⟩;have lc':=lc [fv (.ref 1),fv p.v,fv (.int 10),fv (.ref n),SU,SU,SU,SU,SU,SU,SU] (G++[.lst [.str "xa",.str "xb",.str "xc",.str "xd",.str "xe"],.lst (ss.map PV.str)]) (G.length+(0+1)+1+1) (by rw[Ut,Ut,aw];rfl) rfl;have ad: ∀ h,ak (.tup [.tup (ss.map λx=> .tup [.str x,.int 0])]) (.tup [.tup (p.l.map PV.str),.tup (p.n.map PV.str),.tup (p.d.map PV.str),.tup (p.a.map pr)]) h= .ok (.tup [.tup (ss.map λx=> .tup [.str x,.int 0]),.tup (p.l.map PV.str),.tup (p.n.map PV.str),.tup (p.d.map PV.str),.tup (p.a.map pr)]) h:=λh=>bX (show 1+4<=16777216 by decide);have l5':(ss.map λx=>PV.tup [.str x,.int 0]).length<=16777216:=by rw[SX];omega
 unfold Bn.v at lc' ⊢;simp? [OF,ea,es,lc',uP,ad]
end
section
variable{pg:Tb}(T:cv pg)
include T
theorem C5(j:Nat){ns:List Int}(hn:ns.length<=63)(k:Int)(o:Option Int)(G:PH)(k0:0<=k)(k9:k < 1000000)(x0 x1 x2 x3 x4:PV)(q:Str × PV)(w u:Option PV): ∃ a:Int,0<=a/\a < 2/\BK (run pg (j+2)) [fv (.ref 1),fv (.tup [x0,x1,x2,x3,x4]),w,u,SU,SU,SU,SU,SU,fv (pr q),SU] (aG ns::aF k o::G)= .ok (.rt (.tup [x0,x1,x2,x3,.tup [.tup [.str q.1,.tup [.tup [.str "leap",.int (2+a),.tup [.str "num",.int 1]],.tup [.str "clock",.str "a"]]]]])) (aG ns::aF (k+1) o::G):=by
 obtain⟨a,a0,a1',ea⟩:=bg T j G hn o (k:=k) 2 k0 k9 (by decide) (by decide);refine⟨a,a0,a1',?_⟩;have ad: ∀(y:PV) h,ak (.tup [x0,x1,x2,x3]) (.tup [y]) h= .ok (.tup [x0,x1,x2,x3,y]) h:=λy h=>bX (show 4+1<=16777216 by decide);simp? [BK,Fs,NG,NF,ea,ka,pr,ad]
theorem K7(j:Nat){ns:List Int}(hn:ns.length<=63)(k:Int)(o:Option Int)(G:PH)(k0:0<=k)(k9:k < 1000000)(x0 x1 x2 x3 x4:PV)(q:Str × PV)(u:Option PV): ∃ a:Int,0<=a/\a < 2/\NC (run pg (j+2)) [fv (.ref 1),fv (.tup [x0,x1,x2,x3,x4]),fv (.int 3),u,SU,SU,SU,SU,SU,fv (pr q),SU] (aG ns::aF k o::G)= .ok (.rt (.tup [x0,x1,x2,x3,.tup [.str q.1,.tup (S4 (30+a).toNat [PV.tup [.str "clock",.str "a"]]).flatten]])) (aG ns::aF (k+1) o::G):=by
 obtain⟨a,a0,a1',ea⟩:=bg T j G hn o (k:=k) 2 k0 k9 (by decide) (by decide);refine⟨a,a0,a1',?_⟩;have ad: ∀(y:PV) h,ak (.tup [x0,x1,x2,x3]) (.tup [y]) h= .ok (.tup [x0,x1,x2,x3,y]) h:=λy h=>bX (show 4+1<=16777216 by decide);have mu: ∀(y:PV) h,gf (.tup [y]) (.int (30+a)) h= .ok (.tup (S4 (30+a).toNat [y]).flatten) h:=λy h=>wu ⟨by show(1:Int)*_<=_;omega,by omega,by omega⟩;simp? [NC,ea,ka,pr,ad,mu]
end
section
variable{pg:Tb}(T:cv pg)
include T
theorem HI(j:Nat){ns:List Int}(hn:ns.length<=63)(k:Int)(o:Option Int)(G:PH)(k0:0<=k)(k9:k < 1000000)(x0 x1 x2 x3:PV){qs:List PV}(lq:qs.length<=100){y:PV}{w:Int}(hw:5 < w){n:Nat}{ss:List Str}(en:G[n]?=fv (.lst (ss.map PV.str)))(s0:ss≠[])(l9:ss.length<=100)(ok: ∀ x∈ss,TZ x=true): ∃(x:Str)(X:PH),x∈ss/\Ha (run pg (j+2)) [fv (.ref 1),fv (.tup [x0,x1,x2,x3,.tup (y::qs)]),fv (.int w),fv (.ref (n+1+1)),SU,SU,SU,SU,SU,SU,SU] (aG ns::aF k o::G)= .ok (.rt (.tup [x0,x1,x2,x3,.tup (qs++[.tup [.str x,.tup []]])])) (aG ns::aF (k+1) o::(G++X)):=by
 have p0:=Wc.mpr s0;obtain⟨a,a0,a1',ea⟩:=bg T j (G++[.lst []]) hn o (k:=k) ss.length k0 k9 (by omega) (by omega);obtain⟨x,mx,ex⟩:=gZ a0 a1';have en':(G++[.lst []])[n]?=fv (.lst (ss.map PV.str)):=cm en;have ne:=ne_nil (h:=aG ns::aF k o::(G++[PO.lst []])) (n:=n+1+1) (m:=G.length+1+1) (ss:=ss) en' (show(G++[PO.lst []])[G.length]?=fv (.lst []) from aI) ok;refine⟨x,[.lst []],mx,?_⟩;have ad: ∀(y:PV) h,ak (.tup [x0,x1,x2,x3]) (.tup [y]) h= .ok (.tup [x0,x1,x2,x3,y]) h:=λy h=>bX (show 4+1<=16777216 by decide);have a2': ∀(z:PV) h,ak (.tup qs) (.tup [z]) h= .ok (.tup (qs++[z])) h:=λz h=>bX (by show qs.length+1<=_;omega);simp? [Ha,hw,ne,s0,en',SX,ea,ex,ka,uP,ad,a2']
end
section
variable{pg:Tb}(T:cv pg)
include T
theorem Gz(j:Nat){ns:List Int}(hn:ns.length<=63)(k:Int)(o:Option Int)(G:PH)(k0:0<=k)(k9:k < 1000000)(x0 x1 x2 x3 x4:PV){w:Int}(w0:0<=w)(w3:w < 3)(u:Option PV): ∃(ss:List Str)(X:PH)(v:PV),(∀ x∈ss,bR x)/\ss.length<=5/\(v= .tup [x0,.tup (ss.map PV.str),x2,x3,x4]\/v= .tup [x0,x1,.tup (ss.map PV.str),x3,x4]\/v= .tup [x0,x1,x2,.tup (ss.map PV.str),x4])/\K2 (run pg (j+2)) [fv (.ref 1),fv (.tup [x0,x1,x2,x3,x4]),fv (.int w),u,SU,SU,SU,SU,SU,SU,SU] (aG ns::aF k o::G)= .ok (.rt v) (aG ns::aF (k+1) o::(G++X)):=by
 obtain⟨a,a0,a1',ea⟩:=bg T j (G++[.lst [.str "xa",.str "xb",.str "xc",.str "xd",.str "xe"]]) hn o (k:=k) 2 k0 k9 (by decide) (by decide);obtain⟨ss,es,hs,l5⟩:=qc a0 a1';have c1: ∀ m:Nat,bV [x0,x1,x2,x3,x4] SU (fv (m:Int))=[x0,x1,x2,x3,x4].take m:=λm=>by rw[P3.jD (by omega)];rfl
 have c2: ∀ m:Nat,bV [x0,x1,x2,x3,x4] (fv (m:Int)) SU=[x0,x1,x2,x3,x4].drop m:=λm=>by rw[P3.fT (by omega)];rfl
 have ad: ∀(xs ys:List PV) h,xs.length<=10->ys.length<=10->ak (.tup xs) (.tup ys) h= .ok (.tup (xs++ys)) h:=λxs ys h l1 l2=>bX (by omega);have:w=0\/w=1\/w=2:=by omega
 rcases this with rfl | rfl | rfl
 . have d1:bV [x0,x1,x2,x3,x4] SU (fv 1)=[x0]:=c1 1;have d2:bV [x0,x1,x2,x3,x4] (fv 2) SU=[x2,x3,x4]:=c2 2;refine⟨ss,[.lst [.str "xa",.str "xb",.str "xc",.str "xd",.str "xe"],.lst (ss.map PV.str)],_,hs,l5,.inl rfl,?_⟩;have e1: ∀ y h,ak (.tup [x0]) (.tup [y]) h= .ok (.tup [x0,y]) h:=λy h=>ad _ _ h (by simp) (by simp);have e2: ∀ y h,ak (.tup [x0,y]) (.tup [x2,x3,x4]) h= .ok (.tup [x0,y,x2,x3,x4]) h:=λy h=>ad _ _ h (by simp) (by simp);simp? [K2,ea,es,d1,d2,e1,e2]
 . have d1:bV [x0,x1,x2,x3,x4] SU (fv 2)=[x0,x1]:=c1 2;have d2:bV [x0,x1,x2,x3,x4] (fv 3) SU=[x3,x4]:=c2 3;refine⟨ss,[.lst [.str "xa",.str "xb",.str "xc",.str "xd",.str "xe"],.lst (ss.map PV.str)],_,hs,l5,.inr (.inl rfl),?_⟩;have e1: ∀ y h,ak (.tup [x0,x1]) (.tup [y]) h= .ok (.tup [x0,x1,y]) h:=λy h=>ad _ _ h (by simp) (by simp);have e2: ∀ y h,ak (.tup [x0,x1,y]) (.tup [x3,x4]) h= .ok (.tup [x0,x1,y,x3,x4]) h:=λy h=>ad _ _ h (by simp) (by simp);simp? [K2,ea,es,d1,d2,e1,e2]
 . have d1:bV [x0,x1,x2,x3,x4] SU (fv 3)=[x0,x1,x2]:=c1 3;have d2:bV [x0,x1,x2,x3,x4] (fv 4) SU=[x4]:=c2 4;refine⟨ss,[.lst [.str "xa",.str "xb",.str "xc",.str "xd",.str "xe"],.lst (ss.map PV.str)],_,hs,l5,.inr (.inr rfl),?_⟩;have e1: ∀ y h,ak (.tup [x0,x1,x2]) (.tup [y]) h= .ok (.tup [x0,x1,x2,y]) h:=λy h=>ad _ _ h (by simp) (by simp);have e2: ∀ y h,ak (.tup [x0,x1,x2,y]) (.tup [x4]) h= .ok (.tup [x0,x1,x2,y,x4]) h:=λy h=>ad _ _ h (by simp) (by simp);simp? [K2,ea,es,d1,d2,e1,e2]
end
section
variable{pg:Tb}(T:cv pg)
include T
theorem Dt(j:Nat){ns:List Int}(hn:ns.length<=63)(k:Int)(o:Option Int)(G:PH)(k0:0<=k)(k9:k < 1000000)(x0 x1 x2 x3 x4:PV)(u y9:Option PV): ∃(ss:List Str)(X:PH),(∀ x∈ss,bR x)/\ss.length<=5/\Ar (run pg (j+2)) [fv (.ref 1),fv (.tup [x0,x1,x2,x3,x4]),fv (.int 4),u,SU,SU,SU,SU,SU,y9,SU] (aG ns::aF k o::G)= .ok (.rt (.tup [x0,x1,x2,x3,.tup (ss.map λx=> .tup [.str x,.tup []])])) (aG ns::aF (k+1) o::(G++X)):=by
 obtain⟨a,a0,a1',ea⟩:=bg T j (G++[.lst [.str "xa",.str "xb",.str "xc",.str "xd",.str "xe"]]) hn o (k:=k) 2 k0 k9 (by decide) (by decide);obtain⟨ss,es,hs,l5⟩:=qc a0 a1';have lc: ∀ E H m,(aG ns::aF (k+1) o::H)[m]?=fv (.lst (ss.map PV.str))->E.length=11->P3.eW ⟨fv m,ss.map PV.str⟩ (aY 1 (gN 11) ax (au (a2 (ae 11) (au ag))) (run pg (j+2)) E) (ss.map PV.str) [] (aG ns::aF (k+1) o::H)= .ok (ss.map λx=> .tup [.str x,.tup []]) (aG ns::aF (k+1) o::H):=λE H m em hE=>by
  refine(cP (α :=Str) (eY em) ss [] (f:=λx=>fv (.tup [.str x,.tup []])) (λx _=>?_) (by simp only[Tj];omega)).trans ?_
  . have e1:(E++S4 1 SU).set 11 (fv (.str x))=E++[fv (.str x)]:=by
     rw[<- hE];simp[S4]
    have e2:(E++[fv (PV.str x)])[11]?=fv (fv (.str x)):=by rw[<- hE];simp
    rw[p6,gy,e1];simp? [e2]
  . rw[TB,TJ]
 refine⟨ss,[.lst [.str "xa",.str "xb",.str "xc",.str "xd",.str "xe"],.lst (ss.map PV.str),.lst (ss.map λx=> .tup [.str x,.tup []])],hs,l5,?_⟩;have lc':=lc [fv (.ref 1),fv (.tup [x0,x1,x2,x3,x4]),fv (.int 4),u,SU,SU,SU,SU,SU,y9,SU] (G++[.lst [.str "xa",.str "xb",.str "xc",.str "xd",.str "xe"],.lst (ss.map PV.str)]) (G.length+(0+1)+1+1) (by rw[Ut,Ut,aw];rfl) rfl;have ad: ∀(y:PV) h,ak (.tup [x0,x1,x2,x3]) (.tup [y]) h= .ok (.tup [x0,x1,x2,x3,y]) h:=λy h=>bX (show 4+1<=16777216 by decide);have l5':(ss.map λx=>PV.tup [.str x,.tup []]).length<=16777216:=by rw[SX];omega
 simp? [Ar,ea,es,lc',ka,ad]
end
theorem Mu{xs:List PV}{v:Int}(h0:0<=v)(h1:v < xs.length): ∃ x∈xs,fY xs v=fv x:=by
 obtain⟨n,en⟩:=Vh h0;subst en;have hn:n < xs.length:=by omega
 exact⟨xs[n],VI hn,P3.cT rfl (TN hn)⟩
noncomputable def nh(x:Str):List PV:=[.tup [.str "take",.str x],.tup [.str "get",.str "a",.str x],.tup [.str "send",.str x,.tup [.str "num",.int 1]],.tup [.str "say",.str x,.tup [.str "num",.int 1]]]
section
variable{pg:Tb}(T:cv pg)
include T
theorem Kc(j:Nat){ns:List Int}(hn:ns.length<=63)(k:Int)(o:Option Int)(G:PH)(k0:0<=k)(k9:k+1 < 1000000)(x0 x1 x2 x3:PV)(q:Str × PV){qs:List PV}(lq:qs.length<=100){w:Int}(hw:7 < w){n:Nat}{ss:List Str}(en:G[n]?=fv (.lst (ss.map PV.str)))(s0:ss≠[])(l9:ss.length<=100)(ok: ∀ x∈ss,TZ x=true): ∃(x:Str)(r:PV)(X:PH),x∈ss/\r∈nh x/\Lc (run pg (j+2)) [fv (.ref 1),fv (.tup [x0,x1,x2,x3,.tup (pr q::qs)]),fv (.int w),fv (.ref (n+1+1)),SU,SU,SU,SU,SU,SU,SU] (aG ns::aF k o::G)= .ok (.rt (.tup [x0,x1,x2,x3,.tup (.tup [.str q.1,.tup [r]]::qs)])) (aG ns::aF (k+1+1) o::(G++X)):=by
 have p0:=Wc.mpr s0;obtain⟨a,a0,a1',ea⟩:=bg T j (G++[.lst []]) hn o (k:=k) ss.length k0 (by omega) (by omega) (by omega);obtain⟨x,mx,ex⟩:=gZ a0 a1';obtain⟨b,b0,b1,eb⟩:=bg T j (G++[.lst [],.lst (nh x)]) hn o (k:=k+1) 4 (by omega) (by omega) (by omega) (by omega);obtain⟨r,mr,er⟩:=Mu (xs:=nh x) b0 b1;have en':(G++[.lst []])[n]?=fv (.lst (ss.map PV.str)):=cm en;have ne:=ne_nil (h:=aG ns::aF k o::(G++[PO.lst []])) (n:=n+1+1) (m:=G.length+1+1) (ss:=ss) en' (show(G++[PO.lst []])[G.length]?=fv (.lst []) from aI) ok;refine⟨x,r,[.lst [],.lst (nh x)],mx,mr,?_⟩;have ad: ∀(y:PV) h,ak (.tup [x0,x1,x2,x3]) (.tup [y]) h= .ok (.tup [x0,x1,x2,x3,y]) h:=λy h=>bX (show 4+1<=16777216 by decide);have a2': ∀(z:PV) h,ak (.tup [z]) (.tup qs) h= .ok (.tup (z::qs)) h:=λz h=>bX (by show 1+qs.length<=_;omega);unfold nh at eb er ⊢;simp? [Lc,hw,ne,s0,en',SX,ea,ex,eb,er,ka,uP,pr,ad,a2']
end
theorem Tz.low{b:Nat}{x:PV}(t:Tz b [] x):x.flat=true:=by
 have fl: ∀ xs:List PV,(∀ x∈xs,x.flat=true)->PV.du xs=true:=λxs=>by
  induction xs with
  | nil=>exact λ_=>rfl
  | cons y r ih=>exact λh=>by rw[PV.du,h y S8,ih λz m=>h z (S9 _ m)];rfl
 induction t with
 | tup xs l _ ih=>rw[PV.flat];exact fl xs ih
 | box n a=>nomatch a
 | _=>rfl
theorem Tz.ins{b:Nat}{h:PH}{xs:List PV}(t:Tz b h (.tup xs)):xs.length<=b/\ ∀ x∈xs,Tz b h x:=by
 cases t with
 | tup _ l a=>exact⟨l,a⟩
theorem Tz.MK{b:Nat}{h:PH}{s:Str}(t:Tz b h (.str s)):TZ s=true:=by
 cases t with
 | str _ o=>rw[Td] at o;exact o.2
theorem De{h:PH}{a b c d e:PV}(ha:Tz 31 h a)(hb:Tz 31 h b)(hc:Tz 31 h c)(hd:Tz 31 h d)(he:Tz 31 h e):Tz 31 h (.tup [a,b,c,d,e]):= .tup _ (by simp) (by simp only[S6];exact⟨ha,hb,hc,hd,he,λ_ m=>nomatch m⟩)
structure Bn.SH(p:Bn)(h:PH):Prop where
 x0:Tz 31 h (.tup (p.b.map pr))
 x1:Tz 31 h (.tup (p.l.map PV.str))
 x2:Tz 31 h (.tup (p.n.map PV.str))
 x3:Tz 31 h (.tup (p.d.map PV.str))
 x4:Tz 31 h (.tup (p.a.map pr))
 th: ∀ s∈p.th,Tz 31 h (.str s)
theorem Bn.SF{p:Bn}{h:PH}(t:Tz 31 h p.v):p.SH h:=by
 obtain⟨_,a⟩:=Tz.ins (show Tz 31 h (.tup [.tup (p.b.map pr),.tup (p.l.map PV.str),.tup (p.n.map PV.str),.tup (p.d.map PV.str),.tup (p.a.map pr)]) from t);simp only[S6] at a;obtain⟨x0,x1,x2,x3,x4,_⟩:=a;have f1: ∀ q:Str × PV,Tz 31 h (pr q)->Tz 31 h (.str q.1):=λq t=>(Tz.ins (show Tz 31 h (.tup [.str q.1,q.2]) from t)).2 _ S8;refine⟨x0,x1,x2,x3,x4,λs m=>?_⟩;unfold Bn.th at m;simp only[Tt] at m;rcases m with(m | (m | m) | m) | m
 . obtain⟨q,mq,rfl⟩:=TR.mp m;exact f1 q (x0.ins.2 _ (T9 mq))
 . exact x1.ins.2 _ (T9 m)
 . exact x2.ins.2 _ (T9 m)
 . exact x3.ins.2 _ (T9 m)
 . obtain⟨q,mq,rfl⟩:=TR.mp m;exact f1 q (x4.ins.2 _ (T9 (Vz mq)))
theorem Dc{h:PH}{x:Str}(t:Tz 31 h (.str x)): ∀ r∈nh x,Tz 31 h r:=by
 have l: ∀(y:Str),(decide (y.length<=1000)&&TZ y)=true->Tz 31 h (.str y):=λy o=> .str y o;have one:Tz 31 h (.tup [.str "num",.int 1]):=cB (l _ (by decide +kernel)) (.int 1);unfold nh;simp only[S6];exact⟨cB (l _ (by decide +kernel)) t,cb (l _ (by decide +kernel)) (l _ (by decide +kernel)) t,cb (l _ (by decide +kernel)) t one,cb (l _ (by decide +kernel)) t one,λ_ m=>nomatch m⟩
section
variable{pg:Tb}(T:cv pg)
include T
theorem E2(j:Nat){ns:List Int}(hn:ns.length<=63)(k:Int)(o:Option Int)(g:PH)(k0:0<=k)(k9:k+3 < 1000000)(p:Bn)(po:p.Ok)(pt: ∀ h,Tz 31 h p.v): ∃(v:PV)(k':Int),k<=k'/\k'<=k+3/\run pg (j+3) "_law_wide" [.ref 1,p.v] (aG ns::aF k o::g)= .ok v (aG ns::aF k' o::g)/\ ∀ h,Tz 31 h v:=by
 suffices H: ∃(v:PV)(k':Int)(X:PH),k<=k'/\k'<=k+3/\iP (run pg (j+2)) [fv (.ref 1),fv p.v,SU,SU,SU,SU,SU,SU,SU,SU,SU] (aG ns::aF k o::g)= .ok (.rt v) (aG ns::aF k' o::(g++X))/\ ∀ h,Tz 31 h v by
  obtain⟨v,k',X,l1,l2,e,t⟩:=H;refine⟨v,k',l1,l2,?_,t⟩;rw[run_eq T.rQ rfl];exact(congrArg (fin _) e).trans (by rw[cx];exact eE (t []).low)
 have Z:=λh=>Bn.SF (pt h);obtain⟨w,w0,w1,ew⟩:=bg T j g hn o (k:=k) 11 k0 (by omega) (by decide) (by decide);have s0:P9 (run pg (j+2)) [fv (.ref 1),fv p.v,SU,SU,SU,SU,SU,SU,SU,SU,SU] (aG ns::aF k o::g)= .ok (.nx [fv (.ref 1),fv p.v,fv (.int w),SU,SU,SU,SU,SU,SU,SU,SU]) (aG ns::aF (k+1) o::g):=by
  simp? [P9,ew]
 obtain⟨X,n,en,eA⟩:=J0 (c:=run pg (j+2)) (h:=aG ns::aF (k+1) o::g) (s:=fv (.ref 1)) (w:=fv (.int w)) p po.fC;obtain⟨m,rfl⟩: ∃ m,n=m+1+1:=by
  rcases n with _ | _ | n
  . cases en
  . cases en
  . exact⟨n,rfl⟩
 have em:(g++X)[m]?=fv (.lst (p.th.map PV.str)):=en;have l9:p.th.length<=100:=by
  obtain⟨f0,f1,f2,f3,f4⟩:=po.fC;simp only[Bn.th,S1,SX,Uj];omega
 have MK: ∀ x∈p.th,TZ x=true:=λx m=>((Z []).th x m).MK;have go: ∀{r:RV Fl},NV (run pg (j+2)) [fv (.ref 1),fv p.v,fv (.int w),fv (.ref (m+1+1)),SU,SU,SU,SU,SU,SU,SU] (aG ns::aF (k+1) o::(g++X))=r->iP (run pg (j+2)) [fv (.ref 1),fv p.v,SU,SU,SU,SU,SU,SU,SU,SU,SU] (aG ns::aF k o::g)=r:=λe=>by
  show ah P9 (ah Pl (ah O0 (ah OW NV))) _ _ _=_;exact(aA s0).trans ((eA _).trans e)
 have stop: ∀{a b:MS}{c:CF}{e:a9}{h h':PH}{v:PV},a c e h= .ok (.rt v) h'->ah a b c e h= .ok (.rt v) h':=λq=>by rw[jJ,q,bj,iW]
 by_cases w10:w=10
 . subst w10;obtain⟨ss,Y,o1,l1,e1⟩:=Hc T j hn (k+1) o (g++X) (by omega) (by omega) p (m+1+1);refine⟨_,k+1+1,X++Y,by omega,by omega,go ((stop e1).trans (by rw[SY])),λh=>De ?_ (Z h).x1 (Z h).x2 (Z h).x3 (Z h).x4⟩;refine .tup _ (by rw[SX];omega) λz mz=>?_;obtain⟨s,ms,rfl⟩:=TR.mp mz;exact cB (dJ (o1 s ms)) (.int 0)
 obtain⟨q,qs,epa⟩: ∃ q qs,p.a=q::qs:=by
  rcases h:p.a with _ | ⟨q,qs⟩
  . exact absurd h po.ne
  . exact⟨q,qs,rfl⟩
 have pv:p.v= .tup [.tup (p.b.map pr),.tup (p.l.map PV.str),.tup (p.n.map PV.str),.tup (p.d.map PV.str),.tup (pr q::qs.map pr)]:=by rw[Bn.v,epa];rfl
 have lq:(qs.map pr).length<=100:=by have:=po.fC.2.2.2.2;rw[epa,S2] at this;rw[SX];omega
 have lq':qs.length<=3:=by have:=po.fC.2.2.2.2;rw[epa,S2] at this;omega
 have Zq: ∀ h,Tz 31 h (pr q)/\ ∀ z∈qs.map pr,Tz 31 h z:=λh=>by
  have:=(Z h).x4.ins.2;rw[epa,S7,S6] at this;exact this
 have Zn: ∀ h,Tz 31 h (.str q.1):=λh=>(Tz.ins (show Tz 31 h (.tup [.str q.1,q.2]) from(Zq h).1)).2 _ S8;rw[pv] at go ⊢;generalize ec:run pg (j+2)=c at go;have s4: ∀ h,OF c [fv (.ref 1),fv (.tup [.tup (p.b.map pr),.tup (p.l.map PV.str),.tup (p.n.map PV.str),.tup (p.d.map PV.str),.tup (pr q::qs.map pr)]),fv (.int w),fv (.ref (m+1+1)),SU,SU,SU,SU,SU,SU,SU] h= .ok (.nx [fv (.ref 1),fv (.tup [.tup (p.b.map pr),.tup (p.l.map PV.str),.tup (p.n.map PV.str),.tup (p.d.map PV.str),.tup (pr q::qs.map pr)]),fv (.int w),fv (.ref (m+1+1)),SU,SU,SU,SU,SU,SU,SU]) h:=λh=>by
  simp? [OF,w10]
 replace go:=λ{r} e=>go (r:=r) ((aA (s4 _)).trans e)
 have ne: ∀ G:PH,G[m]?=fv (.lst (p.th.map PV.str))->i8 (.ref (m+1+1)) (.ref (G.length+1+1)) (aG ns::aF (k+1) o::(G++[.lst []]))= .ok (.bl (!decide (p.th=[]))) (aG ns::aF (k+1) o::(G++[.lst []])):=λG em=>ne_nil (h:=aG ns::aF (k+1) o::(G++[PO.lst []])) (n:=m+1+1) (m:=G.length+1+1) (cm em) (show(G++[PO.lst []])[G.length]?=fv (.lst []) from aI) MK;have last: ¬ w < 3-> ∀ G:PH,∃(v:PV)(Y:PH),ML c [fv (.ref 1),fv (.tup [.tup (p.b.map pr),.tup (p.l.map PV.str),.tup (p.n.map PV.str),.tup (p.d.map PV.str),.tup (pr q::qs.map pr)]),fv (.int w),fv (.ref (m+1+1)),SU,SU,SU,SU,SU,SU,SU] (aG ns::aF (k+1) o::G)= .ok (.rt v) (aG ns::aF (k+1+1) o::(G++Y))/\ ∀ h,Tz 31 h v:=λw3 G=>by
  have s7: ∀ h,K2 c [fv (.ref 1),fv (.tup [.tup (p.b.map pr),.tup (p.l.map PV.str),.tup (p.n.map PV.str),.tup (p.d.map PV.str),.tup (pr q::qs.map pr)]),fv (.int w),fv (.ref (m+1+1)),SU,SU,SU,SU,SU,SU,SU] h= .ok (.nx [fv (.ref 1),fv (.tup [.tup (p.b.map pr),.tup (p.l.map PV.str),.tup (p.n.map PV.str),.tup (p.d.map PV.str),.tup (pr q::qs.map pr)]),fv (.int w),fv (.ref (m+1+1)),SU,SU,SU,SU,SU,SU,SU]) h:=λh=>by
   simp? [K2,w3]
  have s8: ∀ h,Qe c [fv (.ref 1),fv (.tup [.tup (p.b.map pr),.tup (p.l.map PV.str),.tup (p.n.map PV.str),.tup (p.d.map PV.str),.tup (pr q::qs.map pr)]),fv (.int w),fv (.ref (m+1+1)),SU,SU,SU,SU,SU,SU,SU] h= .ok (.nx [fv (.ref 1),fv (.tup [.tup (p.b.map pr),.tup (p.l.map PV.str),.tup (p.n.map PV.str),.tup (p.d.map PV.str),.tup (pr q::qs.map pr)]),fv (.int w),fv (.ref (m+1+1)),SU,SU,SU,SU,SU,fv (pr q),SU]) h:=λh=>by
   simp? [Qe]
  have lit: ∀ h (y:Str),(decide (y.length<=1000)&&TZ y)=true->Tz 31 h (.str y):=λh y o=> .str y o;have clk: ∀ h,Tz 31 h (.tup [.str "clock",.str "a"]):=λh=>cB (lit h _ (by decide +kernel)) (lit h _ (by decide +kernel));subst ec;by_cases w3':w=3
  . subst w3';obtain⟨a,a0,a1',e9⟩:=K7 T j hn (k+1) o G (by omega) (by omega) (.tup (p.b.map pr)) (.tup (p.l.map PV.str)) (.tup (p.n.map PV.str)) (.tup (p.d.map PV.str)) (.tup (pr q::qs.map pr)) q (fv (.ref (m+1+1)));refine⟨_,[],(aA (s7 _)).trans ((aA (s8 _)).trans ((stop e9).trans (by rw[Tv]))),λh=>De (Z h).x0 (Z h).x1 (Z h).x2 (Z h).x3 (cB (Zn h) (.tup _ ?_ λz mz=>?_))⟩
    . simp only[List.length_flatten,List.map_replicate,S2,Tj,List.sum_replicate_nat];omega
    . obtain⟨u,mu,mz⟩:=List.mem_flatten.mp mz;rw[List.eq_of_mem_replicate mu] at mz;rw[TY.mp mz];exact clk h
  have s9: ∀ h,NC (run pg (j+2)) [fv (.ref 1),fv (.tup [.tup (p.b.map pr),.tup (p.l.map PV.str),.tup (p.n.map PV.str),.tup (p.d.map PV.str),.tup (pr q::qs.map pr)]),fv (.int w),fv (.ref (m+1+1)),SU,SU,SU,SU,SU,fv (pr q),SU] h= .ok (.nx [fv (.ref 1),fv (.tup [.tup (p.b.map pr),.tup (p.l.map PV.str),.tup (p.n.map PV.str),.tup (p.d.map PV.str),.tup (pr q::qs.map pr)]),fv (.int w),fv (.ref (m+1+1)),SU,SU,SU,SU,SU,fv (pr q),SU]) h:=λh=>by
   simp? [NC,w3']
  by_cases w4:w=4
  . subst w4;obtain⟨ss,Y,o1,l1,e10⟩:=Dt T j hn (k+1) o G (by omega) (by omega) (.tup (p.b.map pr)) (.tup (p.l.map PV.str)) (.tup (p.n.map PV.str)) (.tup (p.d.map PV.str)) (.tup (pr q::qs.map pr)) (fv (.ref (m+1+1))) (fv (pr q));refine⟨_,Y,(aA (s7 _)).trans ((aA (s8 _)).trans ((aA (s9 _)).trans (stop e10))),λh=>De (Z h).x0 (Z h).x1 (Z h).x2 (Z h).x3 (.tup _ (by rw[SX];omega) λz mz=>?_)⟩;obtain⟨s,ms,rfl⟩:=TR.mp mz;exact cB (dJ (o1 s ms)) (.tup [] (by decide) λ_ m=>nomatch m)
  have s10: ∀ h,Ar (run pg (j+2)) [fv (.ref 1),fv (.tup [.tup (p.b.map pr),.tup (p.l.map PV.str),.tup (p.n.map PV.str),.tup (p.d.map PV.str),.tup (pr q::qs.map pr)]),fv (.int w),fv (.ref (m+1+1)),SU,SU,SU,SU,SU,fv (pr q),SU] h= .ok (.nx [fv (.ref 1),fv (.tup [.tup (p.b.map pr),.tup (p.l.map PV.str),.tup (p.n.map PV.str),.tup (p.d.map PV.str),.tup (pr q::qs.map pr)]),fv (.int w),fv (.ref (m+1+1)),SU,SU,SU,SU,SU,fv (pr q),SU]) h:=λh=>by
   simp? [Ar,w4]
  obtain⟨a,a0,a1',e12⟩:=C5 T j hn (k+1) o G (by omega) (by omega) (.tup (p.b.map pr)) (.tup (p.l.map PV.str)) (.tup (p.n.map PV.str)) (.tup (p.d.map PV.str)) (.tup (pr q::qs.map pr)) q (fv (.int w)) (fv (.ref (m+1+1)));exact⟨_,[],(aA (s7 _)).trans ((aA (s8 _)).trans ((aA (s9 _)).trans ((aA (s10 _)).trans (e12.trans (by rw[Tv]))))),λh=>De (Z h).x0 (Z h).x1 (Z h).x2 (Z h).x3 (Qb (by decide) (cB (Zn h) (cB (cb (lit h _ (by decide +kernel)) (.int _) (cB (lit h _ (by decide +kernel)) (.int 1))) (clk h))))⟩
 have pass6: ∀ H:PH,¬ 5 < w->Ha c [fv (.ref 1),fv (.tup [.tup (p.b.map pr),.tup (p.l.map PV.str),.tup (p.n.map PV.str),.tup (p.d.map PV.str),.tup (pr q::qs.map pr)]),fv (.int w),fv (.ref (m+1+1)),SU,SU,SU,SU,SU,SU,SU] H= .ok (.nx [fv (.ref 1),fv (.tup [.tup (p.b.map pr),.tup (p.l.map PV.str),.tup (p.n.map PV.str),.tup (p.d.map PV.str),.tup (pr q::qs.map pr)]),fv (.int w),fv (.ref (m+1+1)),SU,SU,SU,SU,SU,SU,SU]) H:=λH w5=>by
  simp? [Ha,w5]
 have pass5: ∀ H:PH,¬ 7 < w->Lc c [fv (.ref 1),fv (.tup [.tup (p.b.map pr),.tup (p.l.map PV.str),.tup (p.n.map PV.str),.tup (p.d.map PV.str),.tup (pr q::qs.map pr)]),fv (.int w),fv (.ref (m+1+1)),SU,SU,SU,SU,SU,SU,SU] H= .ok (.nx [fv (.ref 1),fv (.tup [.tup (p.b.map pr),.tup (p.l.map PV.str),.tup (p.n.map PV.str),.tup (p.d.map PV.str),.tup (pr q::qs.map pr)]),fv (.int w),fv (.ref (m+1+1)),SU,SU,SU,SU,SU,SU,SU]) H:=λH w5=>by
  simp? [Lc,w5]
 have none6: ∀ G:PH,G[m]?=fv (.lst (p.th.map PV.str))->5 < w->p.th=[]->Ha c [fv (.ref 1),fv (.tup [.tup (p.b.map pr),.tup (p.l.map PV.str),.tup (p.n.map PV.str),.tup (p.d.map PV.str),.tup (pr q::qs.map pr)]),fv (.int w),fv (.ref (m+1+1)),SU,SU,SU,SU,SU,SU,SU] (aG ns::aF (k+1) o::G)= .ok (.nx [fv (.ref 1),fv (.tup [.tup (p.b.map pr),.tup (p.l.map PV.str),.tup (p.n.map PV.str),.tup (p.d.map PV.str),.tup (pr q::qs.map pr)]),fv (.int w),fv (.ref (m+1+1)),SU,SU,SU,SU,SU,SU,SU]) (aG ns::aF (k+1) o::(G++[.lst []])):=λG em w5 t0=>by
  have n1:=ne G em;simp? [Ha,w5,n1,t0]
 have none5: ∀ G:PH,G[m]?=fv (.lst (p.th.map PV.str))->7 < w->p.th=[]->Lc c [fv (.ref 1),fv (.tup [.tup (p.b.map pr),.tup (p.l.map PV.str),.tup (p.n.map PV.str),.tup (p.d.map PV.str),.tup (pr q::qs.map pr)]),fv (.int w),fv (.ref (m+1+1)),SU,SU,SU,SU,SU,SU,SU] (aG ns::aF (k+1) o::G)= .ok (.nx [fv (.ref 1),fv (.tup [.tup (p.b.map pr),.tup (p.l.map PV.str),.tup (p.n.map PV.str),.tup (p.d.map PV.str),.tup (pr q::qs.map pr)]),fv (.int w),fv (.ref (m+1+1)),SU,SU,SU,SU,SU,SU,SU]) (aG ns::aF (k+1) o::(G++[.lst []])):=λG em w5 t0=>by
  have n1:=ne G em;simp? [Lc,w5,n1,t0]
 by_cases w7:7 < w
 . by_cases t0:p.th=[]
   . obtain⟨v,Y,e,t⟩:=last (by omega) (g++X++[.lst []]++[.lst []]);refine⟨v,k+1+1,X++([.lst []]++([.lst []]++Y)),by omega,by omega,go ((aA (none5 _ em w7 t0)).trans ((aA (none6 _ (cm em) (by omega) t0)).trans (e.trans ?_))),t⟩;simp only[SY]
   . obtain⟨x,r,Y,mx,mr,e5⟩:=Kc T j hn (k+1) o (g++X) (by omega) (by omega) (.tup (p.b.map pr)) (.tup (p.l.map PV.str)) (.tup (p.n.map PV.str)) (.tup (p.d.map PV.str)) q lq w7 em t0 l9 MK;subst ec;exact⟨_,k+1+1+1,X++Y,by omega,by omega,go ((stop e5).trans (by rw[SY])),λh=>De (Z h).x0 (Z h).x1 (Z h).x2 (Z h).x3 (.tup _ (by rw[S2,SX];omega) (S6.mpr ⟨cB (Zn h) (Qb (by decide) (Dc ((Z h).th x mx) r mr)),(Zq h).2⟩))⟩
 replace go:=λ{r} e=>go (r:=r) ((aA (pass5 _ w7)).trans e)
 by_cases w5:5 < w
 . by_cases t0:p.th=[]
   . obtain⟨v,Y,e,t⟩:=last (by omega) (g++X++[.lst []]);refine⟨v,k+1+1,X++([.lst []]++Y),by omega,by omega,go ((aA (none6 _ em w5 t0)).trans (e.trans ?_)),t⟩;simp only[SY]
   . obtain⟨x,Y,mx,e6⟩:=HI T j hn (k+1) o (g++X) (by omega) (by omega) (.tup (p.b.map pr)) (.tup (p.l.map PV.str)) (.tup (p.n.map PV.str)) (.tup (p.d.map PV.str)) (y:=pr q) lq w5 em t0 l9 MK;subst ec;refine⟨_,k+1+1,X++Y,by omega,by omega,go ((stop e6).trans (by rw[SY])),λh=>De (Z h).x0 (Z h).x1 (Z h).x2 (Z h).x3 (.tup _ (by rw[S1,SX];show qs.length+1<=31;omega) λz mz=>?_)⟩;rcases Tt.mp mz with mz | mz
     . exact(Zq h).2 z mz
     . rw[TY.mp mz];exact cB ((Z h).th x mx) (.tup [] (by decide) λ_ m=>nomatch m)
 replace go:=λ{r} e=>go (r:=r) ((aA (pass6 _ w5)).trans e)
 by_cases w3:w < 3
 . obtain⟨ss,Y,v,o1,l1,hv,e7⟩:=Gz T j hn (k+1) o (g++X) (by omega) (by omega) (.tup (p.b.map pr)) (.tup (p.l.map PV.str)) (.tup (p.n.map PV.str)) (.tup (p.d.map PV.str)) (.tup (pr q::qs.map pr)) w0 w3 (fv (.ref (m+1+1)));subst ec;have ts: ∀ h,Tz 31 h (.tup (ss.map PV.str)):=λh=>mD o1 (by omega);have x4: ∀ h,Tz 31 h (.tup (pr q::qs.map pr)):=λh=>by have:=(Z h).x4;rw[epa] at this;exact this
   refine⟨v,k+1+1,X++Y,by omega,by omega,go ((stop e7).trans (by rw[SY])),λh=>?_⟩;rcases hv with rfl | rfl | rfl
   . exact De (Z h).x0 (ts h) (Z h).x2 (Z h).x3 (x4 h)
   . exact De (Z h).x0 (Z h).x1 (ts h) (Z h).x3 (x4 h)
   . exact De (Z h).x0 (Z h).x1 (Z h).x2 (ts h) (x4 h)
 obtain⟨v,Y,e,t⟩:=last w3 (g++X);exact⟨v,k+1+1,X++Y,by omega,by omega,go (e.trans (by rw[SY])),t⟩
end
noncomputable def room:Nat:=20
def SJ:MS:=(ay (ef (aQ (eS "script") (ae 0) (aQ (eS "k") (eI 0) gP))) (gN 1))
def Rp:MS:=(ay (aC (aa (af "_law_program" (a1 (ae 1))) ag)) (gN 2))
def R3:MS:=(dn (eM dm cS (ae 2) (aa (af "_law_program" (a1 (ae 1))) ag)))
def OX:MS:=(bC (fL (ao (ai mG (af "is_program" (a1 (ae 3))) (eC (.bl true)))) (bK (ao (af "_law_numbers_right" (a1 (ae 3)))))) (av (eC (.bl false))) bz)
def Ru:MS:=cI (cU (ai ak (ae 2) (ae 2))) (gN 3) OX
def OV:ME:=(af "_law_odd" (a2 (ae 1) (au ag)))
def RG:MS:=ay (dw 1 (a8 (a1 (eI 4))) (gN 9) ax OV) (gN 4)
def O2:MS:=(ah (ay (af "_law_bent" (a3 (ae 1) (ae 6) (eI 0))) (gN 6)) (dn (eM dm cS (ae 4) (a1 (ae 6)))))
def Sn:MS:=(dn (eM dm cS (ae 4) (aa (af "_law_wide" (a2 (ae 1) (ae 3))) ag)))
def Lr:MS:=ah (ay (ae 3) (gN 6)) (ah (cI (a8 (aa (ai ak (eI 1) (ai hV (ae 5) (eI 3))) ag)) (gN 7) O2) Sn)
def PJ:MS:=cI (a8 (a1 (eI 6))) (gN 5) Lr
def RY:MS:=cI (cU (ae 2)) (gN 3) PJ
def O3:MS:=(ah (ay (af "is_program" (a1 (ae 6))) (gN 8)) (bC (fL (bK (ao (eB aP (aa (ae 8) (aa (eC (.ty "bool")) ag))))) (ao (ai i8 (ae 8) (af "_law_is_program" (a1 (ae 6)))))) (av (eC (.bl false))) bz))
def Rz:MS:=cI (cU (ae 4)) (gN 6) O3
def RA:MS:=(av (eC (.bl true)))
structure Iv(ns:List Int)(n:Nat)(L:PO)(k:Int)(o:Option Int)(g:PH)(zs:List PV):Prop where
 e0:g[0]?=fv L
 n0:n≠0
 en:g[n]?=fv (.lst zs)
 tz: ∀ z∈zs,Tz 500 (aG ns::aF k o::g) z
theorem Iv.gr{ns:List Int}{n:Nat}{L:PO}{k:Int}{o:Option Int}{g:PH}{zs:List PV}(I:Iv ns n L k o g zs)(X:PH)(k':Int):Iv ns n L k' o (g++X) zs :=
 ⟨cm I.e0,I.n0,cm I.en,λz m=>((I.tz z m).st (k':=k') (o':=o)).gr X⟩
theorem qo{ns:List Int}{k:Int}{o:Option Int}{g:PH}{n:Nat}{ys:List PV}(i:Nat)(b:eK (aG ns::aF k o::g) (.ref i)=true):eK (aG ns::aF k o::g.set n (.lst ys)) (.ref i)=true:=by
 by_cases q:i=n+1+1
 . subst q;have hn:n < g.length:=by
    rcases lZ b with⟨_,e⟩ | ⟨_,e⟩
    . exact(Tg.mp (show g[n]?=_ from e)).1
    . exact(Tg.mp (show g[n]?=_ from e)).1
   exact gM (show(g.set n (.lst ys))[n]?=fv (.lst ys) by rw[UO hn])
 . have e:(aG ns::aF k o::g.set n (PO.lst ys))[i]?=(aG ns::aF k o::g)[i]?:=by
    rcases i with _ | _ | i
    . rfl
    . rfl
    . show(g.set n (.lst ys))[i]?=g[i]?;rw[UH (by omega)]
   simp only[eK,e] at b ⊢;exact b
theorem Iv.add{ns:List Int}{n:Nat}{L:PO}{k:Int}{o:Option Int}{g:PH}{zs:List PV}(I:Iv ns n L k o g zs){v:PV}(t:Tz 500 (aG ns::aF k o::g) v):Iv ns n L k o (g.set n (.lst (zs++[v]))) (zs++[v]):=by
 have hn:=(Tg.mp I.en).1;refine⟨by rw[UH I.n0];exact I.e0,I.n0,by rw[UO hn],λz m=>?_⟩;rcases Tt.mp m with m | m
 . exact(I.tz z m).mono (Te _) qo
 . rw[TY.mp m];exact t.mono (Te _) qo
structure Gd(p:Bn):Prop where
 ok:p.Ok
 tz: ∀ h,Tz 31 h p.v
 pl: ∀ q∈p.a,bD q.2=true/\jK q.2<=8
 nn: ∀ s∈p.all,s≠ "nobody"
section
variable{pg:Tb}(T:cv pg)
include T
theorem Dq(p:Bn)(G:Gd p)(h:PH):run pg 20 "is_program" [p.v] h= .ok (.bl true) h:=by
 obtain⟨v,e,w⟩:=vX T 6 ((G.tz h).th (by decide));rw[w.mpr ⟨p,rfl,G.ok⟩] at e;exact e
theorem sE{h:PH}{n:Nat}{xs0:List PV}(fn:jO.eU ⟨fv n,xs0⟩ h=true)(e0 e1 e2:Option PV): ∀(ps:List Bn)(e3:Option PV),(∀ p∈ps,Gd p)-> ∃ f3,bM ⟨fv n,xs0⟩ (bZ (gN 3) OX (run pg 20)) (ps.map Bn.v) [e0,e1,e2,e3,SU,SU,SU,SU,SU] h= .ok (.nx [e0,e1,e2,f3,SU,SU,SU,SU,SU]) h
 | [],e3,_=>⟨e3,gY fn⟩
 | p::r,e3,H=>by
  have G:=H p S8;have a:=Dq T p G h;have b:=va T 10 h p G.ok G.pl G.nn;obtain⟨f3,ih⟩:=sE fn e0 e1 e2 r (fv p.v) λz m=>H z (S9 _ m);have st:bZ (gN 3) OX (run pg 20) p.v [e0,e1,e2,e3,SU,SU,SU,SU,SU] h= .ok (.nx [e0,e1,e2,fv p.v,SU,SU,SU,SU,SU]) h:=by
   simp? [OX,a,b,El,bne_self_eq_false]
  exact⟨f3,by rw[S7,fE fn,st,bj,dg];exact ih⟩
theorem rC{h:PH}{n:Nat}{xs0:List PV}(fn:jO.eU ⟨fv n,xs0⟩ h=true)(e0 e1 e2 e3 e4 e5 e7:Option PV): ∀(xs:List PV)(e6 e8:Option PV),(∀ x∈xs,Tz 500 h x)-> ∃ f6 f8,bM ⟨fv n,xs0⟩ (bZ (gN 6) O3 (run pg 20)) xs [e0,e1,e2,e3,e4,e5,e6,e7,e8] h= .ok (.nx [e0,e1,e2,e3,e4,e5,f6,e7,f8]) h
 | [],e6,e8,_=>⟨e6,e8,gY fn⟩
 | x::r,e6,e8,H=>by
  have t:=(H x S8).th (by decide);obtain⟨a,ea,wa⟩:=vX T 6 t;obtain⟨b,eb,wb⟩:=BQ T 9 t;have ab:b=a:=by
   have:=wb.trans wa.symm
   revert this;cases a<;>cases b<;>simp
  subst ab;obtain⟨f6,f8,ih⟩:=rC fn e0 e1 e2 e3 e4 e5 e7 r (fv x) (fv (.bl b)) λz m=>H z (S9 _ m);have ib:aP [.bl b,.ty "bool"] h= .ok (.bl true) h:=rfl;have st:bZ (gN 6) O3 (run pg 20) x [e0,e1,e2,e3,e4,e5,e6,e7,e8] h= .ok (.nx [e0,e1,e2,e3,e4,e5,fv x,e7,fv (.bl b)]) h:=by
   simp? [O3,ea,eb,ib,ne_eq,eq_self,not_true]
  exact⟨f6,f8,by rw[fE fn,st,bj,dg];exact ih⟩
end
section
variable{pg:Tb}(T:cv pg)
include T
theorem sA{ns:List Int}(hn:ns.length<=63)(o:Option Int){xs0:List PV}(E:a9)(hE:E[1]?=fv (fv (.ref 1)))(lE:E.length=9): ∀(xs ys:List PV)(k:Int)(g:PH),0<=k->k+xs.length < 1000000->ys.length+xs.length<=1000->(∀ z∈ys,Tz 500 (aG ns::aF k o::g) z)-> ∃(zs:List PV)(k':Int)(X:PH),k<=k'/\k'<=k+xs.length/\zs.length<=ys.length+xs.length/\eW ⟨SU,xs0⟩ (aY 1 (gN 9) ax OV (run pg 20) E) xs ys (aG ns::aF k o::g)= .ok zs (aG ns::aF k' o::(g++X))/\ ∀ z∈zs,Tz 500 (aG ns::aF k' o::(g++X)) z
 | [],ys,k,g,k0,k9,l,H=>⟨ys,k,[],Z9 _,by simp,by simp,by rw[P3.eW,if_pos (show jO.eU ⟨SU,_⟩ _=true from rfl),Tv],by rw[Tv];exact H⟩
 | x::r,ys,k,g,k0,k9,l,H=>by
  rw[S2] at k9 l;obtain⟨v,g',e,t⟩:=BR T 17 hn k o g k0 (by omega) (b:=3) (by decide) (by decide) (x:= .tup []) (.tup [] (by decide) λ_ m=>nomatch m);have H': ∀ z∈ys++[v],Tz 500 (aG ns::aF (k+1) o::(g++g')) z:=λz m=>by
   rcases Tt.mp m with m | m
   . exact((H z m).st (k':=k+1) (o':=o)).gr g'
   . rw[TY.mp m];exact t.mono (by decide) λ_ b=>b
  obtain⟨zs,k',X,h1,h2,h3,h4,h5⟩:=sA hn o E hE lE r (ys++[v]) (k+1) (g++g') (by omega) (by omega) (by rw[S1,UT];omega) H';rw[S1,UT] at h3;refine⟨zs,k',g'++X,by omega,by rw[S2];omega,by rw[S2];omega,?_,by rw[<- SY];exact h5⟩;have hz:ys.length < Ta:=Tf (show ys.length < 1001 by omega) (by decide);have st:aY 1 (gN 9) ax OV (run pg 20) E x (aG ns::aF k o::g)= .ok (fv v) (aG ns::aF (k+1) o::(g++g')):=by
   have q:((E++S4 1 SU).set 9 (fv x))[1]?=fv (fv (.ref 1)):=by
    rw[UH (by decide),TV (by omega)];exact hE
   rw[p6,gy];generalize (E++S4 1 SU).set 9 (fv x)=E' at q;simp? [OV,q,e]
  rw[P3.eW,if_pos ⟨show jO.eU ⟨SU,_⟩ _=true from rfl,hz⟩,st,gS];refine h4.trans ?_;rw[SY]
theorem pE{ns:List Int}(hn:ns.length<=63){n:Nat}{L:PO}(o:Option Int){xs0:List PV}(e0 e2 e3 e5 e8:Option PV): ∀(ts:List PV)(b:Nat)(x:PV)(e7:Option PV)(zs:List PV)(k:Int)(g:PH),3<=b->b*2 ^ ts.length<=500->0<=k->k+24*ts.length < 1000000->zs.length+ts.length<=1000->Iv ns n L k o g zs->Tz b (aG ns::aF k o::g) x ->
  ∃(f6 f7:Option PV)(zs':List PV)(k':Int)(g':PH),bM ⟨SU,xs0⟩ (bZ (gN 7) O2 (run pg 20)) ts [e0,fv (.ref 1),e2,e3,fv (.ref (n+1+1)),e5,fv x,e7,e8] (aG ns::aF k o::g)= .ok (.nx [e0,fv (.ref 1),e2,e3,fv (.ref (n+1+1)),e5,f6,f7,e8]) (aG ns::aF k' o::g')/\k<=k'/\k'<=k+24*ts.length/\zs'.length<=zs.length+ts.length/\Iv ns n L k' o g' zs'
 | [],b,x,e7,zs,k,g,b3,b9,k0,k9,l,I,t=>⟨fv x,e7,zs,k,g,zd,Z9 _,by simp,by simp,I⟩
 | y::r,b,x,e7,zs,k,g,b3,b9,k0,k9,l,I,t=>by
  rw[S2] at k9 l b9;have p1:1<=2 ^ r.length:=Nat.one_le_two_pow;have b9':2*b*2 ^ r.length<=500:=by rw[Nat.pow_succ] at b9;rw[WZ 2 b,Nat.mul_assoc,WZ 2];exact b9
  have b5:2*b<=500:=Ua (Nat.le_mul_of_pos_right _ p1) b9';obtain⟨v,X,k1,h1,h2,h3,h4⟩:=E7 T 7 9 hn k o g 0 (by decide) k0 (by omega) b3 (by omega) t;have I1:=I.gr X k1;have I2:=I1.add (h4.mono b5 λ_ b=>b);obtain⟨f6,f7,zs',k',g',q1,q2,q3,q4,q5⟩:=pE hn o (xs0:=xs0) e0 e2 e3 e5 e8 r (2*b) v (fv y) (zs++[v]) k1 ((g++X).set n (.lst (zs++[v]))) (by omega) b9' (by omega) (by omega) (by rw[S1,UT];omega) I2 (h4.mono (Te _) qo);rw[S1,UT] at q4;refine⟨f6,f7,zs',k',g',?_,by omega,by rw[S2];omega,by rw[S2];omega,q5⟩;have en:=I1.en;have lz:zs.length<=1000:=by omega
  have st:bZ (gN 7) O2 (run pg 20) y [e0,fv (.ref 1),e2,e3,fv (.ref (n+1+1)),e5,fv x,e7,e8] (aG ns::aF k o::g)= .ok (.nx [e0,fv (.ref 1),e2,e3,fv (.ref (n+1+1)),e5,fv v,fv y,e8]) (aG ns::aF k1 o::(g++X).set n (.lst (zs++[v]))):=by
   have h3':run pg 20 "_law_bent" [.ref 1,x,.int 0] (aG ns::aF k o::g)= .ok v (aG ns::aF k1 o::(g++X)):=h3;generalize g++X=G at h3' en;simp? [O2,h3',en]
  rw[nt,st,bj,dg];exact q1
theorem Jz{ns:List Int}(hn:ns.length<=63){n:Nat}{L:PO}(o:Option Int)(e0 e2 e6 e7 e8:Option PV){p:Bn}(G:Gd p)(i:Int)(zs:List PV)(k:Int)(g:PH)(k0:0<=k)(k9:k+75 < 1000000)(l:zs.length+4<=1000)(I:Iv ns n L k o g zs) :
  ∃(f6 f7:Option PV)(zs':List PV)(k':Int)(g':PH),Lr (run pg 20) [e0,fv (.ref 1),e2,fv p.v,fv (.ref (n+1+1)),fv (.int i),e6,e7,e8] (aG ns::aF k o::g)= .ok (.nx [e0,fv (.ref 1),e2,fv p.v,fv (.ref (n+1+1)),fv (.int i),f6,f7,e8]) (aG ns::aF k' o::g')/\k<=k'/\k'<=k+75/\zs'.length<=zs.length+4/\Iv ns n L k' o g' zs':=by
 have r0:0<=i % 3:=VX _ (by decide);have r1:i % 3 < 3:=VP _ (by decide);generalize hm:(1+i % 3).toNat=m;have m3:m<=3:=by omega
 have lr:(aZ 0 m).length=m:=by simp[aZ]
 have pw:31*2 ^ (aZ 0 m).length<=500:=by
  rw[lr];exact Ua (Nat.mul_le_mul_left 31 (Nat.pow_le_pow_right (by decide) m3)) (by decide)
 obtain⟨f6,f7,zs1,k1,g1,q1,q2,q3,q4,I1⟩:=pE T hn o (xs0:=aZ 0 m) e0 e2 (fv p.v) (fv (.int i)) e8 (aZ 0 m) 31 p.v e7 zs k g (by decide) pw k0 (by rw[lr];omega) (by rw[lr];omega) I (G.tz _);rw[lr] at q3 q4;obtain⟨v,k2,w1,w2,w3,w4⟩:=E2 T 17 hn k1 o g1 (by omega) (by omega) p G.ok G.tz;have I2:=(I1.gr [] k2)
 rw[Tv] at I2;have I3:=I2.add ((w4 (aG ns::aF k2 o::g1)).mono (by decide) λ_ b=>b);refine⟨f6,f7,zs1++[v],k2,_,?_,by omega,by omega,by rw[S1,UT];omega,I3⟩;have en:=I1.en;have lz:zs1.length<=1000:=by omega
 unfold Lr;refine(aA (e1:=[e0,fv (.ref 1),e2,fv p.v,fv (.ref (n+1+1)),fv (.int i),fv p.v,e7,e8]) (h1:=aG ns::aF k o::g) ?_).trans ?_
 . simp? [U0]
 refine(aA (e1:=[e0,fv (.ref 1),e2,fv p.v,fv (.ref (n+1+1)),fv (.int i),f6,f7,e8]) (h1:=aG ns::aF k1 o::g1) ?_).trans ?_
 . have it:a8 (aa (ai ak (eI 1) (ai hV (ae 5) (eI 3))) ag) (run pg 20) [e0,fv (.ref 1),e2,fv p.v,fv (.ref (n+1+1)),fv (.int i),fv p.v,e7,e8] (aG ns::aF k o::g)= .ok ⟨SU,aZ 0 m⟩ (aG ns::aF k o::g):=by
    simp? [hm]
   rw[jq,it,bj,gU];exact q1
 . have w3':run pg 20 "_law_wide" [.ref 1,p.v] (aG ns::aF k1 o::g1)= .ok v (aG ns::aF k2 o::g1):=w3;simp? [Sn,w3',en]
theorem tu{ns:List Int}(hn:ns.length<=63){n:Nat}{L:PO}(o:Option Int){xs0:List PV}(e0 e2 e8:Option PV){p:Bn}(G:Gd p): ∀(js:List Int)(e5 e6 e7:Option PV)(zs:List PV)(k:Int)(g:PH),0<=k->k+75*js.length < 1000000->zs.length+4*js.length<=1000->Iv ns n L k o g zs ->
  ∃(f5 f6 f7:Option PV)(zs':List PV)(k':Int)(g':PH),bM ⟨SU,xs0⟩ (bZ (gN 5) Lr (run pg 20)) (js.map PV.int) [e0,fv (.ref 1),e2,fv p.v,fv (.ref (n+1+1)),e5,e6,e7,e8] (aG ns::aF k o::g)= .ok (.nx [e0,fv (.ref 1),e2,fv p.v,fv (.ref (n+1+1)),f5,f6,f7,e8]) (aG ns::aF k' o::g')/\k<=k'/\k'<=k+75*js.length/\zs'.length<=zs.length+4*js.length/\Iv ns n L k' o g' zs'
 | [],e5,e6,e7,zs,k,g,k0,k9,l,I=>⟨e5,e6,e7,zs,k,g,zd,Z9 _,by simp,by simp,I⟩
 | i::r,e5,e6,e7,zs,k,g,k0,k9,l,I=>by
  rw[S2] at k9 l;obtain⟨f6,f7,z1,k1,g1,q1,q2,q3,q4,I1⟩:=Jz T hn o e0 e2 e6 e7 e8 G i zs k g k0 (by omega) (by omega) I;obtain⟨h5,h6,h7,z2,k2,g2,w1,w2,w3,w4,I2⟩:=tu hn o (xs0:=xs0) e0 e2 e8 G r (fv (.int i)) f6 f7 z1 k1 g1 (by omega) (by omega) (by omega) I1;refine⟨h5,h6,h7,z2,k2,g2,?_,by omega,by rw[S2];omega,by rw[S2];omega,I2⟩;have st:bZ (gN 5) Lr (run pg 20) (.int i) [e0,fv (.ref 1),e2,fv p.v,fv (.ref (n+1+1)),e5,e6,e7,e8] (aG ns::aF k o::g)= .ok (.nx [e0,fv (.ref 1),e2,fv p.v,fv (.ref (n+1+1)),fv (.int i),f6,f7,e8]) (aG ns::aF k1 o::g1):=by
   rw[fQ,gy];exact q1
  rw[S7,nt,st,bj,dg];exact w1
theorem tP{ns:List Int}(hn:ns.length<=63){n:Nat}{vs:List PV}(o:Option Int)(e0 e2 e8:Option PV): ∀(ps:List Bn)(e3 e5 e6 e7:Option PV)(zs:List PV)(k:Int)(g:PH),(∀ p∈ps,Gd p)->0<=k->k+450*ps.length < 1000000->zs.length+24*ps.length<=1000->Iv ns n (.lst vs) k o g zs ->
  ∃(f3 f5 f6 f7:Option PV)(zs':List PV)(k':Int)(g':PH),bM ⟨fv 2,vs⟩ (bZ (gN 3) PJ (run pg 20)) (ps.map Bn.v) [e0,fv (.ref 1),e2,e3,fv (.ref (n+1+1)),e5,e6,e7,e8] (aG ns::aF k o::g)= .ok (.nx [e0,fv (.ref 1),e2,f3,fv (.ref (n+1+1)),f5,f6,f7,e8]) (aG ns::aF k' o::g')/\Iv ns n (.lst vs) k' o g' zs'
 | [],e3,e5,e6,e7,zs,k,g,H,k0,k9,l,I=>⟨e3,e5,e6,e7,zs,k,g,gY (eY (show(aG ns::aF k o::g)[2]?=_ from I.e0)),I⟩
 | p::r,e3,e5,e6,e7,zs,k,g,H,k0,k9,l,I=>by
  rw[S2] at k9 l;obtain⟨f5,f6,f7,z1,k1,g1,q1,q2,q3,q4,I1⟩:=tu T hn o (xs0:=aZ 0 6) e0 e2 e8 (H p S8) [0,1,2,3,4,5] e5 e6 e7 zs k g k0 (by show k+75*(6:Nat) < _;omega) (by show _+4*6<=_;omega) I;have q3':k1<=k+75*(6:Nat):=q3;have q4':z1.length<=zs.length+4*6:=q4;obtain⟨h3,h5,h6,h7,z2,k2,g2,w1,I2⟩:=tP hn o e0 e2 e8 r (fv p.v) f5 f6 f7 z1 k1 g1 (λz m=>H z (S9 _ m)) (by omega) (by omega) (by omega) I1;refine⟨h3,h5,h6,h7,z2,k2,g2,?_,I2⟩;have st:bZ (gN 3) PJ (run pg 20) p.v [e0,fv (.ref 1),e2,e3,fv (.ref (n+1+1)),e5,e6,e7,e8] (aG ns::aF k o::g)= .ok (.nx [e0,fv (.ref 1),e2,fv p.v,fv (.ref (n+1+1)),f5,f6,f7,e8]) (aG ns::aF k1 o::g1):=by
   rw[fQ,gy];show cI (a8 (a1 (eI 6))) (gN 5) Lr (run pg 20) [e0,fv (.ref 1),e2,fv p.v,fv (.ref (n+1+1)),e5,e6,e7,e8] _=_;have it:a8 (a1 (eI 6)) (run pg 20) [e0,fv (.ref 1),e2,fv p.v,fv (.ref (n+1+1)),e5,e6,e7,e8] (aG ns::aF k o::g)= .ok ⟨SU,aZ 0 6⟩ (aG ns::aF k o::g):=by
    simp? [U0]
   rw[jq,it,bj,gU];exact q1
  rw[S7,fE (eY (show(aG ns::aF k o::g)[2]?=_ from I.e0)),st,bj,dg];exact w1
end
theorem AO: ∀ ns:List Int,ns.length<=63->Ok (run tb (room+1) "law" [.ref 0] [.kq (ns.map PV.int)]) λv _=>v= .bl true:=by
 intro ns hn;have T:cv tb:=has;show Ok (run tb (20+1) "law" [.ref 0] [aG ns]) _;rw[run_eq T.F4 rfl];obtain⟨p,k1,o1,⟨a1',_,a3',a4',a5'⟩,b1,b2,e1⟩:=mZ T 10 hn 0 SU [] (by decide) (by decide);obtain⟨q,k2,o2,⟨c1,_,c3,c4,c5⟩,d1,d2,e2⟩:=mZ T 10 hn k1 o1 [.lst [p.v]] (by omega) (by omega);have Gp:Gd p:=⟨a1',a3',a4',a5'⟩
 have Gq:Gd q:=⟨c1,c3,c4,c5⟩
 have e1':run tb 20 "_law_program" [.ref 1] [aG ns,aF 0 SU]= .ok p.v [aG ns,aF k1 o1]:=e1;have e2':run tb 20 "_law_program" [.ref 1] [aG ns,aF k1 o1,.lst [p.v]]= .ok q.v [aG ns,aF k2 o2,.lst [p.v]]:=e2;have ad:ak (.ref 2) (.ref 2) [aG ns,aF k2 o2,.lst [p.v,q.v]]= .ok (.ref 3) [aG ns,aF k2 o2,.lst [p.v,q.v],.lst [p.v,q.v,p.v,q.v]]:=cF (h:=[aG ns,aF k2 o2,.lst [p.v,q.v]]) (n:=2) (m:=2) (xs:=[p.v,q.v]) (ys:=[p.v,q.v]) rfl rfl (by show 2+2<=16777216;decide);obtain⟨f3,l3⟩:=sE T (h:=[aG ns,aF k2 o2,.lst [p.v,q.v],.lst [p.v,q.v,p.v,q.v]]) (n:=3) (xs0:=[p.v,q.v,p.v,q.v]) (eY rfl) (fv (.ref 0)) (fv (.ref 1)) (fv (.ref 2)) [p,q,p,q] SU (by simp only[S6];exact⟨Gp,Gq,Gp,Gq,λ_ m=>nomatch m⟩);obtain⟨zs,k4,X,s1,s2,s3,l4,s5⟩:=sA T hn o2 (xs0:=aZ 0 4) [fv (.ref 0),fv (.ref 1),fv (.ref 2),f3,SU,SU,SU,SU,SU] rfl rfl (aZ 0 4) [] k2 [.lst [p.v,q.v],.lst [p.v,q.v,p.v,q.v]] (by omega) (by show k2+(4:Nat) < _;omega) (by decide) λ_ m=>nomatch m;have s2':k4<=k2+(4:Nat):=s2;have s3':zs.length<=0+4:=s3;generalize hg:([.lst [p.v,q.v],.lst [p.v,q.v,p.v,q.v]]++X:PH)=g at *;have g0:g[0]?=fv (.lst [p.v,q.v]):=by rw[<- hg];rfl
 have gl:g.length≠0:=by rw[<- hg];exact Nat.succ_ne_zero _
 have I:Iv ns g.length (.lst [p.v,q.v]) k4 o2 (g++[.lst zs]) zs:=⟨cm g0,gl,aI,λz m=>(s5 z m).gr [.lst zs]⟩
 obtain⟨h3,h5,h6,h7,z2,k5,g2,l5,I2⟩:=tP T hn o2 (fv (.ref 0)) (fv (.ref 2)) SU [p,q] f3 SU SU SU zs k4 (g++[.lst zs]) (by simp only[S6];exact⟨Gp,Gq,λ_ m=>nomatch m⟩) (by omega) (by show k4+450*(2:Nat) < _;omega) (by show _+24*2<=_;omega) I;obtain⟨f6,f8,l6⟩:=rC T (h:=aG ns::aF k5 o2::g2) (n:=g.length+1+1) (xs0:=z2) (eY (show g2[g.length]?=_ from I2.en)) (fv (.ref 0)) (fv (.ref 1)) (fv (.ref 2)) h3 (fv (.ref (g.length+1+1))) h5 h7 z2 h6 SU I2.tz;have A:Bp (run tb 20) [fv (.ref 0),SU,SU,SU,SU,SU,SU,SU,SU] [aG ns]= .ok (.rt (.bl true)) (aG ns::aF k5 o2::g2):=by
  show ah SJ (ah Rp (ah R3 (ah Ru (ah RG (ah RY (ah Rz RA)))))) _ _ _=_;refine(aA (e1:=[fv (.ref 0),fv (.ref 1),SU,SU,SU,SU,SU,SU,SU]) (h1:=[aG ns,aF 0 SU]) ?_).trans ?_
  . rfl
  refine(aA (e1:=[fv (.ref 0),fv (.ref 1),fv (.ref 2),SU,SU,SU,SU,SU,SU]) (h1:=[aG ns,aF k1 o1,.lst [p.v]]) ?_).trans ?_
  . simp? [Rp,e1']
  refine(aA (e1:=[fv (.ref 0),fv (.ref 1),fv (.ref 2),SU,SU,SU,SU,SU,SU]) (h1:=[aG ns,aF k2 o2,.lst [p.v,q.v]]) ?_).trans ?_
  . simp? [R3,e2'];rfl
  refine(aA (e1:=[fv (.ref 0),fv (.ref 1),fv (.ref 2),f3,SU,SU,SU,SU,SU]) (h1:=[aG ns,aF k2 o2,.lst [p.v,q.v],.lst [p.v,q.v,p.v,q.v]]) ?_).trans ?_
  . have it:cU (ai ak (ae 2) (ae 2)) (run tb 20) [fv (.ref 0),fv (.ref 1),fv (.ref 2),SU,SU,SU,SU,SU,SU] [aG ns,aF k2 o2,.lst [p.v,q.v]]= .ok ⟨fv 3,[p.v,q.v,p.v,q.v]⟩ [aG ns,aF k2 o2,.lst [p.v,q.v],.lst [p.v,q.v,p.v,q.v]]:=by
     simp? [ad]
    unfold Ru;rw[jq,it,bj,gU];exact l3
  refine(aA (e1:=[fv (.ref 0),fv (.ref 1),fv (.ref 2),f3,fv (.ref (g.length+1+1)),SU,SU,SU,SU]) (h1:=aG ns::aF k4 o2::(g++[.lst zs])) ?_).trans ?_
  . have r4:aZ 0 (4:Int).toNat=aZ 0 4:=rfl;simp? [RG,r4,l4]
  refine(aA (e1:=[fv (.ref 0),fv (.ref 1),fv (.ref 2),h3,fv (.ref (g.length+1+1)),h5,h6,h7,SU]) (h1:=aG ns::aF k5 o2::g2) ?_).trans ?_
  . have it:cU (ae 2) (run tb 20) [fv (.ref 0),fv (.ref 1),fv (.ref 2),f3,fv (.ref (g.length+1+1)),SU,SU,SU,SU] (aG ns::aF k4 o2::(g++[.lst zs]))= .ok ⟨fv 2,[p.v,q.v]⟩ (aG ns::aF k4 o2::(g++[.lst zs])):=by
     have i0:=I.e0;generalize g++[.lst zs]=J at i0;simp? [i0]
    unfold RY;rw[jq,it,bj,gU];exact l5
  refine(aA (e1:=[fv (.ref 0),fv (.ref 1),fv (.ref 2),h3,fv (.ref (g.length+1+1)),h5,f6,h7,f8]) (h1:=aG ns::aF k5 o2::g2) ?_).trans ?_
  . have i0:=I2.en;have it:cU (ae 4) (run tb 20) [fv (.ref 0),fv (.ref 1),fv (.ref 2),h3,fv (.ref (g.length+1+1)),h5,h6,h7,SU] (aG ns::aF k5 o2::g2)= .ok ⟨fv (g.length+1+1),z2⟩ (aG ns::aF k5 o2::g2):=by
     simp? [i0]
    unfold Rz;rw[jq,it,bj,gU];exact l6
  . simp? [RA]
 show Ok (fin _ (Bp (run tb 20) [fv (.ref 0),SU,SU,SU,SU,SU,SU,SU,SU] [aG ns])) _;rw[A,cx];unfold P3.settle;split<;>exact⟨_,_,rfl,rfl⟩
open PySem PySem.W PyProof.Rows
set_option maxHeartbeats 8000000
def fZ(K:SV)(mg:Str->Option S5):List (String × Nat)->Prop
 | []=>True
 | (x,n)::l=>At K mg x (top n)/\fZ K mg l
def Zs(K:SV):List Str->Prop
 | []=>True
 | x::l=>UY K TX x=fv SU/\Zs K l
theorem Zs.all{K:SV}{h:UU}{mg:Str->Option S5}(X:K.In h)(G:h.Ns TX mg): ∀{l:List Str},Zs K l-> ∀ x∈l,mg x=SU
 | [],_=>by simp_all
 | _::_,z=>S6.mpr ⟨PySem.W.mg_none_of X G z.1,Zs.all X G z.2⟩
theorem fZ.go{P:Ug}{w:Uz}{K:SV}{mg:Str->Option S5}{x:String}{n:Nat}{l:List (String × Nat)}{st:XW}{N:List Str}{b:String × Df}{m:List (String × Df)}(g:cv tb->At K mg x (top n)->bJ P w K mg tb b.1 b.2 st N)(A:fZ K mg ((x,n)::l))(r:fZ K mg l-> ∀ p∈m,∃ st N,bJ P w K mg tb p.1 p.2 st N): ∀ p∈b::m,∃ st N,bJ P w K mg tb p.1 p.2 st N:=S6.mpr ⟨⟨_,_,g has A.1⟩,r A.2⟩
theorem all_mk{l:WN}{w:Uz}{K:SV}{h:UU}{mg:Str->Option S5}{fa:Tp}(X:K.In h)(G:h.Ns TX mg)(hfa:mg "law" =fv (.ref fa)){aQj aQi rQi0 rQi1 rQi2 rQi3 rQi4 rQi5 rQi6 rQi7 rQi8 rQi9 rQi10 rQi11 aQk:Tp}{nQj eQi nQiv0_ nQiv1_ nQiv2_ nQiv3_ nQiv4_ nQiv5_ nQiv6_ nQiv7_ nQiv8_ nQiv9_ nQiv10_ nQiv11_ eQk:Nat}{sQj sQiv0_ sQiv1_ sQiv2_ sQiv3_ sQiv4_ sQiv5_ sQiv6_ sQiv7_ sQiv8_ sQiv9_ sQiv10_ sQiv11_:Array (Option S5)}{tQj0 tQj1 tQj2 tQj3 tQj4 tQc tQd tQh tQa tQf tQg tQb tQe qQi0 qQi1 qQi2 qQi3 qQi4 qQi5 qQi6 qQi7 qQi8 qQi9 qQi10 qQi11 tQiv0_0 tQiv0_1 tQiv1_0 tQiv1_1 tQiv2_0 tQiv2_1 tQiv3_0 tQiv3_1 tQiv4_0 tQiv5_0 tQiv6_0 tQiv6_1 tQiv7_0 tQiv7_1 tQiv8_0 tQiv8_1 tQiv9_0 tQiv10_0 tQiv10_1 tQiv11_0 tQiv11_1 qQk0 qQk1 qQk2 qQk3 qQk4 qQk5 vQk0 vQk1 vQk2 vQk3 vQk4 vQk5:Tok}{dQiv0_ dQiv1_ dQiv2_ dQiv3_ dQiv4_ dQiv5_ dQiv6_ dQiv7_ dQiv8_ dQiv9_ dQiv10_ dQiv11_:Option Tp}
  (A:fZ K mg [("is_whole",1),("is_between",2),("is_value",3),("is_tuple_of",4),("is_word",11),("is_name",12),("is_sum",16),("sums_within",17),("is_program",23),("is_few",24),("is_box",25),("is_hand",26),("has_unlike_names",27),("are_rows",28),("is_row",29),("is_part",30),("names_of",31),("number_of",32),("rows_of",33),("_law_draw",35),("_law_pick",36),("_law_names",37),("_law_sum_in",38),("_law_sum",39),("_law_row",40),("_law_program",41),("_law_odd",42),("_law_bent",43),("_law_whole",44),("_law_is_name",45),("_law_sums_in",46),("_law_is_sum",47),("_law_pairs",48),("_law_part_right",49),("_law_row_right",50),("_law_is_program",51),("_law_same",52),("_law_numbers_right",53),("_law_wide",54),("law",55)])
  (Z:Zs K gx)
  (wQj:UY K TX "SORTS" =fv (fv (.ref aQj))) (oQj:K.lookup aQj=fv ⟨.type "tuple",SU,.seq #[.str "box" tQj0,.str "lock" tQj1,.str "lane" tQj2,.str "door" tQj3,.str "hand" tQj4] nQj,sQj⟩)
  (wQc:UY K TX "LETTERS" =fv (fv (.str "abcdefghijklmnopqrstuvwxyz" tQc)))
  (wQd:UY K TX "LONGEST_NAME" =fv (fv (.int 8 tQd)))
  (wQh:UY K TX "MOST_SUMS" =fv (fv (.int 12 tQh)))
  (wQa:UY K TX "DEEPEST" =fv (fv (.int 5 tQa)))
  (wQf:UY K TX "MOST_OF_A_SORT" =fv (fv (.int 4 tQf)))
  (wQg:UY K TX "MOST_ROWS" =fv (fv (.int 30 tQg)))
  (wQb:UY K TX "LEAST_CHANCES" =fv (fv (.int 2 tQb)))
  (wQe:UY K TX "MOST_CHANCES" =fv (fv (.int 1000 tQe)))
  (oQiv0_:K.lookup rQi0=fv ⟨.type "tuple",dQiv0_,.seq #[.str "pocket" tQiv0_0,.str "sum" tQiv0_1] nQiv0_,sQiv0_⟩)
  (oQiv1_:K.lookup rQi1=fv ⟨.type "tuple",dQiv1_,.seq #[.str "target" tQiv1_0,.str "sum" tQiv1_1] nQiv1_,sQiv1_⟩)
  (oQiv2_:K.lookup rQi2=fv ⟨.type "tuple",dQiv2_,.seq #[.str "pocket" tQiv2_0,.str "box" tQiv2_1] nQiv2_,sQiv2_⟩)
  (oQiv3_:K.lookup rQi3=fv ⟨.type "tuple",dQiv3_,.seq #[.str "box" tQiv3_0,.str "sum" tQiv3_1] nQiv3_,sQiv3_⟩)
  (oQiv4_:K.lookup rQi4=fv ⟨.type "tuple",dQiv4_,.seq #[.str "lock" tQiv4_0] nQiv4_,sQiv4_⟩)
  (oQiv5_:K.lookup rQi5=fv ⟨.type "tuple",dQiv5_,.seq #[.str "lock" tQiv5_0] nQiv5_,sQiv5_⟩)
  (oQiv6_:K.lookup rQi6=fv ⟨.type "tuple",dQiv6_,.seq #[.str "lane" tQiv6_0,.str "sum" tQiv6_1] nQiv6_,sQiv6_⟩)
  (oQiv7_:K.lookup rQi7=fv ⟨.type "tuple",dQiv7_,.seq #[.str "pocket" tQiv7_0,.str "lane" tQiv7_1] nQiv7_,sQiv7_⟩)
  (oQiv8_:K.lookup rQi8=fv ⟨.type "tuple",dQiv8_,.seq #[.str "door" tQiv8_0,.str "sum" tQiv8_1] nQiv8_,sQiv8_⟩)
  (oQiv9_:K.lookup rQi9=fv ⟨.type "tuple",dQiv9_,.seq #[.str "pocket" tQiv9_0] nQiv9_,sQiv9_⟩)
  (oQiv10_:K.lookup rQi10=fv ⟨.type "tuple",dQiv10_,.seq #[.str "pocket" tQiv10_0,.str "chances" tQiv10_1] nQiv10_,sQiv10_⟩)
  (oQiv11_:K.lookup rQi11=fv ⟨.type "tuple",dQiv11_,.seq #[.str "pocket" tQiv11_0,.str "door" tQiv11_1] nQiv11_,sQiv11_⟩)
  (wQi:UY K TX "ROW_PARTS" =fv (fv (.ref aQi))) (oQi:K.lookup aQi=fv { cls:= .type "dict",data:= .dict #[{ hash:=T6 w.params "let",key:= .str "let" qQi0,val:= .ref rQi0},{ hash:=T6 w.params "leap",key:= .str "leap" qQi1,val:= .ref rQi1},{ hash:=T6 w.params "get",key:= .str "get" qQi2,val:= .ref rQi2},{ hash:=T6 w.params "put",key:= .str "put" qQi3,val:= .ref rQi3},{ hash:=T6 w.params "take",key:= .str "take" qQi4,val:= .ref rQi4},{ hash:=T6 w.params "free",key:= .str "free" qQi5,val:= .ref rQi5},{ hash:=T6 w.params "send",key:= .str "send" qQi6,val:= .ref rQi6},{ hash:=T6 w.params "fetch",key:= .str "fetch" qQi7,val:= .ref rQi7},{ hash:=T6 w.params "say",key:= .str "say" qQi8,val:= .ref rQi8},{ hash:=T6 w.params "clock",key:= .str "clock" qQi9,val:= .ref rQi9},{ hash:=T6 w.params "lot",key:= .str "lot" qQi10,val:= .ref rQi10},{ hash:=T6 w.params "hear",key:= .str "hear" qQi11,val:= .ref rQi11}] eQi}) (yQi:(aQi == U4)=false)
  (wQk:UY K TX "SUM_PARTS" =fv (fv (.ref aQk))) (oQk:K.lookup aQk=fv { cls:= .type "dict",data:= .dict #[{ hash:=T6 w.params "add",key:= .str "add" qQk0,val:= .int 2 vQk0},{ hash:=T6 w.params "sub",key:= .str "sub" qQk1,val:= .int 2 vQk1},{ hash:=T6 w.params "mul",key:= .str "mul" qQk2,val:= .int 2 vQk2},{ hash:=T6 w.params "less",key:= .str "less" qQk3,val:= .int 2 vQk3},{ hash:=T6 w.params "same",key:= .str "same" qQk4,val:= .int 2 vQk4},{ hash:=T6 w.params "not",key:= .str "not" qQk5,val:= .int 1 vQk5}] eQk}) (yQk:(aQk == U4)=false) :
  ∃ fd:Wd,(∀(s:Tc)(v:S5),XX s fd ⟨[v],[]⟩ [("_law_script",v)])/\ ∀ base:UU,K.In base->base.Ns TX mg->j6 l.prog w K mg base qP (room+1) fa fd ["_law_script"] (uG K tb (room+1) "law"):=by
 have T:Top l.prog w K mg tb:=⟨Zs.all X G Z,Cu (conT:=conT) rfl (S6.mpr ⟨D1 (us:=[.str "box" tQj0,.str "lock" tQj1,.str "lane" tQj2,.str "door" tQj3,.str "hand" tQj4]) (UZ X G wQj) oQj (by show 5<=Ta;decide) (.cons (.str _ _) (.cons (.str _ _) (.cons (.str _ _) (.cons (.str _ _) (.cons (.str _ _) .nil))))),(S6.mpr ⟨iC (UZ X G wQc) (.str _ _),(S6.mpr ⟨iC (UZ X G wQd) (.int _ _),(S6.mpr ⟨iC (UZ X G wQh) (.int _ _),(S6.mpr ⟨iC (UZ X G wQa) (.int _ _),(S6.mpr ⟨iC (UZ X G wQf) (.int _ _),(S6.mpr ⟨iC (UZ X G wQg) (.int _ _),(S6.mpr ⟨iC (UZ X G wQb) (.int _ _),(S6.mpr ⟨iC (UZ X G wQe) (.int _ _),(by intro p m;cases m)⟩)⟩)⟩)⟩)⟩)⟩)⟩)⟩)⟩),D0 (dcT:=dcT) rfl (S6.mpr ⟨zq (ls:=[("let",qQi0,.ref rQi0),("leap",qQi1,.ref rQi1),("get",qQi2,.ref rQi2),("put",qQi3,.ref rQi3),("take",qQi4,.ref rQi4),("free",qQi5,.ref rQi5),("send",qQi6,.ref rQi6),("fetch",qQi7,.ref rQi7),("say",qQi8,.ref rQi8),("clock",qQi9,.ref rQi9),("lot",qQi10,.ref rQi10),("hear",qQi11,.ref rQi11)]) (UZ X G wQi) oQi yQi (show([.inr "let",.inr "leap",.inr "get",.inr "put",.inr "take",.inr "free",.inr "send",.inr "fetch",.inr "say",.inr "clock",.inr "lot",.inr "hear"]:List Key).Nodup by decide +kernel) (.cons ⟨rfl,fz (us:=[.str "pocket" tQiv0_0,.str "sum" tQiv0_1]) oQiv0_ (by show 2<=Ta;decide) (.cons (.str _ _) (.cons (.str _ _) .nil))⟩ (.cons ⟨rfl,fz (us:=[.str "target" tQiv1_0,.str "sum" tQiv1_1]) oQiv1_ (by show 2<=Ta;decide) (.cons (.str _ _) (.cons (.str _ _) .nil))⟩ (.cons ⟨rfl,fz (us:=[.str "pocket" tQiv2_0,.str "box" tQiv2_1]) oQiv2_ (by show 2<=Ta;decide) (.cons (.str _ _) (.cons (.str _ _) .nil))⟩ (.cons ⟨rfl,fz (us:=[.str "box" tQiv3_0,.str "sum" tQiv3_1]) oQiv3_ (by show 2<=Ta;decide) (.cons (.str _ _) (.cons (.str _ _) .nil))⟩ (.cons ⟨rfl,fz (us:=[.str "lock" tQiv4_0]) oQiv4_ (by show 1<=Ta;decide) (.cons (.str _ _) .nil)⟩ (.cons ⟨rfl,fz (us:=[.str "lock" tQiv5_0]) oQiv5_ (by show 1<=Ta;decide) (.cons (.str _ _) .nil)⟩ (.cons ⟨rfl,fz (us:=[.str "lane" tQiv6_0,.str "sum" tQiv6_1]) oQiv6_ (by show 2<=Ta;decide) (.cons (.str _ _) (.cons (.str _ _) .nil))⟩ (.cons ⟨rfl,fz (us:=[.str "pocket" tQiv7_0,.str "lane" tQiv7_1]) oQiv7_ (by show 2<=Ta;decide) (.cons (.str _ _) (.cons (.str _ _) .nil))⟩ (.cons ⟨rfl,fz (us:=[.str "door" tQiv8_0,.str "sum" tQiv8_1]) oQiv8_ (by show 2<=Ta;decide) (.cons (.str _ _) (.cons (.str _ _) .nil))⟩ (.cons ⟨rfl,fz (us:=[.str "pocket" tQiv9_0]) oQiv9_ (by show 1<=Ta;decide) (.cons (.str _ _) .nil)⟩ (.cons ⟨rfl,fz (us:=[.str "pocket" tQiv10_0,.str "chances" tQiv10_1]) oQiv10_ (by show 2<=Ta;decide) (.cons (.str _ _) (.cons (.str _ _) .nil))⟩ (.cons ⟨rfl,fz (us:=[.str "pocket" tQiv11_0,.str "door" tQiv11_1]) oQiv11_ (by show 2<=Ta;decide) (.cons (.str _ _) (.cons (.str _ _) .nil))⟩ .nil)))))))))))),(S6.mpr ⟨zq (ls:=[("add",qQk0,.int 2 vQk0),("sub",qQk1,.int 2 vQk1),("mul",qQk2,.int 2 vQk2),("less",qQk3,.int 2 vQk3),("same",qQk4,.int 2 vQk4),("not",qQk5,.int 1 vQk5)]) (UZ X G wQk) oQk yQk (show([.inr "add",.inr "sub",.inr "mul",.inr "less",.inr "same",.inr "not"]:List Key).Nodup by decide +kernel) (.cons ⟨rfl,pK (.int _ _)⟩ (.cons ⟨rfl,pK (.int _ _)⟩ (.cons ⟨rfl,pK (.int _ _)⟩ (.cons ⟨rfl,pK (.int _ _)⟩ (.cons ⟨rfl,pK (.int _ _)⟩ (.cons ⟨rfl,pK (.int _ _)⟩ .nil)))))),(by intro p m;cases m)⟩)⟩)⟩
 refine Ih T (As (fnT:=fnT) rfl ?_) has.F4 rfl (Fo has A.2.2.2.2.2.2.2.2.2.2.2.2.2.2.2.2.2.2.2.2.2.2.2.2.2.2.2.2.2.2.2.2.2.2.2.2.2.2.2.1) hfa;exact fZ.go tW A λA=>fZ.go qb A λA=>fZ.go t7 A λA=>fZ.go oP A λA=>fZ.go wV A λA=>fZ.go xU A λA=>fZ.go za A λA=>fZ.go oZ A λA=>fZ.go qC A λA=>fZ.go AW A λA=>fZ.go zJ A λA=>fZ.go yj A λA=>fZ.go jE A λA=>fZ.go tX A λA=>fZ.go BN A λA=>fZ.go yz A λA=>fZ.go uk A λA=>fZ.go rL A λA=>fZ.go xX A λA=>fZ.go sG A λA=>fZ.go sX A λA=>fZ.go qi A λA=>fZ.go oS A λA=>fZ.go uI A λA=>fZ.go uL A λA=>fZ.go mV A λA=>fZ.go uE A λA=>fZ.go tL A λA=>fZ.go qF A λA=>fZ.go m6 A λA=>fZ.go nZ A λA=>fZ.go oO A λA=>fZ.go qY A λA=>fZ.go j7 A λA=>fZ.go kY A λA=>fZ.go j1 A λA=>fZ.go sC A λA=>fZ.go ir A λA=>fZ.go sH A λA=>fZ.go Fo A λ_ p m=>nomatch m
theorem walk{l:WN}{q:Ug}{loose:List Str}{XP:(Str->Option S5)->UU->Prop}{YP:Uz->UU->Prop}{d:DefRec}{K:Params->SV}(hn:l.most=fv 63)(hdf:d.params.defaults=[])
  (hY: ∀(w:Uz)(h:UU),YP w h->(K w.params).In h)
  (F: ∀(w:Uz)(mg:Str->Option S5)(fa:Tp)(h:UU),(K w.params).In h->h.Ns TX mg->mg d.name=fv (.ref fa) ->
   ∃ fd:Wd,(∀(s:Tc)(u:S5),XX s fd ⟨[u],[]⟩ [("_law_script",u)])/\ ∀ base:UU,(K w.params).In base->base.Ns TX mg->j6 l.prog w (K w.params) mg base qP (room+1) fa fd ["_law_script"] (uG (K w.params) tb (room+1) "law")) :
  aai q loose XP YP l.row.toRowW d [] (λf vs=>aan f vs) :=
 L2.DM (n:=63) (k:=room+1) (x:= "_law_script") (CX:=λ_=>qP) (sp:=λw=>uG (K w.params) tb (room+1) "law") hn (by decide) hdf ⟨rfl,by decide,by decide,rfl⟩ hY F (λ_ H a ns hl hO hS=>KQ AO H a ns hl hO hS) λ_ _ _ _ _ z=>z
end K03
open PySem PySem.W PyProof.Rows
set_option maxRecDepth 100000 in
set_option maxHeartbeats 0 in
theorem PySem.Challenge.cw_leastrecord_k03_programs_told_holds : PySem.Challenge.rw_leastrecord_k03_programs_told.Holds := by
 w_on;o_law;k_head;(case hw=>w_witness2)
 k_fill
 refine K03.walk (l:=PySem.Challenge.rw_leastrecord_k03_programs_told) rfl rfl (λw h Y=>PySem.W.kIn_of Y) ?F
 case F =>
  intro w mg fa h KX G hmg
  refine' K03.all_mk KX G hmg ?A ?Z ?_ ?_ ?_ ?_ ?_ ?_ ?_ ?_ ?_ ?_ ?_ ?_ ?_ ?_ ?_ ?_ ?_ ?_ ?_ ?_ ?_ ?_ ?_ ?_ ?_ ?_ ?_ ?_
  case' A=>repeat' first | exact trivial | refine' YZ (L2.LU KX G ?_ ?_ ?_ ?_) ?_
  case' Z=>repeat' first | exact trivial | refine' YZ ?_ ?_
  all_goals try k_is
  all_goals try k_is
  all_goals exact rfl
end
end
end
