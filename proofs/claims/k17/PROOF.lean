import PyProof.Rows.All
import Wide.All
import OpenK.KMake
import OpenK.KDescr
import OpenK.KOwn
import OpenK.KFacts
import KE.KItem
import OpenK.KOps
import OpenK.KMore
import OpenK.KCls
import OpenK.Peek
import KE.KFromBytes
import OpenK.KGet
import KE.KIsAll
import KE.KxBytes
import OpenK.KCall
import KE.KSortTup
import KE.KTryMore
import OpenK.KRaise
import KE.KSortAsk
import OpenK.KWalk
import OpenK.KLine
import Wide.FinOn
import PyProof.EqAt
import PyProof.EqKinds
import PyProof.TupleCall
import PyProof.P3In
import PyProof.NeData
import PyProof.ConsumeS
import PyProof.WalksMore
import PyProof.ReprRoads
import PyProof.ReprLen
import PyProof.Draws
import PyProof.EnumMake
import PyProof.EnumFor
import PyProof.CallFns
import PyProof.Rows.CallKwBuiltin
import Lean
import PyProof.AutoIntG2
import PyProof.DictRoadsH
import PyProof.ZipIter
import PySem.Challenge.RW_rootwebs_k17_all_roots
set_option Elab.async false
set_option compiler.extract_closed false
set_option bootstrap.genMatcherCode false
set_option linter.all false
noncomputable section
set_option maxHeartbeats 4000000
set_option maxRecDepth 100000
set_option hygiene false
local macro_rules|`(0e0)=>`(s.heap.objs.size)|`(0e1)=>`(by lia)|`(0e2)=>`(List (List Ć))|`(0e3)=>`(by decide)|`(0e4)=>`(aO X pins σ H s)|`(0e5)=>`(by kernel_rfl)|`(0e6)=>`(gS (eP (au (fW ć) (ai 1) (cC (.int 0)))) (aZ (bq (dz (ai 3)) [Ă,Ā 0] (ah 0) (dN) (dS)) (ah 5)) (gS (eP (au (fW ć) (ai 1) (cC (.int 1)))) (aZ (bq (dz (ai 3)) [Ă,Ā 0] (ah 0) (dM) (dR)) (ah 5)) (gS (eP (au (fW ć) (ai 1) (cC (.int 2)))) (aZ (au cq (bq (cA d3 (ag (au gG (ai 2) (cC (.int 1))) (aw))) [Ă] (ah 0) (a9) (cN)) (au gH (d4 (ag (bJ (ag (cC (.int 0)) (ag (au gG (ai 2) (cC (.int 1))) (aw)))) (aw))) (aA ku (ag (au (fL .Gt) (ai 2) (cC (.int 2))) (aw))))) (ah 5)) (gS (eP (au (fW ć) (ai 1) (cC (.int 3)))) (aZ (bq (cA d3 (ag (au gG (ai 2) (cC (.int 1))) (aw))) [Ă] (ah 0) (a9) (dQ)) (ah 5)) (gS (eP (au (fW ć) (ai 1) (cC (.int 4)))) (aZ (bq (cA lC (ag (cC (.int 1)) (ag (ai 2) (aw)))) [Ă] (ah 0) (a9) (cM)) (ah 5)) (aZ (bq (cA lC (ag (cC (.int 1)) (ag (ai 2) (aw)))) [Ă,Ā 0] (ah 0) (a9) (bR)) (ah 5)))))))|`(0e7)=>`(Č prog w)|`(0e8)=>`(fG X Nc scope cl C s H fp)|`(0e9)=>`(autoParam (X.K=p.K) ATr)|`(1e0)=>`(autoParam ((x == ("__debug__" : ď))=ć) ATs)|`(1e1)=>`(by simp)|`(1e2)=>`(Č X.prog X.w)|`(1e3)=>`(.obj J.length)|`(1e4)=>`(X.env)|`(1e5)=>`(ks.map ax)|`(1e6)=>`(W.fnOf x qual (cG st) (bt st) (aF st) .none kV doc pm an cdv ct)|`(1e7)=>`(.ListComp elt [⟨tg,iter,ifs,0⟩] scope pos)|`(1e8)=>`(λ_ F=>F.b1 rfl (by intros;rfl))|`(1e9)=>`(s.heap)|`(2e0)=>`(List (Ĉ×ħ))|`(2e1)=>`(nj P w K mg base N qual scope f cdv A outer s0 H0 E)|`(2e2)=>`(cC (.int 1))|`(2e3)=>`(X.fn x=ą\/X.env.scope.names.lookup x=Ā .local)
local macro_rules|`(2e4)=>`(cC (.int 0))|`(2e5)=>`(List D->az->aj D)|`(2e6)=>`(autoParam (∀x,Ė iter 1e4 x=pure x) ATt)|`(2e7)=>`((autoParam ((Ħ pos (ĉ es 1e4)).any (·.1)=ć) ATr))|`(2e8)=>`(autoParam (X.calm=ą) ATr)|`(2e9)=>`(List (Option ă))|`(3e0)=>`(by decide +kernel)|`(3e1)=>`(.type "BaseException")|`(3e2)=>`(.ref C)|`(3e3)=>`(λ_ F=>F.b2 rfl (by intros;rfl))|`(3e4)=>`(ai 0)|`(3e5)=>`(J1++[.lst a])|`(3e6)=>`(ď->Option ā)|`(3e7)=>`(aQ m ks)|`(3e8)=>`(X.A.units+64<į)|`(3e9)=>`(J.length)|`(4e0)=>`(items.size)|`(4e1)=>`(List Expr)|`(4e2)=>`((·.1))|`(4e3)=>`(autoParam (ĉ [e,e2] (nj P w K mg base N qual scope f cdv A outer s0 H0 E).env=(ć,eval e (nj P w K mg base N qual scope f cdv A outer s0 H0 E).env)::(ć,eval e2 (nj P w K mg base N qual scope f cdv A outer s0 H0 E).env)::ĉ [] (nj P w K mg base N qual scope f cdv A outer s0 H0 E).env) ATr)
set_option hygiene true
def ATrx(_:True:=by rfl):=0
def ATr:Lean.Syntax:=ATrx._auto_1
def ATsx(_:True:=by decide):=0
def ATs:Lean.Syntax:=ATsx._auto_1
def ATtx(_:True:=by intro _;rfl):=0
def ATt:Lean.Syntax:=ATtx._auto_1
def ATux(_:True:=by first|exact .inl rfl|exact .inr rfl|assumption):=0
def ATu:Lean.Syntax:=ATux._auto_1
def ATvx(_:True:=by first|exact Ð rfl|exact Ï rfl):=0
def ATv:Lean.Syntax:=ATvx._auto_1
def ATwx(_:True:=by first|exact .inl rfl|exact .inr rfl):=0
def ATw:Lean.Syntax:=ATwx._auto_1
def ATxx(_:True:=by kernel_rfl):=0
def ATx:Lean.Syntax:=ATxx._auto_1
noncomputable section
open Option.some renaming inj->Rp,injEq->Vd
open Prod renaming ext->Rq
open Array renaming mem_toList_iff->Rt,length_toList->Rv,getElem?_toList->Sh,toList_map->SC,getElem?_eq_some_iff->UW,getElem?_eq_none_iff->U5,getD_eq_getD_getElem?->U7,getElem?_eq_getElem->Vh,getElem?_eq_none->Á,replicate->Ç,getD->ö,forIn_toList->ÿ
open List renaming getElem_inj->Ru,nodup_range->Rw,getElem?_eq_some_iff->Se,ext_getElem?->Sf,getElem?_toArray->Sk,getElem?_append->Sl,getElem?_take->So,getElem?_drop->Sr,map_cons->SH,foldl_cons->SI,size_toArray->SJ,back?_toArray->SK,all_eq_true->SL,mem_range->SM,getD_eq_getElem?_getD->SQ,getElem?_map->SS,getElem?_eq_none->SU,perm_ext_iff_of_nodup->SV,pairwise_map->SW,mem_map->SY,mem_filter->S8,filterMap_cons->S9,mem_cons_self->Ta,mem_cons_of_mem->Tb,mem_cons->Td,mem_append->Te,mem_append_left->Tf,getElem?_set_self->Tg,getElem?_set_ne->Th,mem_filterMap->Tt,mem_append_right->Tu,append_nil->TC,nodup_cons->TL,of_mem_zip->TM,length_take->TQ,getElem?_append_right->TU,getElem?_replicate->TV,getElem?_append_left->TX,getElem?_take_of_lt->TY,take_sublist->TZ,mem_of_getElem?->T1,length_drop->Ua,map_nil->Uh,all_cons->Ul,length_append->Uq,length_singleton->Ur,length_map->Us,lookup_cons->Ut,length_cons->Uu,mem_singleton->UM,not_mem_nil->UN,range_succ_eq_map->UQ,map_map->UR,map_congr_left->US,length_range->UT,length_nil->UU,take_of_length_le->UX,getElem?_of_mem->UZ,take_append_drop->U0,map_append->U1,map_take->U2,map_drop->U3,mem_of_mem_take->U4,nodup_nil->U6,find?_cons->U8,append_assoc->Va,singleton_append->Vb,pairwise_cons->Ve,pairwise_lt_range->Vf,mem_map_of_mem->Vi,getElem?_eq_getElem->Vw,getElem_of_mem->VU,nodup_append->VV,drop_eq_getElem_cons->VY,drop_length->VZ,getElem?_range->V0,length_pos_iff->V8,eq_nil_of_length_eq_zero->V9,filter_cons->Wb,getElem_mem->Wh,contains_iff_mem->Wl,countP_cons->Wm,countP_map->Wn,set_cons_succ->Wu,set_cons_zero->Wv,filter_eq_self->Ww,nil_append->Wx,mem_flatMap->WA,filter_map->WE,range_succ->WG,flatMap_cons->WH,any_eq_true->WK,dropLast_concat_getLast->WL,cons_append->WM,length_filter_le->WN,filter_append->WO,countP_eq_length_filter->W3,flatten_cons->Xc
open Nat renaming le_refl->Rx,lt_of_lt_of_le->Ry,lt_succ_of_le->Rz,le_add_right->RA,le_succ_of_le->RG,le_trans->RH,le_of_eq->RI,add_right_comm->RJ,le_of_succ_le->RK,lt_of_le_of_ne->RN,le_sub_of_add_le->RO,succ_le_of_lt->RP,le_of_lt_succ->RR,zero_le->RT,lt_trans->RU,add_sub_of_le->RX,zero_lt_succ->RY,le_antisymm->RZ,le_of_not_lt->R0,le_succ->R6,lt_of_le_of_lt->R8,ne_of_gt->Sa,max_eq_left->Sb,min_eq_left->Si,le_of_lt->Sj,ne_of_lt->Sn,eq_of_beq_eq_true->SN,lt_irrefl->S7,min_le_right->T6,lt_succ_self->Uv,lt_succ_of_lt->Uw,add_comm->UP,eq_of_le_of_lt_succ->U9,zero_add->Vc,le_add_left->Vj,add_zero->Vv,add_le_add_left->V5,mul_le_mul->WQ,two_pow_pos->WR,or_lt_two_pow->WS,eq_of_testBit_eq->WT,testBit_two_pow->WU,log2_lt->WV,testBit_eq_decide_div_mod_eq->WW,pow_succ->WX,pow_le_pow_right->WY,testBit_lt_two_pow->WZ,testBit_or->W1,lt_add_left->W2,shiftRight_eq_div_pow->W4,le_max_left->W6,le_max_right->W7,testBit_mod_two_pow->W9,beq->Ň,land->ŗ,ble->Ţ,testBit_lt_two_pow->Â,lt_of_succ_lt_succ->Ã,le_add_right_of_le->Ä,le_of_ble_eq_true->È,ble_eq_true_of_le->É,pred->Ñ,pow_le_pow_right->Þ,add_lt_add_right->ß,add_le_add_right->à,blt->å,pos_of_ne_zero->AT,lt_of_lt_of_le->At,sub_self->G_,lt_of_succ_lt->L_,succ_ne_self->WF,succ_le_succ->WP,shiftLeft_eq->W_,min_le_left->Xf,rec->Xl,succ->Xp,not_lt->Xr,mod_lt->Xs,add_assoc->YO,pow->Yg,add->Yh,succ_mul->Yp,mul_comm->Yq,sub_le->ZO
open _root_ renaming decide_eq_true->RB,if_pos->RC,decide_eq_false->RD,if_neg->RE,congrArg->Sd,decide_eq_true_eq->SG,if_false->T7,if_true->T8,or_false->UO,beq_iff_eq->VJ,of_eq_true->VW,eq_self->VX,beq_self_eq_true->Wi,of_decide_eq_true->Wr,Nat->ă,Int->Ć,Bool->ċ,Array->ĕ,String->Ī,StateT->ĵ,False->ł,Unit->ŏ,ForInStep->ŕ,True->Ÿ,decide_eq_true_iff->Db,bne_self_eq_false->Q_,decide_eq_decide->XI,bne_iff_ne->X7,not_or->Yi,ite->ZI,modify->Zo
open Bool renaming false_ne_true->RF,and_eq_true->SE,eq_iff_iff->SR,false_eq_true->Vm,or_eq_true->Wa,not_true->WI,not_eq_true'->Xa,and_self->Xd,true->ą,false->ć,rec->Ĺ,and_false->Ø,and_eq_true_iff->Ü,not_false->Xx,true_and->YL,or_false->YM,false_or->YN
open Eq renaming trans->RM,symm->R9
open Int renaming lt_trans->RQ,ne_of_gt->Tw,le_of_lt->Tx,toNat_natCast->VT,le_trans->V6,le_antisymm->V7,lt_add_one_of_le->Wo,mul_le_mul_of_nonneg_right->Wp,add_lt_add_right->Wq,emod_nonneg->Ws,emod_lt_of_pos->Wt,toNat_of_nonneg->Wz,le_refl->WB,natCast_nonneg->WC,lt_of_le_of_lt->WJ,eq_ofNat_of_zero_le->W5,fdiv_eq_ediv_of_nonneg->Ū,le_of_lt_add_one->á,natAbs_natCast->A_,lt_of_lt_of_le->B_,emod_eq_of_lt->M_,lt_of_not_ge->XA,le_of_not_gt->XB,natCast_inj->Xg,add_nonneg->X8,pow_pos->α6
open PySem.W.KasT renaming kasWp_bind->RW
open Ne renaming symm->R7
open Option renaming bind_eq_some_iff->Ss,map_eq_some_iff->Sx,isSome_iff_exists->TN,some->Ā,none->Ă
open PySem.W renaming kasC_bind->Su,kasC_get->Sv,kasC_modify->SB,looks_findIn->VH,findIn->Ş,Looks->Ŵ,kas_rev->ç,mroIn->EQ,specialIn->TW,looks_mroIn->XY,looks_clsIn->XZ,kasC->Xo,kas_swaps_map->YT,clsIn->YW,kasC_pure->Yc,takesIn->Yk,KasT->α2,kas_item->α7,looseW->ZM,pre_splitW->ZS,WData->ZZ,OpenLaw->Ze,KatTups->Zf,Frag->Zg,notCls->Zn
open PySem renaming wpAny_rule->Sw,wpAny_attempt->Sy,wpAny_mono->SA,wpAny_pure->SD,wpAny_truthy_bool->Ti,wpAny_execs_nil->Tj,wpAny_bind->Tn,wpAny_holding->To,wpAny_standAt->Tp,wpAny_load->Tq,wpAny_passesOwn->Tv,sizeLine_eq->TB,wpAny_call->TF,codeAny_mono->TH,wpAny_Call_Name_kw->TJ,mem_of_lookup->TR,noFill_tuple_add->T2,wpAny_field->T9,wpAny_callSpecial?_slot->Ub,wpAny_call_entry->Ud,wpAny_typeOf->Ue,wpAny_newObj_type->Ug,call_meets->Uo,pushCells_keeps->Uy,codeAny_of_tree->Uz,wpAny_askSetting->UA,wpAny_of_eq->UB,wpAny_seqItems->UF,wpAny_setField->UG,wpAny_pyIter_tuple->UL,wpAny_forIn_list->Vk,wpAny_setState_of->Vl,codeAny_builtin->Vn,plainId_quiet->Vo,codeAny_call_builtin->Vr,wpAny_pyIter_list->Vs,wpAny_runValue->Vt,wpAny_setEntries_of->Vx,wpAny_setField_rec->Vy,wpAny_isInstance->Vz,wpAny_newList->VD,wpAny_loadPart_at->VF,wpAny_Call_ofName->VG,size_of_entries->VL,wpAny_dictEntries->VM,wpAny_dictEpoch->VO,wpAny_typeNameOfWhole_keyiter->VS,wpAny_tryCatch->We,wpAny_updateSeq->Wf,wpAny_letGo->Wg,plainObj_wpAny_Assign_Attribute->Wj,Value->ā,Shared->Ą,Addr->Ĉ,starEach->ĉ,wpAny->Ċ,model->Č,Program->č,Str->ď,Around->Đ,World->ē,Heap->Ĕ,foldedSetIterable->Ė,PyData->ė,Comprehension->Ě,mainGlobals->Ĝ,Stmt->ĝ,FuncData->ğ,bootBuiltins->Ġ,cellsFrom->Ģ,backTo->Ħ,Obj->ħ,attributeBase->ĩ,swapsWith->ī,compareOp->Ĭ,cLine->į,assignEach->Ķ,Scope->ĺ,binaryOp->Ļ,clausesOf->ļ,Pos->Ľ,codeAny->Ń,sysModules->ń,Env->Ŋ,Keyword->ŋ,NameKind->Ō,keywordEach->ō,CmpOp->Ő,wpAny_loadPart'->ő,argBest->œ,behindInMarks->Ř,entryOfKey->Ś,excClassObj->ś,assign->Ŝ,ReadsAll->ŝ,backToKw->Š,letOwnedTupleGo->š,Sem->Ť,bindArgs->Ŧ,recursionLimit->Ũ,wpAny_newFunctionEnv_cells->ū,leaving->Ů,sliceBounds->ů,ofAClassStatement->Ű,pyIter->ű,Result->Ų,Model->ų,setFlight->ŵ,noteFrame->Ŷ,checkBuiltinCall->ŷ,pyNext->Ż,IsPart->ż,typeLookup->ž,ExcBaseFacts->À,wpAny_Call_method_late->Å,wpAny_notOrdered_dict->Ê,wpAny_isOneOf_keyiter->Ë,wpAny_eqIsQuiet_tuple->Ì,weight_type_call_type->Í,codeAny_call_function->Î,atKey->Ò,typeOf->Ô,Operator->Õ,GenState->Ö,wpAny_loadPart->Ú,wpAny_loadName_local->â,standAt->æ,getItem->è,BindsTo->é,DictEntry->ê,wpAny_loadName_cell->í,wpAny_isSubtype_exc->î,wpAny_handled->ñ,swapsWithSole->ò,swappedStores->ó,setSearchFrom->ô,seq_tuple_add->õ,Params->ø,typeIs_int->û,builtinsNs->ý,wpAny_entryPlaceOf->Ch,tupleKind_room_in1->C_,Reads->Ev,intKind->E_,callerA->Fa,seqIndex_neg->Ix,concat_meets->J_,wpAny_storeSet_of->NE,wpAny_sequenceKey->No,wpAny_pyIter_slot->N_,wpAny_pyIter_enum->Op,wpAny_frameOf_fun->O_,wpAny_assign_Name->Ps,slot_list_getitem->P_,pickOrder->T0,isSubtype->Uf,PassesOwn->U_,wpAny_lookBehind->XC,wpAny_execs_cons->XE,pastItsLine_dict->XF,entryFor_of_fast->XH,check_set_init_1->XJ,bindL->XN,bindC->XO,wpAny_throw->XU,seqIndex_of->XV,richCompare->XX,wpAny_specialOf->Xh,Paired->Xm,setField->Xu,reprText->Xv,entryFor->Xw,wpAny_Name->Xy,wpAny_fieldsOf->X9,newFunctionEnv->YB,isSubtype_stop->YC,fitsIndex_both->YD,dictSetDefault->YE,call_min_walkS->YF,call_max_walkS->YG,rangeSize_one->YS,intBits_le_64->YU,evalPart_none->YV,storeName->YX,seqIndex?->YY,putSet_of->YZ,pushCells->Ya,onTheHeap->Yb,inplaceOp->Yd,ClassData->Ye,Arguments->Yf,argsOk->Yj,setItem->Yl,setAttr->Ym,collect->Yn,OwnTail->Yo,wpAny_nsSet1->Yr,sub_set_self->Ys,setAddHashed->Yt,name_of_addr->Yv,codeAny_func->Yx,call_range_1->Yy,Tok->α0,compTurn->α9,compEnvC->Y_,wpAny_alloc->ZC,subscripted->ZD,interactive->ZF,hashByValue->ZG,builtinKind->ZH,truthy->ZK,IsEnum->ZP,typeIs_str->ZQ,refuseLoop->ZR,noKeywords->ZT,isInstance->ZV,PlainAttrs->ZX,unaryOp->Za,release->Zb,getAttr->Zc,callAny->Zd,Walks->Zh,table->Zi,Moved->Zk,Drawn->Zl,DefRec->Zq,Slot->Zr,Flow->Zs
open PySem.Heap renaming get?_push_size->SZ,lt_size->S0,get?_none_of_le->Tc,get?_push_of_some->Tr,get?_update_self->Uj,get?_update_other->Uk,size_push->Ux,get?_update_ne->V4,SameBut->Į,MadeExcOf->ŧ,get?_push_ne->KT,get?_push_at->K_,ExtBut->XT
open PyProof.Rows renaming callWith_type1->Ts,slot_tuple_getitem->Uc,subscriptTail_builtinR->Ui,listUpdate_at->VB,get?_update_seq->VC,size_push'->VE,boot_isinstance->V3,seqObj->ĥ,envOfC->Ŀ,Keyed->Ŕ,IntsAre->Ŗ,AllBare->ţ,IsTup->Ó,entry_proto_collect'->ã,lt_int->ë,gt_int->ì,getElem?_mirror_all->ï,entry_tuple_getitem->ð,sortedHeap->ü,args_tuple_getitem->D_,failedOf->Go,listItems_at->I_,sortedAll->Tl,pendingOf->T_,entry_list_iadd'->XG,seqEpoch_at->XW,getElem?_bubble->Xi,entry_list_sort->Xj,bubble->Xq,boot_range->X6,slot_list_sort->X_,slicePart_none->YA,args_list_sort->YH,tupleItemsOf_->YQ,subscriptTail->YR,plain_sorted->Yu,entry_sorted->Yw,args_sorted1->Yz,arrOf->α3,gallopOf->α8,SortKind->ZB,kind_sorted->ZE,mirror->ZL,isTrue_and->ZU,Subscript_->ZW,Call_->Zm,keyLt'->Zp
open PySem.F renaming slot_tuple_add->T3,entry_tuple_add->T4,args_tuple_add_2->T5,slot_tuple_iterator_next->UC,entry_tuple_iterator_next->UD,args_tuple_iterator_next_1->UE,called_set->Vp,attr_ValueError->VI,slot_dict_setdefault->VN,slot_dict_keyiterator_next->VP,entry_dict_keyiterator_next->VQ,args_dict_keyiterator_next_1->VR,entry_min_loop->Wc,plain_min_loop->Wd
open PySem.Calls renaming callWith_builtin->Um,Name_function_global->ũ,call_function_entry->ŭ,evalArgs_plain->Û
open PySem.Obj renaming isFreed_of_fields->UH,data_mapFields->UI,cls_mapFields->UJ,mapSeq->Ğ,mapFields->ľ,putSet->ť,data_mapDictKeys->Ý
open PySem.Heap.SameBut renaming update->UK
open List.cons renaming inj->UV,injEq->W8
open Classical renaming byContradiction->UY
open List.Pairwise renaming map->Vg,filter->WD
open PySem.Code renaming quiet_builtin->Vq
open PySem.Walks renaming list->Vu,tuple->XQ
open PySem.Around renaming under_plainId->VA,frames_deeper->Ù,under_plain->þ,in1->ZJ
open PySem.SeqAt.ReadsAll renaming length->V1
open PySem.SeqAt renaming room_head->V2,EqAt->Ĵ,eqAt_reads->V_,room_tail->Xe
open PySem.PyData renaming canLayAll0->Ď,depthAll->Ē,canLay0->ě,eqv->ġ,leavesShortAll->Ĥ,depth->ĭ,showableAll->ķ,weightAll->ŀ,leavesShort->Ł,showable->ň,weight->Œ,int->ř,eqvAll->ş,tuple->ź
open PySem.Value renaming ref->đ,none->Ę,type->ģ,builtin->ņ,bool->Ŏ,int->ä,isInt_shape->IN,str->R_,float->XR,bytes->XS,isInt->α4
open False renaming elim->ę
open PySem.NameKind renaming cell->Ĩ,free->Ņ
open Decidable renaming byContradiction->Ŭ
open True renaming intro->Ź
open PySem.Str renaming ofString->Ž
open ForInStep renaming yield->Æ
open Or renaming inr->Ï,inl->Ð
open PySem.SeqAt.EqAt renaming str_int->ù,int_str->ú
open ToString renaming toString->F_
open Function renaming comp_def->H_
open MonadStateOf renaming set->S_
open Std.Legacy renaming Range->TD
open Prod.mk renaming inj->XM,injEq->YI
open Sum renaming inl->Xk,inr->ZY
open MonadState renaming get->Xn
open PySem.Shared renaming TypeIs->YJ
open PySem.Paired renaming length->YK
open PySem.Within renaming cons->α1
open ForIn renaming forIn->α5,forIn->Zj
variable{pins:2e0}{ks:0e2}{n:ă}{K:PySem.W.Frag}{Q:(ā->Ą->Prop)}{i:ă}{Y:List Ĉ}{E:(ā->Ą->Prop)}{s:Ą}{x:ď}{k:List Ć}{pos:Ľ}{mg:3e6}{w:ē}{a:Ĉ}{base:Ĕ}{A:Đ}{T:Ć->Ć->Option ă}{e:PySem.Expr}{m:ă}{outer:List Ŋ}{us:List ā}{kvs:(List (List Ć×ă))}{c:ă}{N:List ď}{ns:List Ć}{Z:List (ă×Ć×ā)}{prog:č}{es:ĕ (Ć×ā)}{β:Type}{f:(Ć->Option ă)}{scope:ĺ}{P:č}{env:Ŋ}{j:ă}{st:ĝ}{qual:ď}{dx:Option Ĉ}{fd:ğ}{u:ā}{tg:PySem.Expr}{kw:List (ď×ā)}{C:Prop}{its:List ā}{fp:List Ĉ}{px:Ľ}{XP:(ď->Option ā)->Ĕ->Prop}{t':ă}{b:Ĉ}{q:Ć}{pos':Ľ}{body:List ĝ}{apos:Ľ}{pos1:Ľ}{l:0e2}{cls:ā}{known:List ď}{h':Ĕ}{elts:List PySem.Expr}{op:Ő}{osl:ĕ (Option ā)}{lo:Option Ć}{gens:List Ě}{pos2:Ľ}{neg:ċ}{it:Ĉ}{mA:3e6}{mN:3e6}{L:Ĉ}{μ:ă->Ĕ->Prop}{mask:ă}{a0:ā}{ch:List Ĉ}{Nc:List ď}{rest:List PySem.Expr}{loose:List ď}{acc:Ĉ}{owner:ĕ (Option ă)}{z:ă×Ć×ā}{iter:PySem.Expr}{ep:ă}{γ:Type}{ox:ħ}{cdv:ā}{cl:List (ď×Ĉ)}{hs:List Ć}{np:Ľ}{YP:ē->Ĕ->Prop}{s0:Ą}{ea:Ĉ}{subs:List ď}{an:Option Ĉ}{cpos:Ľ}{elt:PySem.Expr}{fI:Ĉ}{key:ă->Ć}{k1:ă}{oe:ħ}{I:Ĉ}{s':Ą}{hadNext:ċ}{ob:PySem.Expr}{params:Yf}
namespace _l
open PySem PySem.Spec PyProof.Rows
noncomputable def cG(s:ĝ):Yf:=match s with
 |.FunctionDef _ a _ _ _ _ _ _ _ _=>a
 |_=>{posonlyargs:=[],args:=[],vararg:=Ă,kwonlyargs:=[],kw_defaults:=[],kwarg:=Ă,defaults:=[]}
noncomputable def bt(s:ĝ):List ĝ:=match s with
 |.FunctionDef _ _ b _ _ _ _ _ _ _=>b
 |_=>[]
noncomputable def aF(s:ĝ):ĺ:=match s with
 |.FunctionDef _ _ _ _ _ _ S _ _ _=>S
 |_=>{kind:=.function,names:=[],isGenerator:=ć,isCoroutine:=ć}
noncomputable def Oq(s:ĝ)(j:ă):ĝ:=match s with
 |.ClassDef _ _ _ body _ _ _ _ _ _ _=>body.getD j s
 |s=>s
end _l
namespace _w
open PySem PySem.Spec PyProof.Rows _l
noncomputable def top(i:ă):ĝ:=PySem.Challenge.pw_rootwebs_k17_all_roots.main.body.getD i (.Pass ⟨0,0,0,0⟩)
abbrev pD:ĝ:=top 14
abbrev oR:ĝ:=top 15
abbrev uW:ĝ:=top 16
abbrev mO:ĝ:=top 17
abbrev pB:ĝ:=top 18
abbrev pw:ĝ:=top 19
abbrev wd:ĝ:=top 20
abbrev pC:ĝ:=top 21
abbrev mP:ĝ:=top 22
abbrev oQ:ĝ:=top 23
abbrev uY:ĝ:=top 24
abbrev uX:ĝ:=top 25
abbrev pz:ĝ:=top 26
abbrev pA:ĝ:=top 27
abbrev sr:ĝ:=top 28
abbrev mR:ĝ:=top 30
abbrev sv:ĝ:=top 31
abbrev oU:ĝ:=top 32
abbrev sx:ĝ:=top 33
abbrev pE:ĝ:=top 34
abbrev mQ:ĝ:=top 35
abbrev pI:ĝ:=top 36
abbrev l7:ĝ:=top 37
abbrev uZ:ĝ:=top 38
abbrev pF:ĝ:=top 39
abbrev lr:ĝ:=top 40
abbrev oS:ĝ:=top 41
abbrev pJ:ĝ:=top 42
abbrev pG:ĝ:=top 43
abbrev su:ĝ:=top 44
abbrev pH:ĝ:=top 45
abbrev jT:ĝ:=top 46
noncomputable def en(P:ø)(n:ď)(t:α0)(v:ā):ê:=⟨ė.keyHash P n,.str n t,v⟩
def fo (n:ď) (s:ĝ) (m:ď) (t:α0) (c:Ĉ):ħ:=⟨.type "function",Ă,.func (W.fnOf n n (cG s) (bt s) (aF s) .none .none .none (.str m t) Ă (.ref c) .none),#[]⟩
noncomputable def co (n:ď) (t:α0) (l k i:Ć) (a:Ĉ) (p:ċ) (u:ă):ħ:=⟨.type "code",Ă,.fields #[.str n t,.str n (t+1),.str "/claim/cut.py" (t+2),.int l 0,.int k 0,.int 0 0,.int 0 0,.int 3 0,.ref a,.bool ą,.int i 0,.ref (a+1),.none,bif p then .ref (a+2) else .none,bif p then .ref (a+3) else .none,.ref (bif p then a+4 else a+2),.int u 0,.int l 0,.str "/claim/cut.py" (u+1)],#[]⟩
def OZ (n q:ď) (s:ĝ) (m:ď) (t:α0) (c:Ĉ):ħ:=⟨.type "function",Ă,.func (W.fnOf n q (cG s) (bt s) (aF s) .none .none .none (.str m t) Ă (.ref c) .none),#[]⟩
def Kz (P:ø):W.Frag:=[(3,⟨.type "dict",Ă,.dict #[en P "__name__" 165 (.str "law_rootwebs_k17_all_roots" 472),en P "__doc__" 166 .none,en P "__package__" 167 .none,en P "__loader__" 168 (.builtin "__main__.__loader__#opaque"),en P "__spec__" 169 .none,en P "__annotations__" 170 (.ref 6),en P "__builtins__" 171 (.ref 4),en P "__file__" 173 (.str "/claim/cut.py" 172),en P "__cached__" 174 .none,en P "RootError" 206 (.ref 24),en P "NoPlace" 222 (.ref 37),en P "NoNumber" 238 (.ref 49),en P "NoLine" 254 (.ref 61),en P "NoRoot" 270 (.ref 73),en P "NoTree" 286 (.ref 85),en P "NoWeb" 311 (.ref 104),en P "NoText" 336 (.ref 123),en P "TooGreat" 363 (.ref 142),en P "MOST_TIES" 367 (.int 12 366),en P "MOST_ROOTS" 369 (.int 300 368),en P "ROOT_STEPS" 371 (.int 2 370),en P "check_ties" 379 (.ref 151),en P "check_roots" 386 (.ref 158),en P "steps_at" 392 (.ref 163),en P "ways_between" 398 (.ref 168),en P "clashes_at" 404 (.ref 173),en P "settled_at" 410 (.ref 178),en P "is_made" 416 (.ref 183),en P "choices_by" 422 (.ref 188),en P "root_choices" 430 (.ref 195),en P "chosen_ties" 436 (.ref 200),en P "roots_by" 442 (.ref 205),en P "roots_of" 449 (.ref 212),en P "roots_many" 456 (.ref 219),en P "first_root" 463 (.ref 226),en P "all_roots" 471 (.ref 233),en P "_law_cell_at" 481 (.ref 240),en P "_law_next" 488 (.ref 247),en P "_law_pen_of" 496 (.ref 254),en P "_law_draw" 505 (.ref 261),en P "_law_whole" 512 (.ref 268),en P "_law_kind_of" 520 (.ref 275),en P "_law_named" 526 (.ref 280),en P "_law_names_by" 532 (.ref 285),en P "_law_far" 538 (.ref 290),en P "_law_steps" 544 (.ref 295),en P "_law_sparse_by" 550 (.ref 300),en P "_law_web_by" 562 (.ref 307),en P "_law_makes" 573 (.ref 314),en P "_law_roots" 579 (.ref 319),en P "_law_told" 588 (.ref 326),en P "_law_right" 594 (.ref 331),en P "law" 600 (.ref 336)] 53,#[]⟩),
 (23,⟨.type "dict",Ă,.dict #[en P "__module__" 196 (.str "rootwebs.errors" 187),en P "__firstlineno__" 200 (.int 2 199),en P "__static_attributes__" 201 (.ref 22),en P "__weakref__" 203 (.ref 25),en P "__doc__" 204 .none] 3,#[]⟩),
 (24,⟨.type "type",Ă,.cls ⟨"RootError",[(.type "ValueError")],[(.ref 24),(.type "ValueError"),(.type "Exception"),3e1,(.type "object")],23, "RootError",ą,[],[(.ref 37),(.ref 49),(.ref 61),(.ref 73),(.ref 85),(.ref 104),(.ref 123),(.ref 142)],ć,Ă,ć⟩,#[Ā (.ref 15),Ă,Ā (.str "RootError" 189),Ā (.str "RootError" 197),Ā (.builtin "ValueError.__new__"),Ā (.bool ą)]⟩),
 (36,⟨.type "dict",Ă,.dict #[en P "__module__" 214 (.str "rootwebs.errors" 187),en P "__firstlineno__" 218 (.int 4 217),en P "__static_attributes__" 219 (.ref 35),en P "__doc__" 220 .none] 2,#[]⟩),
 (37,⟨.type "type",Ă,.cls ⟨"NoPlace",[(.ref 24)],[(.ref 37),(.ref 24),(.type "ValueError"),(.type "Exception"),3e1,(.type "object")],36, "NoPlace",ą,[],[],ć,Ă,ć⟩,#[Ā (.ref 28),Ă,Ā (.str "NoPlace" 207),Ā (.str "NoPlace" 215),Ā (.builtin "ValueError.__new__"),Ā (.bool ą)]⟩),
 (48,⟨.type "dict",Ă,.dict #[en P "__module__" 230 (.str "rootwebs.errors" 187),en P "__firstlineno__" 234 (.int 6 233),en P "__static_attributes__" 235 (.ref 47),en P "__doc__" 236 .none] 2,#[]⟩),
 (49,⟨.type "type",Ă,.cls ⟨"NoNumber",[(.ref 24)],[(.ref 49),(.ref 24),(.type "ValueError"),(.type "Exception"),3e1,(.type "object")],48, "NoNumber",ą,[],[],ć,Ă,ć⟩,#[Ā (.ref 40),Ă,Ā (.str "NoNumber" 223),Ā (.str "NoNumber" 231),Ā (.builtin "ValueError.__new__"),Ā (.bool ą)]⟩),
 (60,⟨.type "dict",Ă,.dict #[en P "__module__" 246 (.str "rootwebs.errors" 187),en P "__firstlineno__" 250 (.int 8 249),en P "__static_attributes__" 251 (.ref 59),en P "__doc__" 252 .none] 2,#[]⟩),
 (61,⟨.type "type",Ă,.cls ⟨"NoLine",[(.ref 24)],[(.ref 61),(.ref 24),(.type "ValueError"),(.type "Exception"),3e1,(.type "object")],60, "NoLine",ą,[],[],ć,Ă,ć⟩,#[Ā (.ref 52),Ă,Ā (.str "NoLine" 239),Ā (.str "NoLine" 247),Ā (.builtin "ValueError.__new__"),Ā (.bool ą)]⟩),
 (72,⟨.type "dict",Ă,.dict #[en P "__module__" 262 (.str "rootwebs.errors" 187),en P "__firstlineno__" 266 (.int 10 265),en P "__static_attributes__" 267 (.ref 71),en P "__doc__" 268 .none] 2,#[]⟩),
 (73,⟨.type "type",Ă,.cls ⟨"NoRoot",[(.ref 24)],[(.ref 73),(.ref 24),(.type "ValueError"),(.type "Exception"),3e1,(.type "object")],72, "NoRoot",ą,[],[],ć,Ă,ć⟩,#[Ā (.ref 64),Ă,Ā (.str "NoRoot" 255),Ā (.str "NoRoot" 263),Ā (.builtin "ValueError.__new__"),Ā (.bool ą)]⟩),
 (84,⟨.type "dict",Ă,.dict #[en P "__module__" 278 (.str "rootwebs.errors" 187),en P "__firstlineno__" 282 (.int 12 281),en P "__static_attributes__" 283 (.ref 83),en P "__doc__" 284 .none] 2,#[]⟩),
 (85,⟨.type "type",Ă,.cls ⟨"NoTree",[(.ref 24)],[(.ref 85),(.ref 24),(.type "ValueError"),(.type "Exception"),3e1,(.type "object")],84, "NoTree",ą,[],[],ć,Ă,ć⟩,#[Ā (.ref 76),Ă,Ā (.str "NoTree" 271),Ā (.str "NoTree" 279),Ā (.builtin "ValueError.__new__"),Ā (.bool ą)]⟩),
 (103,⟨.type "dict",Ă,.dict #[en P "__module__" 294 (.str "rootwebs.errors" 187),en P "__firstlineno__" 298 (.int 14 297),en P "__init__" 306 (.ref 101),en P "__static_attributes__" 308 (.ref 102),en P "__doc__" 309 .none] 2,#[]⟩),
 (104,⟨.type "type",Ă,.cls ⟨"NoWeb",[(.ref 24)],[(.ref 104),(.ref 24),(.type "ValueError"),(.type "Exception"),3e1,(.type "object")],103, "NoWeb",ą,[],[],ć,Ă,ć⟩,#[Ā (.ref 88),Ă,Ā (.str "NoWeb" 287),Ā (.str "NoWeb" 295),Ā (.builtin "ValueError.__new__"),Ā (.bool ą)]⟩),
 (122,⟨.type "dict",Ă,.dict #[en P "__module__" 319 (.str "rootwebs.errors" 187),en P "__firstlineno__" 323 (.int 18 322),en P "__init__" 331 (.ref 120),en P "__static_attributes__" 333 (.ref 121),en P "__doc__" 334 .none] 2,#[]⟩),
 (123,⟨.type "type",Ă,.cls ⟨"NoText",[(.ref 24)],[(.ref 123),(.ref 24),(.type "ValueError"),(.type "Exception"),3e1,(.type "object")],122, "NoText",ą,[],[],ć,Ă,ć⟩,#[Ā (.ref 107),Ă,Ā (.str "NoText" 312),Ā (.str "NoText" 320),Ā (.builtin "ValueError.__new__"),Ā (.bool ą)]⟩),
 (138,⟨.type "code",Ă,.fields #[(.str "__init__" 349),(.str "TooGreat.__init__" 350),(.str "/claim/cut.py" 351),(.int 24 0),(.int 3 0),(.int 0 0),(.int 0 0),(.int 3 0),(.ref 133),(.bool ą),(.int 181 0),(.ref 134),.none,(.ref 135),(.ref 136),(.ref 137),(.int 355 0),(.int 24 0),(.str "/claim/cut.py" 356)],#[]⟩),
 (139,OZ "__init__" "TooGreat.__init__" (Oq (top 9) 0) "rootwebs.errors" 187 138),
 (141,⟨.type "dict",Ă,.dict #[en P "__module__" 344 (.str "rootwebs.errors" 187),en P "__firstlineno__" 348 (.int 22 347),en P "__init__" 357 (.ref 139),en P "__static_attributes__" 360 (.ref 140),en P "__doc__" 361 .none] 2,#[]⟩),
 (142,⟨.type "type",Ă,.cls ⟨"TooGreat",[(.ref 24)],[(.ref 142),(.ref 24),(.type "ValueError"),(.type "Exception"),3e1,(.type "object")],141, "TooGreat",ą,[],[],ć,Ă,ć⟩,#[Ā (.ref 126),Ă,Ā (.str "TooGreat" 337),Ā (.str "TooGreat" 345),Ā (.builtin "ValueError.__new__"),Ā (.bool ą)]⟩),
 (150,co "check_ties" 372 31 1 181 145 ą 377),
 (151,fo "check_ties" pD "rootwebs.roots" 364 150),
 (157,co "check_roots" 380 35 1 181 152 ą 384),
 (158,fo "check_roots" oR "rootwebs.roots" 364 157),
 (162,co "steps_at" 387 38 1 181 159 ć 390),
 (163,fo "steps_at" uW "rootwebs.roots" 364 162),
 (167,co "ways_between" 393 45 2 181 164 ć 396),
 (168,fo "ways_between" mO "rootwebs.roots" 364 167),
 (172,co "clashes_at" 399 55 2 181 169 ć 402),
 (173,fo "clashes_at" pB "rootwebs.roots" 364 172),
 (177,co "settled_at" 405 62 1 181 174 ć 408),
 (178,fo "settled_at" pw "rootwebs.roots" 364 177),
 (182,co "is_made" 411 67 2 181 179 ć 414),
 (183,fo "is_made" wd "rootwebs.roots" 364 182),
 (187,co "choices_by" 417 69 3 181 184 ć 420),
 (188,fo "choices_by" pC "rootwebs.roots" 364 187),
 (194,co "root_choices" 423 84 2 181 189 ą 428),
 (195,fo "root_choices" mP "rootwebs.roots" 364 194),
 (199,co "chosen_ties" 431 86 2 181 196 ć 434),
 (200,fo "chosen_ties" oQ "rootwebs.roots" 364 199),
 (204,co "roots_by" 437 88 2 181 201 ć 440),
 (205,fo "roots_by" uY "rootwebs.roots" 364 204),
 (211,co "roots_of" 443 91 1 181 206 ą 447),
 (212,fo "roots_of" uX "rootwebs.roots" 364 211),
 (218,co "roots_many" 450 93 1 181 213 ą 454),
 (219,fo "roots_many" pz "rootwebs.roots" 364 218),
 (225,co "first_root" 457 96 1 181 220 ą 461),
 (226,fo "first_root" pA "rootwebs.roots" 364 225),
 (232,co "all_roots" 464 99 1 181 227 ą 469),
 (233,fo "all_roots" sr "rootwebs.roots" 364 232),
 (239,co "_law_cell_at" 474 105 2 181 234 ą 479),
 (240,fo "_law_cell_at" mR "law_rootwebs_k17_all_roots" 472 239),
 (246,co "_law_next" 482 109 1 181 241 ą 486),
 (247,fo "_law_next" sv "law_rootwebs_k17_all_roots" 472 246),
 (253,co "_law_pen_of" 489 112 1 181 248 ą 494),
 (254,fo "_law_pen_of" oU "law_rootwebs_k17_all_roots" 472 253),
 (260,co "_law_draw" 497 115 2 181 255 ą 503),
 (261,fo "_law_draw" sx "law_rootwebs_k17_all_roots" 472 260),
 (267,co "_law_whole" 506 122 1 181 262 ą 510),
 (268,fo "_law_whole" pE "law_rootwebs_k17_all_roots" 472 267),
 (274,co "_law_kind_of" 513 124 1 181 269 ą 518),
 (275,fo "_law_kind_of" mQ "law_rootwebs_k17_all_roots" 472 274),
 (279,co "_law_named" 521 130 2 181 276 ć 524),
 (280,fo "_law_named" pI "law_rootwebs_k17_all_roots" 472 279),
 (284,co "_law_names_by" 527 133 2 181 281 ć 530),
 (285,fo "_law_names_by" l7 "law_rootwebs_k17_all_roots" 472 284),
 (289,co "_law_far" 533 136 1 181 286 ć 536),
 (290,fo "_law_far" uZ "law_rootwebs_k17_all_roots" 472 289),
 (294,co "_law_steps" 539 147 2 181 291 ć 542),
 (295,fo "_law_steps" pF "law_rootwebs_k17_all_roots" 472 294),
 (299,co "_law_sparse_by" 545 153 1 181 296 ć 548),
 (300,fo "_law_sparse_by" lr "law_rootwebs_k17_all_roots" 472 299),
 (306,co "_law_web_by" 551 172 1 181 301 ą 560),
 (307,fo "_law_web_by" oS "law_rootwebs_k17_all_roots" 472 306),
 (313,co "_law_makes" 563 185 2 181 308 ą 571),
 (314,fo "_law_makes" pJ "law_rootwebs_k17_all_roots" 472 313),
 (318,co "_law_roots" 574 192 1 181 315 ć 577),
 (319,fo "_law_roots" pG "law_rootwebs_k17_all_roots" 472 318),
 (325,co "_law_told" 580 204 2 181 320 ą 586),
 (326,fo "_law_told" su "law_rootwebs_k17_all_roots" 472 325),
 (330,co "_law_right" 589 211 1 181 327 ć 592),
 (331,fo "_law_right" pH "law_rootwebs_k17_all_roots" 472 330),
 (335,co "law" 595 224 1 181 332 ć 598),
 (336,fo "law" jT "law_rootwebs_k17_all_roots" 472 335)]
noncomputable def Qz:č:=W.view PySem.Challenge.pw_rootwebs_k17_all_roots [1,2,3,4,5,6,7,8,9,11,12,13,14,15,16,17,18,19,20,21,22,23,24,25,26,27,28,30,31,32,33,34,35,36,37,38,39,40,41,42,43,44,45,46]
noncomputable abbrev Hz:W.Hook:=W.kHook Kz [3,23,24,36,37,48,49,60,61,72,73,84,85,103,104,122,123,138,139,141,142,150,151,157,158,162,163,167,168,172,173,177,178,182,183,187,188,194,195,199,200,204,205,211,212,218,219,225,226,232,233,239,240,246,247,253,254,260,261,267,268,274,275,279,280,284,285,289,290,294,295,299,300,306,307,313,314,318,319,325,326,330,331,335,336] λ_=>by kernel_rfl
theorem HD:PySem.Challenge.rw_rootwebs_k17_all_roots.wellSaid=ą:=by kernel_rfl
noncomputable abbrev Xz(s:Ą):ċ:=W.xlAt Qz [] s&&W.recOk (W.RowW.records (W.OpenRow.toRowW (W.OpenLaw.row PySem.Challenge.rw_rootwebs_k17_all_roots))) s
theorem we{σ Y β γ δ1 δ2 δ3 δ4 δ5 δ6 ε:Type _}{o:Option σ}(F:σ->Y×β×γ×δ1×δ2×δ3×δ4×δ5×δ6)(G:σ->ε)(g:Y×β×γ×δ1×δ2×δ3×δ4×δ5×δ6)(v:ε)
  (H:o.map (λs=>(F s).1)=Ā g.1) (c:o.map (λs=>(F s).2.1)=Ā g.2.1) (d:o.map (λs=>(F s).2.2.1)=Ā g.2.2.1) (f:o.map (λs=>(F s).2.2.2.1)=Ā g.2.2.2.1)
  (i:o.map (λs=>((F s).2.2.2.2.1,(F s).2.2.2.2.2.1,(F s).2.2.2.2.2.2.1))=Ā (g.2.2.2.2.1,g.2.2.2.2.2.1,g.2.2.2.2.2.2.1)) (j:o.map (λs=>((F s).2.2.2.2.2.2.2.1,(F s).2.2.2.2.2.2.2.2))=Ā (g.2.2.2.2.2.2.2.1,g.2.2.2.2.2.2.2.2))
  (h:o.map G=Ā v):o.map (λs=>(F s,G s))=Ā (g,v):=by
 cases o with
 |none=>cases h
 |some s=>
  have E:=XM (Rp i);have a:=XM E.2;have b:=XM (Rp j);have e:F s=g:=Rq (Rp H) (Rq (Rp c) (Rq (Rp d) (Rq (Rp f) (Rq E.1 (Rq a.1 (Rq a.2 (Rq b.1 b.2)))))));show Ā (F s,G s)=Ā (g,v);rw[e,Rp h]
noncomputable abbrev Oz(w:ē):=W.openEnds PySem.treeTable PySem.Challenge.rw_rootwebs_k17_all_roots.row.prog w 6008
noncomputable abbrev Sz:=W.openSeen Qz [] (PySem.importedModules PySem.Challenge.rw_rootwebs_k17_all_roots.row.prog.main.body) Xz ą
noncomputable abbrev Tz:=W.openGood Qz []
open PySem PySem.W PySem.Calls PyProof.Rows in
theorem D4:∀w,(Oz w).map (λs=>seen ((recsOf Qz).map (·.name)) (ownsOf Qz) [] {s with gens:=#[]})=Ā (expectedOf Qz):=λw=>by kernel_rfl
open PySem PySem.W PySem.Calls PyProof.Rows in
theorem D3:∀w,(Oz w).map (λs=>s.heap.bltView)=Ā bltViewBooted:=λw=>by kernel_rfl
open PySem PySem.W PySem.Calls PyProof.Rows in
theorem D2:∀w,(Oz w).map (λs=>s.heap.keysOk (ZM Qz []) ((recsOf Qz).map (·.name)) ((litsOf Qz).map 4e2) ((clssOf Qz (ZM Qz [])).map (·.name))&&s.heap.accountedOkI (PySem.importedModules PySem.Challenge.rw_rootwebs_k17_all_roots.row.prog.main.body)&&s.heap.isNs Ĝ&&s.heap.isNs ý&&tablesOk Qz 1e9&&Xz s&&(if ą then s.gens.size == 0 else !leftWithCleanup s.gens))=Ā ą:=λw=>by kernel_rfl
open PySem PySem.W PySem.Calls PyProof.Rows in
theorem D1:∀w,(Oz w).map (λs=>tabsOk Qz s)=Ā ą:=λw=>by kernel_rfl
open PySem PySem.W PySem.Calls PyProof.Rows in
theorem D0:∀w,(Oz w).map (λs=>(pinSeenD Qz (drecsOf Qz) s,plainSeenE Qz (ZM Qz []) s,plainSeenD Qz [] s))=Ā (pinGoodD (drecsOf Qz),plainGoodE Qz (ZM Qz []),plainGoodD Qz []):=λw=>by kernel_rfl
open PySem PySem.W PySem.Calls PyProof.Rows in
theorem DZ:∀w,(Oz w).map (λs=>(wideSeen Qz s,clsSeenW Qz [] s))=Ā (wideGood Qz,clsGoodW Qz []):=λw=>by kernel_rfl
theorem DY:∀w,(Oz w).map (W.Hook.obs Hz)=Ā (W.Hook.val Hz w):=λw=>by kernel_rfl
theorem HE:W.LeftO PySem.Challenge.rw_rootwebs_k17_all_roots.row.prog Qz [] Xz (W.Hook.obs Hz) (W.Hook.val Hz) 6008:=λw=>we Sz (W.Hook.obs Hz) Tz (W.Hook.val Hz w) (D4 w) (D3 w) (D2 w) (D1 w) (D0 w) (DZ w) (DY w)
end _w
namespace _v
noncomputable def sJ(a b:ă):ă:=if a<b then b*(b-1) / 2+a else a*(a-1) / 2+b
noncomputable def kj:List (ă×ă):=(List.range 6).flatMap λb=>(List.range b).map λa=>(a,b)
def Ot(p:ă×ă):ă×List (ă×ă):=(sJ p.1 p.2,((List.range 6).filter λc=>c != p.1&&c != p.2).map λc=>(sJ p.1 c,sJ c p.2))
noncomputable def tab:List (ă×List (ă×ă)):=[(0,[(1,2),(3,4),(6,7),(10,11)]),(1,[(0,2),(3,5),(6,8),(10,12)]),(2,[(0,1),(4,5),(7,8),(11,12)]),(3,[(0,4),(1,5),(6,9),(10,13)]),(4,[(0,3),(2,5),(7,9),(11,13)]),(5,[(1,3),(2,4),(8,9),(12,13)]),(6,[(0,7),(1,8),(3,9),(10,14)]),(7,[(0,6),(2,8),(4,9),(11,14)]),(8,[(1,6),(2,7),(5,9),(12,14)]),(9,[(3,6),(4,7),(5,8),(13,14)]),(10,[(0,11),(1,12),(3,13),(6,14)]),(11,[(0,10),(2,12),(4,13),(7,14)]),(12,[(1,10),(2,11),(5,13),(8,14)]),(13,[(3,10),(4,11),(5,12),(9,14)]),(14,[(6,10),(7,11),(8,12),(9,13)])]
theorem Ib:tab=kj.map Ot:=by decide +kernel
noncomputable def Ag(x:ă)(t:ă×List (ă×ă)):ċ:=x.testBit t.1 || t.2.any λp=>x.testBit p.1&&x.testBit p.2
def sz(x:ă):ă:=tab.countP (Ag x)
def vD(x:ă):ă:=tab.foldl (λs t=>2*s+(Ag x t).toNat) 0
def w6:ă->ă->List ă->List ă
 |0,x,a=>if Ţ (sz x) 12=ą then x::a else a
 |i+1,x,a=>if Ţ (sz x) 12=ą then w6 i x (w6 i (x+2^i) a) else a
noncomputable def QL(n:ă)(acc:List ă):List ă:=match n with
 |0=>0::acc
 |y+1=>(y+1)::acc
noncomputable def yP:List (List ă):=[[1,6,24,192,3072],[2,5,40,320,5120],[4,3,48,384,6144],[8,17,34,576,9216],[16,9,36,640,10240],[32,10,20,768,12288],[64,129,258,520,17408],[128,65,260,528,18432],[256,66,132,544,20480],[512,72,144,288,24576],[1024,2049,4098,8200,16448],[2048,1025,4100,8208,16512],[4096,1026,2052,8224,16640],[8192,1032,2064,4128,16896],[16384,1088,2176,4352,8704]]
theorem xF:yP=tab.map λt=>2^t.1::t.2.map λp=>2^p.1 ||| 2^p.2:=by decide +kernel
noncomputable def Dq(x:ă)(s:List ă):ċ:=@List.rec ă (λ_=>ċ) ć (λm _ i=>@Ĺ (λ_=>ċ) i ą (Ň (ŗ x m) m)) s
def Lk(x:ă)(T:List (List ă)):ă:=@List.rec (List ă) (λ_=>ă) 0 (λt _ i=>@Ĺ (λ_=>ă) i (Xp i) (Dq x t)) T
def AX(x:ă)(T:List (List ă)):ă->ă:=@List.rec (List ă) (λ_=>ă->ă) (λs=>s) (λt _ i s=>i (Yh (ă.mul 2 s) (@Ĺ (λ_=>ă) 0 1 (Dq x t)))) T
def yT:ă->ă->List ă->List ă
 |0,x,a=>@Ĺ (λ_=>List ă) a (QL (AX x yP 0) a) (Ţ (Lk x yP) 12)
 |i+1,x,a=>@Ĺ (λ_=>List ă) a (yT i x (yT i (Yh x (Yg 2 i)) a)) (Ţ (Lk x yP) 12)
noncomputable def K9(m:ă)(l:List ă):List ă:=@List.rec ă (λ_=>List ă) [] (λx _ i=>@Ĺ (λ_=>List ă) (x::i) i (Ň (ŗ x m) 0)) l
noncomputable def Lq(m:ă)(l:List ă):List ă:=@List.rec ă (λ_=>List ă) [] (λx _ i=>@Ĺ (λ_=>List ă) i (x::i) (Ň (ŗ x m) 0)) l
noncomputable def Lp:List ă:=[5871,11127,19899,29149,32286,32736]
def Rc(v:ă):ċ:=@List.rec ă (λ_=>ċ) ć (λa _ i=>@Ĺ (λ_=>ċ) i ą (Ň a v)) Lp
def qX:ă->List ă->ċ
 |0,l=>@Ĺ (λ_=>ċ) (@List.rec ă (λ_=>ċ) ć (λv _ _=>Rc v) l) ą (Ţ l.length 63)
 |n+1,l=>@Ĺ (λ_=>ċ) (@Ĺ (λ_=>ċ) ć (qX n (Lq (Yg 2 n) l)) (qX n (K9 (Yg 2 n) l))) ą (Ţ l.length 63)
set_option maxHeartbeats 0 in
theorem KM:qX 15 (yT 15 0 [])=ą:=by decide +kernel
end _v
theorem gF{P Q R:Prop}{C:Prop}(h:P/\Q/\R)(k:P->Q->R->C):C:=k h.1 h.2.1 h.2.2
theorem lB{P Q R S:Prop}{C:Prop}(h:P/\Q/\R/\S)(k:P->Q->R->S->C):C:=k h.1 h.2.1 h.2.2.1 h.2.2.2
theorem iy{P Q R S T:Prop}{C:Prop}(h:P/\Q/\R/\S/\T)(k:P->Q->R->S->T->C):C:=k h.1 h.2.1 h.2.2.1 h.2.2.2.1 h.2.2.2.2
theorem d5{P Q R S T U:Prop}{C:Prop}(h:P/\Q/\R/\S/\T/\U)(k:P->Q->R->S->T->U->C):C:=k h.1 h.2.1 h.2.2.1 h.2.2.2.1 h.2.2.2.2.1 h.2.2.2.2.2
theorem kh{Y:Sort _}{P:Prop}{Q R:Y->Prop}{C:Prop}(h:P/\∃a,Q a/\R a)(k:P->∀a,Q a->R a->C):C:=h.2.elim λa H=>k h.1 a H.1 H.2
theorem bb{Y:Sort _}{P Q:Y->Prop}{C:Prop}(h:∃a,P a/\Q a)(k:∀a,P a->Q a->C):C:=h.elim λa H=>k a H.1 H.2
theorem bo{Y:Sort _}{P Q R:Y->Prop}{C:Prop}(h:∃a,P a/\Q a/\R a)(k:∀a,P a->Q a->R a->C):C:=h.elim λa H=>k a H.1 H.2.1 H.2.2
theorem pW{Y:Sort _}{P Q R S:Y->Prop}{C:Prop}(h:∃a,P a/\Q a/\R a/\S a)(k:∀a,P a->Q a->R a->S a->C):C:=h.elim λa H=>k a H.1 H.2.1 H.2.2.1 H.2.2.2
theorem jE{Y:Sort _}{β:Sort _}{P:Y->Prop}{Q R:Y->β->Prop}{C:Prop}(h:∃a,P a/\∃b,Q a b/\R a b)(k:∀a,P a->∀b,Q a b->R a b->C):C:=h.elim λa H=>H.2.elim λb c=>k a H.1 b c.1 c.2
theorem K4{Y:Sort _}{β:Sort _}{P:Y->β->Prop}{C:Prop}(h:∃a,∃b,P a b)(k:∀a,∀b,P a b->C):C:=h.elim λa H=>H.elim λb c=>k a b c
theorem bZ{Y:Sort _}{β:Sort _}{P Q:Y->β->Prop}{C:Prop}(h:∃a,∃b,P a b/\Q a b)(k:∀a,∀b,P a b->Q a b->C):C:=h.elim λa H=>H.elim λb c=>k a b c.1 c.2
theorem aU{Y:Sort _}{β:Sort _}{P Q R:Y->β->Prop}{C:Prop}(h:∃a,∃b,P a b/\Q a b/\R a b)(k:∀a,∀b,P a b->Q a b->R a b->C):C:=h.elim λa H=>H.elim λb c=>k a b c.1 c.2.1 c.2.2
theorem aJ{Y:Sort _}{β:Sort _}{P Q R S:Y->β->Prop}{C:Prop}(h:∃a,∃b,P a b/\Q a b/\R a b/\S a b)(k:∀a,∀b,P a b->Q a b->R a b->S a b->C):C:=h.elim λa H=>H.elim λb c=>k a b c.1 c.2.1 c.2.2.1 c.2.2.2
theorem fe{Y:Sort _}{β:Sort _}{P Q R S T:Y->β->Prop}{C:Prop}(h:∃a,∃b,P a b/\Q a b/\R a b/\S a b/\T a b)(k:∀a,∀b,P a b->Q a b->R a b->S a b->T a b->C):C:=h.elim λa H=>H.elim λb c=>k a b c.1 c.2.1 c.2.2.1 c.2.2.2.1 c.2.2.2.2
theorem gI{Y:Sort _}{β:Sort _}{γ:Sort _}{P Q:Y->β->γ->Prop}{C:Prop}(h:∃a,∃b,∃c,P a b c/\Q a b c)(k:∀a,∀b,∀c,P a b c->Q a b c->C):C:=h.elim λa H=>H.elim λb e=>e.elim λc d=>k a b c d.1 d.2
theorem cv{Y:Sort _}{β:Sort _}{γ:Sort _}{P Q R:Y->β->γ->Prop}{C:Prop}(h:∃a,∃b,∃c,P a b c/\Q a b c/\R a b c)(k:∀a,∀b,∀c,P a b c->Q a b c->R a b c->C):C:=h.elim λa H=>H.elim λb e=>e.elim λc d=>k a b c d.1 d.2.1 d.2.2
theorem cF{Y:Sort _}{β:Sort _}{γ:Sort _}{P Q R S:Y->β->γ->Prop}{C:Prop}(h:∃a,∃b,∃c,P a b c/\Q a b c/\R a b c/\S a b c)(k:∀a,∀b,∀c,P a b c->Q a b c->R a b c->S a b c->C):C:=h.elim λa H=>H.elim λb e=>e.elim λc d=>k a b c d.1 d.2.1 d.2.2.1 d.2.2.2
theorem cx{Y:Sort _}{β:Sort _}{γ:Sort _}{δ:Sort _}{P Q R S:Y->β->γ->δ->Prop}{C:Prop}(h:∃a,∃b,∃c,∃d,P a b c d/\Q a b c d/\R a b c d/\S a b c d)(k:∀a,∀b,∀c,∀d,P a b c d->Q a b c d->R a b c d->S a b c d->C):C:=h.elim λa e=>e.elim λb f=>f.elim λc g=>g.elim λd H=>k a b c d H.1 H.2.1 H.2.2.1 H.2.2.2
theorem kN{Y:Sort _}{β:Sort _}{γ:Sort _}{δ:Sort _}{ε:Sort _}{P Q R:Y->β->γ->δ->ε->Prop}{C:Prop}(h:∃a,∃b,∃c,∃d,∃e,P a b c d e/\Q a b c d e/\R a b c d e)(k:∀a,∀b,∀c,∀d,∀e,P a b c d e->Q a b c d e->R a b c d e->C):C:=h.elim λa H=>H.elim λb g=>g.elim λc i=>i.elim λd j=>j.elim λe f=>k a b c d e f.1 f.2.1 f.2.2
theorem zA{P Q:Prop}(k:P->Q->C)(h:P/\Q):C:=k h.1 h.2
theorem QU{P Q R:Prop}(k:P->Q->R->C)(h:P/\Q/\R):C:=k h.1 h.2.1 h.2.2
theorem Hj{P Q R S:Prop}(k:P->Q->R->S->C)(h:P/\Q/\R/\S):C:=k h.1 h.2.1 h.2.2.1 h.2.2.2
theorem L1{P Q R S T:Prop}(k:P->Q->R->S->T->C)(h:P/\Q/\R/\S/\T):C:=k h.1 h.2.1 h.2.2.1 h.2.2.2.1 h.2.2.2.2
theorem O7{Y:Sort _}{P:Prop}{Q R:Y->Prop}(k:P->∀a,Q a->R a->C)(h:P/\∃a,Q a/\R a):C:=h.2.elim λa H=>k h.1 a H.1 H.2
theorem zE{Y:Sort _}{P:Y->Prop}(k:∀a,P a->C)(h:∃a,P a):C:=h.elim λa H=>k a H
theorem z7{Y:Sort _}{P Q:Y->Prop}(k:∀a,P a->Q a->C)(h:∃a,P a/\Q a):C:=h.elim λa H=>k a H.1 H.2
theorem DL{Y:Sort _}{β:Sort _}{P Q:Y->β->Prop}(k:∀a,∀b,P a b->Q a b->C)(h:∃a,∃b,P a b/\Q a b):C:=h.elim λa H=>H.elim λb c=>k a b c.1 c.2
theorem bD{Y:Sort _}{β:Sort _}{P Q R:Y->β->Prop}(k:∀a,∀b,P a b->Q a b->R a b->C)(h:∃a,∃b,P a b/\Q a b/\R a b):C:=h.elim λa H=>H.elim λb c=>k a b c.1 c.2.1 c.2.2
theorem jS{Y:Sort _}{β:Sort _}{P Q R S:Y->β->Prop}(k:∀a,∀b,P a b->Q a b->R a b->S a b->C)(h:∃a,∃b,P a b/\Q a b/\R a b/\S a b):C:=h.elim λa H=>H.elim λb c=>k a b c.1 c.2.1 c.2.2.1 c.2.2.2
theorem xp{Y:Sort _}{β:Sort _}{P Q R S T:Y->β->Prop}(k:∀a,∀b,P a b->Q a b->R a b->S a b->T a b->C)(h:∃a,∃b,P a b/\Q a b/\R a b/\S a b/\T a b):C:=h.elim λa H=>H.elim λb c=>k a b c.1 c.2.1 c.2.2.1 c.2.2.2.1 c.2.2.2.2
theorem aR{Y:Sort _}{β:Sort _}{γ:Sort _}{P Q R:Y->β->γ->Prop}(k:∀a,∀b,∀c,P a b c->Q a b c->R a b c->C)(h:∃a,∃b,∃c,P a b c/\Q a b c/\R a b c):C:=h.elim λa H=>H.elim λb e=>e.elim λc d=>k a b c d.1 d.2.1 d.2.2
theorem kM{Y:Sort _}{β:Sort _}{γ:Sort _}{δ:Sort _}{P Q R S:Y->β->γ->δ->Prop}(k:∀a,∀b,∀c,∀d,P a b c d->Q a b c d->R a b c d->S a b c d->C)(h:∃a,∃b,∃c,∃d,P a b c d/\Q a b c d/\R a b c d/\S a b c d):C:=h.elim λa e=>e.elim λb f=>f.elim λc g=>g.elim λd H=>k a b c d H.1 H.2.1 H.2.2.1 H.2.2.2
namespace _r
open PySem PySem.W PyProof.Rows
structure dy(n:ă)(p:ĕ ă):Prop where
 size:p.size=n
 perm:p.toList.Perm (List.range n)
noncomputable def at'(key:ă->Ć)(p:ĕ ă)(k:ă):Ć:=key (p.getD k 0)
def Ad(key:ă->Ć)(p:ĕ ă)(m:ă):Prop:=∀i j,i<j->j<m->at' key p i<at' key p j
def DV(key:ă->Ć)(p:ĕ ă)(m:ă):Prop:=∀i j,i<j->j<m->at' key p j<at' key p i
section
variable{cmp:ă->ă->(ċ->Ą->Prop)->Ą->Prop}{p:ĕ ă}
theorem dy.lt(g:dy n p){k:ă}(h:k<n):p.getD k 0<n:=by
 have H:k<p.size:=by rw[g.size];exact h
 have:p[k]∈p.toList:=by rw[Rt];exact ĕ.getElem_mem H
 have:=g.perm.mem_iff.mp this
 simp_all
theorem dy.inj(g:dy n p){k k':ă}(H:k<n)(h:k'<n)(e:p.getD k 0=p.getD k' 0):k=k':=by
 refine(Ru (h₀:=(by rw[Rv,g.size];exact H)) (h₁:=(by rw[Rv,g.size];exact h)) (g.perm.nodup_iff.mpr Rw)).mp ?_;have a:k<p.size:=by rw[g.size];exact H
 have c:k'<p.size:=by rw[g.size];exact h
 simp_all
variable(hkey:∀i j,i<n->j<n->key i=key j->i=j)(hc:∀i j,i<n->j<n->∀C:ċ->Ą->Prop,C (decide (key i<key j)) s->cmp i j C s)
include hkey in
theorem AZ(g:dy n p){k k':ă}(K:k<n)(H:k'<n)(h:k≠k'):at' key p k≠at' key p k':=λe=>h (g.inj K H (hkey _ _ (g.lt K) (g.lt H) e))
include hkey hc
theorem vW(g:dy n p):∀(f m:ă)(Q:ă->Ą->Prop),1<=m->m+f<=n->Ad key p m->(∀m',m<=m'->m'<=m+f->Ad key p m'->(m'=m+f\/at' key p m'<at' key p (m'-1))->Q m' s)->(kas_asc p f m).kasWp cmp Q s
 |0,m,Q,q,l,H,hQ=>hQ m (Rx _) (Rx _) H (.inl rfl)
 |f+1,m,Q,q,l,H,hQ=>by
  refine hc _ _ (g.lt (Ry (Rz (RA _ _)) l)) (g.lt 0e1) _ ?_;by_cases h:key (p.getD m 0)<key (p.getD (m-1) 0)
  ·rw[RB h];(show (if ą=ą then _ else _:α2 _).kasWp cmp _ s);rw[RC rfl];exact hQ m (Rx _) (RA _ _) H (.inr h)
  ·rw [RD h]; (show (if ć = ą then _ else _ : α2 _).kasWp cmp _ s); rw [RE RF];have u:=AZ hkey g (k:=m) (k':=m-1) 0e1 0e1 0e1;have t:at' key p (m-1)<at' key p m:=by unfold at' at *;lia
   refine vW g f (m+1) Q (RG q) (RH (RI (RJ _ _ _)) l) (λi j μ r=>?_) (λm' a b c d=>hQ m' (RK a) (RH b (RI (RJ _ _ _))) c (d.elim (λe=>.inl (RM e (RJ _ _ _))) .inr));by_cases o:j=m
   ·subst o;by_cases E:i=j-1
    ·rw[E];exact t
    ·have:=H i (j-1) (RN (RO (RP μ)) E) 0e1;exact RQ this t
   ·exact H i j μ (RN (RR r) o)
theorem yt(g:dy n p):∀(f m:ă)(Q:ĕ ă×ă×ă->Ą->Prop),1<=m->m+f<=n->DV key p m->(∀m',m<=m'->m'<=m+f->DV key p m'->Q (p,m',0) s)->(kas_desc f p m 0).kasWp cmp Q s
 |0,m,Q,d,e,H,hQ=>hQ m (Rx _) (Rx _) H
 |f+1,m,Q,d,e,H,hQ=>by
  refine hc _ _ (g.lt 0e1) (g.lt 0e1) _ ?_;by_cases h:key (p.getD m 0)<key (p.getD (m-1) 0)
  ·rw [RB h]; (show (if ą = ą then _ else _ : α2 _).kasWp cmp _ s); rw [RC rfl];refine yt g f (m+1) Q 0e1 0e1 (λi j μ r=>?_) (λm' a b c=>hQ m' 0e1 0e1 c);by_cases o:j=m
   ·subst o;by_cases E:i=j-1
    ·rw[E];exact h
    ·have := H i (j - 1) 0e1 0e1;have:at' key p j<at' key p (j-1):=h
     lia
   ·exact H i j μ 0e1
  ·rw[RD h];(show (if ć=ą then _ else _:α2 _).kasWp cmp _ s);rw[RE RF];refine hc _ _ (g.lt 0e1) (g.lt 0e1) _ ?_;have u:=AZ hkey g (k:=m) (k':=m-1) 0e1 0e1 0e1;rw[RB (by unfold at' at u;lia)];(show (if ą=ą then _ else _:α2 _).kasWp cmp _ s);rw[RC rfl];exact hQ m (Rx _) 0e1 H
omit hkey hc in
theorem nP{p p':ĕ ă}{k k':ă}(h:p[k]?=p'[k']?):at' key p k=at' key p' k':=by
 simp_all[at']
omit hkey hc in
theorem qC{p':ĕ ă}(g:dy n p)(h:p'.Perm p)(hs:p'.size=p.size):dy n p':=⟨hs.trans g.size,(ĕ.perm_iff_toList_perm.mp h).trans g.perm⟩
omit hkey hc in
theorem EZ(g:dy n p)(h:m<=n)(hd:DV key p m):dy n (ç p 0 m)/\Ad key (ç p 0 m) m:=by
 have H:m<=p.size:=by rw[g.size];exact h
 refine⟨qC g (mirror_perm _ _ _ _) (mirror_size _ _ _ _),λi j μ r=>?_⟩;have E:at' key (ç p 0 m) i=at' key p (0+m-1-i):=nP (by unfold ç;rw[ï H,RC ⟨RT _,RU μ r⟩]);rw[E,(show at' key (ç p 0 m) j=at' key p (0+m-1-j) from nP (by unfold ç;rw[ï H,RC ⟨RT _,r⟩]))];exact hd _ _ 0e1 0e1
theorem BZ(g:dy n p)(H:1<=m)(h:m<=n)(hd:DV key p m)(Q:ă×ĕ ă->Ą->Prop)(hQ:∀m' p',dy n p'->1<=m'->m'<=n->Ad key p' m'->Q (m',p') s):(kas_tail3 m n p).kasWp cmp Q s:=by
 obtain⟨G,A⟩:=EZ g h hd;unfold kas_tail3;rw[RW];exact vW hkey hc G (n-m) m _ H (RI (RX h)) A λm' a b c d=>hQ m' _ G (RH H a) (RH b (RI (RX h))) c
theorem Dg(g:dy n p)(h:2<=n)(Q:ă×ĕ ă->Ą->Prop)(hQ:∀m' p',dy n p'->1<=m'->m'<=n->Ad key p' m'->Q (m',p') s):(kas_count n p).kasWp cmp Q s:=by
 unfold kas_count;rw[RW];refine vW hkey hc g (n-1) 1 _ (Rx _) (RI (RX (RK h))) (λi j μ r=>by lia) λm a b c d=>?_;by_cases e:m=n
 ·rw[RC (by simpa using e)];exact hQ m p g a (RI e) c
 ·rw [RE (by simpa using e)];by_cases H:m>1
  ·rw[RC H];refine hc _ _ (g.lt (Ry (RY _) h)) (g.lt 0e1) _ ?_;rw[RB (show key (p.getD 0 0)<key (p.getD (m-1) 0) from (c 0 (m-1) (ă.lt_sub_of_add_lt H) 0e1))];(show (if ą=ą then _ else _:α2 _).kasWp cmp _ s);rw[RC rfl];exact hQ m p g a 0e1 c
  ·rw [RE H];have M:m=1:=RZ (R0 H) a;subst M;unfold kas_descPart;rw[RW];refine yt hkey hc g (n-(1+1)) (1+1) _ (R6 _) (RI (RX h)) (λi j μ r=>?_) λm' A B C=>?_
   ·have E : i = 0 := by lia
    rw[E,(show j=1 by lia)];exact(d.elim (λf=>by lia) id)
   ·show (if (0:ă)>0 then _ else _:α2 (ă×ĕ ă)).kasWp cmp Q s;exact BZ hkey hc g (RK A) (RH B (RI (RX h))) C Q hQ
theorem nW(g:dy n p){k:ă}(K:k<n)(a:Ad key p k):∀(f l r:ă)(Q:ă->Ą->Prop),l<=r->r<=k->r-l<=f->(∀i,i<l->at' key p i<at' key p k)->(∀i,r<=i->i<k->at' key p k<at' key p i) ->
  (∀l',l'<=k->(∀i,i<l'->at' key p i<at' key p k)->(∀i,l'<=i->i<k->at' key p k<at' key p i)->Q l' s)->(kas_place p k f l r).kasWp cmp Q s
 |0,l,r,Q,d,c,m,h,H,hQ=>by
  have e:l=r:=by lia
  subst e;exact hQ l c h H
 |f+1,l,r,Q,d,c,m,h,H,hQ=>by
  unfold kas_place;by_cases e:l ≥ r
  ·rw[RC e];have j:l=r:=RZ d e;subst j;exact hQ l c h H
  ·rw [RE e];refine hc _ _ (g.lt K) (g.lt 0e1) _ ?_;by_cases t:key (p.getD k 0)<key (p.getD ((l+r) / 2) 0)
   ·rw [RB t]; (show (if ą = ą then _ else _ : α2 _).kasWp cmp _ s); rw [RC rfl];refine nW g K a f l ((l+r) / 2) Q 0e1 0e1 0e1 h (λi I b=>?_) hQ;by_cases E:i=(l+r) / 2
    ·rw[E];exact t
    ·have := a ((l + r) / 2) i (RN I (R7 E)) b;have:at' key p k<at' key p ((l+r) / 2):=t
     lia
   ·rw [RD t]; (show (if ć = ą then _ else _ : α2 _).kasWp cmp _ s); rw [RE RF];have u:=AZ hkey g (k':=(l+r) / 2) K 0e1 0e1;have T:at' key p ((l+r) / 2)<at' key p k:=by unfold at' at *;lia
    refine nW g K a f ((l+r) / 2+1) r Q 0e1 c 0e1 (λi I=>?_) H hQ;by_cases E:i=(l+r) / 2
    ·rw[E];exact T
    ·have:=a i ((l+r) / 2) (RN (RR I) E) 0e1;exact RQ this T
theorem BK:∀(f:ă)(p:ĕ ă)(k:ă)(Q:ĕ ă->Ą->Prop),dy n p->k+f=n->Ad key p k->(∀p',dy n p'->Ad key p' n->Q p' s)->(kas_bin f p k).kasWp cmp Q s
 |0,p,k,Q,g,K,H,hQ=>by
  have e:k=n:=K;rw[e]at H;exact hQ p g H
 |f+1,p,k,Q,g,K,H,hQ=>by
  unfold kas_bin;rw[RW];refine nW hkey hc g 0e1 H k 0 k _ (RT _) (Rx _) 1e1 (λi b=>by lia) (λi t u=>by lia) λl L h a=>?_;refine BK f _ (k+1) Q (qC g (bubble_perm _ _ _) (bubble_size _ _ _)) (RM (RJ _ _ _) K) (λi j μ r=>?_) hQ
  have B:∀x,at' key (Xq p k (k-l)) x=if x=l then at' key p k else if l<x/\x<=k then at' key p (x-1) else at' key p x:=λx=>by
   have e:=Xi (show k<p.size by rw[g.size];lia) (k-l) (ZO _ _) x;rw[(show k-(k-l)=l by lia)]at e;by_cases E:x=l
   ·rw[RC E]at e⊢;exact nP e
   ·rw [RE E] at e ⊢;by_cases m:l<x/\x<=k
    ·rw[RC m]at e⊢;exact nP e
    ·rw[RE m]at e⊢;exact nP e
  rw[B i,B j];by_cases c:i=l
  ·rw[RC c,RE 0e1,RC ⟨R8 (RI (R9 c)) μ,RR r⟩];exact a (j-1) 0e1 0e1
  ·rw [RE c];by_cases I:l<i/\i<=k
   ·rw[RC I,RE (Sa (RU I.1 μ)),RC ⟨RU I.1 μ,by lia⟩];exact H (i-1) (j-1) 0e1 0e1
   ·rw [RE I];have b:i<l:=by lia
    by_cases o:j=l
    ·rw[RC o];exact h i b
    ·rw [RE o];by_cases d:l<j/\j<=k
     ·rw [RC d];by_cases q:i=j-1
      ·lia
      ·exact H i (j-1) (Ry b (RO (RP d.1))) 0e1
     ·rw[RE d];exact H i j μ 0e1
theorem Ey(c:2<=n)(Q:ĕ ă->Ą->Prop)(hQ:∀p',dy n p'->Ad key p' n->Q p' s):(kas_sort n).kasWp cmp Q s:=by
 unfold kas_sort;rw[RW];refine Dg hkey hc ⟨by simp,by simp⟩ c _ λm p' g a h H=>?_;by_cases e:m<n
 ·rw[RC e,(show max m 1=m from Sb a)];exact BK hkey hc (n-m) p' m Q g (RX h) H hQ
 ·rw[RE e];rw[(show m=n from RZ h (R0 e))]at H;exact hQ p' g H
end
end _r
namespace _r
open PySem PySem.W PyProof.Rows
noncomputable abbrev Pn:=ă×ă×ă
abbrev Oy:=List ă×List Pn×ă
abbrev Sg(Y:Type):=Oy->Option (Y×Oy)
structure Sc(ok:(ă->ă->Option ċ)) where
 prog:č
 w:ē
 A:Đ
 E:ā->Ą->Prop
 kd:ZB
 s:Ą
 φ:ă->Ŕ
 cmp:∀i j b,ok i j=Ā b->∀C:ċ->Ą->Prop,C b s->Ċ 0e7 A (Zp kd (φ i).1 (φ j).1) C (λ_ _=>ł) s
noncomputable def ar(φ:ă->Ŕ)(l:List ă):ĕ Ŕ:=(l.map φ).toArray
noncomputable def GC(l:List ă):ă->Option ă:=@List.rec ă (λ_=>ă->Option ă) (λ_=>Ă) (λa _ ih i=>@Xl (λ_=>Option ă) (Ā a) (λj _=>ih j) i) l
noncomputable def ap(l k:List ă):List ă:=@List.rec ă (λ_=>List ă) k (λa _ ih=>a::ih) l
noncomputable def dp(i:ă):List ă->List ă:=@Xl (λ_=>List ă->List ă) (λl=>l) (λ_ ih l=>@List.rec ă (λ_=>List ă) [] (λ_ t _=>ih t) l) i
noncomputable def pre(f:List ă->List ă)(i:ă):List ă->List ă:=@Xl (λ_=>List ă->List ă) f (λ_ ih l=>@List.rec ă (λ_=>List ă) (f []) (λa t _=>a::ih t) l) i
noncomputable def Hl(x:ă)(l:List ă):ă->List ă:=@List.rec ă (λ_=>ă->List ă) (λ_=>[]) (λa t ih i=>@Xl (λ_=>List ă) (x::t) (λj _=>a::ih j) i) l
def tk(i:ă)(l:List ă):List ă:=pre (λ_=>[]) i l
def OY(l:List ă)(p d x:ă):List ă:=pre (λr=>x::pre List.tail d r) p l
theorem nL(l:List ă)(i:ă):GC l i=l[i]?:=by
 induction l generalizing i with
 |nil=>rfl
 |cons a l ih=>cases i with
  |zero=>rfl
  |succ i=>exact ih i
theorem Hb(l k:List ă):ap l k=l++k:=by
 induction l with
 |nil=>rfl
 |cons a l ih=>exact Sd (a::·) ih
theorem N2(i:ă)(l:List ă):dp i l=l.drop i:=by
 induction i generalizing l with
 |zero=>rfl
 |succ i ih=>cases l with
  |nil=>rfl
  |cons a l=>exact ih l
theorem Bj(f:List ă->List ă)(i:ă)(l:List ă):pre f i l=l.take i++f (l.drop i):=by
 induction i generalizing l with
 |zero=>rfl
 |succ i ih=>cases l with
  |nil=>rfl
  |cons a l=>exact Sd (a::·) (ih l)
theorem EI(x:ă)(l:List ă)(i:ă):Hl x l i=l.set i x:=by
 induction l generalizing i with
 |nil=>rfl
 |cons a l ih=>cases i with
  |zero=>rfl
  |succ i=>exact Sd (a::·) (ih i)
theorem My(i:ă)(l:List ă):tk i l=l.take i:=by simp[tk,Bj]
theorem JW{l:List ă}{k d x:ă}(hd:d<=k)(hk:GC l k=Ā x):(Xq l.toArray k d).toList=OY l (k-d) d x:=by
 rw[nL]at hk;have hs:=(Se.mp hk).1;refine Sf λi=>?_;rw[Sh,Xi (by simpa using hs) d hd];have e1:(l.take (k-d)).length=k-d:=by simp;exact Si (Sj (ă.sub_lt_of_lt hs))
 have e2:((l.drop (k-d)).take d).length=d:=by simp;lia
 have e3:((l.drop (k-d)).drop d).tail=l.drop (k+1):=by simp;congr 1;lia
 simp only[OY,Bj,Sk,hk,e3];rw[Sl,e1];by_cases h1:i<k-d
 ·rw[RC h1,RE (Sn h1),RE 0e1,So,RC h1]
 ·rw [RE h1, List.getElem?_cons];by_cases h2:i=k-d
  ·rw[RC h2,RC (ă.sub_eq_zero_of_le (RI h2))]
  ·rw [RE h2];by_cases h3:i<=k
   ·rw[RC ⟨RN (R0 h1) (R7 h2),h3⟩,RE 0e1,Sl,e2,RC 0e1,So,RC 0e1,Sr];congr 1;lia
   ·rw[RE (λz=>h3 z.2),RE 0e1,Sl,e2,RE 0e1,Sr];congr 1;lia
class Im (φ:ă->Ŕ) (Y:Type) (β:outParam Type) where mu1:β->Y
section
variable{φ:ă->Ŕ}{Y Y' β':Type}
instance:Im φ ă ă:=⟨λn=>n⟩
instance:Im φ ċ ċ:=⟨λn=>n⟩
instance:Im φ ŏ ŏ:=⟨λn=>n⟩
instance:Im φ Ŕ ă:=⟨φ⟩
instance:Im φ (ĕ Ŕ) (List ă):=⟨ar φ⟩
instance [Im φ Y Y'] [Im φ β β']:Im φ (Y×β) (Y'×β'):=⟨λc=>(Im.mu1 φ c.1,Im.mu1 φ c.2)⟩
instance [Im φ Y Y']:Im φ (Option Y) (Option Y'):=⟨Option.map (Im.mu1 φ)⟩
instance [Im φ Y Y']:Im φ (ŕ Y) (ŕ Y'):=⟨fun | .done c=>.done (Im.mu1 φ c) | .yield c=>.yield (Im.mu1 φ c)⟩
theorem Gv(l:List ă)(i:ă):(ar φ l).push (φ i)=ar φ (l++[i]):=by simp[ar]
theorem KW(l k:List ă):ar φ l++ar φ k=ar φ (l++k):=by simp[ar]
theorem KU(l:List ă)(i j:ă):(ar φ l).extract i j=ar φ ((l.drop i).take (j-i)):=by simp[ar]
theorem KR(l:List ă):(ar φ l).reverse=ar φ l.reverse:=by simp[ar]
theorem sg(l:List ă):(ar φ l).size=l.length:=by simp[ar]
theorem KS(l:List ă)(i:ă):(ar φ l)[i]?=l[i]?.map φ:=by simp[ar]
class Is (φ:ă->Ŕ) {Y β:Type} [Im φ Y β] (v:Y) (v':outParam β):Prop where iz:v=Im.mu1 φ v'
instance (n:ă):Is φ n n:=⟨rfl⟩
instance (n:ċ):Is φ n n:=⟨rfl⟩
instance (n:ŏ):Is φ n n:=⟨rfl⟩
instance (n:ă):Is φ (φ n) n:=⟨rfl⟩
instance [Im φ Y Y'] (n:Y'):Is φ (Im.mu1 φ n:Y) n:=⟨rfl⟩
instance (n:List ă):Is φ (ar φ n) n:=⟨rfl⟩
instance [Im φ Y Y'] [Im φ β β'] {a:Y}{b:β}{a':Y'}{b':β'} [h:Is φ a a'] [k:Is φ b b']:Is φ (a,b) (a',b'):=⟨by rw[h.iz,k.iz];rfl⟩
instance [Im φ Y Y']:Is φ (Ă:Option Y) Ă:=⟨rfl⟩
instance [Im φ Y Y'] {a:Y}{a':Y'} [h:Is φ a a']:Is φ (Ā a) (Ā a'):=⟨by rw[h.iz];rfl⟩
instance [Im φ Y Y'] {a:Y}{a':Y'} [h:Is φ a a']:Is φ (ŕ.done a) (.done a'):=⟨by rw[h.iz];rfl⟩
instance [Im φ Y Y'] {a:Y}{a':Y'} [h:Is φ a a']:Is φ (Æ a) (.yield a'):=⟨by rw[h.iz];rfl⟩
instance {x:ĕ Ŕ}{l:List ă} (i:ă) [h:Is φ x l]:Is φ (x.push (φ i)) (ap l [i]):=⟨by rw[h.iz,Hb];exact Gv l i⟩
instance (f:ċ->ċ) (b:ċ):Is φ (Option.map f (Ā b)) (Ā (f b)):=⟨rfl⟩
instance (i:ă):Is φ #[φ i] [i]:=⟨rfl⟩
instance {x y:ĕ Ŕ}{l k:List ă} [h:Is φ x l] [h':Is φ y k]:Is φ (x++y) (ap l k):=⟨by rw[h.iz,h'.iz,Hb];exact KW l k⟩
instance {x:ĕ Ŕ}{l:List ă} (i j:ă) [h:Is φ x l]:Is φ (x.extract i j) (tk (j-i) (dp i l)):=⟨by rw[h.iz,My,N2];exact KU l i j⟩
instance {x:ĕ Ŕ}{l:List ă} [h:Is φ x l]:Is φ x.reverse l.reverse:=⟨by rw[h.iz];exact KR l⟩
theorem yl[Im φ Y Y'][Im φ β β'](c:Y'×β'):(Im.mu1 φ c:Y×β)=(Im.mu1 φ c.1,Im.mu1 φ c.2):=rfl
theorem Bs(n:ă):(Im.mu1 φ n:ă)=n:=rfl
theorem ym(n:ċ):(Im.mu1 φ n:ċ)=n:=rfl
theorem yk(n:ŏ):(Im.mu1 φ n:ŏ)=n:=rfl
theorem Bu(n:ă):(Im.mu1 φ n:Ŕ)=φ n:=rfl
theorem Bv(n:List ă):(Im.mu1 φ n:ĕ Ŕ)=ar φ n:=rfl
end
def DQ{β:Type}(h:ă->β->Sg (ŕ β)):List ă->β->Sg β
 |[],c,st=>Ā (c,st)
 |x::l,c,st=>match h x c st with
  |none=>Ă
  |some (.done c,st)=>Ā (c,st)
  |some (.yield c,st)=>DQ h l c st
def ms(κ:ZB)(φ:ă->Ŕ)(st:Oy):SortSt:=SortSt.mk' κ (ar φ st.1) st.2.1.toArray st.2.2 Ă
theorem same{p q:Prop}(h:p)(e:p=q):q:=e ▸ h
def bL{ok:(ă->ă->Option ċ)}(c:Sc ok){Y:Type}[Im c.φ Y β](m:ĵ SortSt Ť Y)(g:Sg β):Prop:=
 ∀st r,g st=Ā r->∀Q:Y->SortSt->Ą->Prop,Q (Im.mu1 c.φ r.1) (ms c.kd c.φ r.2) c.s->Xo (Č c.prog c.w) c.A c.E m Q (ms c.kd c.φ st) c.s
namespace bL
variable{ok:(ă->ă->Option ċ)}{c:Sc ok}{Y Y' β':Type}[Im c.φ Y Y'][Im c.φ β β']
theorem zpu{v:Y}{v':Y'}[h:Is c.φ v v']:bL c (pure v) (λst=>Ā (v',st)):=λst r e Q q=>by
 cases e;rw[h.iz];exact Yc q
theorem zbi{m:ĵ SortSt Ť Y}{f:Y->ĵ SortSt Ť β}{g:Sg Y'}{h:Y'->Sg β'}(H:bL c m g)(K:∀a',bL c (f (Im.mu1 c.φ a')) (h a')):bL c (m >>= f) (λst=>(g st).bind λr=>h r.1 r.2):=λst r e Q q=>by
 refine bb (Ss.mp e) λx e1 e2=>?_;exact Su (H st x e1 _ (K _ _ _ e2 _ q))
theorem zit{p:Prop}{d:Decidable p}[e:Decidable p]{x y:ĵ SortSt Ť Y}{gx gy:Sg Y'}(H:bL c x gx)(K:bL c y gy):bL c (@ZI _ p d x y) (λst=>@ZI _ p e (gx st) (gy st)):=λst r e Q q=>by
 dsimp only at e;split at e
 ·rw[RC ‹_›];exact H st r e Q q
 ·rw[RE ‹_›];exact K st r e Q q
theorem QT{a b:ă}{v:β}{v':β'}[hv:Is c.φ v v']{f:ă->β->ĵ SortSt Ť (ŕ β)}{h:ă->β'->Sg (ŕ β')}(H:∀x c',bL c (f x (Im.mu1 c.φ c')) (h x c')):bL c (α5 ([a:b]:TD) v f) (DQ h (List.range' a (b-a)) v'):=λst r e Q q=>by
 rw[hv.iz];refine kasC_range ?_;generalize List.range' a (b-a)=l at e;clear hv
 induction l generalizing v' st with
 |nil=>cases e;exact kasC_nil q
 |cons x l ih=>
  unfold DQ at e;cases hx:h x v' st with
  |none=>rw[hx]at e;cases e
  |some y=>
   obtain⟨y,st'⟩:=y;rw[hx]at e;refine kasC_cons (H x v' st _ hx _ ?_);cases y with
   |done y=>cases e;exact q
   |yield y=>exact ih st' e
theorem zge{f:SortSt->ĵ SortSt Ť β}{h:List ă->List Pn->ă->Sg β'}(K:∀l p g,bL c (f (SortSt.mk' c.kd (ar c.φ l) p.toArray g Ă)) (h l p g)):bL c (get >>= f) (λst=>h st.1 st.2.1 st.2.2 st):=λst r e Q q=>Su (Sv (K _ _ _ st r e Q q))
theorem zru{x:Ī}{f:(ŏ->ĵ SortSt Ť β)}{h:Sg β'}(K:bL c (f ()) h):bL c (liftM (PySem.rule x) >>= f) h:=λst r e Q q=>Su (kasC_lift (Sw (K st r e Q q)))
theorem OP{l:List ă}:bL c ((sortPriv% PySem.Builtin.elem) (ar c.φ l) i) (λst=>l[i]?.map λx=>(x,st)):=λst r e Q q=>by
 refine bb (Sx.mp e) λx e1 v1=>?_;subst v1;show Xo _ _ _ (elem' _ _) _ _ _;rw[elem'_eq,KS,e1];exact Yc q
theorem zlt:bL c ((sortPriv% PySem.Builtin.lt) (c.φ i) (c.φ j)) (λst=>(ok i j).map λx=>(Ā x,st)):=λst r e Q q=>by
 refine bb (Sx.mp e) λx e1 v2=>?_;subst v2;show Xo _ _ _ (lt' _ _) _ _ _;rw[lt'_eq];refine Su (Sv (Su (kasC_lift (Sy (SA (c.cmp i j x e1 (λb s'=>s'=c.s/\b=x) ⟨rfl,rfl⟩) (λb s' hb=>?_) λ_ _ hF=>hF.elim)))));obtain⟨rfl,rfl⟩:=hb;exact Yc q
theorem zun{x:Ī}:bL c (liftM (PySem.unsupported x):ĵ SortSt Ť Y) (λ_=>(Option.none:Option (Y'×Oy))):=λst r e Q q=>by cases e
theorem zeb{A:ĕ Ŕ}{l:List ă}[z:Is c.φ A l]{f:Ŕ->ĵ SortSt Ť β}{h:ă->Sg β'}(K:∀a',bL c (f (c.φ a')) (h a')):bL c ((sortPriv% PySem.Builtin.elem) A i >>= f) (λst=>(GC l i).bind λa=>h a st):=by
 rw[z.iz]
 exact λst r e Q q=>by
  refine bb (Ss.mp e) λx e1 e2=>?_;rw[nL]at e1;exact Su (OP (c:=c) st (x,st) (by rw[e1];rfl) _ (K x st r e2 Q q))
theorem zlb{f:Option ċ->ĵ SortSt Ť β}{h:ċ->Sg β'}(K:∀a',bL c (f (Ā a')) (h a')):bL c ((sortPriv% PySem.Builtin.lt) (c.φ i) (c.φ j) >>= f) (λst=>(ok i j).bind λb=>h b st):=λst r e Q q=>by
 refine bb (Ss.mp e) λx e1 e2=>?_;exact Su (zlt (ok:=ok) (c:=c) st (Ā x,st) (by rw[e1];rfl) _ (K x st r e2 Q q))
theorem QD{m:ĵ SortSt Ť (Option Y)}{f:Option Y->ĵ SortSt Ť β}{g:Sg (Option Y')}{k:Y'->Sg β'}(H:bL c m g)(L:∀a',bL c (f (Ā (Im.mu1 c.φ a'))) (k a')):bL c (m >>= f) (λst=>(g st).bind λr=>r.1.bind λa=>k a r.2):=zbi (h:=λa st=>a.bind λa=>k a st) H λa=>by
 cases a with
 |none=>exact λst r e=>by cases e
 |some a=>exact L a
theorem zgo{m:ĵ SortSt Ť (Option ă)}{f:Option ă->ĵ SortSt Ť β}{g:Sg (Option ă)}{k:ă->Sg β'}(H:bL c m g)(L:∀a',bL c (f (Ā a')) (k a')):bL c (m >>= f) (λst=>(g st).bind λr=>r.1.bind λa=>k a r.2):=QD H L
theorem zyo{m:ĵ SortSt Ť (Option ċ)}{f:Option ċ->ĵ SortSt Ť β}{g:Sg (Option ċ)}{k:ċ->Sg β'}(H:bL c m g)(L:∀a',bL c (f (Ā a')) (k a')):bL c (m >>= f) (λst=>(g st).bind λr=>r.1.bind λa=>k a r.2):=QD H L
theorem zfr{γ':Type}[Im c.φ γ γ']{a b:ă}{v:Option Y×γ}{v':Option Y'×γ'}[Is c.φ v v']{f:ă->Option Y×γ->ĵ SortSt Ť (ŕ (Option Y×γ))}{F:Option Y×γ->ĵ SortSt Ť β}{h:ă->Option Y'×γ'->Sg (ŕ (Option Y'×γ'))}{k:γ'->Sg β'}{k':Y'->γ'->Sg β'}(H:∀x c',bL c (f x (Im.mu1 c.φ c')) (h x c'))(K:∀c',bL c (F (Option.none,Im.mu1 c.φ c')) (k c'))(L:∀a' c',bL c (F (Ā (Im.mu1 c.φ a'),Im.mu1 c.φ c')) (k' a' c')):
  bL c (α5 ([a:b]:TD) v f >>= F) (λst=>(DQ h (List.range' a (b-a)) v' st).bind λr=>match r.1.1 with | .none=>k r.1.2 r.2|some a=>k' a r.1.2 r.2):=zbi (h:=λa st=>match a.1 with | .none=>k a.2 st|some b=>k' b a.2 st) (QT H) λa=>by
 obtain⟨a,b⟩:=a;cases a with
 |none=>exact K b
 |some a=>exact L a b
theorem zgt(v:List Pn->Option γ){f:SortSt->ĵ SortSt Ť β}{h:List ă->List Pn->ă->Sg β'}{k:γ->List ă->List Pn->ă->Sg β'}(K:∀l p g,v p=Option.none->bL c (f (SortSt.mk' c.kd (ar c.φ l) p.toArray g Option.none)) (h l p g))(L:(∀x l p g,v p=Ā x->bL c (f (SortSt.mk' c.kd (ar c.φ l) p.toArray g Option.none)) (k x l p g))):bL c (Xn >>= f) (λst=>match v st.2.1 with | .none=>h st.1 st.2.1 st.2.2 st|some x=>k x st.1 st.2.1 st.2.2 st):=λst r e Q q=>by
 dsimp only at e;cases z:v st.2.1 with
 |none=>rw[z]at e;exact Su (Sv (K _ _ _ z st r e Q q))
 |some x=>rw[z]at e;exact Su (Sv (L x _ _ _ z st r e Q q))
theorem zgb{G:ă}{f:(ŏ->ĵ SortSt Ť β)}{h:Sg β'}(K:bL c (f ()) h):bL c ((sortPriv% PySem.Builtin.setMinGallop) G >>= f) (λst=>h (st.1,st.2.1,G)):=λst r z Q q=>Su (SB (K (st.1,st.2.1,G) r z Q q))
theorem zla{f:Option ċ->ĵ SortSt Ť β}{h:ċ->Sg β'}(K:∀a',bL c (f (Ā a')) (h a')):bL c ((sortPriv% PySem.Builtin.ltAt) i j >>= f) (λst=>(GC st.1 i).bind λx=>(GC st.1 j).bind λy=>(ok x y).bind λb=>h b st):=λst r e Q q=>by
 simp only[nL]at e;refine bb (Ss.mp e) λx e1 e=>?_;refine bb (Ss.mp e) λy e2 e=>?_;refine bb (Ss.mp e) λb e3 e=>?_;show Xo _ _ _ (ltAt' i j >>= f) _ _ _;rw[ltAt'_eq];exact Su (Su (Sv (Su (OP st (x,st) (by rw[e1];rfl) _ (Su (OP st (y,st) (by rw[e2];rfl) _ (zlt st (Ā b,st) (by rw[e3];rfl) _ (K b st r e Q q))))))))
theorem zrv{f:(ŏ->ĵ SortSt Ť β)}{h:Sg β'}(K:bL c (f ()) h):bL c ((sortPriv% PySem.Builtin.reverseSlice) i j >>= f) (λst=>h ((ç st.1.toArray i j).toList,st.2)):=λst r e Q q=>Su (by
 show Xo _ _ _ (reverseSlice' i j) _ _ _;rw[reverseSlice'_eq];refine SB (same (K _ r e Q q) ?_);have e1:ZL (st.1.toArray.map c.φ) i j ((j-i) / 2)=(ZL st.1.toArray i j ((j-i) / 2)).map c.φ:=YT c.φ (λk=>i+k) (λk=>j-1-k) _ _;show Xo _ _ _ _ _ (SortSt.mk' _ (ar c.φ (ZL st.1.toArray i j ((j-i) / 2)).toList) _ _ _) _=Xo _ _ _ _ _ (SortSt.mk' _ (ZL (ar c.φ st.1) i j ((j-i) / 2)) _ _ _) _;congr 2;have z:=e1.symm;simp at z;unfold ar
 rw[<- z,<- SC])
theorem zmv{k l:ă}{f:(ŏ->ĵ SortSt Ť β)}{h:Sg β'}(K:bL c (f ()) h):bL c ((sortPriv% PySem.Builtin.moveDown) k l >>= f) (λst=>(GC st.1 k).bind λx=>h (OY st.1 (k-(k-l)) (k-l) x,st.2)):=λst r e Q q=>Su (by
 refine bb (Ss.mp e) λx e0 e=>?_;show Xo _ _ _ (moveDown' k l) _ _ _;rw[moveDown'_eq];refine SB (same (K _ r e Q q) ?_);have e1:Xq (st.1.toArray.map c.φ) k (k-l)=(Xq st.1.toArray k (k-l)).map c.φ:=YT c.φ (λi=>k-i) (λi=>k-i-1) _ _;rw[<- JW (ZO _ _) e0];show Xo _ _ _ _ _ (SortSt.mk' _ (ar c.φ (Xq st.1.toArray k (k-l)).toList) _ _ _) _=Xo _ _ _ _ _ (SortSt.mk' _ (Xq (ar c.φ st.1) k (k-l)) _ _ _) _;congr 2;have z:=e1.symm;simp at z;unfold ar
 rw[<- z,<- SC])
theorem zgs(v:List Pn->Option γ){f:SortSt->ĵ SortSt Ť β}{k:γ->List ă->List Pn->ă->Sg β'}(L:(∀x l p g,v p=Ā x->bL c (f (SortSt.mk' c.kd (ar c.φ l) p.toArray g Option.none)) (k x l p g))):bL c (Xn >>= f) (λst=>(v st.2.1).bind λx=>k x st.1 st.2.1 st.2.2 st):=λst r e Q q=>by
 refine bb (Ss.mp e) λx z e=>?_;exact Su (Sv (L x _ _ _ z st r e Q q))
theorem C1{M:ų}{σ:Type}{Q:PUnit->σ->Ą->Prop}{st st':σ}(h:Q ⟨⟩ st' s):Xo M A E (S_ st':ĵ σ Ť PUnit) Q st s:=by
 simp_all[Xo,SD]
theorem zsb{l:List ă}{p:List Pn}{g:ă}{x:Pn}{f:(ŏ->ĵ SortSt Ť β)}{h:Sg β'}(K:bL c (f ()) h):bL c (S_ (SortSt.mk' c.kd (ar c.φ l) ((p.toArray.setIfInBounds i x).eraseIdxIfInBounds j) g Option.none) >>= f) (λ_=>h (l,(p.set i x).eraseIdx j,g)):=λst r e Q q=>Su (by
 have e1:(p.toArray.setIfInBounds i x).eraseIdxIfInBounds j=((p.set i x).eraseIdx j).toArray:=by simp
 rw[e1]
 exact C1 (K (l,(p.set i x).eraseIdx j,g) r e Q q))
end bL
set_option hygiene false in
local macro_rules | `(tactic| ac_rfl)=>`(tactic| repeat' with_reducible first|exact bL.zpu|refine' bL.zru ?_|refine' bL.zeb λ_=>?_|exact bL.zlt|refine' bL.zlb λ_=>?_|refine' bL.zyo ((beyS ok left i l _).2 c) λ_=>?_|refine' bL.zgo ((galS ok _ _ _ _ _ _).2 c) λ_=>?_|refine' bL.zgo ((cntS ok _ _).2 c) λ_=>?_|refine' bL.zbi ((binS ok _ _ _).2 c) λ_=>?_|refine' bL.zbi ((matS ok _).2 c) λ_=>?_|(refine' bL.zfr (λ_ _=>?_) (λ_=>?_) λ_ _=>?_) <;> (try dsimp only[yl,Bs,ym,yk,Bu,Bv])|refine' bL.zib ?_ ?_|refine' bL.zit ?_ ?_|refine' bL.zgb ?_|refine' bL.zla λ_=>?_|refine' bL.zrv ?_|refine' bL.zmv ?_|refine' pushB ?_|refine' modfB ?_|refine' bL.zas ?_|exact bL.zun|refine' bL.zpb ?_|dsimp only[yl,Bs,ym,yk,Bu,Bv]|simp only[SE,SG])
noncomputable section
noncomputable def beyS(ok:(ă->ă->Option ċ))(left:ċ)(i:ă)(l:List ă)(n:ă):{g:Sg (Option ċ) // ∀c:Sc ok,bL c (do let x <- (sortPriv% PySem.Builtin.elem) (ar c.φ l) n;if left=ą then (sortPriv% PySem.Builtin.lt) x (c.φ i) else do let r <- (sortPriv% PySem.Builtin.lt) (c.φ i) x;pure (Option.map (λx=>!x) r)) g}:=
 ⟨_,λc=>by ac_rfl⟩
def galS(ok:(ă->ă->Option ċ))(left:ċ)(i:ă)(l:List ă)(base n hint:ă):{g:Sg (Option ă) // ∀c:Sc ok,bL c ((sortPriv% PySem.Builtin.gallop) left (c.φ i) (ar c.φ l) base n hint) g}:=
 ⟨_, λc => by
  refine' bL.zyo ((beyS ok left i l _).2 c) λ_=>?_
  all_goals ac_rfl⟩
noncomputable def cntS(ok:(ă->ă->Option ċ))(lo n:ă):{g:Sg (Option ă) // ∀c:Sc ok,bL c ((sortPriv% PySem.Builtin.countRun) lo n) g}:=
 ⟨_, λc => by
  refine' bL.zfr (λ_ _=>?_) (λ_=>?_) λ_ _=>?_
  all_goals ac_rfl⟩
noncomputable def binS(ok:(ă->ă->Option ċ))(lo n k:ă):{g:Sg ċ // ∀c:Sc ok,bL c ((sortPriv% PySem.Builtin.binarySort) lo n k) g}:=
 ⟨_, λc => by
  refine' bL.zfr (λ_ _=>?_) (λ_=>?_) λ_ _=>?_
  all_goals ac_rfl⟩
theorem GK{φ:ă->Ŕ}{sa:ă}:∀(m:List ă)(n:ă)(l:List ă),((m.map φ).zipIdx n).foldl (λa q=>a.setIfInBounds (sa+q.2) q.1) (ar φ l)=ar φ ((m.zipIdx n).foldl (λa q=>Hl q.1 a (sa+q.2)) l)
 |[],n,l=>rfl
 |x::m,n,l=>by
  rw[SH,List.zipIdx_cons,List.zipIdx_cons,SI,SI,<- GK m (n+1)];congr 1;simp[ar,List.map_set,EI]
noncomputable def LM(ok:(ă->ă->Option ċ))(a b:List ă):{g:Sg (List ă) // ∀c:Sc ok,bL c ((sortPriv% PySem.Builtin.mergeLo) (ar c.φ a) (ar c.φ b)) g}:=
 ⟨_, λc => by
  refine' bL.zru ?_;simp only[sg]
  ac_rfl
  any_goals refine' bL.zge λ_ _ _=>?_
  all_goals ac_rfl⟩
noncomputable def LO(ok:(ă->ă->Option ċ))(a b:List ă):{g:Sg (List ă) // ∀c:Sc ok,bL c ((sortPriv% PySem.Builtin.mergeHi) (ar c.φ a) (ar c.φ b)) g}:=
 ⟨_, λc => by
  refine' bL.zru ?_;simp only[sg]
  ac_rfl
  any_goals refine' bL.zge λ_ _ _=>?_
  all_goals ac_rfl⟩
theorem QF{ok:(ă->ă->Option ċ)}{c:Sc ok}{m:List ă}{sa:ă}{f:ŏ->ĵ SortSt Ť ċ}{h:Sg ċ}(K:bL c (f ()) h):bL c (Zo (λs=>SortSt.mk' (kindOf s) (List.foldl (λa x=>a.setIfInBounds (sa+x.2) x.1) (α3 s) (ar c.φ m).toList.zipIdx) (T_ s) (α8 s) (Go s)) >>= f) (λst=>h (m.zipIdx.foldl (λa q=>Hl q.1 a (sa+q.2)) st.1,st.2)):=λst r e Q q=>Su (SB (same (K _ r e Q q) (by
 unfold ms;rw[<- GK m 0 st.1]
 rfl)))
theorem PQ{ok:(ă->ă->Option ċ)}{c:Sc ok}{A B:ĕ Ŕ}{a b:List ă}[α:Is c.φ A a][Z:Is c.φ B b]{f:ĕ Ŕ->ĵ SortSt Ť ċ}{h:List ă->Sg ċ}(K:∀l,bL c (f (ar c.φ l)) (h l)):bL c ((sortPriv% PySem.Builtin.mergeLo) A B >>= f) (λst=>((LM ok a b).1 st).bind λr=>h r.1 r.2):=by
 rw[α.iz,Z.iz];exact bL.zbi ((LM ok a b).2 c) K
theorem PU{ok:(ă->ă->Option ċ)}{c:Sc ok}{A B:ĕ Ŕ}{a b:List ă}[α:Is c.φ A a][Z:Is c.φ B b]{f:ĕ Ŕ->ĵ SortSt Ť ċ}{h:List ă->Sg ċ}(K:∀l,bL c (f (ar c.φ l)) (h l)):bL c ((sortPriv% PySem.Builtin.mergeHi) A B >>= f) (λst=>((LO ok a b).1 st).bind λr=>h r.1 r.2):=by
 rw[α.iz,Z.iz];exact bL.zbi ((LO ok a b).2 c) K
noncomputable def matS(ok:(ă->ă->Option ċ))(i:ă):{g:Sg ċ // ∀c:Sc ok,bL c ((sortPriv% PySem.Builtin.mergeAt) i) g}:=
 ⟨_, λc => by
  refine' bL.zgs (λp=>p[i]?.bind λx=>p[i+1]?.map λy=>(x.1,x.2.1,x.2.2,y)) λx l p g hx=>?_
  rotate_left 1
  obtain⟨y,h1,hx⟩:=Ss.mp hx;obtain⟨z,h2,hx⟩:=Sx.mp hx;have h1:p[i]?=Ā (x.1,x.2.1,x.2.2.1):=by rw[h1,<- hx]
  have h2:p[i+1]?=Ā (x.2.2.2.1,x.2.2.2.2.1,x.2.2.2.2.2):=by rw[h2,<- hx]
  simp only[Sk,h1,h2];clear h1 h2 hx;refine' bL.zsb ?_
  ac_rfl
  ·exact PQ λ_=>QF (bL.zge (h:=λ_ _ _ st=>Ā (ą,st)) λ_ _ _=>bL.zpu (v:=ą))
  ·exact PU λ_=>QF (bL.zge (h:=λ_ _ _ st=>Ā (ą,st)) λ_ _ _=>bL.zpu (v:=ą))
  ⟩
theorem pushB{ok:(ă->ă->Option ċ)}{c:Sc ok}{β':Type}[Im c.φ β β']{x:Pn}{f:(ŏ->ĵ SortSt Ť β)}{h:Sg β'}(K:bL c (f ()) h):bL c (Zo (λs=>SortSt.mk' (kindOf s) (α3 s) ((T_ s).push x) (α8 s) (Go s)) >>= f) (λst=>h (st.1,st.2.1++[x],st.2.2)):=λst r e Q q=>Su (SB (same (K _ r e Q q) (by
 unfold ms;dsimp only
 rw[<- List.push_toArray])))
theorem modfB{ok:(ă->ă->Option ċ)}{c:Sc ok}{β':Type}[Im c.φ β β']{x:Pn->Pn}{f:(ŏ->ĵ SortSt Ť β)}{h:Sg β'}(K:bL c (f ()) h):bL c (Zo (λs=>SortSt.mk' (kindOf s) (α3 s) ((T_ s).modify ((T_ s).size-1) x) (α8 s) (Go s)) >>= f) (λst=>h (st.1,st.2.1.modify (st.2.1.length-1) x,st.2.2)):=λst r e Q q=>Su (SB (same (K _ r e Q q) (by
 unfold ms;dsimp only
 rw[<- List.modify_toArray,SJ])))
noncomputable def Hm(ok:(ă->ă->Option ċ)):{g:Sg ŏ // ∀c:Sc ok,bL c sortRuns' g}:=
 ⟨_, λc => by
  refine' bL.zge λl p g=>?_
  rotate_left 1
  simp only[sg]
  ac_rfl
  ·refine' bL.zgt (λp => p.getLast?) (λl p g hv => ?_) λx l p g hv => ?_
   rotate_left 2
   ·have hv' : p.getLast? = Ă := hv;simp only[SK,hv']
    ac_rfl
   ·have hv' : p.getLast? = Ā (x.1, x.2.1, x.2.2) := hv;simp only[SK,hv']
    ac_rfl
    rotate_left 1
    refine' bL.zgt (λp=>if p.length>1 then p[p.length-2]? else Ă) (λl p g hw=>?_) λx l p g hw=>?_
    rotate_left 2
    ·simp only[SJ,Sk,hw];exact bL.zpu
    ·have hw' : (if p.length > 1 then p[p.length - 2]? else Ă) = Ā (x.1, x.2.1, x.2.2) := hw;simp only[SJ,Sk,hw']
     ac_rfl
  ·refine' bL.zgt (λp => p.getLast?) (λl p g hv => ?_) λx l p g hv => ?_
   rotate_left 2
   ·have hv' : p.getLast? = Ă := hv;simp only[SK,hv']
    ac_rfl
   ·have hv' : p.getLast? = Ā (x.1, x.2.1, x.2.2) := hv;simp only[SK,hv']
    ac_rfl
    rotate_left 1
    refine' bL.zgt (λp=>if p.length>1 then p[p.length-2]? else Ă) (λl p g hw=>?_) λx l p g hw=>?_
    rotate_left 2
    ·simp only[SJ,Sk,hw];exact bL.zpu
    ·have hw' : (if p.length > 1 then p[p.length - 2]? else Ă) = Ā (x.1, x.2.1, x.2.2) := hw;simp only[SJ,Sk,hw']
     ac_rfl
  rotate_left 1
  ·refine' bL.zge λl p g => ?_
   rotate_left 1
   simp only[SJ,Sk]
   ac_rfl
  ⟩
end
end _r
namespace _r
open PySem PySem.W PyProof.Rows
noncomputable def Ln(n:ă)(i j:ă):Option ċ:=bif å i n&&å j n then Ā (å i j) else Ă
noncomputable def qR(r:ă)(l:List ă):ă:=@List.rec ă (λ_=>ă) 0 (λa _ i=>@Ĺ (λ_=>ă) (Xp i) 0 (Ň a r)) l
def yR(rk:List ă):ċ:=(match (Hm (Ln rk.length)).1 (rk,[],7) with
 |some r=>r.2.1 == List.range rk.length
 |none=>ć)&&(List.range rk.length).all λi=>(match GC rk (qR i rk) with
  |some j=>Ň i j
  |none=>ć)&&(match GC rk i with
  |some j=>å j rk.length&&Ň (qR j rk) i
  |none=>ć)
def Ow(n:ă)(key:ă->Ć):Prop:=n<64\/∃r:List ă,r.length=n/\yR r=ą/\∀i j,i<n->j<n->(r.getD i 0<r.getD j 0↔key i<key j)
theorem rE{rk:List ă}(h:yR rk=ą)(i:ă)(I:i<rk.length):rk[qR i rk]?=Ā i/\∃j,rk[i]?=Ā j/\j<rk.length/\qR j rk=i:=by
 unfold yR at h;rw[SE,SL]at h;have z:=h.2 i (SM.mpr I);rw[nL,nL,SE]at z;obtain⟨a,Z⟩:=z;constructor
 ·cases e : rk[qR i rk]? with
  |none=>rw[e]at a;cases a
  |some j=>rw[e]at a;rw[SN a]
 ·cases e : rk[i]? with
  |none=>rw[e]at Z;cases Z
  |some j=>
   rw[e]at Z;simp at Z;exact⟨j,rfl,Z⟩
theorem K3{rk:List ă}(L:rk.length=n)(h:yR rk=ą)(C:∀r,r+1<n->key (qR r rk)<key (qR (r+1) rk)):Ow n key:=by
 have mono:∀d r,r+d+1<n->key (qR r rk)<key (qR (r+d+1) rk):=by
  intro d
  induction d with
  |zero=>intro r H;exact C r H
  |succ d g=>intro r H;exact RQ (g r (L_ H)) (C (r+d+1) (H))
 have up:∀a b,a<b->b<n->key (qR a rk)<key (qR b rk):=λa b l o=>by
  have:=mono (b-a-1) a 0e1
  rwa [show a+(b-a-1)+1=b by lia]at this
 refine .inr ⟨rk,L,h,λi j I μ=>?_⟩;refine bo ((rE h i (Ry I (RI (R9 L)))).2) λa f k c=>?_;refine bo ((rE h j 0e1).2) λb b1 b2 b3=>?_;rw[SQ,SQ,f,b1];show a<b↔_;have e:=up a b;have m:=up b a;rw[c,b3]at e m;constructor
 ·intro z;exact e z (Ry b2 (RI L))
 ·intro z;by_cases q:a=b
  ·subst q;rw[c]at b3;subst b3;lia
  ·have:=λz=>m z 0e1;lia
section
variable{κ:ZB}
theorem Ej{it:ĕ Ŕ}(v:2<=it.size)(T:Ow it.size key)(y:∀i j,i<it.size->j<it.size->key i=key j->i=j)(x:∀i j,i<it.size->j<it.size->∀C:ċ->Ą->Prop,C (decide (key i<key j)) s->kas_cmp prog w A κ it i j C s){Q:SortSt->Ą->Prop}(h:∀p st',dy it.size p->Ad key p it.size->α3 st'=p.map (α7 it)->Go st'=Ă->Q st' s):Ċ 0e7 A ((sortRuns').run (SortSt.mk' κ it #[] 7 Ă)) (λr s'=>Q r.2 s') E s:=by
 rcases T with h64|⟨k,L,R,O⟩
 ·have:=kas_runs (prog:=prog) (w:=w) (A:=A) (E:=E) (κ:=κ) (it:=it) (Q:=λ_ st' s'=>Q st' s') (G:=λp s'=>s'=s/\dy it.size p/\Ad key p it.size) (s:=s) v h64 (λp st' s' _ f F N=>by obtain⟨rfl,z,K⟩:=N;exact h p st' z K f F) (Ey y x v _ λp g f=>⟨rfl,g,f⟩);unfold kas_st at this;rw[kas_range]at this;exact this
 ·have t := R;unfold yR at R;rw[SE]at R;replace R:=R.1;cases hR:(Hm (Ln k.length)).1 (k,[],7) with
  |none=>rw[hR]at R;cases R
  |some r=>
   rw[hR]at R;have R:r.2.1=List.range k.length:=by simpa using R
   have B:=rE t;have lt:∀i,i<k.length->qR i k<k.length:=λi I=>(Se.mp (B i I).1).1;have at_:∀i,i<k.length->k.getD (qR i k) 0=i:=λi I=>by rw[SQ,(B i I).1];rfl
   let d:ă->Ŕ:=λi=>α7 it (qR i k)
   have cmp:∀i j b,Ln k.length i j=Ā b->∀C:ċ->Ą->Prop,C b s->Ċ 0e7 A (Zp κ (d i).1 (d j).1) C (λ_ _=>ł) s:=λi j b e C q=>by
    unfold Ln at e;cases c:å i k.length&&å j k.length with
    |false=>rw[c]at e;cases e
    |true=>
     rw[c]at e;simp at c;have e:å i j=b:=by simpa using e
     refine x _ _ (by rw[<- L];exact lt i c.1) (by rw[<- L];exact lt j c.2) C ?_;have:=O _ _ (by rw[<- L];exact lt i c.1) (by rw[<- L];exact lt j c.2);rw[at_ i c.1,at_ j c.2]at this;rw[<- XI.mpr this,show decide (i<j)=b by rw[<- e,SR,ă.blt_eq];exact Db];exact q
   have ein:SortSt.mk' κ it #[] 7 Ă=ms κ d (k,[],7):=by
    unfold ms ar;congr 1;apply ĕ.ext_getElem?;intro i;by_cases I:i<k.length
    ·refine bo ((B i I).2) λj m u o=>?_;simp only[Sk,SS,m,Option.map_some,d,o];have H:i<it.size:=Ry I (RI L);simp[α7,ö,H]
    ·rw[Á 0e1,Sk,SS,SU (R0 I)];rfl
   have:=(Hm (Ln k.length)).2 ⟨prog,w,A,E,κ,s,d,cmp⟩ (k,[],7) r hR (λ_ st' s'=>Q st' s') ?_
   ·rw[ein];exact this
   ·show Q (ms κ d r.2) s;refine h ((List.range k.length).map λi=>qR i k).toArray _ ⟨by simp[L],?_⟩ (λi j μ P=>?_) ?_ rfl
    ·refine (SV ?_ Rw).mpr λa => ?_
     ·show ((List.range k.length).map λi=>qR i k).Nodup;rw[List.Nodup,SW];refine(Rw (n:=k.length)).imp_of_mem λ{a b} f M ne e=>ne ?_;have m:=(B a (SM.mp f)).1;rw[e,(B b (SM.mp M)).1]at m;cases m;rfl
     ·show a ∈ (List.range k.length).map (λi => qR i k) ↔ _;rw[SY,SM,<- L];constructor
      ·rintro⟨i,I,rfl⟩;exact lt i (SM.mp I)
      ·intro f;refine bo ((B a f).2) λj m u o=>?_;exact⟨j,SM.mpr u,o⟩
    ·unfold at';have H:i<k.length:=by lia
     have l:j<k.length:=Ry P (RI (R9 L));simp[ö,H,l];refine(O _ _ (by rw[<- L];exact lt i H) (by rw[<- L];exact lt j l)).mp ?_;rw[at_ i H,at_ j l];exact μ
    ·show ar d r.2.1=_;rw[R];unfold ar;simp[d,H_]
end
end _r
namespace _r
noncomputable def Om:List ă:=[0,1,33,2,49,18,34,232,128,184,64,208,96,152,240,3,57,26,42,11,50,339,165,254,19,313,116,262,35,233,129,185,65,209,296,97,328,153,241,4,61,30,46,337,163,251,15,54,23,292,87,266,39,237,133,189,275,69,213,101,332,157,245,8,58,326,142,287,81,311,113,170,260,27,228,121,178,43,322,136,278,72,216,302,104,334,160,248,12,206,92,181,51,324,139,195,282,76,307,109,340,166,255,20,144,201,289,84,225,314,117,344,174,263,36,234,320,130,186,272,66,210,297,98,329,154,242,5,63,32,48,306,108,253,17,56,286,80,259,25,41,239,135,191,277,71,215,301,103,159,247,10,60,224,115,172,29,359,205,295,90,123,349,180,269,45,355,193,280,74,218,304,106,336,162,250,14,151,94,126,53,141,197,284,78,221,309,111,342,168,257,22,146,357,203,291,86,316,119,346,176,265,38,236,132,353,188,274,68,212,299,100,331,156,244,7,62,200,83,173,31,149,91,124,47,138,194,281,75,219,305,107,338,164,252,16,95,367,231,319,127,351,183,271,55,198,285,79,363,222,310,112,343,169,258,24,147,293,88,365,227,317,120,347,177,267,40,238,134,190,276,70,361,214,300,102,333,158,246,9,59,327,143,199,288,82,223,312,114,171,261,28,148,358,204,294,89,229,122,348,179,268,44,323,137,354,192,279,73,217,303,105,335,161,249,13,150,207,93,366,230,318,125,350,182,270,52,325,140,196,283,77,362,220,308,110,341,167,256,21,145,356,202,290,85,364,226,315,118,345,175,264,37,235,321,131,352,187,273,67,360,211,298,99,330,155,243,6]
set_option maxHeartbeats 0 in
theorem t5:yR Om=ą:=by decide +kernel
end _r
namespace _l
open PySem PySem.Spec PyProof.Rows
abbrev sP:=Sum Ć ď
noncomputable def G3:sP->ā->ċ
 |.inl k,v=>α4 k v
 |.inr x,v=>ā.isStrOf x v
noncomputable def PX(w:ē):sP->Ć
 |.inl k=>hashInt k
 |.inr x=>hashStr w x
theorem cf:∀{k:sP}{v:ā},G3 k v=ą->(∃i t,k=Xk i/\v=ä i t)\/(∃x t,k=ZY x/\v=R_ x t)
 |.inl i,v,h=>by
  obtain⟨t,e⟩:=IN h;exact .inl ⟨i,t,rfl,e⟩
 |.inr x,v,h=>by
  obtain⟨t,e⟩:=ā.isStrOf_shape h;exact .inr ⟨x,t,rfl,e⟩
theorem μ9(a b:Ć):decide ((Xk a:sP)=Xk b)=(a == b):=by
 lia
theorem μ8(a:Ć)(b:ď):decide ((Xk a:sP)=ZY b)=ć:=RD (λq=>nomatch q)
theorem μ7(a:ď)(b:Ć):decide ((ZY a:sP)=Xk b)=ć:=RD (λq=>nomatch q)
def mU(prog:č)(w:ē):PySem.KeyKind prog w sP where
 is:=G3
 hash:=PX w
 inj:=λv a b n B=>by
  rcases cf n with⟨i,t,rfl,rfl⟩|⟨x,t,rfl,rfl⟩
  ·rcases cf B with ⟨j, u, rfl, e⟩ | ⟨y, u, rfl, e⟩
   all_goals lia
  ·rcases cf B with ⟨j, u, rfl, e⟩ | ⟨y, u, rfl, e⟩
   all_goals lia
 byValue:=λk v h=>by
  rcases cf h with⟨i,t,rfl,rfl⟩|⟨x,t,rfl,rfl⟩ <;> rfl
 pyHash:=λV h=>by
  rcases cf V with⟨i,t,rfl,rfl⟩|⟨x,t,rfl,rfl⟩
  ·exact wpAny_pyHash_int h
  ·exact wpAny_pyHash_str h
 eqBool:=λU V h=>by
  rcases cf U with⟨i,t,rfl,rfl⟩|⟨x,t,rfl,rfl⟩
  ·rcases cf V with ⟨j, u, rfl, rfl⟩ | ⟨y, u, rfl, rfl⟩
   ·rw[μ9]at h;exact wpAny_eqBool_int h
   ·rw[μ8]at h;exact ú i t y u _ _ _ _ h
  ·rcases cf V with ⟨j, u, rfl, rfl⟩ | ⟨y, u, rfl, rfl⟩
   ·rw[μ7]at h;exact ù x t j u _ _ _ _ h
   simp_all[wpAny_eqBool_str]
 «strs»:=λk x t v h=>by
  rcases cf h with⟨i,u,rfl,e⟩|⟨y,u,rfl,e⟩
  ·exact nomatch e
  ·injection e with d _
   subst d;cases v <;> rfl
inductive V where
 |non|bl (b:ċ)|int (i:Ć)|str (x:ď)|byt (b:ĕ UInt8)|flt (b:UInt64)|ref (a:Ĉ)|ty (n:Ī)
 deriving DecidableEq
def bA:V->ā->Prop
 |.non,u=>u=Ę
 |.bl b,u=>u=Ŏ b
 |.int i,u=>∃t,u=ä i t
 |.str x,u=>∃t,u=R_ x t
 |.byt b,u=>∃t,u=XS b t
 |.flt b,u=>∃t,u=XR b t
 |.ref a,u=>u=đ a
 |.ty n,u=>u=ģ n
abbrev aX:List V->List ā->Prop:=Xm bA
theorem aX.length{xs:List V}(r:aX xs us):xs.length=us.length:=YK r
theorem aX.get:∀{xs:List V}{us:List ā}{i:ă}{x:V},aX xs us->xs[i]?=Ā x->∃u,us[i]?=Ā u/\bA x u
 |_,_,_,_,.nil,e=>by simp at e
 |_,_,0,_,.cons r _,e=>by simp at e;subst e;exact⟨_,rfl,r⟩
 |_,_,i+1,x,.cons _ t,e=>by
  refine bb (aX.get (i:=i) (x:=x) t (by simpa using e)) λu h1 h2=>?_;exact⟨u,by simpa using h1,h2⟩
theorem aX.set{x:V}{u:ā}(r:bA x u):∀{xs:List V}{us:List ā}(i:ă),aX xs us->aX (xs.set i x) (us.set i u)
 |_,_,_,.nil=>.nil
 |_,_,0,.cons _ t=>.cons r t
 |_,_,i+1,.cons q t=>.cons q (aX.set r i t)
theorem aX.append:∀{xs ys:List V}{us ws:List ā},aX xs us->aX ys ws->aX (xs++ys) (us++ws)
 |_,_,_,_,.nil,s=>s
 |_,_,_,_,.cons r t,s=>.cons r (aX.append t s)
theorem aX.take:∀{xs:List V}{us:List ā}(n:ă),aX xs us->aX (xs.take n) (us.take n)
 |_,_,0,_=>.nil
 |_,_,_+1,.nil=>.nil
 |_,_,n+1,.cons r t=>.cons r (aX.take n t)
theorem aX.drop:∀{xs:List V}{us:List ā}(n:ă),aX xs us->aX (xs.drop n) (us.drop n)
 |_,_,0,r=>r
 |_,_,_+1,.nil=>.nil
 |_,_,n+1,.cons _ t=>aX.drop n t
def LS:Option V->Option ā->Prop
 |some v,Ā u=>bA v u
 |none,Ă=>Ÿ
 |_,_=>ł
def KV{κ:Type}:List (κ×V)->List (κ×ā)->Prop:=Xm λ(p:κ×V) (q:κ×ā)=>p.1=q.1/\bA p.2 q.2
noncomputable def kV:sP->V
 |.inl i=>.int i
 |.inr x=>.str x
inductive HO where
  |lst (xs:List V)
  |tup (xs:List V)
  |dK (kvs:List (sP×V))|dT (kvs:List (List sP×V))
  |set (S:Ć->ċ) (n:ă)
  |ins (C dx:Ĉ) (fs:List (ď×V))
  |own (x:Ĉ)
  |xd (fs:List (ď×V))
  |met (f x:Ĉ)
  |rng (lo hi:Ć)
  |frz (o:ħ) (u:HO)
  |tbl (ps:ĕ ā)
  |ext (φ:Ĕ->Prop)
noncomputable abbrev Hp:=Ĉ->Option HO
noncomputable def bz(H:Hp)(a:Ĉ)(o:HO):Hp:=λb=>if b=a then Ā o else H b
theorem aV{H:Hp}{o:HO}:bz H a o a=Ā o:=by simp[bz]
theorem aN{H:Hp}{o:HO}(h:b≠a):bz H a o b=H b:=by simp_all[bz]
theorem mh{H:Hp}{o u:HO}(h:H a=Ā o)(h':H b=Ā u)(d:o≠u):a≠b:=by
 lia
theorem bx{H:Hp}{o:HO}(h:H a=Ā o)(h':H b=Ă):a≠b:=by
 lia
def iW (h:Ĕ) (a:Ĉ) (items:ĕ ā):Prop:=∃o,h.get? a=Ā o/\o.cls=.type "tuple" /\ (∃n,o.data=.seq items n)/\o.dict=Ă
theorem iW.t{h:Ĕ}{items:ĕ ā}(x:iW h a items):Ó h a items:=let ⟨o,e,c,n,_⟩:=x;⟨o,e,c,n⟩
theorem iW.new (h:Ĕ) (items:ĕ ā):iW (h.push {cls:=.type "tuple",data:=.seq items}) h.objs.size items:=⟨_,SZ _ rfl,rfl,⟨_,rfl⟩,rfl⟩
section
variable(P:č)(w:ē)
def dC(H:Hp)(h:Ĕ)(a:Ĉ):HO->Prop
 |.lst xs=>xs.length<=sizeLine/\∃(i:List ā) (n:ă),aX xs i/\h.get? a=Ā {cls:=.type "list",data:=.seq i.toArray n}
 |.tup xs=>xs.length<=sizeLine/\∃i:List ā,aX xs i/\iW h a i.toArray
 |.dK d=>d.length<=sizeLine/\(a == ń)=ć/\∃y,KV d y/\h.DictOf (mU P w) a y
 |.dT d=>d.length<=sizeLine/\(a == ń)=ć/\∃xs:List (List sP×Ĉ×ā),
   Xm (λ(p:List sP×V) (q:List sP×Ĉ×ā)=>p.1=q.1/\H q.2.1=Ā (.tup (p.1.map kV))/\bA p.2 q.2.2) d xs /\
   ∃o es z,h.get? a=Ā o/\o.ExactDict/\o.data=.dict es z/\es.toList=xs.map (Ś (tupleKind (mU P w)))/\(xs.map 4e2).Nodup
 |.set S n=>h.SetOf (E_ P w) a S n
 |.ins C dx fs=>H dx=Ā (.own a)/\fs.length<=1000/\dx≠a/\h.get? a=Ā (W.instObj C dx) /\
   ∃mA,h.Ns1 dx mA/\(∀f,LS (fs.lookup f) (mA f))/\PySem.Within mA (fs.map 4e2)
 |.own _=>∃o,h.get? a=Ā o
 |.xd fs=>∃mA,h.Ns1 a mA/\∀f,LS (fs.lookup f) (mA f)
 |.rng lo hi=>∃t u v,h.get? a=Ā {cls:=.type "range",data:=.fields #[.int lo t,.int hi u,.int 1 v]}
 |.frz o u=>h.get? a=Ā o/\dC H h a u
 |.tbl ps=>h.get? a=Ā {cls:=.none,data:=.fields ps}
 |.met f x=>h.get? a=Ā (W.methodObj (.ref f) (.ref x))
 |.ext j=>j h/\(∃o,h.get? a=Ā o)/\∀h1 h2:Ĕ,j h1->(∀o,h1.get? a=Ā o->h2.get? a=Ā o)->j h2
def lA(H:Hp)(h:Ĕ):Prop:=∀a o,H a=Ā o->dC P w H h a o
end
section
variable{H H':Hp}{h:Ĕ}{o:HO}
theorem dC.lt(x:dC P w H h a o):a<h.objs.size:=by
 cases o with
 |lst xs=>obtain⟨_,_,_,_,e⟩:=x;exact S0 e
 |tup xs=>refine kh x λ_ _ _ p=>?_;exact p.t.lt
 |dK d=>obtain⟨_,_,_,_,o,_,_,e,_⟩:=x;exact S0 e
 |dT d=>obtain⟨_,_,_,_,o,_,_,e,_⟩:=x;exact S0 e
 |set S n=>obtain⟨o,_,_,_,e,_⟩:=x;exact S0 e
 |ins C dx fs=>refine iy x λ_ _ _ e _=>?_;exact S0 e
 |own y=>obtain⟨_,e⟩:=x;exact S0 e
 |xd fs=>obtain⟨_,⟨_,_,_,e,_⟩,_⟩:=x;exact S0 e
 |rng lo hi=>obtain⟨_,_,_,e⟩:=x;exact S0 e
 |frz O u=>obtain⟨e,_⟩:=x;exact S0 e
 |tbl ps=>exact S0 x
 |met f y=>exact S0 x
 |ext i=>obtain⟨_,⟨_,e⟩,_⟩:=x;exact S0 e
theorem i7{Y β:Type}{F G:Y->β->Prop}:∀{l₁:List Y}{l₂:List β},Xm F l₁ l₂->(∀a b,F a b->G a b)->Xm G l₁ l₂
 |_,_,.nil,_=>.nil
 |_,_,.cons r t,f=>.cons (f _ _ r) (i7 t f)
theorem dC.stay(x:dC P w H h a o)(k:∀b u,(b=a\/H b=Ā (.own a))->h.get? b=Ā u->h'.get? b=Ā u)
  (G:∀b,H b=Ā (.own a)->H' b=Ā (.own a)) (μ:∀b xs,H b=Ā (.tup xs)->H' b=Ā (.tup xs)):dC P w H' h' a o:=by
 induction o with
 |lst xs=>obtain⟨z,I,n,r,e⟩:=x;exact⟨z,I,n,r,k _ _ (.inl rfl) e⟩
 |tup xs=>obtain⟨z,I,r,O,e,c⟩:=x;exact⟨z,I,r,O,k _ _ (.inl rfl) e,c⟩
 |dK j=>obtain⟨z,y,V,r,O,es,i,e,c⟩:=x;exact⟨z,y,V,r,O,es,i,k _ _ (.inl rfl) e,c⟩
 |dT j=>
  obtain⟨z,y,xs,r,O,es,i,e,c⟩:=x;exact⟨z,y,xs,i7 r λp q z=>⟨z.1,μ _ _ z.2.1,z.2.2⟩,O,es,i,k _ _ (.inl rfl) e,c⟩
 |set S n=>obtain⟨O,es,i,t,e,c⟩:=x;exact⟨O,es,i,t,k _ _ (.inl rfl) e,c⟩
 |ins C dx fs=>
  obtain⟨d,z,ne,e,mA,⟨D,es,i,B,c⟩,r⟩:=x;exact⟨G _ d,z,ne,k _ _ (.inl rfl) e,mA,⟨D,es,i,k _ _ (.inr d) B,c⟩,r⟩
 |own y=>obtain⟨O,e⟩:=x;exact⟨O,k _ _ (.inl rfl) e⟩
 |xd fs=>obtain⟨mA,⟨D,es,i,e,c⟩,r⟩:=x;exact⟨mA,⟨D,es,i,k _ _ (.inl rfl) e,c⟩,r⟩
 |rng lo hi=>obtain⟨t,u,v,e⟩:=x;exact⟨t,u,v,k _ _ (.inl rfl) e⟩
 |frz O u L=>obtain⟨e,q⟩:=x;exact⟨k _ _ (.inl rfl) e,L q⟩
 |tbl ps=>
  have e:=x;exact k a _ (.inl rfl) e
 |met f y=>
  have e:=x;exact k a _ (.inl rfl) e
 |ext M=>obtain⟨p,⟨o,e⟩,st⟩:=x;exact⟨st _ _ p λo q=>k _ _ (.inl rfl) q,⟨o,k _ _ (.inl rfl) e⟩,st⟩
theorem lA.lt(x:lA P w H h)(e:H a=Ā o):a<h.objs.size:=(x a o e).lt
theorem lA.fresh(x:lA P w H h)(e:h.objs.size<=a):H a=Ă:=by
 cases q:H a with
 |none=>rfl
 |some u=>exact absurd (Ry (x.lt q) e) (S7 _)
theorem lA.kept(x:lA P w H h)(k:(∀b u,h.get? b=Ā u->h'.get? b=Ā u)):lA P w H h':=λa o e=>
 (x a o e).stay (λb u _ q=>k b u q) (λ_ q=>q) λ_ _ q=>q
theorem lA.laid(x:lA P w H h)(k:(∀b u,h.get? b=Ā u->h'.get? b=Ā u))(d:h.objs.size<=a)(new:dC P w (bz H a o) h' a o):lA P w (bz H a o) h':=λb u e=>by
 have n:=x.fresh d;by_cases B:b=a
 ·grind [aV]
 ·rw[aN B]at e;exact(x b u e).stay (λc v _ q=>k c v q) (λc q=>by rw[aN (bx q n)];exact q) λc xs q=>by rw[aN (bx q n)];exact q
end
def Rd(H:Hp)(a:Ĉ)(u:HO):Prop:=H a=Ā u\/∃o,H a=Ā (.frz o u)
theorem Rd.ok{H:Hp}{h:Ĕ}{u:HO}(r:Rd H a u)(x:lA P w H h):dC P w H h a u:=by
 rcases r with r|⟨o,r⟩
 ·exact x a u r
 ·obtain⟨_,q⟩:=x a _ r;exact q
def OB:Option HO->Prop
 |some (.lst _)=>Ÿ
 |some (.dK _)=>Ÿ
 |some (.dT _)=>Ÿ
 |some (.set _ _)=>Ÿ
 |some (.ins _ _ _)=>Ÿ
 |some (.ext _)=>Ÿ
 |_=>ł
section
variable{H:Hp}{h:Ĕ}{x e:Ĉ}{o':HO}
theorem lA.write(ok:lA P w H h)(M:OB (H x))(n:e=x\/H e=Ā (.own x))(k:∀b u,b≠e->h.get? b=Ā u->h'.get? b=Ā u)(O:∃u,h'.get? e=Ā u)
  (new:dC P w (bz H x o') h' x o'):lA P w (bz H x o') h':=λb u q=>by
 have nown:∀c y,H c=Ā (.own y)->c≠x:=λc y r z=>by subst z;rw[r]at M;exact M
 by_cases B:b=x
 ·grind [aV]
 ·rw [aN B] at q;by_cases d:b=e
  ·have i:H b=Ā (.own x):=by
    lia
   rw[q]at i;cases i;obtain⟨v,V⟩:=O;exact⟨v,by rw[d];exact V⟩
  ·refine (ok b u q).stay (λc v j r => k c v ?_ r) (λc r => by rw [aN (nown c b r)]; exact r) λc xs r => by rw [aN ((λc xs r z => by subst z; rw [r] at M; exact M) c xs r)]; exact r
   grind
end
structure Un(fs ex:List Ĉ)(H H':Hp)(h h':Ĕ):Prop where
 keep:∀b o,h.get? b=Ā o->H b=Ă->b∉fs->b∉ex->h'.get? b=Ā o
 slot:∀b o,h.get? b=Ā o->H b=Ă->b∈fs->b∉ex->∃sl,h'.get? b=Ā {o with slots:=sl}
 free:∀b o,h.get? b=Ā o->H b=Ă->b∉ex->H' b=Ă
 there:∀b o,h.get? b=Ā o->b∉ex->∃o',h'.get? b=Ā o'
 tups:∀b xs,H b=Ā (.tup xs)->H' b=Ā (.tup xs)
 frzs:∀b o u,H b=Ā (.frz o u)->H' b=Ā (.frz o u)
 tbls:∀b ps,H b=Ā (.tbl ps)->∃more,H' b=Ā (.tbl (ps++more))
section
variable{fs fs' ex ex':List Ĉ}{H H1 H2:Hp}{h h1 h2:Ĕ}{x e:Ĉ}{o:HO}
theorem Un.any(u:Un fs ex H H1 h h1){ob:ħ}(q:h.get? b=Ā ob)(n:H b=Ă)(d:b∉ex):∃sl,h1.get? b=Ā {ob with slots:=sl}:=by
 by_cases B:b∈fs
 ·exact u.slot b ob q n B d
 ·exact⟨ob.slots,u.keep b ob q n B d⟩
theorem Un.kept(k:(∀b u,h.get? b=Ā u->h'.get? b=Ā u)):Un fs ex H H h h':=
 ⟨λb O q _ _ _=>k b O q,λb O q _ _ _=>⟨O.slots,k b O q⟩,λ_ _ _ n _=>n,λb O q _=>⟨O,k b O q⟩,λ_ _ q=>q,λ_ _ _ q=>q,λ_ ps q=>⟨#[],by rw[q];rfl⟩⟩
theorem Un.refl:Un fs ex H H h h:=Un.kept λ_ _ q=>q
theorem Un.laid(k:(∀b u,h.get? b=Ā u->h'.get? b=Ā u))(d:h.objs.size<=a)(N:H a=Ă):Un fs ex H (bz H a o) h h' where
 keep:=λb u q _ _ _=>k b u q
 slot:=λb u q _ _ _=>⟨u.slots,k b u q⟩
 free:=λb u q n _=>by rw[aN (Sn (Ry (S0 q) d))];exact n
 there:=λb u q _=>⟨u,k b u q⟩
 tups:=λb xs q=>by rw[aN (bx q N)];exact q
 frzs:=λb u xs q=>by rw[aN (bx q N)];exact q
 tbls:=λb ps q=>⟨#[],by rw[aN (bx q N),q];rfl⟩
theorem Un.write(M:OB (H x))(j:e=x\/H e=Ā (.own x))(k:∀b u,b≠e->h.get? b=Ā u->h'.get? b=Ā u)(O:∃u,h'.get? e=Ā u):Un fs ex H (bz H x o) h h':=by
 have i:∀b,H b=Ă->b≠x:=λb n z=>by subst z;rw[n]at M;exact M
 have B:∀b,H b=Ă->b≠e:=λb n z=>by
  subst z;rcases j with r|r
  ·exact i b n r
  ·rw[n]at r;cases r
 have d:∀b u,H b=Ā u->¬ OB (Ā u)->b≠x:=λb u q nm z=>by subst z;rw[q]at M;exact nm M
 refine⟨λb u q n _ _=>k b u (B b n) q,λb u q n _ _=>⟨u.slots,k b u (B b n) q⟩,λb u q n _=>by rw[aN (i b n)];exact n,λb u q _=>?_,
  λb xs q=>by rw[aN (d b _ q λz=>z)];exact q,λb u xs q=>by rw[aN (d b _ q λz=>z)];exact q,λb ps q=>⟨#[],by rw[aN (d b _ q λz=>z),q];rfl⟩⟩
 grind
end
noncomputable def OQ(h:Ĕ)(H:Hp):List Ĉ:=(List.range h.objs.size).filter λa=>(H a).isSome
def vv(h:Ĕ)(H:Hp):Ĕ:=W.hideAll h (OQ h H)
theorem zD(h:Ĕ)(H:Hp):(vv h H).objs.size=h.objs.size:=W.hideAll_size _ _
theorem C6{h:Ĕ}{H:Hp}{o:ħ}(e:h.get? b=Ā o)(n:H b=Ă):(vv h H).get? b=Ā o:=
 W.hideAll_get _ e λM=>by
  have q:=(S8.mp M).2;rw[n]at q;simp at q
theorem FJ{h:Ĕ}{H:Hp}{o:ħ}(e:(vv h H).get? b=Ā o):h.get? b=Ā o/\H b=Ă:=by
 have d:=W.of_hideAll (OQ h H) e;refine⟨d,?_⟩;cases q:H b with
 |none=>rfl
 |some x=>
  simp_all[OQ,S0,vv,W.hideAll_none]
end _l
variable{H:_l.Hp}{vs:List _l.V}{v:_l.V}{H0:_l.Hp}{y:_l.V}
namespace _l
open PySem PySem.Spec PyProof.Rows
structure Mod(K:W.Frag)(mg:3e6)(base:Ĕ):Prop where
 kin:K.In base
 glob:base.Ns Ĝ mg
 blt:∃mb,base.Ns ý mb/\∀x:ď,x ≠ "__name__" -> mb x=Ġ x
 nolimit:base.NoLimit
structure Cx where
 prog:č
 w:ē
 K:W.Frag
 mg:ď->Option ā
 base:Ĕ
 A:Đ
 N:List ď
 s₀:Ą
 H₀:Hp
 env:Ŋ
 outer:List Ŋ
 stack:List Ŋ
 ex:List Ĉ
 fn:ď->ċ
 calm:ċ
 pn:List (Ĉ×ħ)
 xe:ā->Ą->Prop
noncomputable def ni(l:List Ŋ):List Ĉ:=l.filterMap (·.frame)
abbrev Cx.fs(X:Cx):List Ĉ:=ni X.outer
def Du(S:ĺ)(x:ď):Prop:=S.names.lookup x=Ā .local\/S.names.lookup x=Ā .cell\/S.names.lookup x=Ā .free
def yN(S:ĺ)(x:ď):Prop:=S.names.lookup x=Ā .local\/S.names.lookup x=Ā .cell
def Qy(env:Ŋ)(h:Ĕ)(m:3e6)(x:ď)(u:ā):Prop:=
 (env.kindOf x=Ā .local/\m x=Ā u)\/((env.kindOf x=Ā .cell\/env.kindOf x=Ā .free)/\∃c,env.cells.lookup x=Ā c/\h.IsCell c (Ā u))
structure Cx.Ok(X:Cx):Prop where
 mod:Mod X.K X.mg X.base
 kind:X.env.scope.kind=.function
 glob:X.env.globals=Ĝ
 blt:X.env.builtins=ý
 above:X.s₀.heap.objs.size<=X.env.locals
 inj:∀x y c,X.env.cells.lookup x=Ā c->X.env.cells.lookup y=Ā c->x=y
 has:∀x,(X.env.kindOf x=Ā .cell\/X.env.kindOf x=Ā .free)->∃c,X.env.cells.lookup x=Ā c
 cab:∀x c,X.fn x=ą->X.env.cells.lookup x=Ā c->X.s₀.heap.objs.size<=c
 hd:X.calm=ą->X.A.handled=Ă
 frames:X.A.frames=Ā X.stack
 stk:X.stack=X.outer\/(X.stack=X.env::X.outer/\X.env.frame=Ā X.env.locals)
 exf:∀b∈X.ex,b≠X.env.locals/\∀x c,X.env.cells.lookup x=Ā c->c≠b
 bs:∀b o,X.base.get? b=Ā o->X.s₀.heap.get? b=Ā o/\X.H₀ b=Ă
 bsz:X.base.objs.size<=X.s₀.heap.objs.size
 noex:∀b o,X.base.get? b=Ā o->b∉X.ex
 exfs:∀b∈X.ex,b∉X.fs
 funs:X.s₀.heap.FunFrames X.base X.outer
 frf:∀b∈X.fs,X.H₀ b=Ă
structure aO(X:Cx)(pins:2e0)(σ:List (Option V))(H:Hp)(s:Ą):Prop where
 ok:X.Ok
 os:s.os=X.s₀.os
 bare:ţ s.gens
 base:Un X.fs X.ex X.H₀ H X.s₀.heap 1e9
 loc:∃m,s.heap.Ns X.env.locals m/\∀(i:ă)(x:ď)(v:V),X.N[i]?=Ā x->σ[i]?=Ā (Ā v)->Du X.env.scope x->∃u,bA v u/\Qy 1e4 1e9 m x u
 cell:∀x c,X.env.cells.lookup x=Ā c->∃v,s.heap.IsCell c v
 free:H X.env.locals=Ă
 freeC:∀x c,X.env.cells.lookup x=Ā c->H c=Ă
 pin:∀p∈X.pn++pins,s.heap.get? p.1=Ā p.2/\H p.1=Ă/\p.1≠X.env.locals/\p.1∉X.fs/\∀v,p.2.data≠.cell v
 hok:lA X.prog X.w H 1e9
 len:σ.length=X.N.length
section
variable{X:Cx}{σ:List (Option V)}{H':Hp}
theorem Cx.Ok.nofr(ok:X.Ok){o:ħ}(e:X.base.get? b=Ā o):b∉X.fs:=λB=>by
 have:=(ok.funs.mem B).1
 lia
theorem aO.bs(I:0e4):∀b o,X.base.get? b=Ā o->s.heap.get? b=Ā o/\H b=Ă:=λb o e=>
 ⟨I.base.keep b o (I.ok.bs b o e).1 (I.ok.bs b o e).2 (I.ok.nofr e) (I.ok.noex b o e),I.base.free b o (I.ok.bs b o e).1 (I.ok.bs b o e).2 (I.ok.noex b o e)⟩
theorem aO.bk(I:0e4):∀b o,X.base.get? b=Ā o->s.heap.get? b=Ā o:=λb o e=>(I.bs b o e).1
theorem aO.mod(I:0e4):Mod X.K X.mg X.base:=I.ok.mod
theorem aO.kIn(I:0e4):X.K.In 1e9:=I.ok.mod.kin.keeps I.bk
theorem aO.lt(I:0e4):X.env.locals<s.heap.objs.size:=let ⟨_,hn,_⟩:=I.loc;hn.lt
theorem aO.sz(I:0e4):X.s₀.heap.objs.size<=s.heap.objs.size:=RH I.ok.above (Sj I.lt)
theorem aO.nofs(I:0e4)(h:s.heap.objs.size<=a):a∉X.fs:=λB=>by
 refine kh (I.ok.funs.mem B) λ_ o O _=>?_;exact absurd (Ry (S0 O) (RH I.sz h)) (S7 _)
theorem aO.cne(I:0e4):∀x c,X.env.cells.lookup x=Ā c->c≠X.env.locals:=λx c e z=>by
 refine bZ (I.cell x c e) λv o O D=>?_;obtain⟨m,⟨o',es,j,i,d,_⟩,_⟩:=I.loc
 lia
theorem aO.funs(I:0e4):s.heap.FunFrames X.base X.outer:=by
 have all:∀(l:List Ŋ),(∀b∈ni l,b∈X.fs)->X.s₀.heap.FunFrames X.base l->s.heap.FunFrames X.base l:=by
  intro l
  induction l with
  |nil=>intro _ _;trivial
  |cons env r j=>
   intro S i;obtain⟨d,⟨L,o,F,n,O,D⟩,R⟩:=i;have hL:=S L (by unfold ni;rw[S9,F];exact Ta);obtain⟨q,e⟩:=I.base.slot L o O (I.ok.frf L hL) hL λz=>I.ok.exfs L z hL;exact⟨d,⟨L,_,F,n,e,D⟩,j (λb B=>S b (by unfold ni;rw[S9,F];exact Tb _ B)) R⟩
 exact all X.outer (λ_ B=>B) I.ok.funs
theorem aO.stack(I:0e4):s.heap.FunFrames X.base X.stack:=by
 rcases I.ok.stk with e|⟨e,F⟩
 ·rw[e];exact I.funs
 ·rw[e];refine bb I.loc λm n _=>?_;exact .cons (by rw[I.ok.kind];decide) F n (Tc (RH I.ok.bsz I.ok.above)) I.funs
theorem aO.stkSub(I:0e4):∀b∈ni X.stack,b∈X.env.locals::X.fs:=λb B=>by
 rcases I.ok.stk with e|⟨e,F⟩
 all_goals simp_all[ni]
theorem aO.stkFree(I:0e4):∀b∈ni X.stack,H b=Ă:=λb B=>by
 rcases Td.mp (I.stkSub b B) with e|B
 ·rw[e];exact I.free
 ·refine kh (I.ok.funs.mem B) λ_ o O _=>?_;exact I.base.free b o O (I.ok.frf b B) λz=>I.ok.exfs b z B
theorem aO.step{g':ĕ Ö}{d':Zl}(I:0e4)(y:(∀b∈ch,(b∈X.ex\/X.s₀.heap.objs.size<=b)/\b≠X.env.locals/\(∀x c,X.env.cells.lookup x=Ā c->c≠b)/\∀p∈X.pn++pins,p.1≠b))(keep:∀b o,b≠X.env.locals->b∉X.fs->b∉ch->s.heap.get? b=Ā o->H b=Ă->h'.get? b=Ā o)(slot:∀b o,b≠X.env.locals->b∈X.fs->b∉ch->s.heap.get? b=Ā o->H b=Ă->∃sl,h'.get? b=Ā {o with slots:=sl})(free:∀b o,b∉ch->s.heap.get? b=Ā o->H b=Ă->H' b=Ă)(there:∀b o,b∉ch->s.heap.get? b=Ā o->∃o',h'.get? b=Ā o')(tups:∀b xs,H b=Ā (.tup xs)->H' b=Ā (.tup xs))(frzs:∀b o u,H b=Ā (.frz o u)->H' b=Ā (.frz o u))(tbls:∀b ps,H b=Ā (.tbl ps)->∃more,H' b=Ā (.tbl (ps++more)))(ns:∀m,s.heap.Ns X.env.locals m->h'.Ns X.env.locals m)(L:lA X.prog X.w H' h')(α:ţ g'):
  aO X pins σ H' {s with heap:=h',gens:=g',drawn:=d',toks:=t'}:=by
 have neL:∀b o,X.s₀.heap.get? b=Ā o->b≠X.env.locals:=λb o e=>Sn (Ry (S0 e) I.ok.above)
 have neC:∀b o,X.s₀.heap.get? b=Ā o->b∉X.ex->b∉ch:=λb o e j G=>by
  rcases (y b G).1 with z|z
  ·exact j z
  ·exact absurd (Ry (S0 e) z) (S7 _)
 have cellK:∀x c,X.env.cells.lookup x=Ā c->∀v,s.heap.IsCell c v->h'.IsCell c v:=λx c e v ⟨o,O,D⟩=>by
  have nch:c∉ch:=λz=>(y c z).2.2.1 x c e rfl;by_cases M:c∈X.fs
  ·obtain⟨sl,q⟩:=slot c o (I.cne x c e) M nch O (I.freeC x c e);exact⟨_,q,D⟩
  ·exact⟨o,keep c o (I.cne x c e) M nch O (I.freeC x c e),D⟩
 refine⟨I.ok,I.os,α,⟨λb o e n G j=>?_,λb o e n G j=>?_,λb o e n j=>?_,λb o e j=>?_,λb xs e=>tups b xs (I.base.tups b xs e),λb o xs e=>frzs b o xs (I.base.frzs b o xs e),λb ps e=>?_⟩,?_,λx c e=>?_,?_,λx c e=>?_,λp N=>?_,L,I.len⟩
 ·exact keep b o (neL b o e) G (neC b o e j) (I.base.keep b o e n G j) (I.base.free b o e n j)
 ·obtain⟨sl,B⟩:=I.base.slot b o e n G j;obtain⟨S,μ⟩:=slot b _ (neL b o e) G (neC b o e j) B (I.base.free b o e n j);exact⟨S,μ⟩
 ·obtain⟨o',B⟩:=I.base.there b o e j;exact free b o' (neC b o e j) B (I.base.free b o e n j)
 ·obtain⟨o',B⟩:=I.base.there b o e j;exact there b o' (neC b o e j) B
 ·obtain⟨R,B⟩:=I.base.tbls b ps e;obtain⟨W,μ⟩:=tbls b _ B;exact⟨R++W,by rw[μ,ĕ.append_assoc]⟩
 ·obtain ⟨m, V, Z⟩ := I.loc;refine⟨m,ns m V,λi x v B μ U=>?_⟩;obtain⟨u,r,l⟩:=Z i x v B μ U;refine⟨u,r,?_⟩;rcases l with l|⟨k,c,e,z⟩
  ·exact .inl l
  ·exact .inr ⟨k,c,e,cellK x c e _ z⟩
 ·obtain⟨v,z⟩:=I.cell x c e;exact⟨v,cellK x c e v z⟩
 ·obtain⟨m,⟨o,_,_,O,_⟩,_⟩:=I.loc;exact free _ o (λz=>(y _ z).2.1 rfl) O I.free
 ·obtain⟨v,o,O,D⟩:=I.cell x c e;exact free c o (λz=>(y c z).2.2.1 x c e rfl) O (I.freeC x c e)
 ·obtain⟨e,n,ne,F,d⟩:=I.pin p N;have nch:p.1∉ch:=λz=>(y p.1 z).2.2.2 p N rfl;exact⟨keep p.1 p.2 ne F nch e n,free p.1 p.2 nch e n,ne,F,d⟩
theorem aO.un(I:0e4)(u:Un X.fs [] H H' 1e9 h')(L:lA X.prog X.w H' h'):aO X pins σ H' {s with heap:=h',toks:=t'}:=by
 obtain⟨m,⟨o,es,q,O,r⟩,_⟩:=id I.loc;obtain⟨S,hL⟩:=u.any O I.free 1e1
 exact I.step (ch:=[]) (λ_ z=>nomatch z) (λb o _ B _ e n=>u.keep b o e n B 1e1) (λb o _ B _ e n=>u.slot b o e n B 1e1) (λb o _ e n=>u.free b o e n 1e1) (λb o _ e=>u.there b o e 1e1) u.tups u.frzs u.tbls (λy M=>by
  refine gI M λo' j d i R=>?_;rw[O]at i;cases i
  exact⟨_,j,d,hL,R⟩) L I.bare
theorem aO.call{g':ĕ Ö}{d':Zl}(I:0e4)(u:Un (ni X.stack) ch H H' 1e9 h')(L:lA X.prog X.w H' h')(N:ţ g')(y:(∀b∈ch,(b∈X.ex\/X.s₀.heap.objs.size<=b)/\b≠X.env.locals/\(∀x c,X.env.cells.lookup x=Ā c->c≠b)/\∀p∈X.pn++pins,p.1≠b)):
  aO X pins σ H' {s with heap:=h',gens:=g',drawn:=d',toks:=t'}:=by
 obtain⟨m,⟨o,es,G,O,r⟩,_⟩:=id I.loc;obtain⟨S,hL⟩:=u.any O I.free λz=>(y _ z).2.1 rfl
 exact I.step y (λb o hL B d e n=>u.keep b o e n (λz=>(Td.mp (I.stkSub b z)).elim hL B) d) (λb o _ _ d e n=>u.any e n d) (λb o d e n=>u.free b o e n d) (λb o d e=>u.there b o e d) u.tups u.frzs u.tbls (λμ M=>by
  refine gI M λo' q j i R=>?_;rw[O]at i;cases i
  exact⟨_,q,j,hL,R⟩) L N
theorem aO.turned(I:0e4)(k:∀b o,b≠it->s.heap.get? b=Ā o->h'.get? b=Ā o)(N:H it=Ă)(hL:it≠X.env.locals)(h1:it∈X.ex\/X.s₀.heap.objs.size<=it)(h2:∀x c,X.env.cells.lookup x=Ā c->c≠it)(j:∀p∈X.pn++pins,p.1≠it):aO X pins σ H {s with heap:=h',toks:=t'}:=by
 refine I.step (ch:=[it]) (λb B=>?_) (λb o _ _ d e _=>k b o (λz=>d (by simp[z])) e) (λb o _ _ d e _=>⟨o.slots,k b o (λz=>d (by simp[z])) e⟩) (λ_ _ _ _ n=>n)
  (λb o d e=>⟨o,k b o (λz=>d (by simp[z])) e⟩) (λ_ _ e=>e) (λ_ _ _ e=>e) (λb ps e=>⟨#[],by rw[e];rfl⟩) (λm M=>?_) (λb u e=>?_) I.bare
 ·have e : b = it := by simpa using B
  subst e;exact⟨h1,hL,h2,j⟩
 ·refine gI M λo es i O r=>?_;exact⟨o,es,i,k _ o (R7 hL) O,r⟩
 ·refine (I.hok b u e).stay (λc v d q => k c v ?_ q) (λ_ q => q) λ_ _ q => q
  lia
theorem aO.tok(I:0e4)(t:ă):aO X pins σ H {s with toks:=t}:=I.un Un.refl I.hok
theorem aO.kept(I:0e4)(k:∀b u,s.heap.get? b=Ā u->h'.get? b=Ā u):aO X pins σ H {s with heap:=h',toks:=t'}:=I.un (Un.kept k) (I.hok.kept k)
theorem aO.laid{o:HO}(I:0e4)(k:∀b u,s.heap.get? b=Ā u->h'.get? b=Ā u)(d:s.heap.objs.size<=a)(new:dC X.prog X.w (bz H a o) h' a o):
  aO X pins σ (bz H a o) {s with heap:=h',toks:=t'}:=I.un (Un.laid k d (I.hok.fresh d)) (I.hok.laid k d new)
theorem aO.write{x e:Ĉ}{o:HO}(I:0e4)(M:OB (H x))(n:e=x\/H e=Ā (.own x))(k:∀b u,b≠e->s.heap.get? b=Ā u->h'.get? b=Ā u)(O:∃u,h'.get? e=Ā u)(new:dC X.prog X.w (bz H x o) h' x o):aO X pins σ (bz H x o) {s with heap:=h',toks:=t'}:=I.un (Un.write M n k O) (I.hok.write M n k O new)
theorem aO.pins_of{pins':2e0}(I:0e4)(h:∀p∈pins',s.heap.get? p.1=Ā p.2/\H p.1=Ă/\p.1≠X.env.locals/\p.1∉X.fs/\∀v,p.2.data≠.cell v):aO X pins' σ H s:=
 ⟨I.ok,I.os,I.bare,I.base,I.loc,I.cell,I.free,I.freeC,λp d=>(Te.mp d).elim (λz=>I.pin p (Tf _ z)) (h p),I.hok,I.len⟩
theorem uk(hN:N.Nodup)(a:N[i]?=Ā x)(b:N[j]?=Ā x):i=j:=by
 obtain⟨h1,d⟩:=Se.mp a;obtain⟨h2,n⟩:=Se.mp b;exact(Ru hN).mp (d.trans n.symm)
theorem qh{M:ų}{Q:(ŏ->Ą->Prop)}(I:0e4)(hN:(X.N.Nodup))(hi:(X.N[i]?=Ā x))(G:(yN X.env.scope x))(r:bA v u)(h:∀s',aO X pins (σ.set i (Ā v)) H s'->(∃a,Į a 1e9 s'.heap/\(a=X.env.locals\/X.env.cells.lookup x=Ā a))->Q () s')(hf:(autoParam 2e3 ATu)):Ċ M A (YX 1e4 x u) Q E s:=by
 refine bb (id I.loc) λm hn hl=>?_;have hiσ:i<σ.length:=by rw[I.len];grind
 have cne:=I.cne
 have tracked:∀{a:Ĉ}{h':Ĕ},(∃o,s.heap.get? a=Ā o/\H a=Ă)->Į a 1e9 h'->lA X.prog X.w H h':=λ{a h'} ha S b ob e=>by
  refine(I.hok b ob e).stay (λc w' μ q=>(S.2 c ?_).trans q) (λ_ q=>q) λ_ _ q=>q
  lia
 rcases G with D|D
 ·refine wpAny_storeName_local D hn (λh' hn' S => ?_) (by rw [I.ok.kind]; rfl);refine gI (id hn) λoL _ _ hoL _=>?_;refine h _ ⟨I.ok,I.os,I.bare,⟨λb o e n U G=>?_,λb o e n U G=>?_,I.base.free,λb o e G=>?_,I.base.tups,I.base.frzs,I.base.tbls⟩,⟨_,hn',λj y v' B L W=>?_⟩,λy c e=>?_,I.free,I.freeC,λp hp=>?_,tracked ⟨oL,hoL,I.free⟩ S,by simpa using I.len⟩ ⟨_,S,.inl rfl⟩
  ·exact(S.2 b (Sn (Ry (S0 e) I.ok.above))).trans (I.base.keep b o e n U G)
  ·obtain⟨sl,B⟩:=I.base.slot b o e n U G;exact⟨sl,(S.2 b (Sn (Ry (S0 e) I.ok.above))).trans B⟩
  ·obtain⟨o',B⟩:=I.base.there b o e G;exact⟨o',(S.2 b (Sn (Ry (S0 e) I.ok.above))).trans B⟩
  ·by_cases Z : j = i
   ·subst Z;rw[hi]at B;cases B;rw[Tg hiσ]at L;cases L;exact⟨u,r,.inl ⟨D,by simp⟩⟩
   ·rw [Th (R7 Z)] at L;refine bb (hl j y v' B L W) λu' r' q=>?_;refine⟨u',r',?_⟩;rcases q with⟨k,e⟩|⟨k,c,e,z⟩
    ·refine .inl ⟨k,?_⟩;have:y≠x:=λe=>Z (uk hN B (e ▸ hi));simp[this,e]
    ·exact .inr ⟨k,c,e,z.sameBut S (cne y c e)⟩
  ·obtain⟨w',z⟩:=I.cell y c e;exact⟨w',z.sameBut S (cne y c e)⟩
  ·refine iy (I.pin p hp) λe n ne nf d=>?_;exact⟨(S.2 p.1 ne).trans e,n,ne,nf,d⟩
 ·have α:X.fn x=ą:=by
   lia
  obtain⟨c,μ⟩:=I.ok.has x (.inl D);obtain⟨w',z⟩:=I.cell x c μ;refine wpAny_storeName_cell I.ok.kind D μ z (λh' O S=>?_);refine bb (id z) λoc hoc hocd=>?_;refine h {s with heap:=h'} ⟨I.ok,I.os,I.bare,⟨λb o e n U G=>?_,λb o e n U G=>?_,I.base.free,λb o e G=>?_,I.base.tups,I.base.frzs,I.base.tbls⟩,⟨m,hn.sameBut S (R7 (cne x c μ)),λj y v' B L W=>?_⟩,λy F e=>?_,I.free,I.freeC,λp hp=>?_,tracked ⟨oc,hoc,I.freeC x c μ⟩ S,by simpa using I.len⟩ ⟨c,S,.inr μ⟩
  ·exact(S.2 b (Sn (Ry (S0 e) (I.ok.cab x c α μ)))).trans (I.base.keep b o e n U G)
  ·obtain⟨sl,B⟩:=I.base.slot b o e n U G;exact⟨sl,(S.2 b (Sn (Ry (S0 e) (I.ok.cab x c α μ)))).trans B⟩
  ·obtain⟨o',B⟩:=I.base.there b o e G;exact⟨o',(S.2 b (Sn (Ry (S0 e) (I.ok.cab x c α μ)))).trans B⟩
  ·by_cases Z : j = i
   ·subst Z;rw[hi]at B;cases B;rw[Tg hiσ]at L;cases L;exact⟨u,r,.inr ⟨.inl D,c,μ,O⟩⟩
   ·rw [Th (R7 Z)] at L;refine bb (hl j y v' B L W) λu' r' q=>?_;refine⟨u',r',?_⟩;rcases q with q|⟨k,F,e,z'⟩
    ·exact .inl q
    ·refine .inr ⟨k, F, e, z'.sameBut S ?_⟩
     rintro rfl
     exact Z (uk hN B (I.ok.inj _ _ _ e μ ▸ hi))
  ·by_cases R : F = c
   ·subst R;exact⟨_,O⟩
   ·obtain⟨w2,z2⟩:=I.cell y F e;exact⟨w2,z2.sameBut S R⟩
  ·refine iy (I.pin p hp) λe n ne nf d => ?_;refine⟨(S.2 p.1 ?_).trans e,n,ne,nf,d⟩
   grind
theorem kO{M:ų}{Q:(ŏ->Ą->Prop)}(I:0e4)(hN:(X.N.Nodup))(hi:(X.N[i]?=Ā x))(j:(yN X.env.scope x))(r:bA v u)(h:∀s',aO X pins (σ.set i (Ā v)) H s'->Q () s')(F:(autoParam 2e3 ATu)):Ċ M A (YX 1e4 x u) Q E s:=
 qh I hN hi j r (λs' d _=>h s' d) F
theorem aO.call'(I:0e4)(O:s'.os=s.os)(u:Un (ni X.stack) ch H H' 1e9 s'.heap)(L:lA X.prog X.w H' s'.heap)(N:ţ s'.gens)(y:(∀b∈ch,(b∈X.ex\/X.s₀.heap.objs.size<=b)/\b≠X.env.locals/\(∀x c,X.env.cells.lookup x=Ā c->c≠b)/\∀p∈X.pn++pins,p.1≠b)):aO X pins σ H' s':=by
 obtain⟨h',G,d,i,o'⟩:=s';subst O;exact I.call u L N y
end
abbrev XK:=ā->Option Ĉ->Hp->Prop
abbrev St:=List (Option V)
abbrev VK:=V->Hp->Prop
abbrev TE:=St->Hp->VK->Prop
abbrev TT:=St->Hp->(ċ->Hp->Prop)->Prop
abbrev TA:=St->Hp->(List V->Hp->Prop)->Prop
structure lG where
 nx:St->Hp->Prop
 rt:VK
 bk:St->Hp->Prop:=λ_ _=>ł
 ct:St->Hp->Prop:=λ_ _=>ł
abbrev TS:=lG->St->Hp->Prop
def EP(X:Cx)(pins:2e0)(σ:St)(Q:VK)(u:ā)(s':Ą):Prop:=∃v H',aO X pins σ H' s'/\bA v u/\Q v H'
def TP(X:Cx)(pins:2e0)(σ:St)(Q:ċ->Hp->Prop)(b:ċ)(s':Ą):Prop:=∃H',aO X pins σ H' s'/\Q b H'
def AP(X:Cx)(pins:2e0)(σ:St)(Q:List V->Hp->Prop)(us:List ā)(s':Ą):Prop:=∃y H',aO X pins σ H' s'/\aX y us/\Q y H'
def SP(X:Cx)(pins:2e0)(D:lG)(f:Zs)(s':Ą):Prop:=
 match f with
 |.next=>∃d H',aO X pins d H' s'/\D.nx d H'
 |.brk=>∃d H',aO X pins d H' s'/\D.bk d H'
 |.cont=>∃d H',aO X pins d H' s'/\D.ct d H'
 |.ret u=>∃v d H',aO X pins d H' s'/\bA v u/\D.rt v H'
def PE(X:Cx)(e:Expr)(t:TE):Prop:=
 ∀(pins:2e0)(s:Ą)(σ:St)(H:Hp)(Q:VK),aO X pins σ H s->t σ H Q->Ċ 1e2 X.A (eval e 1e4) (EP X pins σ Q) X.xe s
def PT(X:Cx)(e:Expr)(t:TT):Prop:=
 ∀(pins:2e0)(s:Ą)(σ:St)(H:Hp)(Q:ċ->Hp->Prop),aO X pins σ H s->t σ H Q->Ċ 1e2 X.A (isTrue e 1e4 (eval e 1e4)) (TP X pins σ Q) X.xe s
def PW(X:Cx)(e:Expr)(t:TT):Prop:=
 ∀(whole:Ť ā)(pins:2e0)(s:Ą)(σ:St)(H:Hp)(Q:ċ->Hp->Prop),aO X pins σ H s->t σ H Q->Ċ 1e2 X.A (isTrue e 1e4 whole) (TP X pins σ Q) X.xe s
theorem PW.pt{X:Cx}{t:TT}(h:PW X e t):PT X e t:=h _
def PA(X:Cx)(es:4e1)(t:TA):Prop:=
 ∀(pos:Ľ)(pins:2e0)(s:Ą)(σ:St)(H:Hp)(Q:List V->Hp->Prop),aO X pins σ H s->t σ H Q->Ċ 1e2 X.A (spliced (Ħ pos (ĉ es 1e4))) (AP X pins σ Q) X.xe s
def PS(X:Cx)(st:ĝ)(t:TS):Prop:=
 ∀(pins:2e0)(s:Ą)(σ:St)(H:Hp)(D:lG),aO X pins σ H s->t D σ H->Ċ 1e2 X.A (exec st 1e4) (SP X pins D) X.xe s
def ly(X:Cx)(st:List ĝ)(t:TS):Prop:=
 ∀(pins:2e0)(s:Ą)(σ:St)(H:Hp)(D:lG),aO X pins σ H s->t D σ H->Ċ 1e2 X.A (execs st 1e4) (SP X pins D) X.xe s
theorem cB{Y:Type}{t:Ť Y}{Q Q':Y->Ą->Prop}{M:ų}(h:Ċ M A t Q E s)(hQ:∀a s,Q a s->Q' a s):Ċ M A t Q' E s:=SA h hQ λ_ _ x=>x
end _l
variable{σ:_l.St}{te:_l.TE}{ta:_l.TE}
namespace _l
open PySem PySem.Spec PyProof.Rows
section
variable{X:Cx}
def Hk(i:ă):TE:=λσ H Q=>∃v,σ[i]?=Ā (Ā v)/\Q v H
def tC(v:V):TE:=λ_ H Q=>Q v H
theorem lI(hN:(X.N[i]?=Ā x))(V:Du X.env.scope x)(hd:1e0)(D:(autoParam ((x == ("__classdict__" : ď))=ć) ATs)):PE X (.Name x pos) (Hk i):=by
 intro pins s σ H Q I h;refine bb h λv e h=>?_;refine bb I.loc λm q L=>?_;refine bb (L i x v hN e V) λu r l=>?_;have n:EP X pins σ Q u s:=⟨v,H,I,r,h⟩;rcases l with⟨d,M⟩|⟨d,c,j,hcell⟩
 ·exact Xy (â I.ok.kind d q M n) hd
 ·rcases d with d | d
  ·exact Xy (í I.ok.kind d j hcell n) hd
  ·exact Xy (wpAny_loadName_free I.ok.kind d j hcell n D) hd
theorem Jp{i j pos}:PE X (.Constant (.int i) j pos) (tC (.int i)):=λ_ _ _ H _ I h=>wpAny_Constant_int ⟨.int i,H,I.tok _,⟨_,rfl⟩,h⟩
theorem Ny{b j pos}:PE X (.Constant (.bool b) j pos) (tC (.bl b)):=λ_ _ _ H _ I h=>Constant_bool ⟨.bl b,H,I,rfl,h⟩
theorem Bk{j pos}:PE X (.Constant .none j pos) (tC .non):=λ_ _ _ H _ I h=>Constant_none ⟨.non,H,I,rfl,h⟩
theorem Jl{x j pos}:PE X (.Constant (.str x) j pos) (tC (.str x)):=λ_ _ _ H _ I h=>Calls.Constant_str ⟨.str x,H,I.tok _,⟨_,rfl⟩,h⟩
def Gl(X:Cx)(x:ď):Prop:=X.env.kindOf x=Ā .globalImplicit
theorem kF(I:0e4)(N:Gl X x)(M:X.mg x=Ā u)(h:Q u s)(hd:1e0):Ċ 1e2 X.A (eval (.Name x pos) 1e4) Q E s:=
 ũ I.ok.kind N (Calls.loadGlobal_global (by rw[I.ok.glob];exact I.mod.glob.keeps I.bk) M h) hd
theorem iP(I:0e4)(N:Gl X x)(M:X.mg x=Ă)(V:Ġ x=Ā u)(h:Q u s)(n:(autoParam (x ≠ "__name__") ATs))(hd:1e0):Ċ 1e2 X.A (eval (.Name x pos) 1e4) Q E s:=by
 refine bb I.mod.blt λB h1 h2=>?_;exact ũ I.ok.kind N (Calls.loadGlobal_builtin (by rw[I.ok.glob];exact I.mod.glob.keeps I.bk) M (by rw[I.ok.blt];exact h1.keeps I.bk) ((h2 x n).trans V) h) hd
theorem rK(N:Gl X x)(M:X.mg x=Ā u)(r:bA v u)(hd:1e0):PE X (.Name x pos) (tC v):=
 λ_ _ _ H _ I h=>kF I N M ⟨v,H,I,r,h⟩ hd
theorem x3(N:Gl X x)(M:X.mg x=Ă)(d:Ġ x=Ā u)(r:bA v u)(n:(autoParam (x ≠ "__name__") ATs))(hd:1e0):PE X (.Name x pos) (tC v):=
 λ_ _ _ H _ I h=>iP I N M d ⟨v,H,I,r,h⟩ n hd
variable{a b:Expr}{tb:TE}
variable{tA tB':TT}
noncomputable def Pz(t u:TT):TT:=λσ H Q=>t σ H λc H1=>if c=ą then u σ H1 Q else Q ć H1
noncomputable def Q7(t u:TT):TT:=λσ H Q=>t σ H λc H1=>if c=ą then Q ą H1 else u σ H1 Q
noncomputable def Pt(t:TT):TT:=λσ H Q=>t σ H λc H1=>Q (!c) H1
theorem E3(d:PT X a tA):PW X (.BoolOp .And [a] pos) tA:=by
 intro W pins s σ H Q I h;refine ZU (cB (d pins s σ H Q I h) λc S e=>?_);cases c with
 |true=>exact isTrue_and_nil e
 |false=>exact e
theorem IY(d:PT X a tA):PW X (.BoolOp .Or [a] pos) tA:=by
 intro W pins s σ H Q I h;refine isTrue_or (cB (d pins s σ H Q I h) λc S e=>?_);cases c with
 |false=>exact isTrue_or_nil e
 |true=>exact e
theorem IZ(i:PT X a tA)(B:PW X (.BoolOp .And (b::rest) pos) tB'):PW X (.BoolOp .And (a::b::rest) pos) (Pz tA tB'):=by
 intro W pins s σ H Q I h;refine ZU (cB (i pins s σ H _ I h) λc S=>z7 λH1 d q=>?_);cases c with
 |true=>exact B W pins S σ H1 Q d q
 |false=>exact⟨H1,d,q⟩
theorem Nq(i:PT X a tA)(B:PW X (.BoolOp .Or (b::rest) pos) tB'):PW X (.BoolOp .Or (a::b::rest) pos) (Q7 tA tB'):=by
 intro W pins s σ H Q I h;refine isTrue_or (cB (i pins s σ H _ I h) λc S=>z7 λH1 d q=>?_);cases c with
 |true=>exact⟨H1,d,q⟩
 |false=>exact B W pins S σ H1 Q d q
theorem I0(d:PT X a tA):PT X (.UnaryOp .Not a pos) (Pt tA):=by
 intro pins s σ H Q I h;exact isTrue_not (d pins s σ H (λc H1=>Q (!c) H1) I h)
def MU(ta tb:TE):TE:=λσ H Q=>ta σ H λx H1=>∃c,x=.bl c/\if c=ą then tb σ H1 Q else Q (.bl ć) H1
def Pr(ta tb:TE):TE:=λσ H Q=>ta σ H λx H1=>∃c,x=.bl c/\if c=ą then Q (.bl ą) H1 else tb σ H1 Q
def ML(ta:TE):TE:=λσ H Q=>ta σ H λx H1=>∃c,x=.bl c/\Q (.bl (!c)) H1
theorem Jm{op}{t:TE}(h:PE X a t):PE X (.BoolOp op [a] pos) t:=λpins s σ H Q I W=>BoolOp_one (h pins s σ H Q I W)
theorem Jr(i:PE X a ta)(B:PE X (.BoolOp .And (b::rest) pos) tb):PE X (.BoolOp .And (a::b::rest) pos) (MU ta tb):=by
 intro pins s σ H Q I h;refine BoolOp_and (cB (i pins s σ H _ I h) λv S=>bD λx H1 d R q=>?_);obtain⟨c,rfl,q⟩:=q;cases R;refine Ti ?_;cases c with
 |true=>exact B pins S σ H1 Q d q
 |false=>exact⟨.bl ć,H1,d,rfl,q⟩
theorem Nu(i:PE X a ta)(B:PE X (.BoolOp .Or (b::rest) pos) tb):PE X (.BoolOp .Or (a::b::rest) pos) (Pr ta tb):=by
 intro pins s σ H Q I h;refine BoolOp_or (cB (i pins s σ H _ I h) λv S=>bD λx H1 d R q=>?_);obtain⟨c,rfl,q⟩:=q;cases R;refine Ti ?_;cases c with
 |false=>exact B pins S σ H1 Q d q
 |true=>exact⟨.bl ą,H1,d,rfl,q⟩
theorem Jo(i:PE X a ta):PE X (.UnaryOp .Not a pos) (ML ta):=by
 intro pins s σ H Q I h;refine UnaryOp_ (cB (i pins s σ H _ I h) λv S=>bD λx H1 d R q=>?_);obtain⟨c,rfl,q⟩:=q;cases R;exact not_of (Ti ⟨.bl (!c),H1,d,rfl,q⟩)
def Q8(t:TT)(ta tb:TE):TE:=λσ H Q=>t σ H λc H1=>if c=ą then ta σ H1 Q else tb σ H1 Q
theorem CK{c:Expr}(n:PT X c tA)(j:PE X a ta)(B:PE X b tb):PE X (.IfExp c a b pos) (Q8 tA ta tb):=by
 intro pins s σ H Q I h;refine wpAny_IfExp (cB (n pins s σ H _ I h) λd S=>z7 λH1 i q=>?_);cases d with
 |true=>exact j pins S σ H1 Q i q
 |false=>exact B pins S σ H1 Q i q
end
def dZ(K:W.Frag)(H:Hp)(a:Ĉ)(xs:List V):Prop:=
 Rd H a (.lst xs) \/
  ∃(o:ħ) (i:ĕ ā) (n:ă),K.lookup a=Ā o/\o.cls=.type "list" /\ o.dict=Ă/\o.data=.seq i n/\i.size<=sizeLine/\aX xs i.toList
def eQ(K:W.Frag)(H:Hp)(a:Ĉ)(xs:List V):Prop:=
 Rd H a (.tup xs) \/
  ∃(o:ħ) (i:ĕ ā) (n:ă),K.lookup a=Ā o/\o.cls=.type "tuple" /\ o.dict=Ă/\o.data=.seq i n/\i.size<=sizeLine/\aX xs i.toList
noncomputable def Qw:ā->Option V
 |.none=>Ā .non
 |.bool b=>Ā (.bl b)
 |.int i _=>Ā (.int i)
 |.str x _=>Ā (.str x)
 |.bytes b _=>Ā (.byt b)
 |.float b _=>Ā (.flt b)
 |.ref a=>Ā (.ref a)
 |.type n=>Ā (.ty n)
 |_=>Ă
theorem bA.abs{x:V}(r:bA x u):Qw u=Ā x:=by
 cases x with
 |non=>cases r;rfl
 |bl _=>cases r;rfl
 |int _=>obtain⟨t,rfl⟩:=r;rfl
 |str _=>obtain⟨t,rfl⟩:=r;rfl
 |byt _=>obtain⟨t,rfl⟩:=r;rfl
 |flt _=>obtain⟨t,rfl⟩:=r;rfl
 |ref _=>cases r;rfl
 |ty _=>cases r;rfl
theorem bA.inj{x:V}(r:bA x u)(q:bA y u):x=y:=Rp (r.abs.symm.trans q.abs)
theorem aX.inj:∀{xs ys:List V}{us:List ā},aX xs us->aX ys us->xs=ys
 |_,_,_,.nil,.nil=>rfl
 |_,_,_,.cons r t,.cons R i=>by rw[r.inj R,aX.inj t i]
section
variable{X:Cx}{xs ys:List V}
theorem dZ.of(h:H a=Ā (.lst xs)):dZ K H a xs:=.inl (.inl h)
theorem eQ.of(h:H a=Ā (.tup xs)):eQ K H a xs:=.inl (.inl h)
theorem aO.list(I:0e4)(h:dZ X.K H a xs):∃its:List ā,aX xs its/\PlainL 1e9 a its.toArray/\xs.length<=sizeLine:=by
 rcases h with h|⟨o,its,n,i,d,D,S,Z,r⟩
 ·obtain⟨z,its,n,r,e⟩:=h.ok I.hok;exact⟨its,r,⟨_,n,e,rfl,rfl,rfl⟩,z⟩
 ·refine ⟨its.toList, r, ⟨o, n, I.kIn a o i, d, D, by simpa using S⟩, ?_⟩;have e:=r.length
  simp_all
theorem aO.tuple(I:0e4)(h:eQ X.K H a xs):∃its:List ā,aX xs its/\Ó 1e9 a its.toArray/\xs.length<=sizeLine:=by
 rcases h with h|⟨o,its,n,i,d,_,S,Z,r⟩
 ·refine kh (h.ok I.hok) λz its r p=>?_;exact⟨its,r,p.t,z⟩
 ·refine ⟨its.toList, r, ⟨o, I.kIn a o i, d, n, by simpa using S⟩, ?_⟩;have e:=r.length
  simp_all
theorem aO.list_inj(I:0e4)(h:dZ X.K H a xs)(h':dZ X.K H a ys):xs=ys:=by
 obtain⟨i,r,⟨o,n,e,_,_,d⟩,_⟩:=I.list h;obtain⟨its',R,⟨o',N,j,_,_,D⟩,_⟩:=I.list h';have:i=its':=by lia
 subst this;exact r.inj R
theorem aO.tuple_inj(I:0e4)(h:eQ X.K H a xs)(h':eQ X.K H a ys):xs=ys:=by
 obtain⟨i,r,⟨o,e,_,n,d⟩,_⟩:=I.tuple h;obtain⟨its',R,⟨o',j,_,N,D⟩,_⟩:=I.tuple h';have:i=its':=by lia
 subst this;exact r.inj R
end
noncomputable abbrev Cx.wish(X:Cx)(E:(ā->Ą->Prop)):Cx:={X with xe:=E}
abbrev Cx.nox(X:Cx):Cx:=X.wish λ_ _=>ł
theorem Cx.Ok.wish{X:Cx}(ok:X.Ok)(E:(ā->Ą->Prop)):(X.wish E).Ok:=
 ⟨ok.mod,ok.kind,ok.glob,ok.blt,ok.above,ok.inj,ok.has,ok.cab,ok.hd,ok.frames,ok.stk,ok.exf,ok.bs,ok.bsz,ok.noex,ok.exfs,ok.funs,ok.frf⟩
theorem Cx.Ok.unwish{X:Cx}(ok:(X.wish E).Ok):X.Ok:=
 ⟨ok.mod,ok.kind,ok.glob,ok.blt,ok.above,ok.inj,ok.has,ok.cab,ok.hd,ok.frames,ok.stk,ok.exf,ok.bs,ok.bsz,ok.noex,ok.exfs,ok.funs,ok.frf⟩
section
variable{X:Cx}
theorem aO.wish(I:0e4)(E:(ā->Ą->Prop)):aO (X.wish E) pins σ H s:=⟨I.ok.wish E,I.os,I.bare,I.base,I.loc,I.cell,I.free,I.freeC,I.pin,I.hok,I.len⟩
theorem aO.unwish(I:aO (X.wish E) pins σ H s):aO X pins σ H s:=⟨I.ok.unwish,I.os,I.bare,I.base,I.loc,I.cell,I.free,I.freeC,I.pin,I.hok,I.len⟩
theorem SP.unwish{D:lG}{f:Zs}(h:SP (X.wish E) pins D f s'):SP X pins D f s':=by
 cases f with
 |next=>obtain⟨d,H',I,q⟩:=h;exact⟨d,H',I.unwish,q⟩
 |brk=>obtain⟨d,H',I,q⟩:=h;exact⟨d,H',I.unwish,q⟩
 |cont=>obtain⟨d,H',I,q⟩:=h;exact⟨d,H',I.unwish,q⟩
 |ret u=>refine cv h λv d H' I r q=>?_;exact⟨v,d,H',I.unwish,r,q⟩
theorem ly.nox{st:List ĝ}{t:TS}(h:ly X.nox st t):ly X st t:=λpins s σ H D I W=>
 SA (h pins s σ H D (I.wish _) W) (λ_ _ q=>q.unwish) λ_ _ z=>ę z
end
section
variable{X:Cx}{rest:List ĝ}{t u:TS}
def MM:TS:=λD σ H=>D.nx σ H
def Pp(t u:TS):TS:=λD σ H=>t {D with nx:=u D} σ H
theorem E7:ly X [] MM:=λ_ _ σ H _ I h=>Tj ⟨σ,H,I,h⟩
theorem ud(h1:PS X st t)(h2:ly X rest u):ly X (st::rest) (Pp t u):=by
 intro pins s σ H D I h;refine XE (cB (h1 pins s σ H {D with nx:=u D} I h) λf S q=>?_);cases f with
 |next=>
  refine bZ q λd H' i q=>?_;exact h2 pins S d H' D i q
 |ret v=>exact q
 |brk=>exact q
 |cont=>exact q
theorem xX(h1:PS X st t):ly X [st] t:=by
 intro pins s σ H D I h;refine XE (cB (h1 pins s σ H D I h) λf S q=>?_)
 grind [PySem.wpAny_execs_nil]
theorem aO.quiet(I:0e4):ZF 1e4=ć:=by simp[ZF,I.ok.kind]
def MP(te:TE):TS:=λD σ H=>te σ H λ_ H1=>D.nx σ H1
theorem Fc(n:PE X e te)(hs:autoParam (ī e Ă pos.line 1e4=pure ć) ATr):PS X (.Expr e pos) (MP te):=by
 intro pins s σ H D I h;exact wpAny_Expr_any (cB (n pins s σ H _ I h) λv S=>bD λx H1 d R q=>⟨σ,H1,d,q⟩) I.quiet hs
def Pq(te:TE):TS:=λD σ H=>te σ H D.rt
theorem Jb(n:PE X e te):PS X (.Return (Ā e) pos) (Pq te):=by
 intro pins s σ H D I h;exact wpAny_Return_some (cB (n pins s σ H _ I h) λv S=>bD λx H1 d R q=>⟨x,σ,H1,d,R,q⟩)
def Pv(c:TT)(t u:TS):TS:=λD σ H=>c σ H λb H1=>if b=ą then t D σ H1 else u D σ H1
theorem Nr{c:Expr}{a b:List ĝ}{tc:TT}(n:PT X c tc)(j:ly X a t)(B:ly X b u):PS X (.If c a b pos) (Pv tc t u):=by
 intro pins s σ H D I h;refine wpAny_If (cB (n pins s σ H _ I h) λd S=>z7 λH1 i q=>?_);cases d with
 |true=>exact j pins S σ H1 D i q
 |false=>exact B pins S σ H1 D i q
end
abbrev TG:=V->St->Hp->(St->Hp->Prop)->Prop
abbrev DH:=List V->St->Hp->(St->Hp->Prop)->Prop
def PG(X:Cx)(target:Expr)(t:TG):Prop:=
 ∀(pins:2e0)(s:Ą)(σ:St)(H:Hp)(v:V)(u:ā)(Q:St->Hp->Prop),aO X pins σ H s->bA v u->t v σ H Q ->
  Ċ 1e2 X.A (Ŝ target 1e4 u) (λ_ s'=>∃d H',aO X pins d H' s'/\Q d H') X.xe s
def Ab(X:Cx)(S:4e1)(t:DH):Prop:=
 ∀(pins:2e0)(s:Ą)(σ:St)(H:Hp)(y:List V)(U:List ā)(Q:St->Hp->Prop),aO X pins σ H s->aX y U->t y σ H Q ->
  Ċ 1e2 X.A (assignInOrder ((Ķ S 1e4).map (·.2)) U) (λ_ s'=>∃d H',aO X pins d H' s'/\Q d H') X.xe s
abbrev HB:=V->V->V->Hp->(Hp->Prop)->Prop
def LU(X:Cx)(t:HB):Prop:=
 ∀(pins:2e0)(s:Ą)(σ:St)(H:Hp)(o i v:V)(O I u:ā)(Q:Hp->Prop),aO X pins σ H s->bA o O->bA i I->bA v u->t o i v H Q ->
  Ċ 1e2 X.A (Yl O I u) (λ_ s'=>∃H',aO X pins σ H' s'/\Q H') X.xe s
abbrev Ls:=V->V->Hp->VK->Prop
def OA(X:Cx)(O:Õ)(t:Ls):Prop:=
 ∀(pins:2e0)(s:Ą)(σ:St)(H:Hp)(x y:V)(v u:ā)(Q:VK),aO X pins σ H s->bA x v->bA y u->t x y H Q ->
  Ċ 1e2 X.A (Yd O v u) (EP X pins σ Q) X.xe s
section
variable{X:Cx}
noncomputable def tH(i:ă):TG:=λv σ H Q=>Q (σ.set i (Ā v)) H
theorem Fk(hN:(X.N.Nodup))(hi:(X.N[i]?=Ā x))(j:(yN X.env.scope x))(F:(autoParam 2e3 ATu)):PG X (.Name x pos) (tH i):=by
 intro pins s σ H v u Q I r h;exact Ps (kO I hN hi j r (λs' d=>⟨_,H,d,h⟩) F)
noncomputable def Qo:DH:=λy σ H Q=>y=[]/\Q σ H
noncomputable def NY(t:TG)(u:DH):DH:=λy σ H Q=>∃v r,y=v::r/\t v σ H λd H'=>u r d H' Q
theorem Fj:Ab X [] Qo:=by
 intro pins s σ H y U Q I r h;obtain⟨e,h⟩:=h;subst e;cases r;exact assignInOrder_nil ⟨σ,H,I,h⟩
theorem CI{es:4e1}{t:TG}{u:DH}(h1:PG X e t)(h2:Ab X es u)(hs:autoParam ((Ķ (e::es) 1e4).map (·.2)=Ŝ e 1e4::(Ķ es 1e4).map (·.2)) ATr):Ab X (e::es) (NY t u):=by
 intro pins s σ H y U Q I r h;obtain⟨v,V,j,h⟩:=h;subst j;cases r with
 |cons r R=>
  rw[hs];refine assignInOrder_cons (cB (h1 pins s σ H _ _ _ I r h) λ_ S=>DL λd H1 i q=>?_);exact h2 pins S d H1 _ _ Q i R q
noncomputable def Qm(K:W.Frag)(n:ă)(t:DH):TG:=λv σ H Q=>∃a xs,v=.ref a/\eQ K H a xs/\xs.length=n/\t xs σ H Q
theorem Ji{es:4e1}{k:ă}{t:DH}(y:X.calm=ą)(h:Ab X es t)(N:autoParam ((Ķ es 1e4).length=n) ATr)(d:autoParam ((Ķ es 1e4).findIdx? 4e2=Ă) ATr):PG X (.Tuple es k pos) (Qm X.K n t):=by
 intro pins s σ H v u Q I r W;obtain⟨a,xs,q,z,L,W⟩:=W;subst q;cases r;refine bo (I.tuple z) λS R B Z=>?_;refine assign_Tuple_tuple (I.ok.hd y) B (by simp[N,<- L,R.length]) d λh' G=>?_;have j:aO X pins σ H {s with heap:=h'}:=I.kept (t':=s.toks) λb o e=>G b o (Sn (S0 e)) e;exact h pins _ σ H xs _ Q j (by simpa using R) W
noncomputable def Qn(to I:TE)(t:HB):TG:=λv σ H Q=>to σ H λo H1=>I σ H1 λi H2=>t o i v H2 λd=>Q σ d
theorem Jj{o i:Expr}{to ti:TE}{t:HB}(O:PE X o to)(hi:PE X i ti)(hs:LU X t)
  (z :autoParam (∀ v, Ŝ (.Subscript o i pos) 1e4 v = (do
   let ov <- holding [v] (eval o 1e4)
   let iv <- holding [v,ov] (eval i 1e4)
   æ pos
   holding [v,ov,iv] (Yl ov iv v)
   Zb [v,ov,iv] [])) ATt):PG X (.Subscript o i pos) (Qn to ti t):=by
 intro pins s σ H v u Q I r h;rw[z];refine Tn (To (cB (O pins s σ H _ I h) λov S=>bD λx H1 j R B=>?_));refine Tn (To (cB (hi pins S σ H1 _ j B) λiv M=>bD λy H2 n L G=>?_));refine Tn (Tp (Tn (To (cB (hs pins M σ H2 x y v ov iv u _ n R L r G) λ_ N=>z7 λd q μ=>?_))));exact wpAny_release ⟨σ,d,q,μ⟩
def Ao(te:TE)(g:TG):TS:=λD σ H=>te σ H λx H1=>g x σ H1 D.nx
theorem Je{g:TG}(n:PE X e te)(N:PG X tg g)(hs:autoParam (ò [tg] e pos.line 1e4=pure ć) ATr)(W:autoParam (ó [tg] e 1e4=pure Ă) ATr)(h1:autoParam ((Ķ [tg] 1e4).map (·.2)=[Ŝ tg 1e4]) ATr):PS X (.Assign [tg] e pos) (Ao te g):=by
 intro pins s σ H D I h;refine wpAny_Assign_stores (cB (n pins s σ H _ I h) λv S=>bD λx H1 d R i=>?_) hs W;rw[h1];exact cB (N pins S σ H1 x v _ d R i) λ_ M q=>q
theorem Ja(hN:(X.N.Nodup))(hi:(X.N[i]?=Ā x))(q:(yN X.env.scope x))(j:PE X e te)(hs:autoParam (ī e (Ā (.Name x pos')) pos.line 1e4=pure ć) ATr)(F:(autoParam 2e3 ATu)):
  PS X (.Assign [.Name x pos'] e pos) (Ao te (tH i)):=by
 intro pins s σ H D I h;refine wpAny_Assign_Name (cB (j pins s σ H _ I h) λv S=>bD λy H1 d R z=>?_) hs;exact kO d hN hi q R (λM n=>⟨_,H1,n,z⟩) F
def Py(i:ă)(te:TE)(I:Ls):TS:=λD σ H=>∃x,σ[i]?=Ā (Ā x)/\te σ H λy H1=>I x y H1 λz H2=>D.nx (σ.set i (Ā z)) H2
theorem Jd{op:Õ}{ti:Ls}(hN:(X.N.Nodup))(hi:(X.N[i]?=Ā x))(j:(yN X.env.scope x))(M:PE X e te)(O:OA X op ti)(F:(autoParam 2e3 ATu)):
  PS X (.AugAssign (.Name x pos') op e pos) (Py i te ti):=by
 intro pins s σ H D I h;refine bb h λv μ h=>?_;refine bb I.loc λm α S=>?_;refine bb (S i x v hi μ (by rcases j with k|k;exact .inl k;exact .inr (.inl k))) λu r l=>?_;refine wpAny_AugAssign_Name ?_
 have G:Ċ 1e2 X.A (eval e 1e4) (λw s₂=>Ċ 1e2 X.A (Yd op u w) (λr s₃=>Ċ 1e2 X.A (YX 1e4 x r) (λ_=>SP X pins D .next) X.xe s₃) X.xe s₂) X.xe s:=by
  exact cB (M pins s σ H _ I h) λw s1=>bD λy H1 n R Z=>(cB (O pins s1 σ H1 v y u w _ n r R Z) λz s2=>bD λzv H2 q W V=>(kO q hN hi j W (λs3 B=>⟨_,H2,B,V⟩) F))
 rcases l with⟨d,U⟩|⟨d,c,L,hcell⟩
 ·exact â I.ok.kind d α U G
 ·rcases d with d | d
  ·exact í I.ok.kind d L hcell G
  ·rcases j with k | k
   ·have : X.env.scope.names.lookup x = Ā .free := d
    lia
   ·have : X.env.scope.names.lookup x = Ā .free := d
    lia
noncomputable def Re(f:Ć->Ć->Ć):Ls:=λx y H Q=>∃i j,x=.int i/\y=.int j/\Q (.int (f i j)) H
theorem Kh:OA X .Add (Re λi j=>i+j):=by
 intro pins s σ H x y v u Q I R L h;refine aU h λi j d n q=>?_;subst d;subst n;obtain⟨t,rfl⟩:=R;obtain⟨z,rfl⟩:=L;exact iadd_int ⟨.int _,H,I.tok _,⟨_,rfl⟩,q⟩
end
structure It where
 go:ă->Hp->Prop
 yld:ă->Hp->V->Hp->Prop
 stop:ă->Hp->Prop
def km(X:Cx)(pins:2e0)(H:Hp)(b:Ĉ):Prop:=
 H b=Ă/\b≠X.env.locals/\b∉X.fs/\(b∈X.ex\/X.s₀.heap.objs.size<=b)/\(∀x c,X.env.cells.lookup x=Ā c->c≠b)/\∀p∈X.pn++pins,p.1≠b
theorem aO.fpOk{X:Cx}{H':Hp}(I:0e4)(B:s.heap.objs.size<=b)(n:H' b=Ă):km X pins H' b:=by
 refine⟨n,Sa (Ry I.lt B),I.nofs B,.inr (RH I.sz B),λx c e z=>?_,λp d z=>?_⟩
 ·obtain⟨v,q⟩:=I.cell x c e;exact absurd (Ry q.lt (by rw[z];exact B)) (S7 _)
 ·exact absurd (Ry (S0 (I.pin p d).1) (by rw[z];exact B)) (S7 _)
structure vE(P:č)(w:ē)(K:W.Frag)(tg:Expr)(μ:It)(fp:List Ĉ)(it:Ĉ)(tn:ă->Ĕ->Prop):Prop where
 mem:it∈fp
 obj:∀i h,tn i h->∀b∈fp,∃o,h.get? b=Ā o/\∀v,o.data≠.cell v
 keep:∀i h h',tn i h->(∀b∈fp,∀o,h.get? b=Ā o->h'.get? b=Ā o)->tn i h'
 item:∀(X:Cx),X.prog=P->X.w=w->X.K=K->X.calm=ą->∀(i:ă)(pins:2e0)(s:Ą)(σ:St)(H:Hp)(E:(ā->Ą->Prop)),aO X pins σ H s->(∀b∈fp,km X pins H b)->tn i 1e9->μ.go i H ->
  Ċ (Č P w) X.A (Ż (.ref it)) (λr s1=>∃u,r=Ā u /\
   Ċ (Č P w) X.A (š tg (.ref it) u) (λ_ s2=>∃x H',aO X pins σ H' s2/\bA x u/\μ.yld i H x H'/\tn (i+1) s2.heap/\∀b∈fp,H' b=Ă) E s1) E s
 done:∀(X:Cx),X.prog=P->X.w=w->X.K=K->X.calm=ą->∀(i:ă)(pins:2e0)(s:Ą)(σ:St)(H:Hp)(E:(ā->Ą->Prop)),aO X pins σ H s->(∀b∈fp,km X pins H b)->tn i 1e9->μ.stop i H ->
  Ċ (Č P w) X.A (Ż (.ref it)) (λr s1=>r=Ă/\aO X pins σ H s1) E s
 self:∀(A:Đ)(i:ă)(s:Ą)(Q:(ā->Ą->Prop))(E:(ā->Ą->Prop)),tn i 1e9->Q (.ref it) s->Ċ (Č P w) A (ű (.ref it)) Q E s
abbrev TI:=St->Hp->(It->Hp->Prop)->Prop
def O1(X:Cx)(pins:2e0)(σ:St)(tg:Expr)(R:It->Hp->Prop)(itv:ā)(M:Ą):Prop:=
 ∃(i:Ĉ)(F:List Ĉ)(n:ă->Ĕ->Prop)(μ:It)(H':Hp),itv=.ref i/\aO X pins σ H' M/\vE X.prog X.w X.K tg μ F i n/\n 0 M.heap/\(∀b∈F,km X pins H' b)/\R μ H'
def PI(X:Cx)(tg iter:Expr)(i:TI):Prop:=
 ∀(pins:2e0)(s:Ą)(σ:St)(H:Hp)(R:It->Hp->Prop),aO X pins σ H s->i σ H R ->
  Ċ 1e2 X.A (eval iter 1e4) (λv S=>Ċ 1e2 X.A (ű v) (O1 X pins σ tg R) X.xe S) X.xe s
theorem xj{M:ų}{o:ħ}{n:Ī}{vs:ĕ ā}{Q:(ŏ->Ą->Prop)}(O:s.heap.get? it=Ā o)(d:o.cls=.type n)(hd:o.data=.fields vs)(N:["enumerate", "zip", "dict_itemiterator", "dict_reverseitemiterator", "odict_iterator", "itertools.zip_longest", "itertools.pairwise"].contains n=ć)(hQ:Q () s):Ċ M A (š tg (.ref it) u) Q E s:=by
 cases tg <;> first
  |exact SD hQ
  |(cases u <;> first
    |exact SD hQ
    | (refine Tn (Tq O ?_)
       simp_all[SD]))
noncomputable def OC(K:W.Frag)(a:Ĉ):It:=
 ⟨λi H=>∃xs x,dZ K H a xs/\xs[i]?=Ā x,λi H x H'=>H'=H/\∀xs,dZ K H a xs->xs[i]?=Ā x,λi H=>∃xs,dZ K H a xs/\xs.length<=i⟩
noncomputable def O3(K:W.Frag)(a:Ĉ):It:=
 ⟨λi H=>∃xs x,eQ K H a xs/\xs[i]?=Ā x,λi H x H'=>H'=H/\∀xs,eQ K H a xs->xs[i]?=Ā x,λi H=>∃xs,eQ K H a xs/\xs.length<=i⟩
noncomputable def Le(lo:Ć)(n:ă):It:=⟨λi _=>i<n,λi H x H'=>H'=H/\x=.int (lo+i),λi _=>n<=i⟩
theorem yY(a it:Ĉ):vE P w K tg (OC K a) [it] it (λi h=>h.IsListIter it a i) where
 mem:=by simp
 obj:=λi h st b B=>by
  refine bo st λo e c d=>?_
  simp_all
 keep:=λi h h' st k=>st.at λo e=>k it 1e1 o e
 item:=by
  intro X hP L hK U i pins s σ H E I F st N;subst hP L hK;refine bZ N λxs x z j=>?_;refine bo (I.list z) λM R p hz=>?_;refine bb (R.get j) λu hu ru=>?_;refine d5 (F it 1e1) λn q O y G μ=>?_;refine wpAny_pyNext_list_item st p.isList (by simpa using hu) λh' S sb=>?_;have Z:aO X pins σ H {s with heap:=h'}:=I.turned (λb o B e=>(sb.2 b B).trans e) n q y G μ;refine bo (id S) λo e c d=>?_;exact⟨u,rfl,xj e c d 0e3 ⟨x,H,Z,ru,⟨rfl,λys hy=>by rw[I.list_inj hy z];exact j⟩,S,λb B=>(F b B).1⟩⟩
 done:=by
  intro X hP L hK U i pins s σ H E I F st N;subst hP L hK;refine bb N λxs z j=>?_;refine bo (I.list z) λM R p hz=>?_;refine d5 (F it 1e1) λn q O y G μ=>?_;have V:=R.length;exact wpAny_pyNext_list_end (I.ok.hd U) st p.isList (by simp;exact RH (RI (R9 V)) j) λh' D=>⟨rfl,I.turned (λb o B e=>D b o B e) n q y G μ⟩
 self:=λ_ _ _ _ _ st h=>wpAny_pyIter_listiter st h
theorem v8(a it:Ĉ):vE P w K tg (O3 K a) [it] it (λi h=>h.IsTupleIter it a i) where
 mem:=by simp
 obj:=λi h st b B=>by
  have e:b=it:=by simpa using B
  subst e;refine bo st λo e c d=>?_
  simp_all
 keep:=λi h h' st k=>st.at λo e=>k it 1e1 o e
 item:=by
  intro X hP j hK U i pins s σ H E I F st N;subst hP j hK;refine bZ N λxs x z L=>?_;refine bo (I.tuple z) λM R p hz=>?_;refine bb (R.get L) λu V ru=>?_;refine d5 (F it 1e1) λn q O y G μ=>?_;refine wpAny_pyNext_tuple_item st p (by simpa using V) λh' S sb=>?_;have Z:aO X pins σ H {s with heap:=h'}:=I.turned (λb o B e=>(sb.2 b B).trans e) n q y G μ;refine bo (id S) λo e c d=>?_;exact⟨u,rfl,xj e c d 0e3 ⟨x,H,Z,ru,⟨rfl,λys hy=>by rw[I.tuple_inj hy z];exact L⟩,S,λb B=>(F b B).1⟩⟩
 done:=by
  intro X hP j hK U i pins s σ H E I F st N;subst hP j hK;refine bb N λxs z L=>?_;refine bo (I.tuple z) λM R p hz=>?_;refine d5 (F it 1e1) λn q O y G μ=>?_;have hl:=R.length;exact wpAny_pyNext_tuple_end (I.ok.hd U) st p (by simp;lia) λh' D=>⟨rfl,I.turned (λb o B e=>D b o B e) n q y G μ⟩
 self:=λ_ _ _ _ _ st h=>wpAny_pyIter_tupleiter st h
theorem wb(it:Ĉ)(lo:Ć)(n:ă):vE P w K tg (Le lo n) [it] it (λi h=>IsRangeIter h it (lo+(i:ă)*1) ((n:Ć)-(i:ă)) 1) where
 mem:=by simp
 obj:=λi h st b B=>by
  simp_all
 keep:=λi h h' st k=>k it 1e1 _ st
 item:=by
  intro X hP M hK j i pins s σ H E I F st N;refine d5 (F it 1e1) λd q O y G μ=>?_;refine(Zh.range (I.ok.hd j) it lo 1 n).item i s _ _ N st λv h' tk V S U=>?_;obtain⟨t,rfl⟩:=V;have L:aO X pins σ H {s with heap:=h',toks:=tk}:=I.turned (λb o B e=>U b o (by simpa using B) e) d q y G μ;refine⟨_,rfl,xj S rfl rfl 0e3 ⟨.int (lo+i),H,L,⟨t,?_⟩,⟨rfl,rfl⟩,S,λb B=>(F b B).1⟩⟩;rw[Ć.mul_one]
 done:=by
  intro X hP M hK j i pins s σ H E I F st N;refine d5 (F it 1e1) λd q O y G μ=>?_;exact wpAny_pyNext_range_end (I.ok.hd j) st (by have:n<=i:=N;lia) λh' D=>⟨rfl,I.turned (λb o B e=>D b o B e) d q y G μ⟩
 self:=λ_ _ _ _ _ st h=>wpAny_pyIter_rangeiter st h
section
variable{X:Cx}
theorem ua{R:It->Hp->Prop}{lo hi:Ć}{t u v:α0}{tk:ă}(I:0e4)(h1:-(2^62)<=lo)(h2:lo<2^62)(j:-(2^62)<=hi)(n:hi<2^62)(q:R (Le lo (hi-lo).toNat) H):Ċ 1e2 X.A (ű (.ref 0e0)) (O1 X pins σ tg R) E {s with heap:=s.heap.push {cls:=.type "range",data:=.fields #[.int lo t,.int hi u,.int 1 v]},toks:=tk}:=by
 refine wpAny_pyIter_range (IsRange.new ..) (small_one h1 h2 j n) ?_;have d:aO X pins σ H {s with heap:=s.heap.push {cls:=.type "range",data:=.fields #[.int lo t,.int hi u,.int 1 v]},toks:=tk}:=I.kept λb o e=>Tr _ e
 refine⟨(s.heap.push {cls:=.type "range",data:=.fields #[.int lo t,.int hi u,.int 1 v]}).objs.size,[(s.heap.push {cls:=.type "range",data:=.fields #[.int lo t,.int hi u,.int 1 v]}).objs.size],_,_,H,rfl,
  d.kept λb o e=>Tr _ e,wb _ lo (hi-lo).toNat,?_,λb B=>?_,q⟩
 ·have i : lo + ((0 : ă) : Ć) * 1 = lo := by simp
  rw[i,(show (((hi-lo).toNat:ă):Ć)-((0:ă):Ć)=Builtin.Range.rangeSize lo hi 1 by rw[YS];split <;> lia)];exact SZ _ rfl
 ·have e : b = (s.heap.push { cls := .type "range", data := .fields #[.int lo t, .int hi u, .int 1 v] }).objs.size := by simpa using B
  subst e;exact d.fpOk (Rx _) (d.hok.fresh (Rx _))
def NT(ta:TA):TI:=λσ H R=>ta σ H λy H1=>∃j:Ć,y=[.int j]/\-(2^62)<=j/\j<2^62/\R (Le 0 j.toNat) H1
def NS(ta:TA):TI:=λσ H R=>ta σ H λy H1=>∃i j:Ć,y=[.int i,.int j]/\(-(2^62)<=i/\i<2^62/\-(2^62)<=j/\j<2^62)/\R (Le i (j-i).toNat) H1
theorem zh{a:Expr}{ta:TA}{p:Ľ}(N:Gl X "range")(M:(X.mg "range" = Ă))(n:PA X [a] ta)(hs:(autoParam (ĉ [a] 1e4=[(ć,eval a 1e4)]) ATr)):PI X tg (.Call (.Name "range" p) [a] [] pos) (NT ta):=by
 intro pins s σ H R I h;refine Zm (iP I N M X6 (Ts (cB (n pos pins s σ H _ I h) λU S=>bD λV H1 i y d=>?_) hs rfl));obtain⟨j,e,d,G,q⟩:=d;subst e;cases y with
 |cons r z=>
  cases z;obtain⟨t,rfl⟩:=r;exact Yy (ua i 1e1 1e1 d G (by simpa using q))
theorem zg{a b:Expr}{ta:TA}{p:Ľ}(N:Gl X "range")(M:(X.mg "range" = Ă))(B:PA X [a,b] ta)(hs:autoParam (ĉ [a,b] 1e4=[(ć,eval a 1e4),(ć,eval b 1e4)]) ATr)(d:autoParam (ĉ [b] 1e4=[(ć,eval b 1e4)]) ATr):
  PI X tg (.Call (.Name "range" p) [a,b] [] pos) (NS ta):=by
 intro pins s σ H R I h;refine Zm (iP I N M X6 (Ts (cB (B pos pins s σ H _ I h) λD α=>bD λV H1 z U n=>?_) (by rw[hs,d]) (by rw[d];rfl)));obtain⟨i,j,e,⟨n,G,μ,L⟩,q⟩:=n;subst e;cases U with
 |cons r y=>
  cases y with
  |cons S y=>
   cases y;obtain⟨t,rfl⟩:=r;obtain⟨Z,rfl⟩:=S;exact call_range_2 (ua z n G μ L q)
def Pw(I:TI)(g:TG)(tb:TS):TS:=λD σ H=>I σ H λμ H1=>∃W:ă->ă->St->Hp->Prop,(∃m,W 0 m σ H1)/\∀i m σ H,W i m σ H ->
 (μ.stop i H/\D.nx σ H)\/(μ.go i H/\∃N:St->Hp->Prop,(∀d H',N d H'->∃y,y<m/\W (i+1) y d H')/\∀x H',μ.yld i H x H'->g x σ H' λj H2=>tb {D with nx:=N,ct:=N,bk:=D.nx} j H2)
noncomputable def nK(F:List Ĉ)(h:Ĕ):List (Ĉ×ħ):=F.filterMap λb=>(h.get? b).map λo=>(b,o)
theorem hX{h:Ĕ}{o:ħ}(B:b∈fp)(e:h.get? b=Ā o):(b,o)∈nK fp h:=Tt.mpr ⟨b,B,by rw[e];rfl⟩
theorem zm{h:Ĕ}{p:Ĉ×ħ}(i:p∈nK fp h):p.1∈fp/\h.get? p.1=Ā p.2:=by
 obtain⟨b,B,e⟩:=Tt.mp i;cases q:h.get? b with
 |none=>rw[q]at e;cases e
 |some o=>
  rw[q]at e;have d:(b,o)=p:=Rp e;subst d;exact⟨B,q⟩
theorem aO.pinned(I:0e4)(F:∀b∈fp,km X pins H b)(i:∀b∈fp,∃o,s.heap.get? b=Ā o/\∀v,o.data≠.cell v):aO X (pins++nK fp 1e9) σ H s:=
 I.pins_of λp d=>(Te.mp d).elim (λz=>I.pin p (Tu _ z)) λz=>by
  obtain⟨B,e⟩:=zm z;refine lB (F p.1 B) λn q O _=>?_
  grind
theorem aO.unpinned{pl:2e0}(I:aO X (pins++pl) σ H s):aO X pins σ H s:=I.pins_of λp d=>I.pin p (Tu _ (Tf _ d))
theorem Jc{wi:TI}{g:TG}{tb:TS}(M:U_ 1e2 X.A 1e4 X.xe)(hc:X.calm=ą)(hi:PI X tg iter wi)(hg:PG X tg g)(B:ly X body tb)(hs:2e6):PS X (.For tg iter body [] pos) (Pw wi g tb):=by
 intro pins s σ H D I h;refine wpAny_For (cB (hi pins s σ H _ I h) λv s1 h1=>cB h1 λitv s2 h2=>?_) hs;obtain⟨it,F,tn,μ,H2,e,I2,T,V,f2,W,⟨m0,w0⟩,turn⟩:=h2;subst e;have stat:∀{H':Hp},(∀b∈F,H' b=Ă)->∀b∈F,km X pins H' b:=λhn b B=>⟨hn b B,(f2 b B).2⟩;refine codeAny_forLoop_any (λn s'=>∃i z H',aO X pins z H' s'/\tn i s'.heap/\(∀b∈F,H' b=Ă)/\W i n z H') ?_ m0 ⟨0,σ,H2,I2,V,λb B=>(f2 b B).1,w0⟩
 rintro n s3 ⟨i,G,Z,I3,α,fr3,w3⟩
 rcases turn i n G Z w3 with⟨stop,qn⟩|⟨go,N,hN,step⟩
 ·refine Tv M (cB (T.done X rfl rfl rfl hc i pins s3 G Z X.xe I3 (stat fr3) α stop) λr s4=>zA λR I4=>?_);subst R;exact Tj ⟨G,Z,I4,qn⟩
 ·refine Tv M (cB (T.item X rfl rfl rfl hc i pins s3 G Z X.xe I3 (stat fr3) α go) λr s4 => z7 λu R h4 => ?_);subst R;refine Tv M (cB h4 λ_ s5=>xp λx H5 I5 r5 y5 S fr5=>?_);refine Tv M (cB (hg _ s5 G H5 x u _ (I5.pinned (stat fr5) (T.obj _ _ S)) r5 (step x H5 y5)) λ_ s6=>DL λσ6 H6 I6 q6=>?_);refine Tv M (cB (B _ s6 σ6 H6 _ I6 q6) λf O L=>?_)
  have again:∀{j:St}{q:Hp},aO X (pins++nK F s5.heap) j q O->N j q->∃m,m<n/\∃i z H',aO X pins z H' O/\tn i O.heap/\(∀b∈F,H' b=Ă)/\W i m z H':=λ{j q} y U=>by
   obtain⟨m',hm,w7⟩:=hN j q U;refine⟨m',hm,i+1,j,q,y.unpinned,T.keep _ _ _ S λb B o e=>(y.pin (b,o) (Tu _ (Tu _ (hX B e)))).1,λb B=>?_,w7⟩;refine bb (T.obj _ _ S b B) λo e d=>?_;exact(y.pin (b,o) (Tu _ (Tu _ (hX B e)))).2.1
  cases f with
  |next=>refine bZ L λj q y U=>?_;exact again y U
  |cont=>refine bZ L λj q y U=>?_;exact again y U
  |brk=>refine bZ L λj q y L=>?_;exact⟨j,q,y.unpinned,L⟩
  |ret v=>refine cv L λx7 j q y r7 L=>?_;exact⟨x7,j,q,y.unpinned,r7,L⟩
end
abbrev R2:=V->V->Hp->VK->Prop
def iw(X:Cx)(f:ā->ā->Ť ā)(r:R2):Prop:=
 ∀(pins:2e0)(s:Ą)(σ:St)(H:Hp)(x y:V)(v u:ā)(Q:VK),aO X pins σ H s->bA x v->bA y u->r x y H Q ->
  Ċ 1e2 X.A (f v u) (EP X pins σ Q) X.xe s
def Ov(X:Cx)(f:ā->Ť ā)(r:V->Hp->VK->Prop):Prop:=
 ∀(pins:2e0)(s:Ą)(σ:St)(H:Hp)(x:V)(v:ā)(Q:VK),aO X pins σ H s->bA x v->r x H Q ->
  Ċ 1e2 X.A (f v) (EP X pins σ Q) X.xe s
def b8(X:Cx)(f:ā)(r:(List V->Hp->VK->Prop)):Prop:=
 ∀(pins:2e0)(s:Ą)(σ:St)(H:Hp)(xs:List V)(U:List ā)(Q:VK),aO X pins σ H s->aX xs U->r xs H Q ->
  Ċ 1e2 X.A (call f U) (EP X pins σ Q) X.xe s
def Qx(X:Cx)(r:V->Hp->(ċ->Hp->Prop)->Prop):Prop:=
 ∀(pins:2e0)(s:Ą)(σ:St)(H:Hp)(x:V)(v:ā)(Q:ċ->Hp->Prop),aO X pins σ H s->bA x v->r x H Q ->
  Ċ 1e2 X.A (ZK v) (TP X pins σ Q) X.xe s
def Li(r:R2)(ta tb:TE):TE:=λσ H Q=>ta σ H λx H1=>tb σ H1 λy H2=>r x y H2 Q
def Q5(r:V->Hp->VK->Prop)(ta:TE):TE:=λσ H Q=>ta σ H λx H1=>r x H1 Q
noncomputable def rI(C:(Ć->Ć->Prop))(g:Ć->Ć->V):R2:=λx y H Q=>∃i j,x=.int i/\y=.int j/\C i j/\Q (g i j) H
noncomputable def He(g:Ć->Ć->V):R2:=λx y H Q=>∃i j,x=.int i/\y=.int j/\Q (g i j) H
def rU(g:Ć->V):V->Hp->VK->Prop:=λx H Q=>∃i,x=.int i/\Q (g i) H
section
variable{X:Cx}{a b c:Expr}{tb tc:TE}
theorem Hy(i:PE X a ta)(B:PE X b tb){R:V->V->Hp->Prop}(I:0e4)(h:ta σ H λx H1=>tb σ H1 λy H2=>R x y H2){f:ā->ā->Ť ā}(F:∀v u s2 x y H2,aO X pins σ H2 s2->bA x v->bA y u->R x y H2->Ċ 1e2 X.A (f v u) Q X.xe s2):
  Ċ 1e2 X.A (eval a 1e4) (λv s₁=>Ċ 1e2 X.A (eval b 1e4) (λu s₂=>Ċ 1e2 X.A (f v u) Q X.xe s₂) X.xe s₁) X.xe s:=by
 refine cB (i pins s σ H _ I h) λv S=>bD λx H1 d j q=>?_;refine cB (B pins S σ H1 _ d q) λu s2=>bD λy H2 n L G=>?_
 grind
theorem Nv{op:Õ}{r:R2}(O:iw X (Ļ op) r)(d:PE X a ta)(B:PE X b tb):PE X (.BinOp a op b pos) (Li r ta tb):=by
 intro pins s σ H Q I h;exact wpAny_BinOp (Hy d B I h λv u M x y H2 n R α q=>O pins M σ H2 x y v u Q n R α q)
theorem Nt{op:UnaryOp}{r:V->Hp->VK->Prop}(O:Ov X (Za op) r)(i:PE X a ta):PE X (.UnaryOp op a pos) (Q5 r ta):=by
 intro pins s σ H Q I h;exact UnaryOp_ (cB (i pins s σ H _ I h) λv S=>bD λx H1 d R q=>O pins S σ H1 x v Q d R q)
theorem K5{f:ā->ā->Ť ā}{C:(Ć->Ć->Prop)}{g:Ć->Ć->Ć}
  (rule:∀(i j:Ć)(t u:α0)(s:Ą)(Q:(ā->Ą->Prop))(E:(ā->Ą->Prop)),C i j->Q (.int (g i j) s.toks) {s with toks:=s.toks+1}->Ċ 1e2 X.A (f (.int i t) (.int j u)) Q E s) :
  iw X f (rI C λi j=>.int (g i j)):=by
 intro pins s σ H x y v u Q I R α h;refine aJ h λi j V z d q=>?_;subst V;subst z;obtain⟨t,rfl⟩:=R;obtain⟨n,rfl⟩:=α;exact rule i j t n s _ _ d ⟨.int (g i j),H,I.tok _,⟨_,rfl⟩,q⟩
theorem DP{f:ā->ā->Ť ā}{g:Ć->Ć->Ć}
  (rule:∀(i j:Ć)(t u:α0)(s:Ą)(Q:(ā->Ą->Prop))(E:(ā->Ą->Prop)),Q (.int (g i j) s.toks) {s with toks:=s.toks+1}->Ċ 1e2 X.A (f (.int i t) (.int j u)) Q E s) :
  iw X f (He λi j=>.int (g i j)):=by
 intro pins s σ H x y v u Q I R α h;refine aU h λi j V n q=>?_;subst V;subst n;obtain⟨t,rfl⟩:=R;obtain⟨d,rfl⟩:=α;exact rule i j t d s _ _ ⟨.int (g i j),H,I.tok _,⟨_,rfl⟩,q⟩
def LV(i j:Ć):Prop:=0<j/\j<1073741824
def AA(i j:Ć):Prop:=0<=j/\j<=1000000/\i.natAbs<2^64
def tE(i j:Ć):Prop:=(-(2^64)<i/\i<2^64)\/(-(2^64)<j/\j<2^64)
theorem tE.ok{i j:Ć}(h:tE i j):IntMulOk i j:=by
 rcases h with⟨h1,h2⟩|⟨h1,h2⟩
 ·exact .of_left (YU h1 h2)
 ·exact .of_right (YU h1 h2)
theorem vZ(k:ă):(0:Ć)<=2^k:=by
 lia
theorem JG:iw X (Ļ .Add) (He λi j=>.int (i+j)):=DP λ_ _ _ _ _ _ _ q=>add_int q
theorem Jt:iw X (Ļ .Sub) (He λi j=>.int (i-j)):=DP λ_ _ _ _ _ _ _ q=>sub_int q
theorem Jz:iw X (Ļ .Mult) (rI tE λi j=>.int (i*j)):=K5 λ_ _ _ _ _ _ _ d q=>mul_int q d.ok
theorem Fz:iw X (Ļ .FloorDiv) (rI LV λi j=>.int (i / j)):=K5 λi j _ _ _ _ _ d q=>by
 have h1:=d.1;have h2:=d.2;exact floordiv_int (Tw h1) (by rw[Ū i (Tx h1)];exact q) (.inl (PyProof.noPylong_small (by omega)))
theorem JA:iw X (Ļ .Mod) (rI (λ_ j=>0<j) λi j=>.int (i%j)):=K5 λi j _ _ _ _ _ d q=>by
 exact mod_int' 0e1 (by rw[Ć.fmod_eq_emod_of_nonneg i 0e1];exact q)
theorem Jx:iw X (Ļ .Pow) (rI AA λi j=>.int (i^j.toNat)):=K5 λ_ _ _ _ _ _ _ d q=>pow_int_small d.1 d.2.1 d.2.2 q
theorem Jv:iw X (Ļ .LShift) (rI AA λi j=>.int (i*2^j.toNat)):=K5 λ_ _ _ _ _ _ _ d q=>lshift_int_small d.1 d.2.1 d.2.2 q
theorem Ju:iw X (Ļ .RShift) (rI (λ_ j=>0<=j) λi j=>.int (i / 2^j.toNat)):=K5 λi j _ _ _ _ _ d q=>
 rshift_int d (by rw[Ū i (vZ _)];exact q)
theorem JF:iw X (Ļ .BitAnd) (He λi j=>.int (Builtin.bitAnd i j)):=DP λ_ _ _ _ _ _ _ q=>and_int q
theorem Nz:iw X (Ļ .BitOr) (He λi j=>.int (Builtin.bitOr i j)):=DP λ_ _ _ _ _ _ _ q=>or_int q
theorem Q3{f:ā->Ť ā}{g:Ć->Ć}
  (rule:∀(i:Ć)(t:α0)(s:Ą)(Q:(ā->Ą->Prop))(E:(ā->Ą->Prop)),Q (.int (g i) s.toks) {s with toks:=s.toks+1}->Ċ 1e2 X.A (f (.int i t)) Q E s) :
  Ov X f (rU λi=>.int (g i)):=by
 intro pins s σ H x v Q I R h;obtain⟨i,rfl,q⟩:=h;obtain⟨t,rfl⟩:=R;exact rule i t s _ _ ⟨.int (g i),H,I.tok _,⟨_,rfl⟩,q⟩
theorem HY:Ov X (Za .USub) (rU λi=>.int (-i)):=Q3 λ_ _ _ _ _ q=>neg_int q
end
noncomputable def PD:V->V->ċ
 |.non,.non=>ą | .non,.int _=>ą | .int _,.non=>ą | .non,.bl _=>ą | .bl _,.non=>ą | .non,.str _=>ą | .str _,.non=>ą
 |.int _,.int _=>ą | .bl _,.bl _=>ą | .str _,.str _=>ą | .byt _,.byt _=>ą
 |.int _,.str _=>ą | .str _,.int _=>ą | .bl _,.str _=>ą | .str _,.bl _=>ą
 |_,_=>ć
def OW:R2:=λx y H Q=>PD x y=ą/\Q (.bl (!decide (x=y))) H
theorem Gg{i j:Ć}:decide (V.int i=V.int j)=(i == j):=by
 lia
theorem KI{i j:ċ}:decide (V.bl i=V.bl j)=(i == j):=by
 lia
theorem Gf{i j:ď}:decide (V.str i=V.str j)=(i == j):=by
 lia
theorem Gh{i j:ĕ UInt8}:decide (V.byt i=V.byt j)=(i.toList == j.toList):=by
 rw[SR];cases i;cases j;simp
section
variable{X:Cx}{a b c:Expr}{tb tc:TE}
theorem cX{Q:VK}{k k':ċ}(I:0e4)(q:Q (.bl k) H)(e:k=k'):EP X pins σ Q (.bool k') s:=by
 subst e;exact⟨.bl k,H,I,rfl,q⟩
theorem NA:iw X (Ĭ .NotEq) OW:=by
 intro pins s σ H x y v u Q I R α h;obtain⟨S,q⟩:=h;cases x with
 |non=>
  cases R;cases y with
  |non=>cases α;exact PySem.EqNone.ne_none_none (cX I q (by rfl))
  |bl j=>cases α;exact PySem.EqNone.ne_none_bool (cX I q (by rfl))
  |int j=>obtain⟨d,rfl⟩:=α;exact PySem.EqNone.ne_none_int (cX I q (by rfl))
  |str j=>obtain⟨d,rfl⟩:=α;exact PySem.EqNone.ne_none_str (cX I q (by rfl))
  |_=>exact absurd (show ć=ą from S) RF
 |bl i=>
  cases R;cases y with
  |non=>cases α;exact PySem.EqNone.ne_bool_none (cX I q (by rfl))
  |bl j=>cases α;exact ne_bool (cX I q (Sd not KI))
  |str j=>obtain⟨d,rfl⟩:=α;exact PySem.EqMixed.ne_bool_str (cX I q (by rfl))
  |_=>exact absurd (show ć=ą from S) RF
 |int i=>
  obtain⟨t,rfl⟩:=R;cases y with
  |non=>cases α;exact PySem.EqNone.ne_int_none (cX I q (by rfl))
  |int j=>obtain⟨d,rfl⟩:=α;exact ne_int (cX I q (Sd not Gg))
  |str j=>obtain⟨d,rfl⟩:=α;exact PySem.EqMixed.ne_int_str (cX I q (by rfl))
  |_=>exact absurd (show ć=ą from S) RF
 |str i=>
  obtain⟨t,rfl⟩:=R;cases y with
  |non=>cases α;exact PySem.EqNone.ne_str_none (cX I q (by rfl))
  |bl j=>cases α;exact PySem.EqMixed.ne_str_bool (cX I q (by rfl))
  |int j=>obtain⟨d,rfl⟩:=α;exact PySem.EqMixed.ne_str_int (cX I q (by rfl))
  |str j=>obtain⟨d,rfl⟩:=α;exact ne_str (cX I q (Sd not Gf))
  |_=>exact absurd (show ć=ą from S) RF
 |byt i=>
  obtain⟨t,rfl⟩:=R;cases y with
  |byt j=>obtain⟨d,rfl⟩:=α;exact W.ne_bytes (cX I q (Sd not Gh))
  |_=>exact absurd (show ć=ą from S) RF
 |_=>cases y <;> exact absurd (show ć=ą from S) RF
theorem JB:iw X (Ĭ .Is) (λx y H Q=>y=.non/\Q (.bl (decide (x=.non))) H):=by
 intro pins s σ H x y v u Q I R α h;obtain⟨rfl,q⟩:=h;cases α;refine is_none_gen (cX I q ?_)
 cases x <;> first
  |(cases R;rfl)
  |(obtain⟨t,rfl⟩:=R;rfl)
theorem Fv:iw X (Ĭ .IsNot) (λx y H Q=>y=.non/\Q (.bl (!decide (x=.non))) H):=by
 intro pins s σ H x y v u Q I R α h;obtain⟨rfl,q⟩:=h;cases α;refine isnot_none_gen (cX I q ?_)
 cases x <;> first
  |(cases R;rfl)
  |(obtain⟨t,rfl⟩:=R;rfl)
theorem iw.or{f:ā->ā->Ť ā}{r r':R2}(h:iw X f r)(h':iw X f r'):iw X f (λx y H Q=>r x y H Q\/r' x y H Q):=by
 intro pins s σ H x y v u Q I R α q;rcases q with q|q
 ·exact h pins s σ H x y v u Q I R α q
 ·exact h' pins s σ H x y v u Q I R α q
theorem Fq{r:R2}(O:iw X (Ĭ op) r)(d:PE X a ta)(B:PE X b tb)(M:Ř op b=ć):PE X (.Compare a [op] [b] pos) (Li r ta tb):=by
 intro pins s σ H Q I h;exact wpAny_Compare1 (Hy d B I h λv u S x y H2 n R α q=>O pins S σ H2 x y v u Q n R α q) M
noncomputable def MH(t:TE):TT:=λσ H Q=>t σ H λx H'=>∃k,x=.bl k/\Q k H'
theorem E6{r:R2}(O:iw X (Ĭ op) r)(j:PE X a ta)(B:PE X b tb)(M:Ř op b=ć):PT X (.Compare a [op] [b] pos) (MH (Li r ta tb)):=by
 intro pins s σ H Q I h
 refine wpAny_isTrue_Compare1 (cB (j pins s σ H _ I h) λv U=>bD λx H1 i R G=>cB (B pins U σ H1 _ i G) λu α=>bD λy H2 n N μ=>
  cB (O pins α σ H2 x y v u _ n R N μ) λc Z ⟨z,d,q,S,k,e,L⟩=>?_) M
 subst e;cases S;exact Ti ⟨d,q,L⟩
def HA(K:W.Frag)(x:V)(H:Hp)(k:ċ):Prop:=
 match x with
 |.non=>k=ć
 |.bl b=>k=b
 |.int i=>k=(i != 0)
 |.str y=>y.length<=sizeLine/\k=((y.length:Ć) != 0)
 |.byt y=>y.size<=sizeLine/\k=((y.size:Ć) != 0)
 |.ref p=>(∃xs,dZ K H p xs/\k=!xs.isEmpty)\/(∃xs,eQ K H p xs/\k=!xs.isEmpty)\/∃d,H p=Ā (.dK d)/\k=!d.isEmpty
 |_=>ł
theorem wC{κ:Type}{kvs:List (κ×V)}{vs:List (κ×ā)}(r:KV kvs vs):(!vs.isEmpty)=!kvs.isEmpty:=by
 cases r <;> rfl
theorem oB{xs:List V}(r:aX xs its):(!its.toArray.isEmpty)=!xs.isEmpty:=by
 cases r <;> rfl
theorem nM:(sizeLine:ă)<2^63:=by rw[TB];decide
theorem H7:Qx X (λx H Q=>∃k,HA X.K x H k/\Q k H):=by
 intro pins s σ H x v Q I R h;obtain⟨k,e,q⟩:=h;have B:=nM;have G:sizeLine=16777216:=TB;cases x with
 |non=>
  cases R;have d:k=ć:=e;subst d;exact truthy_none ⟨H,I,q⟩
 |bl b=>
  cases R;have d:k=b:=e;subst d;exact Ti ⟨H,I,q⟩
 |int i=>
  obtain⟨t,rfl⟩:=R;have d:k=(i != 0):=e;subst d;exact PySem.P.truthy_int ⟨H,I,q⟩
 |str y=>
  obtain⟨t,rfl⟩:=R;obtain⟨α,d⟩:y.length<=sizeLine/\k=((y.length:Ć) != 0):=e;subst d;exact PySem.P.truthy_str 0e1 ⟨H,I.tok _,q⟩
 |byt y=>
  obtain⟨t,rfl⟩:=R;obtain⟨α,d⟩:y.size<=sizeLine/\k=((y.size:Ć) != 0):=e;subst d;exact W.truthy_bytes 0e1 ⟨H,I.tok _,q⟩
 |ref p=>
  cases R;have d:(∃xs,dZ X.K H p xs/\k=!xs.isEmpty)\/(∃xs,eQ X.K H p xs/\k=!xs.isEmpty)\/∃S,H p=Ā (.dK S)/\k=!S.isEmpty:=e;rcases d with⟨xs,j,d⟩|⟨xs,j,d⟩|⟨S,j,d⟩
  ·subst d;obtain⟨z,r,L,Z⟩:=I.list j;have n:=r.length;exact wpAny_truthy_list L.isList (by simp only[SJ];lia) ⟨H,I.tok _,by rw[oB r];exact q⟩
  ·subst d;obtain⟨z,r,L,Z⟩:=I.tuple j;have n:=r.length;exact truthy_tuple L (by simp only[SJ];lia) ⟨H,I.tok _,by rw[oB r];exact q⟩
  ·subst d;obtain⟨Z,hS,V,r,m⟩:S.length<=sizeLine/\(p == ń)=ć/\∃V,KV S V/\s.heap.DictOf (mU X.prog X.w) p V:=I.hok p _ j;have n:S.length=V.length:=YK r;exact wpAny_truthy_dict hS m 0e1 ⟨H,I.tok _,by rw[wC r];exact q⟩
 |_=>exact(show ł from e).elim
theorem CA(i:PE X a ta)(n:∀whole,isTrue a 1e4 whole=(do let v <- whole;æ a.pos;holding [v] (ZK v))) :
  PT X a (λσ H Q=>ta σ H λx H'=>∃k,HA X.K x H' k/\Q k H'):=by
 intro pins s σ H Q I h;exact isTrue_plain (cB (i pins s σ H _ I h) λv S=>bD λx H1 d R q=>H7 pins S σ H1 x v Q d R q) (n _)
theorem wu:iw X (Ļ .Add) (λx y H Q=>∃i j,x=.str i/\y=.str j/\i.length+j.length<=sizeLine/\Q (.str (i++j)) H):=by
 intro pins s σ H x y v u Q I R α h;refine aJ h λi j V n Z q=>?_;subst V;subst n;obtain⟨t,rfl⟩:=R;obtain⟨d,rfl⟩:=α;exact add_str (λd tk=>⟨.str (i++j),H,I.tok _,⟨_,rfl⟩,q⟩) Z
theorem dU{x:V}(r:aX [x] us):∃u,us=[u]/\bA x u:=by
 cases r with
 |cons R L=>cases L;exact⟨_,rfl,R⟩
theorem w9{x:V}(r:aX [x,y] us):∃u w',us=[u,w']/\bA x u/\bA y w':=by
 cases r with
 |cons R L=>
  cases L with
  |cons S d=>cases d;exact⟨_,_,rfl,R,S⟩
theorem zS (d:X.calm=ą):b8 X (.builtin "max") (λxs H Q=>∃i j,xs=[.int i,.int j]/\Q (.int (if j>i then j else i)) H):=by
 intro pins s σ H xs U Q I r h;refine bZ h λi j V q=>?_;subst V;obtain⟨u,W,rfl,⟨t,rfl⟩,⟨n,rfl⟩⟩:=w9 r;refine max_two_ints (I.ok.hd d) λh' tk k=>⟨_,H,I.kept k,?_,q⟩;by_cases μ:j>i
 ·rw[RC μ,RC μ];exact⟨_,rfl⟩
 ·rw[RE μ,RE μ];exact⟨_,rfl⟩
theorem zQ (d:X.calm=ą):b8 X (.builtin "min") (λxs H Q=>∃i j,xs=[.int i,.int j]/\Q (.int (if j<i then j else i)) H):=by
 intro pins s σ H xs U Q I r h;refine bZ h λi j V q=>?_;subst V;obtain⟨u,W,rfl,⟨t,rfl⟩,⟨n,rfl⟩⟩:=w9 r;refine min_two_ints (I.ok.hd d) λh' tk k=>⟨_,H,I.kept k,?_,q⟩;by_cases μ:j<i
 ·rw[RC μ,RC μ];exact⟨_,rfl⟩
 ·rw[RE μ,RE μ];exact⟨_,rfl⟩
theorem zU:b8 X (.type "int") (λxs H Q=>(∃i,xs=[.int i]/\Q (.int i) H)\/∃k,xs=[.bl k]/\Q (.int (if k then 1 else 0)) H):=by
 intro pins s σ H xs U Q I r h;rcases h with⟨i,rfl,q⟩|⟨k,rfl,q⟩
 ·obtain⟨u,rfl,t,rfl⟩:=dU r;exact call_int_int ⟨.int i,H,I,⟨_,rfl⟩,q⟩
 ·obtain⟨u,rfl,R⟩:=dU r;cases R;exact call_int_bool ⟨.int (if k then 1 else 0),H,I.tok _,⟨_,rfl⟩,q⟩
def HC(K:W.Frag)(x:V)(H:Hp)(n:ă):Prop:=
 match x with
 |.str y=>y.length<=sizeLine/\n=y.length
 |.byt y=>y.size<=sizeLine/\n=y.size
 |.ref p=>(∃xs,dZ K H p xs/\n=xs.length)\/∃xs,eQ K H p xs/\n=xs.length
 |_=>ł
theorem Dk:b8 X (.builtin "len") (λxs H Q=>∃x n,xs=[x]/\HC X.K x H n/\Q (.int n) H):=by
 intro pins s σ H xs U Q I r h;obtain⟨x,n,rfl,e,q⟩:=h;obtain⟨u,rfl,j⟩:=dU r;have z:=TB;cases x with
 |str y=>
  obtain⟨t,rfl⟩:=j;obtain⟨α,d⟩:y.length<=sizeLine/\n=y.length:=e;subst d;exact len_str 0e1 ⟨.int _,H,I.tok _,⟨_,rfl⟩,q⟩
 |byt y=>
  obtain⟨t,rfl⟩:=j;obtain⟨α,d⟩:y.size<=sizeLine/\n=y.size:=e;subst d;exact W.len_bytes 0e1 ⟨.int _,H,I.tok _,⟨_,rfl⟩,q⟩
 |ref p=>
  cases j;have d:=e;rcases d with⟨xs,i,d⟩|⟨xs,i,d⟩
  ·subst d;obtain⟨S,R,L,Z⟩:=I.list i;have N:=R.length;exact Calls.call_len_list L.isList (by simp only[SJ];lia) ⟨.int xs.length,H,I.tok _,⟨_,by simp only[SJ];rw[N]⟩,q⟩
  ·subst d;obtain⟨S,R,L,Z⟩:=I.tuple i;have N:=R.length;exact len_tuple L (by simp only[SJ];lia) ⟨.int xs.length,H,I.tok _,⟨_,by simp only[SJ];rw[N]⟩,q⟩
 |_=>exact e.elim
end
structure Rj(h:Ĕ)(x dx C:Ĉ)(mA:3e6):Prop where
 obj:h.get? x=Ā (W.instObj C dx)
 ns:h.Ns1 dx mA
 ne:dx≠x
theorem zw{h:Ĕ}{dx:Ĉ}(n:h.Ns1 dx mA):∃od,h.get? dx=Ā od/\∀name,W.lookIn name od=Ā (mA name):=by
 obtain⟨o,es,j,O,D,d,_,M⟩:=n;refine⟨o,O,λname=>?_⟩;have e:=M name;unfold nsFind findBy at e;rw[<- ĕ.find?_toList]at e;unfold W.lookIn;rw[D];dsimp only;split
 ·simp_all
 ·rename_i q;rw[q]at e
  have a:es.toList.any (·.refKey)=ć:=by
   rw[List.any_eq_false];intro y i;refine K4 (d y (Rt.mp i)) λz t α=>?_;simp[ê.refKey,α]
  grind
structure Ri(K:W.Frag)(C:Ĉ):Prop where
 pg:W.plainGet K C ď.empty=ą
 hd:W.hasDictIn K C=ą
 po:W.plainOver K C=ą
 sa:W.findIn K 3e2 "__setattr__" = Ā (Ā (.builtin "object.__setattr__"))
structure Rn(K:W.Frag)(C:Ĉ)(f:ď)(v:V)(u:ā):Prop where
 at_:W.findIn K 3e2 f=Ā (Ā u)
 rel:bA v u
 get:W.specialIn K u "__get__" = Ā Ă
 cp:W.copiedNames.contains f=ć
structure Rk(K:W.Frag)(C:Ĉ)(m:ď)(f:Ĉ):Prop where
 at_:W.findIn K 3e2 m=Ā (Ā (.ref f))
 fn:W.isFn K (.ref f)=ą
 kp:W.keepIn K (.ref f)=ą
section
variable{X:Cx}{C dx:Ĉ}{fs:List (ď×V)}{f:ď}
theorem Gu{f:ď}(B:ĩ e f env (eval e env)=eval e env)(h:Ċ 0e7 A (eval e env) (λo s₁=>Ċ 0e7 A (Zc o f ą) Q E s₁) E s):Ċ 0e7 A (eval (.Attribute e f pos) env) Q E s:=
 Attribute_any_ h (by rw[arm_eval_Attribute,B])
end
section
variable{X:Cx}{c:ā}{b:ċ}
inductive nv(K:W.Frag)(H:Hp):V->ā->Prop where
 |non:nv K H .non (.type "NoneType")
 |bl (x:ċ):nv K H (.bl x) (.type "bool")
 |int (i:Ć):nv K H (.int i) (.type "int")
 |str (x:ď):nv K H (.str x) (.type "str")
 |flt (x:UInt64):nv K H (.flt x) (.type "float")
 |lst {a:Ĉ}{xs:List V} (e:H a=Ā (.lst xs)):nv K H (.ref a) (.type "list")
 |frz {a:Ĉ}{o:ħ}{xs:List V} (e:H a=Ā (.frz o (.lst xs))):nv K H (.ref a) (.type "list")
 |tup {a:Ĉ}{xs:List V} (e:H a=Ā (.tup xs)):nv K H (.ref a) (.type "tuple")
 |dK {a:Ĉ}{kvs:List (sP×V)} (e:H a=Ā (.dK kvs)):nv K H (.ref a) (.type "dict")
 |dT {a:Ĉ}{kvs:List (List sP×V)} (e:H a=Ā (.dT kvs)):nv K H (.ref a) (.type "dict")
 |ins {a C dx:Ĉ}{fs:List (ď×V)} (e:H a=Ā (.ins C dx fs)) (cl:Ri K C) (ha:W.findIn K 3e2 "__class__" = Ā (Ā (.builtin "object.__class__")))
   (hn:W.specialIn K (.builtin "object.__class__") "__get__" = Ā (Ā (.builtin "getset_descriptor.__get__"))) (htk:W.takesIn K (.builtin "object.__class__")=Ā ą)
   (hm:W.mroIn K C (.type "object")=Ā ą):nv K H (.ref a) 3e2
end
structure cU(k:ă)(A:Đ):Prop where
 hd:A.handled=Ă
 dp:A.depth+3*k+5<Ũ
 un:A.units+16*k+200<į
 gd:A.guards=Ā []
theorem cU.mono{k:ă}(r:cU k A)(h:j<=k):cU j A:=⟨r.hd,by have:=r.dp;lia,by have:=r.un;lia,r.gd⟩
theorem cU.deeper{k:ă}(r:cU (k+1) A)(env:Ŋ):cU k (A.deeper env):=
 ⟨r.hd,by have:=r.dp;show A.depth+1+3*k+5<_;lia,by have:=r.un;show A.units+3+16*k+200<_;lia,r.gd⟩
theorem wA{C:Ĉ}:(A.under (.builtin "type.__call__" ⟨.ref C::us,kw⟩)).depth=A.depth+1:=by
 rfl
theorem wz{C:Ĉ}:(A.under (.builtin "type.__call__" ⟨.ref C::us,kw⟩)).units=A.units+1:=by
 rfl
theorem u4{C:Ĉ}:
  (A.under (.builtin "type.__call__" ⟨.ref C::us,kw⟩)).guards=A.guards:=by
 rfl
theorem cU.make{k:ă}(r:cU (k+1) A)(C:Ĉ)(us:List ā)(W:List (ď×ā)):cU k (A.under (.builtin "type.__call__" ⟨.ref C::us,W⟩)):=
 ⟨r.hd,by have:=r.dp;rw[wA];lia,by have:=r.un;rw[wz];lia,u4.trans r.gd⟩
theorem cU.depth{k:ă}(r:cU k A):A.depth<Ũ:=by have:=r.dp;exact R8 (Ä (RA _ _)) this
theorem cU.units{k:ă}(r:cU k A):A.units+64<į:=by have:=r.un;lia
def Pu:TA:=λ_ H Q=>Q [] H
def MR(ta:TE)(R:TA):TA:=λσ H Q=>ta σ H λx H1=>R σ H1 λxs H2=>Q (x::xs) H2
section
variable{X:Cx}{es:4e1}{t:TA}
theorem lJ:PA X [] Pu:=λ_ _ _ _ H Q I h=>Calls.spliced_nil ⟨[],H,I,.nil,h⟩
theorem fM(i:PE X e te)(R:PA X es t)(hs:(autoParam (ĉ (e::es) 1e4=(ć,eval e 1e4)::ĉ es 1e4) ATr)):PA X (e::es) (MR te t):=by
 intro pos pins s σ H Q I h;rw[hs];exact Calls.spliced_cons (cB (i pins s σ H _ I h) λu S=>bD λx H1 d j q=>(cB (R pos pins S σ H1 _ d q) λU M=>bD λxs H2 n L G=>⟨x::xs,H2,n,.cons j L,G⟩))
def Po(t:TA):TE:=λσ H Q=>t σ H λxs H1=>xs.length<=sizeLine/\∀p,H1 p=Ă->Q (.ref p) (bz H1 p (.tup xs))
def Ly(t:TA):TE:=λσ H Q=>t σ H λxs H1=>xs.length<=sizeLine/\∀p,H1 p=Ă->Q (.ref p) (bz H1 p (.lst xs))
theorem Jk{x1}(h:PA X es t):PE X (.Tuple es x1 pos) (Po t):=by
 intro pins s σ H Q I i;refine wpAny_Tuple_spliced (cB (h pos pins s σ H _ I i) λU S=>jS λxs H1 d r z q=>⟨by rw[<- r.length];exact z,?_⟩);refine⟨.ref S.heap.objs.size,bz H1 S.heap.objs.size (.tup xs),d.laid (λb u e=>Tr _ e) (Rx _) ?_,rfl,q _ (d.hok.fresh (Rx _))⟩;exact⟨z,U,r,⟨_,SZ _ rfl,rfl,⟨_,rfl⟩,rfl⟩⟩
theorem Bl(h:PA X es t):PE X (.List es pos) (Ly t):=by
 intro pins s σ H Q I i;refine wpAny_List_spliced (cB (h pos pins s σ H _ I i) λU S=>jS λxs H1 d r z q=>⟨by rw[<- r.length];exact z,?_⟩);refine⟨.ref S.heap.objs.size,bz H1 S.heap.objs.size (.lst xs),d.laid (λb u e=>Tr _ e) (Rx _) ?_,rfl,q _ (d.hok.fresh (Rx _))⟩;exact⟨z,U,0,r,SZ _ rfl⟩
end
abbrev Sp:=List V->Hp->VK->XK->Prop
abbrev sQ:=List Ŋ->Hp->Ą->XK->ā->Ą->Prop
structure tx(P:č)(w:ē)(K:W.Frag)(mg:3e6)(base:Ĕ)(A:Đ)(outer:List Ŋ)(s:Ą)(H:Hp):Prop where
 frames:A.frames=Ā outer
 mod:Mod K mg base
 bs:∀b o,base.get? b=Ā o->s.heap.get? b=Ā o/\H b=Ă
 bsz:base.objs.size<=s.heap.objs.size
 funs:s.heap.FunFrames base outer
 frf:∀b∈ni outer,H b=Ă
 hok:lA P w H 1e9
 bare:ţ s.gens
def CE(O:List Ŋ)(P:č)(w:ē)(H:Hp)(s:Ą)(Q:VK)(u:ā)(s':Ą):Prop:=
 ∃v H',s'.os=s.os/\ţ s'.gens/\Un (ni O) [] H H' 1e9 s'.heap/\lA P w H' s'.heap/\bA v u/\Q v H'
def CR(CX:sQ)(O:List Ŋ)(P:č)(w:ē)(H:Hp)(s:Ą)(Q:VK)(E:XK)(r:Ų)(s':Ą):Prop:=
 match r with
 |.ok (.ret u)=>CE O P w H s Q u s'
 |.ok _=>ł
 |.error e=>CX O H s E e s'
structure ko(P:č)(w:ē)(K:W.Frag)(mg:3e6)(base:Ĕ)(CX:sQ)(k:ă)(f:Ĉ)(fd:ğ)(ps:List ď)(sp:Sp):Prop where
 len:∀vs H Q E,sp vs H Q E->vs.length=ps.length
 run:∀(A:Đ)(outer:List Ŋ)(s:Ą)(H:Hp)(args:Args)(us:List ā)(vs:List V)(Q:VK)(E:XK),cU k A->tx P w K mg base A outer s H->é s fd args (ps.zip us)->aX vs us->sp vs H Q E ->
  Ń (Č P w) A (.call (.ref f) args) (CR CX outer P w H s Q E) s
theorem tx.make(e:tx P w K mg base A outer s H)(C:Ĉ)(us:List ā)(d:List (ď×ā)):
  tx P w K mg base (A.under (.builtin "type.__call__" ⟨.ref C::us,d⟩)) outer s H:=⟨by first|exact e.frames|(simpa[Đ.under,Code.envs,Code.isFrame,pushEnvs] using e.frames),e.mod,e.bs,e.bsz,e.funs,e.frf,e.hok,e.bare⟩
section
variable{X:Cx}
theorem aO.env0(I:0e4):tx X.prog X.w X.K X.mg X.base X.A X.stack s H:=
 ⟨I.ok.frames,I.ok.mod,I.bs,RH I.ok.bsz I.sz,I.stack,I.stkFree,I.hok,I.bare⟩
theorem aO.after{Q:VK}(I:0e4)(h:CE X.stack X.prog X.w H s Q u s'):EP X pins σ Q u s':=by
 obtain⟨v,H',S,bare,un,L,r,q⟩:=h;obtain⟨i,g,d,t,O⟩:=s';obtain rfl:O=s.os:=S;exact⟨v,H',I.call un L bare (λb z=>absurd z 1e1),r,q⟩
end
def GM(sp:Sp)(dvs:List V)(E:XK)(t:TA):TE:=λσ H Q=>t σ H λy H1=>sp (y++dvs) H1 Q E
def cW(K:W.Frag)(fd:ğ)(ps:List ď)(ds:List ā):Prop:=
 ∀(s:Ą)(U:List ā),K.In 1e9->(U++ds).length=ps.length->é s fd ⟨U,[]⟩ (ps.zip (U++ds))
theorem cW.all{ps:List ď}(h:∀us:List ā,us.length=ps.length->Ŧ fd ⟨us,[]⟩=pure (ps.zip us)):cW K fd ps []:=λs us _ L=>by
 rw[TC]at L⊢;exact .of_eq (h us L)
def gZ(CX:sQ)(X:Cx)(E:XK):Prop:=∀(pins:2e0)(σ:St)(H:Hp)(s:Ą)(e:ā)(s':Ą),aO X pins σ H s->CX X.stack H s E e s'->X.xe e s'
section
variable{X:Cx}{CX:sQ}{k:ă}{f C:Ĉ}{ps:List ď}{sp:Sp}{dvs:List V}{ds:List ā}{E:XK}{m:ď}{p:Ľ}{o:Expr}{es:4e1}{t:TA}
theorem Bc{Q:VK}(F:ko X.prog X.w X.K X.mg X.base CX k f fd ps sp)(R:cU k X.A)(B:cW X.K fd ps ds)(hd:aX dvs ds)(i:gZ CX X E)(I:0e4)(r:aX vs us)(h:sp (vs++dvs) H Q E):Ċ 1e2 X.A (call (.ref f) us) (EP X pins σ Q) X.xe s:=by
 have L:=r.append hd;refine TF (TH (F.run X.A X.stack s H ⟨us,[]⟩ (us++ds) (vs++dvs) Q E R I.env0 (B s us I.kIn (by rw[<- L.length];exact F.len _ _ _ _ h)) L h) λr s' z=>?_);cases r with
 |error e=>exact i pins σ H s e s' I z
 |ok d=>
  cases d with
  |ret u=>exact I.after z
  |next=>exact ę z
  |brk=>exact ę z
  |cont=>exact ę z
theorem rL(F:ko X.prog X.w X.K X.mg X.base CX k f fd ps sp)(R:cU k X.A)(N:Gl X x)(M:X.mg x=Ā (.ref f))(y:W.keepIn X.K (.ref f)=ą)(j:cW X.K fd ps ds)(hd:aX dvs ds)(z:gZ CX X E)
  (i:PA X (e::es) t) (B:1e0) (n:(autoParam (ĉ (e::es) 1e4=(ć,eval e 1e4)::ĉ es 1e4) ATr)) (L:2e7) :
  PE X (.Call (.Name x p) (e::es) [] pos) (GM sp dvs E t):=by
 intro pins s σ H Q I h;refine TJ (kF I N M ?_ B);exact W.callWith_K I.ok.mod.kin y (cB (i pos pins s σ H _ I h) λU S=>bD λV H1 d r q=>⟨d.kIn,(Bc F R j hd z d r q)⟩) n L
structure Mk(K:W.Frag)(C f:Ĉ):Prop where
 makes:W.makesIn K C=ą
 init:W.findIn K 3e2 "__init__" = Ā (Ā (.ref f))
 fn:W.isFn K (.ref f)=ą
 kp:W.keepIn K 3e2=ą
end
section
variable{X:Cx}{CX:sQ}{k:ă}{f C:Ĉ}{ps ks:List ď}{sp:Sp}{E:XK}{m:ď}{p kpos:Ľ}{o:Expr}{es:4e1}{kws:List ŋ}{t tk:TA}{nm:Option ď}
structure QC(K:W.Frag)(fd:ğ)(ps ks:List ď)(g:List ā->List ā->List ā)(gV:List V->List V->List V):Prop where
 to:∀(s:Ą)(us ws:List ā),K.In 1e9->(g us ws).length=ps.length->é s fd ⟨us,ks.zip ws⟩ (ps.zip (g us ws))
 rel:∀{vs:List V}{us:List ā}{zs:List V}{ws:List ā},aX vs us->aX zs ws->aX (gV vs zs) (g us ws)
variable{g:List ā->List ā->List ā}{gV:List V->List V->List V}
end
structure cH(N P:List ď)(sc:ĺ):Prop where
 kind:sc.kind=.function
 co:sc.isCoroutine=ć
 gen:sc.isGenerator=ć
 nd:N.Nodup
 pre:N.take P.length=P
 par:∀x∈P,sc.names.lookup x=Ā .local\/sc.names.lookup x=Ā .cell
 nofree:∀y∈sc.names,y.2≠.free
theorem qN{kindOf:ď->Option Ō}{x:ď}:∀{binds:List (ď×ā)}{m:3e6},(∀v,(x,v)∉binds)->XN kindOf binds m x=m x
 |[],_,_=>rfl
 |(n,v)::r,m,h=>by
  unfold XN;rw[qN λw W=>h w (Tb _ W)];split
  ·have : x ≠ n := by rintro rfl; exact h v Ta
   simp[this]
  ·rfl
theorem qO{kindOf:ď->Option Ō}{x:ď}:∀{binds:List (ď×ā)}{m:3e6},(∀v,(x,v)∉binds)->XO kindOf binds m x=m x
 |[],_,_=>rfl
 |(n,v)::r,m,h=>by
  unfold XO;rw[qO λw W=>h w (Tb _ W)];split
  ·rfl
  ·have : x ≠ n := by rintro rfl; exact h v Ta
   simp[this]
theorem l0{kindOf:ď->Option Ō}{x:ď}{v:ā}:∀{P:List ď}{vs:List ā}{i:ă}{m:3e6},P.Nodup->P[i]?=Ā x->vs[i]?=Ā v->kindOf x=Ā .local ->
  XN kindOf (P.zip vs) m x=Ā v
 |[],_,_,_,_,h,_,_=>by simp at h
 |_::_,[],_,_,_,_,h,_=>by simp at h
 |p::P,w::vs,0,m,n,h1,h2,d=>by
  simp at h1 h2;subst h1;subst h2;show XN kindOf ((p,w)::P.zip vs) m p=_;unfold XN;rw[qN λv V=>(TL.mp n).1 (TM V).1,RC d];simp
 |p::P,w::vs,i+1,m,n,h1,h2,d=>by
  show XN kindOf ((p,w)::P.zip vs) m x=_;unfold XN;exact l0 (i:=i) (TL.mp n).2 (by simpa using h1) (by simpa using h2) d
theorem l5{kindOf:ď->Option Ō}{x:ď}{v:ā}:∀{P:List ď}{vs:List ā}{i:ă}{m:3e6},P.Nodup->P[i]?=Ā x->vs[i]?=Ā v->kindOf x≠Ā .local ->
  XO kindOf (P.zip vs) m x=Ā v
 |[],_,_,_,_,h,_,_=>by simp at h
 |_::_,[],_,_,_,_,h,_=>by simp at h
 |p::P,w::vs,0,m,n,h1,h2,d=>by
  simp at h1 h2;subst h1;subst h2;show XO kindOf ((p,w)::P.zip vs) m p=_;unfold XO;rw[qO λv V=>(TL.mp n).1 (TM V).1,RE d];simp
 |p::P,w::vs,i+1,m,n,h1,h2,d=>by
  show XO kindOf ((p,w)::P.zip vs) m x=_;unfold XO;exact l5 (i:=i) (TL.mp n).2 (by simpa using h1) (by simpa using h2) d
noncomputable def start(N:List ď)(vs:List V):St:=vs.map Ā++List.replicate (N.length-vs.length) Ă
noncomputable def mI(CX:sQ)(P:č)(w:ē)(K:W.Frag)(mg:3e6)(base:Ĕ)(N:List ď)(qual:ď)(scope:ĺ)(f:Ĉ)(cd:ā)(A:Đ)(O:List Ŋ)(s:Ą)(H:Hp)(E:XK):Cx where
 prog:=P
 w:=w
 K:=K
 mg:=mg
 base:=base
 A:=A.deeper (Ŀ qual scope 0e0 f cd)
 N:=N
 s₀:=s
 H₀:=H
 env:=Ŀ qual scope 0e0 f cd
 outer:=O
 stack:=Ŀ qual scope 0e0 f cd::O
 ex:=[]
 calm:=ą
 fn:=λ_=>ą
 pn:=[]
 xe:=λe s'=>Ċ (Č P w) (A.deeper (Ŀ qual scope 0e0 f cd)) (Ů (Ŀ qual scope 0e0 f cd) e) (λ_ s''=>CX O H s E e s'') (λd s''=>CX O H s E d s'') s'
theorem kZ{sc:ĺ}(h:sc.names.lookup x=Ā .cell):∃c,(Ģ n sc.names []).lookup x=Ā c:=by
 have q:=W.cellsFrom_some sc.names n [] (.inl h);exact TN.mp q
theorem zB{CX:sQ}{ps:List ď}{f:Ĉ}{cd:ā}{s1:Ą}{E:XK}(S:cH N ps scope)(hd:(A.handled=Ă))(d:tx P w K mg base A outer s H)(L:vs.length=ps.length)(r:aX vs us)(x:(InCallC s 0e0 (XN (Ŀ qual scope 0e0 f cd).kindOf (ps.zip us) λ_=>Ă) (Ģ (s.heap.objs.size+1) scope.names []) (XO (Ŀ qual scope 0e0 f cd).kindOf (ps.zip us) λ_=>Ă) s1)):
  aO (mI CX P w K mg base N qual scope f cd A outer s H E) [] (start N vs) H s1:=by
 have I:ps.length<=N.length:=by have:=Sd List.length S.pre;rw[TQ]at this;lia
 refine bZ x.done λh1 tk μ B=>?_;subst μ;have noA:∀b:Ĉ,b∉(mI CX P w K mg base N qual scope f cd A outer s H E).ex:=λb z=>absurd (show b∈([]:List Ĉ) from z) 1e1
 refine⟨⟨d.mod,S.kind,rfl,rfl,Rx _,λy z c h1 h2=>?_,λy α=>?_,λy c _ h=>?_,λ_=>hd,Ù d.frames,.inr ⟨rfl,rfl⟩,λb z=>absurd z (noA b),d.bs,d.bsz,λb _ _=>noA b,λb z=>absurd z (noA b),d.funs,d.frf⟩,
  rfl,d.bare,Un.kept B,⟨_,x.toInCall.ns,λi y v h1 h2 M=>?_⟩,λy c h=>⟨_,x.cell y c h⟩,d.hok.fresh (Rx _),λy c h=>?_,λp j=>absurd (show p∈([]:List (Ĉ×ħ)) from j) 1e1,d.hok.kept B,?_⟩
 ·exact Yv x.apart (TR h1) (TR h2)
 ·have α : scope.names.lookup y = Ā .cell \/ scope.names.lookup y = Ā .free := α;rcases α with α|α
  ·exact kZ α
  ·exact absurd rfl (S.nofree _ (TR α))
 ·exact Sj (x.above y c (TR h))
 ·have hi:i<vs.length:=by
   unfold start at h2;by_cases hi:i<vs.length
   ·exact hi
   ·rw[TU (by simpa using hi)]at h2;rw[TV]at h2;split at h2 <;> cases h2
  have G:vs[i]?=Ā v:=by
   simp_all[start,TX]
  refine bb (r.get G) λu U R=>?_
  have j:ps[i]?=Ā y:=by
   rw[<- S.pre,TY (Ry hi (RI L))];exact h1
  have ndP:ps.Nodup:=by rw[<- S.pre];exact S.nd.sublist (TZ _ _)
  refine⟨u,R,?_⟩;rcases S.par y (T1 j) with k|k
  ·exact .inl ⟨k,l0 ndP j U k⟩
  ·obtain⟨c,e⟩:=kZ (n:=s.heap.objs.size+1) k;refine .inr ⟨.inl k,c,e,?_⟩;have q:=x.cell y c e;rw[l5 ndP j U (by show scope.names.lookup y≠_;rw[k];decide)]at q;exact q
 ·exact d.hok.fresh (Sj (x.above y c (TR h)))
 ·unfold start;show _=N.length
  simp_all
theorem AO{CX:sQ}{k:ă}{f:Ĉ}{name:ď}{dV kV doc pm ct oc:ā}{od:Option Ĉ}{ps:List ď}{sp:Sp}(lk:(K.lookup f=Ā ⟨oc,od,.func (W.fnOf name qual params body scope dV kV doc pm an cdv ct),osl⟩))(D:W.codeIn K cdv qual=ą)(S:cH N ps scope)(len:(∀vs H Q E,sp vs H Q E->vs.length=ps.length))(hbody : ∀ (A : Đ) (outer : List Ŋ) (s : Ą) (H : Hp) (vs : List V) (Q : VK) (E : XK), cU k (A.deeper (Ŀ qual scope 0e0 f cdv)) -> sp vs H Q E ->
   ∃t,ly (mI CX P w K mg base N qual scope f cdv A outer s H E) body t/\t {nx:=λ_ H'=>Q .non H',rt:=Q} (start N vs) H):
  ko P w K mg base CX (k+1) f (W.fnOf name qual params body scope dV kV doc pm an cdv ct) ps sp:=by
 refine⟨len,λA outer s H args us vs Q E R j M r z=>?_⟩;have α:=len _ _ _ _ z;have KX:K.In 1e9:=j.mod.kin.keeps λb o e=>(j.bs b o e).1;have lim:s.heap.NoLimit:=j.mod.nolimit.keeps λb o e=>(j.bs b o e).1
 have hkind:∀y∈ps.zip us,scope.names.lookup y.1=Ā .local\/(scope.names.lookup y.1=Ā .cell/\((Ģ (s.heap.objs.size+1) scope.names []).lookup y.1).isSome=ą):=λ⟨n,v⟩ hy=>by
  rcases S.par n (TM hy).1 with q|q
  ·exact .inl q
  ·exact .inr ⟨q,W.cellsFrom_some _ _ _ (.inl q)⟩
 refine Î R.depth (KX _ _ lk) rfl S.co S.gen rfl (W.codeRec_of KX D) (M _ _ _ _ ?_);refine ū S.kind hkind λenv U G x=>?_;subst U;refine⟨lim.keeps x.toInCall.keep,Yx ?_⟩;obtain⟨t,O,Z⟩:=hbody A outer s H vs Q E (R.deeper _) z;have I:aO (mI CX P w K mg base N qual scope f cdv A outer s H E) [] (start N vs) H G:=zB S R.hd j α r x;refine SA (O [] G (start N vs) H _ I Z) (λL s' i=>?_) λe s' i=>i
 have F:∀{d:St}{H':Hp}{v:V}{u:ā},aO (mI CX P w K mg base N qual scope f cdv A outer s H E) [] d H' s'->bA v u->Q v H'->CE outer P w H s Q u s':=
  λ{d H' v u} μ B q=>⟨v,H',μ.os,μ.bare,μ.base,μ.hok,B,q⟩
 cases L with
 |ret u=>
  obtain⟨v,d,H',μ,B,q⟩:=i;exact F μ B q
 |next=>
  obtain⟨d,H',μ,q⟩:=i;exact F (v:=V.non) (u:=Ę) μ rfl q
 |brk=>
  obtain⟨_,_,_,q⟩:=i;exact ę q
 |cont=>
  obtain⟨_,_,_,q⟩:=i;exact ę q
end _l
variable{CX:_l.sQ}{sp:_l.Sp}
namespace _l
open PySem PySem.Spec PyProof.Rows
section
variable{X:Cx}{p:Ľ}{es:4e1}{t:TA}{id T:Ī}{r:(List V->Hp->VK->Prop)}
def OR(r:(List V->Hp->VK->Prop))(t:TA):TE:=λσ H Q=>t σ H λy H1=>r y H1 Q
theorem kT (j:b8 X (.builtin id) r) (N:Gl X x) (M:X.mg x=Ă) (V:Ġ x=Ā (.builtin id)) (i:PA X (e::es) t) (q:(autoParam (x ≠ "__name__") ATs)) (B:1e0)
  (n:(autoParam (ĉ (e::es) 1e4=(ć,eval e 1e4)::ĉ es 1e4) ATr)) (L:2e7):PE X (.Call (.Name x p) (e::es) [] pos) (OR r t):=by
 intro pins s σ H Q I h;exact TJ (iP I N M V (PyProof.Rows.callWith_builtin1 (cB (i pos pins s σ H _ I h) λU S=>bD λz H1 d R y=>j pins S σ H1 z U Q d R y) n L) q B)
theorem qt (j:b8 X (.type T) r) (N:Gl X x) (M:X.mg x=Ă) (V:Ġ x=Ā (.type T)) (i:PA X (e::es) t) (q:(autoParam (x ≠ "__name__") ATs)) (B:1e0)
  (n:(autoParam (ĉ (e::es) 1e4=(ć,eval e 1e4)::ĉ es 1e4) ATr)) (L:2e7):PE X (.Call (.Name x p) (e::es) [] pos) (OR r t):=by
 intro pins s σ H Q I h;exact TJ (iP I N M V (Ts (cB (i pos pins s σ H _ I h) λU S=>bD λz H1 d R y=>j pins S σ H1 z U Q d R y) n L) q B)
end
end _l
namespace HT
open PySem PyProof.Rows
section
theorem cat_tup{t:Ĉ}{vs ws:List ā}(I:Ó 1e9 t vs.toArray)(G:Ó 1e9 b ws.toArray)(V:vs≠[])(h1:ws=[]->Q (.ref t) s)(h2:ws≠[]->Q (.ref 0e0) {s with heap:=s.heap.push {cls:=.type "tuple",data:=.seq (vs++ws).toArray}})(z:vs.length+ws.length<=sizeLine):Ċ 0e7 A (Ļ .Add (.ref t) (.ref b)) Q E s:=by
 obtain⟨⟨cls,q,data,L⟩,O,y,n,B⟩:=id I;obtain⟨⟨cls2,D,data2,S⟩,d,i,N,j⟩:=id G;simp only at y B i j;subst y B i j;have e:vs.toArray++ws.toArray=(vs++ws).toArray:=by simp
 by_cases W:ws=[]
 ·exact J_ ⟨_,O,rfl⟩ ⟨_,d,rfl⟩ T2 õ T3 T4 (T5 _ _)
   (tuple_addW1 t b vs.toArray ws.toArray n N q D L S (by simpa using V) (by simp[W])) ⟨O,d,h1 W⟩
 ·refine J_ ⟨_,O,rfl⟩ ⟨_,d,rfl⟩ T2 õ T3 T4 (T5 _ _)
   (tuple_addW2 t b vs.toArray ws.toArray n N q D L S (by simpa using V) (by simpa using W) (z)) ⟨O,d,?_⟩
  rw[e];exact h2 W
noncomputable def sIx(n d:ă):Option Ć->ă
 |none=>d
 |some v=>if v<0 then (v+(n:Ć)).toNat else min v.toNat n
theorem sIx_none(n d:ă):sIx n d Ă=d:=rfl
theorem sIx_nat(n d k:ă):sIx n d (Ā (k:Ć))=min k n:=by
 rfl
theorem IS(n d:ă)(hd:d<=n)(o:Option Ć):sIx n d o<=n:=by
 cases o with
 |none=>exact hd
 |some v=>
  show (if v<0 then (v+(n:Ć)).toNat else min v.toNat n)<=n;by_cases V:v<0
  ·rw[RC V];lia
  ·rw[RE V];exact T6 _ _
theorem yy(v:Ć)(n d:ă):(if v<0 then max (v+(n:Ć)) 0 else min v (n:Ć))=((sIx n d (Ā v):ă):Ć):=by
 show (if v<0 then max (v+(n:Ć)) 0 else min v (n:Ć))=(((if v<0 then (v+(n:Ć)).toNat else min v.toNat n):ă):Ć);by_cases V:v<0
 ·simp only[RC V];simp
 ·simp only[RE V];lia
theorem wV(lo hi:Option Ć)(n:ă):Builtin.Slice.sliceAdjust lo hi 1 (n:Ć)=(((sIx n 0 lo:ă):Ć),((sIx n n hi:ă):Ć)):=by
 have h1:¬ ((1:Ć)<0):=by decide
 unfold Builtin.Slice.sliceAdjust;simp only[h1,T7];refine Rq ?_ ?_
 ·cases lo with
  |none=>rfl
  |some v=>exact yy v n 0
 ·cases hi with
  |none=>rfl
  |some v=>exact yy v n n
theorem wq(i j:ă):Builtin.Slice.slicePlaces (i:Ć) (j:Ć) 1=j-i:=by
 unfold Builtin.Slice.slicePlaces;have h1:(1:Ć)>0:=by decide
 simp only[h1,T8,Ć.ediv_one];split <;> lia
theorem ow{v:ā}{o:Option Ć}{Q:Option Ć->Ą->Prop}(p:ż v o)(h:Q o s):Ċ 0e7 A (Builtin.Slice.slicePartIndex v) Q E s:=by
 cases p with
 |none=>exact YA h
 |int i t=>exact slicePart_int h
theorem sliceApplied_gen{sl:Ĉ}{vl vu:ā}{hi:Option Ć}{Q:Ć×Ć×ă->Ą->Prop}(hs:s.heap.IsSliceOf sl vl vu .none)(L:ż vl lo)(U:ż vu hi)(h:Q (((sIx n 0 lo:ă):Ć),1,sIx n n hi-sIx n 0 lo) s):Ċ 0e7 A (Builtin.Slice.sliceApplied (.ref sl) (pure (n:Ć))) Q E s:=by
 refine bo (id hs) λO d i S=>?_;unfold Builtin.Slice.sliceApplied Builtin.Slice.sliceFields;refine Tn (Tn (T9 d S (x:=vl) rfl (Tn (T9 d S (x:=vu) rfl (Tn (T9 d S (x:=.none) rfl (SD ?_)))))));refine Tn (YA ?_);show Ċ _ _ (if ((1:Ć) == 0)=ą then _ else _) _ _ s;rw[RE 0e3];refine Tn (ow L (Tn (ow U (Tn (SD ?_)))));show Ċ _ _ (match Builtin.Slice.sliceAdjust lo hi 1 (n:Ć) with|(lo,hi)=>pure (lo,(1:Ć),Builtin.Slice.slicePlaces lo hi 1)) _ _ s;rw[wV lo hi n];show Ċ _ _ (pure (((sIx n 0 lo:ă):Ć),(1:Ć),Builtin.Slice.slicePlaces ((sIx n 0 lo:ă):Ć) ((sIx n n hi:ă):Ć) 1)) _ _ s;rw[wq];exact SD h
theorem CH(xs:ĕ ā)(i k:ă):((List.range k).filterMap λ(m:ă)=>xs[((i:Ć)+(m:Ć)*1).toNat]?).toArray=((xs.toList.drop i).take k).toArray:=by
 have e:(λ(m:ă)=>xs[((i:Ć)+(m:Ć)*1).toNat]?)=λm=>xs[i+m]?:=by
  funext m;have:((i:Ć)+(m:Ć)*1).toNat=i+m:=by lia
  rw[this]
 rw[e];have:=pick_run xs i k;rw[List.filterMap_map]at this;have d:((λx=>xs[x]?) ∘ λx=>i+x)=λm=>xs[i+m]?:=rfl;rw[d]at this;rw[this]
theorem getItem_tuple_cut{t sl:Ĉ}{items:ĕ ā}{vl vu:ā}{hi:Option Ć}(d:Ó 1e9 t items)(hs:s.heap.IsSliceOf sl vl vu .none)(L:ż vl lo)(U:ż vu hi)(W:¬ (sIx 4e0 0 lo=0/\sIx 4e0 4e0 hi=4e0))(h:Q (.ref 0e0) {s with heap:=s.heap.push {cls:=.type "tuple",data:=.seq ((items.toList.drop (sIx 4e0 0 lo)).take (sIx 4e0 4e0 hi-sIx 4e0 0 lo)).toArray}})(z:items.size<=sizeLine):Ċ 0e7 A (è (.ref t) (.ref sl)) Q E s:=by
 have htake:sizeOk (.seq ((items.toList.drop (sIx 4e0 0 lo)).take (sIx 4e0 4e0 hi-sIx 4e0 0 lo)).toArray):=by
  show ((items.toList.drop (sIx 4e0 0 lo)).take (sIx 4e0 4e0 hi-sIx 4e0 0 lo)).toArray.size<=sizeLine;rw[SJ,TQ,Ua,Rv];omega
 have μ:sIx 4e0 4e0 hi<=items.size:=IS _ _ (Rx _) hi;refine bo (id hs) λn S i j=>?_;have hTs:s.TypeIs (.ref sl) "slice" := ⟨n,S,i⟩;unfold è
 try with_reducible refine To ?_
 first|refine Tn (SD ?_)|skip
 refine Tn (No d.typeIs 0e3 ?_)
 refine Tn (Ub (name:=Ž "__getitem__") d.typeIs Uc
  (Ud Uc d.typeIs ð ?_ (D_ _ _)))
 show Ċ _ _ (Builtin.Tuple.tupleItemsOf (.ref t) >>= _) _ _ s;refine Tn (YQ d ?_);refine Tn (Ue hTs ?_);rw[RC 0e3];refine Tn (sliceApplied_gen hs L U ?_)
 have O:¬ ((((sIx 4e0 0 lo:ă):Ć) == 0&&(1:Ć) == 1&&(sIx 4e0 4e0 hi-sIx 4e0 0 lo) == items.size)=ą):=by
  simp_all
 show Ċ _ _ (if (((sIx 4e0 0 lo:ă):Ć) == 0&&(1:Ć) == 1&&(sIx 4e0 4e0 hi-sIx 4e0 0 lo) == items.size)=ą then _ else _) _ _ s;rw[RE O,CH]
 first
  |exact Tn (m:=Builtin.Tuple.tupleExact _) (Ug (SD ⟨_,rfl,SD h⟩) htake)
  |exact Tn (m:=Builtin.Tuple.tupleExact _) (Ug (Tn (SD (SD ⟨_,rfl,SD h⟩))) htake)
  |exact Tn (Tn (m:=Builtin.Tuple.tupleExact _) (Ug (SD (SD ⟨_,rfl,SD h⟩)) htake))
  |exact Tn (Tn (m:=Builtin.Tuple.tupleExact _) (Ug (SD ⟨_,rfl,SD h⟩) htake))
end
end HT
namespace _l
open PySem PySem.Spec PyProof.Rows
abbrev TO:=St->Hp->(Option Ć->Hp->Prop)->Prop
def PO(X:Cx)(e:Option Expr)(t:TO):Prop:=
 ∀(pins:2e0)(s:Ą)(σ:St)(H:Hp)(Q:Option Ć->Hp->Prop),aO X pins σ H s->t σ H Q ->
  Ċ 1e2 X.A (evalPart e 1e4) (λu s'=>∃o H',aO X pins σ H' s'/\ż u o/\Q o H') X.xe s
noncomputable def Ek:TO:=λ_ H Q=>Q Ă H
noncomputable def MK(t:TE):TO:=λσ H Q=>t σ H λx H1=>∃i,x=.int i/\Q (Ā i) H1
theorem f7:∀{us:List ā},aX (ns.map V.int) us->Ŗ us ns:=by
 induction ns with
 |nil=>intro us r;rw[Uh]at r;cases r;exact .nil
 |cons n ns i=>
  intro us r;rw[SH]at r;cases r with
  |cons R L=>
   obtain⟨t,e⟩:=R;subst e;exact .cons n t (i L)
section
variable{X:Cx}{lo hi:Option Expr}{tl th:TO}{p2:Ľ}
theorem Ff:PO X Ă Ek:=by
 intro pins s σ H Q I h;rw[YV];exact SD ⟨Ă,H,I,.none,h⟩
theorem Fe(h:PE X e te):PO X (Ā e) (MK te):=by
 intro pins s σ H Q I W;rw[evalPart_some];refine cB (h pins s σ H _ I W) λu S=>bD λx H1 d R j=>?_;obtain⟨i,rfl,q⟩:=j;obtain⟨t,rfl⟩:=R;exact⟨Ā i,H1,d,.int i t,q⟩
def DI(X:Cx)(r:(V->Option Ć->Option Ć->Hp->VK->Prop)):Prop:=
 ∀(pins:2e0)(s:Ą)(σ:St)(H:Hp)(x:V)(v L U:ā)(lo hi:Option Ć)(q:Ĉ)(Q:VK),aO X pins σ H s->bA x v->s.heap.IsSliceOf q L U .none->ż L lo->ż U hi->r x lo hi H Q ->
  ∃T id,ž (.type T) "__getitem__" = pure (Ā (.builtin id))/\s.TypeIs v T/\Ċ 1e2 X.A (è v (.ref q)) (EP X pins σ Q) X.xe s
theorem DI.or{r r':(V->Option Ć->Option Ć->Hp->VK->Prop)}(h:DI X r)(h':DI X r'):DI X (λx lo hi H Q=>r x lo hi H Q\/r' x lo hi H Q):=by
 intro pins s σ H x v i j lo hi d Q I R S L U q;rcases q with q|q
 ·exact h pins s σ H x v i j lo hi d Q I R S L U q
 ·exact h' pins s σ H x v i j lo hi d Q I R S L U q
def Q6(r:(V->Option Ć->Option Ć->Hp->VK->Prop))(te:TE)(tl th:TO):TE:=λσ H Q=>te σ H λx H1=>tl σ H1 λl H2=>th σ H2 λu d=>r x l u d Q
theorem CJ{r:(V->Option Ć->Option Ć->Hp->VK->Prop)}(R:DI X r)(B:PE X e te)(μ:PO X lo tl)(S:PO X hi th):PE X (.Subscript e (.Slice lo hi Ă p2) pos) (Q6 r te tl th):=by
 intro pins s σ H Q I h;refine ZW (cB (B pins s σ H _ I h) λv s1=>bD λx H1 j W D=>?_);refine wpAny_Slice (cB (μ pins s1 σ H1 _ j D) λL s2=>bD λl H2 n α O=>cB (S pins s2 σ H2 _ n O) λU N=>bD λu d y Z F=>?_);rw[YV];refine SD ?_;have z:aO X pins σ d {N with heap:=N.heap.push {cls:=.type "slice",data:=.fields #[L,U,.none]}}:=y.kept (t':=N.toks) λb ob q=>Tr _ q;refine aU (R pins {N with heap:=N.heap.push {cls:=.type "slice",data:=.fields #[L,U,.none]}} σ d x v L U l u N.heap.objs.size Q z W (Ĕ.IsSliceOf.new ..) α Z F) λT id hT M G=>?_;show Ċ 1e2 X.A (YR e (.Slice lo hi Ă p2) v (.ref N.heap.objs.size)) (EP X pins σ Q) X.xe {N with heap:=N.heap.push {cls:=.type "slice",data:=.fields #[L,U,.none]}};exact tail_any (ops:=[.ref N.heap.objs.size,v]) M hT G (by with_unfolding_all rfl)
def vC(xs:List V)(lo hi:Option Ć):List V:=(xs.drop (HT.sIx xs.length 0 lo)).take (HT.sIx xs.length xs.length hi-HT.sIx xs.length 0 lo)
theorem my(xs:List V)(lo hi:Option Ć):(vC xs lo hi).length<=xs.length:=by
 unfold vC;rw[TQ,Ua]
 lia
def Lz(K:W.Frag):V->Option Ć->Option Ć->Hp->VK->Prop:=λx lo hi H Q=>∃a xs,x=.ref a/\eQ K H a xs /\
 ¬ (HT.sIx xs.length 0 lo=0/\HT.sIx xs.length xs.length hi=xs.length)/\∀p,H p=Ă->Q (.ref p) (bz H p (.tup (vC xs lo hi)))
theorem IA:DI X (Lz X.K):=by
 intro pins s σ H x v V z lo hi y Q I R S L U h;refine aJ h λa xs v14 j W q=>?_;subst v14;cases R;refine bo (I.tuple j) λi r d Z=>?_;have n:i.toArray.size=xs.length:=by rw[SJ];exact r.length.symm
 refine⟨"tuple",_,Uc.lookup,d.typeIs,?_⟩;refine HT.getItem_tuple_cut d S L U (by rw[n];exact W) ?_ (by rw[n];exact Z);rw[n];refine⟨.ref 0e0,_,I.laid (t':=s.toks) (o:=.tup (vC xs lo hi)) (λb O q=>Tr _ q) (Rx _) ?_,rfl,q _ (I.hok.fresh (Rx _))⟩;exact⟨RH (my xs lo hi) Z,_,(r.drop (HT.sIx xs.length 0 lo)).take (HT.sIx xs.length xs.length hi-HT.sIx xs.length 0 lo),iW.new _ _⟩
def Np(K:W.Frag):R2:=λx y H Q=>∃a b xs ys,x=.ref a/\y=.ref b/\eQ K H a xs/\eQ K H b ys/\xs≠[]/\xs.length+ys.length<=sizeLine /\
 (ys=[]->Q (.ref a) H)/\(ys≠[]->∀p,H p=Ă->Q (.ref p) (bz H p (.tup (xs++ys))))
theorem aX.nil_iff{xs:List V}(r:aX xs us):us=[]↔xs=[]:=by
 cases r with
 |nil=>simp
 |cons _ _=>simp
theorem FC:iw X (Ļ .Add) (Np X.K):=by
 intro pins s σ H x y v u Q I μ α h;obtain⟨a,b,xs,ys,rfl,rfl,d,B,i,Z,n,G⟩:=h;cases μ;cases α;refine bo (I.tuple d) λS R j _=>?_;refine bo (I.tuple B) λits2 L p2 _=>?_;refine HT.cat_tup j p2 (λz=>i (R.nil_iff.mp z)) (λz=>⟨.ref a,H,I,rfl,n (L.nil_iff.mp z)⟩) (λz=>?_) (by rw[<- R.length,<- L.length];exact Z);refine⟨.ref 0e0,_,I.laid (λb O q=>Tr _ q) (Rx _) ?_,rfl,G (λw=>z (L.nil_iff.mpr w)) _ (I.hok.fresh (Rx _))⟩;exact⟨by simp_all,_,R.append L,iW.new _ _⟩
end
noncomputable def vk(n:ă)(i:Ć):Option ă:=if 0<=i then (if i<n then Ā i.toNat else Ă) else if -(n:Ć)<=i then Ā (i+n).toNat else Ă
def atI{Y:Type}(xs:List Y)(i:Ć):Option Y:=(vk xs.length i).bind λj=>xs[j]?
theorem rS{i:Ć}(h:vk n i=Ā j):YY i n=Ā j/\j<n/\-(n:Ć)<=i/\i<n:=by
 unfold vk at h;by_cases d:0<=i
 ·rw [RC d] at h;by_cases h1:i<n
  ·rw[RC h1]at h;exact⟨by rw[XV d h1,(Rp h)],by lia,by lia,h1⟩
  simp_all
 ·rw [RE d] at h;by_cases h1:-(n:Ć)<=i
  ·rw[RC h1]at h;exact⟨by rw[Ix (XA d) h1,(Rp h)],by lia,h1,by lia⟩
  simp_all
theorem se{Y:Type}{xs:List Y}{i:Ć}{v:Y}(h:atI xs i=Ā v):∃j,YY i xs.length=Ā j/\xs[j]?=Ā v/\j<xs.length/\-(xs.length:Ć)<=i/\i<xs.length:=by
 unfold atI at h;cases e:vk xs.length i with
 |none=>rw[e]at h;cases h
 |some j=>
  rw[e]at h;refine lB (rS e) λh1 h2 d n=>?_;exact⟨j,h1,h,h2,d,n⟩
theorem sd{Y:Type}{xs:List Y}{v:Y}(h:xs[j]?=Ā v):atI xs (j:Ć)=Ā v:=by
 have μ:j<xs.length:=(Se.mp h).1
 simp_all[vk,atI]
def ng(b:Expr):Prop:=∀o i,ZD b ć o i=operate [o,i] (è o i)
def Dx(X:Cx)(r:R2):Prop:=
 ∀(value slice:Expr)(pins:2e0)(s:Ą)(σ:St)(H:Hp)(x y:V)(v u:ā)(Q:VK),aO X pins σ H s->bA x v->bA y u->r x y H Q ->
  ZD slice ć v u=operate [v,u] (è v u)->Ċ 1e2 X.A (YR value slice v u) (EP X pins σ Q) X.xe s
def O2(X:Cx)(id:Ī)(r:(V->List V->Hp->VK->Prop)):Prop:=
 ∀(pins:2e0)(s:Ą)(σ:St)(H:Hp)(x:V)(xs:List V)(v:ā)(U:List ā)(Q:VK),aO X pins σ H s->bA x v->aX xs U->r x xs H Q ->
  Ċ 1e2 X.A (call (.builtin id) (v::U)) (EP X pins σ Q) X.xe s
section
variable{X:Cx}{a b:Expr}{tb:TE}
theorem Dx.or{r r':R2}(h:Dx X r)(h':Dx X r'):Dx X (λx y H Q=>r x y H Q\/r' x y H Q):=by
 intro value slice pins s σ H x y v u Q I R α q S;rcases q with q|q
 ·exact h value slice pins s σ H x y v u Q I R α q S
 ·exact h' value slice pins s σ H x y v u Q I R α q S
theorem AL{r:R2}(R:Dx X r)(d:PE X a ta)(B:PE X b tb)(hs:ng b):PE X (.Subscript a b pos) (Li r ta tb):=by
 intro pins s σ H Q I h;exact ZW (Hy d B I h λv u M x y H2 n i α q=>R a b pins M σ H2 x y v u Q n i α q (hs _ _))
noncomputable def Hn(K:W.Frag):R2:=λx y H Q=>∃p xs i v,x=.ref p/\y=.int i/\dZ K H p xs/\atI xs i=Ā v/\Q v H
noncomputable def LD(K:W.Frag):R2:=λx y H Q=>∃p xs i v,x=.ref p/\y=.int i/\eQ K H p xs/\atI xs i=Ā v/\Q v H
noncomputable def LF:R2:=λx y H Q=>∃z i c,x=.str z/\y=.int i/\z.length<=sizeLine/\atI z.cps.toList i=Ā c/\Q (.str ⟨#[c]⟩) H
theorem yh:Dx X (Hn X.K):=by
 intro value slice pins s σ H x y v u Q I Z D h B;obtain⟨p,xs,i,z,rfl,rfl,α,N,q⟩:=h;cases Z;obtain⟨t,rfl⟩:=D;obtain⟨S,r,L,F⟩:=I.list α;obtain⟨j,h1,h2,O,G,M⟩:=se N;obtain⟨w,W,R⟩:=r.get h2;have U:=r.length;have V:=nM;have n:EP X pins σ Q w s:=⟨z,H,I,R,q⟩;by_cases d:0<=i
 ·have μ:i.toNat=j:=by
   rw[XV d M]at h1;exact Rp h1
  exact item_listR L.isList d 0e1 (by rw[μ];simpa using W) n B
 ·have μ:(i+(S.toArray.size:Ć)).toNat=j:=by
   rw[Ix 0e1 G]at h1;rw[SJ,<- U];exact Rp h1
  exact Ui (x:=w) L.isList.typeIs P_.lookup
   (wpAny_getItem_list_neg (Q:=λr s'=>r=w/\EP X pins σ Q r s') L.isList 0e1 (by rw[SJ] <;> lia) 0e1 (by rw[μ];simpa using W) ⟨rfl,n⟩) B
theorem Kb:Dx X (LD X.K):=by
 intro value slice pins s σ H x y v u Q I G α h S;obtain⟨p,xs,i,z,rfl,rfl,d,n,q⟩:=h;cases G;obtain⟨t,rfl⟩:=α;refine bo (I.tuple d) λB r L D=>?_;obtain⟨j,h1,h2,μ,M,N⟩:=se n;refine bb (r.get h2) λw W R=>?_;have U:=r.length;have Z:=nM
 exact Ui L.typeIs slot_tuple_getitem.lookup
  (getItem_tuple (j:=j) L 0e1 0e1 (by simp_all) (by simpa using W) ⟨rfl,⟨z,H,I,R,q⟩⟩) S
theorem Kc:Dx X LF:=by
 intro value slice pins s σ H x y v u Q I R α h S;obtain⟨z,i,c,rfl,rfl,Z,B,q⟩:=h;obtain⟨t,rfl⟩:=R;obtain⟨μ,rfl⟩:=α;obtain⟨j,h1,h2,G,d,n⟩:=se B;rw[(show z.cps.toList.length=z.length by simp[ď.length])]at h1 d n;have N:=nM
 exact tail_any (ZQ s z t) slot_str_getitem.lookup (getItem_str (by
  lia) (by rw[h1];simpa using h2) ⟨.str ⟨#[c]⟩,H,I.tok _,⟨_,rfl⟩,q⟩) S
def QK(K:W.Frag):R2:=λx y H Q=>Hn K x y H Q\/LD K x y H Q\/LF x y H Q
theorem Kd:Dx X (QK X.K):=yh.or (Kb.or Kc)
theorem wy (its:List ā) (n j:ă) (u:ā):Ğ (·.setIfInBounds j u) {cls:=.type "list",data:=.seq its.toArray n}={cls:=.type "list",data:=.seq (its.set j u).toArray n}:=by
 simp[Ğ]
theorem aO.lst{p:Ĉ}{xs:List V}(I:0e4)(h:H p=Ā (.lst xs)):
  ∃(its:List ā) (n:ă),aX xs its/\s.heap.get? p=Ā {cls:=.type "list",data:=.seq its.toArray n}/\xs.length<=sizeLine:=by
 obtain⟨z,its,n,r,e⟩:=I.hok p _ h;exact⟨its,n,r,e,z⟩
theorem aO.lstUpd{p:Ĉ}{xs ys:List V}{its':List ā}{n':ă}{f:ħ->ħ}(I:0e4)(h:H p=Ā (.lst xs))(O:s.heap.get? p=Ā {cls:=.type "list",data:=.seq its.toArray n})(F:f {cls:=.type "list",data:=.seq its.toArray n}={cls:=.type "list",data:=.seq its'.toArray n'})(r:aX ys its')(hz:ys.length<=sizeLine)(t:ă):
  aO X pins σ (bz H p (.lst ys)) {s with heap:=s.heap.update p f,toks:=t}:=by
 have e:(s.heap.update p f).get? p=Ā {cls:=.type "list",data:=.seq its'.toArray n'}:=by
  rw[Uj f O (by rw[F] <;> rfl),F]
 refine I.write (by rw[h];trivial) (.inl rfl) (λb u B q=>(Uk _ _ (R7 B)).trans q) ⟨_,e⟩ ?_;exact⟨hz,its',n',r,e⟩
def GP:V->V->V->Hp->(Hp->Prop)->Prop:=λo i v H Q=>∃p xs k j,o=.ref p/\i=.int k/\H p=Ā (.lst xs)/\vk xs.length k=Ā j/\Q (bz H p (.lst (xs.set j v)))
theorem Ck:LU X GP:=by
 intro pins s σ H o i v D α u Q I ro R V h;obtain⟨p,xs,k,j,rfl,rfl,M,N,q⟩:=h;cases ro;obtain⟨t,rfl⟩:=R;refine aU (I.lst M) λS n r O Z=>?_;refine lB (rS N) λh1 h2 B G=>?_;have L:=r.length;have U:=nM
 have y:aO X pins σ (bz H p (.lst (xs.set j v))) {s with heap:=s.heap.update p (Ğ (·.setIfInBounds j u))}:=
  I.lstUpd M O (wy S n j u) (r.set V j) (by rw[List.length_set];exact Z) s.toks
 by_cases z:0<=k
 ·have d:k.toNat=j:=by
   rw[XV z G]at h1;exact Rp h1
  exact W.ki_setAt O z 0e1 (by rw[SJ,<- L];exact G) (by rw[d];exact⟨_,y,q⟩)
 ·have d:(k+(S.toArray.size:Ć)).toNat=j:=by
   rw[Ix 0e1 B]at h1;rw[SJ,<- L];exact Rp h1
  exact W.ki_setBack O 0e1 (by rw[SJ,<- L];exact B) 0e1 (by rw[d];exact⟨_,y,q⟩)
theorem sA(lo hi:Option Ć)(n:ă):(ů lo hi Ă n).1=((HT.sIx n 0 lo:ă):Ć)/\(ů lo hi Ă n).2.1=((HT.sIx n n hi:ă):Ć)/\(ů lo hi Ă n).2.2=1:=by
 refine⟨?_,?_,rfl⟩
 ·cases lo with
  |none=>rfl
  |some i=>
   simp[ů,HT.sIx,Option.getD_none,show (1:Ć)>0 by decide,T8];by_cases h:i<0
   ·simp only[h,T8] <;> lia
   ·simp[h,T7] <;> lia
 ·cases hi with
  |none=>rfl
  |some i=>
   simp[ů,HT.sIx,Option.getD_none,show (1:Ć)>0 by decide,T8];by_cases h:i<0
   ·simp only[h,T8] <;> lia
   ·simp[h,T7] <;> lia
theorem pM(its:List ā)(lo hi:Option Ć):slicePick its.toArray lo hi Ă=((its.drop (HT.sIx its.length 0 lo)).take (HT.sIx its.length its.length hi-HT.sIx its.length 0 lo)).toArray:=by
 refine gF (sA lo hi its.toArray.size) λh1 h2 d=>?_;unfold slicePick;rw[h1,h2,d];simp only[sliceRange_one,pick_run] <;> rfl
def LA(K:W.Frag):V->Option Ć->Option Ć->Hp->VK->Prop:=λx lo hi H Q=>∃a xs,x=.ref a/\dZ K H a xs/\∀p,H p=Ă->Q (.ref p) (bz H p (.lst (vC xs lo hi)))
theorem ED:DI X (LA X.K):=by
 intro pins s σ H x v V z lo hi y Q I R S L U h;refine aU h λa xs v15 i q=>?_;subst v15;cases R;refine bo (I.list i) λj r d Z=>?_;have n:=r.length;refine⟨"list",_,P_.lookup,d.isList.typeIs,?_⟩;refine wpAny_getItem_list_slice d.isList S L U .none 1e1 ?_ (by simp_all);rw[pM,<- n];refine⟨.ref 0e0,_,I.laid (λb O q=>Tr _ q) (Rx _) ?_,rfl,q _ (I.hok.fresh (Rx _))⟩;exact⟨RH (my xs lo hi) Z,_,0,(r.drop (HT.sIx xs.length 0 lo)).take (HT.sIx xs.length xs.length hi-HT.sIx xs.length 0 lo),SZ _ rfl⟩
noncomputable def iN:V->ċ
 |.non=>ą
 |.bl _=>ą
 |.int _=>ą
 |.str _=>ą
 |_=>ć
noncomputable def w4:V->V->ċ
 |.non,.non=>ą
 |.bl a,.bl b=>a == b
 |.bl a,.int b=>(if a then 1 else 0) == b
 |.int a,.bl b=>a == (if b then 1 else 0)
 |.int a,.int b=>a == b
 |.str a,.str b=>a == b
 |_,_=>ć
theorem KC{x:V}{v:ā}(α:bA y u)(R:bA x v)(d:iN y=ą)(F:iN x=ą):Ĵ A s u v (w4 y x):=by
 cases y with
 |non=>
  cases α;cases x with
  |non=>cases R;exact Ĵ.same _
  |bl b=>cases R;exact Ĵ.none_bool b
  |int b=>obtain⟨t,rfl⟩:=R;exact Ĵ.none_int b t
  |str b=>obtain⟨t,rfl⟩:=R;exact Ĵ.none_str b t
  |_=>exact absurd (show ć=ą from F) RF
 |bl a=>
  cases α;cases x with
  |non=>cases R;exact Ĵ.bool_none a
  |bl b=>cases R;exact Ĵ.bool_bool a b
  |int b=>obtain⟨t,rfl⟩:=R;exact Ĵ.bool_int a b t
  |str b=>obtain⟨t,rfl⟩:=R;exact Ĵ.bool_str a b t
  |_=>exact absurd (show ć=ą from F) RF
 |int a=>
  obtain⟨i,rfl⟩:=α;cases x with
  |non=>cases R;exact Ĵ.int_none a i
  |bl b=>cases R;exact Ĵ.int_bool a i b
  |int b=>obtain⟨t,rfl⟩:=R;exact Ĵ.int_int a i b t
  |str b=>obtain⟨t,rfl⟩:=R;exact ú a i b t
  |_=>exact absurd (show ć=ą from F) RF
 |str a=>
  obtain⟨i,rfl⟩:=α;cases x with
  |non=>cases R;exact Ĵ.str_none a i
  |bl b=>cases R;exact Ĵ.str_bool a i b
  |int b=>obtain⟨t,rfl⟩:=R;exact ù a i b t
  |str b=>obtain⟨t,rfl⟩:=R;exact Ĵ.str_str a i b t
  |_=>exact absurd (show ć=ą from F) RF
 |_=>exact absurd (show ć=ą from d) RF
def Hg(x:V)(u:ā):ċ:=match u with
 |.none=>w4 .non x
 |.bool b=>w4 (.bl b) x
 |.int i _=>w4 (.int i) x
 |.str z _=>w4 (.str z) x
 |_=>ć
theorem vQ{x:V}(r:bA y u)(f:iN y=ą):Hg x u=w4 y x:=by
 cases y with
 |non=>cases r;rfl
 |bl b=>cases r;rfl
 |int i=>obtain⟨t,rfl⟩:=r;rfl
 |str z=>obtain⟨t,rfl⟩:=r;rfl
 |_=>exact absurd (show ć=ą from f) RF
theorem nY{A:Đ}{s:Ą}{x:V}{v:ā}(R:bA x v)(F:iN x=ą):∀{xs:List V}{us:List ā},aX xs us->xs.all iN=ą->∀u∈us,Ĵ A s u v (Hg x u)
 |_,_,.nil,_=>λu U=>by cases U
 |y::xs,u::us,.cons r t,f=>λd U=>by
  rw[Ul,SE]at f;rcases Td.mp U with rfl|U
  ·rw[vQ r f.1];exact KC r R f.1 F
  ·exact nY R F t f.2 d U
theorem b8.or{f:ā}{r r':(List V->Hp->VK->Prop)}(h:b8 X f r)(h':b8 X f r'):b8 X f (λxs H Q=>r xs H Q\/r' xs H Q):=by
 intro pins s σ H xs U Q I R q;rcases q with q|q
 ·exact h pins s σ H xs U Q I R q
 ·exact h' pins s σ H xs U Q I R q
theorem pQ:b8 X (.type "tuple") (λxs H Q=>∃p ys,xs=[.ref p]/\((dZ X.K H p ys/\∀l,H l=Ă->Q (.ref l) (bz H l (.tup ys)))\/(eQ X.K H p ys/\Q (.ref p) H))):=by
 intro pins s σ H xs U Q I r h;obtain⟨p,ys,rfl,h⟩:=h;obtain⟨u,rfl,G⟩:=dU r;cases G;rcases h with⟨z,q⟩|⟨z,q⟩
 ·refine bo (I.list z) λi R L Z => ?_;have n:=R.length;refine call_tuple_list L.isList (λh' B=>?_) (by simp_all);have j:aO X pins σ H {s with heap:=h'}:=I.kept B
  have y:aO X pins σ (bz H h'.objs.size (.tup ys)) {s with heap:=h'.push {cls:=.type "tuple",data:=.seq i.toArray}}:=
   j.laid (λb o e=>Tr _ e) (Rx _) ⟨Z,i,R,iW.new _ _⟩
  exact⟨.ref h'.objs.size,_,y,rfl,q _ (j.hok.fresh (Rx _))⟩
 ·refine bo (I.tuple z) λi R L Z=>?_;exact call_tuple_same L ⟨.ref p,H,I,rfl,q⟩
def Oh(K:W.Frag)(T:Ī)(x:V)(H:Hp):Prop:=match x with
 |.str _=>T = "str"
 |.int _=>T = "int"
 |.ref p=>(T = "list" /\ ∃xs,dZ K H p xs)\/(T = "tuple" /\ ∃xs,eQ K H p xs) \/
   (T = "dict" /\ ((∃d,H p=Ā (.dK d))\/∃d,H p=Ā (.dT d)))\/(T = "set" /\ ∃S n,H p=Ā (.set S n))
 |_=>ł
theorem A4{T:Ī}{x:V}{v:ā}(I:0e4)(r:bA x v)(ty:Oh X.K T x H):
  s.TypeIs v T/\∀a,v=.ref a->∃ob,s.heap.get? a=Ā ob/\ob.dict=Ă:=by
 cases x with
 |str z=>
  obtain⟨t,rfl⟩:=r;cases ty;simp[ZQ]
 |int i=>
  obtain⟨t,rfl⟩:=r;cases ty;simp[û]
 |ref p=>
  cases r;rcases ty with⟨rfl,xs,G⟩|⟨rfl,xs,G⟩|⟨rfl,j⟩|⟨rfl,S,n,j⟩
  ·refine bo (I.list G) λq _ L _=>?_;refine⟨L.isList.typeIs,λa e=>?_⟩;cases e;refine aJ L λo n e c D _=>?_;exact⟨o,e,D⟩
  ·obtain⟨o,M,B,D⟩:∃o,s.heap.get? p=Ā o/\o.cls=.type "tuple" /\ o.dict=Ă:=by
    rcases G with h|⟨o,q,n,j,B,D,_⟩
    ·obtain⟨_,q,_,o,e,c,_,d⟩:=h.ok I.hok;exact⟨o,e,c,d⟩
    ·exact⟨o,I.kIn p o j,B,D⟩
   refine⟨⟨o,M,B⟩,λa e=>?_⟩
   simp_all
  ·have z:∃o,s.heap.get? p=Ā o/\o.ExactDict:=by
    rcases j with⟨μ,j⟩|⟨μ,j⟩
    ·obtain⟨_,_,_,_,o,_,_,e,ex,_⟩:=I.hok p _ j;exact⟨o,e,ex⟩
    ·obtain⟨_,_,_,_,o,_,_,e,ex,_⟩:=I.hok p _ j;exact⟨o,e,ex⟩
   refine bb z λo e ex=>?_;refine⟨⟨o,e,ex.1⟩,λa y=>?_⟩;cases y;exact⟨o,e,ex.2.1⟩
  ·obtain⟨o,_,_,_,e,ex,_⟩:=I.hok p _ j;refine⟨⟨o,e,ex.1⟩,λa y=>?_⟩;cases y;exact⟨o,e,ex.2.1⟩
 |_=>exact ę ty
def Px(K:W.Frag)(T:Ī)(r:(V->List V->Hp->VK->Prop))(to:TE):TE:=λσ H Q=>to σ H λx H1=>Oh K T x H1/\r x [] H1 Q
def Ra(K:W.Frag)(T:Ī)(r:(V->List V->Hp->VK->Prop))(to:TE)(t:TA):TE:=λσ H Q=>to σ H λx H1=>Oh K T x H1/\t σ H1 λxs H2=>r x xs H2 Q
variable{o:Expr}{es:4e1}{to:TE}{t:TA}{name:ď}{T id:Ī}{r:(V->List V->Hp->VK->Prop)}
theorem Jq (pa:ZX T) (slot:Zr T name id) (y:(Ô (.builtin id)=pure (.type "method_descriptor"))) (M:O2 X id r) (O:PE X o to)
  (hbase:autoParam (ĩ o name 1e4 (eval o 1e4)=eval o 1e4) ATr) (hline:autoParam ((apos.endLine == cpos.line)=ą) ATr):PE X (.Call (.Attribute o name apos) [] [] cpos) (Px X.K T r to):=by
 intro pins s σ H Q I h;refine wpAny_Call_method0_late hbase hline (cB (O pins s σ H _ I h) λv S=>jS λx H1 d R ty q=>?_);obtain⟨h1,h2⟩:=A4 d R ty;exact⟨T,id,pa,slot,y,h1,h2,Um rfl (PySem.evalArgs_none (M pins S σ H1 x [] v [] Q d R .nil q))⟩
theorem Nx (pa:ZX T) (slot:Zr T name id) (y:(Ô (.builtin id)=pure (.type "method_descriptor"))) (M:O2 X id r) (O:PE X o to) (i:PA X (e::es) t)
  (hbase:autoParam (ĩ o name 1e4 (eval o 1e4)=eval o 1e4) ATr)
  (W :autoParam (((Ħ cpos (ĉ (e :: es) 1e4)).all (λx => !x.1) && (Š cpos (ō [] 1e4)).all (λx => x.1.isSome)
   && decide ((e::es).length+([]:List ŋ).length+(if ([]:List ŋ).isEmpty then 0 else 1)<30))=ą) ATr)
  (hline:autoParam ((apos.endLine == cpos.line)=ą) ATr) (hs:(autoParam (ĉ (e::es) 1e4=(ć,eval e 1e4)::ĉ es 1e4) ATr)) (hplain:autoParam ((Ħ cpos (ĉ es 1e4)).any 4e2=ć) ATr) :
  PE X (.Call (.Attribute o name apos) (e::es) [] cpos) (Ra X.K T r to t):=by
 intro pins s σ H Q I h;refine Å hbase W hline rfl (cB (O pins s σ H _ I h) λv S=>jS λx H1 d R ty q=>?_);obtain⟨h1,h2⟩:=A4 d R ty;refine⟨T,id,pa,slot,y,h1,h2,?_⟩;have hA:=i cpos pins S σ H1 _ d q;rw[hs]at hA⊢;exact Um (by grind) (Û (cB hA λU j=>bD λV H2 n L G=>M pins j σ H2 x V v U Q n R L G))
end
def Hi(X:Cx)(id:Ī)(r:(V->List V->Hp->VK->Prop)):Prop:=
 ∀(pins:2e0)(s:Ą)(σ:St)(H:Hp)(x:V)(xs:List V)(v:ā)(U:List ā)(Q:VK),aO X pins σ H s->bA x v->aX xs U->r x xs H Q ->
  Ċ 1e2 X.A (call (.builtin id) (v::U)) (EP X pins σ Q) X.xe s
theorem aX.one:∀{x:V}{us:List ā},aX [x] us->∃u,us=[u]/\bA x u
 |_,_,.cons r .nil=>⟨_,rfl,r⟩
theorem aX.eraseIdx:∀{xs:List V}{us:List ā}(i:ă),aX xs us->aX (xs.eraseIdx i) (us.eraseIdx i)
 |_,_,_,.nil=>.nil
 |_,_,0,.cons _ t=>t
 |_,_,i+1,.cons r t=>.cons r (aX.eraseIdx i t)
theorem aX.rep{xs:List V}{us:List ā}(h:aX xs us):∀k:ă,aX (List.replicate k xs).flatten (List.replicate k us).flatten
 |0=>.nil
 |k+1=>by
  exact aX.append h (aX.rep h k)
theorem qz{Y:Type}:∀(l:List Y)(i:ă),(l.eraseIdx i).length<=l.length
 |[],_=>Rx _
 |_::_,0=>R6 _
 |_::r,i+1=>WP (qz r i)
theorem zG(its:List ā):∀(k:ă)(acc:List ā),
  List.foldl (λx1 x2=>x1++x2) acc.toArray (List.replicate k its.toArray)=(acc++(List.replicate k its).flatten).toArray:=by
 intro x;induction x <;> grind
section
variable{X:Cx}{l:Ĉ}{xs ys zs:List V}
theorem aO.lset{its':List ā}{f:ĕ ā->ĕ ā}(I:0e4)(hH:H l=Ā (.lst xs))(e:s.heap.get? l=Ā {cls:=.type "list",data:=.seq its.toArray n})(F:f its.toArray=its'.toArray)(V:aX ys its')(hz:ys.length<=sizeLine):
  aO X pins σ (bz H l (.lst ys)) {s with heap:=s.heap.update l (Ğ f),toks:=t'}:=by
 have q:=PySem.IsL.update e f;rw[F]at q;refine I.write (by rw[hH];exact trivial) (.inl rfl) (λd u B U=>(Uk 1e9 (Ğ f) (R7 B)).trans U) ⟨_,q⟩ ?_;exact⟨hz,its',_,V,q⟩
theorem aO.lnew(I:0e4)(V:aX ys its)(hz:ys.length<=sizeLine):
  aO X pins σ (bz H 0e0 (.lst ys)) {s with heap:=s.heap.push {cls:=.type "list",data:=.seq its.toArray},toks:=t'}:=
 I.laid (λ_ _ q=>Tr _ q) (Rx _) ⟨hz,its,0,V,SZ _ rfl⟩
theorem aO.fresh(I:0e4):H 0e0=Ă:=I.hok.fresh (Rx _)
theorem aO.lstM (I:0e4) (hH:H l=Ā (.lst xs)):xs.length<=sizeLine/\∃(its:List ā) (n:ă),aX xs its/\xs.length=its.length/\s.heap.get? l=Ā {cls:=.type "list",data:=.seq its.toArray n}:=by
 obtain⟨z,its,n,r,e⟩:=I.hok l _ hH;exact⟨z,its,n,r,r.length,e⟩
theorem uj(h:n<=sizeLine):Builtin.List.listTooLong n=ć:=by
 simp_all[Builtin.List.listTooLong]
end
section
variable{X:Cx}
def xW:V->List V->Hp->VK->Prop:=λx S H Q=>∃l xs y,x=.ref l/\S=[y]/\H l=Ā (.lst xs)/\xs.length<sizeLine/\Q .non (bz H l (.lst (xs++[y])))
theorem qy:Hi X "list.append" xW:=by
 intro pins s σ H x S v U Q I d V h;obtain⟨l,xs,y,rfl,rfl,hH,Z,q⟩:=h;cases d;obtain⟨u,rfl,R⟩:=V.one;obtain⟨z,i,n,r,L,e⟩:=I.lstM hH;refine Uo F.slot_list_append ⟨_,e,rfl⟩ F.entry_list_append (F.args_list_append_2 _ _) (PySem.list_append l i.toArray n u (by rw[SJ];exact RH (RI (R9 L)) z)) ⟨e,?_⟩;refine⟨.non,_,I.lset hH e 1e1 (r.append (.cons R .nil)) ?_,rfl,q⟩;rw[Uq,Ur];exact RP Z
def Bf:V->List V->Hp->VK->Prop:=λx S H Q=>∃l xs i k y,x=.ref l/\S=[.int i]/\H l=Ā (.lst xs)/\-(2^63)<=i/\i<2^63/\YY i xs.length=Ā k/\xs[k]?=Ā y/\Q y (bz H l (.lst (xs.eraseIdx k)))
theorem CU:Hi X "list.pop" Bf:=by
 intro pins s σ H x G v B Q I j V h;obtain⟨l,xs,i,k,y,rfl,rfl,hH,h1,h2,d,α,q⟩:=h;cases j;obtain⟨u,rfl,U⟩:=V.one;obtain⟨t,rfl⟩:=U;obtain⟨z,S,n,r,L,e⟩:=I.lstM hH;refine bb (r.get α) λw W R=>?_
 refine Uo F.slot_list_pop ⟨_,e,rfl⟩ F.entry_list_pop (F.args_list_pop_2 _ _)
  (MeetsSeq.list_pop_at l S.toArray n i t k w (YD h1 h2) (by rw[SJ,<- L];exact d) (by rw[<- Sh];exact W) (by rw[SJ];lia)) ⟨e,?_⟩
 refine⟨y,_,I.lset hH e ?_ (r.eraseIdx k) ?_,R,q⟩
 ·show S.toArray.eraseIdxIfInBounds k=(S.eraseIdx k).toArray;rw[List.eraseIdxIfInBounds_toArray]
 ·have:=qz xs k;exact RH this z
def LI:R2:=λx y H Q=>∃l b xs zs,x=.ref l/\y=.ref b/\H l=Ā (.lst xs)/\H b=Ā (.lst zs)/\xs.length+zs.length<=sizeLine/\∀p,H p=Ă->Q (.ref p) (bz H p (.lst (xs++zs)))
theorem JE:iw X (Ļ .Add) LI:=by
 intro pins s σ H x y v u Q I R α h;obtain⟨l,b,xs,zs,rfl,rfl,hH,hB,Z,q⟩:=h;cases R;cases α;obtain⟨z,i,n,r,B,e⟩:=I.lstM hH;obtain⟨G,its2,N,L,j,d⟩:=I.lstM hB;refine PySem.P.add_list e d ?_ (by simp_all);rw[(show i.toArray++its2.toArray=(i++its2).toArray by simp)];exact⟨.ref _,_,I.lnew (r.append L) (by simp_all),rfl,q _ I.fresh⟩
def LC:R2:=λx y H Q=>∃l k xs,x=.ref l/\y=.int k/\H l=Ā (.lst xs)/\-(2^63)<=k/\k<2^63/\xs.length*k.toNat<=sizeLine /\
 ∀p,H p=Ă->Q (.ref p) (bz H p (.lst (List.replicate k.toNat xs).flatten))
theorem Jw:iw X (Ļ .Mult) LC:=by
 intro pins s σ H x y v u Q I R α h;obtain⟨l,k,xs,rfl,rfl,hH,h1,h2,Z,q⟩:=h;cases R;obtain⟨t,rfl⟩:=α;obtain⟨z,i,n,r,L,e⟩:=I.lstM hH
 have d:¬ i.toArray.size*k.toNat>(2^63-1) / 8:=by
  grind [sizeLine]
 have j:¬ (!Builtin.List.listFitsIndex k)=ą:=by
  simp_all[YD]
 have hlong:¬ Builtin.List.listTooLong (i.toArray.size*k.toNat)=ą:=by
  simp_all[uj]
 have W:List.foldl (λB G=>B++G) #[] (List.replicate (if i.toArray.isEmpty=ą then 0 else k.toNat) i.toArray)=(List.replicate k.toNat i).flatten.toArray:=by
  have μ:∀m:ă,List.foldl (λB G=>B++G) #[] (List.replicate m i.toArray)=(List.replicate m i).flatten.toArray:=λm=>by
   simp[zG]
  rw[μ];cases i with
  |nil=>simp
  |cons a M=>rw[RE 1e1]
 refine wpAny_binaryOp_repeat_ref 0e3 ⟨_,e,rfl⟩ (λs'=>û s' k t) noFill_list_mul F.fills_int_mul F.slot_int_rmul repeat_list F.slot_int_index.lookup
  (Uo F.slot_int_rmul (û s k t) F.entry_int_rmul (F.args_int_rmul_2 _ _) (int___rmul___int_list k t l i.toArray n)
   ⟨e,rfl,⟨_,e,rfl⟩,Uo F.slot_list_mul ⟨_,e,rfl⟩ F.entry_list_mul (F.args_list_mul_2 _ _) (AutoListH.list___mul___list_int_3 l i.toArray n k t j d hlong) ⟨e,?_⟩⟩)
 rw[W];exact⟨.ref _,_,I.lnew (r.rep k.toNat) (by simp_all[Yq]),rfl,q _ I.fresh⟩
end
end _l
namespace Att
open PySem PySem.W PySem.Calls PyProof.Rows
theorem mS{P:ø}{h:Ĕ}:∀(ns:List Ć)(vs:List ā),WellAll P h vs (ns.map ZZ.int)->Ŗ vs ns:=by
 intro ns
 induction ns with
 |nil=>
  intro vs w;cases w;exact .nil
 |cons n ns i=>
  intro vs w;cases w with
  |cons a b=>
   cases a;exact .cons _ _ (i _ b)
theorem zc{l:Ze}(z:l.most=Ā n){P:ø}{h:Ĕ}{args:List ZZ}{vals:List ā}(i:l.row.toRowW.claim.pre args=ą)(q:WellAll P h vals args):
  ∃a vs ns,vals=[đ a]/\args=[ZZ.list (ns.map ZZ.int)]/\h.get? a=Ā {cls:=.type "list",data:=.seq vs.toArray}/\Ŗ vs ns/\ns.length<=n:=by
 refine aU (hasAllW_cons ((ZS i).1)) λd r v18 h1 h2=>?_;subst v18;obtain rfl:=hasAllW_nil h2;obtain⟨xs,rfl,y⟩:=hasW_list h1;obtain⟨ns,rfl⟩:=items_int y
 have N:ns.length<=n:=by
  have j:(WTm.not (.lt (.lit (.int (n:Ć))) (.len (.arg 0)))).holds [] {args:=[.list (ns.map .int)]}=ą:=by
   have j:=(holds_andW ((ZS i).2)).1;rw[z]at j;exact j
  have G:=condW_of j (w_not (w_lt w_lit (w_len_list (w_arg rfl))))
  simp_all
 cases q with
 |cons W B=>
  cases B;cases W with
  |list O L=>exact⟨_,_,ns,rfl,rfl,O,mS ns _ L,N⟩
theorem zf(l:Ze)(args:List ZZ):l.row.toRowW.claim.post args (.bool ą) args=ą:=
 postW_of
  (by rfl)
  (w_eq_bool (w_res rfl) w_lit) rfl
theorem attach_call{l:Ze}{q:č}{d:Zq}(U:l.most=Ā n)(F:d.params.defaults=[])(call : ∀ (w : ē) (s₀ s₁ : Ą) (mg mb : ď -> Option ā) (fa : Ĉ) (o : ħ) (pm cd doc : ā) (a : Ĉ) (vs : List ā) (ns : List Ć),
   Ground q loose [] XP w s₀ mg mb s₁.heap->YP w s₁.heap ->
   s₁.heap.get? fa=Ā o->o.data=.func (docDef d.name d.params d.body d.scope pm cd doc)->s₁.heap.CodeRec cd d.name->mg d.name=Ā (.ref fa) ->
   s₁.heap.get? a=Ā {cls:=.type "list",data:=.seq vs.toArray}->Ŗ vs ns->ns.length<=n->s₁.gens=#[] ->
   Ń (Č l.prog w) Fa (.call (.ref fa) ⟨[.ref a],[]⟩) (λr s'=>r=.ok (.ret (.bool ą))/\OldK s₁.heap s'.heap/\s'.os=s₁.os/\ţ s'.gens) s₁):
  WalkO q loose XP YP l.row.toRowW d [] (λf vs=>PySem.call f vs):=by
 intro w s₀ s₁ mg mb G α fa o pm cd doc dV kV Z μ D hD y M args vals W i z R L O;obtain rfl:dV=.none:=Dflts.none hD F;obtain rfl:kV=.none:=Dflts.noKw hD;obtain⟨a,vs,ns,rfl,rfl,j,hints,N⟩:=zc U i L;refine enter_call (TH (call w s₀ s₁ mg mb fa o pm cd doc a vs ns G α Z (fd_plain μ) D y j hints N M) λr s' V=>?_);refine lB V λv36 h2 B I=>?_;subst v36;exact⟨.inl ⟨.bool ą,.bool ą,[],rfl,λ_=>rfl,.bool ą,zf l _,λ_=>⟨List.Pairwise.nil,λ_ S=>(nomatch S)⟩⟩,h2,B,I⟩
end Att
namespace _l
open PySem PySem.Spec PyProof.Rows
theorem qg:∀{vs:List ā}{ns:List Ć},Ŗ vs ns->aX (ns.map V.int) vs
 |_,_,.nil=>.nil
 |_,_,.cons n t h=>.cons ⟨t,rfl⟩ (qg h)
def DU(H:Hp):Prop:=∀b,H b=Ă\/∃o xs,H b=Ā (.frz o (.lst xs))
theorem CZ{mb:3e6}{k:ă}{fa:Ĉ}{s₁:Ą}{vs:List ā}(KX:K.In s₁.heap)(S:s₁.heap.Ns Ĝ mg)(B:s₁.heap.Ns ý mb)(G:∀x:ď,x ≠ "__name__" -> mb x=Ġ x)(M:s₁.heap.NoLimit)(O:s₁.gens=#[])(y:s₁.heap.get? a=Ā {cls:=.type "list",data:=.seq vs.toArray})(hi:Ŗ vs ns)(N:ns.length<=sizeLine)(hr:cU k Fa)(F:∀base:Ĕ,K.In base->base.Ns Ĝ mg->ko P w K mg base CX k fa fd [x] sp)(hbind:∀(s:Ą)(u:ā),é s fd ⟨[u],[]⟩ [(x,u)])(μ:∀H:Hp,DU H->dZ K H a (ns.map V.int)->sp [.ref a] H (λv _=>v=.bl ą) λ_ _ _=>ł)(hCX:∀H e s',CX [] H s₁ (λ_ _ _=>ł) e s'->ł):
  Ń (Č P w) Fa (.call (.ref fa) ⟨[.ref a],[]⟩) (λr s'=>r=.ok (.ret (.bool ą))/\OldK s₁.heap s'.heap/\s'.os=s₁.os/\ţ s'.gens) s₁:=by
 have R:=qg hi;have lenV:=hi.length
 have core:∀H:Hp,DU H->dZ K H a (ns.map V.int)->lA P w H s₁.heap->(∀b,H b≠Ă->b=a)->(H a≠Ă->K.lookup a=Ă) ->
   Ń (Č P w) Fa (.call (.ref fa) ⟨[.ref a],[]⟩) (λr s'=>r=.ok (.ret (.bool ą))/\OldK s₁.heap s'.heap/\s'.os=s₁.os/\ţ s'.gens) s₁:=by
  intro H hO hS L hA hK;have base_of:∀{b:Ĉ}{o:ħ},s₁.heap.get? b=Ā o->H b=Ă->(vv s₁.heap H).get? b=Ā o:=λe n=>C6 e n
  have noA:∀{b:Ĉ}{o:ħ}{es:ĕ ê}{j:ă},s₁.heap.get? b=Ā o->o.data=.dict es j->H b=Ă:=λ{b o es j} e d=>by
   grind
  have nsK:∀{b:Ĉ}{m:3e6},s₁.heap.Ns b m->(vv s₁.heap H).Ns b m:=λ{b m}=>aR λo es j e d r=>⟨o,es,j,base_of e (noA e d),d,r⟩
  have hKb:K.In (vv s₁.heap H):=λb o e=>base_of (KX b o e) (by
   grind)
  refine TH ((F _ hKb (nsK S)).run Fa [] s₁ H ⟨[.ref a],[]⟩ [.ref a] [.ref a] _ _ hr ⟨rfl,⟨hKb,nsK S,⟨mb,nsK B,G⟩,let ⟨mc,h1,h2⟩:=M;⟨mc,nsK h1,h2⟩⟩,λb o e=>FJ e,RI (zD _ _),trivial,λb B=>absurd (show b∈([]:List Ĉ) from B) 1e1,L,.of_eq O⟩ (hbind s₁ (.ref a)) (.cons rfl .nil) (μ H hO hS)) λr s' h=>?_;cases r with
  |error e=>exact(hCX H e s' h).elim
  |ok D=>
   cases D with
   |next=>exact ę h
   |brk=>exact ę h
   |cont=>exact ę h
   |ret u=>
    obtain⟨v,H',os,bare,un,i,r',q⟩:=h;subst q;obtain rfl:u=Ŏ ą:=r';refine⟨rfl,OldK.of_keep λb o e=>?_,os,bare⟩;cases q:H b with
    |none=>exact un.keep b o e q (by intro z;exact absurd (show b∈([]:List Ĉ) from z) 1e1) 1e1
    |some u=>
     rcases hO b with z|⟨ob,xs,z⟩
     ·rw[q]at z;cases z
     ·have z2:=un.frzs b ob _ z;obtain⟨U,_⟩:=L b _ z;obtain⟨α,_⟩:=i b _ z2;exact RM α (RM (R9 U) e)
 cases I:K.lookup a with
 |some o=>
  have e:=KX a o I;rw[y]at e;cases e;refine core (λ_=>Ă) (λ_=>.inl rfl) (.inr ⟨_,vs.toArray,_,I,rfl,rfl,rfl,RH (RI lenV) N,by simpa using R⟩) (λb u z=>by lia) (λb z=>absurd rfl z) λz=>absurd rfl z
 |none=>
  refine core (λb=>if b=a then Ā (.frz {cls:=.type "list",data:=.seq vs.toArray} (.lst (ns.map V.int))) else Ă) (λb=>?_) (.inl (.inr ⟨{cls:=.type "list",data:=.seq vs.toArray},RC rfl⟩)) (λb u z=>?_) (λb z=>?_) λ_=>I
  ·by_cases B : b = a
   ·exact .inr ⟨_,_,RC B⟩
   ·exact .inl (RE B)
  ·by_cases B : b = a
   ·have Z:=(RC B).symm.trans z;cases Z;subst B;exact⟨y,by rw[Us];exact N,vs,_,R,y⟩
   ·have Z:=(RE B).symm.trans z;cases Z
  lia
theorem walk_of{l:W.OpenLaw}{k:ă}{q:č}{d:Zq}{K:ø->W.Frag}{CX:ē->sQ}{sp:ē->Sp}(L:l.most=Ā n)(z:n<=sizeLine)(i:d.params.defaults=[])(R:cU k Fa)(hY:∀(w:ē)(h:Ĕ),YP w h->(K w.params).In h)(F : ∀ (w : ē) (mg : ď -> Option ā) (fa : Ĉ) (h : Ĕ), (K w.params).In h -> h.Ns Ĝ mg -> mg d.name = Ā (.ref fa) ->
   ∃fd:ğ,(∀(s:Ą)(u:ā),é s fd ⟨[u],[]⟩ [(x,u)]) /\
    ∀base:Ĕ,(K w.params).In base->base.Ns Ĝ mg->ko l.prog w (K w.params) mg base (CX w) k fa fd [x] (sp w))(B:∀(w:ē)(H:Hp)(a:Ĉ)(ns:List Ć),ns.length<=n->DU H->dZ (K w.params) H a (ns.map V.int)->sp w [.ref a] H (λv _=>v=.bl ą) λ_ _ _=>ł)(hCX:∀(w:ē)(H:Hp)(s:Ą)(e:ā)(s':Ą),CX w [] H s (λ_ _ _=>ł) e s'->ł):
  W.WalkO q loose XP YP l.row.toRowW d [] (λf vs=>PySem.call f vs):=by
 refine Att.attach_call L i λw s₀ s₁ mg U fa o Z M doc a vs ns G α O S D y j hints N μ=>?_;have KX:=hY w _ α;refine bb (F w mg fa _ KX G.T.g y) λfd I hF=>?_;exact CZ KX G.T.g G.T.b G.T.builtins G.T.nolimit μ j hints (RH N z) R hF I (λH hO hS=>B w H a ns N hO hS) λH e s'=>hCX w H s₁ e s'
noncomputable abbrev sY:sQ:=λ_ _ _ _ _ _=>ł
noncomputable abbrev E0:XK:=λ_ _ _=>ł
theorem AM{X:Cx}:gZ sY X E0:=λ_ _ _ _ _ _ _ h=>h.elim
structure ke(K:W.Frag)(x qual:ď)(st:ĝ)(f:Ĉ)(fd:ğ):Prop where
 ex:∃(oc:ā)(od:Option Ĉ)(kV doc pm:ā)(an:Option Ĉ)(cdv ct:ā)(osl:ĕ (Option ā)),
  fd=W.fnOf x qual (cG st) (bt st) (aF st) .none kV doc pm an cdv ct/\K.lookup f=Ā ⟨oc,od,.func fd,osl⟩/\W.codeIn K cdv qual=ą
 kp:W.keepIn K (.ref f)=ą
section
theorem ke.ok{f:Ĉ}{ps:List ď}{k:ă}(F:(ke K x qual st f fd))(S:cH N ps (aF st))(len:(∀vs H Q E,sp vs H Q E->vs.length=ps.length))(hbody : ∀ (cdv : ā) (A : Đ) (outer : List Ŋ) (s : Ą) (H : Hp) (vs : List V) (Q : VK) (E : XK), cU k (A.deeper (Ŀ qual (aF st) 0e0 f cdv)) -> sp vs H Q E ->
   ∃t,ly (mI sY P w K mg base N qual (aF st) f cdv A outer s H E).nox (bt st) t/\t {nx:=λ_ H'=>Q .non H',rt:=Q} (start N vs) H):ko P w K mg base sY (k+1) f fd ps sp:=by
 obtain⟨O,i,kV,doc,Z,n,cdv,d,osl,rfl,L,D⟩:=F.ex;refine AO L D S len λA outer s H vs Q E R z=>?_;refine bb (hbody cdv A outer s H vs Q E R z) λt h q=>?_;exact⟨t,h.nox,q⟩
theorem ke.binds{f:Ĉ}{ps:List ď}(F:(ke K x qual st f fd))(h:∀(kV doc pm:ā)(an:Option Ĉ)(cdv ct:ā)(us:List ā),us.length=ps.length->Ŧ 1e6 ⟨us,[]⟩=pure (ps.zip us)):cW K fd ps []:=by
 obtain⟨O,d,kV,doc,pm,an,cdv,ct,osl,rfl,L,D⟩:=F.ex;exact .all (h kV doc pm an cdv ct)
theorem Bz{f:Ĉ}{oc:ā}{od:Option Ĉ}{kV doc pm ct:ā}(l:K.lookup f=Ā ⟨oc,od,.func 1e6,osl⟩)(c:W.codeIn K cdv qual=ą)(k:W.keepIn K (.ref f)=ą):ke K x qual st f 1e6:=⟨⟨oc,od,kV,doc,pm,an,cdv,ct,osl,rfl,l,c⟩,k⟩
end
theorem dE{x:ď}:∀{names:List (ď×Ō)}{k:Ō},names.lookup x=Ā k->(x,k)∈names
 |[],_,h=>by simp at h
 |(n,j)::r,k,h=>by
  rw[Ut]at h;cases d:x == n with
  |true=>
   rw[d]at h;cases h;rw[(eq_of_beq d)];exact Ta
  |false=>rw[d]at h;exact Tb _ (dE h)
theorem jb{env:Ŋ}{x:ď}:∀{names:List (ď×Ō)},
  (names.map λ(n, k) => if (k == Ņ && env.scope.kind == .function && env.kindOf n == Ā .cell) then (n, Ĩ) else (n, k)).lookup x =
   (names.lookup x).map λk=>if (k == Ņ&&env.scope.kind == .function&&env.kindOf x == Ā .cell) then Ĩ else k
 |[]=>rfl
 |(n,k)::r=>by
  have i:=jb (env:=env) (x:=x) (names:=r);show List.lookup x ((if (k == Ņ&&env.scope.kind == .function&&env.kindOf n == Ā .cell)=ą then (n,Ĩ) else (n,k))::_)=_;cases d:x == n with
  |true=>
   have e:=eq_of_beq d;subst e;by_cases C:(k == Ņ&&env.scope.kind == .function&&env.kindOf x == Ā .cell)=ą
   ·rw[RC C,Ut,Ut,d];show Ā Ĩ=Ā (if _ then _ else _);rw[RC C]
   ·rw[RE C,Ut,Ut,d];show Ā k=Ā (if _ then _ else _);rw[RE C]
  |false=>
   by_cases C:(k == Ņ&&env.scope.kind == .function&&env.kindOf n == Ā .cell)=ą
   ·rw[RC C,Ut,Ut,d];exact i
   ·rw[RE C,Ut,Ut,d];exact i
theorem j3{env:Ŋ}{f:ď×Ō->List (ď×Ĉ)->Ť (ŕ (List (ď×Ĉ)))}
  (a:∀n c acc,env.cells.lookup n=Ā c->f (n,.free) acc=pure (.yield ((n,c)::acc))) (b:∀n k acc,k≠.free->f (n,k) acc=pure (.yield acc)) :
  ∀(names:List (ď×Ō))(acc:List (ď×Ĉ)),(∀y∈names,y.2=.free->∃c,env.cells.lookup y.1=Ā c)->(∀x c,acc.lookup x=Ā c->env.cells.lookup x=Ā c) ->
   ∃cl,Zj names acc f=(pure cl:Ť (List (ď×Ĉ)))/\(∀x c,cl.lookup x=Ā c->env.cells.lookup x=Ā c)/\(∀x,(acc.lookup x).isSome=ą->(cl.lookup x).isSome=ą)/\(∀y∈names,y.2=.free->(cl.lookup y.1).isSome=ą)
 |[],acc,_,H=>⟨acc,rfl,H,λ_ h=>h,λy α=>by simp at α⟩
 |(n,k)::r,acc,N,H=>by
  by_cases K:k=.free
  ·subst K;obtain⟨c,C⟩:=N (n,.free) Ta rfl
   obtain⟨cl,E,m,o,e⟩:=j3 a b r ((n,c)::acc) (λy α=>N y (Tb _ α)) (λx d h=>by
    rw[Ut]at h;cases X:x == n with
    |true=>rw[X]at h;cases h;rw[eq_of_beq X];exact C
    |false=>rw[X]at h;exact H x d h)
   refine⟨cl,?_,m,λx h=>o x ?_,λy α F=>?_⟩
   ·rw[List.forIn_cons,a n c acc C];exact E
   ·rw[Ut];cases X:x == n <;> simp[h]
   ·rcases Td.mp α with z | z
    ·subst z;exact o n 1e1
    ·exact e y z F
  ·refine pW (j3 a b r acc (λy α => N y (Tb _ α)) H) λcl E m o e => ?_;refine⟨cl,?_,m,o,λy α F=>?_⟩
   ·rw[List.forIn_cons,b n k acc K];exact E
   ·rcases Td.mp α with z | z
    ·subst z;exact absurd F K
    ·exact e y z F
theorem vc{n:ď}{c:Ĉ}(h:env.cells.lookup n=Ā c):cellOf env n=pure c:=by
 unfold cellOf;rw[h]
noncomputable def xm(env:Ŋ)(x:ď×Ō)(r:List (ď×Ĉ)):Ť (ŕ (List (ď×Ĉ))):=
 match x with|(name,kind)=>if kind == .free then do let c <- cellOf env name;pure (.yield ((name,c)::r)) else pure (.yield r)
theorem wK(H:∀y∈scope.names,y.2=.free->∃c,env.cells.lookup y.1=Ā c):
  ∃cl,closureFor scope env=pure cl/\(∀x c,cl.lookup x=Ā c->env.cells.lookup x=Ā c)/\(∀y∈scope.names,y.2=.free->(cl.lookup y.1).isSome=ą):=by
 obtain⟨cl,E,m,_,e⟩:=j3 (f:=xm env)
  (λn c a h=>by simp_all[xm,vc])
  (λn k a h => by
   simp_all[xm]) scope.names [] H (λx c h=>by simp at h)
 refine⟨cl,?_,m,e⟩;show (Zj scope.names [] (xm env) >>= λs=>pure s)=pure cl;rw[E];rfl
noncomputable def fG(X:Cx)(Nc:List ď)(scope:ĺ)(c:List (ď×Ĉ))(C:Ĉ)(s:Ą)(H:Hp)(F:List Ĉ):Cx where
 prog:=X.prog
 w:=X.w
 K:=X.K
 mg:=X.mg
 base:=X.base
 A:=X.A
 N:=Nc
 s₀:=s
 H₀:=H
 env:=Y_ scope (Ģ (C+1) scope.names c) C 1e4
 outer:=X.stack
 stack:=X.stack
 ex:=F
 fn:=λx=>scope.names.lookup x == Ā .cell
 calm:=X.calm
 pn:=[]
 xe:=λ_ _=>ł
noncomputable def nG(cap:2e9)(σ:St):St:=cap.map λo=>o.bind λj=>(σ[j]?).join
noncomputable def fJ(N:List ď)(env:Ŋ)(scope:ĺ):List ď->List (Option ă)->ċ
 |[],[]=>ą
 |_::Nc,Ă::cap=>fJ N env scope Nc cap
 |x::Nc,Ā j::cap=>(N[j]? == Ā x)&&(scope.names.lookup x == Ā .free)&&fJ N env scope Nc cap
 |_,_=>ć
theorem lY{N:List ď}{env:Ŋ}{scope:ĺ}:∀{Nc:List ď}{cap:2e9},fJ N env scope Nc cap=ą->cap.length=Nc.length
 |[],[],_=>rfl
 |[],_::_,h=>by simp[fJ]at h
 |_::_,[],h=>by simp[fJ]at h
 |_::Nc,Ă::cap,h=>by rw[Uu,Uu,lY (cap:=cap) h]
 |x::Nc,Ā j::cap,h=>by
  rw[Uu,Uu,lY (by unfold fJ at h;simp at h;exact h.2)]
theorem oh{N:List ď}{env:Ŋ}{scope:ĺ}:∀{Nc:List ď}{cap:2e9}{i j:ă}{x:ď},fJ N env scope Nc cap=ą->cap[i]?=Ā (Ā j)->Nc[i]?=Ā x->N[j]?=Ā x/\scope.names.lookup x=Ā .free
 |[],_,_,_,_,_,_,e=>by simp at e
 |_::_,[],_,_,_,h,_,_=>by simp[fJ]at h
 |y::Nc,Ă::cap,0,j,x,h,e,_=>by simp at e
 |y::Nc,Ā k::cap,0,j,x,h,e,m=>by
  simp at e m;subst e;subst m;unfold fJ at h;lia
 |y::Nc,Ă::cap,i+1,j,x,h,e,m=>oh (cap:=cap) h (by simpa using e) (by simpa using m)
 |y::Nc,Ā k::cap,i+1,j,x,h,e,m=>by
  exact oh (by unfold fJ at h;simp at h;exact h.2) (by simpa using e) (by simpa using m)
structure bQ(N:List ď)(env:Ŋ)(scope:ĺ)(Nc:List ď)(cap:2e9):Prop where
 kind:scope.kind=.function
 nd:∀y∈scope.names,scope.names.lookup y.1=Ā y.2
 free:∀y∈scope.names,y.2=.free->env.kindOf y.1=Ā .cell\/env.kindOf y.1=Ā .free
 cap:fJ N env scope Nc cap=ą
theorem jy{n0:ă}{x:ď}{c:Ĉ}:∀{names:List (ď×Ō)}{cl:List (ď×Ĉ)}{n:ă},n0<=n->((x,Ĩ)∈names\/∃c',cl.lookup x=Ā c'/\n0<=c')->(Ģ n names cl).lookup x=Ā c->n0<=c
 |[],cl,n,_,h,e=>by
  rcases h with z|⟨c',a,Z⟩
  ·simp at z
  ·have f:cl.lookup x=Ā c:=e;rw[a]at f;cases f;exact Z
 |(y,k)::r,cl,n,H,h,e=>by
  unfold Ģ at e;split at e
  ·rename_i K;refine jy (RG H) ?_ e;cases d:x == y with
   |true=>exact .inr ⟨n,by rw[Ut,d],H⟩
   |false=>
    rcases h with z|⟨c',a,Z⟩
    ·rcases Td.mp z with q | q
     ·have:x=y:=Sd Prod.fst q;rw[this]at d;simp at d
     ·exact .inl q
    ·exact .inr ⟨c',by rw[Ut,d];exact a,Z⟩
  ·rename_i K;refine jy H ?_ e;rcases h with z|z
   ·rcases Td.mp z with q | q
    ·have:k=.cell:=(Sd Prod.snd q).symm;exact absurd (by rw[this];rfl) K
    ·exact .inl q
   ·exact .inr z
theorem gP{x:ď}:∀{names:List (ď×Ō)}{cl:List (ď×Ĉ)}{n:ă},(x,Ĩ)∉names->(Ģ n names cl).lookup x=cl.lookup x
 |[],cl,n,_=>rfl
 |(y,k)::r,cl,n,h=>by
  unfold Ģ;have H:(x,Ĩ)∉r:=λz=>h (Tb _ z);split
  ·rename_i K;rw[gP H,Ut];cases d:x == y with
   |true=>exact absurd (by rw[eq_of_beq d,(eq_of_beq K:k=.cell)];exact Ta) h
   |false=>rfl
  ·exact gP H
theorem lX{n0:ă}:∀{names:List (ď×Ō)}{cl:List (ď×Ĉ)}{n:ă},n0<=n->(∀x y c,cl.lookup x=Ā c->cl.lookup y=Ā c->n0<=c->x=y)->(∀x c,cl.lookup x=Ā c->c<n) ->
  ∀x y c,(Ģ n names cl).lookup x=Ā c->(Ģ n names cl).lookup y=Ā c->n0<=c->x=y
 |[],cl,n,_,h,_=>h
 |(z,k)::r,cl,n,H,h,B=>by
  unfold Ģ;split
  ·refine lX 0e1 (λx y c E m C => ?_) (λx c e => ?_)
   ·rw [Ut] at E m;cases d:x == z with
    |true=>
     cases α:y == z with
     |true=>rw[eq_of_beq d,eq_of_beq α]
     |false=>
      rw[d]at E;rw[α]at m;cases E;exact absurd (B y _ m) (S7 _)
    |false=>
     cases α:y == z with
     |true=>
      rw[d]at E;rw[α]at m;cases m;exact absurd (B x _ E) (S7 _)
     |false=>rw[d]at E;rw[α]at m;exact h x y c E m C
   ·rw [Ut] at e;cases d:x == z with
    |true=>rw[d]at e;cases e;exact Uv _
    |false=>rw[d]at e;exact Uw (B x c e)
  ·exact lX H h B
theorem i6{x:ď}{c:Ĉ}:∀{names:List (ď×Ō)}{cl:List (ď×Ĉ)}{h:Ĕ},(Ģ h.objs.size names cl).lookup x=Ā c->cl.lookup x=Ā c\/(Ya h names).IsCell c Ă
 |[],cl,h,e=>.inl e
 |(y,k)::r,cl,h,e=>by
  unfold Ģ at e;unfold Ya;split at e
  ·rename_i H;rw[RC H];have f:(Ģ (h.push {cls:=.type "cell",data:=.cell Ă}).objs.size r ((y,h.objs.size)::cl)).lookup x=Ā c:=by rw[Ux];exact e
   rcases i6 f with q|q
   ·rw [Ut] at q;cases d:x == y with
    |true=>
     rw[d]at q;cases q;exact .inr ⟨_,Uy _ _ _ _ (SZ _ rfl),rfl⟩
    |false=>rw[d]at q;exact .inl q
   ·exact .inr q
  ·rename_i H;rw[RE H];exact i6 e
theorem zC{X:Cx}{cap:2e9}(I:0e4)(K:∀b∈fp,km X pins H b)(w:∀b∈fp,b<s.heap.objs.size)(S:(bQ X.N 1e4 scope Nc cap))(h:∀x c,cl.lookup x=Ā c->X.env.cells.lookup x=Ā c)(L:∀y∈scope.names,y.2=.free->(cl.lookup y.1).isSome=ą)(hn:h'.Ns 0e0 (λ_=>Ă))(Q:∀b o,s.heap.get? b=Ā o->h'.get? b=Ā o)(α:∀x c,(Ģ (s.heap.objs.size+1) scope.names cl).lookup x=Ā c->cl.lookup x=Ā c\/h'.IsCell c Ă):
  aO (fG X Nc scope cl 0e0 s H fp) [] (nG cap σ) H {s with heap:=h',toks:=t'}:=by
 have G:∀x,(fG X Nc scope cl 0e0 s H fp).env.kindOf x=(scope.names.lookup x).map λk=>if (k == Ņ&&X.env.scope.kind == .function&&X.env.kindOf x == Ā .cell) then Ĩ else k:=λx=>jb
 have Z:∀x,((fG X Nc scope cl 0e0 s H fp).env.kindOf x=Ā .cell\/(fG X Nc scope cl 0e0 s H fp).env.kindOf x=Ā .free)->scope.names.lookup x=Ā .free\/scope.names.lookup x=Ā .cell:=λx d=>by
  rw[G]at d;cases e:scope.names.lookup x with
  |none=>rw[e]at d;rcases d with z|z <;> cases z
  |some k=>
   rw[e]at d;by_cases F:k=.free
   ·rw[F];exact .inl rfl
   ·have : (k == Ņ) = ć := by simpa using F
    simp only[this,ċ.false_and,Option.map_some]at d;rcases d with z|z
    ·have V : k = .cell := by simpa using z
     rw[V];exact .inr rfl
    ·have V : k = .free := by simpa using z
     exact absurd V F
 have n:∀x,scope.names.lookup x=Ā .free->∃c,cl.lookup x=Ā c:=λx e=>TN.mp (L (x,.free) (dE e) rfl)
 have B:∀x c,cl.lookup x=Ā c->c<s.heap.objs.size:=λx c e=>by
  obtain⟨v,q⟩:=I.cell x c (h x c e);exact q.lt
 have hcell:∀x c,(Ģ (s.heap.objs.size+1) scope.names cl).lookup x=Ā c->(cl.lookup x=Ā c/\c<s.heap.objs.size)\/(s.heap.objs.size+1<=c/\h'.IsCell c Ă):=λx c e=>by
  by_cases M:(x,Ĩ)∈scope.names
  ·have h1 := jy (Rx _) (.inl M) e;rcases α x c e with z|z
   ·have:=B x c z;exact absurd (Ry (Uw this) h1) (S7 _)
   ·exact .inr ⟨h1,z⟩
  ·rw[gP M]at e;exact .inl ⟨e,B x c e⟩
 have μ:∀x y c,(Ģ (s.heap.objs.size+1) scope.names cl).lookup x=Ā c->(Ģ (s.heap.objs.size+1) scope.names cl).lookup y=Ā c->x=y:=λx y c t E=>by
  rcases hcell x c t with⟨f,a⟩|⟨f,a⟩
  ·rcases hcell y c E with ⟨b1, b2⟩ | ⟨b1, b2⟩
   ·exact I.ok.inj x y c (h x c f) (h y c b1)
   ·exact absurd (Ry (Uw a) b1) (S7 _)
  ·exact lX (Rx _) (λx y c q _ C=>absurd (Ry (Uw (B x c q)) C) (S7 _)) (λx c q=>Uw (B x c q)) x y c t E f
 refine⟨⟨I.ok.mod,S.kind,I.ok.glob,I.ok.blt,Rx _,λx y c t E=>μ x y c t E,λx d=>?_,λx c e E=>?_,I.ok.hd,I.ok.frames,.inl rfl,
  λb g=>⟨Sn (w b g),λx c e=>?_⟩,I.bs,RH I.ok.bsz I.sz,λb o e g=>?_,λb g z=>?_,I.stack,I.stkFree⟩,
  rfl,I.bare,Un.kept Q,⟨_,hn,λi x v t E e3=>?_⟩,λx c e=>?_,I.hok.fresh (Rx _),λx c e=>?_,λp hp=>absurd (show p∈([]:List (Ĉ×ħ)) from hp) 1e1,I.hok.kept Q,?_⟩
 ·rcases Z x d with q | q
  ·by_cases M : (x, Ĩ) ∈ scope.names
   ·rcases TN.mp (W.cellsFrom_some scope.names (0e0 + 1) cl (.inl (S.nd (x, .cell) M))) with ⟨c, e⟩
    exact⟨c,e⟩
   ·obtain⟨c,e⟩:=n x q;exact⟨c,(gP M).trans e⟩
  ·obtain⟨c,e⟩:=TN.mp (W.cellsFrom_some scope.names (s.heap.objs.size+1) cl (.inl q));exact⟨c,e⟩
 ·have M:(x,Ĩ)∈scope.names:=dE (eq_of_beq (show (scope.names.lookup x == Ā .cell)=ą from e));exact RK (jy (Rx _) (.inl M) E)
 ·rcases hcell x c e with ⟨f, a⟩ | ⟨f, a⟩
  ·exact(K b g).2.2.2.2.1 x c (h x c f)
  ·exact λz=>absurd (Ry (Uw (w b g)) (by rw[<- z];exact f)) (S7 _)
 ·rcases (K b g).2.2.2.1 with z | z
  ·exact I.ok.noex b o e z
  ·exact absurd (Ry (Ry (S0 e) I.ok.bsz) z) (S7 _)
 ·rcases Td.mp (I.stkSub b z) with q | q
  ·exact(K b g).2.1 q
  ·exact(K b g).2.2.1 q
 ·have T:∃j,cap[i]?=Ā (Ā j)/\σ[j]?=Ā (Ā v):=by
   unfold nG at E;rw[SS]at E;cases C:cap[i]? with
   |none=>rw[C]at E;cases E
   |some o=>
    rw[C]at E;cases o with
    |none=>cases E
    |some j=>
     refine⟨j,rfl,?_⟩;simp only[Option.map_some,Option.bind_some]at E;cases P:σ[j]? with
     |none=>rw[P]at E;cases E
     |some q=>
      rw[P]at E;simp only[Option.join_some]at E;rw[Rp E]
  obtain⟨j,P,hv⟩:=T;obtain⟨hN,d⟩:=oh S.cap P t;have A:=S.free (x,.free) (dE d) rfl;obtain⟨m,M,hl⟩:=I.loc;obtain⟨u,r,l⟩:=hl j x v hN hv (A.elim (λz=>.inr (.inl z)) (λz=>.inr (.inr z)));refine⟨u,r,.inr ⟨?_,?_⟩⟩
  ·rw [G, d];show Ā (if _ then _ else _)=_\/Ā (if _ then _ else _)=_;by_cases C:(Ņ == Ņ&&X.env.scope.kind == .function&&X.env.kindOf x == Ā .cell)=ą
   ·rw[RC C];exact .inl rfl
   ·rw[RE C];exact .inr rfl
  ·obtain ⟨c, R⟩ := n x d
   have M:(x,Ĩ)∉scope.names:=λz=>by
    have:=S.nd (x,.cell) z;rw[d]at this;cases this
   refine⟨c,(gP M).trans R,?_⟩;rcases l with⟨k,_⟩|⟨k,c',U,z⟩
   ·rcases A with q|q <;> (rw[k]at q;cases q)
   ·have q:=h x c R;rw[U]at q;cases q;obtain⟨o,O,D⟩:=z;exact⟨o,Q _ o O,D⟩
 ·rcases hcell x c e with ⟨f, a⟩ | ⟨f, a⟩
  ·obtain⟨v,o,O,D⟩:=I.cell x c (h x c f);exact⟨v,o,Q _ o O,D⟩
  ·exact⟨Ă,a⟩
 ·rcases hcell x c e with ⟨f, a⟩ | ⟨f, a⟩
  ·exact I.freeC x c (h x c f)
  ·exact I.hok.fresh (RK f)
 ·show (cap.map _).length=Nc.length;rw[Us,lY S.cap]
abbrev sW:ā->Ą->Prop:=λ_ _=>ł
noncomputable def rC(i:4e1)(env:Ŋ):Ť ċ:=Zj i ą λc r=>if r=ą then do let ok <- isTrue c env (eval c env);pure (Æ ok) else pure (Æ r)
def vh(X:Cx)(i:4e1)(t:TT):Prop:=
 ∀(p:2e0)(s:Ą)(a:St)(H:Hp)(Q:ċ->Hp->Prop),aO X p a H s->t a H Q->Ċ 1e2 X.A (rC i 1e4) (TP X p a Q) X.xe s
noncomputable def MF:TT:=λ_ H Q=>Q ą H
theorem E5{X:Cx}:vh X [] MF:=λ_ _ _ H _ I h=>SD ⟨H,I,h⟩
theorem E4{X:Cx}{c:Expr}{t:TT}(h:PT X c t):vh X [c] t:=λp s a H Q I q=>wpAny_tests_one (h p s a H Q I q)
noncomputable def KE(e:Expr)(acc:ā)(env:Ŋ):Ť ŏ:=match e with
 |.ListComp elt _ _ _=>do let _ <- call (.builtin "list.append") [acc,<- eval elt env]
 |.SetComp elt _ _ _=>do let v <- eval elt env;æ elt.pos;let _ <- call (.builtin "set.add") [acc,v]
 |_=>unsupported "internal:not-a-comprehension"
noncomputable def jW:Expr->ċ
 |.ListComp ..=>ą
 |.SetComp ..=>ą
 |_=>ć
def ky(M:ų)(A:Đ)(e:Expr)(k:ă)(acc:ā)(env:Ŋ)(C:Ą->Prop)(E:(ā->Ą->Prop))(s:Ą):Prop:=match (ļ e)[k]? with
 |some g=>Ċ M A (eval g.iter env) (λx S=>Ċ M A (Ė g.iter env x) (λx a=>Ċ M A (ű x) (λi N=>
   Ń M A (.compStart e k i acc env) (λr b=>(∃f,r=.ok f)/\C b) N) E a) E S) E s
 |none=>Ċ M A (KE e acc env) (λ_ S=>C S) E s
theorem uU{M:ų}{k:ă}{acc:ā}{C C':Ą->Prop}(hC:∀s,C s->C' s)(h:ky M A e k acc env C sW s):ky M A e k acc env C' E s:=by
 unfold ky at h⊢;split at h
 ·exact SA h (λ_ _ h=>SA h (λ_ _ h=>SA h (λ_ _ h=>TH h λ_ _ h=>⟨h.1,hC _ h.2⟩) λ_ _ z=>z.elim) λ_ _ z=>z.elim) λ_ _ z=>z.elim
 ·exact SA h (λ_ _ h=>hC _ h) λ_ _ z=>z.elim
theorem D8{M:ų}{d:ă}{g:Ě}{it acc:ā}{Q:Fin->Ą->Prop}(n:jW e=ą)(hz:(∀g∈ļ e,g.is_async=0))(N:(ļ e)[d]?=Ā g)(h : Ċ M A (Ż it) (λr s₁ => match r with
   |none=>Q (.done .next) s₁
   |some v=>Ċ M A (š g.target it v) (λ_ s₁'=>Ċ M A (Ŝ g.target env v) (λ_ s₂=>Ċ M A (rC g.ifs env) (λok s₃=>
     if ok=ą then ky M A e (d+1) acc env (λs₄=>Ċ M A (again (.compLoop e d it acc env)) Q E s₄) E s₃ else Ċ M A (again (.compLoop e d it acc env)) Q E s₃) E s₂) E s₁') E s₁) E s):
  Ċ M A (α9 e d it acc env) Q E s:=by
 have b:=hz g (T1 N);have c:∀G,(ļ e)[d+1]?=Ā G->G.is_async=0:=λG h=>hz G (T1 h);unfold α9
 cases e <;> first
  |exact absurd (show ć=ą from n) RF
  | (rename_i elt gens S pos
     have a:gens[d]?=Ā g:=N;have H:∀G,gens[d+1]?=Ā G->G.is_async=0:=c;dsimp only;rw[a];dsimp only;rw[b];refine Tn (Tp ?_);show Ċ M A (Ż it >>= _) Q E s;refine Tn (SA h (λr s₁ h₁=>?_) λ_ _ z=>z);cases r with
     |none=>exact SD h₁
     |some v=>
      refine Tn (SA h₁ (λ_ s₁' h₁'=>?_) λ_ _ z=>z);refine Tn (SA h₁' (λ_ s₂ h₂=>?_) λ_ _ z=>z);refine Tn (SA h₂ (λok s₃ h₃=>?_) λ_ _ z=>z);cases ok with
      |false=>exact h₃
      |true=>
       simp only[T8]at h₃⊢;unfold ky at h₃;dsimp only[ļ]at h₃;cases m:gens[d+1]? with
       |none=>
        rw[m]at h₃;exact Tn h₃
       |some G=>
        rw[m]at h₃;have o:=H G m;simp only[o];refine Tn (SA h₃ (λx s₄ h₄=>?_) λ_ _ z=>z);refine Tn (Tp ?_);show Ċ M A (Ė G.iter env x >>= _) Q E s₄;refine Tn (SA h₄ (λx s₅ h₅=>?_) λ_ _ z=>z);refine Tn (To ?_);show Ċ M A (ű x) _ E s₅;refine SA h₅ (λi s₆ h₆=>?_) λ_ _ z=>z;refine Tn (wpAny_runOwn (TH h₆ λr s₇ h₇=>?_));obtain⟨⟨f,rfl⟩,C⟩:=h₇
        exact C)
section
variable{R:Ų->Ą->Prop}
theorem qi{k:ă}{g:Ě}{it acc:ā}(n:jW e=ą)(hz:(∀g∈ļ e,g.is_async=0))(N:(ļ e)[k]?=Ā g)(a:Ń 0e7 A (.compLoop e k it acc env) R s)(h:Ċ 0e7 A (ű it) (λit' s'=>Ń 0e7 A (.compLoop e k it' acc env) R s') sW s):
  Ń 0e7 A (.compStart e k it acc env) R s:=by
 have b:=hz g (T1 N)
 cases e <;> first
  |exact absurd n RF
  | (refine Uz ?_
     refine wpAny_notedAt ?_;unfold compStart;rw[N,(show ((Ā g).elim ć λx=>x.is_async != 0)=ć by simp_all)];refine Tn (UA (wpAny_ite ?_));split
     ·exact SD (And.intro rfl a)
     ·exact Tn (Sw (Tn (Tp (Tn (SA h (λit' s' H=>SD (And.intro rfl H)) λ_ _ z=>z.elim))))))
theorem zu{d:ă}{g:Ě}{it acc:ā}(H:jW e=ą)(hz:(∀g∈ļ e,g.is_async=0))(N:(ļ e)[d]?=Ā g)(I:ă->Ą->Prop)(turn : ∀ n s, I n s -> Ċ 0e7 A (Ż it) (λr s₁ => match r with
   |none=>R (.ok .next) s₁
   |some v=>Ċ 0e7 A (š g.target it v) (λ_ s₁'=>Ċ 0e7 A (Ŝ g.target env v) (λ_ s₂=>
     Ċ 0e7 A (rC g.ifs env) (λok s₃=>
      if ok=ą then ky 0e7 A e (d+1) acc env (λs₅=>∃m,m<n/\I m s₅) sW s₃
      else ∃m,m<n/\I m s₃) sW s₂) sW s₁') sW s₁) sW s)(n:ă)(h:I n s):Ń 0e7 A (.compLoop e d it acc env) R s:=by
 refine codeAny_loop (by rfl) I (λn s hI=>?_) n h
 cases e <;> first
  |exact absurd H RF
  | (show Ċ _ A ((α9 _ d it acc env).onRaise (λx => do Ŷ x env; theTreesLotGoes x)) _ _ s
     refine wpAny_noted (D8 H hz N (SA (turn n s hI) (λr s₁ h₁=>?_) λ_ _ z=>z.elim));cases r with
     |none=>exact h₁
     |some v=>
      refine SA h₁ (λ_ s₂ h₂=>SA h₂ (λ_ s₃ h₃=>SA h₃ (λok s₄ h₄=>?_) λ_ _ z=>z.elim) λ_ _ z=>z.elim) λ_ _ z=>z.elim;cases ok with
      |false=>exact SD ⟨rfl,h₄⟩
      |true=>
       exact uU (λs₅ h₅=>SD ⟨rfl,h₅⟩) h₄)
end
abbrev Dv:=St->Hp->(St->Hp->Prop)->Prop
def Ac(X:Cx)(e:Expr)(k:ă)(acc:Ĉ)(t:Dv):Prop:=
 ∀(p:2e0)(s:Ą)(c:St)(H:Hp)(N:St->Hp->Prop),aO X p c H s->t c H N->ky 1e2 X.A e k (.ref acc) 1e4 (λS=>∃a b,aO X p a b S/\N a b) sW s
def Ol(μ:It)(g:TG)(tt:TT)(tb:Dv)(N:St->Hp->Prop)(σ:St)(H:Hp):Prop:=∃W:ă->ă->St->Hp->Prop,(∃m,W 0 m σ H)/\∀i m a H,W i m a H ->
 (μ.stop i H/\N a H)\/(μ.go i H/\∃h:St->Hp->Prop,(∀f c,h f c->∃y,y<m/\W (i+1) y f c)/\∀x c,μ.yld i H x c->g x a c λj l=>tt j l λb k=>if b=ą then tb j k h else h j k)
section
variable{X:Cx}{d:ă}{cl:Ě}{g:TG}{tt:TT}{tb:Dv}
theorem mB{μ:It}{tn:ă->Ĕ->Prop}{N:St->Hp->Prop}(he:jW e=ą)(hz:(∀g∈ļ e,g.is_async=0))(hg:(ļ e)[d]?=Ā cl)(E:X.xe=sW)(L:X.calm=ą)(T:vE X.prog X.w X.K cl.target μ fp it tn)(C:PG X cl.target g)(t:vh X cl.ifs tt)(B:Ac X e (d+1) acc tb)(I:0e4)(st:tn 0 1e9)(G:∀b∈fp,km X pins H b)(h:Ol μ g tt tb N σ H):
  Ń 1e2 X.A (.compLoop e d (.ref it) (.ref acc) 1e4) (λr s'=>r=.ok .next/\∃σ' H',aO X pins σ' H' s'/\N σ' H') s:=by
 refine bb h λW v2 turn=>?_;obtain⟨m0,w0⟩:=v2;have stat:∀{H':Hp},(∀b∈fp,H' b=Ă)->∀b∈fp,km X pins H' b:=λhn b B=>⟨hn b B,(G b B).2⟩;refine zu he hz hg (λn s'=>∃i σ' H',aO X pins σ' H' s'/\tn i s'.heap/\(∀b∈fp,H' b=Ă)/\W i n σ' H') ?_ m0 ⟨0,_,_,I,st,λb B=>(G b B).1,w0⟩
 rintro n M ⟨i,a,k,y,c,fr5,w5⟩
 rcases turn i n a k w5 with⟨stop,qn⟩|⟨go,N',hN,step⟩
 ·refine cB (T.done X rfl rfl rfl L i pins M a k sW y (stat fr5) c stop) λr s6=>zA λp D=>?_;subst p;exact⟨rfl,_,_,D,qn⟩
 ·refine cB (T.item X rfl rfl rfl L i pins M a k sW y (stat fr5) c go) λr s6 => z7 λu p h6 => ?_;subst p;refine cB h6 λ_ O=>xp λx v V r7 y7 S F=>?_;have l:=V.pinned (stat F) (T.obj _ _ S);have Z:=C _ O a v x u _ l r7 (step x v y7);rw[E]at Z;refine cB Z λ_ s8=>DL λf Q I8 q8=>?_;have P:=t _ s8 f Q _ I8 q8;rw[E]at P;refine cB P λb s9=>z7 λU z q=>?_
  have again:∀{σa:St}{Ha:Hp}{j:Ą},aO X (pins++nK fp O.heap) σa Ha j->N' σa Ha->∃m,m<n/\∃i σ' H',aO X pins σ' H' j/\tn i j.heap/\(∀b∈fp,H' b=Ă)/\W i m σ' H':=λ{σa Ha j} Ia na=>by
   refine bb (hN σa Ha na) λm' hm wa=>?_;refine⟨m',hm,i+1,σa,Ha,Ia.unpinned,T.keep _ _ _ S λb B o e=>(Ia.pin (b,o) (Tu _ (Tu _ (hX B e)))).1,λb B=>?_,wa⟩;refine bb (T.obj _ _ S b B) λo e d=>?_;exact(Ia.pin (b,o) (Tu _ (Tu _ (hX B e)))).2.1
  cases b with
  |false=>
   rw[RE RF]at q⊢;exact again z q
  |true=>
   rw[RC rfl]at q⊢;exact uU (λs'=>DL λσ' H' α n'=>again α n') (B _ s9 f U _ z q)
noncomputable def A5(wi:TI)(g:TG)(tt:TT)(tb:Dv):Dv:=λa H N=>wi a H λμ b=>Ol μ g tt tb N a b
theorem zj{wi:TI}(n:jW e=ą)(hz:(∀g∈ļ e,g.is_async=0))(G:(ļ e)[d]?=Ā cl)(E:X.xe=sW)(i:X.calm=ą)(j:PI X cl.target cl.iter wi)(C:PG X cl.target g)(t:vh X cl.ifs tt)(B:Ac X e (d+1) acc tb)
  (hs:∀x,Ė cl.iter 1e4 x=pure x):Ac X e d acc (A5 wi g tt tb):=by
 intro p s k H N I h;unfold ky;rw[G];have z:=j p s k H _ I h;rw[E]at z;refine cB z λv o a=>UB (hs v) (cB a λitv M c=>?_);obtain⟨m,F,q,μ,l,f,b,T,V,O,D⟩:=c;subst f;have loop:=mB n hz G E i T C t B b V O D;exact qi n hz G (TH loop λr S ⟨a,c⟩=>⟨⟨_,a⟩,c⟩) (T.self _ 0 _ _ _ V (TH loop λr S ⟨a,c⟩=>⟨⟨_,a⟩,c⟩))
def AD(te:TE)(acc:Ĉ):Dv:=λb H N=>te b H λy a=>∃α,a acc=Ā (.lst α)/\α.length<sizeLine/\N b (bz a acc (.lst (α++[y])))
theorem nX(G:gens[d]?=Ă)(E:X.xe=sW)(l:PE X elt te):Ac X (.ListComp elt gens scope pos) d acc (AD te acc):=by
 intro p s a H N I h;unfold ky;show (match gens[d]? with|some g=>_|none=>_:Prop);rw[G];show Ċ _ _ (do let _ <- call (.builtin "list.append") [.ref acc,<- eval elt 1e4]) _ _ _;have z:=l p s a H _ I h;rw[E]at z;refine Tn (cB z λv10 s10 ⟨y,H10,I10,r10,S,α,c,n⟩=>?_);have Z:=qy (X:=X) p s10 a H10 (.ref acc) [y] (.ref acc) [v10] (λ_ b=>N a b) I10 rfl (.cons r10 .nil) ⟨_,S,y,rfl,rfl,α,c,n⟩;rw[E]at Z;exact Tn (cB Z λv11 s11=>bD λf H11 I11 r11 n11=>SD ⟨_,_,I11,n11⟩)
end
theorem Da{M:ų}{Q:Ŋ->Ą->Prop}(hQ : ∀ h', h'.Ns 0e0 (λ_ => Ă) -> (∀ b o, s.heap.get? b = Ā o -> h'.get? b = Ā o) -> (∀ x c, (Ģ (0e0 + 1) scope.names cl).lookup x = Ā c -> cl.lookup x = Ā c \/ h'.IsCell c Ă) ->
   ∀cenv:Ŋ,({cenv with scope:=relabel scope env}:Ŋ)=Y_ scope (Ģ (s.heap.objs.size+1) scope.names cl) 0e0 env->cenv.locals=s.heap.objs.size->Q cenv {s with heap:=h'}):
  Ċ M A (YB scope env.globals cl [] env.qual Ă .none (Ā env)) Q E s:=by
 simp only[YB,Option.isSome_some,T8];refine Tn (ZC ?_);refine Tn (wpAny_layCells _ (λname kind cells=>by cases h:kind == Ĩ <;> rfl) _ _ _ _ ?_);have z:(s.heap.push {cls:=.type "dict",data:=.dict #[]}).objs.size=s.heap.objs.size+1:=Ux ..;refine Tn (SD (SD ?_));show Q _ {s with heap:=Ya (s.heap.push {cls:=.type "dict",data:=.dict #[]}) scope.names};refine hQ _ ((Ĕ.Ns.new 1e9 (.type "dict")).keeps (Uy _ _)) (λb o e=>Uy _ _ b o (Tr _ e)) (λx c e=>?_) _ ?_ rfl
 all_goals simp_all[i6,Y_]
def nH(o0:Ĉ->HO)(wi:TI)(cap:2e9)(g:TG)(tt:TT)(tb:Ĉ->Dv):TE:=λa H Q=>wi a H λμ b=>∀acc,b acc=Ă->Ol μ g tt (tb acc) (λ_ c=>Q (.ref acc) c) (nG cap a) (bz b acc (o0 acc))
def AE(wi:TI)(cap:2e9)(g:TG)(tt:TT)(te:TE):TE:=nH (λ_=>.lst []) wi cap g tt (AD te)
def QS(X:Cx)(newAcc:Ť ā)(o0:Ĉ->HO):Prop:=∀(p:2e0)(s:Ą)(a:St)(H:Hp)(Q:(ā->Ą->Prop)),aO X p a H s ->
 (∀S,aO X p a (bz H 0e0 (o0 0e0)) S->(∀b o,s.heap.get? b=Ā o->S.heap.get? b=Ā o)->s.heap.objs.size<S.heap.objs.size->Q (.ref 0e0) S)->Ċ 1e2 X.A newAcc Q X.xe s
theorem ur{X:Cx}:QS X (newList []) (λ_=>.lst []):=λp s a H Q I h=>
 Ug (h _ (I.lnew (t':=s.toks) (ys:=[]) (its:=[]) .nil (RT _)) (λb o e=>Tr _ e) 1e1)
section
variable{X:Cx}{cl0:Ě}{rest:List Ě}{cap:2e9}{wi:TI}{g:TG}{tt:TT}{tb:Ĉ->Dv}{o0:Ĉ->HO}{newAcc:Ť ā}
theorem qL{use:Option (ā->Ť ŏ)}{Q:VK}{QQ:(ā->Ą->Prop)}(he:jW e=ą)(hz:(∀g∈ļ e,g.is_async=0))(c:ļ e=cl0::rest)(D:QS X newAcc o0)(hc:X.calm=ą)(S:(bQ X.N 1e4 scope Nc cap))(hi:PI X cl0.target cl0.iter wi)(hg:(∀cl C s H fp,PG 0e8 cl0.target g))(ht:(∀cl C s H fp,vh 0e8 cl0.ifs tt))(B:∀cl C s H fp acc,Ac 0e8 e 1 acc (tb acc))(I:0e4)(h:nH o0 wi cap g tt tb σ H Q)(j:∀C acc s' H',aO X pins σ H' s'->km X pins H' C->(∃m,s'.heap.Ns C m)->Q (.ref acc) H'->compPost 1e2 X.A X.xe use QQ (.ref acc) C (.ok .next) s')(hs:(∀x,Ė cl0.iter 1e4 x=pure x)):
  Ċ 1e2 X.A (comprehension e scope 1e4 pos' newAcc ć (eval cl0.iter 1e4) use) QQ X.xe s:=by
 refine bo (wK (scope:=scope) (env:=1e4) (λy hy hf=>I.ok.has y.1 (S.free y hy hf))) λcl hclos P L=>?_;have k:(ļ e)[0]?=Ā cl0:=by rw[c];rfl
 refine wpAny_comprehension_free c hs hclos S.kind (λx hx e=>by rw[S.nd x hx,e]) ?_;refine cB (hi pins s σ H _ I h) λv s1 E=>cB E λitv M h2=>?_;obtain⟨it,fp,tn,μ,l,e',I2,T,V,f2,rd⟩:=h2;subst e';have rd:=rd _ I2.fresh;refine D pins M σ l _ I2 λa G Z hsz3=>?_;have α:tn 0 a.heap:=T.keep _ _ _ V λb _ o e=>Z b o e
 have fpn:∀b∈fp,b≠M.heap.objs.size:=λb B=>by
  refine bb (T.obj _ _ V b B) λo O _=>?_;exact Sn (S0 O)
 have F:∀b∈fp,km X pins (bz l M.heap.objs.size (o0 M.heap.objs.size)) b:=λb B=>⟨by rw[aN (fpn b B)];exact(f2 b B).1,(f2 b B).2⟩
 have U:∀b∈fp,b<a.heap.objs.size:=λb B=>by
  refine bb (T.obj _ _ α b B) λo O _=>?_;exact S0 O
 refine Da λE u t K cenv ecenv elc=>?_;rw[ecenv]
 have IB:aO (fG X Nc scope cl a.heap.objs.size a (bz l M.heap.objs.size (o0 M.heap.objs.size)) fp) [] (nG cap σ) (bz l M.heap.objs.size (o0 M.heap.objs.size)) {a with heap:=E,toks:=a.toks}:=
  zC G F U S P L u t K
 have stB:tn 0 E:=T.keep _ _ _ α λb _ o e=>t b o e;rw[elc]
 have frB:∀b∈fp,km (fG X Nc scope cl a.heap.objs.size a (bz l M.heap.objs.size (o0 M.heap.objs.size)) fp) [] (bz l M.heap.objs.size (o0 M.heap.objs.size)) b:=λb B=>
  ⟨(F b B).1,(IB.ok.exf b B).1,IB.ok.exfs b B,.inl B,(IB.ok.exf b B).2,λp hp=>absurd (show p∈([]:List (Ĉ×ħ)) from hp) 1e1⟩
 have loop:=mB (X:=fG X Nc scope cl a.heap.objs.size a (bz l M.heap.objs.size (o0 M.heap.objs.size)) fp) he hz k rfl hc T (hg _ _ _ _ _) (ht _ _ _ _ _) (B _ _ _ _ _ _) IB stB frB rd
 have n:∀r s',(r=.ok .next/\∃z H',aO (fG X Nc scope cl a.heap.objs.size a (bz l M.heap.objs.size (o0 M.heap.objs.size)) fp) [] z H' s'/\Q (.ref M.heap.objs.size) H')->compPost 1e2 X.A X.xe use QQ (.ref M.heap.objs.size) a.heap.objs.size r s':=by
  rintro r s' ⟨rfl,z,H',i,q⟩
  have I5:aO X pins σ H' s':=G.call' (ch:=fp) i.os i.base i.hok i.bare λb f=>⟨(F b f).2.2.2.1,(F b f).2.1,(F b f).2.2.2.2.1,(F b f).2.2.2.2.2⟩;refine bb i.loc λmm W _=>?_;exact j _ _ s' H' I5 (G.fpOk (Rx _) i.free) ⟨mm,W⟩ q
 exact qi he hz k (TH loop n) (T.self _ 0 _ _ _ stB (TH loop n))
theorem CL(j:X.calm=ą)(hz:∀g∈cl0::rest,g.is_async=0)(S:(bQ X.N 1e4 scope Nc cap))(k:PI X cl0.target cl0.iter wi)
  (G:(∀cl C s H fp,PG 0e8 cl0.target g)) (T:(∀cl C s H fp,vh 0e8 cl0.ifs tt)) (B:(∀cl C s H fp acc,Ac 0e8 (.ListComp elt (cl0::rest) scope pos) 1 acc (tb acc)))
  (hs:(∀x,Ė cl0.iter 1e4 x=pure x)):PE X (.ListComp elt (cl0::rest) scope pos) (nH (λ_=>.lst []) wi cap g tt tb):=by
 intro p s z H Q I h;have i:=hz cl0 Ta;obtain⟨u,r,l,f⟩:=cl0;subst i;refine qL (e:=.ListComp elt (_::rest) scope pos) rfl hz rfl ur j S k G T B I h (λC acc y a c F n q=>?_) hs;obtain⟨m,n⟩:=n;exact⟨m,n,λv t=>⟨.ref acc,a,(c.turned (λb o B e=>(t.2 b B).trans e) F.1 F.2.1 F.2.2.2.1 F.2.2.2.2.1 F.2.2.2.2.2),rfl,q⟩⟩
theorem ue(M:X.calm=ą)(hz:∀g∈cl0::rest,g.is_async=0)(hN:(X.N.Nodup))(j:(X.N[i]?=Ā x))(y:(X.env.scope.names.lookup x=Ā .local))(S:(bQ X.N 1e4 scope Nc cap))(U:PI X cl0.target cl0.iter wi)(P:(∀cl C s H fp,PG 0e8 cl0.target g))(Z:(∀cl C s H fp,vh 0e8 cl0.ifs tt))(B:(∀cl C s H fp acc,Ac 0e8 (.ListComp elt (cl0::rest) scope pos) 1 acc (tb acc)))(W:(ī (.ListComp elt (cl0::rest) scope pos) (Ā (.Name x pos1)) pos2.line 1e4=pure ą))(hs:(∀x,Ė cl0.iter 1e4 x=pure x)):
  PS X (.Assign [.Name x pos1] (.ListComp elt (cl0::rest) scope pos) pos2) (Ao (nH (λ_=>.lst []) wi cap g tt tb) (tH i)):=by
 intro p s V H D I h;have K:=hz cl0 Ta;obtain⟨T,r,l,f⟩:=cl0;have c:f=0:=K;subst c;rw[exec_Assign_Name_used _ _ _ _ W];refine Tn (Tp (Tn ?_));show Ċ _ X.A (do let _ <- comprehension (.ListComp elt (⟨T,r,l,0⟩::rest) scope pos) scope 1e4 _ (newList []) ć (eval r 1e4) (Ā (Ŝ (.Name x pos1) 1e4))) _ _ s
 refine Tn (SA (qL (e:=.ListComp elt (_::rest) scope pos) (use:=Ā (Ŝ (.Name x pos1) 1e4)) (Q:=λv G=>D.nx (V.set i (Ā v)) G) (QQ:=λ_ t=>SP X p D .next t) rfl hz rfl ur M S U P Z B I h (λC acc t E μ F n q=>?_) hs)
  (λ_ t α=>SD (SD α)) λ_ _ e=>e)
 obtain⟨m,n⟩:=n;show Ċ _ X.A (Ŝ (.Name x pos1) 1e4 (.ref acc)) _ _ _;refine Ps (qh μ hN j (.inl y) (show bA (.ref acc) (.ref acc) from rfl) (λs'' I'' k=>?_) (.inr y));refine bb k λa O L=>?_
 have hCa:C≠a:=by
  rcases L with z|z
  ·rw[z];exact F.2.1
  ·exact λe=>F.2.2.2.2.1 x a z e.symm
 refine⟨m,n.sameBut O hCa,λh' u=>⟨_,E,?_,q⟩⟩;exact I''.turned (t':=s''.toks) (it:=C) (λb o B e=>(u.2 b B).trans e) F.1 F.2.1 F.2.2.2.1 F.2.2.2.2.1 F.2.2.2.2.2
variable{ifs:4e1}
theorem qw:∀g∈([⟨tg,iter,ifs,0⟩]:List Ě),g.is_async=0:=by
 simp
theorem Fp(h:X.calm=ą)(S:(bQ X.N 1e4 scope Nc cap))(I:PI X tg iter wi)
  (G:∀cl C s H fp,PG 0e8 tg g) (T:∀cl C s H fp,vh 0e8 ifs tt) (n:∀cl C s H fp,PE 0e8 elt te)
  (hs:2e6):PE X 1e7 (AE wi cap g tt te):=
 CL h qw S I G T (λcl C s H fp acc=>nX rfl rfl (n cl C s H fp)) hs
theorem E8(h:X.calm=ą)(hN:(X.N.Nodup))(j:(X.N[i]?=Ā x))(a:(X.env.scope.names.lookup x=Ā .local))(S:(bQ X.N 1e4 scope Nc cap))(I:PI X tg iter wi)(G:∀cl C s H fp,PG 0e8 tg g)(T:∀cl C s H fp,vh 0e8 ifs tt)(n:∀cl C s H fp,PE 0e8 elt te)(W:(ī 1e7 (Ā (.Name x pos1)) pos2.line 1e4=pure ą))(hs:2e6):
  PS X (.Assign [.Name x pos1] 1e7 pos2) (Ao (AE wi cap g tt te) (tH i)):=
 ue h qw hN j a S I G T (λcl C s H fp acc=>nX rfl rfl (n cl C s H fp)) W hs
end
end _l
namespace _r
open PySem PySem.W PyProof.Rows
open AutoSeq1 (wpAny_loadPart')
section
theorem sG{t:Ĉ}{items}{x:ā}(h:s.heap.IsTupleIter it t i)(T:s.heap.IsTuple t items)(d:items[i]?=Ā x)(hQ:∀h',h'.IsTupleIter it t (i+1)->Į it 1e9 h'->Q x {s with heap:=h'}):Ċ 0e7 A (Builtin.SmallTypes.nextOf (.ref it)) Q E s:=by
 refine bo (id h) λo O C D=>?_;obtain⟨L,H,_,nl,l⟩:=T;refine Tn (Ub h.typeIs UC (Ud UC h.typeIs UD ?_ (UE _)));show Ċ _ _ (field (.ref it) 0 >>= _) _ _ s;refine Tn (T9 O D rfl ?_);refine Tn (T9 O D rfl ?_);refine Tn (UF H l ?_);simp[d];exact Tn (UG O D (Uv _) (SD ⟨x,rfl,SD (hQ _ ⟨_,Uj _ O (UH (UI D _)),(UJ ..).trans C,by rw[UI D];rfl⟩ (UK ..))⟩))
theorem l9{t:Ĉ}{items}(a:(A.handled=Ă))(h:s.heap.IsTupleIter it t i)(T:s.heap.IsTuple t items)(d:items[i]?=Ă)(hE:∀h' e,XT it 1e9 h'->(∃o,h'.get? e=Ā o/\o.cls=.type "StopIteration")->E (.ref e) {s with heap:=h'}):Ċ 0e7 A (Builtin.SmallTypes.nextOf (.ref it)) Q E s:=by
 refine bo (id h) λo O C D=>?_;obtain⟨L,H,_,nl,l⟩:=T;refine Tn (Ub h.typeIs UC (Ud UC h.typeIs UD ?_ (UE _)));show Ċ _ _ (field (.ref it) 0 >>= _) _ _ s;refine Tn (T9 O D rfl ?_);refine Tn (T9 O D rfl ?_);refine Tn (UF H l ?_);simp[d];refine Tn (Sw (Tn (UG O D (RY _) ?_)));refine Tn ?_;refine Tn (Ug ?_ (by size_fits));refine Tn (UB (by rfl) ?_);refine Ug ?_ (by size_fits);refine Tn (ñ ?_)
 first|rw[show A.in1.handled=Ă from a]|rw[a]
 exact Tn (SD (XU (hE _ _ (((UK ..).extBut.push _).push _) ⟨_,SZ _ rfl,rfl⟩)))
end
theorem KG(c:(A.handled=Ă))(it l:Ĉ)(u:l≠it)(items:ĕ ā):
  Draws prog w A it [it,l] 4e0 (λi v=>items[i]?=Ā v) (λi h=>h.IsTupleIter it l i/\h.IsTuple l items) where
 live:=λ_ _ t=>let ⟨o,O,_⟩:=t.1;⟨o,O⟩
 frame:=λ_ _ _ t k=>⟨by
  refine bb t.1 λo O r=>?_;exact⟨o,k it 1e1 o O,r⟩,by
  refine bb t.2 λo O r=>?_
  exact⟨o,k l 1e1 o O,r⟩⟩
 item:=λi s Q E I t hQ=>by
  refine sG t.1 t.2 (x:=items[i]) 1e1 λb H a=>?_;refine hQ _ b s.toks 1e1 ⟨H,?_⟩ a;refine bb t.2 λo O r=>?_;exact⟨o,(a.2 l u).trans O,r⟩
 done:=λs Q E t hE=>l9 c t.1 t.2 1e1 hE
theorem u3(l:Ĉ)(items:ĕ ā)(n:ă)(dct:Option Ĉ)(q:ĕ (Option ā)) :
  Meets (Builtin.«enumerate.__new__» ⟨[.type "enumerate",.ref l],[]⟩) (λ_ R s=>s.heap.get? l=Ā {cls:=.type "tuple",dict:=dct,data:=.seq items n,slots:=q} /\
   R (.ok (.ret (.ref (s.heap.push {cls:=.type "tuple_iterator",data:=.fields #[.ref l,.int 0 0]}).objs.size)))
    {s with heap:=(s.heap.push {cls:=.type "tuple_iterator",data:=.fields #[.ref l,.int 0 0]}).push {cls:=.type "enumerate",data:=.fields #[.none,.bool ć,.ref 0e0,rawInt 0,.none,.none]}}):=
 .of_wp λprog w A R s h=>by
  obtain⟨p,g,d,t,S⟩:=s;obtain⟨L,h⟩:=h;have b:=sub_enumerate;have hL:Ĕ.IsTuple (Ą.heap ⟨p,g,d,t,S⟩) l items:=⟨_,L,rfl,n,rfl⟩
  wp_walk using ő L
  refine wpAny_stack_any λT=>SD ?_;split
  ·rename_i c _ _ _ _ _;cases (c == ģ "enumerate")
   ·wp_walk using ő L, UL hL
    exact⟨_,rfl,h⟩
   ·wp_walk using ő L, UL hL
    exact⟨_,rfl,h⟩
  ·wp_walk using ő L, UL hL
   exact⟨_,rfl,h⟩
section
theorem wU{l:Ĉ}{items:ĕ ā}(hL:s.heap.IsTuple l items)(h : ∀ h', ZP h' (0e0 + 1) 0e0 0 .none -> h'.IsTupleIter 0e0 l 0 -> h'.objs.size = s.heap.objs.size + 2 ->
   (∀b o,s.heap.get? b=Ā o->h'.get? b=Ā o)->Q (.ref (s.heap.objs.size+1)) {s with heap:=h'}):
  Ċ 0e7 A (call (.type "enumerate") [.ref l]) Q E s:=by
 obtain⟨⟨c,dct,d,q⟩,L,C,n,D⟩:=hL;replace C:c=.type "tuple" := C;replace D:d=.seq items n:=D;subst C D;refine callType_new F.called_enumerate 0e3 (F.typeCall_enumerate_1 _) (F.newCall_enumerate_1 _) (λobj=>F.args_object_init_2 obj _) F.entry_enumerate_new (u3 l items n dct q) ⟨L,?_⟩;have Z:(s.heap.push {cls:=.type "tuple_iterator",data:=.fields #[.ref l,.int 0 0]}).objs.size=s.heap.objs.size+1:=Ux ..;show _/\_;rw[Z]
 have e:ZP ((s.heap.push {cls:=.type "tuple_iterator",data:=.fields #[.ref l,.int 0 0]}).push
   {cls:=.type "enumerate",data:=.fields #[.none,.bool ć,.ref 0e0,rawInt 0,.none,.none]}) (s.heap.objs.size+1) 0e0 0 .none:=by
  have:=SZ (s.heap.push {cls:=.type "tuple_iterator",data:=.fields #[.ref l,.int 0 0]})
   (o:={cls:=.type "enumerate",data:=.fields #[.none,.bool ć,.ref 0e0,rawInt 0,.none,.none]}) rfl
  rw[Z]at this;exact this
 exact⟨⟨_,e,rfl⟩,h _ e ⟨_,Tr _ (SZ _ rfl),rfl,rfl⟩ (by rw[Ux,Z]) λb o x=>Tr _ (Tr _ x)⟩
end
end _r
namespace _l
open PySem PySem.Spec PyProof.Rows _r
def Sq(b:ċ)(K:W.Frag)(H:Hp)(a:Ĉ)(xs:List V):Prop:=if b=ą then dZ K H a xs else eQ K H a xs
def O4(b:ċ)(K:W.Frag)(a:Ĉ):It:=
 ⟨λi H => ∃ S x, Sq b K H a S /\ S[i]? = Ā x,
  λi H x c=>∃q y,x=.ref q/\H q=Ă/\c=bz H q (.tup [.int i,y])/\∀S,Sq b K H a S->S[i]?=Ā y,
  λi H=>∃S,Sq b K H a S/\S.length=i⟩
def qZ(b:ċ)(h:Ĕ)(it a:Ĉ)(i:ă):Prop:=if b=ą then h.IsListIter it a i else h.IsTupleIter it a i
theorem qZ.obj{b:ċ}{h:Ĕ}(x:qZ b h it a i):∃o,h.get? it=Ā o/\∀v,o.data≠.cell v:=by
 cases b with
 |true=>refine bo x λo e c d=>?_;simp_all
 |false=>refine bo x λo e c d=>?_;grind
theorem qZ.keep{b:ċ}{h:Ĕ}(x:qZ b h it a i)(k:∀o,h.get? it=Ā o->h'.get? it=Ā o):qZ b h' it a i:=by
 cases b with
 |true=>obtain⟨o,e,r⟩:=x;exact⟨o,k o e,r⟩
 |false=>obtain⟨o,e,r⟩:=x;exact⟨o,k o e,r⟩
theorem uO{X:Cx}{b:ċ}{xs:List V}(I:0e4)(C:X.calm=ą)(z:Sq b X.K H a xs)(u:a≠it):
  ∃(its:ĕ ā)(St:ă->Ĕ->Prop),aX xs its.toList/\Draws X.prog X.w X.A.in1 it [it,a] its.size (λi v=>its[i]?=Ā v) St/\(∀i,qZ b 1e9 it a i->St i 1e9)/\∀i h,St i h->qZ b h it a i:=by
 have c:X.A.in1.handled=Ă:=by simpa using I.ok.hd C
 cases b with
 |true=>
  obtain⟨its,R,p,Z⟩:=I.list z;exact⟨its.toArray,_,by simpa using R,Draws.list c it a u its.toArray,λi h=>⟨h,p.isList⟩,λi h t=>t.1⟩
 |false=>
  obtain⟨its,R,p,Z⟩:=I.tuple z;exact⟨its.toArray,_,by simpa using R,KG c it a u its.toArray,λi h=>⟨h,p⟩,λi h t=>t.1⟩
theorem Iu{X:Cx}{b:ċ}{xs ys:List V}(I:0e4)(h:Sq b X.K H a xs)(c:Sq b X.K H a ys):xs=ys:=by
 cases b with
 |true=>exact I.list_inj h c
 |false=>exact I.tuple_inj h c
theorem aO.turns{X:Cx}(I:0e4)(k:∀b o,b∉ch->s.heap.get? b=Ā o->h'.get? b=Ā o)(F:∀b∈ch,km X pins H b):aO X pins σ H {s with heap:=h',toks:=t'}:=by
 have nit:∀b u,H b=Ā u->b∉ch:=λb u e z=>by rw[(F b z).1]at e;cases e
 refine I.step (λb B=>?_) (λb o _ _ C e _=>k b o C e) (λb o _ _ C e _=>⟨o.slots,k b o C e⟩) (λ_ _ _ _ n=>n)
  (λb o C e=>⟨o,k b o C e⟩) (λ_ _ e=>e) (λ_ _ _ e=>e) (λb ps e=>⟨#[],by rw[e];rfl⟩) (λm h=>?_) (λb u e=>?_) I.bare
 ·refine d5 (F b B) λa f d y G μ=>?_;exact⟨y,f,G,μ⟩
 ·refine gI h λo S p O r=>?_;exact⟨o,S,p,k _ o (λz=>(F _ z).2.1 rfl) O,r⟩
 ·refine (I.hok b u e).stay (λc v C q => k c v ?_ q) (λ_ q => q) λ_ _ q => q
  grind
theorem yZ{b:ċ}(a it e:Ĉ)(j:e≠it)(l:a≠it)(N:a≠e):
  vE P w K (.Tuple elts k1 pos) (O4 b K a) [e,it] e (λi h=>(∃old,ZP h e it (i:ă) old)/\qZ b h it a i) where
 mem:=by simp
 obj:=λi h t x c=>by
  obtain⟨⟨old,n⟩,g⟩:=t;rcases Td.mp c with rfl|c
  ·exact⟨_,n,λv z=>by cases z⟩
  ·rw[UM.mp c];exact g.obj
 keep:=λi h G t k=>by
  obtain⟨⟨old,n⟩,g⟩:=t;exact⟨⟨old,k e 1e1 _ n⟩,g.keep λo O=>k it 1e1 o O⟩
 item:=by
  intro X hP hw hK α i p s σ H E I F t R;subst hP hw hK;obtain⟨⟨old,n⟩,g⟩:=t;refine bZ R λxs x Q c=>?_;refine aJ (uO I α Q l) λS St rv D μ d2=>?_;refine bb (rv.get c) λu hu ru=>?_
  have hlt:i<S.size:=by
   have:=(Se.mp hu).1;simpa using this
  have V:e ∉ [it,a]:=by
   simp[Td,UN,UO,Yi];exact⟨j,R7 N⟩
  refine d5 (F e 1e1) λf0 f1 f2 f3 f4 f5=>?_;refine d5 (F it 1e1) λg0 g1 g2 g3 g4 g5=>?_;have m:=S0 n;have hilt:it<s.heap.objs.size:=by refine bb g.obj λo O _=>?_;exact S0 O
  refine wpAny_pyNext_enum_itemD D n (μ i g) hlt j V λy G T hy ho C ht hsz hk=>?_
  have ey:y=u:=by
   simp_all
  subst ey;refine⟨_,rfl,?_⟩;refine wpAny_letOwnedTupleGo_enum ho λM Z d=>?_;replace d:Į e G M:=d;have hold:∀b o,b≠e->b≠it->s.heap.get? b=Ā o->M.get? b=Ā o:=λb o L h3 q=>(d.2 b L).trans (hk b o L h3 q);have ht2:=(d.2 _ (Sa m)).trans ht;have hqn:=I.hok.fresh (Rx _)
  have I1:aO X p σ (bz H 0e0 (.tup [.int i,x])) {s with heap:=s.heap.push {cls:=.type "tuple",data:=.seq #[.int i T,y]},toks:=T}:=by
   refine I.laid (λb o O=>Tr _ O) (Rx _) ?_;exact⟨by simp[sizeLine],[.int i T,y],.cons ⟨T,rfl⟩ (.cons ru .nil),_,SZ _ rfl,rfl,⟨0,rfl⟩,rfl⟩
  have hne:∀b∈[e,it],b≠s.heap.objs.size:=λb B=>by
   grind
  have r:∀b∈[e,it],km X p (bz H 0e0 (.tup [.int i,x])) b:=λb B=>by
   obtain⟨k0,k1⟩:=F b B;exact⟨by rw[aN (hne b B)];exact k0,k1⟩
  have I2:aO X p σ (bz H 0e0 (.tup [.int i,x])) {s with heap:=M,toks:=T+1}:=by
   refine aO.turns (s:={s with heap:=s.heap.push {cls:=.type "tuple",data:=.seq #[.int i T,y]},toks:=T}) I1 (λb o B O=>?_) r;simp at B;by_cases U:b=0e0
   ·subst U;have:=(SZ 1e9 rfl).symm.trans O;rw[ht2];exact this
   simp_all[KT]
  refine⟨.ref 0e0,_,I2,rfl,⟨_,x,rfl,hqn,rfl,λys hy=>by rw[Iu I hy Q];exact c⟩,⟨⟨y,by simpa using Z⟩,?_⟩,λb B=>(r b B).1⟩;refine(d2 (i+1) G C).keep λo O=>?_;exact(d.2 it (R7 j)).trans O
 done:=by
  intro X hP hw hK α i p s σ H E I F t R;subst hP hw hK;obtain⟨⟨old,n⟩,g⟩:=t;refine bb R λxs Q c=>?_;refine aJ (uO I α Q l) λS St rv D μ d2=>?_
  have hil:S.size=i:=by
   have L:=rv.length
   simp_all
  subst hil;refine wpAny_pyNext_enum_endD D n (μ _ g) λG c=>⟨rfl,?_⟩;refine I.turns (λb o B O=>c b o (λz=>B (by rw[z];simp)) O) F
 self:=λ_ _ _ _ _ t h=>by
  grind [Op]
section
variable{X:Cx}
def Kj(K:W.Frag)(t:TA):TI:=λd H R=>t d H λy c=>∃a b,y=[.ref a]/\(∃S,Sq b K c a S)/\R (O4 b K a) c
theorem Fi{a:Expr}{ta:TA}{p tpos:Ľ}(N:Gl X "enumerate")(M:X.mg "enumerate" = Ă)(x:PA X [a] ta)(hs:(autoParam (ĉ [a] 1e4=[(ć,eval a 1e4)]) ATr)):PI X (.Tuple elts k1 tpos) (.Call (.Name "enumerate" p) [a] [] pos) (Kj X.K ta):=by
 intro P s m H R I h;refine Zm (iP I N M (by rfl) (Ts (cB (x pos P s m H _ I h) λμ S=>bD λT r d C y=>?_) hs rfl));refine aU y λl b e G q=>?_;obtain⟨α,Q⟩:=G;subst e;obtain⟨u,rfl,U⟩:=dU C;cases U
 have f:∀c,ZP c (S.heap.objs.size+1) S.heap.objs.size 0 .none->qZ b c S.heap.objs.size l 0->l<S.heap.objs.size->c.objs.size=S.heap.objs.size+2->(∀b o,S.heap.get? b=Ā o->c.get? b=Ā o) ->
   Ċ 1e2 X.A (ű (.ref (S.heap.objs.size+1))) (O1 X P m (.Tuple elts k1 tpos) R) X.xe {S with heap:=c}:=by
  intro c n g t z k;have v:aO X P m r {S with heap:=c}:=d.kept k;refine Op n ?_;refine⟨_,[S.heap.objs.size+1,S.heap.objs.size],_,_,r,rfl,v,yZ l S.heap.objs.size (S.heap.objs.size+1) (WF _) (Sn t) (Sn (Uw t)),⟨⟨.none,n⟩,g⟩,λb B=>?_,q⟩;rcases Td.mp B with rfl|B
  ·exact d.fpOk (R6 _) (d.hok.fresh (R6 _))
  ·rw[UM.mp B];exact d.fpOk (Rx _) (d.hok.fresh (Rx _))
 cases b with
 |true=>
  obtain⟨j,V,L,Z⟩:=d.list Q;exact call_enumerate_list L.isList λc n g z k=>f c n g (by obtain⟨o,O,_⟩:=L.isList;exact S0 O) z k
 |false=>
  obtain⟨j,V,L,Z⟩:=d.tuple Q;exact wU L λc n g z k=>f c n g (by obtain⟨o,O,_⟩:=L;exact S0 O) z k
end
end _l
namespace _r
open PySem
noncomputable def Af(mask:ă):ă->ă->ă->List ă
 |0,_,_=>[]
 |n+1,i,p=>(List.range (SetTable.runEnd mask i+1-i)).map (i+·)++Af mask n (SetTable.leap mask i p).1 (SetTable.leap mask i p).2
def dB(mask:ă)(h:Ć):List ă:=Af mask (SetTable.turns mask) (SetTable.bits h%(mask+1)) (SetTable.bits h)
noncomputable def gq(t:SetTable):ă->SetTable.Probe->List ă
 |0,_=>[]
 |n+1,p=>p.j::gq t n (t.advance p)
noncomputable def kz(mask i p:ă)(d:Option ă):SetTable.Probe:={j:=i,more:=SetTable.runEnd mask i-i,i,perturb:=p,dummy:=d}
theorem tT(t:SetTable):∀(m n:ă)(p:SetTable.Probe),p.more=m ->
  gq t (m+1+n) p=(List.range (m+1)).map (p.j+·)++gq t n (kz t.mask (SetTable.leap t.mask p.i p.perturb).1 (SetTable.leap t.mask p.i p.perturb).2 p.dummy)
 |0,n,p,h=>by
  rw[(show 0+1+n=n+1 from UP _ _)];show p.j::gq t n (t.advance p)=_
  have e:t.advance p=kz t.mask (SetTable.leap t.mask p.i p.perturb).1 (SetTable.leap t.mask p.i p.perturb).2 p.dummy:=by
   unfold SetTable.advance;rw[RE (ă.not_lt_of_le (RI h))];rfl
  rw[e];rfl
 |m+1,n,p,h=>by
  rw[(show m+1+1+n=(m+1+n)+1 from RJ _ _ _)];show p.j::gq t (m+1+n) (t.advance p)=_
  have e:t.advance p={p with j:=p.j+1,more:=p.more-1}:=by
   unfold SetTable.advance;rw[RC 0e1]
  rw[e,tT t m n {p with j:=p.j+1,more:=p.more-1} (by show p.more-1=m;exact Sd Ñ h),UQ (n:=m+1),SH,UR];congr 2;apply US
  lia
theorem Bb(mask i:ă):i<=SetTable.runEnd mask i/\SetTable.runEnd mask i<=i+9:=by
 unfold SetTable.runEnd;split <;> simp
theorem tS(t:SetTable):∀(n i pe:ă)(d:Option ă),gq t (Af t.mask n i pe).length (kz t.mask i pe d)=Af t.mask n i pe
 |0,_,_,_=>rfl
 |n+1,i,pe,d=>by
  have h:=Bb t.mask i;show gq t ((List.range (SetTable.runEnd t.mask i+1-i)).map (i+·)++_).length _=_;rw[Uq,Us,UT];have e:SetTable.runEnd t.mask i+1-i=(SetTable.runEnd t.mask i-i)+1:=by lia
  rw[e,tT t (SetTable.runEnd t.mask i-i) _ (kz t.mask i pe d) rfl];show _++gq t (Af t.mask n (SetTable.leap t.mask i pe).1 (SetTable.leap t.mask i pe).2).length (kz t.mask (SetTable.leap t.mask i pe).1 (SetTable.leap t.mask i pe).2 d)=_;rw[tS t n];show _=(List.range (SetTable.runEnd t.mask i+1-i)).map (i+·)++_;rw[e];rfl
theorem xJ(mask:ă):∀(n i pe:ă),(Af mask n i pe).length<=10*n
 |0,_,_=>RT _
 |n+1,i,pe=>by
  have h:=Bb mask i;have I:=xJ mask n (SetTable.leap mask i pe).1 (SetTable.leap mask i pe).2;show ((List.range (SetTable.runEnd mask i+1-i)).map (i+·)++_).length<=_;rw[Uq,Us,UT]
  lia
theorem yp(t:SetTable)(hashAt:ă->Ć)(h:Ć):∀(pre:List ă)(j:ă)(post:List ă)(fuel:ă)(p:SetTable.Probe),gq t (pre.length+1+post.length) p=pre++j::post->pre.length<fuel->p.dummy=Ă ->
  (∀k∈pre,∃i,t.slot k=.live i/\hashAt i≠h) ->
  (t.slot j=.empty->SetTable.probe.go t hashAt h fuel p=Ā (.empty j Ă))/\(∀i,t.slot j=.live i->hashAt i=h->∃nx,SetTable.probe.go t hashAt h fuel p=Ā (.candidate j i nx))
 |[],j,post,0,p,_,F,_,_=>by simp at F
 |[],j,post,fuel+1,p,W,_,D,_=>by
  have e:gq t (([]:List ă).length+1+post.length) p=p.j::gq t post.length (t.advance p):=by
   rw[UU,show 0+1+post.length=post.length+1 from UP _ _];rfl
  rw[e]at W;have o:=(UV W).1;refine⟨λn=>?_,λi L H=>?_⟩
  ·show (match t.slot p.j with | .empty=>_ | .dummy=>_ | .live i=>_)=_;rw[o,n,D]
  ·refine⟨t.advance p,?_⟩;show (match t.slot p.j with | .empty=>_ | .dummy=>_ | .live i=>_)=_;rw[o,L];show (if (hashAt i == h)=ą then _ else _)=_;rw[RC (by simpa using H)]
 |x::pre,j,post,0,p,_,F,_,_=>by simp at F
 |x::pre,j,post,fuel+1,p,W,F,D,d=>by
  have e:gq t ((x::pre).length+1+post.length) p=p.j::gq t (pre.length+1+post.length) (t.advance p):=by
   rw[Uu,show pre.length+1+1+post.length=(pre.length+1+post.length)+1 from RJ _ _ _];rfl
  rw[e]at W;refine bb (d x Ta) λi L u=>?_
  have a:(t.advance p).dummy=Ă:=by
   unfold SetTable.advance;split
   ·exact D
   ·exact D
  have g:SetTable.probe.go t hashAt h (fuel+1) p=SetTable.probe.go t hashAt h fuel (t.advance p):=by
   show (match t.slot p.j with | .empty=>_ | .dummy=>_ | .live i=>_)=_;rw[((UV W).1),L];show (if (hashAt i == h)=ą then _ else _)=_;rw[RE (by simpa using u)]
  rw[g];exact(yp t hashAt h pre j post fuel (t.advance p) ((UV W).2) (by rw[Uu]at F;exact Ã F) a (λk K=>d k (Tb _ K)))
def DJ(xs:List ă):Prop:=xs.Pairwise (·<·)
theorem oj(xs:ĕ ă)(j:ă):∀(fuel lo hi:ă),lo<=hi->hi<=xs.size->hi-lo<=fuel->(∀i k,i<k->k<xs.size->xs.getD i j<xs.getD k j)->(∀i,i<lo->xs.getD i j<j)->(∀i,hi<=i->i<xs.size->j<=xs.getD i j) ->
  let b:=SetTable.below.go xs j fuel lo hi
  b<=xs.size/\(∀i,i<b->xs.getD i j<j)/\(∀i,b<=i->i<xs.size->j<=xs.getD i j)
 |0,lo,hi,d,c,f,r,a,B=>by
  have e:lo=hi:=by lia
  subst e;exact⟨c,a,B⟩
 |fuel+1,lo,hi,d,c,f,r,a,B=>by
  by_cases h:lo<hi
  ·simp only [SetTable.below.go, h];by_cases C:xs.getD ((lo+hi) / 2) j<j
   ·rw [RC C];refine oj xs j fuel _ hi 0e1 c 0e1 r (λi H=>?_) B;by_cases e:i=(lo+hi) / 2
    ·rw[e];exact C
    ·have:=r i ((lo+hi) / 2) (RN (RR H) e) 0e1;exact RU this C
   ·rw [RE C];refine oj xs j fuel lo _ 0e1 0e1 0e1 r a (λi H s=>?_);by_cases e:i=(lo+hi) / 2
    ·rw[e];exact R0 C
    ·have:=r ((lo+hi) / 2) i (RN H (R7 e)) s;exact Sj (R8 (R0 C) this)
  ·have e:lo=hi:=RZ d (R0 h);subst e;simp only[SetTable.below.go,h];exact⟨c,a,B⟩
theorem rF{xs:ĕ ă}(h:DJ xs.toList)(j:ă):∀i k,i<k->k<xs.size->xs.getD i j<xs.getD k j:=λi k b H=>by
 have I:i<xs.size:=RU b H;have:=List.pairwise_iff_getElem.mp h i k (by simpa using I) (by simpa using H) b
 simp_all
theorem j5{xs:ĕ ă}(h:DJ xs.toList)(j:ă):SetTable.below xs j<=xs.size/\(∀i,i<SetTable.below xs j->xs.getD i j<j)/\(∀i,SetTable.below xs j<=i->i<xs.size->j<=xs.getD i j):=
 oj xs j xs.size 0 xs.size (RT _) (Rx _) 1e1 (rF h j) (λi I=>by lia) (λi H c=>by lia)
theorem zY{xs:ĕ ă}(h:DJ xs.toList)(e:xs[i]?=Ā j):SetTable.below xs j=i:=by
 refine gF (j5 h j) λf c d=>?_
 have I:i<xs.size:=by
  rcases UW.mp e with⟨q,_⟩;exact q
 have E:xs.getD i j=j:=by
  rcases UW.mp e with⟨q,z⟩
  simp[ö,z]
 by_cases t:SetTable.below xs j<i
 ·have a := d (SetTable.below xs j) (Rx _) (RU t I);have b:=rF h j (SetTable.below xs j) i t I
  lia
 ·by_cases H : i < SetTable.below xs j
  ·have:=c i H;lia
  ·exact RZ (R0 H) (R0 t)
theorem iF{Y:Type}(xs:ĕ Y)(p:ă)(x:Y):(SetTable.insertAt xs p x).toList=xs.toList.take p++x::xs.toList.drop p:=by
 simp[SetTable.insertAt,UX]
theorem j0{Y:Type}(p:Y->Prop):∀(l:List Y),(∃x∈l,p x)->∃pre x post,l=pre++x::post/\p x/\∀y∈pre,¬ p y
 |[],h=>by refine bb h λx d _=>?_;simp at d
 |a::l,h=>by
  by_cases H:p a
  ·exact⟨[],a,l,rfl,H,λy α=>by simp at α⟩
  ·refine bb h λx d X => ?_;rcases Td.mp d with z|z
   ·lia
   ·refine cv (j0 p l ⟨x, z, X⟩) λpre y post e b P => ?_;refine⟨a::pre,y,post,by rw[e];rfl,b,λw W=>?_⟩;rcases Td.mp W with q|q
    ·rw[q];exact H
    ·exact P w q
structure sM(t:SetTable)(es:ĕ (Ć×ā))(Z:List (ă×Ć×ā)):Prop where
 place:t.place.toList=Z.map 4e2
 ents:es.toList=Z.map (·.2)
 ris:DJ (Z.map 4e2)
 top:∀z∈Z,z.1<=t.mask
 dum:t.dummies=#[]
 reach:∀z∈Z,∃pre post,dB t.mask z.2.1=pre++z.1::post/\∀k∈pre,k∈Z.map 4e2
theorem sM.size{t:SetTable}(T:sM t es Z):t.place.size=Z.length/\es.size=Z.length:=by
 have a:=Sd List.length T.place;have b:=Sd List.length T.ents;simp at a b;exact⟨a,b⟩
theorem sM.fill{t:SetTable}(T:sM t es Z):t.fill=Z.length:=by
 unfold SetTable.fill;rw[T.size.1,T.dum];rfl
theorem qB(j:ă):SetTable.has #[] j=ć:=by
 rfl
theorem sM.slot_empty{t:SetTable}(T:sM t es Z)(h:j∉Z.map 4e2):t.slot j=.empty:=by
 unfold SetTable.slot
 have n:¬ (t.place[SetTable.below t.place j]? == Ā j)=ą:=by
  intro e;have f:t.place[SetTable.below t.place j]?=Ā j:=by simpa using e
  apply h;rw[<- T.place];rw[<- Sh]at f;exact T1 f
 simp only[n,T.dum,qB];rfl
theorem sM.slot_live{t:SetTable}(T:sM t es Z)(h:Z[i]?=Ā z):t.slot z.1=.live i:=by
 have e:t.place[i]?=Ā z.1:=by
  rw[<- Sh,T.place,SS,h];rfl
 have r:DJ t.place.toList:=by rw[T.place];exact T.ris
 have D:=zY r e
 simp_all[SetTable.slot]
theorem sM.hashAt{t:SetTable}(T:sM t es Z)(h:Z[i]?=Ā z):es[i]?=Ā z.2:=by
 rw[<- Sh,T.ents,SS,h];rfl
theorem iZ{Y:Type}:∀{l1 l2:List Y},l1.Nodup->(∀x∈l1,x∈l2)->l1.length<=l2.length
 |[],_,_,_=>RT _
 |a::r,l2,n,S=>by
  refine K4 (List.append_of_mem (S a Ta)) λs t e=>?_;have h:=TL.mp n
  have i:=iZ (l1:=r) (l2:=s++t) h.2 (λx d=>by
   have H:=S x (Tb _ d);rw[e]at H;rcases Te.mp H with q|q
   ·exact Tf _ q
   ·rcases Td.mp q with q | q
    ·rw[q]at d;exact absurd d h.1
    ·exact Tu _ q)
  rw[e,Uq,Uu,Uu];rw[Uq]at i;exact à i _
theorem xI(mask:ă):∀(n i pe:ă),i<=mask->∀j∈Af mask n i pe,j<=mask
 |0,_,_,_,j,h=>by simp[Af]at h
 |n+1,i,pe,I,j,h=>by
  rcases Te.mp h with q|q
  ·refine bb (SY.mp q) λk H e => ?_;have a:=SM.mp H;have:SetTable.runEnd mask i<=mask:=by unfold SetTable.runEnd;split <;> omega
   have f:i+k=j:=e
   lia
  ·refine xI mask n _ _ ?_ j q;show (i*5+1+pe / 32)%(mask+1)<=mask;exact RR (Xs _ (ă.succ_pos mask))
theorem ju{h:Ć}(e:j∈dB mask h):j<=mask:=by
 refine xI mask _ _ _ ?_ j e;simp[RR,Xs]
theorem zF{l:List ă}(h:l.length<=m):∃j,j<=m/\j∉l:=by
 refine UY λN=>?_
 have L:∀j∈List.range (m+1),j∈l:=λj r=>by
  refine UY λH=>N ⟨j,?_,H⟩;have:=SM.mp r;exact RR this
 have:=iZ (Rw (n:=m+1)) L;rw[UT]at this
 lia
theorem sM.search{t:SetTable}(T:sM t es Z){h:Ć}(cov:∀j,j<=t.mask->j∈dB t.mask h)(hz:Z.length<=t.mask)(hA:ă->Ć)(hAe:∀i z,Z[i]?=Ā z->hA i=z.2.1):
  (∃i z nx,Z[i]?=Ā z/\z.2.1=h/\t.probe hA h (t.probeStart h)=Ā (.candidate z.1 i nx)) \/
  ((∀z∈Z,z.2.1≠h)/\∃j pre post,t.probe hA h (t.probeStart h)=Ā (.empty j Ă)/\j<=t.mask/\j∉Z.map 4e2/\dB t.mask h=pre++j::post/\∀k∈pre,k∈Z.map 4e2):=by
 refine bb (zF (m:=t.mask) (l:=Z.map 4e2) (by simp_all)) λμ g r=>?_;refine cv (j0 (λj=>j∉Z.map 4e2\/∃z∈Z,z.1=j/\z.2.1=h) (dB t.mask h) ⟨μ,cov μ g,.inl r⟩) λpre j post e S P=>?_
 have W:gq t (pre.length+1+post.length) (t.probeStart h)=pre++j::post:=by
  have q:=tS t (SetTable.turns t.mask) (SetTable.bits h%(t.mask+1)) (SetTable.bits h) Ă
  have L:(Af t.mask (SetTable.turns t.mask) (SetTable.bits h%(t.mask+1)) (SetTable.bits h)).length=pre.length+1+post.length:=by
   grind [dB]
  rw[L]at q;exact q.trans e
 have n:pre.length<10*SetTable.turns t.mask:=by
  grind [xJ,dB]
 have occ:∀k∈pre,k∈Z.map 4e2:=λk K=>by
  refine UY λq=>P k K (.inl q)
 have b:∀k∈pre,∃i,t.slot k=.live i/\hA i≠h:=λk K=>by
  refine bb (SY.mp (occ k K)) λz M d=>?_;obtain⟨i,I⟩:=UZ M;refine⟨i,d ▸ T.slot_live I,λq=>P k K (.inr ⟨z,M,d,?_⟩)⟩;exact RM (R9 (hAe _ _ I)) q
 obtain⟨G,v⟩:=yp t hA h pre j post (10*SetTable.turns t.mask) (t.probeStart h) W n rfl b;by_cases y:∃z∈Z,z.2.1=h
 ·refine bb y λz M d => ?_;refine bZ (T.reach z M) λC Q ezz B=>?_;rw[d]at ezz
  have p:j∈Z.map 4e2:=by
   have E:pre++j::post=C++z.1::Q:=by rw[<- e,<- ezz]
   rcases List.append_eq_append_iff.mp E with⟨a,w,A⟩|⟨c,w,A⟩
   ·cases a with
    |nil=>
     grind
    |cons x a=>
     simp_all
   ·cases c with
    |nil=>
     grind
    |cons x c=>
     grind
  rcases S with q|⟨s,H,f,E⟩
  ·exact absurd p q
  ·obtain⟨i,I⟩:=UZ H;obtain⟨nx,en⟩:=v i (f ▸ T.slot_live I) (RM (hAe _ _ I) E);exact .inl ⟨i,s,nx,I,E,by rw[f];exact en⟩
 ·have O : ∀ z ∈ Z, z.2.1 ≠ h := λz H u => y ⟨z, H, u⟩;rcases S with q|⟨s,H,f,E⟩
  ·have o:j<=t.mask:=ju (h:=h) (by rw[e];simp);exact .inr ⟨O,j,pre,post,G (T.slot_empty q),o,q,e,occ⟩
  ·exact absurd E (O s H)
theorem wk{l:List ă}{p:ă}(h:DJ l)(a:∀x∈l.take p,x<j)(c:∀x∈l.drop p,j<x):DJ (l.take p++j::l.drop p):=by
 unfold DJ at *;have H:(l.take p++l.drop p).Pairwise (·<·):=by rw[U0];exact h
 rw[List.pairwise_append]at H⊢
 simp_all
theorem sM.put{t:SetTable}(T:sM t es Z){h:Ć}{x:ā}{pre post:List ă}(r:j<=t.mask)(N:j∉Z.map 4e2)(e:dB t.mask h=pre++j::post)(P:∀k∈pre,k∈Z.map 4e2):
  ∃Z',sM (t.put j).1 (SetTable.insertAt es (t.put j).2 (h,x)) Z'/\Z'.Perm ((j,h,x)::Z)/\(t.put j).1={t with place:=SetTable.insertAt t.place (SetTable.below t.place j) j}:=by
 have E:(t.put j).1={t with place:=SetTable.insertAt t.place (SetTable.below t.place j) j}:=by
  unfold SetTable.put;simp only[T.dum,qB];rw[RE RF]
 have l:(t.put j).2=SetTable.below t.place j:=rfl;refine gF (j5 (by rw[T.place];exact T.ris) j) λb1 b2 b3=>?_;generalize B:SetTable.below t.place j=p at *;refine⟨Z.take p++(j,h,x)::Z.drop p,⟨?_,?_,?_,λz f=>?_,by rw[E];exact T.dum,λz f=>?_⟩,?_,E⟩
 ·rw[E,iF,T.place,U1,SH,U2,U3]
 ·rw[l,iF,T.ents,U1,SH,U2,U3]
 ·rw [U1, SH, U2, U3];refine wk T.ris (λy α=>?_) (λy α=>?_)
  ·obtain ⟨i, I⟩ := UZ α;rw[So]at I;split at I
   ·rename_i g;have q:=b2 i g;rw[<- T.place,Sh]at I;simp[I]at q;exact q
   ·cases I
  ·obtain⟨i,I⟩:=UZ α;rw[Sr]at I;have m:=T1 I;rw[<- T.place,Sh]at I;have q:=b3 (p+i) (RA _ _) ((UW.mp I).1);simp[I]at q;have:y≠j:=λn=>N (n ▸ m);exact RN q (R7 this)
 ·rw [E];rcases Te.mp f with q|q
  ·exact T.top z (U4 q)
  ·rcases Td.mp q with q | q
   ·rw[q];exact r
   ·exact T.top z (List.mem_of_mem_drop q)
 ·rw [E]
  have sub:∀k∈Z.map 4e2,k∈(Z.take p++(j,h,x)::Z.drop p).map 4e2:=λk H=>by
   rw[<- U0 p Z,U1]at H;rw[U1];rcases Te.mp H with q|q
   ·exact Tf _ q
   ·exact Tu _ (Tb _ q)
  have o:∀z∈Z,∃pre post,dB t.mask z.2.1=pre++z.1::post/\∀k∈pre,k∈(Z.take p++(j,h,x)::Z.drop p).map 4e2:=λz f=>by
   refine bZ (T.reach z f) λa b c d=>?_;exact⟨a,b,c,λk H=>sub k (d k H)⟩
  rcases Te.mp f with q|q
  ·exact o z (U4 q)
  ·rcases Td.mp q with q | q
   ·rw[q];exact⟨pre,post,e,λk H=>sub k (P k H)⟩
   ·exact o z (List.mem_of_mem_drop q)
 ·have q:(Z.take p++(j,h,x)::Z.drop p).Perm ((j,h,x)::(Z.take p++Z.drop p)):=List.perm_middle;rw[U0]at q;exact q
theorem qD(mask:ă)(owner:ĕ (Option ă)):∀(n i pe:ă),
  SetTable.layClean.free mask owner n i pe=(Af mask n i pe).find? λj=>(owner.getD j (Ā 0)).isNone
 |0,_,_=>rfl
 |n+1,i,pe=>by
  show (match (List.range (SetTable.runEnd mask i+1-i)).find? λk=>(owner.getD (i+k) (Ā 0)).isNone with|some k=>_|none=>_)=_;show _=((List.range (SetTable.runEnd mask i+1-i)).map (i+·)++Af mask n (SetTable.leap mask i pe).1 (SetTable.leap mask i pe).2).find? _;rw[List.find?_append,List.find?_map,<- qD mask owner n];rw[(show ((λj=>(owner.getD j (Ā 0)).isNone) ∘ λx=>i+x)=λk=>(owner.getD (i+k) (Ā 0)).isNone from rfl)];cases (List.range (SetTable.runEnd mask i+1-i)).find? λk=>(owner.getD (i+k) (Ā 0)).isNone with
  |some k=>rfl
  |none=>rfl
structure Hh(mask:ă)(hs:List Ć)(owner:ĕ (Option ă)):Prop where
 size:owner.size=mask+1
 all:∀(i:ă)(h:Ć),hs[i]?=Ā h->∃j:ă,j<=mask/\owner[j]?=Ā (Ā i)/\∃pre post,dB mask h=pre++j::post/\∀k∈pre,∃i':ă,owner[k]?=Ā (Ā i')
 lt:∀(j i:ă),owner[j]?=Ā (Ā i)->i<hs.length
 inj:∀(j j' i:ă),owner[j]?=Ā (Ā i)->owner[j']?=Ā (Ā i)->j=j'
theorem Ft(mask:ă):Hh mask [] (Ç (mask+1) Ă):=by
 have O:∀(j i:ă),(Ç (mask+1) (Ă:Option ă))[j]?≠Ā (Ā i):=λj i e=>by
  rw[ĕ.getElem?_replicate]at e;split at e <;> cases e
 exact⟨by simp,λi h e=>by simp at e,λj i e=>absurd e (O j i),λj μ i e=>absurd e (O j i)⟩
theorem CO(O:Hh mask hs owner)(p:hs.length<=mask):∃j,j<=mask/\owner[j]?=Ā Ă:=by
 refine UY λN=>?_
 have L:∀j,j<=mask->∃i,owner[j]?=Ā (Ā i):=λj r=>by
  have g:j<owner.size:=by rw[O.size];exact Rz r
  cases e:owner[j]? with
  |none=>rw[U5]at e;lia
  |some o=>
   cases o with
   |none=>exact absurd ⟨j,r,e⟩ N
   |some i=>exact⟨i,rfl⟩
 have key:∀n,n<=mask+1->∃l:List ă,l.length=n/\l.Nodup/\(∀i∈l,i<hs.length)/\∀i∈l,∃j,j<n/\owner[j]?=Ā (Ā i):=by
  intro n
  induction n with
  |zero=>exact λ_=>⟨[],rfl,U6,λ_ h=>by simp at h,λ_ h=>by simp at h⟩
  |succ n k=>
   intro H;refine pW (k (RK H)) λl b c a f=>?_;obtain⟨i,I⟩:=L n (ă.le_of_succ_le_succ H);refine⟨i::l,by rw[Uu,b],TL.mpr ⟨λm=>?_,c⟩,λx d=>?_,λx d=>?_⟩
   ·refine bb (f i m) λj r E => ?_;have:=O.inj j n i E I
    lia
   ·rcases Td.mp d with q | q
    ·rw[q];exact O.lt n i I
    ·exact a x q
   ·rcases Td.mp d with q | q
    ·rw[q];exact⟨n,Uv _,I⟩
    ·refine bb (f x q) λj r E=>?_;exact⟨j,Uw r,E⟩
 refine pW (key (mask+1) (Rx _)) λl b c a _=>?_;have:=iZ c (l2:=List.range hs.length) (λx d=>SM.mpr (a x d))
 grind
theorem CN{h:Ć}(O:Hh mask hs owner)(L:hs.length<=mask)(cov:∀j,j<=mask->j∈dB mask h):
  ∃j,SetTable.layClean.free mask owner (SetTable.turns mask) (SetTable.bits h%(mask+1)) (SetTable.bits h)=Ā j/\Hh mask (hs++[h]) (owner.setIfInBounds j (Ā hs.length)):=by
 refine bb (CO O L) λn g v=>?_
 have none_iff:∀j,((owner.getD j (Ā 0)).isNone=ą)↔owner[j]?=Ā Ă:=λj=>by
  rw[U7];cases owner[j]? with
  |none=>simp
  |some o=>cases o <;> simp
 refine cv (j0 (λj=>owner[j]?=Ā Ă) (dB mask h) ⟨n,cov n g,v⟩) λpre j p e d P=>?_;have M:j<=mask:=ju (h:=h) (by rw[e];simp);have S:j<owner.size:=by rw[O.size];lia
 have c:∀k∈pre,∃I,owner[k]?=Ā (Ā I):=λk H=>by
  have x:k<=mask:=ju (h:=h) (by rw[e];simp[H]);cases q:owner[k]? with
  |none=>
   rw[U5,O.size]at q
   lia
  |some o=>
   cases o with
   |none=>exact absurd q (P k H)
   |some i=>exact⟨i,rfl⟩
 have t:∀k,(owner.setIfInBounds j (Ā hs.length))[k]?=if j=k then Ā (Ā hs.length) else owner[k]?:=λk=>by
  grind
 have keep:∀k I,owner[k]?=Ā (Ā I)->(owner.setIfInBounds j (Ā hs.length))[k]?=Ā (Ā I):=λk I q=>by
  rw[t,RE]
  ·exact q
  lia
 refine⟨j,?_,by simp[O.size],λi f E=>?_,λk i E=>?_,λk K i a m=>?_⟩
 ·rw [qD];show (dB mask h).find? _=Ā j;rw[e,List.find?_append]
  have a:pre.find? (λj=>(owner.getD j (Ā 0)).isNone)=Ă:=by
   rw[List.find?_eq_none];intro k H q;exact P k H ((none_iff k).mp q)
  simp only[a,Option.none_or,U8,(none_iff j).mpr d]
 ·by_cases l : i < hs.length
  ·rw[TX l]at E;obtain⟨μ,A,r,R,y,s,u⟩:=O.all i f E;exact⟨μ,A,keep μ i r,R,y,s,λk H=>(u k H).elim λI q=>⟨I,keep k I q⟩⟩
  ·have b:i=hs.length:=by
    have:=(Se.mp E).1;simp at this;exact U9 (R0 l) this
   subst b;rw[TU (Rx _),G_]at E;have w:h=f:=by simpa using E
   subst w;exact⟨j,M,by rw[t,RC rfl],pre,p,e,λk H=>(c k H).elim λI q=>⟨I,keep k I q⟩⟩
 ·rw [t] at E;rw[Uq,Ur];split at E
  ·cases E;simp
  ·have:=O.lt k i E;exact Uw this
 ·rw [t] at a m;split at a
  ·rename_i Q;cases a;split at m
   ·lia
   ·have:=O.lt K _ m;lia
  ·split at m
   ·cases m;have:=O.lt k _ a;lia
   ·exact O.inj k K i a m
theorem uh{mask:ă}:∀(hs0 hs1:List Ć)(owner:ĕ (Option ă)),Hh mask hs0 owner->hs0.length+hs1.length<=mask+1->(∀h∈hs1,∀j,j<=mask->j∈dB mask h) ->
  ∃owner',hs1.foldl (λ(acc:Option (ĕ (Option ă)×ă)) h=>do
   let (owner,k) <- acc
   let j <- SetTable.layClean.free mask owner (SetTable.turns mask) (SetTable.bits h%(mask+1)) (SetTable.bits h)
   pure (owner.setIfInBounds j (Ā k),k+1)) (Ā (owner,hs0.length))=Ā (owner',(hs0++hs1).length)/\Hh mask (hs0++hs1) owner'
 |hs0,[],owner,O,_,_=>⟨owner,by simp,by simpa using O⟩
 |hs0,h::hs1,owner,O,L,cov=>by
  rw[Uu]at L;refine bb (CN (h:=h) O 0e1 (cov h Ta)) λj o a=>?_;refine bb (uh (hs0++[h]) hs1 _ a (by rw[Uq,Ur];exact RH (RI (RJ _ _ _)) L) (λx d=>cov x (Tb _ d))) λw E m=>?_;rw[Va,Vb]at E m;refine⟨w,?_,m⟩;rw[SI];show List.foldl _ ((SetTable.layClean.free mask owner (SetTable.turns mask) (SetTable.bits h%(mask+1)) (SetTable.bits h)).bind λj=>Ā (owner.setIfInBounds j (Ā hs0.length),hs0.length+1)) hs1=_;rw[o];show List.foldl _ (Ā (owner.setIfInBounds j (Ā hs0.length),hs0.length+1)) hs1=_;rw[Uq,Ur]at E;exact E
theorem ub{Y:Type}:∀l:List Y,(List.range l.length).filterMap (λi=>l[i]?)=l
 |[]=>rfl
 |a::l=>by
  rw[Uu,UQ,S9];show a::List.filterMap _ _=_;rw[List.filterMap_map];show a::List.filterMap (λi=>l[i]?) _=_;rw[ub l]
theorem FX(L:hs.length<=mask+1)(cov:∀h∈hs,∀j,j<=mask->j∈dB mask h):∃owner,SetTable.layClean mask hs.toArray=Ā owner/\Hh mask hs owner:=by
 obtain⟨w,E,m⟩:=uh [] hs _ (Ft mask) (by rw[UU,Vc];exact L) cov;refine⟨w,?_,by simpa using m⟩;unfold SetTable.layClean;rw[List.foldl_toArray']
 ·show Option.map 4e2 (hs.foldl _ (Ā (Ç (mask+1) Ă,([]:List Ć).length)))=_;rw[E];rfl
 ·simp
theorem wm{t:SetTable}{wanted:ă}(W:SetTable.sizeAbove wanted-1=mask)(F:es.size<=mask)(cov:∀e∈es.toList,∀j,j<=mask->j∈dB mask e.1):
  ∃t' order Z',t.relaid (es.map 4e2) wanted=Ā (t',order)/\sM t' (order.filterMap (es[·]?)) Z'/\(Z'.map (·.2)).Perm es.toList/\t'.mask=mask/\t'.led=t.led/\t'.plain=t.plain/\order.toList.Perm (List.range es.size):=by
 have B:es.map 4e2=(es.toList.map 4e2).toArray:=by rw[<- SC]
 obtain⟨w,E,O⟩:=FX (mask:=mask) (hs:=es.toList.map 4e2) (by simp;exact RG F) (λh V=>by
  refine bb (SY.mp V) λe U q=>?_
  rw[<- q];exact cov e U)
 let live:List (ă×ă):=(List.range (mask+1)).filterMap λj=>(w.getD j Ă).map (j,·)
 have hlive:∀j i,(j,i)∈live↔(j<=mask/\w[j]?=Ā (Ā i)):=λj i=>by
  simp only[live,Tt,SM];constructor
  ·rintro ⟨k, K, q⟩
   rw[U7]at q;cases e:w[k]? with
   |none=>rw[e]at q;cases q
   |some o=>
    rw[e]at q;cases o with
    |none=>cases q
    |some g=>
     simp only[Option.getD_some,Option.map_some,Vd,YI]at q;obtain⟨s,G⟩:=q;subst s;subst G;exact⟨RR K,e⟩
  ·rintro ⟨r, e⟩
   refine⟨j,Rz r,?_⟩;rw[U7,e];rfl
 have T:(live.map 4e2).Pairwise (·<·):=by
  have gen:∀(l:List ă),l.Pairwise (·<·)->((l.filterMap λj=>(w.getD j Ă).map (j,·)).map 4e2).Pairwise (·<·)/\∀x∈((l.filterMap λj=>(w.getD j Ă).map (j,·)).map 4e2),x∈l:=by
   intro l
   induction l with
   |nil=>intro _;exact⟨List.Pairwise.nil,λx X=>by simp at X⟩
   |cons a l I=>
    intro d;obtain⟨L,M⟩:=Ve.mp d;obtain⟨v,n⟩:=I M;rw[S9];cases q:(w.getD a Ă).map (a,·) with
    |none=>exact⟨v,λx X=>Tb _ (n x X)⟩
    |some p=>
     have C:p.1=a:=by
      cases Q:w.getD a Ă with
      |none=>rw[Q]at q;cases q
      |some i=>rw[Q]at q;cases q;rfl
     show (p.1::List.map _ _).Pairwise _/\∀x∈p.1::List.map _ _,x∈a::l;rw[C]
     exact⟨Ve.mpr ⟨λx X=>L x (n x X),v⟩,λx X=>by
      rcases Td.mp X with z|z
      ·rw[z];exact Ta
      ·exact Tb _ (n x z)⟩
  exact(gen _ Vf).1
 have hnd:live.Nodup:=by
  have:=T.imp (λh=>Sn h);exact List.Pairwise.of_map 4e2 (λa b h e=>h (by rw[e])) this
 have H:∀j i,(j,i)∈live->i<es.size:=λj i h=>by
  have:=O.lt j i ((hlive j i).mp h).2;simpa using this
 have D:(live.map (·.2)).Perm (List.range es.size):=by
  refine(SV ?_ Rw).mpr λi=>?_
  ·refine Vg _ (λa b h=>?_) (List.Pairwise.and_mem.mp hnd);refine gF h λN S u=>?_;intro e;have s:=((hlive a.1 a.2).mp N).2;have G:=((hlive b.1 b.2).mp S).2;rw[<- e]at G;exact u (Rq (O.inj _ _ _ s G) e)
  ·rw [SM, SY];constructor
   ·rintro⟨p,d,e⟩;rw[<- e];exact H p.1 p.2 d
   ·intro R;refine bo (O.all i (es[i].1) (by rw[SS,Sh,Vh R];rfl)) λj r q _=>?_;exact⟨(j,i),(hlive j i).mpr ⟨r,q⟩,rfl⟩
 let Z':List (ă×Ć×ā):=live.filterMap λp=>(es[p.2]?).map λe=>(p.1,e)
 have hZ1:Z'.map 4e2=live.map 4e2:=by
  have gen:∀l:List (ă×ă),(∀p∈l,p.2<es.size)->(l.filterMap λp=>(es[p.2]?).map λe=>(p.1,e)).map 4e2=l.map 4e2:=by
   intro l
   induction l with
   |nil=>intro _;rfl
   |cons p l I=>
    intro h;rw[S9,Vh (h p Ta)];show p.1::List.map _ _=p.1::List.map _ _;rw[I λq Q=>h q (Tb _ Q)]
  exact gen live λp d=>H p.1 p.2 d
 have hZ2:Z'.map (·.2)=(live.map (·.2)).filterMap (es[·]?):=by
  have gen:∀l:List (ă×ă),(l.filterMap λp=>(es[p.2]?).map λe=>(p.1,e)).map (·.2)=(l.map (·.2)).filterMap (es[·]?):=by
   intro l
   induction l with
   |nil=>rfl
   |cons p l I=>
    rw[S9,SH,S9];cases es[p.2]? with
    |none=>exact I
    |some e=>show e::List.map _ _=e::_;rw[I]
  exact gen live
 have α:(List.range es.size).filterMap (es[·]?)=es.toList:=by
  have q:=ub es.toList;rw[Rv]at q;simpa only[Sh] using q
 refine⟨{mask,place:=(live.map 4e2).toArray,dummies:=#[],finger:=t.finger,led:=t.led,moves:=t.movedTo mask,plain:=t.plain},(live.map (·.2)).toArray,Z',?_,⟨?_,?_,?_,λz Z=>?_,rfl,λz Z=>?_⟩,?_,rfl,rfl,rfl,D⟩
 ·unfold SetTable.relaid SetTable.laid;rw[W,B,E];rfl
 ·show (live.map 4e2)=_;rw[hZ1]
 ·rw[hZ2];simp
 ·rw[hZ1];exact T
 ·have : z.1 ∈ live.map 4e2 := by rw [<- hZ1]; exact Vi Z
  refine bb (SY.mp this) λp d q=>?_;rw[<- q];exact((hlive p.1 p.2).mp d).1
 ·refine bb (Tt.mp Z) λp d q=>?_;rw[Vh (H p.1 p.2 d)]at q;have μ:z=(p.1,es[p.2]'(H p.1 p.2 d)):=(Rp q).symm;obtain⟨r,ho⟩:=(hlive p.1 p.2).mp d;obtain⟨j,a1,A,pre,P,c,y⟩:=O.all p.2 (es[p.2]'(H p.1 p.2 d)).1 (by rw[SS,Sh,Vh (H p.1 p.2 d)];rfl);have ejp:j=p.1:=O.inj _ _ _ A ho;refine⟨pre,P,by rw[μ];rw[ejp]at c;exact c,λk K=>?_⟩;obtain⟨g,f⟩:=y k K;rw[hZ1];have m:k<=mask:=ju (h:=(es[p.2]'(H p.1 p.2 d)).1) (by rw[c];simp[K]);exact SY.mpr ⟨(k,g),(hlive k g).mpr ⟨m,f⟩,rfl⟩
 grind
noncomputable def prs:List (List Ć):=((List.range 36).filter λn=>n / 6<n%6).map λn=>[((n / 6:ă):Ć),((n%6:ă):Ć)]
noncomputable def lz(ks:List Ć):Ć:=reduceHash (Builtin.Tuple.tupleHashOf (ks.map hashInt))
def Hw(mask:ă):ċ:=prs.all λk=>(List.range (mask+1)).all λj=>(dB mask (lz k)).contains j
theorem Qs:Hw 7=ą:=by decide +kernel
theorem G7:Hw 31=ą:=by decide +kernel
theorem NP:(prs.map lz).Nodup:=by decide +kernel
theorem rH:prs.length=15:=by decide +kernel
theorem vS(h:Hw mask=ą){ks:List Ć}(k:ks∈prs):∀j,j<=mask->j∈dB mask (lz ks):=λj r=>by
 have b:=SL.mp (SL.mp h ks k) j (SM.mpr (Rz r));simpa using b
theorem Ki(h:(l.map lz).Nodup){a b:List Ć}(H:a∈l)(B:b∈l)(e:lz a=lz b):a=b:=by
 induction l with
 |nil=>simp at H
 |cons c l i=>
  grind
theorem F5{a b:List Ć}(H:a∈prs)(B:b∈prs)(e:lz a=lz b):a=b:=Ki NP H B e
theorem rG{a b:Ć}(H:0<=a)(c:a<b)(d:b<6):[a,b]∈prs:=by
 have:=(show ∀x:ă,x<6->∀y:ă,y<6->x<y->[(x:Ć),(y:Ć)]∈prs by decide +kernel) a.toNat 0e1 b.toNat 0e1 0e1
 grind
end _r
namespace _r
open PySem PyProof.Rows
abbrev KP:=List Ć×Ĉ
structure dW(w:ē)(h:Ĕ)(a:Ĉ)(qs:(List (Ć×ā)))(o:ħ)(es:ĕ (Ć×ā))(ep:ă)(t:SetTable)(Z:List (ă×Ć×ā)):Prop where
 ho:h.get? a=Ā o
 ex:o.ExactSet
 hd:o.data=.set es ep t
 tab:sM t es Z
 plain:t.plain=ą
 led:t.led=!w.params.followText "set-order"
 big:(t.mask=7/\Z.length<=4)\/(t.mask=31/\Z.length<=18)
 perm:(Z.map (·.2)).Perm qs
def vw(p:KP):Ć×ā:=(lz p.1,đ p.2)
def eS(w:ē)(h:Ĕ)(a:Ĉ)(ps:List KP):Prop:=∃o S z t Z,dW w h a (ps.map vw) o S z t Z/\(∀p∈ps,p.1∈prs)/\(ps.map 4e2).Nodup
theorem dW.len{h:Ĕ}{ps:(List (Ć×ā))}{o es ep t Z}(S:dW w h a ps o es ep t Z):Z.length=ps.length:=by
 have:=S.perm.length_eq;simpa using this
theorem rR{ps:List KP}(h:∀p∈ps,p.1∈prs)(n:(ps.map 4e2).Nodup):ps.length<=15:=by
 have:=iZ n (λx H=>by obtain⟨p,d,e⟩:=SY.mp H;rw[<- e];exact h p d)
 simp_all[rH]
theorem dW.fits{h:Ĕ}{ps:(List (Ć×ā))}{o es ep t Z}(S:dW w h a ps o es ep t Z):t.fits es.size=ą:=by
 unfold SetTable.fits;rw[S.tab.fill,S.tab.size.1,S.tab.size.2];rcases S.big with⟨H,c⟩|⟨H,c⟩ <;> simp[H] <;> exact RH c (Vj _ _)
theorem dW.cov{h:Ĕ}{ps:(List (Ć×ā))}{o es ep t Z}(S:dW w h a ps o es ep t Z)(K:k∈prs):∀j,j<=t.mask->j∈dB t.mask (lz k):=by
 rcases S.big with⟨H,c⟩|⟨H,c⟩ <;> rw[H]
 ·exact vS Qs K
 ·exact vS G7 K
theorem eS.keeps{h:Ĕ}{ps:List KP}(S:eS w h a ps)(k:∀o,h.get? a=Ā o->h'.get? a=Ā o):eS w h' a ps:=by
 refine kN S λo e z t Z S H n=>?_;exact⟨o,e,z,t,Z,⟨k o S.ho,S.ex,S.hd,S.tab,S.plain,S.led,S.big,S.perm⟩,H,n⟩
section
abbrev Tk(prog:č)(w:ē)(h:Ĕ)(k:List Ć)(r:Ĉ):Prop:=IsTupleKey (E_ prog w) h k r
theorem items_int{vs:List ā}(h:ItemsAre (E_ prog w) k vs):∀v∈vs,∃i t,v=.int i t:=by
 induction h with
 |nil=>intro v V;simp at V
 | @cons k a K vs H _ I=>
  intro v V;rcases Td.mp V with q|q
  ·obtain ⟨t, e⟩ := IN H
   grind
  ·exact I v q
theorem ui{r:Ĉ}{Q:ċ->Ą->Prop}(H:Tk prog w 1e9 k r)(h:Q ć s):Ċ 0e7 A (Ű 8 (.ref r)) Q E s:=by
 have hT:=H.typeIs;refine cF H λo items n O C D I=>?_;unfold Ű;refine Tn (Ue hT ?_);refine Tn (SD ?_);refine Tn (UF O D ?_);refine Tn ?_;rw[<- ÿ];refine Vk _ (λR r S=>r.1=Ă/\S=s/\∀v∈R,∃i t,v=.int i t) _ ?_ ?_ _ _ ⟨rfl,rfl,items_int I⟩
 all_goals simp_all[Ű,SD]
theorem pP{r:Ĉ}{Q:ċ->Ą->Prop}(H:Tk prog w 1e9 k r)(h:Q ą s):Ċ 0e7 A (ZG 8 (.ref r)) Q E s:=by
 have hT:=H.typeIs;refine cF H λo items n O C D I=>?_;refine Tn (Xh hT F.slot_tuple_hash.lookup ?_);refine Tn (UF O D ?_);refine Tn ?_;show Ċ _ _ (Zj items _ _) _ _ s;rw[<- ÿ];refine Vk _ (λR r S=>r.1=Ă/\S=s/\∀v∈R,∃i t,v=.int i t) _ ?_ ?_ _ _ ⟨rfl,rfl,items_int I⟩
 all_goals simp_all[ZG,SD]
theorem CS{r:Ĉ}{ys:List ā}{Q:ċ->Ą->Prop}(K:Tk prog w 1e9 k r)(α:∀y∈ys,∃k' r',y=.ref r'/\Tk prog w 1e9 k' r')(h:Q ć s):Ċ 0e7 A (searchCouldBeSeen (.ref r) ys) Q E s:=by
 refine Tn ?_;refine Vk _ (λR r' S=>r'.1=Ă/\S=s/\∀y∈R,∃k' r',y=.ref r'/\Tk prog w 1e9 k' r') _ ?_ ?_ _ _ ⟨rfl,rfl,α⟩
 ·rintro v R q S ⟨b, rfl, L⟩
  refine bZ (L v Ta) λk' r' e H=>?_;subst e;have hrest:=λu a=>L u (Tb _ a);by_cases V:(r == r' || carriedByValue (đ r)&&carriedByValue (đ r'))=ą
  ·rw[RC V];exact SD ⟨rfl,rfl,hrest⟩
  ·rw[RE V];refine Tn (Ì K ?_);refine Tn (Ì H ?_);exact Tn (ui K (Tn (ui H (SD ⟨rfl,rfl,hrest⟩))))
 simp_all[SD]
end
end _r
variable{qs:List _r.KP}
namespace _r
open PySem PyProof.Rows
section
theorem BH{h:Ĕ}{ps:List KP}{o es ep t Z}(S:dW w h a (ps.map vw) o es ep t Z)(hz:z∈Z):∃p∈ps,z.2=(lz p.1,đ p.2):=by
 have:z.2∈Z.map (·.2):=Vi hz;refine bb (SY.mp (S.perm.mem_iff.mp this)) λp d e=>?_;exact⟨p,d,e.symm⟩
theorem KD{h:Ĕ}{ps:List KP}{o es ep t Z}(S:dW w h a (ps.map vw) o es ep t Z){p:KP}(d:p∈ps):∃z∈Z,z.2=(lz p.1,đ p.2):=by
 have:vw p∈ps.map vw:=Vi d;refine bb (SY.mp (S.perm.mem_iff.mpr this)) λz H e=>?_;exact⟨z,H,e⟩
theorem yX{r:Ĉ}{ps:List KP}{o es ep t Z}{Q:SetFound->Ą->Prop}(S:dW w 1e9 a (ps.map vw) o es ep t Z)(m:∀p∈ps,p.1∈prs)(μ:k∈prs)(N:Tk prog w 1e9 k r)(c:∀p∈ps,Tk prog w 1e9 p.1 p.2)(W:A.units<į)(X:k∈ps.map 4e2->Q (.there Ă) s)(α:k∉ps.map 4e2->∀j pre post,j<=t.mask->j∉Z.map 4e2->dB t.mask (lz k)=pre++j::post->(∀x∈pre,x∈Z.map 4e2)->Q (.free j ć) s):
  Ċ 0e7 A (setSearch a (.ref r) (lz k) ą) Q E s:=by
 have D:t.gaveWay=ć:=by
  unfold SetTable.gaveWay;rcases S.big with⟨q,_⟩|⟨q,_⟩ <;> rw[q] <;> decide
 have hz:Z.length<=t.mask:=by rcases S.big with⟨q,G⟩|⟨q,G⟩ <;> lia
 show Ċ _ _ (ô a (.ref r) (lz k) ą 100000 Ă) _ _ _;refine Tn (Vl S.ho S.hd S.fits ?_);dsimp only;rw[D];simp only[Vm,T7];generalize v:SetTable.probe t _ (lz k) (Option.getD Ă (t.probeStart (lz k)))=P
 have key:∀(hA:ă->Ć) P,(∀i z,Z[i]?=Ā z->hA i=z.2.1)->t.probe hA (lz k) (t.probeStart (lz k))=P ->
   (∃i z nx,Z[i]?=Ā z/\z.2.1=lz k/\P=Ā (.candidate z.1 i nx)) \/
   ((∀z∈Z,z.2.1≠lz k)/\∃j pre post,P=Ā (.empty j Ă)/\j<=t.mask/\j∉Z.map 4e2/\dB t.mask (lz k)=pre++j::post/\∀x∈pre,x∈Z.map 4e2):=λhA P hAe e=>by
  subst e;exact S.tab.search (S.cov μ) hz hA hAe
 rcases key _ P (λi z I=>by show (Option.map 4e2 es[i]?).getD 0=_;rw[S.tab.hashAt I];rfl) v with⟨i,z,nx,I,g,e⟩|⟨O,j,pre,post,e,V,F,U,b⟩
 ·subst e;dsimp only;have M:=T1 I;refine bb (BH S M) λp b d=>?_;have K:=F5 (m p b) μ (by rw[<- g,d]);have h:k∈ps.map 4e2:=by rw[<- K];exact Vi b
  have R:Ċ 0e7 A (do
    let Ā (_,y):=es[i]? | unsupported "internal:set-entry"
    let equal <- holding [y] (eqBool y (.ref r))
    let (es',_,t') <- setState a
    if ą&&equal then return SetFound.there Ă
    let Ā same:=t'.sameMemory t.moves t.mask|unsupported "set.changed-during-lookup:is-the-new-block-at-the-old-address"
    let still <- match (if same then t'.slot z.1 else .empty) with
     |.live f=>match es'[f]? with
      |some (_,y')=>do pure (if <- isSame y' y then Ā f else Ă)
      |none=>pure Ă
     |_=>pure Ă
    match still with
    |none=>rule "set.search.anew";ô a (.ref r) (lz k) ą 99999 Ă
    |some f=>if equal then return .there (Ā f) else ô a (.ref r) (lz k) ą 99999 (Ā nx)) Q E s:=by
   rw[S.tab.hashAt I,d];refine Tn (To (wpAny_eqBool_tuple W (c p b) N ?_));refine Tn (Vl S.ho S.hd S.fits ?_);rw[K];simp;exact SD (X h)
  by_cases L:(!t.led)=ą
  ·rw [RC L];refine Tn (CS N (λy hy=>?_) ?_)
   ·refine bb (SY.mp hy) λT l q => ?_
    have H:T∈es.toList:=by
     have:=ĕ.mem_filter.mp (Rt.mp l);exact Rt.mpr this.1
    rw[S.tab.ents]at H;refine bb (SY.mp H) λz' B G=>?_;refine bb (BH S B) λC n q3=>?_;exact⟨C.1,C.2,by rw[<- q,<- G,q3],c C n⟩
   ·simp;exact R
  ·rw[RE L];exact R
 ·subst e;refine SD (α (λh=>?_) j pre post V F U b);obtain⟨p,u,K⟩:=SY.mp h;refine bb (KD S u) λz M g=>?_;exact O z M (by rw[g,<- K])
end
noncomputable def kl(ps:List KP)(k:List Ć)(r:Ĉ):List KP:=if k∈ps.map 4e2 then ps else ps++[(k,r)]
section
theorem HJ{r:Ĉ}{ps:List KP}{Q:ċ->Ą->Prop}(S:eS w 1e9 a ps)(hk:k∈prs)(hr:Tk prog w 1e9 k r)(X:∀p∈ps,Tk prog w 1e9 p.1 p.2)(hu:A.units<į)(h:∀b h',Į a 1e9 h'->eS w h' a (kl ps k r)->Q b {s with heap:=h'}):Ċ 0e7 A (Yt a (.ref r) (lz k)) Q E s:=by
 refine kN S λo g P t Z S u M=>?_;unfold Yt setAddHashedIn;refine To (Tn (Vl S.ho S.hd S.fits ?_));dsimp only;have α:byScan (đ r) g=ć:=rfl;rw[α];simp only[Vm];refine Tn (yX S u hk hr X hu (λn=>?_) λn j pre post hj hn e hp=>?_)
 ·dsimp only;refine SD ?_;have q:=h ć 1e9 (Į.refl a 1e9) (by unfold kl;rw[RC n];exact⟨o,g,P,t,Z,S,u,M⟩);cases s;exact q
 ·dsimp only;refine Tn (Vl S.ho S.hd S.fits ?_);dsimp only;obtain⟨C,T,hperm,G⟩:=S.tab.put hj hn e hp;have e2:(t.put j).2=SetTable.below t.place j:=rfl;have L:(t.put j).1.plain=ą:=by rw[G];exact S.plain
  have D:(t.put j).1.led=t.led:=by rw[G]
  have hmask:(t.put j).1.mask=t.mask:=by rw[G]
  have hperm':(C.map (·.2)).Perm ((ps++[(k,r)]).map vw):=by
   have q1:=hperm.map (·.2);refine q1.trans ?_;rw[U1];refine List.Perm.trans (List.Perm.cons _ S.perm) ?_;exact(List.perm_append_singleton _ _).symm
  have hkeys:∀p∈ps++[(k,r)],p.1∈prs:=λp v=>by
   grind
  have hnd:((ps++[(k,r)]).map 4e2).Nodup:=by
   grind
  have hlen15:=rR hkeys hnd;have hZ':C.length=ps.length+1:=by rw[hperm.length_eq,Uu,S.len,Us]
  have z:=T.size.2;have i:kl ps k r=ps++[(k,r)]:=by unfold kl;rw[RE n]
  rw[i]at h;rw[Uq,Ur]at hlen15;generalize ht1:(t.put j).1=t1 at *;generalize hes1:SetTable.insertAt g (t.put j).2 (lz k,đ r)=es1 at *;have hline:es1.size<=sizeLine:=by rw[z,hZ'];exact RH hlen15 0e3
  rw[L];simp;refine Tn (pP hr ?_);simp;refine Tn (NE S.ho S.hd ?_ hline)
  have N:(s.heap.update a (ť es1 t1)).get? a=Ā {o with data:=.set es1 (P+1) t1}:=by
   have:=Uj (ť es1 t1) S.ho (by rw[YZ es1 t1 S.hd];rfl);rw[YZ es1 t1 S.hd]at this;exact this
  have f:=UK 1e9 a (ť es1 t1);have hfill:t1.fill=ps.length+1:=by rw[T.fill,hZ']
  by_cases hfull:t1.tooFull=ą
  ·simp [hfull]
   have c:t.mask=7/\ps.length=4:=by
    unfold SetTable.tooFull at hfull;rw[hfill,hmask]at hfull;have F:(ps.length+1)*5 ≥ t.mask*3:=by simpa using hfull
    have hl:=S.len;rw[Us]at hl;rcases S.big with⟨q,O⟩|⟨q,O⟩
    ·rw[q]at F;exact⟨q,by lia⟩
    ·rw[q]at F;lia
   have m:g.size=4:=by rw[S.tab.size.2,S.len,Us,c.2]
   have H:es1.size=5:=by rw[z,hZ',c.2]
   have R:SetTable.grown (g.size+1)=20:=by rw[m];rfl
   rw[R];unfold setRelay
   have hfits1:t1.fits es1.size=ą:=by
    unfold SetTable.fits;rw[T.fill,T.size.1,z,hmask,c.1,hZ',c.2];rfl
   refine Tn (Tn (Vl N rfl hfits1 ?_));dsimp only;rw[RE 0e3]
   obtain⟨B,order,W,er,V,x,K,μ,y,_⟩:=wm (wanted:=20) (by rfl) (by rw[H];decide) (λe' l=>by
    rw[T.ents]at l;refine bb (SY.mp (hperm'.mem_iff.mp l)) λp v q=>?_;rw[<- q]
    exact vS G7 (hkeys p v))
   rw[er]
   have hZ2:W.length=5:=by
    have:=x.length_eq;simp at this;exact RM this H
   have d:(order.filterMap (es1[·]?)).size=5:=by rw[V.size.2,hZ2]
   have U:((order.filterMap (es1[·]?)).size != es1.size)=ć:=by rw[d,H];rfl
   refine Tn ?_;show Ċ _ A (if ((order.filterMap (es1[·]?)).size != es1.size)=ą then _ else _) _ _ _;rw[U];simp only[Vm,T7];refine SD ?_;refine NE N rfl ?_ (by rw[d];decide)
   have I:((s.heap.update a (ť es1 t1)).update a (ť (order.filterMap (es1[·]?)) B)).get? a=Ā {o with data:=.set (order.filterMap (es1[·]?)) (P+1+1) B}:=by
    have:=Uj (ť (order.filterMap (es1[·]?)) B) N (by rfl);rw[YZ _ B rfl]at this;exact this
   refine SD ?_;refine h ą _ (f.trans (UK _ a _)) ⟨_,_,_,B,W,⟨I,S.ex,rfl,V,by rw[y];exact L,by rw[μ,D];exact S.led,.inr ⟨K,RH (RI hZ2) (Vj _ _)⟩,?_⟩,hkeys,hnd⟩;refine x.trans ?_;rw[T.ents];exact hperm'
  ·have F : t1.tooFull = ć := by simpa using hfull
   simp only[F,Ø,Vm,T7];refine SD ?_;refine h ą _ f ⟨_,_,_,t1,C,⟨N,S.ex,rfl,T,L,by rw[D];exact S.led,?_,hperm'⟩,hkeys,hnd⟩;unfold SetTable.tooFull at F;rw[hfill,hmask]at F;have hf':¬ ((ps.length+1)*5 ≥ t.mask*3):=by simpa using F
   rw[hmask,hZ'];rcases S.big with⟨q,O⟩|⟨q,O⟩
   all_goals lia
end
def dJ(q:List KP):List KP:=q.foldl (λps p=>kl ps p.1 p.2) []
theorem vd(q:List KP)(p:KP):dJ (q++[p])=kl (dJ q) p.1 p.2:=by simp[dJ]
theorem Do{ps:List KP}{r:Ĉ}{p:KP}(h:p∈kl ps k r):p∈ps\/p=(k,r):=by
 grind [kl]
theorem mC:∀{qs ps:List KP}{p:KP},p∈qs.foldl (λps p=>kl ps p.1 p.2) ps->p∈ps\/p∈qs
 |[],_,_,h=>.inl h
 |q::qs,ps,p,h=>by
  rw[SI]at h;rcases mC h with z|z
  ·rcases Do z with z | z
   ·exact .inl z
   ·exact .inr (by rw[z];exact Ta)
  ·exact .inr (Tb _ z)
theorem j6{p:KP}(h:p∈dJ qs):p∈qs:=(mC h).elim (λz=>by simp at z) id
theorem wW{ps:List KP}{r:Ĉ}(h:(ps.map 4e2).Nodup):((kl ps k r).map 4e2).Nodup:=by
 unfold kl
 grind
theorem jJ:∀{qs ps:List KP},(ps.map 4e2).Nodup->((qs.foldl (λps p=>kl ps p.1 p.2) ps).map 4e2).Nodup:=by
 intro x;cases x <;> simp_all[jJ,wW]
theorem sI:((dJ qs).map 4e2).Nodup:=jJ U6
noncomputable def mi (w:ē):ċ:=!w.params.followText "set-order"
theorem mv{h:Ĕ}(e:h.get? a=Ā {cls:=.type "set",dict:=Ă,data:=.set #[] 0 (.fresh 0 0 (mi w))}):eS w h a []:=
 ⟨_,_,_,_,[],⟨e,⟨rfl,rfl,rfl⟩,rfl,⟨rfl,rfl,List.Pairwise.nil,λz Z=>by simp at Z,rfl,λz Z=>by simp at Z⟩,rfl,rfl,.inl ⟨rfl,by decide⟩,List.Perm.nil⟩,λp d=>by simp at d,U6⟩
section
variable{R:Ų->Ą->Prop}{wr:List Ĉ}{G:ĕ Ö->ĕ Ö->Prop}{P:ă->ā->Prop}{St:ă->Ą->Prop}
structure DW(prog:č)(w:ē)(u:ă)(S:Ĉ)(vs:List ā)(μ:ă->Ĕ->Prop):Prop where
 keep:∀i h h',(∀b o,b<=S->h.get? b=Ā o->h'.get? b=Ā o)->μ i h->μ i h'
 add:∀(A:Đ)(i:ă)(v:ā)(s:Ą)(E:(ā->Ą->Prop))(Q:ċ->Ą->Prop),A.units<=u->vs[i]?=Ā v->μ i 1e9 ->
  (∀b h' tk,s.toks<=tk->Į S 1e9 h'->μ (i+1) h'->Q b {s with heap:=h',toks:=tk})->Ċ 0e7 A (setAdd S v) Q E s
theorem uv{u:ă}{vs:List ā}(W:WalksS prog w A.in1 I fp wr G vs.length P St)(S:Ĉ)(hSf:S∉fp)(r:∀b∈wr,S<b)(hP:∀(i:ă) v,P i v->vs[i]?=Ā v)(hJ:DW prog w u S vs μ)(U:A.units+1<=u):
  ∀(k i:ă)(s:Ą),vs.length-i=k->i<=vs.length->St i s->μ i 1e9 ->
   (∀s',Zk (S::wr) G s s'->μ vs.length s'.heap->R (.ok (.ret .none)) s') ->
   Ń 0e7 A (.builtin "set.update.loop" ⟨[.ref S,.ref I],[]⟩) R s:=by
 have h:∀b∈wr,b∈S::wr:=λb B=>Tb _ B;have H:∀b,b<=S->b∉wr:=λb B z=>S7 _ (Ry (r b z) B);intro k
 induction k with
 |zero=>
  intro i s K f d hS hR;have n:i=vs.length:=by lia
  subst n;exact Vn F.entry_set_update_loop (Tn (W.done s _ _ d λs' m=>(SD (hR s' (m.mono h) (hJ.keep _ _ _ (λb o B e=>m.heap b o (H b B) e) hS)))))
 |succ k g=>
  intro i s K f d hS hR;have t:i<vs.length:=by lia
  refine Vn F.entry_set_update_loop ?_;refine Tn (W.item i s _ _ t d λv s' hPv C m=>?_);refine Tn (To ?_);refine hJ.add A.in1 i v s' _ _ (by show A.units+1<=u;exact U) (hP i v hPv) (hJ.keep i _ s'.heap (λb o B e=>m.heap b o (H b B) e) hS) λb c j T a hS2=>?_;have hkeep:∀b o,b≠S->s'.heap.get? b=Ā o->c.get? b=Ā o:=λb o B e=>(a.2 b B).trans e;refine SD ⟨Vo F.plain_set_update_loop _,g (i+1) _ (Sd Ñ K) t (W.frame _ s' _ _ C T λb B o e=>hkeep b o (λz=>hSf (by rw[<- z];exact B)) e) hS2 λs'' hm'' hS''=>?_⟩;refine hR s'' (Zk.trans W.gtrans ((m.mono h).then_heap T λb o B e=>?_) hm'') hS''
  simp_all
end
section
theorem k6(a:ā){Q1:(ā->Ą->Prop)}
  (h:Q1 (.ref 0e0) {s with heap:=s.heap.push {cls:=.type "set",dict:=Ă,data:=.set #[] 0 (.fresh 0 0 (mi w))}}) :
  Ń 0e7 A (.call (.builtin "set.__new__") ⟨[.type "set",a],[]⟩) (wants Q1 E) s:=by
 refine Uz ?_;refine Tn (UB (F.newCall_set_1 a) (SD ⟨Vo F.plain_set_new _,Vn F.entry_set_new ?_⟩));have b:=Ys
 wp_walk
 refine UA (SD ?_);exact Tn (ZC (SD (SD h)))
namespace F
theorem sub_list_set:Uf (.type "list") (.type "set")=pure ć:=by rfl
theorem sub_list_frozenset:Uf (.type "list") (.type "frozenset")=pure ć:=by rfl
end F
theorem sD{l:Ĉ}{items:ĕ ā}(hh:(A.handled=Ă))(hl:s.heap.IsList l items)(hJ:DW prog w (A.units+20) 0e0 items.toList μ)(V:∀h',(∀b o,s.heap.get? b=Ā o->h'.get? b=Ā o)->h'.get? 0e0=Ā {cls:=.type "set",dict:=Ă,data:=.set #[] 0 (.fresh 0 0 (mi w))}->μ 0 h')(h:∀(h':Ĕ)(tk:ă),μ 4e0 h'->(∀b o,b<s.heap.objs.size->s.heap.get? b=Ā o->h'.get? b=Ā o)->Q (.ref 0e0) {s with heap:=h',toks:=tk}):
  Ċ 0e7 A (call (.type "set") [.ref l]) Q E s:=by
 obtain⟨c,tl,x⟩:=Vp.mro;have hmade:=Vp.made;have z:=Vp.sub;refine TF (Uz ?_);show Ċ _ _ (Zd (.type "set") _) _ _ _;refine SD ⟨Vq _ 3e0,Vn PySem.F.entry_type_call ?_⟩;rw[þ (Í "set" [.ref l] []) rfl];have h1:=Vp.notType;have h2:=Vp.canCreate;have hct:=PySem.F.typeCall_set_1 (.ref l)
 repeat (any_goals (first|assumption|wp_step))
 refine TH (k6 (.ref l) (E:=E) (Q1:=λobj C=>obj=.ref 0e0/\C={s with heap:=s.heap.push {cls:=.type "set",dict:=Ă,data:=.set #[] 0 (.fresh 0 0 (mi w))}}) ⟨rfl,rfl⟩) λr C u=>?_;cases r with
 |error e=>exact u
 |ok α=>
  cases α with
  |ret obj=>
   obtain⟨rfl,rfl⟩:=u;generalize D:mi w=led;have hS:(s.heap.push {cls:=.type "set",dict:=Ă,data:=.set #[] 0 (.fresh 0 0 led)}).get? 0e0=Ā {cls:=.type "set",dict:=Ă,data:=.set #[] 0 (.fresh 0 0 led)}:=SZ _ rfl;have hTy:YJ {s with heap:=s.heap.push {cls:=.type "set",dict:=Ă,data:=.set #[] 0 (.fresh 0 0 led)}} (.ref 0e0) "set" := ⟨_,hS,rfl⟩;have hli:=Vp.init.lookup;have hbi:=Vp.init.bind (.ref 0e0)
   repeat (any_goals (first|assumption|wp_step))
   refine TH (Vr (R:=wants (λr M=>r=.none/\∃h' tk,M={s with heap:=h',toks:=tk}/\μ 4e0 h' /\
     (∀b o,b<s.heap.objs.size->s.heap.get? b=Ā o->h'.get? b=Ā o)) E) Vp.init.plain PySem.F.entry_set_init (XJ hTy ?_)) λr2 M H=>?_
   ·obtain ⟨ol, f, L, nl, a⟩ := hl;obtain⟨ocls,odict,odata,oslots⟩:=ol;simp only at L a;subst L;subst a;have g:(s.heap.push {cls:=.type "set",dict:=Ă,data:=.set #[] 0 (.fresh 0 0 led)}).get? l=Ā {cls:=.type "list",dict:=odict,data:=.seq items nl,slots:=oslots}:=Tr _ f;have S:=F.sub_list_set;have y:=F.sub_list_frozenset;have hne:(ģ "list" == ģ "dict")=ć:=by decide
    have d:(s.heap.push {cls:=.type "set",dict:=Ă,data:=.set #[] 0 (.fresh 0 0 led)}).IsList l items:=⟨_,g,rfl,nl,rfl⟩;unfold Builtin.«set.__init__» ZT Builtin.Frozenset.updateFrom;generalize hPI:ű=PI
    wp_walk
    subst hPI;refine Vs d ?_;refine Tn (Vt ?_);have hlS:l<s.heap.objs.size:=S0 f;have p:A.in1.in1.in1.handled=Ă:=hh
    have hneI:l≠(s.heap.push {cls:=.type "set",dict:=Ă,data:=.set #[] 0 (.fresh 0 0 led)}).objs.size:=by
     rw[Ux];exact Sn (Uw hlS)
    have hSf:0e0 ∉ [(s.heap.push {cls:=.type "set",dict:=Ă,data:=.set #[] 0 (.fresh 0 0 led)}).objs.size,l]:=by
     rw[Ux];simp only[Td,UM,UN,UO,Yi];exact⟨Sn (Uv _),Sa hlS⟩
    have W:=(Vu (prog:=prog) (w:=w) p (s.heap.push {cls:=.type "set",dict:=Ă,data:=.set #[] 0 (.fresh 0 0 led)}).objs.size l hneI items).toS;rw[show items.size=items.toList.length by rw[Rv]]at W
    refine uv W 0e0 hSf (λb B=>?_) (λi v hv=>by rw[Sh];exact hv) hJ (by simp only[ZJ];simp) (items.toList.length-0) 0 _ (Vv _) (RT _)
     ⟨⟨_,SZ _ rfl,rfl,rfl⟩,?hL⟩ ?hS0 ?hR
    case hL=>
     obtain⟨o,ho,t⟩:=d;exact⟨o,Tr _ ho,t⟩
    case hS0=>
     refine V _ (λb o e=>Tr _ (Tr _ e)) ?_;rw[D];exact Tr _ hS
    case hR=>
     intro s' m hS';obtain⟨h',Z,K,T,O⟩:=s';have U:Z=s.gens:=m.gens;have N:K=s.drawn:=m.drawn;have X:O=s.os:=m.os;subst U;subst N;subst X;show Ċ _ _ _ _ _ _;refine SD ?_;show Ċ _ _ (ret Ę) _ _ _;refine SD ⟨rfl,h',T,rfl,by rw[Rv]at hS';exact hS',λb o B e=>?_⟩;have k:b≠s.heap.objs.size:=Sn B
     have n:b≠(s.heap.push {cls:=.type "set",dict:=Ă,data:=.set #[] 0 (.fresh 0 0 led)}).objs.size:=by
      rw[Ux];exact Sn (Uw B)
     exact m.heap b o (by simp only[Td,UM,UN,UO,Yi];exact⟨k,n⟩) (Tr _ (Tr _ e))
    simp_all
   ·cases r2 with
    |error e=>exact H
    |ok j=>
     cases j with
     |ret r=>
      obtain⟨rfl,h',tk,rfl,hS',q⟩:=H
      repeat (any_goals (first|assumption|wp_step))
      exact h _ _ hS' q
     |_=>exact H.elim
  |_=>exact u.elim
namespace F
theorem sub_tuple_set:Uf (.type "tuple") (.type "set")=pure ć:=by rfl
theorem sub_tuple_frozenset:Uf (.type "tuple") (.type "frozenset")=pure ć:=by rfl
end F
theorem pN{l:Ĉ}{items:ĕ ā}(hh:(A.handled=Ă))(hl:s.heap.IsTuple l items)(hJ:DW prog w (A.units+20) 0e0 items.toList μ)(V:∀h',(∀b o,s.heap.get? b=Ā o->h'.get? b=Ā o)->h'.get? 0e0=Ā {cls:=.type "set",dict:=Ă,data:=.set #[] 0 (.fresh 0 0 (mi w))}->μ 0 h')(h:∀(h':Ĕ)(tk:ă),μ 4e0 h'->(∀b o,b<s.heap.objs.size->s.heap.get? b=Ā o->h'.get? b=Ā o)->Q (.ref 0e0) {s with heap:=h',toks:=tk}):
  Ċ 0e7 A (call (.type "set") [.ref l]) Q E s:=by
 obtain⟨c,tl,x⟩:=Vp.mro;have hmade:=Vp.made;have z:=Vp.sub;refine TF (Uz ?_);show Ċ _ _ (Zd (.type "set") _) _ _ _;refine SD ⟨Vq _ 3e0,Vn PySem.F.entry_type_call ?_⟩;rw[þ (Í "set" [.ref l] []) rfl];have h1:=Vp.notType;have h2:=Vp.canCreate;have hct:=PySem.F.typeCall_set_1 (.ref l)
 repeat (any_goals (first|assumption|wp_step))
 refine TH (k6 (.ref l) (E:=E) (Q1:=λobj C=>obj=.ref 0e0/\C={s with heap:=s.heap.push {cls:=.type "set",dict:=Ă,data:=.set #[] 0 (.fresh 0 0 (mi w))}}) ⟨rfl,rfl⟩) λr C u=>?_;cases r with
 |error e=>exact u
 |ok α=>
  cases α with
  |ret obj=>
   obtain⟨rfl,rfl⟩:=u;generalize D:mi w=led;have hS:(s.heap.push {cls:=.type "set",dict:=Ă,data:=.set #[] 0 (.fresh 0 0 led)}).get? 0e0=Ā {cls:=.type "set",dict:=Ă,data:=.set #[] 0 (.fresh 0 0 led)}:=SZ _ rfl;have hTy:YJ {s with heap:=s.heap.push {cls:=.type "set",dict:=Ă,data:=.set #[] 0 (.fresh 0 0 led)}} (.ref 0e0) "set" := ⟨_,hS,rfl⟩;have hli:=Vp.init.lookup;have hbi:=Vp.init.bind (.ref 0e0)
   repeat (any_goals (first|assumption|wp_step))
   refine TH (Vr (R:=wants (λr M=>r=.none/\∃h' tk,M={s with heap:=h',toks:=tk}/\μ 4e0 h' /\
     (∀b o,b<s.heap.objs.size->s.heap.get? b=Ā o->h'.get? b=Ā o)) E) Vp.init.plain PySem.F.entry_set_init (XJ hTy ?_)) λr2 M H=>?_
   ·obtain ⟨ol, f, L, nl, a⟩ := hl;obtain⟨ocls,odict,odata,oslots⟩:=ol;simp only at L a;subst L;subst a;have g:(s.heap.push {cls:=.type "set",dict:=Ă,data:=.set #[] 0 (.fresh 0 0 led)}).get? l=Ā {cls:=.type "tuple",dict:=odict,data:=.seq items nl,slots:=oslots}:=Tr _ f;have S:=F.sub_tuple_set;have y:=F.sub_tuple_frozenset;have hne:(ģ "tuple" == ģ "dict")=ć:=by decide
    have d:(s.heap.push {cls:=.type "set",dict:=Ă,data:=.set #[] 0 (.fresh 0 0 led)}).IsTuple l items:=⟨_,g,rfl,nl,rfl⟩;unfold Builtin.«set.__init__» ZT Builtin.Frozenset.updateFrom;generalize hPI:ű=PI
    wp_walk
    subst hPI;refine UL d ?_;refine Tn (Vt ?_);have hlS:l<s.heap.objs.size:=S0 f;have p:A.in1.in1.in1.handled=Ă:=hh
    have hneI:l≠(s.heap.push {cls:=.type "set",dict:=Ă,data:=.set #[] 0 (.fresh 0 0 led)}).objs.size:=by
     rw[Ux];exact Sn (Uw hlS)
    have hSf:0e0 ∉ [(s.heap.push {cls:=.type "set",dict:=Ă,data:=.set #[] 0 (.fresh 0 0 led)}).objs.size,l]:=by
     rw[Ux];simp only[Td,UM,UN,UO,Yi];exact⟨Sn (Uv _),Sa hlS⟩
    have W:=(XQ (prog:=prog) (w:=w) p (s.heap.push {cls:=.type "set",dict:=Ă,data:=.set #[] 0 (.fresh 0 0 led)}).objs.size l hneI items).toS;rw[show items.size=items.toList.length by rw[Rv]]at W
    refine uv W 0e0 hSf (λb B=>?_) (λi v hv=>by rw[Sh];exact hv) hJ (by simp only[ZJ];lia) (items.toList.length-0) 0 _ 0e1 (RT _)
     ⟨⟨_,SZ _ rfl,rfl,rfl⟩,?hL⟩ ?hS0 ?hR
    case hL=>
     obtain⟨o,ho,t⟩:=d;exact⟨o,Tr _ ho,t⟩
    case hS0=>
     refine V _ (λb o e=>Tr _ (Tr _ e)) ?_;rw[D];exact Tr _ hS
    case hR=>
     intro s' m hS';obtain⟨h',Z,K,T,O⟩:=s';have U:Z=s.gens:=m.gens;have N:K=s.drawn:=m.drawn;have X:O=s.os:=m.os;subst U;subst N;subst X;show Ċ _ _ _ _ _ _;refine SD ?_;show Ċ _ _ (ret Ę) _ _ _;refine SD ⟨rfl,h',T,rfl,by rw[Rv]at hS';exact hS',λb o B e=>?_⟩;have k:b≠s.heap.objs.size:=Sn B
     have n:b≠(s.heap.push {cls:=.type "set",dict:=Ă,data:=.set #[] 0 (.fresh 0 0 led)}).objs.size:=by
      rw[Ux];exact Sn (Uw B)
     exact m.heap b o (by simp only[Td,UM,UN,UO,Yi];exact⟨k,n⟩) (Tr _ (Tr _ e))
    simp_all
   ·cases r2 with
    |error e=>exact H
    |ok j=>
     cases j with
     |ret r=>
      obtain⟨rfl,h',tk,rfl,hS',q⟩:=H
      repeat (any_goals (first|assumption|wp_step))
      exact h _ _ hS' q
     |_=>exact H.elim
  |_=>exact u.elim
theorem oG{S:Ĉ}{u:ă}(K:∀p∈qs,p.1∈prs)(hS:∀p∈qs,p.2<S)(U:u<į):DW prog w u S (qs.map λp=>đ p.2) (λi h=>eS w h S (dJ (qs.take i))/\∀p∈qs,Tk prog w h p.1 p.2):=by
 have keepT:∀{a c:Ĕ}{q:KP},q∈qs->(∀b o,b<S->a.get? b=Ā o->c.get? b=Ā o)->Tk prog w a q.1 q.2->Tk prog w c q.1 q.2:=λ{a c q} z l t=>by
  refine gI t λo items n O r=>?_;exact⟨o,items,n,l _ o (hS q z) O,r⟩
 refine⟨λi h f H=>zA λj d=>⟨j.keeps λo e=>H S o (Rx _) e,λp g=>keepT g (λb o B e=>H b o (Sj B) e) (d p g)⟩,λA i v s E Q hA V=>zA λj d hQ=>?_⟩;rw[SS]at V;cases e:qs[i]? with
 |none=>rw[e]at V;cases V
 |some p=>
  rw[e]at V;cases V;have m:=T1 e;refine To ?_;refine Tn (wpAny_pyHash_tuple (R8 hA U) (d p m) ?_);refine HJ j (K p m) (d p m) (λq z=>d q (U4 (j6 z))) 0e1 λb f k hS2=>?_;have etk:qs.take (i+1)=qs.take i++[p]:=by rw[List.take_add_one,e];rfl
  refine hQ b f _ (RA _ _) k ⟨by simp_all[vd],λq z=>keepT z (λb o B e=>(k.2 b (Sn B)).trans e) (d q z)⟩
theorem Bo(hT:∀p∈qs,Tk prog w 1e9 p.1 p.2):∀p∈qs,p.2<s.heap.objs.size:=λp d=>by
 refine gI (hT p d) λo _ _ O _=>?_;exact S0 O
theorem u2{l:Ĉ}{items:ĕ ā}(a:(A.handled=Ă))(L:s.heap.IsList l items)(H:items.toList=qs.map λp=>đ p.2)(K:∀p∈qs,p.1∈prs)(hT:∀p∈qs,Tk prog w 1e9 p.1 p.2)(U:A.units+20<į)(h:∀(h':Ĕ)(tk:ă),eS w h' 0e0 (dJ qs)->(∀b o,b<s.heap.objs.size->s.heap.get? b=Ā o->h'.get? b=Ā o)->Q (.ref 0e0) {s with heap:=h',toks:=tk}):
  Ċ 0e7 A (call (.type "set") [.ref l]) Q E s:=by
 have N:items.size=qs.length:=by rw[<- Rv,H,Us]
 refine sD a L (H ▸ oG K (Bo hT) U) (λh' k e=>⟨mv e,λp d=>?_⟩) λh' tk ⟨j,_⟩=>h h' tk ?_
 ·obtain⟨o,i,n,O,r⟩:=hT p d;exact⟨o,i,n,k _ _ O,r⟩
 simp_all
theorem sC{l:Ĉ}{items:ĕ ā}(a:(A.handled=Ă))(L:s.heap.IsTuple l items)(H:items.toList=qs.map λp=>đ p.2)(K:∀p∈qs,p.1∈prs)(hT:∀p∈qs,Tk prog w 1e9 p.1 p.2)(U:A.units+20<į)(h:∀(h':Ĕ)(tk:ă),eS w h' 0e0 (dJ qs)->(∀b o,b<s.heap.objs.size->s.heap.get? b=Ā o->h'.get? b=Ā o)->Q (.ref 0e0) {s with heap:=h',toks:=tk}):
  Ċ 0e7 A (call (.type "set") [.ref l]) Q E s:=by
 have N:items.size=qs.length:=by rw[<- Rv,H,Us]
 refine pN a L (H ▸ oG K (Bo hT) U) (λh' k e=>⟨mv e,λp d=>?_⟩) λh' tk ⟨j,_⟩=>h h' tk ?_
 ·refine gI (hT p d) λo i n O r=>?_;exact⟨o,i,n,k _ _ O,r⟩
 grind
end
end _r
namespace _r
open PySem PySem.W PyProof.Rows
noncomputable def oX(k:List Ć):Ć:=k.getD 0 0*6+k.getD 1 0
theorem dX(h:k∈prs):∃a b:Ć,k=[a,b]/\0<=a/\a<b/\b<6:=by
 grind [prs]
theorem Gd{k':List Ć}(h:k∈prs)(h':k'∈prs)(e:oX k=oX k'):k=k':=by
 obtain⟨a,b,rfl,H,g,i⟩:=dX h;refine aJ (dX h') λc d V j l m=>?_;subst V;have f:a*6+b=c*6+d:=e;have:a=c:=by lia
 simp_all
def vY(ps:List KP):Prop:=ps.Pairwise λp q=>oX p.1<oX q.1
noncomputable def ba(ps:List KP):List ā:=ps.map λp=>đ p.2
namespace Fx
theorem slot_setiter_next:Zr "set_iterator" "__next__" "set_iterator.__next__" :=
 .of (owner:="set_iterator") (n:="__next__") (by rfl) 3e0 3e0 3e0
  (by first|exact .inl 3e0|exact .inr 3e0) (by rfl)
theorem entry_setiter_next:Xw Zi "set_iterator.__next__" = Ā Builtin.«set_iterator.__next__»:=XH 0e5
theorem args_setiter_next (a:ā):Yj "set_iterator.__next__" ⟨[a],[]⟩:=by unfold Yj;kernel_rfl
theorem entry_set_iter:Xw Zi "set.__iter__" = Ā Builtin.«frozenset.__iter__»:=
 entryFor_alias (id':="frozenset.__iter__") 0e5 rfl 3e0 0e5
end Fx
def dY (h:Ĕ) (I S:Ĉ) (i n z slot:ă):Prop:=h.get? I=Ā {cls:=.type "set_iterator",dict:=Ă,data:=.fields #[.int (slot:Ć) 0,.int (i:Ć) 0,.ref S,.int (n:Ć) 0,.int (z:Ć) 0],slots:=#[]}
noncomputable def dt (w:ē) (S:Ĉ) (z:ă) (es:ĕ (Ć×ā)):List (Ć×ā):=if w.params.followText "set-order" then (T0 (w.params.setOrder S z) es).toList else es.toList
noncomputable def cO (w:ē) (Z:List (ă×Ć×ā)) (i:ă):ă:=if w.params.followText "set-order" then 0 else if i=0 then 0 else (Z.getD (i-1) (0,0,.none)).1+1
theorem qq{Y:Type}(next:ă->ă):∀(fuel k:ă)(left:List Y)(out:ĕ Y),left.length=fuel->(T0.go next fuel k left out).toList.Perm (out.toList++left)
 |0,k,left,out,h=>by
  have this:=List.length_eq_zero_iff.mp h;subst this;show out.toList.Perm (out.toList++[]);rw[TC]
 |fuel+1,k,left,out,h=>by
  have t:next k%left.length<left.length:=Xs _ 0e1
  show (match left[next k%left.length]? with|some x=>_|none=>_:ĕ Y).toList.Perm _;rw[Vw t];refine(qq next fuel (k+1) _ _ (by rw[List.length_eraseIdx_of_lt t];exact Sd Ñ h)).trans ?_;rw[ĕ.toList_push,Va];refine List.Perm.append_left _ ?_;rw[Vb,List.eraseIdx_eq_take_drop_succ]
  have q:(left.take (next k%left.length)++left[next k%left.length]::left.drop (next k%left.length+1))=left:=by
   rw[List.getElem_cons_drop];exact U0 _ _
  have G:=(List.perm_middle (a:=left[next k%left.length]) (l₁:=left.take (next k%left.length)) (l₂:=left.drop (next k%left.length+1))).symm
  lia
theorem iY{S:Ĉ}:(dt w S ep es).Perm es.toList:=by
 unfold dt;split
 ·have:=qq (w.params.setOrder S ep) es.size 0 es.toList #[] 1e1;simpa[T0] using this
 ·exact List.Perm.refl _
theorem Dm{t:SetTable}(T:sM t es Z)(B:w.params.followText "set-order" = ć)(n:i<=Z.length):SetTable.below t.place (cO w Z i)=i:=by
 have r:DJ t.place.toList:=by rw[T.place];exact T.ris
 refine gF (j5 r (cO w Z i)) λb1 b2 b3=>?_;have d:=T.size.1
 have g:∀k,k<Z.length->t.place.getD k (cO w Z i)=(Z.getD k (0,0,.none)).1:=λk K=>by
  have e:t.place[k]?=Ā (Z[k]).1:=by rw[<- Sh,T.place,SS,Vw K];rfl
  simp_all
 have S:∀a b,a<b->b<Z.length->(Z.getD a (0,0,.none)).1<(Z.getD b (0,0,.none)).1:=λa b H h=>by
  rw[<- g a (RU H h),<- g b h];exact rF r _ a b H (Ry h (RI (R9 d)))
 have l:cO w Z i=if i=0 then 0 else (Z.getD (i-1) (0,0,.none)).1+1:=by
  simp_all[cO]
 by_cases f:i=0
 ·rw [RC f] at l;rw[l]at b2⊢;by_cases m:SetTable.below t.place 0=0
  ·rw[m,f]
  ·have:=b2 0 (AT m);lia
 ·rw [RE f] at l
  have O:¬ SetTable.below t.place (cO w Z i)<=i-1:=λj=>by
   have:=b3 (i-1) j 0e1;rw[g _ 0e1]at this
   lia
  have I:¬ i<SetTable.below t.place (cO w Z i):=λc=>by
   have:=b2 i c;have z:i<Z.length:=Ry c (RH b1 (RI d));rw[g i z]at this;have:=S (i-1) i (ă.sub_lt (AT f) (Uv _)) z
   lia
  lia
section
theorem t7{ps:(List (Ć×ā))}{o es ep t Z}{Q:Option (ā×ă)->Ą->Prop}(S:(dW w 1e9 a ps o es ep t Z))(I:i<=Z.length)(h:Q (((dt w a ep es)[i]?).map λe=>(e.2,cO w Z (i+1))) s):Ċ 0e7 A (setNext a (cO w Z i) i ep) Q E s:=by
 refine Tn (Vl S.ho S.hd S.fits ?_);cases B:w.params.followText "set-order" with
 |true=>
  have b:dt w a ep es=(T0 (w.params.setOrder a ep) es).toList:=by simp_all[dt]
  have m:∀j,cO w Z j=0:=λj=>by simp_all[cO]
  rw[b,m]at h;show Ċ _ _ (if (w.params.followText "set-order")=ą then _ else _) _ _ _;rw[B,RC rfl,RE 1e1];refine Tn ?_;refine Tn (Vl S.ho S.hd S.fits ?_);show Ċ _ _ (if (w.params.followText "set-order")=ą then _ else _) _ _ _;rw[B];refine Tn (UA (SD (SD ?_)));rw[m,<- Sh];exact h
 |false=>
  have b:dt w a ep es=es.toList:=by simp_all[dt]
  show Ċ _ _ (if (w.params.followText "set-order")=ą then _ else _) _ _ _;rw[B];show Ċ _ _ (if (!t.plain&&decide (es.size>1))=ą then _ else _) _ _ _;rw[(show (!t.plain&&decide (es.size>1))=ć by rw[S.plain];rfl)];refine Tn ?_;show Ċ _ _ (if (!t.led && !es.isEmpty)=ą then _ else _) _ _ _;rw[(show t.led=ą by rw[S.led,B];rfl)];refine SD (SD ?_);rw[Dm S.tab B I];by_cases H:i<Z.length
  ·have d := Vw H;have f:=S.tab.hashAt d;have c:t.place[i]?=Ā (Z[i]).1:=by rw[<- Sh,S.tab.place,SS,d];rfl
   simp_all[cO]
  ·have : es[i]? = Ă := by rw [U5, S.tab.size.2]; exact R0 H
   simp_all
end
section
theorem dY.typeIs{S:Ĉ}{slot:ă}(h:dY 1e9 I S i n ep slot):s.TypeIs (.ref I) "set_iterator" := ⟨_,h,rfl⟩
theorem eX{ps:(List (Ć×ā))}{o es ep t Z}(S:(dW w 1e9 a ps o es ep t Z)):s.TypeIs (.ref a) "set" := ⟨o,S.ho,S.ex.1⟩
theorem Cm{ps:(List (Ć×ā))}{o es ep t Z}(S:(dW w 1e9 a ps o es ep t Z))(hQ:Q (.ref 0e0) {s with heap:=s.heap.push {cls:=.type "set_iterator",data:=.fields #[.int ((0:ă):Ć) 0,.int ((0:ă):Ć) 0,.ref a,.int (Z.length:Ć) 0,.int (ep:Ć) 0]}}):
  Ċ 0e7 A (ű (.ref a)) Q E s:=by
 refine N_ (eX S) PySem.F.slot_set_iter (Ud PySem.F.slot_set_iter (eX S) Fx.entry_set_iter ?_ (PySem.F.args_set_iter_1 _));refine Tn (UB rfl ?_);refine Tn (Tn (Vx S.ho S.hd S.fits (SD ?_)));refine Tn (Tn (Vl S.ho S.hd S.fits ?_));refine Tn (Tn (UA (SD (SD ?_))));show Ċ _ _ (if (!w.params.followText "set-order" && (!t.plain&&decide (es.size>1)))=ą then _ else _) _ _ _;rw[(show (!w.params.followText "set-order" && (!t.plain&&decide (es.size>1)))=ć by rw[S.plain];simp)];refine Tn (SD ?_);refine Tn (wpAny_setEpoch_of S.ho S.hd S.fits ?_);refine Tn (Ug (SD ⟨_,rfl, "set_iterator",_,⟨_,SZ _ rfl,rfl⟩,Fx.slot_setiter_next.lookup,?_⟩));rw[S.tab.size.2];exact hQ
theorem Cn{ps:(List (Ć×ā))}{o es ep t Z}{v:Ć×ā}{Q:Option ā->Ą->Prop}(S:(dW w 1e9 a ps o es ep t Z))(h:dY 1e9 I a i Z.length ep (cO w Z i))(V:(dt w a ep es)[i]?=Ā v)(hQ:∀h',dY h' I a (i+1) Z.length ep (cO w Z (i+1))->Į I 1e9 h'->Q (Ā v.2) {s with heap:=h'}):Ċ 0e7 A (Ż (.ref I)) Q E s:=by
 have hT:=h.typeIs;have H:=h
 have l:i<Z.length:=by
  have:=(Se.mp V).1;rw[iY.length_eq,Rv,S.tab.size.2]at this;exact this
 refine Tn (Sy (Ub hT Fx.slot_setiter_next (Ud Fx.slot_setiter_next hT Fx.entry_setiter_next ?_ (Fx.args_setiter_next _))));refine Tn (UB rfl ?_);refine Tn (Tn (Tq H ?_));refine SD ?_;refine Tn (Vx S.ho S.hd S.fits ?_);rw[S.tab.size.2];simp;refine Tn (t7 S (Sj l) ?_);rw[V];refine Tn (Vy H (RY _) λf e b=>?_);refine Tn (Vy e 1e1 λd m c=>?_);refine SD ⟨v.2,rfl,SD (hQ d ?_ (b.trans c))⟩
 simp_all[dY,rawInt]
theorem EJ{ps:(List (Ć×ā))}{o es ep t Z}{Q:Option ā->Ą->Prop}(i:(A.handled=Ă))(S:(dW w 1e9 a ps o es ep t Z))(h:dY 1e9 I a Z.length Z.length ep (cO w Z Z.length))(hQ:∀h',XT I 1e9 h'->Q Ă {s with heap:=h'}):Ċ 0e7 A (Ż (.ref I)) Q E s:=by
 have hT:=h.typeIs;have H:=h
 have V:(dt w a ep es)[Z.length]?=Ă:=by
  rw[List.getElem?_eq_none_iff,iY.length_eq,Rv,S.tab.size.2];exact Rx _
 refine Tn (Sy (Ub hT Fx.slot_setiter_next (Ud Fx.slot_setiter_next hT Fx.entry_setiter_next ?_ (Fx.args_setiter_next _))));refine Tn (UB rfl ?_);refine Tn (Tn (Tq H ?_));refine SD ?_;refine Tn (Vx S.ho S.hd S.fits ?_);rw[S.tab.size.2];simp;refine Tn (t7 S (Rx _) ?_);rw[V];refine Tn (Vy H (Rz (Vj _ _)) λc e b=>?_);refine Tn ?_;refine Tn (Ug ?_ (by size_fits));refine Tn (UB (by rfl) ?_);refine Ug ?_ (by size_fits);refine Tn (ñ ?_);rw[show A.in1.handled=Ă from i];refine Tn (SD (XU ?_));refine Tn (Vz ⟨_,SZ _ rfl,rfl⟩ YC ?_);exact SD (hQ _ ((b.extBut.push _).push _))
end
namespace Fx
theorem entry_extend_loop:Xw Zi "list.extend.loop" = Ā Builtin.«list.extend.loop»:=XH 0e5
theorem plain_extend_loop:plainId "list.extend.loop" = ą:=by decide +kernel
end Fx
section
theorem u6{ps:(List (Ć×ā))}{o es ep t Z}{Q:ċ->Ą->Prop}(S:(dW w 1e9 a ps o es ep t Z))(h:Q ć s):Ċ 0e7 A (Builtin.List.listLengthHint (.ref a)) Q E s:=by
 refine Tn (Xh (eX S) PySem.F.slot_set_len.lookup ?_);exact Tn (Vz (eX S) Ys (Tn (Ue (eX S) (SD h))))
theorem u7{R:Ų->Ą->Prop}{ps:(List (Ć×ā))}{o es ep t Z}(j:(A.handled=Ă))(hIa:I≠a)(hIL:I≠L)(hLa:L≠a)(hz:Z.length<=100):
  ∀(k i n:ă) (s:Ą),Z.length-i=k->i<=Z.length->dW w 1e9 a ps o es ep t Z->dY 1e9 I a i Z.length ep (cO w Z i)->s.heap.get? L=Ā (ĥ "list" (((dt w a ep es).take i).map (·.2)).toArray n) ->
   (∀h' m,(∀b u,b≠I->b≠L->s.heap.get? b=Ā u->h'.get? b=Ā u)->h'.get? L=Ā (ĥ "list" ((dt w a ep es).map (·.2)).toArray m)->R (.ok (.ret (.ref L))) {s with heap:=h'}) ->
   Ń 0e7 A (.builtin "list.extend.loop" ⟨[.ref L,.ref I,.ref L],[]⟩) R s:=by
 intro k
 induction k with
 |zero=>
  intro i n s K p S H hL hR;have e:i=Z.length:=by lia
  subst e;refine Vn Fx.entry_extend_loop ?_;rw[VA Fx.plain_extend_loop _];refine Tn (EJ (by simpa using j) S H λh' D=>?_);refine SD (hR h' n (λb u g _ q=>D b u g q) ?_);rw[UX (by rw[iY.length_eq,Rv,S.tab.size.2];exact Rx _)]at hL;exact D L _ (R7 hIL) hL
 |succ k r=>
  intro i n s K p S H hL hR;have l:i<(dt w a ep es).length:=by rw[iY.length_eq,Rv,S.tab.size.2];lia
  refine Vn Fx.entry_extend_loop ?_;refine Tn (Cn S H (Vw l) λh' f B=>?_);have hL':=(B.2 L (R7 hIL)).trans hL
  have z:(((dt w a ep es).take i).map (·.2)).toArray.size<=100:=by
   grind
  refine Tn (VB hL' rfl ?_ (RH z 0e3) (by rw[ĕ.size_push];exact RH (WP z) 0e3));have hL2:=VC hL' (·.push ((dt w a ep es)[i]).2)
  have eL:(((dt w a ep es).take i).map (·.2)).toArray.push ((dt w a ep es)[i]).2=(((dt w a ep es).take (i+1)).map (·.2)).toArray:=by
   have q:(dt w a ep es).take (i+1)=(dt w a ep es).take i++[(dt w a ep es)[i]]:=by rw[List.take_add_one,Vw l];rfl
   grind
  rw[eL]at hL2;have h:=UK h' L (Ğ (·.push ((dt w a ep es)[i]).2));refine SD ⟨Vo Fx.plain_extend_loop _,r (i+1) _ _ (Sd Ñ K) 0e1 ?_ ?_ hL2 λh'' m U M=>?_⟩
  ·exact⟨((h.2 a (R7 hLa)).trans ((B.2 a (R7 hIa)).trans S.ho)),S.ex,S.hd,S.tab,S.plain,S.led,S.big,S.perm⟩
  ·exact(h.2 I hIL).trans f
  ·refine hR h'' m (λb u c d q=>U b u c d ?_) M;exact(h.2 b d).trans ((B.2 b c).trans q)
theorem sE{Y:Type}{f:Y->β}{l m:List β}(h:l.Perm m):∀ps:List Y,m=ps.map f->∃qs:List Y,qs.Perm ps/\l=qs.map f:=by
 induction h with
 |nil=>
  simp
 |cons x _ b=>
  intro ps e;cases ps with
  |nil=>cases e
  |cons p ps=>
   refine bb (b ps (UV e).2) λqs H c=>?_;exact⟨p::qs,H.cons p,by simp_all⟩
 |swap x y l=>
  intro ps e
  match ps,e with
  |p::q::r,e=>
   obtain⟨g,j⟩:=UV e;exact⟨q::p::r,List.Perm.swap _ _ _,by simp_all⟩
 |trans _ _ i I=>
  intro ps e;refine bb (I ps e) λqs H c=>?_;refine bb (i qs c) λR d a=>?_;exact⟨R,d.trans H,a⟩
theorem vb{ps:(List (Ć×ā))}{o es ep t Z}{Q:List ā->Ą->Prop}(i:(A.handled=Ă))(S:(dW w 1e9 a ps o es ep t Z))(hz:Z.length<=100)(h:∀qs:List (Ć×ā),qs.Perm ps->∀h',(∀b u,s.heap.get? b=Ā u->h'.get? b=Ā u)->s.heap.objs.size<=h'.objs.size->Q (qs.map (·.2)) {s with heap:=h'}):Ċ 0e7 A (Yn (.ref a)) Q E s:=by
 have l:=S0 S.ho;refine Tn (Vt (Vn ã ?_));refine Tn (VD (SD ⟨Vq _ 3e0,Vn XG ?_⟩));show Ċ _ _ (Builtin.List.listExtendWith (.ref 0e0) (.ref a) (.ref 0e0)) _ _ {s with heap:=s.heap.push (ĥ "list" #[] 0)};have d:dW w (s.heap.push (ĥ "list" #[] 0)) a ps o es ep t Z:=⟨Tr _ S.ho,S.ex,S.hd,S.tab,S.plain,S.led,S.big,S.perm⟩;refine Tn (Ue (eX d) ?_)
 have hsame:Builtin.List.listSameRef (.ref 0e0) (.ref a)=ć:=by
  show (0e0 == a)=ć
  lia
 rw[hsame];refine Tn (Cm d ?_);generalize hH:(s.heap.push (ĥ "list" #[] 0)).push {cls:=.type "set_iterator",data:=.fields #[.int ((0:ă):Ć) 0,.int ((0:ă):Ć) 0,.ref a,.int (Z.length:Ć) 0,.int (ep:Ć) 0]}=H2;have eI:(s.heap.push (ĥ "list" #[] 0)).objs.size=s.heap.objs.size+1:=by rw[VE]
 have H:∀b u,s.heap.get? b=Ā u->H2.get? b=Ā u:=λb u q=>by grind [PySem.Heap.get?_push_of_some]
 have e:dW w H2 a ps o es ep t Z:=⟨H a o S.ho,S.ex,S.hd,S.tab,S.plain,S.led,S.big,S.perm⟩;have hL2:H2.get? 0e0=Ā (ĥ "list" #[] 0):=by rw[<- hH];exact Tr _ (SZ _ rfl)
 have hI2:H2.get? (s.heap.objs.size+1)=Ā {cls:=.type "set_iterator",data:=.fields #[.int ((0:ă):Ć) 0,.int ((0:ă):Ć) 0,.ref a,.int (Z.length:Ć) 0,.int (ep:Ć) 0]}:=by
  rw[<- hH,<- eI];exact SZ _ rfl
 rw[eI];refine Tn (To (u6 e ?_));refine Tn (Sw ?_);refine Tn ?_;refine Tn (VB hL2 rfl ?_ (RT _) 0e3);have hL3:=VC hL2 (·.push Ę);refine VB hL3 rfl ?_ 0e3 0e3;have hL4:=VC hL3 (·.pop);have c:=((UK H2 0e0 (Ğ (·.push Ę))).trans (UK (H2.update 0e0 (Ğ (·.push Ę))) 0e0 (Ğ (·.pop))));generalize hH4:(H2.update 0e0 (Ğ (·.push Ę))).update 0e0 (Ğ (·.pop))=H4 at hL4 c;have neL:=Sn l;have neI:s.heap.objs.size+1≠s.heap.objs.size:=WF _;refine SD ⟨Vq _ 3e0,?_⟩
 refine u7 (by simpa using i) (Sa (Uw l)) neI (R7 neL) hz (Z.length-0) 0 _ {s with heap:=H4} (Vv _) (RT _)
  ⟨(c.2 a neL).trans e.ho,S.ex,S.hd,S.tab,S.plain,S.led,S.big,S.perm⟩ ?_ (by rw[List.take_zero];exact hL4) λh' m U M=>?_
 ·unfold dY;rw[(show cO w Z 0=0 by simp[cO])];exact(c.2 _ neI).trans hI2
 ·dsimp only;refine Tn (Tq M ?_);refine SD ?_
  have n:=h (dt w a ep es) (iY.trans (by rw[S.tab.ents];exact S.perm)) h' λb u q=>by
   have B:=S0 q;exact U b u (Sn (Uw B)) (Sn B) ((c.2 b (Sn B)).trans (H b u q))
  exact n (Sj (S0 M))
theorem va{ps:List KP}{Q:List ā->Ą->Prop}(i:(A.handled=Ă))(S:eS w 1e9 a ps)(h:∀qs:List KP,qs.Perm ps->∀h',(∀b u,s.heap.get? b=Ā u->h'.get? b=Ā u)->s.heap.objs.size<=h'.objs.size->Q (ba qs) {s with heap:=h'}):Ċ 0e7 A (Yn (.ref a)) Q E s:=by
 refine kN S λo c e t Z S k n=>?_;have h15:=rR k n;refine vb i S (by rw[S.len,Us];exact RH h15 (Vj _ _)) λqs z h' K d=>?_;refine bb (sE z ps rfl) λR q G=>?_;have μ:qs.map (·.2)=ba R:=by rw[G,UR];rfl
 simp_all
end
end _r
namespace PySem
open Sem (wp)
theorem qI(o:ħ)(f):(o.mapFields f).dict=o.dict:=by
 obtain⟨c,d,t,q⟩:=o;cases t <;> rfl
namespace Heap
def TracedD(h base:Ĕ)(e:Ĉ)(cls a0:ā)(d:Option Ĉ):Prop:=
 ∃o y T oT S,h.get? e=Ā o/\(o.cls=cls/\o.dict=d/\y[0]?=Ā a0)/\o.data=.fields y/\y[1]?=Ā (.ref T)/\base.get? T=Ă/\T≠e/\h.get? T=Ā oT/\oT.data=.fields S/\S[3]?=Ā .none
def TracedAtD(h base:Ĕ)(e:Ĉ)(cls a0:ā)(d:Option Ĉ)(f:ā):Prop:=
 ∃o y T oT S,h.get? e=Ā o/\(o.cls=cls/\o.dict=d/\y[0]?=Ā a0)/\o.data=.fields y/\y[1]?=Ā (.ref T)/\base.get? T=Ă/\T≠e/\h.get? T=Ā oT/\oT.data=.fields S/\S[3]?=Ā f
theorem TracedD.at{h:Ĕ}{e:Ĉ}(x:h.TracedD base e cls a0 dx):h.TracedAtD base e cls a0 dx .none:=x
def NotedD(base:Ĕ)(l:List Ŋ)(e:Ĉ)(cls a0:ā)(d:Option Ĉ)(f:ā)(h h':Ĕ):Prop:=
 base.StaysIn h'/\h'.FunFrames base l/\h'.TracedAtD base e cls a0 d f/\∀b o,h.get? b=Ā o->(∀y,o.data≠.fields y)->∃q,h'.get? b=Ā {o with slots:=q}
end Heap
section
variable{M:ų}
def j7(base:Ĕ)(l:List Ŋ)(e:Ĉ)(cls a0:ā)(d:Option Ĉ)(h h':Ĕ):Prop:=
 base.StaysIn h'/\h'.FunFrames base l/\h'.TracedD base e cls a0 d /\
  ∀b o,h.get? b=Ā o->(∀y,o.data≠.fields y)->∃q,h'.get? b=Ā {o with slots:=q}
theorem iE{e:Ĉ}{vs:ĕ ā}{head:ā}{Q:(ŏ->Ą->Prop)}(r:(A.frames=Ā (env::outer)))(d:(s.heap.FunFrames base (env::outer)))(p:env.frame=Ā L)(n:s.heap.get? e=Ā oe)(g:(base.StaysIn 1e9))(N:base.get? e=Ă)(hd:oe.data=.fields vs)(z:1<vs.size)(j:vs[0]?=Ā a0)(h:∀h',j7 base (env::outer) e oe.cls a0 oe.dict 1e9 h'->Q () {s with heap:=h'}):
  Ċ M A (do let a <- frameOf env;let pl <- entryPlaceOf L hadNext;let b <- EntryCells.newEntry head a .none (rawInt L) .none pl;Xu (.ref e) 1 b) (λ_ s'=>Ċ M A (ŵ (.ref e) Ă) Q E s') E s:=by
 have c:e∉(env::outer).filterMap (·.frame):=λm=>by
  refine kh (d.mem m) λ_ o O F=>?_
  simp_all
 refine Tn (O_ r d p λh₁ hs₁=>?_);refine Tn (Ch λpl l=>?_);unfold EntryCells.newEntry newFields;refine Tn (Ug ?_ (l.sizeOk5 _ _ _ _ _));have he₁:h₁.get? e=Ā oe:=(hs₁.2.1 e c).trans n;have kb₁:base.StaysIn h₁:=λb o H=>(hs₁.2.1 b λm=>by rw[(d.mem m).1]at H;cases H).trans (g b o H);have he₂:=Tr (h:=h₁) {cls:=.type "traceback",dict:=Ă,data:=.fields ([head,.ref L,.none,rawInt L,.none]++(if pl.isEmpty then List.replicate 6 Ę else pl)).toArray} he₁;refine UG he₂ hd z ?_;have hTe:h₁.objs.size≠e:=Sa (S0 he₁);have hd₃:=UI hd (·.setIfInBounds 1 (đ h₁.objs.size));have he₃:=Uj (ľ (·.setIfInBounds 1 (đ h₁.objs.size))) he₂ (UH hd₃)
 have hT₃:=(Uk (h₁.push {cls:=.type "traceback",dict:=Ă,data:=.fields ([head,.ref L,.none,rawInt L,.none]++(if pl.isEmpty then List.replicate 6 Ę else pl)).toArray})
  (ľ (·.setIfInBounds 1 (đ h₁.objs.size))) (R7 hTe)).trans (SZ h₁ rfl)
 unfold ŵ;refine Tn (T9 he₃ hd₃ (x:=.ref h₁.objs.size) (by simp[z]) ?_);rw[RC (show (đ h₁.objs.size != Ę)=ą from by rfl)];refine UG hT₃ rfl 1e1 (h _ ?_)
 have keep:∀b o,b≠e->h₁.get? b=Ā o ->
   (((h₁.push { cls := .type "traceback", dict := Ă, data := .fields ([head, .ref L, .none, rawInt L, .none] ++ (if pl.isEmpty then List.replicate 6 Ę else pl)).toArray }).update e (ľ (·.setIfInBounds 1 (đ h₁.objs.size)))).update h₁.objs.size
     (ľ (·.setIfInBounds 3 ((Ă:Option Ĉ).elim Ę λf=>rawInt f)))).get? b=Ā o:=λb o k B=>by
  have hbT:h₁.objs.size≠b:=Sa (S0 B)
  simp_all[Uk,R7,Tr]
 have noRecord:∀b o,s.heap.get? b=Ā o->(∀vs,o.data≠.fields vs)->b≠e:=λb o B F q=>by
  simp_all
 refine⟨λb o H=>keep b o (λq=>by lia) (kb₁ b o H),d.of_keeps λb o B F=>?_,?_,λb o B F=>?_⟩
 ·obtain⟨i,S⟩:=hs₁.2.2 b o B;exact⟨_,keep b _ (noRecord b o B F) S,rfl⟩
 ·refine⟨_,_,h₁.objs.size,_,_,?_,⟨UJ _ _,qI _ _,by rw[ĕ.getElem?_setIfInBounds_ne 0e3];exact j⟩,hd₃,by simp[z],kb₁.fresh,hTe,Uj _ hT₃ (UH (UI rfl _)),UI rfl _,by first|(rfl;done)|(rcases l with rfl|⟨_,_,_,_,_,_,_,rfl⟩ <;> simp)⟩;rw[Uk _ _ hTe];exact he₃
 ·obtain⟨i,S⟩:=hs₁.2.2 b o B;exact⟨i,keep b _ (noRecord b o B F) S⟩
theorem ji{e:Ĉ}{vs:ĕ ā}{Q:(ŏ->Ą->Prop)}(r:(A.frames=Ā (env::outer)))(l:(s.heap.FunFrames base (env::outer)))(F:env.frame=Ā L)(n:s.heap.get? e=Ā oe)(g:(base.StaysIn 1e9))(N:base.get? e=Ă)(hd:oe.data=.fields vs)(H:vs[1]?=Ā .none)(d:vs[0]?=Ā a0)(h:∀h',j7 base (env::outer) e oe.cls a0 oe.dict 1e9 h'->Q () {s with heap:=h'}):Ċ M A (Ů env (.ref e)) Q E s:=by
 unfold Ů Ŷ;simp only[F];refine Tn (Tn (T9 n hd H ?_));rw[RE 0e3];exact iE r l F n g N hd (UW.mp H).1 d h
theorem jC{e:Ĉ}{Q:(ŏ->Ą->Prop)}(r:(A.frames=Ā (env::outer)))(l:(s.heap.FunFrames base (env::outer)))(f:env.frame=Ā L)(t:s.heap.TracedD base e cls a0 dx)(g:(base.StaysIn 1e9))(N:base.get? e=Ă)(h:∀h',j7 base (env::outer) e cls a0 dx 1e9 h'->Q () {s with heap:=h'}):Ċ M A (Ů env (.ref e)) Q E s:=by
 obtain⟨k,y,T,oT,S,n,⟨H,x,c⟩,D,a,hnT,hTe,hT,hdT,d⟩:=t;subst H x;unfold Ů Ŷ;simp only[f];refine Tn (Tn (T9 n D a ?_));rw[RC (show (đ T != Ę)=ą from by rfl)];refine Tn (T9 hT hdT d ?_);rw[RE (show ¬ ((Ę == rawInt L)=ą) from by simp[rawInt])];refine Tn (UG hT hdT (UW.mp d).1 ?_);have other:∀b,b≠T->(s.heap.update T (ľ (·.setIfInBounds 3 Ę))).get? b=s.heap.get? b:=λb B=>Uk _ _ (R7 B)
 have noRecord:∀b o,s.heap.get? b=Ā o->(∀y,o.data≠.fields y)->b≠T:=λb o B F q=>by
  simp_all
 refine iE r (l.of_keeps λb o B F=>⟨o,(other b (noRecord b o B F)).trans B,rfl⟩) f ((other e (R7 hTe)).trans n)
  (λb o O=>(other b λq=>by lia).trans (g b o O)) N D (UW.mp a).1 c
  λh'=>Hj λX G i j=>h h' ⟨X,G,i,λb o B F=>j b o ((other b (noRecord b o B F)).trans B) F⟩
def bw(base:Ĕ)(l:List Ŋ)(e:Ĉ)(cls a0:ā)(d:Option Ĉ)(h:Ĕ):Prop:=
 base.StaysIn h/\base.get? e=Ă/\h.FunFrames base l/\h.TracedD base e cls a0 d
theorem bw.there{h:Ĕ}{l:List Ŋ}{e:Ĉ}(x:bw base l e cls a0 dx h):∃ob,h.get? e=Ā ob/\ob.cls=cls:=by
 obtain⟨_,_,_,o,_,_,_,_,n,C,_⟩:=x;exact⟨o,n,C.1⟩
theorem l6{e:Ĉ}{Q:(ŏ->Ą->Prop)}(r:(A.frames=Ā (env::outer)))(F:env.frame=Ā L)(h:bw base (env::outer) e cls a0 dx 1e9)(hQ:∀h',bw base outer e cls a0 dx h'->s.heap.UpToSlots h'->Q () {s with heap:=h'}):Ċ M A (Ů env (.ref e)) Q E s:=by
 refine lB h λq O y G=>?_;refine jC r y F G q O λh' hL=>?_;refine lB hL λK V k a=>?_;refine gF V λ_ _ d=>?_;exact hQ h' ⟨K,O,d,k⟩ a
theorem sk{e:Ĉ}{vs:ĕ ā}{head:ā}{Q:(ŏ->Ą->Prop)}(r:(A.frames=Ā (env::outer)))(l:(s.heap.FunFrames base (env::outer)))(j:env.frame=Ā L)(n:s.heap.get? e=Ā oe)(g:(base.StaysIn 1e9))(N:base.get? e=Ă)(hd:oe.data=.fields vs)(z:1<vs.size)(k:vs[0]?=Ā a0)(h:∀h',Ĕ.NotedD base (env::outer) e oe.cls a0 oe.dict (rawInt L) 1e9 h'->Q () {s with heap:=h'}):
  Ċ M A (do let a <- frameOf env;let pl <- entryPlaceOf L hadNext;let b <- EntryCells.newEntry head a .none (rawInt L) .none pl;Xu (.ref e) 1 b) Q E s:=by
 have c:e∉(env::outer).filterMap (·.frame):=λm=>by
  refine kh (l.mem m) λ_ o O F=>?_
  simp_all
 refine Tn (O_ r l j λh₁ hs₁=>?_);refine Tn (Ch λpl f=>?_);unfold EntryCells.newEntry newFields;refine Tn (Ug ?_ (f.sizeOk5 _ _ _ _ _));have he₁:h₁.get? e=Ā oe:=(hs₁.2.1 e c).trans n;have kb₁:base.StaysIn h₁:=λb o H=>(hs₁.2.1 b λm=>by rw[(l.mem m).1]at H;cases H).trans (g b o H);have he₂:=Tr (h:=h₁) {cls:=.type "traceback",dict:=Ă,data:=.fields ([head,.ref L,.none,rawInt L,.none]++(if pl.isEmpty then List.replicate 6 Ę else pl)).toArray} he₁;refine UG he₂ hd z (h _ ?_);have hTe:h₁.objs.size≠e:=Sa (S0 he₁);have hd₃:=UI hd (·.setIfInBounds 1 (đ h₁.objs.size));have he₃:=Uj (ľ (·.setIfInBounds 1 (đ h₁.objs.size))) he₂ (UH hd₃)
 have hT₃:=(Uk (h₁.push {cls:=.type "traceback",dict:=Ă,data:=.fields ([head,.ref L,.none,rawInt L,.none]++(if pl.isEmpty then List.replicate 6 Ę else pl)).toArray})
  (ľ (·.setIfInBounds 1 (đ h₁.objs.size))) (R7 hTe)).trans (SZ h₁ rfl)
 have keep:∀b o,b≠e->h₁.get? b=Ā o ->
   ((h₁.push {cls:=.type "traceback",dict:=Ă,data:=.fields ([head,.ref L,.none,rawInt L,.none]++(if pl.isEmpty then List.replicate 6 Ę else pl)).toArray}).update e (ľ (·.setIfInBounds 1 (đ h₁.objs.size)))).get? b=Ā o:=
  λb o d B=>by
   rw[Uk _ _ (R7 d)];exact Tr _ B
 have noRecord:∀b o,s.heap.get? b=Ā o->(∀vs,o.data≠.fields vs)->b≠e:=λb o B F q=>by
  simp_all
 refine⟨λb o H=>keep b o (λq=>by lia) (kb₁ b o H),l.of_keeps λb o B F=>?_,?_,λb o B F=>?_⟩
 ·obtain⟨i,S⟩:=hs₁.2.2 b o B;exact⟨_,keep b _ (noRecord b o B F) S,rfl⟩
 ·exact⟨_,_,h₁.objs.size,_,_,he₃,⟨UJ _ _,qI _ _,by simp_all⟩,hd₃,by simp[z],kb₁.fresh,hTe,hT₃,rfl,by rfl⟩
 ·obtain⟨i,S⟩:=hs₁.2.2 b o B;exact⟨i,keep b _ (noRecord b o B F) S⟩
theorem jB{e:Ĉ}{Q:(ŏ->Ą->Prop)}(r:(A.frames=Ā (env::outer)))(l:(s.heap.FunFrames base (env::outer)))(f:env.frame=Ā L)(t:s.heap.TracedD base e cls a0 dx)(g:(base.StaysIn 1e9))(N:base.get? e=Ă)(h:∀h',Ĕ.NotedD base (env::outer) e cls a0 dx (rawInt L) 1e9 h'->Q () {s with heap:=h'}):Ċ M A (Ŷ (.ref e) env) Q E s:=by
 obtain⟨k,y,T,oT,S,n,⟨H,x,c⟩,D,a,hnT,hTe,hT,hdT,d⟩:=t;subst H x;unfold Ŷ;simp only[f];refine Tn (T9 n D a ?_);rw[RC (show (đ T != Ę)=ą from by rfl)];refine Tn (T9 hT hdT d ?_);rw[RE (show ¬ ((Ę == rawInt L)=ą) from by simp[rawInt])];refine Tn (UG hT hdT (UW.mp d).1 ?_);have other:∀b,b≠T->(s.heap.update T (ľ (·.setIfInBounds 3 Ę))).get? b=s.heap.get? b:=λb B=>Uk _ _ (R7 B)
 have noRecord:∀b o,s.heap.get? b=Ā o->(∀y,o.data≠.fields y)->b≠T:=λb o B F q=>by
  simp_all
 refine sk r (l.of_keeps λb o B F=>⟨o,(other b (noRecord b o B F)).trans B,rfl⟩) f ((other e (R7 hTe)).trans n)
  (λb o O=>(other b λq=>by lia).trans (g b o O)) N D (UW.mp a).1 c
  λh'=>Hj λX G i j=>h h' ⟨X,G,i,λb o B F=>j b o ((other b (noRecord b o B F)).trans B) F⟩
theorem eT{l:List Ŋ}{e:Ĉ}{fl:ā}{Q:(ŏ->Ą->Prop)}(g:(base.StaysIn 1e9))(L:s.heap.FunFrames base l)(t:s.heap.TracedAtD base e cls a0 dx fl)(h:∀h',base.StaysIn h'->h'.FunFrames base l->h'.TracedD base e cls a0 dx->(∀b o,s.heap.get? b=Ā o->(∀vs,o.data≠.fields vs)->h'.get? b=Ā o)->Q () {s with heap:=h'}):
  Ċ M A (ŵ (.ref e) Ă) Q E s:=by
 obtain⟨c,vs,T,oT,i,n,S,D,a,hnT,hTe,hT,hdT,d⟩:=t;have H:3<i.size:=(UW.mp d).1
 have other:∀b,b≠T->(s.heap.update T (ľ (·.setIfInBounds 3 ((Ă:Option Ĉ).elim Ę λf=>rawInt f)))).get? b=s.heap.get? b:=
  λb B=>Uk _ _ (R7 B)
 have noRecord:∀b o,s.heap.get? b=Ā o->(∀vs,o.data≠.fields vs)->b≠T:=λb o B F q=>by
  simp_all
 unfold ŵ;refine Tn (T9 n D a ?_);rw[RC (show (đ T != Ę)=ą from by rfl)]
 refine UG hT hdT H (h _ (λb o O=>(other b λq=>by lia).trans (g b o O))
  (L.of_keeps λb o B F=>⟨o,(other b (noRecord b o B F)).trans B,rfl⟩) ?_ λb o B F=>(other b (noRecord b o B F)).trans B)
 exact⟨c,vs,T,_,_,(other e (R7 hTe)).trans n,S,D,a,hnT,hTe,Uj _ hT (UH (UI hdT _)),UI hdT _,by simp[H]⟩
def oK(base:Ĕ)(l:List Ŋ)(e:Ĉ)(cls a0:ā)(d:Option Ĉ)(L:Ĉ)(h:Ĕ):Prop:=
 base.StaysIn h/\base.get? e=Ă/\h.FunFrames base l/\h.TracedAtD base e cls a0 d (rawInt L)
theorem mM{e:Ĉ}{Q:(ŏ->Ą->Prop)}(r:(A.frames=Ā (env::outer)))(F:env.frame=Ā L)(h:bw base (env::outer) e cls a0 dx 1e9)(hQ:∀h',oK base (env::outer) e cls a0 dx L h'->s.heap.UpToSlots h'->Q () {s with heap:=h'}):Ċ M A (Ŷ (.ref e) env) Q E s:=by
 refine lB h λq O y G=>?_;refine jB r y F G q O λh' hN=>?_;refine lB hN λK d k a=>?_;exact hQ h' ⟨K,O,d,k⟩ a
theorem sj{l:List Ŋ}{e:Ĉ}{Q:(ŏ->Ą->Prop)}(i:oK base l e cls a0 dx L 1e9)(hQ:∀h',bw base l e cls a0 dx h'->s.heap.UpToSlots h'->Q () {s with heap:=h'}):Ċ M A (ŵ (.ref e) Ă) Q E s:=by
 refine lB i λq O y G=>?_;exact eT q y G λh' K d k a=>hQ h' ⟨K,O,d,k⟩ λb o B n=>⟨o.slots,a b o B n⟩
theorem j8{l:List Ŋ}{e:Ĉ}{Q:(ŏ->Ą->Prop)}(i:bw base l e cls a0 dx 1e9)(hQ:∀h',bw base l e cls a0 dx h'->s.heap.UpToSlots h'->Q () {s with heap:=h'}):Ċ M A (ŵ (.ref e) Ă) Q E s:=by
 refine lB i λq O y G=>?_;exact eT q y G.at λh' K d k a=>hQ h' ⟨K,O,d,k⟩ λb o B n=>⟨o.slots,a b o B n⟩
theorem lq{e:Ĉ}{vs:ĕ ā}{Q:(ŏ->Ą->Prop)}(r:(A.frames=Ā (env::outer)))(F:env.frame=Ā L)(g:(base.StaysIn 1e9))(h:(s.heap.FunFrames base (env::outer)))(N:base.get? e=Ă)(n:s.heap.get? e=Ā oe)(hd:oe.data=.fields vs)(H:vs[1]?=Ā .none)(d:vs[0]?=Ā a0)(hQ:∀h',bw base outer e oe.cls a0 oe.dict h'->s.heap.UpToSlots h'->Q () {s with heap:=h'}):Ċ M A (Ů env (.ref e)) Q E s:=by
 refine ji r h F n g N hd H d λh' hL=>?_;refine lB hL λK v a b=>?_;refine gF v λ_ _ k=>?_;exact hQ h' ⟨K,N,k,a⟩ b
end
section
variable{h:Ĕ}{g:ĕ Ö}{d:Zl}{t:ă}{os:OsState}
variable{nm q:ď}{C N:Ĉ}{bs bm bmB:List ā}{hdct:ċ}{sn:List ď}{sub:List ā}{ab:ċ}{col:Option ċ}{dd:Option Ĉ}{k0 k1 k2 k3 k5:Option ā}{B newId initId:Ī}
theorem uV(F:À B newId initId bmB)(T:Yo h bmB bm){rest:List ā}{oI:ħ}{Q:Fin->Ą->Prop}(hC:h.get? C=Ā (ś nm q C N bs bm hdct sn sub ab col dd k0 k1 k2 k3 k5 newId))(n:h.Ns N mN)(I:mN "__init__" = Ā (.ref fI))(hfI:h.get? fI=Ā oI)(c:oI.cls=.type "function")(z : ∀ h' e, ŧ h h' e 3e2 rest ->
   Ċ 0e7 A (call (.ref fI) (.ref e::rest)) (λr s'=>r=.none/\Q (.done (.ret (.ref e))) s') E ⟨h',g,d,t,os⟩)(hrest:rest.length<=sizeLine:=by size_fits):
  Ċ 0e7 A (Builtin.«type.__call__» ⟨.ref C::rest,[]⟩) Q E ⟨h,g,d,t,os⟩:=by
 repeat (first|with_reducible refine VF hC ?_|with_reducible refine wpAny_madeBy_exc hC ?_|wp_step)
 refine codeAny_call_builtin_code (Vq _ F.quiet) (wpAny_check_new_subT F T hC ?_);refine codeAny_exc_new_subT F T hC ?_ hrest;show Ċ _ _ _ _ _ _
 have hC₁:=Tr {cls:=.ref C,data:=.fields #[.ref h.objs.size,.none,.none,.none,.bool ć,.none]}
  (Tr {cls:=.type "tuple",data:=.seq rest.toArray} hC)
 have hfI₁:=Tr {cls:=.ref C,data:=.fields #[.ref h.objs.size,.none,.none,.none,.bool ć,.none]}
  (Tr {cls:=.type "tuple",data:=.seq rest.toArray} hfI)
 have hn₁:((h.push {cls:=.type "tuple",data:=.seq rest.toArray}).push {cls:=.ref C,data:=.fields #[.ref h.objs.size,.none,.none,.none,.bool ć,.none]}).Ns N mN:=
  let ⟨o,es,ep,e,r⟩:=n;⟨o,es,ep,Tr _ (Tr _ e),r⟩
 have H:((h.push {cls:=.type "tuple",data:=.seq rest.toArray}).push
   {cls:=.ref C,data:=.fields #[.ref h.objs.size,.none,.none,.none,.bool ć,.none]}).get? (h.objs.size+1)=Ā
   {cls:=.ref C,data:=.fields #[.ref h.objs.size,.none,.none,.none,.bool ć,.none]}:=by heap_get
 have hcC:(đ C::bm).contains 3e2=ą:=by simp
 have T₁:=T.keeps (h':=(h.push {cls:=.type "tuple",data:=.seq rest.toArray}).push {cls:=.ref C,data:=.fields #[.ref h.objs.size,.none,.none,.none,.bool ć,.none]})
  λb o e=>Tr _ (Tr _ e)
 unfold ZV
 repeat (first|with_reducible refine VF H ?_|(with_reducible refine î hC₁ ?_;rw[hcC])|wp_step)
 show Ċ _ _ (ž 3e2 _) _ _ _;refine wpAny_typeLookup_tail hC₁ hn₁ T₁ F.mroIs F.init.lookup ?_;rw[I];refine To (Tn ?_);unfold bindSpecial;refine Tn (Ue (T:="function") ⟨_,hfI₁,c⟩ ?_);rw[RC 0e3];refine SD (Tn (SA (z _ (h.objs.size+1) ⟨λb o a=>Tr _ (Tr _ a),Tc (R6 _),h.objs.size,H,Tc (Rx _),?_⟩) (λr s' R=>?_) λ_ _ x=>x))
 ·exact Tr _ (K_ rfl rfl)
 ·obtain ⟨rfl, hQ⟩ := R
  wp_walk
  exact hQ
theorem wR(F:À B newId initId bmB)(T:Yo h bmB bm){rest:List ā}{oI:ħ}(hC:h.get? C=Ā (ś nm q C N bs bm hdct sn sub ab col dd k0 k1 k2 k3 k5 newId))(n:h.Ns N mN)(I:mN "__init__" = Ā (.ref fI))(hfI:h.get? fI=Ā oI)(c:oI.cls=.type "function")(z : ∀ h' e, ŧ h h' e 3e2 rest ->
   Ċ 0e7 (A.under (.builtin "type.__call__" ⟨.ref C::rest,[]⟩)) (call (.ref fI) (.ref e::rest)) (λr s'=>r=.none/\Q (.ref e) s') E ⟨h',g,d,t,os⟩)(hrest:rest.length<=sizeLine:=by size_fits):
  Ċ 0e7 A (call 3e2 rest) Q E ⟨h,g,d,t,os⟩:=by
 have f:=tc_lookup;have O:=tc_bind 3e2;have hT:(⟨h,g,d,t,os⟩:Ą).TypeIs 3e2 "type" := ⟨_,hC,rfl⟩;refine TF (Uz ?_);show Ċ _ _ (Zd 3e2 _) _ _ _
 repeat (any_goals (first|assumption|with_reducible refine VF hC ?_|wp_step))
 refine⟨rfl,?_⟩;refine codeAny_call_builtin_at (Vq _ 3e0) entry_typeCall (wpAny_check_type_call_sub hC (uV (hrest:=hrest) F T hC n I hfI c λh' e m=>?_));exact z h' e m
end
section
variable{M:ų}
variable{nm q:ď}{C N:Ĉ}{bs bm:List ā}{hdct:ċ}{sn:List ď}{sub:List ā}{ab:ċ}{col:Option ċ}{dd:Option Ĉ}{k0 k1 k2 k3 k5:Option ā}{newId:Ī}
theorem i5{x:Ť ā}{Q:Zs->Ą->Prop}(hbase:bm.contains 3e1=ą)(i:(A.handled=Ă))(h : Ċ M A x (λv s₁ => ∃ e dx t, v = .ref e /\ s₁.heap.get? C = Ā (ś nm q C N bs bm hdct sn sub ab col dd k0 k1 k2 k3 k5 newId) /\
   s₁.heap.get? e=Ā {cls:=.ref C,dict:=dx,data:=.fields #[.ref t,.none,.none,.none,.bool ć,.none]}/\E (.ref e) s₁) E s):
  Ċ M A (raiseStmt env (Ā x) Ă) Q E s:=by
 have hcB:(đ C::bm).contains 3e1=ą:=by simp_all
 unfold raiseStmt;refine Tn (SA h (λv s₁ h₁=>?_) λ_ _ x=>x);refine cF h₁ λe dx t V hC n hE=>?_;subst V;obtain⟨p,g,d,k,os⟩:=s₁
 repeat (first|with_reducible refine VF n ?_|with_reducible refine VF hC ?_|(with_reducible refine î hC ?_;rw[hcB])|wp_step)
 exact wpAny_raiseNew_none i hE
end
section
variable{nm q:ď}{C N:Ĉ}{bs bm bmB:List ā}{hdct:ċ}{sn:List ď}{sub:List ā}{ab:ċ}{col:Option ċ}{dd:Option Ĉ}{k0 k1 k2 k3 k5:Option ā}{B newId initId:Ī}
theorem ve(F:À B newId initId bmB){args:4e1}{Q:Zs->Ą->Prop}(hbase:bm.contains 3e1=ą)(i:(A.handled=Ă))(hplain:(Ħ cpos (ĉ args env)).any 4e2=ć)(I:mN "__init__" = Ā (.ref fI))(h : Ċ 0e7 A (eval (.Name x np) env) (λf s₁ => f = .ref C /\ Ċ 0e7 A (evalArgs 3e2 ą (Ħ cpos (ĉ args env)) [])
   (λa s₂ => a.kw = [] /\ a.pos.length <= sizeLine /\ s₂.heap.get? C = Ā (ś nm q C N bs bm hdct sn sub ab col dd k0 k1 k2 k3 k5 newId) /\ s₂.heap.Ns N mN /\ Yo s₂.heap bmB bm /\
    (∃ oI, s₂.heap.get? fI = Ā oI /\ oI.cls = .type "function") /\ ∀ h' e, ŧ s₂.heap h' e 3e2 a.pos ->
     Ċ 0e7 (A.under (.builtin "type.__call__" ⟨.ref C::a.pos,[]⟩)) (call (.ref fI) (.ref e::a.pos)) (λr s₃=>r=.none/\∃dx t,s₃.heap.get? C=Ā (ś nm q C N bs bm hdct sn sub ab col dd k0 k1 k2 k3 k5 newId) /\
      s₃.heap.get? e=Ā {cls:=.ref C,dict:=dx,data:=.fields #[.ref t,.none,.none,.none,.bool ć,.none]}/\E (.ref e) s₃) E {s₂ with heap:=h'}) E s₁) E s):
  Ċ 0e7 A (exec (.Raise (Ā (.Call (.Name x np) args [] cpos)) Ă pos) env) Q E s:=by
 rw[arm_exec_Raise]
 first
  |refine Tn (Tp (i5 (C:=C) (nm:=nm) (q:=q) (N:=N) (bs:=bs) (bm:=bm) (hdct:=hdct) (sn:=sn) (sub:=sub) (ab:=ab) (col:=col) (dd:=dd) (k0:=k0) (k1:=k1) (k2:=k2) (k3:=k3) (k5:=k5) (newId:=newId) hbase i (Tn (SA (VG (SA h (λf s₁ h₁=>?_) λ_ _ x=>x)) (λv s₃ h₃=>Tn (Tp (SD h₃))) λ_ _ x=>x))))
  |(simp only[evalOpt,Option.map];refine Tn (Tp (i5 (C:=C) (nm:=nm) (q:=q) (N:=N) (bs:=bs) (bm:=bm) (hdct:=hdct) (sn:=sn) (sub:=sub) (ab:=ab) (col:=col) (dd:=dd) (k0:=k0) (k1:=k1) (k2:=k2) (k3:=k3) (k5:=k5) (newId:=newId) hbase i (Tn (SA (VG (SA h (λf s₁ h₁=>?_) λ_ _ x=>x)) (λv s₃ h₃=>Tn (Tp (SD h₃))) λ_ _ x=>x)))))
  |(refine Tn (Tp (i5 (C:=C) (nm:=nm) (q:=q) (N:=N) (bs:=bs) (bm:=bm) (hdct:=hdct) (sn:=sn) (sub:=sub) (ab:=ab) (col:=col) (dd:=dd) (k0:=k0) (k1:=k1) (k2:=k2) (k3:=k3) (k5:=k5) (newId:=newId) hbase i ?_));refine Tn (SA (VG (SA h (λf s₁ h₁=>?_) λ_ _ x=>x)) (λv s₃ h₃=>Tn (Tp (SD h₃))) λ_ _ x=>x))
 obtain⟨rfl,h₁⟩:=h₁;unfold callWith;refine Tn (To (SA h₁ (λa s₂ h₂=>Tn (Tp ?_)) λ_ _ x=>x));obtain⟨apos,akw⟩:=a;obtain⟨H,n,hC,b,T,⟨oI,hfI,c⟩,h₂⟩:=h₂;obtain rfl:akw=[]:=H;obtain⟨p,g,d,k,os⟩:=s₂;simp only[hplain];refine Tn (wpAny_keeperOf_exc hC ?_);refine Tn (wR (hrest:=n) F T hC b I hfI c λh' e m=>SA (h₂ h' e m) (λr S R=>?_) λ_ _ x=>x);obtain⟨R,dx,t,j,G,μ⟩:=R;exact⟨R,Tn (To (wpAny_point (SD ⟨e,dx,t,rfl,j,G,μ⟩)))⟩
end
end PySem
namespace _l
open PySem PySem.Spec PyProof.Rows
theorem dC.thr{h:Ĕ}{o:HO}(x:dC P w H h a o):∃ob,h.get? a=Ā ob:=by
 cases o with
 |lst s=>obtain⟨_,_,_,_,e⟩:=x;exact⟨_,e⟩
 |tup s=>obtain⟨_,_,_,ob,e,_⟩:=x;exact⟨_,e⟩
 |dK d=>obtain⟨_,_,_,_,o,_,_,e,_⟩:=x;exact⟨_,e⟩
 |dT d=>obtain⟨_,_,_,_,o,_,_,e,_⟩:=x;exact⟨_,e⟩
 |set S n=>obtain⟨o,_,_,_,e,_⟩:=x;exact⟨_,e⟩
 |ins C D fs=>refine iy x λ_ _ _ e _=>?_;exact⟨_,e⟩
 |own y=>obtain⟨_,e⟩:=x;exact⟨_,e⟩
 |xd fs=>obtain⟨_,⟨_,_,_,e,_⟩,_⟩:=x;exact⟨_,e⟩
 |rng l I=>obtain⟨_,_,_,e⟩:=x;exact⟨_,e⟩
 |frz ob u=>obtain⟨e,_⟩:=x;exact⟨_,e⟩
 |tbl ps=>exact⟨_,show h.get? a=Ā _ from x⟩
 |met f y=>exact⟨_,show h.get? a=Ā _ from x⟩
 |ext b=>obtain⟨_,⟨_,e⟩,_⟩:=x;exact⟨_,e⟩
theorem AC{fs:List Ĉ}{H':Hp}{h0 h1 B:Ĕ}(u:Un fs [] H0 H' h0 h1)(hB:∀b o,h0.get? b=Ā o->b∉fs->∃o',B.get? b=Ā o')(k1:B.StaysIn h1)(k2:B.StaysIn h')(up:h1.UpToSlots h')(H:∀b∈fs,H0 b=Ă/\∃o,h0.get? b=Ā o/\∀vs,o.data≠.fields vs):Un fs [] H0 H' h0 h' where
 keep:=λb o e n h d=>by
  obtain⟨o',q⟩:=hB b o e h;have Q:=k1 b o' q;rw[u.keep b o e n h d]at Q;cases Q;exact k2 b o q
 slot:=λb o e n h d=>by
  obtain⟨s,q⟩:=u.slot b o e n h d;refine kh (H b h) λ_ O a F=>?_;rw[e]at a;cases a;obtain⟨S,i⟩:=up b _ q F;exact⟨S,i⟩
 free:=u.free
 there:=λb o e d=>by
  by_cases h:b∈fs
  ·refine kh (H b h) λn O a F=>?_;rw[e]at a;cases a;obtain⟨s,q⟩:=u.slot b o e n h d;obtain⟨S,i⟩:=up b _ q F;exact⟨_,i⟩
  ·obtain⟨o',q⟩:=hB b o e h;exact⟨o',k2 b o' q⟩
 tups:=u.tups
 frzs:=u.frzs
 tbls:=u.tbls
noncomputable def iL(e C:Ĉ)(d:Option Ĉ):HO:=.ext λh=>∃o,h.get? e=Ā o/\o.cls=.ref C/\o.dict=d/\W.notCls o=ą
def DK(P:č)(w:ē):sQ:=λouter H s E e S=>
 ∃a C g d B c,e=.ref a/\S.os=s.os/\ţ S.gens/\Un (ni outer) [] H c 1e9 S.heap/\lA P w c B/\bw B outer a 3e2 g d S.heap/\c a=Ă /\
  (∀b o,s.heap.get? b=Ā o->b∉ni outer->∃O,B.get? b=Ā O)/\E 3e2 (Ā a) (bz c a (iL a C d))
section
variable{f:Ĉ}{E:XK}
abbrev nj(P:č)(w:ē)(K:W.Frag)(mg:3e6)(base:Ĕ)(N:List ď)(qual:ď)(scope:ĺ)(f:Ĉ)(cdv:ā)(A:Đ)(outer:List Ŋ)(s0:Ą)(H0:Hp)(E:XK):Cx:=mI (DK P w) P w K mg base N qual scope f cdv A outer s0 H0 E
theorem F6(B:b∈ni (Ŀ qual scope s0.heap.objs.size f cdv::outer)):b=s0.heap.objs.size\/b∈ni outer:=by
 refine bb (Tt.mp B) λenv n F=>?_;rcases Td.mp n with rfl|n
 ·exact .inl (Rp F).symm
 ·exact .inr (Tt.mpr ⟨env,n,F⟩)
theorem mx(I:(aO 2e1 pins σ H s)){o:ħ}(e:s0.heap.get? b=Ā o)(B:b∉ni outer):
  (∃o',s.heap.get? b=Ā o')/\b∉ni (Ŀ qual scope s0.heap.objs.size f cdv::outer):=
 ⟨I.base.there b o e (λz => by cases z), λz => by
  rcases F6 z with z|z
  ·exact absurd (S0 e) (by simp_all)
  ·exact B z⟩
theorem qE(I:(aO 2e1 pins σ H s)):∀b∈ni outer,H0 b=Ă/\∃o,s0.heap.get? b=Ā o/\∀vs,o.data≠.fields vs:=
 λb B=>⟨I.ok.frf b B,(I.ok.funs.mem B).2⟩
theorem GY:gZ (DK P w) 2e1 E:=by
 intro p t H s e r I j;obtain⟨h,C,g,x,B,a,rfl,S,bare,un,L,d,n,bk,q⟩:=j;have μ:=I.call' S un (L.kept d.1) bare (ch:=[]) (λb z=>absurd z 1e1)
 have hB:∀b o,s0.heap.get? b=Ā o->b∉ni outer->∃O,B.get? b=Ā O:=λb o e i=>by
  obtain⟨⟨l,c⟩,k⟩:=mx I e i;exact bk b l c k
 refine l6 I.ok.frames rfl d λm F up=>?_;exact⟨h,C,g,x,B,a,rfl,μ.os,bare,AC μ.base hB d.1 F.1 up (qE I),L,F,n,hB,q⟩
end
structure Cx.Fn(X:Cx):Prop where
 ex:X.ex=[]
 stk:X.stack=X.env::X.outer
 fr:X.env.frame=Ā X.env.locals
def Ob(X:Cx)(pins:2e0)(E:XK)(e:ā)(s':Ą):Prop:=
 ∃ea C a0 dx B σ a,e=.ref ea/\aO X pins σ a s'/\lA X.prog X.w a B/\bw B X.stack ea 3e2 a0 dx s'.heap/\a ea=Ă /\
  (∀b o,X.s₀.heap.get? b=Ā o->b∉X.fs->∃O,B.get? b=Ā O)/\(∀p∈X.pn++pins,∃O,B.get? p.1=Ā O)/\E 3e2 (Ā ea) (bz a ea (iL ea C dx))
noncomputable abbrev Cx.tri(X:Cx)(pins:2e0)(E:XK):Cx:={X with pn:=X.pn++pins,xe:=Ob X pins E}
theorem Cx.Ok.tri{X:Cx}{E:XK}(ok:X.Ok):(X.tri pins E).Ok:=
 ⟨ok.mod,ok.kind,ok.glob,ok.blt,ok.above,ok.inj,ok.has,ok.cab,ok.hd,ok.frames,ok.stk,ok.exf,ok.bs,ok.bsz,ok.noex,ok.exfs,ok.funs,ok.frf⟩
theorem Cx.Ok.untri{X:Cx}{E:XK}(ok:(X.tri pins E).Ok):X.Ok:=
 ⟨ok.mod,ok.kind,ok.glob,ok.blt,ok.above,ok.inj,ok.has,ok.cab,ok.hd,ok.frames,ok.stk,ok.exf,ok.bs,ok.bsz,ok.noex,ok.exfs,ok.funs,ok.frf⟩
section
variable{X:Cx}{pins':2e0}{E:XK}
theorem aO.tri(I:0e4):aO (X.tri pins E) [] σ H s:=
 ⟨I.ok.tri,I.os,I.bare,I.base,I.loc,I.cell,I.free,I.freeC,λp d=>I.pin p (by simpa using d),I.hok,I.len⟩
theorem aO.untri(I:aO (X.tri pins E) pins' σ H s):aO X pins σ H s:=
 ⟨I.ok.untri,I.os,I.bare,I.base,I.loc,I.cell,I.free,I.freeC,λp d=>I.pin p (Tf _ d),I.hok,I.len⟩
theorem SP.untri{D:lG}{f:Zs}(h:SP (X.tri pins E) pins' D f s'):SP X pins D f s':=by
 cases f with
 |next=>obtain⟨d,b,I,q⟩:=h;exact⟨d,b,I.untri,q⟩
 |brk=>obtain⟨d,b,I,q⟩:=h;exact⟨d,b,I.untri,q⟩
 |cont=>obtain⟨d,b,I,q⟩:=h;exact⟨d,b,I.untri,q⟩
 |ret u=>refine cv h λv d b I r q=>?_;exact⟨v,d,b,I.untri,r,q⟩
end
theorem yr{X:Cx}(F:X.Fn)(h:b∈ni X.stack):b=X.env.locals\/b∈X.fs:=by
 rw[F.stk]at h;refine bb (Tt.mp h) λenv n f=>?_;rcases Td.mp n with rfl|n
 ·rw[F.fr]at f;lia
 ·exact .inr (Tt.mpr ⟨env,n,f⟩)
theorem GX{X:Cx}{E:XK}(F:X.Fn):gZ (DK X.prog X.w) (X.tri pins E) E:=by
 intro pins' σ H s e m I f;obtain⟨ea,C,a0,dx,B,a,rfl,S,bare,un,L,d,n,bk,q⟩:=f;have μ:=I.call' S un (L.kept d.1) bare (ch:=[]) (λb z=>absurd z 1e1);refine⟨ea,C,a0,dx,B,σ,a,rfl,μ.untri,L,d,n,λb o e h=>?_,λp P=>?_,q⟩
 ·obtain ⟨O, c⟩ := I.base.there b o e (by show b ∉ X.ex; rw [F.ex]; exact λz => by cases z);refine bk b O c λz=>?_;rcases yr F z with z|z
  ·have:=I.ok.above;rw[z]at e;exact absurd (S0 e) (Xr.mpr this)
  ·exact h z
 ·obtain ⟨j, k, g, i, l⟩ := I.pin p (Tf _ P);refine bk p.1 p.2 j λz=>?_;rcases yr F z with z|z
  ·exact g z
  ·exact i z
theorem yE{h:Ĕ}{c:Ĉ}{v:Option ā}(x:h.IsCell c v)(up:h.UpToSlots h'):h'.IsCell c v:=by
 refine bb x λo O D=>?_;obtain⟨l,q⟩:=up c o O λy z=>by rw[D]at z;cases z
 exact⟨_,q,D⟩
section
variable{X:Cx}{B:Ĕ}{C:Ĉ}
theorem aO.up(F:X.Fn)(I:0e4)(L:lA X.prog X.w H B)(f:∀b o,X.s₀.heap.get? b=Ā o->b∉X.fs->∃o',B.get? b=Ā o')(g:∀p∈X.pn++pins,∃o',B.get? p.1=Ā o')
  (k1:B.StaysIn 1e9) (k2:B.StaysIn h') (up:s.heap.UpToSlots h'):aO X pins σ H {s with heap:=h'}:=by
 have h:Un X.fs [] X.H₀ H X.s₀.heap h':=AC (by rw[<- F.ex];exact I.base) f k1 k2 up λb h=>⟨I.ok.frf b h,(I.ok.funs.mem h).2⟩;refine⟨I.ok,I.os,I.bare,by rw[F.ex];exact h,?_,λx c e=>?_,I.free,I.freeC,λp P=>?_,L.kept k2,I.len⟩
 ·refine bb I.loc λm N n => ?_;refine⟨m,up.ns N,λi x v a b c=>?_⟩;refine bb (n i x v a b c) λu r l=>?_;refine⟨u,r,?_⟩;rcases l with l|⟨k,c,e,j⟩
  ·exact .inl l
  ·exact .inr ⟨k,c,e,yE j up⟩
 ·obtain⟨v,V⟩:=I.cell x c e;exact⟨v,yE V up⟩
 ·obtain⟨q,t⟩:=I.pin p P;obtain⟨o',e⟩:=g p P;have d:=k1 _ _ e;rw[q]at d;cases d;exact⟨k2 _ _ e,t⟩
theorem Un.track{fs ex:List Ĉ}{h0 h:Ĕ}{o:HO}(u:Un fs ex H0 H h0 h)(N:h0.get? ea=Ă)(hH:H ea=Ă):Un fs ex H0 (bz H ea o) h0 h where
 keep:=u.keep
 slot:=u.slot
 free:=λb O e n d=>by rw[aN λz=>by rw[z,N]at e;cases e];exact u.free b O e n d
 there:=u.there
 tups:=λb S q=>by have:=u.tups b S q;rw[aN (bx this hH)];exact this
 frzs:=λb O S q=>by have:=u.frzs b O S q;rw[aN (bx this hH)];exact this
 tbls:=λb ps q=>by obtain⟨m,this⟩:=u.tbls b ps q;exact⟨m,by rw[aN (bx this hH)];exact this⟩
theorem aO.track(F:X.Fn)(I:0e4)(t:∀b o,X.s₀.heap.get? b=Ā o->b∉X.fs->∃o',B.get? b=Ā o')(w:∀p∈X.pn++pins,∃o',B.get? p.1=Ā o')
  (L:bw B X.stack ea 3e2 a0 dx 1e9) (hH:H ea=Ă):aO X pins σ (bz H ea (iL ea C dx)) s:=by
 obtain⟨R,O,f3,l,V,T,oT,ts,n,⟨A,f,_⟩,D,_⟩:=L
 have N:X.s₀.heap.get? ea=Ă:=by
  cases z:X.s₀.heap.get? ea with
  |none=>rfl
  |some o=>
   by_cases h:ea∈X.fs
   ·refine kh (I.ok.funs.mem h) λ_ μ y G=>?_;obtain⟨sl,g⟩:=I.base.slot ea μ y (I.ok.frf ea h) h (by rw[F.ex];exact λz=>by cases z);rw[n]at g;cases g;exact absurd D (G V)
   ·obtain⟨o',e⟩:=t ea o z h;rw[O]at e;cases e
 have nl:X.env.locals≠ea:=λz=>by
  obtain⟨m,⟨o',Z,α,i,d,_⟩,_⟩:=I.loc
  lia
 refine⟨I.ok,I.os,I.bare,I.base.track N hH,I.loc,I.cell,by rw[aN nl];exact I.free,λx c e=>?_,λp P=>?_,λb u q=>?_,I.len⟩
 ·rw [aN λz => ?_]
  ·exact I.freeC x c e
  ·refine bZ (I.cell x c e) λv o' i d => ?_
   lia
 ·refine iy (I.pin p P) λK M Q S U => ?_;refine⟨K,?_,Q,S,U⟩;rw[aN λz=>?_]
  ·exact M
  ·obtain⟨o',e⟩:=w p P;rw[z,O]at e;cases e
 ·by_cases j : b = ea
  ·subst j;rw[aV]at q;cases q;refine⟨⟨l,n,A,f,by unfold W.notCls;rw[D]⟩,⟨l,n⟩,λh1 h2 a k=>?_⟩;refine bb a λo e c=>?_;exact⟨o,k o e,c⟩
  ·rw[aN j]at q;exact(I.hok b u q).stay (λ_ _ _ r=>r) (λc r=>by rw[aN (bx r hH)];exact r) λc xs r=>by rw[aN (bx r hH)];exact r
end
noncomputable abbrev Cx.hnd(X:Cx)(ea:Ĉ):Cx:={X with A:=X.A.mark (Ā (.ref ea)),calm:=ć,xe:=λ_ _=>ł}
theorem aO.hnd{X:Cx}(I:0e4):aO (X.hnd ea) pins σ H s:=
 ⟨⟨I.ok.mod, I.ok.kind, I.ok.glob, I.ok.blt, I.ok.above, I.ok.inj, I.ok.has, I.ok.cab, (λz => by cases z), I.ok.frames, I.ok.stk, I.ok.exf, I.ok.bs, I.ok.bsz, I.ok.noex, I.ok.exfs, I.ok.funs, I.ok.frf⟩,
   I.os,I.bare,I.base,I.loc,I.cell,I.free,I.freeC,I.pin,I.hok,I.len⟩
theorem aO.unhnd{X:Cx}(ok:X.Ok)(I:aO (X.hnd ea) pins σ H s):aO X pins σ H s:=
 ⟨ok,I.os,I.bare,I.base,I.loc,I.cell,I.free,I.freeC,I.pin,I.hok,I.len⟩
theorem aO.forget{X:Cx}{m:3e6}(I:0e4)(a:h'.Ns X.env.locals m)(t:Į X.env.locals 1e9 h'):
  aO X pins (List.replicate X.N.length Ă) H {s with heap:=h',toks:=t'}:=by
 have ne:∀b o,X.s₀.heap.get? b=Ā o->b≠X.env.locals:=λb o e z=>by
  have:=I.ok.above;rw[z]at e;exact absurd (S0 e) (Xr.mpr this)
 have same:∀b,b≠X.env.locals->h'.get? b=s.heap.get? b:=λb h=>t.2 b h;refine⟨I.ok,I.os,I.bare,⟨λb o e n h d=>?_,λb o e n h d=>?_,I.base.free,λb o e d=>?_,I.base.tups,I.base.frzs,I.base.tbls⟩,⟨m,a,λi x v _ e=>?_⟩,λx c e=>?_,I.free,I.freeC,λp P=>?_,λb u q=>?_,by simp⟩
 ·rw[same b (ne b o e)];exact I.base.keep b o e n h d
 ·rw[same b (ne b o e)];exact I.base.slot b o e n h d
 ·rw[same b (ne b o e)];exact I.base.there b o e d
 ·rw[TV]at e;split at e <;> cases e
 ·refine bZ (I.cell x c e) λv o O D=>?_;exact⟨v,o,by rw[same c (I.cne x c e)];exact O,D⟩
 ·refine lB (I.pin p P) λj k g f=>?_;exact⟨RM (same _ g) j,⟨k,⟨g,f⟩⟩⟩
 ·have w : ∀ c u, H c = Ā u -> c ≠ X.env.locals := λc u e z => by rw [z, I.free] at e; cases e
  exact(I.hok b u q).stay (λc v l r=>by
   grind) (λ_ r=>r) λ_ _ r=>r
theorem I9{X:Cx}(F:X.Fn){r n:ď}{R:Ĉ}{hpos:Ľ}{suite:List ĝ}{b0:ĝ}{tb:XK->TS}{th:TS}(hN:(X.N.Nodup))(hi:X.N[i]?=Ā n)(hx:yN X.env.scope n)(O:X.env.kindOf n=Ā .local)(hg:Gl X r)(hm:X.mg r=Ā (.ref R))(hd:(r == ("__debug__" : ď))=ć)(hb:∀pins E,ly (X.tri pins E) body (tb E))(hs:∀ea,ly (X.hnd ea) (b0::suite) th):
  PS X (.Try body [.ExceptHandler (Ā (.Name r np)) (Ā n) (b0::suite) hpos] [] [] pos) (λD σ H=>∃E:XK,(∀C ea H',E 3e2 (Ā ea) H'->W.exmOne X.K 3e2 (.ref R)=Ā ą /\
   ∀σ':St,σ'.length=X.N.length->th {nx:=λ_ _=>ł,rt:=D.rt} (σ'.set i (Ā (.ref ea))) H')/\tb E D σ H):=by
 intro pins s σ H D I Q;refine bb Q λE hE Q=>?_;refine wpAny_Try_except (SA (hb pins E [] s σ H D I.tri Q) (λf V b=>?_) λe V b=>?_)
 ·cases f with
  |next=>exact Tj (SP.untri b)
  |brk=>exact SP.untri b
  |cont=>exact SP.untri b
  |ret u=>exact SP.untri b
 ·obtain ⟨ea, C, a0, dx, B, j, H1, rfl, P, L, t, hn, o, p, q⟩ := b;obtain⟨q1,q2⟩:=hE C ea _ q;have x:=t;rw[F.stk]at t;refine mM (by rw[<- F.stk];exact I.ok.frames) F.fr t λh4 h U=>?_;refine sj h λα a μ=>?_;have fl5':=a;rw[<- F.stk]at fl5';have S:=P.up F L o p x.1 a.1 (U.trans μ);have T:aO (X.hnd ea) pins j H1 {V with heap:=α}:=S.hnd;refine wpAny_handleBy_cons (codeAny_handlers_test (kF T hg hm ?_ hd)) (by intro q;cases q);refine bb a.there λob G g=>?_
  have LT:W.Looks 1e2 α (Ô (.ref ea)) 3e2:=by
   rw[<- g];exact(W.Looks.ld G).andThen .now
  refine(W.exm_one T.kIn LT q1).here (codeAny_handlers_suite_as ?_);refine j8 a λh6 d M=>?_;have fl6':=d;rw[<- F.stk]at fl6';have I6:=S.up F L o p a.1 d.1 M;have l:=I6.track F o p fl6' hn;refine kO (v:=.ref ea) l hN hi hx rfl (λs7 I7=>?_) (.inr O);refine SA (hs ea pins s7 _ _ _ I7.hnd (q2 j P.len)) (λf s8 k=>?_) λ_ _ z=>ę z;cases f with
  |next=>refine bZ k λ_ _ _ z=>?_;exact ę z
  |brk=>refine bZ k λ_ _ _ z=>?_;exact ę z
  |cont=>refine bZ k λ_ _ _ z=>?_;exact ę z
  |ret u=>
   refine cv k λv σ' H' I8 rv z=>?_;have c:=I8.unhnd I.ok;refine bb c.loc λm y _=>?_;refine wpAny_nameGoes O y (by rw[I.ok.kind];rfl) λh9 m9 A sb=>?_;exact⟨v,_,H',c.forget A sb,rv,z⟩
structure dv(k:ă)(A:Đ):Prop where
 dp:A.depth+3*k+5<Ũ
 un:A.units+16*k+200<į
 gd:A.guards=Ā []
theorem cU.h{k:ă}(r:cU k A):dv k A:=⟨r.dp,r.un,r.gd⟩
theorem dv.mark{k:ă}(r:dv k A)(e:Option ā):dv k (A.mark e):=⟨r.dp,r.un,r.gd⟩
theorem dv.mono{k:ă}(r:dv k A)(h:j<=k):dv j A:=⟨by have:=r.dp;lia,by have:=r.un;lia,r.gd⟩
theorem dv.deeper{k:ă}(r:dv (k+1) A)(env:Ŋ):dv k (A.deeper env):=
 ⟨by have:=r.dp;show A.depth+1+3*k+5<_;lia,by have:=r.un;show A.units+3+16*k+200<_;lia,r.gd⟩
theorem dv.depth{k:ă}(r:dv k A):A.depth<Ũ:=by have:=r.dp;exact R8 (Ä (RA _ _)) this
theorem dv.units{k:ă}(r:dv k A):A.units+64<į:=by have:=r.un;lia
structure tN(P:č)(w:ē)(K:W.Frag)(mg:3e6)(base:Ĕ)(CX:sQ)(k:ă)(f:Ĉ)(fd:ğ)(ps:List ď)(sp:Sp):Prop where
 len:∀vs H Q E,sp vs H Q E->vs.length=ps.length
 run:∀(A:Đ)(outer:List Ŋ)(s:Ą)(H:Hp)(args:Args)(us:List ā)(vs:List V)(Q:VK)(E:XK),dv k A->tx P w K mg base A outer s H->é s fd args (ps.zip us)->aX vs us->sp vs H Q E ->
  Ń (Č P w) A (.call (.ref f) args) (CR CX outer P w H s Q E) s
section
variable{X:Cx}{k:ă}{f C:Ĉ}{ps:List ď}{dvs:List V}{ds:List ā}{E:XK}{m:ď}{p:Ľ}{o:Expr}{es:4e1}{t:TA}
theorem EU{Q:VK}(F:tN X.prog X.w X.K X.mg X.base CX k f fd ps sp)(R:dv k X.A)(B:cW X.K fd ps ds)(hd:aX dvs ds)(a:gZ CX X E)(I:0e4)(r:aX vs us)(h:sp (vs++dvs) H Q E):Ċ 1e2 X.A (call (.ref f) us) (EP X pins σ Q) X.xe s:=by
 have L:aX (vs++dvs) (us++ds):=r.append hd;have l:(us++ds).length=ps.length:=by rw[<- L.length];exact F.len _ _ _ _ h
 refine TF (TH (F.run X.A X.stack s H ⟨us,[]⟩ (us++ds) (vs++dvs) Q E R I.env0 (B s us I.kIn l) L h) λr S z=>?_);cases r with
 |error e=>exact a pins σ H s e S I z
 |ok d=>
  cases d with
  |ret u=>exact I.after z
  |next=>exact ę z
  |brk=>exact ę z
  |cont=>exact ę z
theorem CM(F:tN X.prog X.w X.K X.mg X.base CX k f fd ps sp)(R:dv k X.A)(N:Gl X x)(M:X.mg x=Ā (.ref f))(c:W.keepIn X.K (.ref f)=ą)(b:cW X.K fd ps ds)(hd:aX dvs ds)(g:gZ CX X E)
  (a:PA X (e::es) t) (B:1e0) (n:(autoParam (ĉ (e::es) 1e4=(ć,eval e 1e4)::ĉ es 1e4) ATr)) (L:2e7) :
  PE X (.Call (.Name x p) (e::es) [] pos) (GM sp dvs E t):=by
 intro S s i H Q I h;refine TJ (kF I N M ?_ B);refine W.callWith_K (h₀:=X.base) I.ok.mod.kin c (cB (a pos S s i H _ I h) λU l=>bD λy j d r q=>⟨d.kIn,?_⟩) n L;exact EU F R b hd g d r q
end
noncomputable def mq(CX:sQ)(P:č)(w:ē)(K:W.Frag)(mg:3e6)(base:Ĕ)(N:List ď)(qual:ď)(scope:ĺ)(f:Ĉ)(cd:ā)(A:Đ)(O:List Ŋ)(s:Ą)(H:Hp)(E:XK):Cx where
 prog:=P
 w:=w
 K:=K
 mg:=mg
 base:=base
 A:=A.deeper (Ŀ qual scope 0e0 f cd)
 N:=N
 s₀:=s
 H₀:=H
 env:=Ŀ qual scope 0e0 f cd
 outer:=O
 stack:=Ŀ qual scope 0e0 f cd::O
 ex:=[]
 calm:=ć
 fn:=λ_=>ą
 pn:=[]
 xe:=λe S=>Ċ (Č P w) (A.deeper (Ŀ qual scope 0e0 f cd)) (Ů (Ŀ qual scope 0e0 f cd) e) (λ_ s''=>CX O H s E e s'') (λa s''=>CX O H s E a s'') S
theorem wD{ps:List ď}{f:Ĉ}{cd:ā}{s1:Ą}{E:XK}(S:cH N ps scope)(d:tx P w K mg base A outer s H)(L:vs.length=ps.length)(r:aX vs us)(x:(InCallC s 0e0 (XN (Ŀ qual scope 0e0 f cd).kindOf (ps.zip us) λ_=>Ă) (Ģ (s.heap.objs.size+1) scope.names []) (XO (Ŀ qual scope 0e0 f cd).kindOf (ps.zip us) λ_=>Ă) s1)):
  aO (mq CX P w K mg base N qual scope f cd A outer s H E) [] (start N vs) H s1:=by
 have G:ps.length<=N.length:=by have:=Sd List.length S.pre;rw[TQ]at this;lia
 refine bZ x.done λj T μ l=>?_;subst μ;have noA:∀b:Ĉ,b∉(mq CX P w K mg base N qual scope f cd A outer s H E).ex:=λb z=>absurd (show b∈([]:List Ĉ) from z) 1e1
 refine⟨⟨d.mod,S.kind,rfl,rfl,Rx _,λy z c j a=>?_,λy α=>?_,λy c _ h=>?_,(λz=>by cases z),Ù d.frames,.inr ⟨rfl,rfl⟩,λb z=>absurd z (noA b),d.bs,d.bsz,λb _ _=>noA b,λb z=>absurd z (noA b),d.funs,d.frf⟩,
  rfl,d.bare,Un.kept l,⟨_,x.toInCall.ns,λi y v j a M=>?_⟩,λy c h=>⟨_,x.cell y c h⟩,d.hok.fresh (Rx _),λy c h=>?_,λp g=>absurd (show p∈([]:List (Ĉ×ħ)) from g) 1e1,d.hok.kept l,?_⟩
 ·exact Yv x.apart (TR j) (TR a)
 ·have α : scope.names.lookup y = Ā .cell \/ scope.names.lookup y = Ā .free := α;rcases α with α|α
  ·exact kZ α
  ·exact absurd rfl (S.nofree _ (TR α))
 ·exact Sj (x.above y c (TR h))
 ·have I:i<vs.length:=by
   unfold start at a;by_cases I:i<vs.length
   ·exact I
   ·rw[TU (by simpa using I)]at a;rw[TV]at a;split at a <;> cases a
  have B:vs[i]?=Ā v:=by
   simp_all[start,TX]
  refine bb (r.get B) λu U R=>?_
  have g:ps[i]?=Ā y:=by
   rw[<- S.pre,TY (Ry I (RI L))];exact j
  have ndP:ps.Nodup:=by rw[<- S.pre];exact S.nd.sublist (TZ _ _)
  refine⟨u,R,?_⟩;rcases S.par y (T1 g) with k|k
  ·exact .inl ⟨k,l0 ndP g U k⟩
  ·obtain⟨c,e⟩:=kZ (n:=s.heap.objs.size+1) k;refine .inr ⟨.inl k,c,e,?_⟩;have q:=x.cell y c e;rw[l5 ndP g U (by show scope.names.lookup y≠_;rw[k];decide)]at q;exact q
 ·exact d.hok.fresh (Sj (x.above y c (TR h)))
 ·unfold start;show _=N.length
  simp_all
theorem Kq{k:ă}{f:Ĉ}{name:ď}{dV kV doc pm ct oc:ā}{od:Option Ĉ}{ps:List ď}(M:(K.lookup f=Ā ⟨oc,od,.func (W.fnOf name qual params body scope dV kV doc pm an cdv ct),osl⟩))(D:W.codeIn K cdv qual=ą)(S:cH N ps scope)(len:(∀vs H Q E,sp vs H Q E->vs.length=ps.length))(hbody : ∀ (A : Đ) (outer : List Ŋ) (s : Ą) (H : Hp) (vs : List V) (Q : VK) (E : XK), dv k (A.deeper (Ŀ qual scope 0e0 f cdv)) -> sp vs H Q E ->
   ∃t,ly (mq CX P w K mg base N qual scope f cdv A outer s H E) body t/\t {nx:=λ_ H'=>Q .non H',rt:=Q} (start N vs) H):
  tN P w K mg base CX (k+1) f (W.fnOf name qual params body scope dV kV doc pm an cdv ct) ps sp:=by
 refine⟨len,λA outer s H args U vs Q E g a B r z=>?_⟩;have L:=len _ _ _ _ z;have KX:K.In 1e9:=a.mod.kin.keeps λb o e=>(a.bs b o e).1;have lim:s.heap.NoLimit:=a.mod.nolimit.keeps λb o e=>(a.bs b o e).1
 have hkind:∀y∈ps.zip U,scope.names.lookup y.1=Ā .local\/(scope.names.lookup y.1=Ā .cell/\((Ģ (s.heap.objs.size+1) scope.names []).lookup y.1).isSome=ą):=λ⟨n,v⟩ α=>by
  rcases S.par n (TM α).1 with q|q
  ·exact .inl q
  ·exact .inr ⟨q,W.cellsFrom_some _ _ _ (.inl q)⟩
 refine Î g.depth (KX _ _ M) rfl S.co S.gen rfl (W.codeRec_of KX D) (B _ _ _ _ ?_);refine ū S.kind hkind λenv j i x=>?_;subst j;refine⟨lim.keeps x.toInCall.keep,Yx ?_⟩;obtain⟨t,T,G⟩:=hbody A outer s H vs Q E (g.deeper _) z;have I:aO (mq CX P w K mg base N qual scope f cdv A outer s H E) [] (start N vs) H i:=wD S a L r x;refine SA (T [] i (start N vs) H _ I G) (λl c h=>?_) λe c h=>h
 have F:∀{d:St}{H':Hp}{v:V}{u:ā},aO (mq CX P w K mg base N qual scope f cdv A outer s H E) [] d H' c->bA v u->Q v H'->CE outer P w H s Q u c:=
  λ{d H' v u} μ R q=>⟨v,H',μ.os,μ.bare,μ.base,μ.hok,R,q⟩
 cases l with
 |ret u=>
  obtain⟨v,d,H',μ,R,q⟩:=h;exact F μ R q
 |next=>
  obtain⟨d,H',μ,q⟩:=h;exact F (v:=V.non) (u:=Ę) μ rfl q
 |brk=>
  obtain⟨_,_,_,q⟩:=h;exact ę q
 |cont=>
  obtain⟨_,_,_,q⟩:=h;exact ę q
section
theorem ke.okH{f:Ĉ}{ps:List ď}{k:ă}(F:(ke K x qual st f fd))(S:cH N ps (aF st))(len:(∀vs H Q E,sp vs H Q E->vs.length=ps.length))(hbody : ∀ (cdv : ā) (A : Đ) (outer : List Ŋ) (s : Ą) (H : Hp) (vs : List V) (Q : VK) (E : XK), dv k (A.deeper (Ŀ qual (aF st) 0e0 f cdv)) -> sp vs H Q E ->
   ∃t,ly (mq sY P w K mg base N qual (aF st) f cdv A outer s H E).nox (bt st) t/\t {nx:=λ_ H'=>Q .non H',rt:=Q} (start N vs) H):tN P w K mg base sY (k+1) f fd ps sp:=by
 obtain⟨O,a,kV,doc,Z,n,cdv,d,osl,rfl,L,D⟩:=F.ex;refine Kq L D S len λA outer s H vs Q E r z=>?_;refine bb (hbody cdv A outer s H vs Q E r z) λt h q=>?_;exact⟨t,h.nox,q⟩
end
end _l
namespace PySem.W
open PySem PySem.Spec PySem.Calls PyProof.Rows
section
variable{K:Zg}{x D:Ĉ}{a g:ā}{name:ď}{h:Ĕ}{M:ų}
theorem u5 (X:K.In h) (H:Ş K (.ref D) name=Ā (Ā a)) (N:TW K a "__get__" = Ā (Ā g)) (T:Yk K a=Ā ą):Ŵ M h (Builtin.ObjectAttr.find (.ref x) (.ref D) name) (.bind g a):=
 (VH X H).andThen ((looks_specialIn X N).andThen ((show Ŵ M h (Builtin.ObjectAttr.dataDescriptor? (Ā a) (Ā g)) (Ā (g,a)) from (looks_takesIn X T).andThen .now).andThen (Ŵ.tag .now)))
theorem wL {R:Ų->Ą->Prop} (X:K.In 1e9) (L:(Ŵ 0e7 1e9 (Ô (.ref x)) (.ref D))) (m:EQ K D (.type "object")=Ā ą) (r:R (.ok (.ret (.ref D))) s) :
  Ń 0e7 A (.call (.builtin "getset_descriptor.__get__") ⟨[.builtin "object.__class__",.ref x,.ref D],[]⟩) R s:=by
 obtain⟨i,g,d,t,S⟩:=s;have b:=L;have hT5:=F.typeOf_object_class;have o:(".".intercalate ("object.__class__".cutAt '.').dropLast) = "object" := by decide +kernel
 refine Vr F.slot_gs_get.plain F.entry_gs_get (F.slot_gs_get.check _ _ _ _ _ _ _ _ hT5 (F.args_gs_get _ _ _) ?_)
 repeat (any_goals (first|assumption|with_reducible refine b.at ?_|(rw[o])|with_reducible refine(XY X m).at ?_|wp_step))
 refine⟨Vq _ 3e0,Vn KF.entry_class ?_⟩
 repeat (any_goals (first|assumption|with_reducible refine b.at ?_|wp_step))
theorem uI {hh:Ĕ}{g:ĕ Ö}{d:Zl}{t:ă}{os:OsState}{M:ų}{nameV:ā}{Q:(ŏ->Ą->Prop)} (X:K.In hh) (b:Ŵ M hh (Ô (.ref x)) (.ref D)) (hmB:EQ K D 3e1=Ā ą) (z:Q () ⟨hh,g,d,t,os⟩) :
  Ċ M A (ŷ "BaseException.__getattribute__" ⟨[.ref x,nameV],[]⟩) Q E ⟨hh,g,d,t,os⟩:=by
 have L:=XY (M:=M) X hmB;simp[ŷ,(show ZH "BaseException.__getattribute__" = Ā .slot by decide +kernel),(show splitId "BaseException.__getattribute__" = Ā ("BaseException", "__getattribute__") by decide +kernel)]
 ·unfold ZV
  repeat (first|lk|wp_step)
  exact z
theorem C8 {tk:α0}{Q:Fin->Ą->Prop} (X:K.In 1e9) (L:(Ŵ 0e7 1e9 (Ô (.ref x)) (.ref D))) (H:Ş K (.ref D) "__class__" = Ā (Ā (.builtin "object.__class__"))) (n:(TW K (.builtin "object.__class__") "__get__" = Ā (Ā (.builtin "getset_descriptor.__get__")))) (k:Yk K (.builtin "object.__class__")=Ā ą) (m:EQ K D (.type "object")=Ā ą) (z:Q (.done (.ret (.ref D))) s) :
  Ċ 0e7 A (Builtin.«object.__getattribute__» ⟨[.ref x,.str "__class__" tk],[]⟩) Q E s:=by
 repeat (any_goals (first|assumption|with_reducible refine L.at ?_|with_reducible refine(u5 X H n k).at ?_|wp_step))
 refine wL X L m ?_
 repeat (any_goals (first|assumption|wp_step))
theorem zI {Q:Option ā->Ą->Prop} (X:K.In 1e9) (L:(Ŵ 0e7 1e9 (Ô (.ref x)) (.ref D))) (H:(Ş K (.ref D) "__getattribute__" = Ā (Ā (.builtin "BaseException.__getattribute__")))) (n:Ş K (.ref D) "__getattr__" = Ā Ă)
  (f:Ş K (.ref D) "__class__" = Ā (Ā (.builtin "object.__class__"))) (N:(TW K (.builtin "object.__class__") "__get__" = Ā (Ā (.builtin "getset_descriptor.__get__")))) (k:Yk K (.builtin "object.__class__")=Ā ą) (m:EQ K D (.type "object")=Ā ą) (hmB:EQ K D 3e1=Ā ą) (z:Q (Ā (.ref D)) {s with toks:=s.toks+1}) :
  Ċ 0e7 A (getAttr? (.ref x) "__class__") Q E s:=by
 obtain⟨i,g,d,t,S⟩:=s;have b:=L;have e:Ŵ 0e7 i (ž (.ref D) "__getattr__") Ă:=VH X n;have y:=VI.ga.bind (.ref x);have c:(ņ "BaseException.__getattribute__" == ņ "object.__getattribute__")=ć:=by decide +kernel
 have j:(Yb (đ D)&&ņ "BaseException.__getattribute__" == ņ "object.__getattribute__")=ć:=by rw[c];rfl
 repeat (any_goals (first|assumption|with_reducible refine b.at ?_|with_reducible refine(VH X H).at ?_|with_reducible refine e.at ?_|wp_step))
 refine Vr VI.ga.plain F.entry_bexc_ga (uI X b hmB (C8 X b f N k m ?_))
 repeat (any_goals (first|assumption|wp_step))
end
noncomputable def excCls (K:Zg) (D:Ĉ):ċ:=Ş K (.ref D) "__getattribute__" == Ā (Ā (.builtin "BaseException.__getattribute__"))&&Ş K (.ref D) "__getattr__" == Ā Ă&&(YW K D).isSome&&Ş K (.ref D) "__class__" == Ā (Ā (.builtin "object.__class__")) &&
 EQ K D (.type "object") == Ā ą&&EQ K D 3e1 == Ā ą&&TW K (.builtin "object.__class__") "__get__" == Ā (Ā (.builtin "getset_descriptor.__get__"))&&Yk K (.builtin "object.__class__") == Ā ą
section
variable{K:Zg}{x D:Ĉ}
theorem kitx_exc(e:excCls K D=ą):KitX K (.ref x) (.ref D) (λh=>∃ox,h.get? x=Ā ox/\ox.cls=.ref D):=by
 unfold excCls at e;simp at e;obtain⟨⟨⟨⟨⟨⟨⟨d,N⟩,C⟩,l⟩,m⟩,hmB⟩,o⟩,f⟩:=e
 exact {
  ty:=λ_ _ _=>z7 λox H b=>b ▸ (Ŵ.ld H).andThen .now
  it:=λ_ _ X _=>by
   obtain⟨cdD,hcD⟩:=TN.mp C;unfold YW at hcD;split at hcD
   ·rename_i i j c S O;intro r u t y k q;exact Tn (Ú (k _ _ (X _ _ O)) (SD q))
   ·cases hcD
  ne:=λh T v I n L X p=>by
   obtain⟨cdD,hcD⟩:=TN.mp C;refine ċ.eq_false_iff.mpr λq=>?_;have e:=đ.inj (VJ.mp q);subst e;unfold YW at hcD;split at hcD
   ·rename_i i j c S O;cases ((X _ _ O).symm.trans p)
   ·cases hcD
  ca:=λ{prog w A E Q s} X=>z7 λox H b h=>zI X (b ▸ (Ŵ.ld H).andThen .now) d N l o f m hmB h}
end
end PySem.W
namespace _l
open PySem PySem.Spec PyProof.Rows
def LH(K:W.Frag)(u:ā):List V->Hp->VK->Prop:=λS H Q=>∃a D b v,S=[.ref a,v]/\bA v u/\(∃d,H a=Ā (iL a D d))/\W.excCls K D=ą/\W.kitOne K (.ref D) u=Ā b/\Q (.bl b) H
theorem uQ{X:Cx}(U:∀v w,bA v u->bA v w->w=u):b8 X (.builtin "isinstance") (LH X.K u):=by
 intro p s m H l k Q I r h;obtain⟨a,D,b,v,rfl,V,⟨d,c⟩,C,e,q⟩:=h;cases r with
 |cons R L=>
  cases L with
  |cons S j=>
   cases j;cases (show _=đ a from R);have z:=U v _ V S;subst z;obtain⟨⟨o,f,i,_⟩,_⟩:=(show dC X.prog X.w H 1e9 a (iL a D d) from I.hok a _ c);exact W.kia_one (W.kitx_exc C) I.kIn ⟨o,f,i⟩ e (λz=>nomatch z) λt=>⟨.bl b,H,I.tok _,rfl,q⟩
end _l
namespace _r
open PySem
noncomputable abbrev TK(prog:č)(w:ē):HeapKind prog w (List Ć):=tupleKind (E_ prog w)
abbrev XD:=List (List Ć×Ĉ×ā)
def Hu(x:List Ć×Ĉ×ā):ê:=⟨lz x.1,.ref x.2.1,x.2.2⟩
def DctAt(h:Ĕ)(a:Ĉ)(xs:XD)(ep:ă):Prop:=
 ∃o S,h.get? a=Ā o/\o.ExactDict/\o.data=.dict S ep/\S.toList=xs.map Hu/\(xs.map 4e2).Nodup
theorem kK{es:ĕ ê}{xs:XD}(h:es.toList=xs.map Hu):es.toList=xs.map (Ś (TK prog w)):=h
section
variable{h:Ĕ}{xs:XD}{v:ā}
theorem DctAt.keeps(x:DctAt h a xs ep)(e:∀o,h.get? a=Ā o->h'.get? a=Ā o):DctAt h' a xs ep:=let ⟨o,es,ho,r⟩:=x;⟨o,es,e o ho,r⟩
theorem DctAt.all(x:DctAt h a xs ep)(k:∀x∈xs,(TK prog w).is h x.1 x.2.1):h.DictOfH (TK prog w) a xs:=let ⟨o,es,h1,h2,h3,h4,h5⟩:=x;⟨o,es,ep,h1,h2,h3,kK h4,k,h5⟩
theorem DctAt.typeIs (x:(DctAt 1e9 a xs ep)):s.TypeIs (.ref a) "dict" := let ⟨o,_,h1,h2,_⟩:=x;⟨o,h1,h2.1⟩
theorem DctAt.new (h:Ĕ):DctAt (h.push {cls:=.type "dict",data:=.dict #[]}) h.objs.size [] 0:=⟨_,#[],SZ _ rfl,by first|exact⟨rfl,rfl⟩|exact⟨rfl,rfl,rfl⟩|exact⟨rfl,rfl,rfl,rfl⟩,rfl,rfl,U6⟩
theorem u9(U:(TK prog w).room A)(y:(TK prog w).is 1e9 k b)(m:(DctAt 1e9 a xs ep))(S:∀x∈xs,(TK prog w).is 1e9 x.1 x.2.1)(z:xs.length<=sizeLine)(hthere:∀p,Ò xs k=Ā p->∀tk,Q p.2 {s with toks:=tk})(W:Ò xs k=Ă->∀h' tk,DctAt h' a (xs++[(k,b,v)]) (ep+1)->Į a 1e9 h'->Q v {s with heap:=h',toks:=tk}):
  Ċ 0e7 A (YE a (.ref b) v) Q E s:=by
 refine fe m λo d H C D c N=>?_;have n:d.toList=xs.map (Ś (TK prog w)):=kK c;refine To ?_;refine Tn ((TK prog w).pyHash U y ?_);refine Tn (wpAny_dictFind_heap U y H D n S N ?_ ?_)
 ·intro O;have t:=not_mem_keys_of_get O
  refine Tn (Sw (Tn (wpAny_updateDictKeys (hz:=by have e:=VL n;exact RH (RI e) z) H D (SD (W (atKey_none_of_get O) _ _ ⟨_,_,Uj _ H (ħ.isFreed_of_dict (Ý D _)),
   C.mapDictKeys _,Ý D _,?_,?_⟩ (UK ..))))))
  ·show _=(xs++[(k,b,v)]).map (Ś (TK prog w));simp[n,Ś]
  grind
 ·intro j p r;refine Tn (VM H D ?_);rw[entry_at n j,r];exact Tn (Sw (SD (hthere p (atKey_of_get N r) _)))
theorem sH(U:A.units+1<į)(y:(TK prog w).is 1e9 k b)(m:(DctAt 1e9 a xs ep))(H:∀x∈xs,(TK prog w).is 1e9 x.1 x.2.1)(z:xs.length<=sizeLine)(hd:(a == ń)=ć)(hthere:∀p,Ò xs k=Ā p->∀tk,Q p.2 {s with toks:=tk})(W:Ò xs k=Ă->∀h' tk,DctAt h' a (xs++[(k,b,v)]) (ep+1)->Į a 1e9 h'->Q v {s with heap:=h',toks:=tk}):
  Ċ 0e7 A (call (.builtin "dict.setdefault") [.ref a,.ref b,v]) Q E s:=by
 refine call_meetsIn (S:=λr R e=>(TK prog w).room r.in1/\e=s/\(∀p,Ò xs k=Ā p->∀tk,R (.ok (.ret p.2)) {s with toks:=tk})/\(Ò xs k=Ă->∀h' tk,DctAt h' a (xs++[(k,b,v)]) (ep+1)->Į a 1e9 h'->R (.ok (.ret v)) {s with heap:=h',toks:=tk})) VN m.typeIs PySem.F.entry_dict_setdefault (PySem.F.args_dict_setdefault_3 _ _ _) (.of_wp λr R e=>Hj λhA f g j=>?_) ⟨?_,rfl,hthere,W⟩
 ·subst f;refine Tn ?_;refine Tn (Ê m.typeIs ?_);refine SD ?_;show Ċ _ _ (if (a == ń)=ą then _ else (YE a (.ref b) v >>= _)) _ _ _;rw[RE 0e1];refine Tn (u9 hA y m H z (λp P tk=>SD ⟨_,rfl,g p P tk⟩) λn h' tk c d=>SD ⟨_,rfl,j n h' tk c d⟩)
 ·exact C_ U
theorem C5(hd:(a == ń)=ć)(m:(DctAt 1e9 a xs ep))(hQ:Q (.ref 0e0) {s with heap:=s.heap.push {cls:=.type "dict_keyiterator",data:=.fields #[.ref a,.int 0 0,.int xs.length 0,.int ep 0]}}):
  Ċ 0e7 A (ű (.ref a)) Q E s:=by
 refine fe (id m) λo S O C t c n=>?_;have hT:=m.typeIs;refine N_ hT F.slot_dict_iter (Ud F.slot_dict_iter hT F.entry_dict_iter ?_ (F.args_dict_iter_1 _));refine Tn ?_;refine Tn (Ê hT ?_);refine SD ?_;show Ċ _ _ (Builtin.Dict.showsAll a >>= _) _ _ s;unfold Builtin.Dict.showsAll;rw[RE (by rw[hd];exact RF)];refine Tn (SD ?_);refine Tn (VM O t ?_);refine Tn (VO O t ?_);have z:=VL (show S.toList=xs.map (Ś (TK prog w)) from kK c);refine Tn (Ug (SD ⟨_,rfl, "dict_keyiterator",_,⟨_,SZ _ rfl,rfl⟩,VP.lookup,?_⟩))
 simp_all[rawInt]
theorem CT{x:List Ć×Ĉ×ā}{Q:Option ā->Ą->Prop}(t:s.heap.IsKeyIter it a i xs.length ep)(m:(DctAt 1e9 a xs ep))(X:xs[i]?=Ā x)
  (hQ:∀h',h'.IsKeyIter it a (i+1) xs.length ep->Į it 1e9 h'->Q (Ā (.ref x.2.1)) {s with heap:=h'}) :
  Ċ 0e7 A (Ż (.ref it)) Q E s:=by
 refine bo (id t) λo O C e=>?_;refine fe (id m) λl S D j d f N=>?_;have g:S.toList=xs.map (Ś (TK prog w)):=kK f;unfold Ż
 refine Tn (Sy (Ub t.typeIs VP
  (Ud VP t.typeIs VQ ?_ (VR _))))
 refine Tn (SD ?_);refine Tn ?_;refine Tn ?_;refine Tn (VS t.typeIs (SD ?_));refine Tn (X9 O e ?_);have n:Builtin.Dict_items.ownsTuple "dict_keyiterator" = ć:=by decide
 rw[n];show Ċ _ _ (if (đ a == Ę)=ą then _ else _) _ _ s;rw[RE (show ¬ ((đ a == Ę)=ą) from RF)];refine Tn (SD ?_);refine Tn (VM D d ?_);have z:=VL g;rw[RE (by rw[z];simp)];refine Tn (SD ?_);refine Tn (VO D d ?_);rw[RE 1e1];refine SD ?_;have T:=(Se.mp X).1;have c:i<S.size:=by rw[z];exact T
 have y:S[i].key=.ref x.2.1:=by
  have:=entry_at g i;rw[X,Vh c]at this;have:=Rp this;rw[this];rfl
 simp[VT,Vh c];refine Tn ?_;refine Tn (VS t.typeIs (SD ?_));refine Tn (Ë t.typeIs ?_);show Ċ _ _ (Xu (.ref it) 1 (rawInt ((i:Ć)+1)) >>= _) _ _ s;refine Tn (UG O e (Rz (Vj _ _)) ?_)
 have H:(s.heap.update it (ľ (·.setIfInBounds 1 (rawInt ((i:Ć)+1))))).IsKeyIter it a (i+1) xs.length ep:=
  ⟨_,Uj _ O (UH (UI e _)),(UJ ..).trans C,by rw[UI e];rfl⟩
 refine Tn (To ?_);refine Tn (Ë H.typeIs ?_);rw[y];exact SD (SD ⟨_,rfl,SD (hQ _ H (UK ..))⟩)
theorem Gc{Q:Option ā->Ą->Prop}(g:(A.handled=Ă))(t:s.heap.IsKeyIter it a i xs.length ep)(m:(DctAt 1e9 a xs ep))(x:xs.length<=i)
  (hQ:∀h',XT it 1e9 h'->Q Ă {s with heap:=h'}):Ċ 0e7 A (Ż (.ref it)) Q E s:=by
 refine bo (id t) λo O C H=>?_;refine fe (id m) λj S D f d c N=>?_
 refine Tn (Sy (Ub t.typeIs VP
  (Ud VP t.typeIs VQ ?_ (VR _))))
 refine Tn (SD ?_);refine Tn ?_;refine Tn ?_;refine Tn (VS t.typeIs (SD ?_));refine Tn (X9 O H ?_);have n:Builtin.Dict_items.ownsTuple "dict_keyiterator" = ć:=by decide
 show Ċ _ _ (if (đ a == Ę)=ą then _ else _) _ _ s;refine Tn (SD ?_);refine Tn (VM D d ?_);have z:=VL (show S.toList=xs.map (Ś (TK prog w)) from kK c);rw[RE (by rw[z];simp)];refine Tn (SD ?_);refine Tn (VO D d ?_);rw[RE 1e1];refine SD ?_;have e:S.size<=i:=by rw[z];exact x
 simp[VT,Á e];refine Tn ?_;refine Tn (VS t.typeIs (SD ?_));show Ċ _ _ (Xu (.ref it) 0 .none >>= _) _ _ s;refine Tn (UG O H (RY _) ?_);refine Tn ?_;refine Tn (Ug ?_ (by size_fits));refine Tn (UB (by rfl) ?_);refine Ug ?_ (by size_fits);refine Tn (ñ ?_);rw[show A.in1.handled=Ă from g];refine Tn (SD (XU ?_));refine Tn (Vz ⟨_,SZ _ rfl,rfl⟩ YC ?_);exact SD (hQ _ (((UK ..).extBut.push _).push _))
end
end _r
namespace _l
open PySem PySem.Spec PyProof.Rows _r
inductive D where
 |non|bl (b:ċ)|int (i:Ć)|str (x:ď)|tup (xs:List D)|frz (xs:List D)|obj (n:ă)
inductive O where
 |lst (xs:List D)|set (ks:0e2)|dic|exc (c:ď)|exn (c:ď) (fs:List (ď×Ć))|dct (kvs:(List (List Ć×ă))) (ep:ă)
abbrev az:=List O
abbrev Ro:=List (Option D)
def GJ(K:W.Frag)(H:Hp)(a:Ĉ)(xs:List V):Prop:=
 (∃ o, H a = Ā (.frz o (.lst xs))) \/
  ∃(o:ħ) (i:ĕ ā) (n:ă),K.lookup a=Ā o/\o.cls=.type "list" /\ o.dict=Ă/\o.data=.seq i n/\i.size<=sizeLine/\aX xs i.toList
theorem GJ.sq{xs:List V}(h:GJ K H a xs):dZ K H a xs:=by
 rcases h with⟨o,h⟩|h
 ·exact .inl (.inr ⟨o,h⟩)
 ·exact .inr h
section
variable(K:W.Frag)(H:Hp)(Y:List Ĉ)
mutual
def aM:D->V->Prop
 |.non,v=>v=.non
 |.bl b,v=>v=.bl b
 |.int i,v=>v=.int i
 |.str x,v=>v=.str x
 |.tup xs,v=>∃a vs,v=.ref a/\eQ K H a vs/\Reps xs vs
 |.frz xs,v=>∃a vs,v=.ref a/\GJ K H a vs/\Reps xs vs
 |.obj n,v=>∃a,v=.ref a/\Y[n]?=Ā a
def Reps:List D->List V->Prop
 |[],vs=>vs=[]
 |x::xs,vs=>∃v r,vs=v::r/\aM x v/\Reps xs r
end
end
structure iK(K:W.Frag)(H H':Hp)(Y Y':List Ĉ):Prop where
 tup:∀a xs,eQ K H a xs->eQ K H' a xs
 frz:∀a xs,GJ K H a xs->GJ K H' a xs
 pre:∀(n:ă) a,Y[n]?=Ā a->Y'[n]?=Ā a
 xds:∀a fs,H a=Ā (.xd fs)->H' a=Ā (.xd fs)
section
variable{H' H1 H2:Hp}{Y' Y1 Y2:List Ĉ}
theorem iK.refl:iK K H H Y Y:=⟨λ_ _ h=>h,λ_ _ h=>h,λ_ _ h=>h,λ_ _ h=>h⟩
theorem iK.trans(a:iK K H H1 Y Y1)(b:iK K H1 H2 Y1 Y2):iK K H H2 Y Y2:=
 ⟨λc S h=>b.tup c S (a.tup c S h),λc S h=>b.frz c S (a.frz c S h),λn c h=>b.pre n c (a.pre n c h),λc fs h=>b.xds c fs (a.xds c fs h)⟩
mutual
theorem aM.mono(e:iK K H H' Y Y'):∀{d:D}{v:V},aM K H Y d v->aM K H' Y' d v
 |.non,_,h=>by simp[aM]at h⊢;exact h
 |.bl _,_,h=>by simp[aM]at h⊢;exact h
 |.int _,_,h=>by simp[aM]at h⊢;exact h
 |.str _,_,h=>by simp[aM]at h⊢;exact h
 |.tup xs,_,h=>by
  refine aU h λa vs v1 h1 h2=>?_;subst v1;exact⟨a,vs,rfl,e.tup a vs h1,Reps.mono e h2⟩
 |.frz xs,_,h=>by
  refine aU h λa vs v2 h1 h2=>?_;subst v2;exact⟨a,vs,rfl,e.frz a vs h1,Reps.mono e h2⟩
 |.obj n,_,h=>by
  obtain⟨a,rfl,h1⟩:=h;exact⟨a,rfl,e.pre n a h1⟩
theorem Reps.mono(e:iK K H H' Y Y'):∀{ds:List D}{vs:List V},Reps K H Y ds vs->Reps K H' Y' ds vs
 |[],_,h=>by simp[Reps]at h⊢;exact h
 |d::ds,_,h=>by
  refine aU h λv r v4 h1 h2=>?_;subst v4;exact⟨v,r,rfl,aM.mono e h1,Reps.mono e h2⟩
end
theorem Reps.nil:Reps K H Y [] []:=by simp[Reps]
theorem Reps.cons{d:D}{ds:List D}(h:aM K H Y d v)(c:Reps K H Y ds vs):Reps K H Y (d::ds) (v::vs):=by
 simp only[Reps];exact⟨v,vs,rfl,h,c⟩
theorem Reps.length:∀{ds:List D}{vs:List V},Reps K H Y ds vs->vs.length=ds.length:=by
 intro x;induction x <;> simp_all[Reps]
theorem Reps.get:∀{ds:List D}{vs:List V}{i:ă}{d:D},Reps K H Y ds vs->ds[i]?=Ā d->∃v,vs[i]?=Ā v/\aM K H Y d v
 |[],_,_,_,_,e=>by simp at e
 |d::ds,vs,i,x,h,e=>by
  refine aU h λv r b a c=>?_;subst b;cases i with
  |zero=>simp at e;subst e;exact⟨v,rfl,a⟩
  |succ i=>exact Reps.get (i:=i) c (by simpa using e)
theorem Reps.getV:∀{ds:List D}{vs:List V}{i:ă}{v:V},Reps K H Y ds vs->vs[i]?=Ā v->∃d,ds[i]?=Ā d/\aM K H Y d v
 |[],vs,_,_,h,e=>by simp[Reps]at h;subst h;simp at e
 |d::ds,vs,i,x,h,e=>by
  refine aU h λv r G a c=>?_;subst G;cases i with
  |zero=>simp at e;subst e;exact⟨d,rfl,a⟩
  |succ i=>exact Reps.getV (i:=i) c (by simpa using e)
theorem Reps.append:∀{ds es:List D}{vs ws:List V},Reps K H Y ds vs->Reps K H Y es ws->Reps K H Y (ds++es) (vs++ws)
 |[],_,vs,_,h,g=>by simp[Reps]at h;subst h;exact g
 |d::ds,_,vs,_,h,g=>by
  refine aU h λv r μ a c=>?_;subst μ;exact Reps.cons a (Reps.append c g)
theorem Reps.take:∀{ds:List D}{vs:List V}(n:ă),Reps K H Y ds vs->Reps K H Y (ds.take n) (vs.take n)
 |[],vs,n,h=>by simp[Reps]at h;subst h;simpa using Reps.nil
 |d::ds,vs,n,h=>by
  refine aU h λv r b a c=>?_;subst b;cases n with
  |zero=>exact Reps.nil
  |succ n=>exact Reps.cons a (Reps.take n c)
theorem Reps.drop:∀{ds:List D}{vs:List V}(n:ă),Reps K H Y ds vs->Reps K H Y (ds.drop n) (vs.drop n)
 |[],vs,n,h=>by simp[Reps]at h;subst h;simpa using Reps.nil
 |d::ds,vs,n,h=>by
  cases n with
  |zero=>exact h
  |succ n=>
   refine aU h λv r a b c=>?_;subst a;exact Reps.drop n c
theorem Reps.set{d:D}{v:V}(q:aM K H Y d v):∀{ds:List D}{vs:List V}(n:ă),Reps K H Y ds vs->Reps K H Y (ds.set n d) (vs.set n v)
 |[],vs,n,h=>by simp[Reps]at h;subst h;simpa using Reps.nil
 |e::ds,vs,n,h=>by
  refine aU h λb r z a c=>?_;subst z;cases n with
  |zero=>exact Reps.cons q c
  |succ n=>exact Reps.cons a (Reps.set q n c)
theorem Reps.eraseIdx:∀{ds:List D}{vs:List V}(n:ă),Reps K H Y ds vs->Reps K H Y (ds.eraseIdx n) (vs.eraseIdx n)
 |[],vs,n,h=>by simp[Reps]at h;subst h;simpa using Reps.nil
 |e::ds,vs,n,h=>by
  refine aU h λb r v a c=>?_;subst v;cases n with
  |zero=>exact c
  |succ n=>exact Reps.cons a (Reps.eraseIdx n c)
theorem Reps.one{d:D}(h:Reps K H Y [d] vs):∃v,vs=[v]/\aM K H Y d v:=by
 simp_all[Reps]
theorem Reps.two{d e:D}(h:Reps K H Y [d,e] vs):∃v u,vs=[v,u]/\aM K H Y d v/\aM K H Y e u:=by
 simp only[Reps]at h;obtain⟨v,r,rfl,a,u,R,rfl,c,rfl⟩:=h;exact⟨v,u,rfl,a,c⟩
theorem Reps.snoc{d:D}{ds:List D}(h:Reps K H Y ds vs)(q:aM K H Y d v):Reps K H Y (ds++[d]) (vs++[v]):=h.append (Reps.cons q Reps.nil)
theorem Reps.ints:∀{ns:List Ć}{vs:List V},Reps K H Y (ns.map D.int) vs->vs=ns.map V.int
 |[],vs,h=>by simp at h;exact h
 |n::ns,vs,h=>by
  refine aU h λv r b a c=>?_;subst b;rw[a,Reps.ints c];rfl
theorem fB:∀(ns:List Ć),Reps K H Y (ns.map D.int) (ns.map V.int)
 |[]=>Reps.nil
 |n::ns=>Reps.cons (by simp[aM]) (fB ns)
theorem aH{xs:List D}:aM K H Y (.tup xs) v↔∃a vs,v=.ref a/\eQ K H a vs/\Reps K H Y xs vs:=by rfl
theorem bh{xs:List D}:aM K H Y (.frz xs) v↔∃a vs,v=.ref a/\GJ K H a vs/\Reps K H Y xs vs:=by rfl
theorem aI:aM K H Y (.obj n) v↔∃a,v=.ref a/\Y[n]?=Ā a:=by rfl
theorem ao{n:Ć}:aM K H Y (.int n) v↔v=.int n:=by simp[aM]
theorem aP{n:ċ}:aM K H Y (.bl n) v↔v=.bl n:=by simp[aM]
theorem a7{n:ď}:aM K H Y (.str n) v↔v=.str n:=by simp[aM]
theorem bp:aM K H Y .non v↔v=.non:=by simp[aM]
end
abbrev sX(Y:List Ĉ):List (List Ć×ă)->_r.XD->Prop:=Xm λ(p:List Ć×ă) (x:List Ć×Ĉ×ā)=>p.1=x.1/\∃b,Y[p.2]?=Ā b/\x.2.2=đ b
theorem sX.low{xs:_r.XD}(r:sX Y kvs xs):∀p∈kvs,p.2<Y.length:=by
 induction r with
 |nil=>intro p d;cases d
 |cons h _ i=>
  intro p d;rcases Td.mp d with rfl|d
  ·obtain⟨_,b,e,_⟩:=h;exact(Se.mp e).1
  ·exact i p d
theorem sX.cut{Y':List Ĉ}{xs:_r.XD}(e:∀m,m<n->Y'[m]?=Y[m]?)(r:sX Y' kvs xs):(∀p∈kvs,p.2<n)->sX Y kvs xs:=by
 induction r with
 |nil=>intro _;exact .nil
 |cons h _ i=>
  intro L;obtain⟨a,b,c,d⟩:=h;exact .cons ⟨a,b,by simp_all,d⟩ (i λp P=>L p (Tb _ P))
def qY(K:W.Frag)(w:ē)(H:Hp)(Y:List Ĉ):O->Ĉ->Prop
 |.lst S,a=>∃y,H a=Ā (.lst y)/\Reps K H Y S y
 |.set s,a=>∃ps:List KP,ps.map 4e2=s/\H a=Ā (.ext λh=>eS w h a ps)/\(∀p∈ps,p.1∈prs)/\(ps.map 4e2).Nodup/\∀p∈ps,eQ K H p.2 (p.1.map V.int)
 |.dic,a=>H a=Ā (.dK [])
 |.exc c,a=>∃C d,W.nsIn K Ĝ c=Ā (Ā 3e2)/\H a=Ā (iL a C d)
 |.exn c fs,a=>∃C d,W.nsIn K Ĝ c=Ā (Ā 3e2)/\H a=Ā (iL a C (Ā d))/\H d=Ā (.xd (fs.map λp=>(p.1,V.int p.2)))
 |.dct k z,a=>(a == ń)=ć/\∃S:_r.XD,H a=Ā (.ext λh=>_r.DctAt h a S z)/\sX Y k S/\∀x∈S,eQ K H x.2.1 (x.1.map V.int)
structure dA(K:W.Frag)(w:ē)(H:Hp)(Y:List Ĉ)(J:az):Prop where
 len:Y.length=3e9
 nd:Y.Nodup
 ob:∀(n:ă) o a,J[n]?=Ā o->Y[n]?=Ā a->qY K w H Y o a
section
variable{H':Hp}{Y':List Ĉ}{J:az}
theorem qY.live{o:O}(h:qY K w H Y o a):H a≠Ă:=by
 cases o with
 |lst S=>refine bb h λy e _=>?_;lia
 |set s=>refine bo h λps _ e _=>?_;lia
 |dic=>have e:H a=Ā (.dK []):=h;lia
 |exc c=>refine bZ h λC d _ e=>?_;lia
 |exn c fs=>refine aU h λC d _ e _=>?_;lia
 |dct k z=>refine kh h λ_ S e _=>?_;lia
theorem qY.mono{o:O}(h:qY K w H Y o a)(e:iK K H H' Y Y')(A:H' a=H a):qY K w H' Y' o a:=by
 cases o with
 |lst S=>refine bb h λy q r=>?_;exact⟨y,A.trans q,r.mono e⟩
 |set l=>obtain⟨ps,d,q,i,j,k⟩:=h;exact⟨ps,d,A.trans q,i,j,λp P=>e.tup _ _ (k p P)⟩
 |dic=>exact A.trans h
 |exc c=>refine bZ h λC D d q=>?_;exact⟨C,D,d,A.trans q⟩
 |exn c fs=>refine aU h λC D d q G=>?_;exact⟨C,D,d,A.trans q,e.xds D _ G⟩
 |dct s z=>obtain⟨g,S,q,r,t⟩:=h;exact⟨g,S,A.trans q,i7 r λp x=>O7 λE b m f=>⟨E,b,e.pre _ _ m,f⟩,λx X=>e.tup _ _ (t x X)⟩
theorem dA.at(S:(dA K w H Y J)){o:O}(e:J[n]?=Ā o):∃a,Y[n]?=Ā a/\qY K w H Y o a:=by
 have h:n<Y.length:=by rw[S.len];exact((Se.mp e).1)
 exact⟨Y[n],Vw h,S.ob n o _ e (Vw h)⟩
theorem dA.live(S:(dA K w H Y J))(h:a∈Y):H a≠Ă:=by
 obtain⟨n,N,e⟩:=VU h;exact(S.ob n _ a (Vw (by rw[<- S.len];exact N)) (by rw[<- e];exact Vw N)).live
theorem dA.fresh(S:(dA K w H Y J)){p:Ĉ}(h:H p=Ă):p∉Y:=λz=>S.live z h
theorem dA.same(S:(dA K w H Y J))(e:iK K H H' Y Y)(h:∀a,H a≠Ă->H' a=H a):dA K w H' Y J:=
 ⟨S.len,S.nd,λn o a b c=>(S.ob n o a b c).mono e (h a (S.ob n o a b c).live)⟩
theorem bB{p:Ĉ}{o:HO}(h:H p=Ă):iK K H (bz H p o) Y Y:=by
 refine⟨λa S q=>?_,λa S q=>?_,λ_ _ z=>z,λa fs q=>by rw[aN (bx q h)];exact q⟩
 ·rcases q with (q | ⟨x, q⟩) | q
  ·exact .inl (.inl (by rw[aN (bx q h)];exact q))
  ·exact .inl (.inr ⟨x,by rw[aN (bx q h)];exact q⟩)
  ·exact .inr q
 ·rcases q with ⟨x, q⟩ | q
  ·exact .inl ⟨x,by rw[aN (bx q h)];exact q⟩
  ·exact .inr q
theorem fN{p:Ĉ}{o:HO}(h:H p=Ā (.lst vs)):iK K H (bz H p o) Y Y:=by
 refine⟨λa S q=>?_,λa S q=>?_,λ_ _ z=>z,λa fs q=>by rw[aN (mh q h (by intro z;cases z))];exact q⟩
 ·rcases q with (q | ⟨x, q⟩) | q
  ·exact .inl (.inl (by rw[aN (mh q h (by intro z;cases z))];exact q))
  ·exact .inl (.inr ⟨x,by rw[aN (mh q h (by intro z;cases z))];exact q⟩)
  ·exact .inr q
 ·rcases q with ⟨x, q⟩ | q
  ·exact .inl ⟨x,by rw[aN (mh q h (by intro z;cases z))];exact q⟩
  ·exact .inr q
theorem gM(b:List Ĉ):iK K H H Y (Y++b):=⟨λ_ _ h=>h,λ_ _ h=>h,λn a h=>by rw[TX (Se.mp h).1];exact h,λ_ _ h=>h⟩
theorem dA.tuple(S:(dA K w H Y J)){p:Ĉ}(h:H p=Ă):dA K w (bz H p (.tup vs)) Y J:=
 S.same (bB h) λa A=>aN λz=>A (by rw[z];exact h)
theorem dA.more(S:(dA K w H Y J)){p:Ĉ}{o:O}{ho:HO}(h:H p=Ă)(q:qY K w (bz H p ho) (Y++[p]) o p):dA K w (bz H p ho) (Y++[p]) (J++[o]):=by
 refine⟨by simp[S.len],?_,λn e a b c=>?_⟩
 ·rw[VV];exact⟨S.nd,by simp,λx X y α z=>by simp at α;subst α;subst z;exact S.fresh h X⟩
 ·by_cases N : n < J.length
  ·rw[TX N]at b;rw[TX (by rw[S.len];exact N)]at c;exact(S.ob n e a b c).mono ((bB h).trans (gM [p])) (aN λz=>(S.ob n e a b c).live (by rw[z];exact h))
  ·have d:n=J.length:=by
    have:=(Se.mp b).1;simp at this;exact U9 (R0 N) this
   subst d;rw[TU (by rw[S.len];exact Rx _),S.len]at c
   simp_all
theorem dA.put(S:(dA K w H Y J)){xs ys:List D}{us:List V}(f:(J[n]?=Ā (.lst xs)))(c:Y[n]?=Ā a)(i:H a=Ā (.lst us))(q:Reps K H Y ys vs):dA K w (bz H a (.lst vs)) Y (J.set n (.lst ys)):=by
 have e:=fN (K:=K) (Y:=Y) (o:=.lst vs) i;refine⟨by simp[S.len],S.nd,λm o b g G=>?_⟩;by_cases h:m=n
 ·subst h;rw[Tg ((Se.mp f).1)]at g;cases g;rw[c]at G;cases G;exact⟨vs,aV,q.mono e⟩
 ·rw[Th (λz=>h z.symm)]at g;refine(S.ob m o b g G).mono e (aN λz=>h ?_);subst z;obtain⟨l1,E⟩:=(Se.mp G);obtain⟨l2,d⟩:=(Se.mp c);exact(Ru S.nd).mp (E.trans d.symm)
end
structure cu(K:W.Frag)(H:Hp)(Y:List Ĉ)(ρ:Ro)(σ:St):Prop where
 len:ρ.length=σ.length
 at':∀(i:ă) d,ρ[i]?=Ā (Ā d)->∃v,σ[i]?=Ā (Ā v)/\aM K H Y d v
theorem cu.mono{H':Hp}{Y':List Ĉ}{ρ:Ro}(e:iK K H H' Y Y')(R:cu K H Y ρ σ):cu K H' Y' ρ σ:=
 ⟨R.len,λi d h=>let ⟨v,h1,h2⟩:=R.at' i d h;⟨v,h1,h2.mono e⟩⟩
theorem cu.set{ρ:Ro}{d:D}(R:cu K H Y ρ σ)(i:ă)(q:aM K H Y d v):cu K H Y (ρ.set i (Ā d)) (σ.set i (Ā v)):=by
 refine⟨by simp[R.len],λj a h=>?_⟩;by_cases r:j=i
 ·subst r;have L:j<ρ.length:=by have:=(Se.mp h).1;simpa using this
  rw[Tg L]at h;cases h;exact⟨v,by rw[Tg (by rw[<- R.len];exact L)],q⟩
 ·rw[Th (λz=>r z.symm)]at h⊢;exact R.at' j a h
structure DX where
 cls:ď
 args:List (ď×Ć)
inductive aj(β:Type) where
 |ok (a:β) (J:az)|exc (x:DX) (J:az)|bad
noncomputable def aj.bind(o:aj β)(g:β->az->aj γ):aj γ:=match o with
 |.ok a d=>g a d
 |.exc x d=>.exc x d
 |.bad=>.bad
@[simp] theorem aa{a:β}{J:az}{g:β->az->aj γ}:(aj.ok a J).bind g=g a J:=VW (VX _)
inductive SO where
 |next (ρ:Ro) (J:az)|ret (d:D) (J:az)|brk (ρ:Ro) (J:az)|cnt (ρ:Ro) (J:az)|exc (x:DX) (J:az)|bad
noncomputable def aj.bindS(o:aj β)(g:β->az->SO):SO:=match o with
 |.ok a d=>g a d
 |.exc x d=>.exc x d
 |.bad=>.bad
@[simp] theorem ae{a:β}{J:az}{g:β->az->SO}:(aj.ok a J).bindS g=g a J:=VW (VX _)
@[simp] theorem Dz{a:DX}{J:az}{g:β->az->SO}:(aj.exc a J:aj β).bindS g=.exc a J:=VW (VX _)
noncomputable def SO.bind(o:SO)(g:Ro->az->SO):SO:=match o with
 |.next e d=>g e d
 |o=>o
structure Pa where
 K:W.Frag
 w:ē
 xw:DX->az->Hp->List Ĉ->Prop
noncomputable abbrev Pa.S(p:Pa):=dA p.K p.w
noncomputable abbrev Pa.X(p:Pa):=iK p.K
noncomputable abbrev Pa.R(p:Pa):=aM p.K
abbrev Pa.Rs(p:Pa):=Reps p.K
def aD(p:Pa)(H:Hp)(Y:List Ĉ)(o:aj β)(R:β->az->Hp->List Ĉ->Prop):Prop:=match o with
 |.ok a e=>∀f d,p.X H f Y d->p.S f d e->R a e f d
 |.exc x e=>∀f d,p.X H f Y d->p.S f d e->p.xw x e f d
 |.bad=>ł
def dw(p:Pa)(H:Hp)(Y:List Ĉ)(o:SO)(D:lG):Prop:=match o with
 |.next i g=>∀f e h,p.X H f Y e->p.S f e g->cu p.K f e i h->D.nx h f
 |.brk i g=>∀f e h,p.X H f Y e->p.S f e g->cu p.K f e i h->D.bk h f
 |.cnt i g=>∀f e h,p.X H f Y e->p.S f e g->cu p.K f e i h->D.ct h f
 |.ret d g=>∀f e v,p.X H f Y e->p.S f e g->p.R f e d v->D.rt v f
 |.exc x g=>∀f e,p.X H f Y e->p.S f e g->p.xw x g f e
 |.bad=>ł
section
variable{p:Pa}{H1:Hp}{Y1:List Ĉ}
theorem aD.imp{o:aj β}{R R':β->az->Hp->List Ĉ->Prop}(h:aD p H Y o R)(k:∀a J' H' Y',p.X H H' Y Y'->p.S H' Y' J'->R a J' H' Y'->R' a J' H' Y'):aD p H Y o R':=by
 cases o with
 |ok a d=>exact λH' Y' e s=>k a d H' Y' e s (h H' Y' e s)
 |exc x d=>exact h
 |bad=>exact h
theorem aD.from{o:aj β}{R:β->az->Hp->List Ĉ->Prop}(e:p.X H H1 Y Y1)(h:aD p H Y o R):aD p H1 Y1 o R:=by
 cases o with
 |ok a g=>exact λf d E s=>h f d (e.trans E) s
 |exc x g=>exact λf d E s=>h f d (e.trans E) s
 |bad=>exact h
theorem aD.bind{o:aj β}{g:β->az->aj γ}{R:γ->az->Hp->List Ĉ->Prop}(h:aD p H Y (o.bind g) R):aD p H Y o (λa J1 H1 Y1=>aD p H1 Y1 (g a J1) R):=by
 cases o with
 |ok a f=>exact λi d e s=>aD.from e h
 |exc x f=>exact h
 |bad=>exact h
theorem aD.now{a:β}{J:az}{R:β->az->Hp->List Ĉ->Prop}(h:aD p H Y (.ok a J) R)(s:(p.S H Y J)):R a J H Y:=h H Y iK.refl s
theorem dw.from{o:SO}{D:lG}(e:p.X H H1 Y Y1)(h:dw p H Y o D):dw p H1 Y1 o D:=by
 cases o with
 |next k j=>exact λi f g E s r=>h i f g (e.trans E) s r
 |brk k j=>exact λi f g E s r=>h i f g (e.trans E) s r
 |cnt k j=>exact λi f g E s r=>h i f g (e.trans E) s r
 |ret d j=>exact λi f v E s r=>h i f v (e.trans E) s r
 |exc x j=>exact λi f E s=>h i f (e.trans E) s
 |bad=>exact h
theorem aD.bindS{o:aj β}{g:β->az->SO}{D:lG}(h:dw p H Y (o.bindS g) D):aD p H Y o (λa J1 H1 Y1=>dw p H1 Y1 (g a J1) D):=by
 cases o with
 |ok a f=>exact λi d e s=>dw.from e h
 |exc x f=>exact h
 |bad=>exact h
end
abbrev ME:=Ro->az->aj D
abbrev MT:=Ro->az->aj ċ
abbrev MA:=Ro->az->aj (List D)
abbrev MS:=Ro->az->SO
abbrev MG:=D->Ro->az->aj Ro
abbrev RV(p:Pa)(Q:VK):D->az->Hp->List Ĉ->Prop:=λd _ f e=>∀v,p.R f e d v->Q v f
def tD(p:Pa)(f:ME):TE:=λg H Q=>∃Y e d,p.S H Y d/\cu p.K H Y e g/\aD p H Y (f e d) (RV p Q)
def ma(p:Pa)(f:MT):TT:=λh H Q=>∃Y e d,p.S H Y d/\cu p.K H Y e h/\aD p H Y (f e d) (λb _ g _=>Q b g)
def wX(p:Pa)(f:MA):TA:=λi H Q=>∃Y h g,p.S H Y g/\cu p.K H Y h i/\aD p H Y (f h g) (λs _ e d=>∀y,p.Rs e d s y->Q y e)
def me(p:Pa)(f:MS):TS:=λD g H=>∃Y e d,p.S H Y d/\cu p.K H Y e g/\dw p H Y (f e d) D
def sU(p:Pa)(g:MG):TG:=λv l H Q=>∃Y k j d,p.S H Y j/\cu p.K H Y k l/\p.R H Y d v/\aD p H Y (g d k j) (λi _ h f=>∀e,cu p.K h f i e->Q e h)
theorem PE.weak{X:Cx}{t t':TE}(h:PE X e t)(k:(∀σ H Q,t' σ H Q->t σ H Q)):PE X e t':=λP s σ H Q I q=>h P s σ H Q I (k σ H Q q)
theorem PT.weak{X:Cx}{t t':TT}(h:PT X e t)(k:(∀σ H Q,t' σ H Q->t σ H Q)):PT X e t':=λP s σ H Q I q=>h P s σ H Q I (k σ H Q q)
theorem PW.weak{X:Cx}{t t':TT}(h:PW X e t)(k:(∀σ H Q,t' σ H Q->t σ H Q)):PW X e t':=λW P s σ H Q I q=>h W P s σ H Q I (k σ H Q q)
theorem PA.weak{X:Cx}{e:4e1}{t t':TA}(h:PA X e t)(k:(∀σ H Q,t' σ H Q->t σ H Q)):PA X e t':=λpos P s σ H Q I q=>h pos P s σ H Q I (k σ H Q q)
theorem PS.weak{X:Cx}{e:ĝ}{t t':TS}(h:PS X e t)(k:∀D σ H,t' D σ H->t D σ H):PS X e t':=λP s σ H Q I q=>h P s σ H Q I (k Q σ H q)
theorem ly.weak{X:Cx}{e:List ĝ}{t t':TS}(h:ly X e t)(k:∀D σ H,t' D σ H->t D σ H):ly X e t':=λP s σ H Q I q=>h P s σ H Q I (k Q σ H q)
noncomputable def ai(i:ă):ME:=λf e=>match f[i]? with
 |some (Ā d)=>.ok d e
 |_=>.bad
noncomputable def cC(d:D):ME:=λ_ e=>.ok d e
def au(O:(D->D->az->aj D))(fa fb:ME):ME:=λf g=>(fa f g).bind λa d=>(fb f d).bind λb e=>O a b e
def iu(O:D->az->aj D)(fa:ME):ME:=λf e=>(fa f e).bind λa d=>O a d
noncomputable def aw:MA:=λ_ d=>.ok [] d
def ag(fa:ME)(G:MA):MA:=λf g=>(fa f g).bind λa d=>(G f d).bind λr e=>.ok (a::r) e
def aA(f:2e5)(fa:MA):ME:=λe d=>(fa e d).bind f
def bJ(fa:MA):ME:=aA (λs d=>if s.length<=sizeLine then .ok (.tup s) d else .bad) fa
def d4(fa:MA):ME:=aA (λs d=>if s.length<=sizeLine then .ok (.obj d.length) (d++[.lst s]) else .bad) fa
noncomputable def Dt:D->az->aj ċ
 |.bl b,d=>.ok b d
 |_,_=>.bad
def eP(f:ME):MT:=λe d=>(f e d).bind Dt
def kx(f g:MT):MT:=λe h=>(f e h).bind λb d=>if b=ą then g e d else .ok ć d
def mJ(f g:MT):MT:=λe h=>(f e h).bind λb d=>if b=ą then .ok ą d else g e d
def iC(f:MT):MT:=λg e=>(f g e).bind λb d=>.ok (!b) d
def tJ(f g:ME):ME:=λh i=>(f h i).bind λa d=>(Dt a d).bind λb e=>if b=ą then g h e else .ok (.bl ć) e
def Av(f g:ME):ME:=λh i=>(f h i).bind λa d=>(Dt a d).bind λb e=>if b=ą then .ok (.bl ą) e else g h e
def tI(f:ME):ME:=λh g=>(f h g).bind λa d=>(Dt a d).bind λb e=>.ok (.bl (!b)) e
def Lr(c:MT)(f g:ME):ME:=λe h=>(c e h).bind λb d=>if b=ą then f e d else g e d
def sO(p:Pa)(O:(D->D->az->aj D))(r:R2):Prop:=∀a b v y H Y d Q,p.S H Y d->p.R H Y a v->p.R H Y b y->aD p H Y (O a b d) (RV p Q)->r v y H Q
def QR(p:Pa)(O:D->az->aj D)(r:V->Hp->VK->Prop):Prop:=∀a v H Y d Q,p.S H Y d->p.R H Y a v->aD p H Y (O a d) (RV p Q)->r v H Q
def sN(p:Pa)(f:2e5)(r:(List V->Hp->VK->Prop)):Prop:=∀s y H Y d Q,p.S H Y d->p.Rs H Y s y->aD p H Y (f s d) (RV p Q)->r y H Q
section
variable{p:Pa}
theorem rq{d:D}{J:az}{R:ċ->az->Hp->List Ĉ->Prop}(h:aD p H Y (Dt d J) R)(r:p.R H Y d v)(s:(p.S H Y J)):∃b,d=.bl b/\v=.bl b/\R b J H Y:=by
 cases d with
 |bl b=>exact⟨b,rfl,aP.mp r,h.now s⟩
 |non=>exact h.elim
 |int i=>exact h.elim
 |str x=>exact h.elim
 |tup e=>exact h.elim
 |frz e=>exact h.elim
 |obj n=>exact h.elim
variable{X:Cx}{a b c:Expr}{es:4e1}{fa fb fc:ME}
theorem IF(h:PE X (.Name x pos) (Hk i)):PE X (.Name x pos) (tD p (ai i)):=h.weak λl H Q=>aR λY j k S R P=>by
 unfold ai at P;cases e:j[i]? with
 |none=>rw[e]at P;exact P.elim
 |some o=>
  rw[e]at P;cases o with
  |none=>exact P.elim
  |some d=>
   refine bb (R.at' i d e) λv f g=>?_;exact⟨v,f,P.now S v g⟩
theorem Aq{d:D}(h:PE X e (tC v))(r:∀H Y,p.R H Y d v):PE X e (tD p (cC d)):=h.weak λi H Q=>aR λY g f S R P=>P.now S v (r H Y)
theorem gD{op:Õ}{o:(D->D->az->aj D)}{r:R2}(O:iw X (Ļ op) r)(hd:sO p o r)(A:(PE X a (tD p fa)))(B:PE X b (tD p fb)):PE X (.BinOp a op b pos) (tD p (au o fa fb)):=
 (Nv O A B).weak λs H Q=>aR λY g q S R P=>⟨Y,g,q,S,R,P.bind.imp λx e H1 Y1 m j h v V=>⟨Y1,g,e,j,R.mono m,h.bind.imp λy f l d n k i u U=>hd x y v u l d f Q k (V.mono n) U i⟩⟩
theorem IK{o:(D->D->az->aj D)}{r:R2}(O:iw X (Ĭ op) r)(hd:sO p o r)(A:(PE X a (tD p fa)))(B:PE X b (tD p fb))(M:Ř op b=ć):PE X (.Compare a [op] [b] pos) (tD p (au o fa fb)):=
 (Fq O A B M).weak λs H Q=>aR λY g q S R P=>⟨Y,g,q,S,R,P.bind.imp λx e H1 Y1 m j h v V=>⟨Y1,g,e,j,R.mono m,h.bind.imp λy f l d n k i u U=>hd x y v u l d f Q k (V.mono n) U i⟩⟩
theorem Ii{o:(D->D->az->aj D)}{r:R2}(O:iw X (Ĭ op) r)(hd:sO p o r)(A:(PE X a (tD p fa)))(B:PE X b (tD p fb))(M:Ř op b=ć):PT X (.Compare a [op] [b] pos) (ma p (eP (au o fa fb))):=
 (E6 O A B M).weak λμ H Q => aR λY h t S R P => ⟨Y, h, t, S, R, P.bind.bind.imp λx f H1 Y1 n k i v V => ⟨Y1, h, f, k, R.mono n, i.bind.imp λy g l e q m j u U =>
  hd x y v u l e g _ m (V.mono q) U (j.imp λd w C s I G E z Z=>by
   grind [rq])⟩⟩
theorem M6{op:UnaryOp}{o:D->az->aj D}{r:V->Hp->VK->Prop}(O:Ov X (Za op) r)(hd:QR p o r)(A:(PE X a (tD p fa))):PE X (.UnaryOp op a pos) (tD p (iu o fa)):=
 (Nt O A).weak λj H Q=>aR λY i g S R P=>⟨Y,i,g,S,R,P.bind.imp λx d H1 Y1 m e h v f=>hd x v H1 Y1 d Q e f h⟩
theorem IP:PA X [] (wX p aw):=lJ.weak λf H Q=>aR λY e d S R P=>P.now S [] Reps.nil
theorem ES{fr:MA}(A:(PE X a (tD p fa)))(r:PA X es (wX p fr))(hs:(ĉ (a::es) 1e4=(ć,eval a 1e4)::ĉ es 1e4)):PA X (a::es) (wX p (ag fa fr)):=
 (fM A r hs).weak λq H Q=>aR λY e k S R P=>⟨Y,e,k,S,R,P.bind.imp λx d H1 Y1 m f h v V=>⟨Y1,e,d,f,R.mono m,h.bind.imp λy l o j n g i U u=>i.now g _ (Reps.cons (V.mono n) u)⟩⟩
theorem IG{k:ă}{fr:MA}(h:PA X es (wX p fr)):PE X (.Tuple es k pos) (tD p (bJ fr)):=
 (Jk h).weak λj H Q => aR λY i f S R P => ⟨Y, i, f, S, R, P.bind.imp λs g H1 Y1 m e d y r => by
  by_cases L:s.length<=sizeLine
  ·rw[RC L]at d;exact⟨by rw[r.length];exact L,λq z=>(d _ _ (bB z) (e.tuple z) _ (aH.mpr ⟨q,y,rfl,eQ.of aV,r.mono (bB z)⟩))⟩
  ·rw [RE L] at d
   exact d.elim⟩
theorem cZ{J:az}{ds:List D}{q:Ĉ}(S:(p.S H Y J))(z:H q=Ă)(r:p.Rs H Y ds vs):
  p.X H (bz H q (.lst vs)) Y (Y++[q])/\p.S (bz H q (.lst vs)) (Y++[q]) (J++[.lst ds])/\p.R (bz H q (.lst vs)) (Y++[q]) 1e3 (.ref q):=by
 have m:p.X H (bz H q (.lst vs)) Y (Y++[q]):=(bB z).trans (gM [q]);exact⟨m,S.more z ⟨vs,aV,r.mono m⟩,aI.mpr ⟨q,rfl,by rw[<- S.len];simp⟩⟩
theorem II{fr:MA}(h:PA X es (wX p fr)):PE X (.List es pos) (tD p (d4 fr)):=
 (Bl h).weak λk H Q => aR λY j f S R P => ⟨Y, j, f, S, R, P.bind.imp λs g H1 Y1 m e d y r => by
  by_cases L:s.length<=sizeLine
  ·rw[RC L]at d;refine⟨by rw[r.length];exact L,λq z=>?_⟩;refine gF (cZ e z r) λB G i=>?_;exact d _ _ B G _ i
  ·rw [RE L] at d
   exact d.elim⟩
variable{ft gt:MT}
theorem Ie(A:PT X a (ma p ft))(B:PW X (.BoolOp .And (b::rest) pos) (ma p gt)):PW X (.BoolOp .And (a::b::rest) pos) (ma p (kx ft gt)):=
 (IZ A B).weak λi H Q => aR λY f g S R P => ⟨Y, f, g, S, R, P.bind.imp λk d H1 Y1 m e h => by
  cases k with
  |true=>rw[RC rfl]at h⊢;exact⟨Y1,f,d,e,R.mono m,h⟩
  |false=>rw[RE RF]at h⊢;exact h.now e⟩
theorem MV(A:PT X a (ma p ft))(B:PW X (.BoolOp .Or (b::rest) pos) (ma p gt)):PW X (.BoolOp .Or (a::b::rest) pos) (ma p (mJ ft gt)):=
 (Nq A B).weak λi H Q => aR λY f g S R P => ⟨Y, f, g, S, R, P.bind.imp λk d H1 Y1 m e h => by
  cases k with
  |true=>rw[RC rfl]at h⊢;exact h.now e
  |false=>rw[RE RF]at h⊢;exact⟨Y1,f,d,e,R.mono m,h⟩⟩
theorem Ih(A:PT X a (ma p ft)):PT X (.UnaryOp .Not a pos) (ma p (iC ft)):=
 (I0 A).weak λi H Q=>aR λY g e S R P=>⟨Y,g,e,S,R,P.bind.imp λk f H1 Y1 m d h=>h.now d⟩
theorem IL(A:(PE X a (tD p fa)))(B:PE X (.BoolOp .And (b::rest) pos) (tD p fb)):PE X (.BoolOp .And (a::b::rest) pos) (tD p (tJ fa fb)):=
 (Jr A B).weak λl H Q => aR λY h j S R P => ⟨Y, h, j, S, R, P.bind.imp λd g H1 Y1 m f i v r => by
  refine bo (rq i.bind r f) λk _ e q=>?_;refine⟨k,e,?_⟩;cases k with
  |true=>rw[RC rfl]at q⊢;exact⟨Y1,h,g,f,R.mono m,q⟩
  |false=>rw[RE RF]at q⊢;exact q.now f _ (aP.mpr rfl)⟩
theorem M7(A:(PE X a (tD p fa)))(B:PE X (.BoolOp .Or (b::rest) pos) (tD p fb)):PE X (.BoolOp .Or (a::b::rest) pos) (tD p (Av fa fb)):=
 (Nu A B).weak λl H Q => aR λY h j S R P => ⟨Y, h, j, S, R, P.bind.imp λd g H1 Y1 m f i v r => by
  refine bo (rq i.bind r f) λk _ e q=>?_;refine⟨k,e,?_⟩;cases k with
  |true=>rw[RC rfl]at q⊢;exact q.now f _ (aP.mpr rfl)
  |false=>rw[RE RF]at q⊢;exact⟨Y1,h,g,f,R.mono m,q⟩⟩
theorem IH(A:(PE X a (tD p fa))):PE X (.UnaryOp .Not a pos) (tD p (tI fa)):=
 (Jo A).weak λl H Q => aR λY j g S R P => ⟨Y, j, g, S, R, P.bind.imp λd i H1 Y1 m f h v r => by
  refine bo (rq h.bind r f) λk _ e q=>?_
  exact⟨k,e,q.now f _ (aP.mpr rfl)⟩⟩
theorem M9(C:PT X c (ma p ft))(A:(PE X a (tD p fa)))(B:PE X b (tD p fb)):PE X (.IfExp c a b pos) (tD p (Lr ft fa fb)):=
 (CK C A B).weak λi H Q => aR λY e g S R P => ⟨Y, e, g, S, R, P.bind.imp λk d H1 Y1 m f h => by
  cases k with
  |true=>rw[RC rfl]at h⊢;exact⟨Y1,e,d,f,R.mono m,h⟩
  |false=>rw[RE RF]at h⊢;exact⟨Y1,e,d,f,R.mono m,h⟩⟩
theorem Cr{id:Ī}{f:2e5}{fr:MA}{r:(List V->Hp->VK->Prop)}(C:b8 X (.builtin id) r)(hd:sN p f r)(N:Gl X x)(m:X.mg x=Ă)(v:Ġ x=Ā (.builtin id))(A:PA X (a::es) (wX p fr))(g:x ≠ "__name__")(B:(x == ("__debug__" : ď))=ć)(n:(ĉ (a::es) 1e4=(ć,eval a 1e4)::ĉ es 1e4))(L:(Ħ pos (ĉ es 1e4)).any 4e2=ć):PE X (.Call (.Name x px) (a::es) [] pos) (tD p (aA f fr)):=
 (kT C N m v A g B n L).weak λo H Q=>aR λY k j S R P=>⟨Y,k,j,S,R,P.bind.imp λs d H1 Y1 l e h y i=>hd s y H1 Y1 d Q e i h⟩
theorem zb{T:Ī}{f:2e5}{fr:MA}{r:(List V->Hp->VK->Prop)}(C:b8 X (.type T) r)(hd:sN p f r)(N:Gl X x)(m:X.mg x=Ă)(v:Ġ x=Ā (.type T))(A:PA X (a::es) (wX p fr))(g:x ≠ "__name__")(B:(x == ("__debug__" : ď))=ć)(n:(ĉ (a::es) 1e4=(ć,eval a 1e4)::ĉ es 1e4))(L:(Ħ pos (ĉ es 1e4)).any 4e2=ć):PE X (.Call (.Name x px) (a::es) [] pos) (tD p (aA f fr)):=
 (qt C N m v A g B n L).weak λo H Q=>aR λY k j S R P=>⟨Y,k,j,S,R,P.bind.imp λs d H1 Y1 l e h y i=>hd s y H1 Y1 d Q e i h⟩
end
def bU(f:ME):MS:=λj i=>(f j i).bindS λd h=>.ret d h
noncomputable def b9:MS:=λh d=>.next h d
def aY(f g:MS):MS:=λh d=>(f h d).bind g
def gS(c:MT)(f g:MS):MS:=λh i=>(c h i).bindS λb d=>if b=ą then f h d else g h d
def aZ(f:ME)(g:MG):MS:=λk l=>(f k l).bindS λd h=>(g d k h).bindS λj i=>.next j i
def fw(f:ME):MS:=λh i=>(f h i).bindS λ_ d=>.next h d
def qT(i:ă)(O:(D->D->az->aj D))(f:ME):MS:=λk l=>(ai i k l).bindS λa d=>(f k d).bindS λb h=>(O a b h).bindS λc j=>.next (k.set i (Ā c)) j
noncomputable def ah(i:ă):MG:=λd j h=>.ok (j.set i (Ā d)) h
abbrev Dw:=List D->Ro->az->aj Ro
noncomputable def cn:Dw:=λs h d=>match s with
 |[]=>.ok h d
 |_::_=>.bad
def aS(g:MG)(u:Dw):Dw:=λs k j=>match s with
 |[]=>.bad
 |d::r=>(g d k j).bind λi h=>u r i h
def cm(n:ă)(u:Dw):MG:=λd i h=>match d with
 |.tup S=>if S.length=n then u S i h else .bad
 |_=>.bad
def vq(o i v:D)(J:az):aj ŏ:=match o,i with
 |.obj n,.int k=>match J[n]? with
  |some (.lst S)=>match vk S.length k with
   |some j=>.ok () (J.set n (.lst (S.set j v)))
   |none=>.bad
  |_=>.bad
 |_,_=>.bad
def kr(fo fi:ME):MG:=λd k l=>(fo k l).bind λo h=>(fi k h).bind λi j=>(vq o i d j).bind λ_ w=>.ok k w
def An(p:Pa)(g:Dw):DH:=λy n H Q=>∃h m l s,p.S H h l/\cu p.K H h m n/\p.Rs H h s y/\aD p H h (g s m l) (λj _ k i=>∀d,cu p.K k i j d->Q d k)
theorem PG.weak{X:Cx}{t t':TG}(h:PG X e t)(k:∀v σ H Q,t' v σ H Q->t v σ H Q):PG X e t':=λP s σ H v u Q I r q=>h P s σ H v u Q I r (k v σ H Q q)
theorem Ab.weak{X:Cx}{e:4e1}{t t':DH}(h:Ab X e t)(k:∀v σ H Q,t' v σ H Q->t v σ H Q):Ab X e t':=λP s σ H v u Q I r q=>h P s σ H v u Q I r (k v σ H Q q)
theorem PI.weak{X:Cx}{t t':TI}(h:PI X tg e t)(k:∀σ H R,t' σ H R->t σ H R):PI X tg e t':=λP s σ H Q I q=>h P s σ H Q I (k σ H Q q)
section
variable{p:Pa}{X:Cx}{a b c:Expr}{es:4e1}{f:ME}{g:MG}{u:Dw}{sts:List ĝ}{fs gs:MS}{ft:MT}
theorem Io:ly X [] (me p b9):=E7.weak λD d H=>aR λh j i S R P=>P H h d iK.refl S R
theorem Co{t u:TS}{D:lG}{σ:St}{H:Hp}{Y:List Ĉ}{o:SO}{k:MS}(h:dw p H Y (o.bind k) D)
  (K:∀D σ H,me p k D σ H->u D σ H):dw p H Y o {D with nx:=u D}:=by
 cases o with
 |next l i=>exact λn j m e s r=>K _ _ _ ⟨j,l,i,s,r,dw.from e h⟩
 |brk l i=>exact h
 |cnt l i=>exact h
 |ret d i=>exact h
 |exc x i=>exact h
 |bad=>exact h
theorem Et(h:PS X st (me p fs))(i:ly X sts (me p gs)):ly X (st::sts) (me p (aY fs gs)):=
 (ud h i).weak λD d H=>aR λj l k S R P=>⟨j,l,k,S,R,Co (t:=me p fs) (σ:=d) P λ_ _ _ z=>z⟩
theorem Il(H:PS X st (me p fs)):ly X [st] (me p fs):=xX H
theorem Ik(h:PE X e (tD p f)):PS X (.Return (Ā e) pos) (me p (bU f)):=
 (Jb h).weak λD t H=>aR λm q n S R P=>⟨m,q,n,S,R,(aD.bindS P).imp λd o j i s l k v r=>k j i v iK.refl l r⟩
theorem MW{A B:List ĝ}(C:PT X c (ma p ft))(n:ly X A (me p fs))(o:ly X B (me p gs)):PS X (.If c A B pos) (me p (gS ft fs gs)):=
 (Nr C n o).weak λD t H => aR λq j r S R P => ⟨q, j, r, S, R, (aD.bindS P).imp λk d s i m l h => by
  cases k with
  |true=>rw[RC rfl]at h⊢;exact⟨i,j,d,l,R.mono m,h⟩
  |false=>rw[RE RF]at h⊢;exact⟨i,j,d,l,R.mono m,h⟩⟩
theorem uT{D:lG}(h:me p (aZ f g) D σ H):Ao (tD p f) (sU p g) D σ H:=by
 refine cv h λx m y S R P=>?_;exact⟨x,m,y,S,R,(aD.bindS P).imp λd k B i t r o v V=>⟨i,m,k,d,r,R.mono t,V,(aD.bindS o).imp λA z n j C s q l w=>q n j l iK.refl s w⟩⟩
theorem Ir(n:PE X e (tD p f))(N:PG X tg (sU p g))(hs:ò [tg] e pos.line 1e4=pure ć)(W:ó [tg] e 1e4=pure Ă)
  (d:(Ķ [tg] 1e4).map (·.2)=[Ŝ tg 1e4]):PS X (.Assign [tg] e pos) (me p (aZ f g)):=(Je n N hs W d).weak λD i H h=>uT h
theorem oC{Q:St->Hp->Prop}(h:sU p (ah i) v σ H Q):tH i v σ H Q:=by
 refine cx h λj l k d S R r P=>?_;exact P.now S _ (R.set i r)
theorem EG(hN:(X.N.Nodup))(I:(X.N[i]?=Ā x))(d:(yN X.env.scope x))(F:2e3):PG X (.Name x pos) (sU p (ah i)):=
 (Fk hN I d F).weak λv j H Q h=>oC h
theorem Ij(hN:(X.N.Nodup))(I:(X.N[i]?=Ā x))(k:(yN X.env.scope x))(n:PE X e (tD p f))(hs:ī e (Ā (.Name x pos')) pos.line 1e4=pure ć)(F:2e3):
  PS X (.Assign [.Name x pos'] e pos) (me p (aZ f (ah i))):=(Ja hN I k n hs F).weak λD z H h=>by
 refine cv (uT h) λl s o S R P=>?_;exact⟨l,s,o,S,R,P.imp λd q t m y w j v r=>oC (j v r)⟩
theorem Es(n:PE X e (tD p f))(hs:ī e Ă pos.line 1e4=pure ć):PS X (.Expr e pos) (me p (fw f)):=
 (Fc n hs).weak λD s H=>aR λl r o S R P=>⟨l,r,o,S,R,(aD.bindS P).imp λd q h i m k j v V=>j h i s iK.refl k (R.mono m)⟩
theorem EF:Ab X [] (An p cn):=Fj.weak λy h H Q=>kM λi k j s S R r P=>by
 cases s with
 |nil=>simp[Reps]at r;exact⟨r,P.now S h R⟩
 |cons d s=>exact P.elim
theorem Ci(n:PG X e (sU p g))(o:Ab X es (An p u))(hs:(Ķ (e::es) 1e4).map (·.2)=Ŝ e 1e4::(Ķ es 1e4).map (·.2)):Ab X (e::es) (An p (aS g u)):=
 (CI n o hs).weak λB C H Q => kM λw y x s S R r P => by
  cases s with
  |nil=>exact P.elim
  |cons d s=>
   refine aU r λv V G t L=>?_;subst G;exact⟨v,V,rfl,w,y,x,d,S,R,t,((aD.bind P).imp λj h A i m l k z q=>⟨i,j,h,s,l,q,L.mono m,k⟩)⟩
theorem ID{k:ă}(hK:X.K=p.K)(C:X.calm=ą)(h:Ab X es (An p u))(N:(Ķ es 1e4).length=n)(t:(Ķ es 1e4).findIdx? 4e2=Ă):PG X (.Tuple es k pos) (sU p (cm n u)):=
 (Ji C h N t).weak λv z H Q => kM λm q o d S R r P => by
  cases d with
  |tup s=>
   refine aU (aH.mp r) λa y G w l=>?_;subst G;have j:aD p H m (if s.length=n then u s q o else .bad) _:=P;by_cases L:s.length=n
   ·rw[RC L]at j;exact⟨a,y,rfl,by rw[hK];exact w,by rw[l.length];exact L,m,q,o,s,S,R,l,j⟩
   ·rw[RE L]at j;exact j.elim
  |non=>exact P.elim
  |bl b=>exact P.elim
  |int i=>exact P.elim
  |str x=>exact P.elim
  |frz s=>exact P.elim
  |obj n=>exact P.elim
theorem EK{o i d:D}{J:az}{R:ŏ->az->Hp->List Ĉ->Prop}{vo vi:V}(S:(p.S H Y J))(ro:p.R H Y o vo)(I:p.R H Y i vi)(l:p.R H Y d v)(P:aD p H Y (vq o i d J) R):
  GP vo vi v H λH'=>∃J',p.X H H' Y Y/\p.S H' Y J'/\R () J' H' Y:=by
 unfold vq at P;split at P
 ·rename_i n k;split at P
  ·rename_i x h;split at P
   ·rename_i j μ;refine jE (S.at h) λa A U hH r=>?_;obtain⟨m,rfl,E⟩:=aI.mp ro;rw[A]at E;cases E;rw[ao.mp I];have q:=r.set l j;exact⟨a,U,k,j,rfl,rfl,hH,by rw[r.length];exact μ,_,fN hH,S.put h A hH q,(P _ _ (fN hH) (S.put h A hH q))⟩
   ·exact P.elim
  ·exact P.elim
 ·exact P.elim
theorem IE{o i:Expr}{fo fi:ME}(O:PE X o (tD p fo))(I:PE X i (tD p fi))
  (C : ∀ v, Ŝ (.Subscript o i pos) 1e4 v = (do
   let ov <- holding [v] (eval o 1e4)
   let iv <- holding [v,ov] (eval i 1e4)
   æ pos
   holding [v,ov,iv] (Yl ov iv v)
   Zb [v,ov,iv] [])):PG X (.Subscript o i pos) (sU p (kr fo fi)):=
 (Jj O I Ck C).weak λv D H Q => kM λM s U d S R r P => ⟨M, s, U, S, R, (aD.bind P).imp λW l V h m x t vo ro => ⟨h, s, l, x, R.mono m, (aD.bind t).imp λid α F T n y w vi μ => by
  obtain⟨G,L,k,j,E,z,A,B,Z,K,N,q⟩:=EK y (ro.mono n) μ ((r.mono m).mono n) (aD.bind w)
  exact⟨G,L,k,j,E,z,A,B,q.now N D (((R.mono m).mono n).mono K)⟩⟩⟩
theorem Iq{op:Õ}{o:(D->D->az->aj D)}{r:R2}(hN:(X.N.Nodup))(Q:(X.N[i]?=Ā x))(T:(yN X.env.scope x))(M:PE X e (tD p f))(O:OA X op r)(hd:sO p o r)(F:2e3):
  PS X (.AugAssign (.Name x pos') op e pos) (me p (qT i o f)):=(Jd hN Q T M O F).weak λD V H=>aR λq k s S R P=>by
 unfold qT ai at P;cases E:k[i]? with
 |none=>rw[E]at P;exact P.elim
 |some U=>
  rw[E]at P;cases U with
  |none=>exact P.elim
  |some d=>
   refine bb (R.at' i d E) λv K L=>?_;exact⟨v,K,q,k,s,S,R,(aD.bindS (show dw p H q ((f k s).bindS λb h=>(o d b h).bindS λc j=>.next (k.set i (Ā c)) j) D from P)).imp λy h w l n G B u Z=>(hd d y v u w l h _ G (L.mono n) Z ((aD.bindS B).imp λz j A m μ I C t α=>C A m _ iK.refl I (((R.mono n).mono μ).set i α)))⟩
end
inductive kb where
 |fix (xs:List D)|own (n:ă) (xs:List D)|eno (n:ă) (xs:List D)|dks (n:ă) (kvs:(List (List Ć×ă))) (ep:ă)
noncomputable def fy:ă->List D->List D
 |_,[]=>[]
 |i,x::r=>.tup [.int i,x]::fy (i+1) r
theorem qH:∀{xs:List D}{k i:ă},(fy k xs)[i]?=(xs[i]?).map λx=>D.tup [.int ((k+i:ă):Ć),x]
 |[],_,_=>by rfl
 |x::r,k,0=>by rfl
 |x::r,k,i+1=>by
  simp[fy];rw[qH]
  lia
theorem qG:∀{xs:List D}{k:ă},(fy k xs).length=xs.length:=by
 intro x;cases x <;> simp_all[fy,qG]
def kb.items:kb->List D
 |.fix S=>S
 |.own _ S=>S
 |.eno _ S=>fy 0 S
 |.dks _ d _=>d.map λp=>.tup (p.1.map D.int)
def bf:kb->az->Prop
 |.fix _,_=>Ÿ
 |.own n S,d=>d[n]?=Ā (.lst S)
 |.eno n S,d=>d[n]?=Ā (.lst S)
 |.dks n k z,d=>d[n]?=Ā (.dct k z)
def tw(p:Pa)(μ:It)(src:kb)(m:Hp)(k:List Ĉ):Prop:=
 ∀l h j,p.X m l k h->p.S l h j->bf src j ->
  (∀(i:ă) d,src.items[i]?=Ā d->μ.go i l/\∀x H,μ.yld i l x H->p.X l H h h/\p.S H h j/\p.R H h d x)/\μ.stop src.items.length l
abbrev MI:=Ro->az->aj kb
def yH(p:Pa)(f:MI):TI:=λm H R=>∃h l k,p.S H h k/\cu p.K H h l m/\aD p H h (f l k) (λs i j d=>∀μ,bf s i->tw p μ s j d->R μ j)
noncomputable def SO.loop(o:SO)(k:Ro->az->SO):SO:=match o with
 |.next i h=>k i h
 |.cnt i h=>k i h
 |.brk i h=>.next i h
 |.ret d h=>.ret d h
 |.exc x h=>.exc x h
 |.bad=>.bad
open Classical in
def bH(src:kb)(g:MG)(fb:MS):List D->Ro->az->SO
 |[],j,h=>if bf src h then .next j h else .bad
 |d::r,j,h=>if bf src h then (g d j h).bindS λk i=>(fb k i).loop (bH src g fb r) else .bad
def fD(fi:MI)(g:MG)(fb:MS):MS:=λh i=>(fi h i).bindS λs d=>bH s g fb s.items h d
section
variable{p:Pa}{X:Cx}{c:Expr}{fi:MI}{g:MG}{fb:MS}{ft:MT}
theorem zt{o:SO}{k:Ro->az->SO}{D:lG}{N:St->Hp->Prop}(h:dw p H Y (o.loop k) D)(hN:∀ρ J H' Y' σ',p.X H H' Y Y'->p.S H' Y' J->cu p.K H' Y' ρ σ'->dw p H' Y' (k ρ J) D->N σ' H'):dw p H Y o {D with nx:=N,ct:=N,bk:=D.nx}:=by
 cases o with
 |next ρ J=>exact λH' Y' σ' e s r=>hN ρ J H' Y' σ' e s r (dw.from e h)
 |cnt ρ J=>exact λH' Y' σ' e s r=>hN ρ J H' Y' σ' e s r (dw.from e h)
 |brk ρ J=>exact h
 |ret d J=>exact h
 |exc x J=>exact h
 |bad=>exact h
theorem Ip(hp:U_ 1e2 X.A 1e4 X.xe)(hc:X.calm=ą)(B:PI X tg iter (yH p fi))(hg:PG X tg (sU p g))(hb:ly X body (me p fb))(hs:∀x,Ė iter 1e4 x=pure x) :
  PS X (.For tg iter body [] pos) (me p (fD fi g fb)):=(Jc hp hc B hg hb hs).weak λD σ H=>aR λY U J S R P=>by
 refine⟨Y,U,J,S,R,(aD.bindS P).imp λs G T n X1 S1 Z μ hok hJ=>?_⟩
 refine⟨λi m o l=>m=s.items.length-i/\i<=s.items.length/\∃d j h,p.X T l n d/\p.S l d h/\cu p.K l d j o/\dw p l d (bH s g fb (s.items.drop i) j h) D,
  ⟨_,rfl,RT _,n,U,G,iK.refl,S1,R.mono X1,by simpa using Z⟩,?_⟩
 rintro i m o l ⟨rfl,B,d,j,h,y,v,R2,k⟩
 by_cases t:i<s.items.length
 ·rw [VY t] at k;unfold bH at k;by_cases O:bf s h
  ·rw [RC O] at k;obtain⟨z,hy⟩:=(hJ l d h y v O).1 i _ (Vw t)
   refine .inr ⟨z,λr q=>i+1<=s.items.length/\∃d j h,p.X T q n d/\p.S q d h/\cu p.K q d j r/\dw p q d (bH s g fb (s.items.drop (i+1)) j h) D,
    λr q=>zA λh1 h2=>⟨_,by omega,rfl,h1,h2⟩,λx α yx=>?_⟩
   refine gF (hy x α yx) λI S3 W=>?_;refine⟨d,j,h,_,S3,R2.mono I,W,(aD.from I (aD.bindS k)).imp λN L H4 C X4 S4 V σ4 R4=>⟨C,N,L,S4,R4,zt V λQ M H5 E σ5 X5 S5 R5 F=>⟨t,E,Q,M,((y.trans I).trans X4).trans X5,S5,R5,F⟩⟩⟩
  ·rw[RE O]at k;exact k.elim
 ·have e : i = s.items.length := RZ B (R0 t);subst e;rw[VZ]at k;unfold bH at k;by_cases O:bf s h
  ·rw[RC O]at k;exact .inl ⟨(hJ l d h y v O).2,k l d o iK.refl v R2⟩
  ·rw[RE O]at k;exact k.elim
end
section
variable{p:Pa}{X:Cx}
theorem zy{J:az}{xs:List D}(S:(p.S H Y J))(N:(J[n]?=Ā (.lst xs)))(A:Y[n]?=Ā a):tw p (OC p.K a) (.own n xs) H Y:=by
 intro o l m j h O;refine jE (h.at O) λr E y hH R=>?_;rw[j.pre n a A]at E;cases E;refine⟨λi d k=>?_,y,dZ.of hH,by rw[R.length];exact Rx _⟩;refine bb (R.get k) λv V t=>?_;refine⟨⟨y,v,dZ.of hH,V⟩,λx q=>zA λe s=>?_⟩
 simp_all[dZ.of,iK.refl]
theorem C3{xs:List D}(h:GJ p.K H a vs)(r:p.Rs H Y xs vs):tw p (OC p.K a) (.fix xs) H Y:=by
 intro q m o n S O;have j:=(n.frz a vs h).sq;have R:=r.mono n;refine⟨λi d k=>?_,vs,j,by rw[R.length];exact Rx _⟩;refine bb (R.get k) λv l w=>?_;refine⟨⟨vs,v,j,l⟩,λx s=>zA λe t=>?_⟩
 simp_all[iK.refl]
theorem C2{xs:List D}(h:eQ p.K H a vs)(r:p.Rs H Y xs vs):tw p (O3 p.K a) (.fix xs) H Y:=by
 intro q m o n S O;have j:=n.tup a vs h;have R:=r.mono n;refine⟨λi d k=>?_,vs,j,by rw[R.length];exact Rx _⟩;refine bb (R.get k) λv l w=>?_;refine⟨⟨vs,v,j,l⟩,λx s=>zA λe t=>?_⟩
 simp_all[iK.refl]
noncomputable def bc(lo:Ć)(n:ă):List D:=(List.range n).map λ(i:ă)=>D.int (lo+(i:Ć))
theorem uy(lo:Ć)(n:ă):tw p (Le lo n) (.fix (bc lo n)) H Y:=by
 intro m k l q S O;refine⟨λi d D=>?_,by simp[kb.items,bc,Le]⟩;have h:(bc lo n)[i]?=Ā d:=D;unfold bc at h;rw[SS]at h;by_cases I:i<n
 ·rw[V0 I]at h;cases h;refine⟨I,λx o=>zA λe j=>?_⟩;subst e;subst j;exact⟨iK.refl,S,ao.mpr rfl⟩
 simp_all
def yQ(d:D)(J:az):aj kb:=match d with
 |.tup S=>.ok (.fix S) J
 |.frz S=>.ok (.fix S) J
 |.obj n=>match J[n]? with
  |some (.lst S)=>.ok (.own n S) J
  |_=>.bad
 |_=>.bad
def dz(f:ME):MI:=λh d=>(f h d).bind yQ
def Qk(K:W.Frag)(t:TE):TI:=λh H R=>t h H λx d=>∃a,x=.ref a/\(((∃S,dZ K d a S)/\R (OC K a) d)\/((∃S,eQ K d a S)/\R (O3 K a) d))
theorem Jg{l:Expr}{tl:TE}(L:PE X l tl):PI X tg l (Qk X.K tl):=by
 intro P s m H R I h;refine cB (L P s m H _ I h) λv S=>bD λx j d r Q=>?_;obtain⟨a,e,q⟩:=Q;subst e;cases r;rcases q with⟨⟨k,z⟩,q⟩|⟨⟨k,z⟩,q⟩
 ·obtain ⟨i, V, p, Z⟩ := d.list z;refine Vs p.isList ?_;refine⟨S.heap.objs.size,[S.heap.objs.size],_,_,j,rfl,d.kept λb o e=>Tr _ e,yY a _,⟨_,SZ _ rfl,rfl,rfl⟩,λb B=>?_,q⟩;have e:b=S.heap.objs.size:=by simpa using B
  subst e;exact d.fpOk (Rx _) (d.hok.fresh (Rx _))
 ·obtain ⟨i, V, p, Z⟩ := d.tuple z;refine UL p ?_;refine⟨S.heap.objs.size,[S.heap.objs.size],_,_,j,rfl,d.kept λb o e=>Tr _ e,v8 a _,⟨_,SZ _ rfl,rfl,rfl⟩,λb B=>?_,q⟩;have e:b=S.heap.objs.size:=by simpa using B
  subst e;exact d.fpOk (Rx _) (d.hok.fresh (Rx _))
theorem IC{l:Expr}{f:ME}(hK:X.K=p.K)(L:PE X l (tD p f)):PI X tg l (yH p (dz f)):=(Jg L).weak λM H R=>aR λq B w S Rr P=>by
 refine⟨q,B,w,S,Rr,(aD.bind P).imp λd z C t G j h v r=>?_⟩;rw[hK];cases d with
 |tup s=>
  obtain⟨a,y,rfl,k,m⟩:=aH.mp r;exact⟨a,rfl,.inr ⟨⟨y,k⟩,h.now j _ trivial (C2 k m)⟩⟩
 |frz s=>
  obtain⟨a,y,rfl,k,m⟩:=bh.mp r;exact⟨a,rfl,.inl ⟨⟨y,k.sq⟩,h.now j _ trivial (C3 k m)⟩⟩
 |obj n=>
  obtain⟨a,rfl,A⟩:=aI.mp r;unfold yQ at h;dsimp only at h;split at h
  ·rename_i s o;refine jE (j.at o) λI E y hH μ=>?_;rw[A]at E;cases E;exact⟨a,rfl,.inl ⟨⟨y,dZ.of hH⟩,h.now j _ o (zy j o A)⟩⟩
  ·exact h.elim
 |non=>exact h.elim
 |bl b=>exact h.elim
 |int i=>exact h.elim
 |str x=>exact h.elim
def d3(ds:List D)(J:az):aj kb:=match ds with
 |[.int j]=>if -(2^62)<=j/\j<2^62 then .ok (.fix (bc 0 j.toNat)) J else .bad
 |_=>.bad
def lC(ds:List D)(J:az):aj kb:=match ds with
 |[.int i,.int j]=>if -(2^62)<=i/\i<2^62/\-(2^62)<=j/\j<2^62 then .ok (.fix (bc i (j-i).toNat)) J else .bad
 |_=>.bad
def cA(f:List D->az->aj kb)(i:MA):MI:=λh d=>(i h d).bind f
theorem y9{a:Expr}{fa:MA}(N:Gl X "range")(m:(X.mg "range" = Ă))(A:PA X [a] (wX p fa))(hs:(ĉ [a] 1e4=[(ć,eval a 1e4)])):PI X tg (.Call (.Name "range" px) [a] [] pos) (yH p (cA d3 fa)):=
 (zh N m A hs).weak λw H R => aR λk q n S Rr P => ⟨k, q, n, S, Rr, (aD.bind P).imp λD o s l t d h y V => by
  unfold d3 at h;split at h
  ·rename_i j;obtain⟨v,rfl,i⟩:=V.one;rw[ao.mp i];split at h
   ·rename_i r;exact⟨j,rfl,r.1,r.2,h.now d _ trivial (uy 0 _)⟩
   ·exact h.elim
  ·exact h.elim⟩
theorem y8{a b:Expr}{fa:MA}(N:Gl X "range")(m:(X.mg "range" = Ă))(A:PA X [a,b] (wX p fa))(hs:ĉ [a,b] 1e4=[(ć,eval a 1e4),(ć,eval b 1e4)])(d:ĉ [b] 1e4=[(ć,eval b 1e4)]):PI X tg (.Call (.Name "range" px) [a,b] [] pos) (yH p (cA lC fa)):=
 (zg N m A hs d).weak λB H R => aR λo w s S Rr P => ⟨o, w, s, S, Rr, (aD.bind P).imp λD t x q y k h z V => by
  unfold lC at h;split at h
  ·rename_i i j;refine aU V.two λv u n l L=>?_;subst n;rw[ao.mp l,ao.mp L];split at h
   ·rename_i r;exact⟨i,j,rfl,r,h.now k _ trivial (uy i _)⟩
   ·exact h.elim
  ·exact h.elim⟩
theorem qA{b:ċ}{src:kb}{xs:List D}(I:src.items=fy 0 xs)(hs:∀H2 Y2 J2,p.X H H2 Y Y2->p.S H2 Y2 J2->bf src J2->∃vs,Sq b p.K H2 a vs/\p.Rs H2 Y2 xs vs ):tw p (O4 b p.K a) src H Y:=by
 intro H2 Y2 J2 n k O;refine bb (hs H2 Y2 J2 n k O) λvs j R=>?_;rw[I];refine⟨λi d h=>?_,vs,j,by rw[R.length,qG]⟩;rw[qH]at h;cases e:xs[i]? with
 |none=>rw[e]at h;cases h
 |some y=>
  rw[e]at h;cases h;refine bb (R.get e) λv V r=>?_;refine⟨⟨vs,v,j,V⟩,λx o=>jS λq w E z m l=>?_⟩;subst E m;have:=l vs j;rw[V]at this;cases this;refine⟨bB z,k.tuple z,aH.mpr ⟨q,_,rfl,eQ.of aV,?_⟩⟩;rw[Vc];exact Reps.cons (ao.mpr rfl) (Reps.cons (r.mono (bB z)) Reps.nil)
def mn(ds:List D)(J:az):aj kb:=match ds with
 |[.tup S]=>.ok (.fix (fy 0 S)) J
 |[.obj n]=>match J[n]? with
  |some (.lst S)=>.ok (.eno n S) J
  |_=>.bad
 |_=>.bad
theorem EE{a:Expr}{fa:MA}{tpos:Ľ}(hK:X.K=p.K)(N:Gl X "enumerate")(M:X.mg "enumerate" = Ă)(A:PA X [a] (wX p fa))(hs:(ĉ [a] 1e4=[(ć,eval a 1e4)])):
  PI X (.Tuple elts k1 tpos) (.Call (.Name "enumerate" px) [a] [] pos) (yH p (cA mn fa)):=
 (Fi N M A hs).weak λF H R => aR λz I C S Rr P => ⟨z, I, C, S, Rr, (aD.bind P).imp λD G μ B L i h Z V => by
  rw[hK];unfold mn at h;split at h
  ·rename_i y;obtain⟨v,rfl,r⟩:=V.one;refine aU (aH.mp r) λa U w q t=>?_;subst w;exact⟨a,ć,rfl,⟨U,q⟩,h.now i _ trivial (qA rfl λs k l d m _=>⟨U,d.tup a U q,t.mono d⟩)⟩
  ·rename_i n;split at h
   ·rename_i y x;obtain⟨v,rfl,r⟩:=V.one;obtain⟨a,rfl,A⟩:=aI.mp r;refine jE (i.at x) λQ o U hH α=>?_;rw[A]at o;cases o;refine⟨a,ą,rfl,⟨U,dZ.of hH⟩,h.now i _ x (qA rfl λs k l d m O=>?_)⟩;refine jE (m.at O) λT E us2 hH2 j=>?_;rw[d.pre n a A]at E;cases E;exact⟨us2,dZ.of hH2,j⟩
   ·exact h.elim
  ·exact h.elim⟩
end
noncomputable def aj.nox(o:aj β):aj β:=match o with
 |.exc _ _=>.bad
 |o=>o
@[simp] theorem af{a:β}{J:az}:(aj.ok a J).nox=.ok a J:=VW (VX _)
noncomputable abbrev Pa.nx(p:Pa):Pa:=⟨p.K,p.w,λ_ _ _ _=>ł⟩
theorem c0{p:Pa}{o:aj β}{k:β->az->aj γ}{R:γ->az->Hp->List Ĉ->Prop}(h:aD p H Y (o.nox.bind k) R):aD p.nx H Y o (λa J1 H1 Y1=>aD p H1 Y1 (k a J1) R):=by
 cases o with
 |ok a b=>exact λc Y' e s=>aD.from e h
 |exc x b=>exact ę h
 |bad=>exact h
def cT(cap:2e9)(ρ:Ro):Ro:=cap.map λo=>o.bind λj=>(ρ[j]?).join
theorem cu.cap{ρ:Ro}(R:cu K H Y ρ σ)(cap:2e9):cu K H Y (cT cap ρ) (nG cap σ):=by
 refine⟨by simp[cT,nG],λi d h=>?_⟩;unfold cT at h;unfold nG;rw[SS]at h⊢;cases e:cap[i]? with
 |none=>rw[e]at h;cases h
 |some o=>
  rw[e]at h;cases o with
  |none=>simp at h
  |some j=>
   simp at h⊢
   obtain⟨v,b,c⟩:=R.at' j d (by
    cases m:ρ[j]? with
    |none=>rw[m]at h;simp at h
    |some x=>rw[m]at h;simp at h;rw[h])
   exact⟨v,by rw[b];rfl,c⟩
noncomputable def qa(n:ă)(y:D)(J:az):aj ŏ:=match J[n]? with
 |some (.lst α)=>if α.length<sizeLine then .ok () (J.set n (.lst (α++[y]))) else .bad
 |_=>.bad
open Classical in
def compLoop(src:kb)(n:ă)(g:MG)(t:MT)(e:ME):List D->Ro->az->aj D
 |[],_,f=>if bf src f then .ok (.obj n) f else .bad
 |d::r,j,f=>if bf src f then (g d j f).nox.bind λc i=>(t c i).nox.bind λb h=>if b=ą then (e c h).nox.bind λy w=>(qa n y w).bind λ_ L=>compLoop src n g t e r c L else compLoop src n g t e r c h else .bad
def bq(fi:MI)(cap:2e9)(g:MG)(t:MT)(e:ME):ME:=λc f=>(fi c f).bind λs b=>compLoop s b.length g t e s.items (cT cap c) (b++[.lst []])
noncomputable def a9:MT:=λ_ b=>.ok ą b
theorem uc{p:Pa}{y:D}{J:az}{R:ŏ->az->Hp->List Ĉ->Prop}(S:(p.S H Y J))(h:Y[n]?=Ā acc)(c:p.R H Y y v)(P:aD p H Y (qa n y J) R):
  ∃ys,H acc=Ā (.lst ys)/\ys.length<sizeLine/\∃J',p.X H (bz H acc (.lst (ys++[v]))) Y Y/\p.S (bz H acc (.lst (ys++[v]))) Y J'/\R () J' (bz H acc (.lst (ys++[v]))) Y:=by
 unfold qa at P;split at P
 ·rename_i s b;refine jE (S.at b) λa E U hH r=>?_;rw[h]at E;cases E;split at P
  ·rename_i L;have q:=r.snoc c;exact⟨U,hH,by rw[r.length];exact L,_,fN hH,S.put b h hH q,P _ _ (fN hH) (S.put b h hH q)⟩
  ·exact P.elim
 ·exact P.elim
section
variable{p:Pa}{X:Cx}{ifs:4e1}{cap:2e9}{fi:MI}{g:MG}{t:MT}{e:ME}
theorem qK{Q:VK}(h:tD p (bq fi cap g t e) σ H Q):AE (yH p fi) cap (sU p.nx g) (ma p.nx t) (tD p.nx e) σ H Q:=by
 refine cv h λY ρ J S R P=>?_;refine⟨Y,ρ,J,S,R,(aD.bind P).imp λs o H1 r X1 S1 P1 μ hok hJ acc C=>?_⟩;refine gF (cZ S1 C Reps.nil) λD s1 _=>?_
 refine⟨λi m A q=>m=s.items.length-i/\i<=s.items.length/\∃c j f,p.X H1 q r c/\p.S q c f/\cu p.K q c j A/\c[o.length]?=Ā acc/\aD p q c (compLoop s o.length g t e (s.items.drop i) j f) (RV p Q),
  ⟨_,rfl,RT _,r++[acc],cT cap ρ,o++[.lst []],D,s1,((R.mono X1).cap cap).mono D,(by rw[<- S1.len];simp),by simpa using aD.from D P1⟩,?_⟩
 rintro i m A q ⟨rfl,hi,c,j,f,U,L,R2,a2,l⟩
 by_cases T:i<s.items.length
 ·rw [VY T] at l;unfold compLoop at l;by_cases O:bf s f
  ·rw [RC O] at l;obtain⟨Z,hy⟩:=(hJ q c f U L O).1 i _ (Vw T)
   refine .inr ⟨Z,λz u=>i+1<=s.items.length/\∃c j f,p.X H1 u r c/\p.S u c f/\cu p.K u c j z/\c[o.length]?=Ā acc/\aD p u c (compLoop s o.length g t e (s.items.drop (i+1)) j f) (RV p Q),
    λz u=>zA λh1 h2=>⟨_,by omega,rfl,h1,h2⟩,λx H3 yx=>?_⟩
   refine gF (hy x H3 yx) λI S3 R3=>?_;refine⟨c,j,f,_,S3,R2.mono I,R3,(aD.from (p:=p.nx) I (c0 l)).imp λN J4 H4 V X4 S4 P4 σ4 B=>?_⟩;refine⟨V,N,J4,S4,B,(c0 P4).imp λb M H5 E w S5 P5=>?_⟩;have xx:=((U.trans I).trans X4).trans w;have α:=w.pre _ _ (X4.pre _ _ (I.pre _ _ a2));cases b with
   |false=>
    exact⟨T,E,N,M,xx,S5,B.mono w,α,P5⟩
   |true=>
    refine⟨E,N,M,S5,B.mono w,(c0 P5).imp λy J6 H6 W G S6 P6 v rv=>?_⟩;obtain⟨ys,e1,e2,J7,x7,s7,q7⟩:=uc (p:=p) S6 (G.pre _ _ α) rv (aD.bind P6);exact⟨ys,e1,e2,T,W,N,J7,(xx.trans G).trans x7,s7,((B.mono w).mono G).mono x7,G.pre _ _ α,q7⟩
  ·rw[RE O]at l;exact l.elim
 ·have e : i = s.items.length := RZ hi (R0 T);subst e;rw[VZ]at l;unfold compLoop at l;by_cases O:bf s f
  ·rw[RC O]at l;exact .inl ⟨(hJ q c f U L O).2,l q c iK.refl L _ (aI.mpr ⟨acc,rfl,a2⟩)⟩
  ·rw[RE O]at l;exact l.elim
theorem En{X:Cx}:vh X [] (ma p a9):=λb s c H Q I h=>by
 refine cv h λY i f S R P=>?_;exact E5 b s c H Q I (P.now S)
theorem Em{X:Cx}{c:Expr}{t:MT}(h:PT X c (ma p t)):vh X [c] (ma p t):=E4 h
theorem EL(c:X.calm=ą)(S:(bQ X.N 1e4 scope Nc cap))(I:PI X tg iter (yH p fi))
  (G:∀cl C s H fp,PG 0e8 tg (sU p.nx g)) (T:∀cl C s H fp,vh 0e8 ifs (ma p.nx t)) (E:∀cl C s H fp,PE 0e8 elt (tD p.nx e))
  (hs:∀x,Ė iter 1e4 x=pure x):PE X 1e7 (tD p (bq fi cap g t e)):=
 (Fp c S I G T E hs).weak λb H Q h=>qK h
theorem Er(o:X.calm=ą)(hN:(X.N.Nodup))(j:(X.N[i]?=Ā x))(q:(X.env.scope.names.lookup x=Ā .local))(S:(bQ X.N 1e4 scope Nc cap))(I:PI X tg iter (yH p fi))(G:∀cl C s H fp,PG 0e8 tg (sU p.nx g))(T:∀cl C s H fp,vh 0e8 ifs (ma p.nx t))(E:∀cl C s H fp,PE 0e8 elt (tD p.nx e))(W:(ī 1e7 (Ā (.Name x pos1)) pos2.line 1e4=pure ą))(hs:∀x,Ė iter 1e4 x=pure x):
  PS X (.Assign [.Name x pos1] 1e7 pos2) (me p (aZ (bq fi cap g t e) (ah i))):=
 (E8 o hN j q S I G T E W hs).weak λD z H h => by
  refine cv h λY y u S R P=>?_;exact qK ⟨Y,y,u,S,R,(aD.bindS P).imp λd w c b m l f v r=>(f c b _ iK.refl l ((R.mono m).set i r))⟩
end
noncomputable abbrev MB:=ă->Ro->az->aj Ro
def nE(e:ME):MB:=λn f h=>(e f h).nox.bind λy b=>(qa n y b).bind λ_ c=>.ok f c
open Classical in
def iA(src:kb)(n:ă)(g:MG)(t:MT)(fb:MB):List D->Ro->az->aj Ro
 |[],j,f=>if bf src f then .ok j f else .bad
 |d::r,j,f=>if bf src f then (g d j f).nox.bind λc i=>(t c i).nox.bind λb h=>if b=ą then (fb n c h).nox.bind λl w=>iA src n g t fb r l w else iA src n g t fb r c h else .bad
def nN(fi:MI)(g:MG)(t:MT)(fb:MB):MB:=λn c f=>(fi c f).nox.bind λs b=>iA s n g t fb s.items c b
def iU(fi:MI)(cap:2e9)(g:MG)(t:MT)(fb:MB):ME:=λf h=>(fi f h).bind λs b=>(iA s b.length g t fb s.items (cT cap f) (b++[.lst []])).bind λ_ c=>.ok (.obj b.length) c
section
variable{p:Pa}
def Dp(p:Pa)(fb:MB)(acc:Ĉ):Dv:=λj H N=>∃Y h f n,p.S H Y f/\cu p.K H Y h j/\Y[n]?=Ā acc/\aD p H Y (fb n h f) (λi _ c Y'=>∀b,cu p.K c Y' i b->N b c)
theorem zJ{e:ME}{N:St->Hp->Prop}(h:Dp p (nE e) acc σ H N):AD (tD p.nx e) acc σ H N:=by
 refine cx h λY o i n S R a P=>?_;refine⟨Y,o,i,S,R,(c0 P).imp λy j q W G c b v r=>?_⟩;obtain⟨α,E,m,l,f,O,L⟩:=uc (p:=p) c (G.pre _ _ a) r (aD.bind b);exact⟨α,E,m,L.now O σ ((R.mono G).mono f)⟩
theorem oz{src:kb}{g:MG}{t:MT}{fb:MB}{μ:It}{H1:Hp}{Y1 Y0:List Ĉ}{ρ:Ro}{J1:az}{N:St->Hp->Prop}(X0:p.X H0 H1 Y0 Y1)(S1:p.S H1 Y1 J1)(R:cu p.K H1 Y1 ρ σ)(hn:Y1[n]?=Ā acc)(hJ:tw p μ src H0 Y0)(U:aD p H1 Y1 (iA src n g t fb src.items ρ J1) (λρ' _ H' Y'=>∀σ',cu p.K H' Y' ρ' σ'->N σ' H')):Ol μ (sU p.nx g) (ma p.nx t) (Dp p.nx fb acc) N σ H1:=by
 refine⟨λi m q l=>m=src.items.length-i/\i<=src.items.length/\∃c j f,p.X H0 l Y0 c/\p.S l c f/\cu p.K l c j q/\c[n]?=Ā acc/\aD p l c (iA src n g t fb (src.items.drop i) j f) (λρ' _ H' Y'=>∀σ',cu p.K H' Y' ρ' σ'->N σ' H'),
  ⟨_,rfl,RT _,Y1,ρ,J1,X0,S1,R,hn,by simpa using U⟩,?_⟩
 rintro i m q l ⟨rfl,hi,c,j,f,s,r,R2,a2,P⟩
 by_cases h:i<src.items.length
 ·rw [VY h] at P;unfold iA at P;by_cases O:bf src f
  ·rw [RC O] at P;obtain⟨z,hy⟩:=(hJ l c f s r O).1 i _ (Vw h)
   refine .inr ⟨z,λσ' H'=>i+1<=src.items.length/\∃c j f,p.X H0 H' Y0 c/\p.S H' c f/\cu p.K H' c j σ'/\c[n]?=Ā acc/\aD p H' c (iA src n g t fb (src.items.drop (i+1)) j f) (λρ' _ H' Y'=>∀σ',cu p.K H' Y' ρ' σ'->N σ' H'),
    λσ' H'=>zA λh1 h2=>⟨_,by omega,rfl,h1,h2⟩,λx T yx=>?_⟩
   refine gF (hy x T yx) λI S3 D=>?_;refine⟨c,j,f,_,S3,R2.mono I,D,(aD.from (p:=p.nx) I (c0 P)).imp λo L H4 C G S4 V σ4 B=>?_⟩;refine⟨C,o,L,S4,B,(c0 V).imp λb M H5 E w A y=>?_⟩;have xx:=((s.trans I).trans G).trans w;have α:=w.pre _ _ (G.pre _ _ (I.pre _ _ a2));cases b with
   |false=>
    exact⟨h,E,o,M,xx,A,B.mono w,α,y⟩
   |true=>
    exact⟨E,o,M,n,A,B.mono w,α,(c0 y).imp λv u H6 W Q S6 Z σ' r'=>⟨h,W,v,u,xx.trans Q,S6,r',Q.pre _ _ α,Z⟩⟩
  ·rw[RE O]at P;exact P.elim
 ·have e : i = src.items.length := by lia
  subst e;rw[VZ]at P;unfold iA at P;by_cases O:bf src f
  ·rw[RC O]at P;exact .inl ⟨(hJ l c f s r O).2,P.now r _ R2⟩
  ·rw[RE O]at P;exact P.elim
theorem wF{fi:MI}{g:MG}{t:MT}{fb:MB}{N:St->Hp->Prop}(h:Dp p.nx (nN fi g t fb) acc σ H N):A5 (yH p.nx fi) (sU p.nx g) (ma p.nx t) (Dp p.nx fb acc) σ H N:=by
 refine cx h λY l f n S R a P=>?_;exact⟨Y,l,f,S,R,(c0 P).imp λs j o i m c b μ L hJ=>(oz (p:=p.nx) iK.refl c (R.mono m) (m.pre _ _ a) hJ b)⟩
theorem wI{fi:MI}{cap:2e9}{g:MG}{t:MT}{fb:MB}{Q:VK}(h:tD p (iU fi cap g t fb) σ H Q):nH (λ_=>.lst []) (yH p fi) cap (sU p.nx g) (ma p.nx t) (λacc=>Dp p.nx fb acc) σ H Q:=by
 refine cv h λY v r S R P=>?_;refine⟨Y,v,r,S,R,(aD.bind P).imp λq b A i o c f μ L hJ acc C=>?_⟩;refine gF (cZ c C Reps.nil) λB s _=>?_;have N:(i++[acc])[b.length]?=Ā acc:=by rw[<- c.len];simp
 exact oz B s (((R.mono o).cap cap).mono B) N hJ ((aD.from B (aD.bind f)).imp λw u z Y' m l j y E=>(j.now l _ (aI.mpr ⟨acc,rfl,m.pre _ _ N⟩)))
variable{X:Cx}{cl0 cl:Ě}{rest:List Ě}{cap:2e9}{fi:MI}{g:MG}{t:MT}{fb:MB}{d:ă}
theorem EO{f:ME}(G:gens[d]?=Ă)(E:X.xe=sW)(l:PE X elt (tD p.nx f)):Ac X (.ListComp elt gens scope pos) d acc (Dp p.nx (nE f) acc):=λP s b H N I h=>nX G E l P s b H N I (zJ (p:=p.nx) h)
theorem Cs(f:jW e=ą)(hz:(∀g∈ļ e,g.is_async=0))(G:(ļ e)[d]?=Ā cl)(E:X.xe=sW)(b:X.calm=ą)(i:PI X cl.target cl.iter (yH p.nx fi))(C:PG X cl.target (sU p.nx g))(c:vh X cl.ifs (ma p.nx t))(B:Ac X e (d+1) acc (Dp p.nx fb acc))
  (hs:∀x,Ė cl.iter 1e4 x=pure x):Ac X e d acc (Dp p.nx (nN fi g t fb) acc):=λP s j H N I h=>zj f hz G E b i C c B hs P s j H N I (wF h)
theorem B5(o:X.calm=ą)(hz:∀g∈cl0::rest,g.is_async=0)(hN:(X.N.Nodup))(j:(X.N[i]?=Ā x))(q:(X.env.scope.names.lookup x=Ā .local))(S:(bQ X.N 1e4 scope Nc cap))(I:PI X cl0.target cl0.iter (yH p fi))(G:∀cl C s H fp,PG 0e8 cl0.target (sU p.nx g))(T:∀cl C s H fp,vh 0e8 cl0.ifs (ma p.nx t))(B:∀cl C s H fp acc,Ac 0e8 (.ListComp elt (cl0::rest) scope pos) 1 acc (Dp p.nx fb acc))(W:(ī (.ListComp elt (cl0::rest) scope pos) (Ā (.Name x pos1)) pos2.line 1e4=pure ą))(hs:(∀x,Ė cl0.iter 1e4 x=pure x)):
  PS X (.Assign [.Name x pos1] (.ListComp elt (cl0::rest) scope pos) pos2) (me p (aZ (iU fi cap g t fb) (ah i))):=
 (ue o hz hN j q S I G T B W hs).weak λD z H h => by
  refine cv h λY y u S R P=>?_;exact wI ⟨Y,y,u,S,R,(aD.bindS P).imp λd w c b m l f v r=>(f c b _ iK.refl l ((R.mono m).set i r))⟩
end
mutual
def D.low(n:ă):D->Prop
 |.tup xs=>D.lows n xs
 |.frz xs=>D.lows n xs
 |.obj m=>m<n
 |_=>Ÿ
def D.lows(n:ă):List D->Prop
 |[]=>Ÿ
 |x::xs=>x.low n/\D.lows n xs
end
def O.low(n:ă):O->Prop
 |.lst S=>D.lows n S
 |.dct s _=>∀p∈s,p.2<n
 |_=>Ÿ
section
variable{Y':List Ĉ}
mutual
theorem aM.low:∀{d:D}{v:V},aM K H Y d v->d.low Y.length
 |.non,_,_=>trivial
 |.bl _,_,_=>trivial
 |.int _,_,_=>trivial
 |.str _,_,_=>trivial
 |.tup xs,_,h=>by
  refine aU (aH.mp h) λa vs v1 h1 h2=>?_;subst v1;simp only[D.low];exact Reps.low h2
 |.frz xs,_,h=>by
  refine aU (bh.mp h) λa vs v2 h1 h2=>?_;subst v2;simp only[D.low];exact Reps.low h2
 |.obj n,_,h=>by
  obtain⟨a,rfl,h1⟩:=aI.mp h;simp only[D.low];exact(Se.mp h1).1
theorem Reps.low:∀{ds:List D}{vs:List V},Reps K H Y ds vs->D.lows Y.length ds
 |[],_,_=>trivial
 |d::ds,_,h=>by
  simp only[Reps]at h;refine aU h λv r v4 h1 h2=>?_;subst v4;simp only[D.lows];exact⟨aM.low h1,Reps.low h2⟩
end
mutual
theorem aM.cut{n:ă}(e:∀m,m<n->Y'[m]?=Y[m]?):∀{d:D}{v:V},aM K H Y' d v->d.low n->aM K H Y d v
 |.non,_,h,_=>by simp[aM]at h⊢;exact h
 |.bl _,_,h,_=>by simp[aM]at h⊢;exact h
 |.int _,_,h,_=>by simp[aM]at h⊢;exact h
 |.str _,_,h,_=>by simp[aM]at h⊢;exact h
 |.tup xs,_,h,b=>by
  refine aU (aH.mp h) λa vs v1 h1 h2=>?_;subst v1;exact aH.mpr ⟨a,vs,rfl,h1,Reps.cut e h2 b⟩
 |.frz xs,_,h,b=>by
  refine aU (bh.mp h) λa vs v2 h1 h2=>?_;subst v2;exact bh.mpr ⟨a,vs,rfl,h1,Reps.cut e h2 b⟩
 |.obj m,_,h,b=>by
  obtain⟨a,rfl,h1⟩:=aI.mp h;exact aI.mpr ⟨a,rfl,by rw[<- e m b];exact h1⟩
theorem Reps.cut{n:ă}(e:∀m,m<n->Y'[m]?=Y[m]?):∀{ds:List D}{vs:List V},Reps K H Y' ds vs->D.lows n ds->Reps K H Y ds vs
 |[],_,h,_=>by simp[Reps]at h⊢;exact h
 |d::ds,_,h,b=>by
  refine aU h λv r v4 h1 h2=>?_;subst v4;exact⟨v,r,rfl,aM.cut e h1 b.1,Reps.cut e h2 b.2⟩
end
end
def LQ(J b:az)(d:D):Prop:=d.low 3e9/\J.length<=b.length/\∀(i:ă) o,i<J.length->b[i]?=Ā o->J[i]?=Ā o\/o.low 3e9
open Classical in
noncomputable def pV(J:az)(o:aj D):aj D:=match o with
 |.ok d b=>if LQ J b d then .ok d (b.take 3e9) else .ok d b
 |o=>o
theorem mX{p:Pa}{J:az}{o:aj D}{Q:VK}(S:(p.S H Y J))(P:aD p H Y (pV J o) (RV p Q)):aD p H Y o (RV p Q):=by
 cases o with
 |exc x b=>exact P
 |bad=>exact P
 |ok d b=>
  unfold pV at P;dsimp only at P;by_cases N:LQ J b d
  ·rw [RC N] at P;refine gF N λG C I=>?_;intro B Y' e s v R
   have l:∀m,m<J.length->Y'[m]?=Y[m]?:=λm M=>by
    have h:m<Y.length:=by rw[S.len];exact M
    rw[Vw h];exact e.pre m _ (Vw h)
   refine P B Y ⟨e.tup,e.frz,λ_ _ z=>z,e.xds⟩ ⟨by rw[TQ,S.len];exact R9 (Si C),S.nd,λn o a i j=>?_⟩ v (aM.cut l R G);have y:n<J.length:=by rw[<- S.len];exact(Se.mp j).1
   rw[TY y]at i;have q:=s.ob n o a i (e.pre n a j)
   have O:o.low 3e9:=by
    rcases I n o y i with z|z
    ·have A := S.ob n o a z j;cases o with
     |lst f=>refine bb A λV _ r=>?_;have:=r.low;rw[S.len]at this;exact this
     |set L=>trivial
     |dic=>trivial
     |exc c=>trivial
     |exn c fs=>trivial
     |dct w E=>obtain⟨_,f,_,r,_⟩:=A;rw[<- S.len];exact sX.low r
    ·exact z
   cases o with
   |lst f=>refine bb q λV u r=>?_;exact⟨V,u,Reps.cut l r O⟩
   |set L=>exact q
   |dic=>exact q
   |exc c=>exact q
   |exn c fs=>exact q
   |dct w E=>obtain⟨μ,f,u,r,t⟩:=q;exact⟨μ,f,u,sX.cut l r O,t⟩
  lia
noncomputable def SO.out(o:SO):aj D:=match o with
 |.ret d b=>.ok d b
 |.next _ b=>.ok .non b
 |.exc x b=>.exc x b
 |_=>.bad
def fF(n N:ă)(fb:MS):List D->az->aj D:=λs b=>if s.length=n then pV b (fb (s.map Ā++List.replicate (N-n) Ă) b).out else .bad
def Dr(p:Pa)(n:ă)(F:2e5):Sp:=λy H Q _=>y.length=n/\∃Y s b,p.S H Y b/\p.Rs H Y s y/\aD p H Y (F s b) (RV p Q)
structure kf(P:č)(w:ē)(K:W.Frag)(mg:3e6)(base:Ĕ)(p:Pa)(k:ă)(x:ď)(n:ă)(F:2e5):Prop where
 len:∀ds J,ds.length≠n->F ds J=.bad
 fn:∃f fd ps,mg x=Ā (.ref f)/\W.keepIn K (.ref f)=ą/\cW K fd ps []/\ko P w K mg base sY k f fd ps (Dr p n F)
section
variable{p:Pa}{X:Cx}{k:ă}{F:2e5}{a:Expr}{es:4e1}{fr:MA}
theorem EM (h:kf X.prog X.w X.K X.mg X.base p k x n F) (z:cU k X.A) (N:Gl X x) (y:PA X (a::es) (wX p fr)) (B:(x == ("__debug__" : ď))=ć) (E:(ĉ (a::es) 1e4=(ć,eval a 1e4)::ĉ es 1e4)) (L:(Ħ pos (ĉ es 1e4)).any 4e2=ć) :
  PE X (.Call (.Name x px) (a::es) [] pos) (tD p (aA F fr)):=by
 refine cF h.fn λf D ps o q u v=>?_;refine(rL v z N o q u .nil AM y B E L).weak λμ H Q=>aR λY G C S R P=>⟨Y,G,C,S,R,(aD.bind P).imp λs b j i I m c V r=>?_⟩;show Dr p n F (V++[]) j Q E0;rw[TC];refine⟨?_,i,s,b,m,r,c⟩;by_cases l:s.length=n
 ·rw[r.length];exact l
 ·rw[h.len s b l]at c;exact c.elim
end
theorem hZ{ds:List D}(r:Reps K H Y ds vs)(m:ă):cu K H Y (ds.map Ā++List.replicate m Ă) (vs.map Ā++List.replicate m Ă):=by
 refine⟨by simp[r.length],λi d h=>?_⟩;by_cases I:i<ds.length
 ·rw [TX (by simpa using I), SS] at h;cases e:ds[i]? with
  |none=>rw[e]at h;cases h
  |some x=>
   rw[e]at h;cases h;obtain⟨v,b,R⟩:=r.get e;refine⟨v,?_,R⟩;rw[TX (by simp[r.length,I]),SS,b];rfl
 ·rw[TU (by simpa using I),TV]at h;split at h <;> cases h
theorem KH{p:Pa}{k:ă}{f:Ĉ}{ps:List ď}{fb:MS}(F:(ke K x qual st f fd))(S:cH N ps (aF st))(q:ps.length=n)(M:mg x=Ā (.ref f))(B:cW K fd ps [])(body : ∀ (cdv : ā) (A : Đ) (outer : List Ŋ) (s : Ą) (H : Hp) (E : XK), cU k (A.deeper (Ŀ qual (aF st) 0e0 f cdv)) ->
   ly (mI sY P w K mg base N qual (aF st) f cdv A outer s H E).nox (bt st) (me p fb)):kf P w K mg base p (k+1) x n (fF n N.length fb):=by
 refine⟨λD l h=>by simp_all[fF],f,fd,ps,M,F.kp,B,?_⟩;refine F.ok S (λy H Q E h=>h.1.trans q.symm) λcdv A outer s H y Q E u h=>?_;refine⟨_,body cdv A outer s H E u,?_⟩;obtain⟨L,Y,D,l,m,R,j⟩:=h;unfold fF at j;rw[RC (by rw[<- R.length];exact L)]at j;have i:=mX m j;unfold start;rw[L];refine⟨Y,_,l,m,hZ R _,?_⟩;cases e:fb (D.map Ā++List.replicate (N.length-n) Ă) l with
 |ret d b=>rw[e]at i;exact λc Y' v x s r=>i c Y' x s v r
 |next o b=>rw[e]at i;exact λc Y' z x s r=>i c Y' x s .non (bp.mpr rfl)
 |exc x b=>rw[e]at i;exact i
 |brk o b=>rw[e]at i;exact i.elim
 |cnt o b=>rw[e]at i;exact i.elim
 |bad=>rw[e]at i;exact i.elim
end _l
variable{J:_l.az}{xs:List _l.D}{p:_l.Pa}{d:_l.D}{M:_l.az}{J0:_l.az}{fr:_l.MA}{o:_l.D->_l.D->_l.az->_l.aj _l.D}{fa:_l.ME}{fb:_l.MS}{ρ:_l.Ro}{o4:Option _l.D}{J1:_l.az}{ds:List _l.D}{g:_l.az}{fi:_l.MI}{ys:List _l.D}{o3:Option _l.D}{src:_l.kb}
namespace _l
open PySem PySem.Spec PyProof.Rows _r
section
variable(K:W.Frag)(H:Hp)
mutual
def nk:ė->V->Prop
 |.none,v=>v=.non
 |.bool b,v=>v=.bl b
 |.int i,v=>v=.int i
 |.str x,v=>v=.str x
 |.tuple xs,v=>∃a vs,v=.ref a/\eQ K H a vs/\RdPs xs vs
 |.list xs,v=>∃a vs,v=.ref a/\dZ K H a vs/\RdPs xs vs
 |.dict _,_=>ł
def RdPs:List ė->List V->Prop
 |[],vs=>vs=[]
 |x::xs,vs=>∃v r,vs=v::r/\nk x v/\RdPs xs r
end
end
section
variable{X:Cx}
mutual
theorem bX(I:0e4):∀(d:ė)(x:V)(v:ā),nk X.K H d x->bA x v->∃as,Ev 1e9 v d as
 |.none,_,_,h,r=>by simp[nk]at h;subst h;cases r;exact⟨_,.none⟩
 |.bool b,_,_,h,r=>by simp[nk]at h;subst h;cases r;exact⟨_,.bool b⟩
 |.int b,_,_,h,r=>by simp[nk]at h;subst h;obtain⟨t,rfl⟩:=r;exact⟨_,.int b t⟩
 |.str b,_,_,h,r=>by simp[nk]at h;subst h;obtain⟨t,rfl⟩:=r;exact⟨_,.str b t⟩
 |.tuple xs,_,_,h,r=>by
  refine aU h λa vs v3 h1 h2=>?_;subst v3;cases r;refine bo (I.tuple h1) λits rv v4 _=>?_;obtain⟨o,e1,e2,n,e3⟩:=v4;obtain⟨as,q⟩:=readsAll_of I xs vs its h2 rv;exact⟨_,.tuple e1 e2 e3 (by simpa using q)⟩
 |.list xs,_,_,h,r=>by
  refine aU h λa vs v5 h1 h2=>?_;subst v5;cases r;refine bo (I.list h1) λits rv v6 _=>?_;refine aJ v6 λo n e1 e2 _ e3=>?_;obtain⟨as,q⟩:=readsAll_of I xs vs its h2 rv;exact⟨_,.list e1 e2 e3 (by simpa using q)⟩
 |.dict _,_,_,h,_=>by simp[nk]at h
theorem readsAll_of(I:0e4):∀(ds:List ė)(xs:List V)(vs:List ā),RdPs X.K H ds xs->aX xs vs->∃as,ŝ 1e9 vs ds as
 |[],_,_,h,r=>by simp[RdPs]at h;subst h;cases r;exact⟨_,.nil⟩
 |d::ds,_,_,h,r=>by
  refine aU h λv q v7 h1 h2=>?_;subst v7;cases r with
  |cons r rr=>
   obtain⟨as,g1⟩:=bX I d _ _ h1 r;obtain⟨bs,g2⟩:=readsAll_of I ds _ _ h2 rr;exact⟨_,.cons g1 g2⟩
end
noncomputable def fitP(d:ė):ċ:=d.canLay0&&decide (d.depth<=60)
def Au(K:W.Frag)(neg:ċ):R2:=λx y H Q=>∃a b,nk K H a x/\nk K H b y/\fitP a=ą/\fitP b=ą/\Q (.bl (if neg then !ġ a b else ġ a b)) H
theorem lW{a b:ė}(h:fitP a=ą)(U:A.units+64<į):A.units+min a.depth b.depth<į:=by
 unfold fitP at h;have:=Xf a.depth b.depth
 lia
theorem fitP_lay{a:ė}(h:fitP a=ą):a.canLay0=ą:=by
 simp_all[fitP]
theorem fitP_depth{a:ė}(h:fitP a=ą):a.depth<=60:=by
 simp_all[fitP]
theorem JD(U:3e8):iw X (Ĭ .Eq) (Au X.K ć):=by
 intro pins s σ H x y v u Q I r α h;refine fe h λa b c e d f q=>?_;obtain⟨W,R⟩:=bX I a x v c r;obtain⟨bs,L⟩:=bX I b y u e α;exact SeqAt.compareEq_reads R L (fitP_lay d) (fitP_lay f) (lW d U) ⟨.bl _,H,I,rfl,q⟩
theorem Jy(U:3e8):iw X (Ĭ .NotEq) (Au X.K ą):=by
 intro pins s σ H x y v u Q I r α h;refine fe h λa b c e d f q=>?_;obtain⟨W,R⟩:=bX I a x v c r;obtain⟨bs,L⟩:=bX I b y u e α;exact SeqAt.compareNe_reads R L (fitP_lay d) (fitP_lay f) (lW d U) ⟨.bl _,H,I,rfl,q⟩
def As(K:W.Frag)(neg:ċ):R2:=λx y H Q=>∃a b S,nk K H a x/\nk K H b y/\(b=.list S\/b=.tuple S)/\fitP a=ą/\fitP b=ą/\Q (.bl (if neg then !(S.any λy=>ġ y a) else S.any λy=>ġ y a)) H
theorem JC(U:3e8):iw X (Ĭ .In) (As X.K ć):=by
 intro pins s σ H x y v u Q I r α h;obtain⟨a,b,S,e,f,B,d,c,q⟩:=h;obtain⟨W,R⟩:=bX I a x v e r;obtain⟨bs,L⟩:=bX I b y u f α;have D:=fitP_depth d;rcases B with rfl|rfl
 ·refine SeqAt.in_list_reads L R (by simpa [ě] using fitP_lay c) (fitP_lay d) ?_ ⟨.bl _, H, I, rfl, q⟩;have:=T6 (Ē S) a.depth
  lia
 ·refine SeqAt.in_tuple_reads L R (by simpa [ě] using fitP_lay c) (fitP_lay d) ?_ ⟨.bl _, H, I, rfl, q⟩;have:=T6 (Ē S) a.depth
  lia
theorem zl(U:3e8):iw X (Ĭ .NotIn) (As X.K ą):=by
 intro pins s σ H x y v u Q I r α h;obtain⟨a,b,S,e,f,B,d,c,q⟩:=h;obtain⟨W,R⟩:=bX I a x v e r;obtain⟨bs,L⟩:=bX I b y u f α;have D:=fitP_depth d;rcases B with rfl|rfl
 ·refine SeqAt.notIn_list_reads L R (by simpa [ě] using fitP_lay c) (fitP_lay d) ?_ ⟨.bl _, H, I, rfl, q⟩;have:=T6 (Ē S) a.depth
  lia
 ·refine SeqAt.notIn_tuple_reads L R (by simpa [ě] using fitP_lay c) (fitP_lay d) ?_ ⟨.bl _, H, I, rfl, q⟩;have:=T6 (Ē S) a.depth
  lia
end
mutual
def pS(J:az):D->Option ė
 |.non=>Ā .none
 |.bl b=>Ā (.bool b)
 |.int i=>Ā (.int i)
 |.str x=>Ā (.str x)
 |.tup xs=>(toPs J xs).map .tuple
 |.frz xs=>(toPs J xs).map .list
 |.obj _=>Ă
def toPs(J:az):List D->Option (List ė)
 |[]=>Ā []
 |x::xs=>(pS J x).bind λa=>(toPs J xs).map λr=>a::r
end
def Am(J:az)(d:D):Option ė:=match d with
 |.obj n=>match J[n]? with
  |some (.lst S)=>(toPs J S).map .list
  |_=>Ă
 |d=>pS J d
def gr(J:az):List D->Option (List ė)
 |[]=>Ā []
 |x::S=>(Am J x).bind λa=>(gr J S).map λr=>a::r
def mG(J:az)(d:D):Option ė:=match d with
 |.obj n=>match J[n]? with
  |some (.lst S)=>(gr J S).map .list
  |_=>Ă
 |.tup S=>(gr J S).map .tuple
 |d=>pS J d
section
mutual
theorem eV:∀{d:D}{q:ė}{v:V},pS J d=Ā q->aM K H Y d v->nk K H q v
 |.non,_,_,h,r=>by simp[pS]at h;cases h;simp[nk];exact bp.mp r
 |.bl b,_,_,h,r=>by simp[pS]at h;cases h;simp[nk];exact aP.mp r
 |.int b,_,_,h,r=>by simp[pS]at h;cases h;simp[nk];exact ao.mp r
 |.str b,_,_,h,r=>by simp[pS]at h;cases h;simp[nk];exact a7.mp r
 |.tup xs,_,_,h,r=>by
  simp only[pS]at h;cases e:toPs J xs with
  |none=>rw[e]at h;cases h
  |some ys=>
   rw[e]at h;cases h;refine aU (aH.mp r) λa vs v1 h1 h2=>?_;subst v1;exact⟨a,vs,rfl,h1,toPs_ok e h2⟩
 |.frz xs,_,_,h,r=>by
  simp only[pS]at h;cases e:toPs J xs with
  |none=>rw[e]at h;cases h
  |some ys=>
   rw[e]at h;cases h;refine aU (bh.mp r) λa vs v2 h1 h2=>?_;subst v2;exact⟨a,vs,rfl,h1.sq,toPs_ok e h2⟩
 |.obj n,_,_,h,r=>by grind [pS]
theorem toPs_ok:∀{ds:List D}{qs:List ė}{vs:List V},toPs J ds=Ā qs->Reps K H Y ds vs->RdPs K H qs vs
 |[],_,_,h,r=>by simp[toPs]at h;cases h;simp[RdPs];simp[Reps]at r;exact r
 |x::xs,_,_,h,r=>by
  simp[toPs]at h;cases e1:pS J x with
  |none=>rw[e1]at h;cases h
  |some a=>
   cases e2:toPs J xs with
   |none=>rw[e1,e2]at h;cases h
   |some ys=>
    rw[e1,e2]at h;cases h;refine aU r λv vr v3 r1 r2=>?_;subst v3;exact⟨v,vr,rfl,eV e1 r1,toPs_ok e2 r2⟩
end
theorem Eg{q:ė}(S:(dA K w H Y J))(h:Am J d=Ā q)(r:aM K H Y d v):nk K H q v:=by
 cases d with
 |obj n=>
  unfold Am at h;dsimp only at h;split at h
  ·rename_i c f;refine jE (S.at f) λa A U hH R=>?_;obtain⟨g,rfl,E⟩:=aI.mp r;rw[A]at E;cases E;cases e:toPs J c with
   |none=>rw[e]at h;cases h
   |some α=>
    rw[e]at h;cases h;exact⟨a,U,rfl,dZ.of hH,toPs_ok e R⟩
  ·cases h
 |non=>exact eV h r
 |bl b=>exact eV h r
 |int i=>exact eV h r
 |str x=>exact eV h r
 |tup c=>exact eV h r
 |frz c=>exact eV h r
theorem nQ(S:(dA K w H Y J)):∀{ds:List D}{qs:List ė}{vs:List V},gr J ds=Ā qs->Reps K H Y ds vs->RdPs K H qs vs
 |[],_,_,h,r=>by simp[gr]at h;cases h;simp[RdPs];simp[Reps]at r;exact r
 |x::d,_,_,h,r=>by
  simp[gr]at h;cases E:Am J x with
  |none=>rw[E]at h;cases h
  |some a=>
   cases m:gr J d with
   |none=>rw[E,m]at h;cases h
   |some α=>
    rw[E,m]at h;cases h;refine aU r λv c b R L=>?_;subst b;exact⟨v,c,rfl,Eg S E R,nQ S m L⟩
theorem iO{q:ė}(S:(dA K w H Y J))(h:mG J d=Ā q)(r:aM K H Y d v):nk K H q v:=by
 cases d with
 |obj n=>
  unfold mG at h;dsimp only at h;split at h
  ·rename_i c j;refine jE (S.at j) λa A U hH R=>?_;obtain⟨k,rfl,E⟩:=aI.mp r;rw[A]at E;cases E;cases e:gr J c with
   |none=>rw[e]at h;cases h
   |some α=>
    rw[e]at h;cases h;exact⟨a,U,rfl,dZ.of hH,nQ S e R⟩
  ·cases h
 |tup c=>
  unfold mG at h;dsimp only at h;cases e:gr J c with
  |none=>rw[e]at h;cases h
  |some α=>
   rw[e]at h;cases h;refine aU (aH.mp r) λa y v16 f g=>?_;subst v16;exact⟨a,y,rfl,f,nQ S e g⟩
 |non=>exact eV h r
 |bl b=>exact eV h r
 |int i=>exact eV h r
 |str x=>exact eV h r
 |frz c=>exact eV h r
end
def fW(neg:ċ)(a b:D)(J:az):aj D:=match mG J a,mG J b with
 |some p,Ā q=>if fitP p=ą/\fitP q=ą then .ok (.bl (if neg then !ġ p q else ġ p q)) J else .bad
 |_,_=>.bad
def vL:ė->Option (List ė)
 |.list S=>Ā S
 |.tuple S=>Ā S
 |_=>Ă
def w8(neg:ċ)(a b:D)(J:az):aj D:=match mG J a,mG J b with
 |some p,Ā q=>match vL q with
  |some S=>if fitP p=ą/\fitP q=ą then .ok (.bl (if neg then !(S.any λy=>ġ y p) else S.any λy=>ġ y p)) J else .bad
  |none=>.bad
 |_,_=>.bad
theorem G0:sO p (fW neg) (Au p.K neg):=by
 intro a b v y H Y J Q S r R P;unfold fW at P;split at P
 ·rename_i x z d Z;split at P
  ·rename_i F;exact⟨x,z,iO S d r,iO S Z R,F.1,F.2,P.now S _ (aP.mpr rfl)⟩
  ·exact P.elim
 ·exact P.elim
theorem GZ:sO p (w8 neg) (As p.K neg):=by
 intro a b v y H Y J Q S r R P;unfold w8 at P;split at P
 ·rename_i x z d Z;split at P
  ·rename_i c h;split at P
   ·rename_i F;refine⟨x,z,c,iO S d r,iO S Z R,?_,F.1,F.2,P.now S _ (aP.mpr rfl)⟩;cases z <;> first|(cases h;exact .inl rfl)|(cases h;exact .inr rfl)|(cases h)
   ·exact P.elim
  ·exact P.elim
 ·exact P.elim
noncomputable def D.isNon:D->ċ
 |.non=>ą
 |_=>ć
def vz(neg:ċ)(a b:D)(J:az):aj D:=match b with
 |.non=>.ok (.bl (if neg then !a.isNon else a.isNon)) J
 |_=>.bad
theorem yi{a:D}(r:aM K H Y a v):decide (v=.non)=a.isNon:=by
 cases a with
 |non=>rw[bp.mp r];rfl
 |bl b=>rw[aP.mp r];rfl
 |int b=>rw[ao.mp r];rfl
 |str b=>rw[a7.mp r];rfl
 |tup S=>obtain⟨a,y,rfl,_⟩:=aH.mp r;rfl
 |frz S=>obtain⟨a,y,rfl,_⟩:=bh.mp r;rfl
 |obj S=>obtain⟨a,rfl,_⟩:=aI.mp r;rfl
theorem JR:sO p (vz ć) (λx y H Q=>y=.non/\Q (.bl (decide (x=.non))) H):=by
 intro a b v y H Y J Q S r R P;cases b with
 |non=>exact⟨bp.mp R,P.now S _ (aP.mpr (by rw[yi r];rfl))⟩
 |bl b=>exact P.elim
 |int b=>exact P.elim
 |str b=>exact P.elim
 |tup c=>exact P.elim
 |frz c=>exact P.elim
 |obj c=>exact P.elim
theorem FK:sO p (vz ą) (λx y H Q=>y=.non/\Q (.bl (!decide (x=.non))) H):=by
 intro a b v y H Y J Q S r R P;cases b with
 |non=>exact⟨bp.mp R,P.now S _ (aP.mpr (by rw[yi r];cases a <;> rfl))⟩
 |bl b=>exact P.elim
 |int b=>exact P.elim
 |str b=>exact P.elim
 |tup c=>exact P.elim
 |frz c=>exact P.elim
 |obj c=>exact P.elim
end _l
namespace _l
open PySem PySem.Spec PyProof.Rows _r
open PySem.SeqAt
open PySem.AutoSeq1 (wpAny_loadPart')
open PySem.MeetsSeq PySem.MeetsSeq2 PySem.MeetsSeq3
def yV(O:Ő)(A:Đ)(s:Ą)(y x:ā)(k:ċ):Prop:=∀(prog:č)(w:ē)(E:(ā->Ą->Prop))(Q:(ā->Ą->Prop)),Q (.bool k) s->Ċ 0e7 A (XX O y x) Q E s
noncomputable def pd(t:ċ):List (ċ×ċ)->ċ
 |[]=>t
 |(e,k)::r=>if e=ą then pd t r else k
def mL(O:Ő)(A:Đ)(s:Ą):List ā->List ā->List (ċ×ċ)->Prop
 |[],_,[]=>Ÿ
 |_,[],[]=>Ÿ
 |y::α,x::S,(e,k)::r=>EqAt A s y x e/\(e=ć->yV O A s y x k)/\(e=ą->mL O A s α S r)
 |_,_,_=>ł
theorem so(l b:Ĉ)(items items2:ĕ ā)(n N:ă)(dd D:Option Ĉ)(q j:ĕ (Option ā))(eks:List (ċ×ċ)) :
  Meets (Builtin.«tuple.__lt__» ⟨[.ref l,.ref b],[]⟩)
   (λA R s => s.heap.get? l = Ā { cls := .type "tuple", dict := dd, data := .seq items n, slots := q } /\ s.heap.get? b = Ā { cls := .type "tuple", dict := D, data := .seq items2 N, slots := j } /\
    mL .Lt A.in1 s items.toList items2.toList eks/\R (.ok (.ret (.bool (pd (decide (items.size<items2.size)) eks)))) s):=
 .of_wp λprog w A R s h=>by
  obtain⟨p,g,d,t,S⟩:=s;obtain⟨L,B,C,h⟩:=h;have O:=AutoSeq1.sub_tuple_tuple
  wp_walk using ő L,ő B,Vk _ (λr b f=>b.1=Ă/\f=⟨p,g,d,t,S⟩/\∃(v W:List ā)(eks':List (ċ×ċ)),r=v.zip W /\
   mL .Lt A.in1 ⟨p,g,d,t,S⟩ v W eks'/\R (.ok (.ret (.bool (pd (decide (items.size<items2.size)) eks')))) ⟨p,g,d,t,S⟩) _
  case turn=>
   rintro⟨y,x⟩ r b f ⟨H,rfl,v,W,eks',Z,i,hR⟩
   cases v with
   |nil=>rw[List.zip_nil_left]at Z;cases Z
   |cons a v=>
    cases W with
    |nil=>rw[List.zip_nil_right]at Z;cases Z
    |cons c W=>
     rw[List.zip_cons_cons]at Z;injection Z with X hrest
     injection X with α o
     subst α o;cases eks' with
     |nil=>simp only[mL]at i
     |cons K eks'=>
      obtain⟨e,k⟩:=K;simp only[mL]at i;obtain⟨E,m,i⟩:=i;refine Tn (E prog w _ _ ?_);cases e with
      |true=>
       have hR':R (.ok (.ret (.bool (pd (decide (items.size<items2.size)) eks')))) ⟨p,g,d,t,S⟩:=hR
       wp_walk
       exact⟨rfl,rfl,_,_,_,hrest,i rfl,hR'⟩
      |false=>
       have hR':R (.ok (.ret (.bool k))) ⟨p,g,d,t,S⟩:=hR;have I:=m rfl prog w
       wp_walk using I
       exact⟨_,rfl,by simpa using hR'⟩
  case fin=>
   rintro⟨b1,b2⟩ f ⟨H,rfl,v,W,eks',Z,i,hR⟩
   simp only at H;subst H
   have V:eks'=[]:=by
    cases v with
    |nil=>cases eks' with
     |nil=>rfl
     |cons _ _=>simp only[mL]at i
    |cons a v=>cases W with
     |nil=>cases eks' with
      |nil=>rfl
      |cons _ _=>simp only[mL]at i
     |cons c W=>rw[List.zip_cons_cons]at Z;cases Z
   subst V;have hR':R (.ok (.ret (.bool (decide (items.size<items2.size))))) ⟨p,g,d,t,S⟩:=hR
   wp_walk
   exact⟨_,rfl,by simpa[Builtin.Tuple.tupleCompareSizes] using hR'⟩
  case h=>
   exact⟨rfl,rfl,items.toList,items2.toList,eks,rfl,C,h⟩
theorem μ0{l:Ĉ}{items items2:ĕ ā}{eks:List (ċ×ċ)}(L:Ó 1e9 l items)(B:Ó 1e9 b items2)(C:mL .Lt A.in1 s items.toList items2.toList eks)(U:A.units<į)(h:Q (.bool (pd (decide (items.size<items2.size)) eks)) s):Ċ 0e7 A (XX .Lt (.ref l) (.ref b)) Q E s:=by
 obtain⟨⟨cls,q,data,a⟩,o,O,n,H⟩:=id L;obtain⟨⟨cls2,D,data2,S⟩,d,i,N,j⟩:=id B;subst O H i j
 exact richCompare_meets_room ⟨_,o,rfl⟩ ⟨_,d,rfl⟩ PySem.F.slot_tuple_lt PySem.F.entry_tuple_lt (PySem.F.args_tuple_lt_2 _ _) (so l b items items2 n N q D a S eks)
  ⟨o,d,C,show Ŏ (pd (decide (items.size<items2.size)) eks)≠ā.notImplemented/\Q (.bool (pd (decide (items.size<items2.size)) eks)) s from⟨(λx=>nomatch x),h⟩⟩ U
end _l
namespace _l
open PySem PySem.Spec PyProof.Rows _r
noncomputable def cmpI:Ő->Ć->Ć->ċ
 |.Lt,i,j=>decide (i<j)
 |.LtE,i,j=>decide (i<=j)
 |.Gt,i,j=>decide (i>j)
 |.GtE,i,j=>decide (i ≥ j)
 |_,_,_=>ć
noncomputable def isLt:Ő->ċ
 |.Lt=>ą
 |_=>ć
mutual
def cmpP(op:Ő):ė->ė->Option ċ
 |.int i,.int j=>Ā (cmpI op i j)
 |.tuple xs,.tuple ys=>if isLt op=ą then cmpPs op xs ys else Ă
 |_,_=>Ă
def cmpPs(op:Ő):List ė->List ė->Option ċ
 |[],ys=>Ā (cmpI op 0 ys.length)
 |_::xs,[]=>Ā (cmpI op (xs.length+1) 0)
 |x::xs,y::ys=>if ġ x y=ą then cmpPs op xs ys else cmpP op x y
end
noncomputable def tG:Ő->ċ
 |.Lt | .LtE | .Gt | .GtE=>ą
 |_=>ć
theorem Nl:∀{op:Ő}(ho:tG op=ą){A:Đ}{s:Ą}(a:Ć)(t:α0)(c:Ć)(u:α0),yV op A s (.int a t) (.int c u) (cmpI op a c)
 |.Lt,_,A,s,a,t,c,u=>λprog w E Q h=>(ë h:Ċ 0e7 A (Ĭ .Lt (.int a t) (.int c u)) Q E s)
 |.LtE,_,A,s,a,t,c,u=>λprog w E Q h=>(PyProof.Rows.le_int h:Ċ 0e7 A (Ĭ .LtE (.int a t) (.int c u)) Q E s)
 |.Gt,_,A,s,a,t,c,u=>λprog w E Q h=>(ì h:Ċ 0e7 A (Ĭ .Gt (.int a t) (.int c u)) Q E s)
 |.GtE,_,A,s,a,t,c,u=>λprog w E Q h=>(PyProof.Rows.ge_int h:Ċ 0e7 A (Ĭ .GtE (.int a t) (.int c u)) Q E s)
theorem wJ(i j:ă):cmpI op ((i+1:ă):Ć) ((j+1:ă):Ć)=cmpI op (i:Ć) (j:Ć):=by
 cases op <;> first|rfl|(unfold cmpI;simp)
theorem Nk:∀{op:Ő}(ho:isLt op=ą){A:Đ}{s:Ą}{l b:Ĉ}{items items2:ĕ ā}{eks:List (ċ×ċ)}(hl:Ó 1e9 l items)(hb:Ó 1e9 b items2)(hc:mL op A.in1 s items.toList items2.toList eks)
  (hu:A.units<į),yV op A s (.ref l) (.ref b) (pd (cmpI op 4e0 items2.size) eks)
 |.Lt,_,A,s,l,b,items,items2,eks,hl,hb,hc,hu=>λprog w E Q h=>μ0 hl hb hc hu (by
   grind [cmpI])
mutual
theorem rc_reads{op:Ő}(ho:tG op=ą):∀(da db:ė)(A:Đ)(s:Ą)(a b:ā)(as bs:List Ĉ)(k:ċ),Ev 1e9 a da as->Ev 1e9 b db bs->da.canLay0=ą->db.canLay0=ą ->
  A.units+min da.depth db.depth<į->cmpP op da db=Ā k->yV op A s a b k
 |.int i,.int j,A,s,_,_,_,_,k,ra,rb,_,_,hu,hk=>by
  cases ra;cases rb;simp[cmpP]at hk;cases hk;exact Nl ho _ _ _ _
 |.tuple xs,.tuple ys,A,s,_,_,_,_,k,ra,rb,ha,hb,hu,hk=>by
  simp only[cmpP]at hk
  have hlt:isLt op=ą:=by
   cases z:isLt op with
   |true=>rfl
   |false=>rw[z,RE RF]at hk;cases hk
  rw[RC hlt]at hk;cases ra with
  | @tuple l o vs n _ as₁ h1 h2 h3 h4=>
   cases rb with
   | @tuple l' o' vs' n' _ bs₁ k1 k2 k3 k4=>
    have n1:vs.size=xs.length:=by simpa using V1 _ _ _ h4
    have n2:vs'.size=ys.length:=by simpa using V1 _ _ _ k4
    refine bb (rc_readsAll ho xs ys A.in1 s vs.toList vs'.toList _ _ k h4 k4 (by simpa[ě] using ha) (by simpa[ě] using hb) (SeqAt.room_in hu) hk) λeks e1 e2=>?_;have:=Nk hlt ⟨_,h1,h2,_,h3⟩ ⟨_,k1,k2,_,k3⟩ e1 (SeqAt.room_here hu)
    lia
 |.none,_,_,_,_,_,_,_,_,_,_,_,_,_,hk=>by simp_all[cmpP]
 |.bool _,_,_,_,_,_,_,_,_,_,_,_,_,_,hk=>by simp_all[cmpP]
 |.str _,_,_,_,_,_,_,_,_,_,_,_,_,_,hk=>by simp_all[cmpP]
 |.list _,_,_,_,_,_,_,_,_,_,_,_,_,_,hk=>by simp_all[cmpP]
 |.dict _,_,_,_,_,_,_,_,_,_,_,_,_,_,hk=>by simp_all[cmpP]
 |.int _,.none,_,_,_,_,_,_,_,_,_,_,_,_,hk=>by simp_all[cmpP]
 |.int _,.bool _,_,_,_,_,_,_,_,_,_,_,_,_,hk=>by simp_all[cmpP]
 |.int _,.str _,_,_,_,_,_,_,_,_,_,_,_,_,hk=>by simp_all[cmpP]
 |.int _,.list _,_,_,_,_,_,_,_,_,_,_,_,_,hk=>by simp_all[cmpP]
 |.int _,.tuple _,_,_,_,_,_,_,_,_,_,_,_,_,hk=>by simp_all[cmpP]
 |.int _,.dict _,_,_,_,_,_,_,_,_,_,_,_,_,hk=>by simp_all[cmpP]
 |.tuple _,.none,_,_,_,_,_,_,_,_,_,_,_,_,hk=>by simp_all[cmpP]
 |.tuple _,.bool _,_,_,_,_,_,_,_,_,_,_,_,_,hk=>by simp_all[cmpP]
 |.tuple _,.int _,_,_,_,_,_,_,_,_,_,_,_,_,hk=>by simp_all[cmpP]
 |.tuple _,.str _,_,_,_,_,_,_,_,_,_,_,_,_,hk=>by simp_all[cmpP]
 |.tuple _,.list _,_,_,_,_,_,_,_,_,_,_,_,_,hk=>by simp_all[cmpP]
 |.tuple _,.dict _,_,_,_,_,_,_,_,_,_,_,_,_,hk=>by simp_all[cmpP]
theorem rc_readsAll{op:Ő}(ho:tG op=ą):∀(xs ys:List ė)(A:Đ)(s:Ą)(vs ws:List ā)(as bs:List Ĉ)(k:ċ),ŝ 1e9 vs xs as->ŝ 1e9 ws ys bs->Ď xs=ą->Ď ys=ą ->
  A.units+min (Ē xs) (Ē ys)<į->cmpPs op xs ys=Ā k->∃eks,mL op A s vs ws eks/\pd (cmpI op (xs.length:ă) (ys.length:ă)) eks=k
 |[],ys,A,s,_,_,_,_,k,ra,rb,_,_,_,hk=>by
  cases ra;simp only[cmpPs]at hk;cases hk;exact⟨[],by unfold mL;trivial,rfl⟩
 |x::xs,[],A,s,_,_,_,_,k,ra,rb,_,_,_,hk=>by
  cases rb;simp only[cmpPs]at hk;cases hk;cases ra;refine⟨[],by unfold mL;trivial,?_⟩;rfl
 |x::xs,y::ys,A,s,_,_,_,_,k,ra,rb,ha,hb,hu,hk=>by
  have ha':x.canLay0=ą/\Ď xs=ą:=by simpa[Ď] using ha
  have hb':y.canLay0=ą/\Ď ys=ą:=by simpa[Ď] using hb
  cases ra with
  |cons r rs=>
   cases rb with
   |cons r' rs'=>
    have he:=V_ x y A s _ _ _ _ r r' ha'.1 hb'.1 (V2 hu);simp only[cmpPs]at hk;cases e:ġ x y with
    |true=>
     rw[RC e]at hk;rw[e]at he;refine bb (rc_readsAll ho xs ys A s _ _ _ _ k rs rs' ha'.2 hb'.2 (Xe hu) hk) λeks e1 e2=>?_;refine⟨(ą,ć)::eks,⟨he,λz=>(by cases z),λ_=>e1⟩,?_⟩;show pd (cmpI op ((xs.length+1:ă):Ć) ((ys.length+1:ă):Ć)) eks=k;rw[wJ];exact e2
    |false=>
     rw[RE 0e1]at hk;rw[e]at he;refine⟨[(ć,k)],⟨he,λ_=>rc_reads ho x y A s _ _ _ _ k r r' ha'.1 hb'.1 (V2 hu) hk,λz=>(by cases z)⟩,rfl⟩
end
def AK(K:W.Frag)(O:Ő):R2:=λx y H Q=>∃a b k,nk K H a x/\nk K H b y/\fitP a=ą/\fitP b=ą/\cmpP O a b=Ā k/\Q (.bl k) H
theorem FA{X:Cx}(U:3e8):∀{op:Ő},tG op=ą->iw X (Ĭ op) (AK X.K op):=by
 intro op O p s i H x y v u Q I r α h;obtain⟨a,b,k,c,e,d,f,g,q⟩:=h;obtain⟨W,R⟩:=bX I a x v c r;obtain⟨bs,L⟩:=bX I b y u e α;have:=rc_reads O a b X.A s v u W bs k R L (fitP_lay d) (fitP_lay f) (lW d U) g X.prog X.w X.xe (EP X p i Q) ⟨.bl k,H,I,rfl,q⟩
 cases op <;> first
  |exact absurd O 0e3
  |exact this
def fL(O:Ő)(a b:D)(J:az):aj D:=match mG J a,mG J b with
 |some p,Ā q=>if fitP p=ą/\fitP q=ą then (match cmpP O p q with|some k=>.ok (.bl k) J|none=>.bad) else .bad
 |_,_=>.bad
theorem JS:sO p (fL op) (AK p.K op):=by
 intro a b v y H c e Q S r R P;unfold fL at P;split at P
 ·rename_i x z d Z;split at P
  ·rename_i F;split at P
   ·rename_i k h;exact⟨x,z,k,iO S d r,iO S Z R,F.1,F.2,h,P.now S _ (aP.mpr rfl)⟩
   ·exact P.elim
  ·exact P.elim
 ·exact P.elim
noncomputable def dI(g:Ć->Ć->D)(a b:D)(J:az):aj D:=match a,b with
 |.int i,.int j=>.ok (g i j) J
 |_,_=>.bad
open Classical in
noncomputable def DF(C:(Ć->Ć->Prop))(g:Ć->Ć->D)(a b:D)(J:az):aj D:=match a,b with
 |.int i,.int j=>if C i j then .ok (g i j) J else .bad
 |_,_=>.bad
section
theorem Hr{g:Ć->Ć->V}{gd:Ć->Ć->D}(h:∀i j H Y,p.R H Y (gd i j) (g i j)):sO p (dI gd) (He g):=by
 intro a b v y H Y d Q S r B P;unfold dI at P;split at P
 ·rename_i i j;exact⟨i,j,ao.mp r,ao.mp B,P.now S _ (h i j H Y)⟩
 ·exact P.elim
theorem tF{C:(Ć->Ć->Prop)}{g:Ć->Ć->V}{gd:Ć->Ć->D}(h:∀i j H Y,p.R H Y (gd i j) (g i j)):sO p (DF C gd) (rI C g):=by
 intro a b v y H Y d Q S r B P;unfold DF at P;split at P
 ·rename_i i j;split at P
  ·rename_i c;exact⟨i,j,ao.mp r,ao.mp B,c,P.now S _ (h i j H Y)⟩
  ·exact P.elim
 ·exact P.elim
noncomputable def qV(a:D)(J:az):aj D:=match a with
 |.int i=>.ok (.int (-i)) J
 |_=>.bad
theorem JU:QR p qV (rU λi=>.int (-i)):=by
 intro a v H h d Q S r P;unfold qV at P;split at P
 ·rename_i i;exact⟨i,ao.mp r,P.now S _ (ao.mpr rfl)⟩
 ·exact P.elim
def GU(K:W.Frag):R2:=λx y H Q=>∃a b S α,x=.ref a/\y=.ref b/\eQ K H a S/\eQ K H b α/\S.length+α.length<=sizeLine /\
 (S=[]->Q (.ref b) H)/\(S≠[]->α=[]->Q (.ref a) H)/\(S≠[]->α≠[]->∀p,H p=Ă->Q (.ref p) (bz H p (.tup (S++α))))
theorem Dj{t:Ĉ}{ws:List ā}(T:Ó 1e9 t #[])(B:Ó 1e9 b ws.toArray)(h:Q (.ref b) s):Ċ 0e7 A (Ļ .Add (.ref t) (.ref b)) Q E s:=by
 obtain⟨⟨cls,q,data,l⟩,O,C,n,H⟩:=id T;obtain⟨V,d,i,N,j⟩:=id B;obtain⟨cls2,D,data2,S⟩:=V;subst C H i j
 exact J_ ⟨_,O,rfl⟩ ⟨_,d,rfl⟩ T2 õ T3 T4 (T5 _ _)
  (tuple_addW0 t b #[] ws.toArray n N q D l S (by rfl)) ⟨O,d,h⟩
theorem FD{X:Cx}:iw X (Ļ .Add) (GU X.K):=by
 intro P s f H x y v u Q I R α h;obtain⟨a,b,S,e,rfl,rfl,A,B,Z,q,c,G⟩:=h;by_cases d:S=[]
 ·cases R;cases α;refine bo (I.tuple A) λi r j _=>?_;refine bo (I.tuple B) λits2 L k _=>?_;subst d;cases r;exact Dj j k ⟨.ref b,H,I,rfl,q rfl⟩
 ·exact FC P s f H (.ref a) (.ref b) v u Q I R α ⟨a,b,S,e,rfl,rfl,A,B,d,Z,c d,G d⟩
def GV(K:W.Frag):R2:=λx y H Q=>He (λi j=>.int (i+j)) x y H Q\/GU K x y H Q\/LI x y H Q\/(∃i j,x=.str i/\y=.str j/\i.length+j.length<=sizeLine/\Q (.str (i++j)) H)
theorem FE{X:Cx}:iw X (Ļ .Add) (GV X.K):=JG.or (FD.or (JE.or wu))
def cq(a b:D)(J:az):aj D:=match a,b with
 |.int i,.int j=>.ok (.int (i+j)) J
 |.str x,.str y=>if x.length+y.length<=sizeLine then .ok (.str (x++y)) J else .bad
 |.tup S,.tup α=>if S.length+α.length<=sizeLine then .ok (.tup (S++α)) J else .bad
 |.obj m,.obj n=>match J[m]?,J[n]? with
  |some (.lst S),Ā (.lst α)=>if S.length+α.length<=sizeLine then .ok 1e3 (J++[.lst (S++α)]) else .bad
  |_,_=>.bad
 |_,_=>.bad
theorem bS(S:(p.S H Y J))(r:p.R H Y (.obj n) v)(d:(J[n]?=Ā (.lst xs))):∃a us,v=.ref a/\Y[n]?=Ā a/\H a=Ā (.lst us)/\p.Rs H Y xs us:=by
 refine jE (S.at d) λa e us hH b=>?_;obtain⟨A,rfl,E⟩:=aI.mp r
 simp_all
theorem Reps.nil_iff'(r:Reps K H Y xs vs):vs=[]↔xs=[]:=by
 have:=r.length
 grind
theorem JT:sO p cq (GV p.K):=by
 intro a b v y H t u Q S r B P;unfold cq at P;split at P
 ·rename_i i j;exact .inl ⟨i,j,ao.mp r,ao.mp B,P.now S _ (ao.mpr rfl)⟩
 ·rename_i i j;split at P
  ·rename_i h;exact .inr (.inr (.inr ⟨i,j,a7.mp r,a7.mp B,h,P.now S _ (a7.mpr rfl)⟩))
  ·exact P.elim
 ·rename_i s o;split at P
  ·rename_i h;refine aU (aH.mp r) λa U G c R=>?_;subst G;refine aU (aH.mp B) λb W V d L=>?_;subst V;refine .inr (.inl ⟨a,b,U,W,rfl,rfl,c,d,by rw[R.length,L.length];exact h,λe=>?_,λ_ e=>?_,λ_ _ q z=>?_⟩)
   ·have ex:=R.nil_iff'.mp e;subst ex;exact P.now S _ (by simpa using B)
   ·have E:=L.nil_iff'.mp e;subst E;exact P.now S _ (by simpa using r)
   ·exact P _ _ (bB z) (S.tuple z) _ (aH.mpr ⟨q,_,rfl,eQ.of aV,(R.append L).mono (bB z)⟩)
  ·exact P.elim
 ·rename_i m n;split at P
  ·rename_i s o x α;split at P
   ·rename_i h;refine aJ (bS S r x) λa U f A c R=>?_;subst f;refine aJ (bS S B α) λb W g b1 d L=>?_;subst g;refine .inr (.inr (.inl ⟨a,b,U,W,rfl,rfl,c,d,by rw[R.length,L.length];exact h,λq z=>?_⟩));refine gF (cZ S z (R.append L)) λX k l=>?_;exact P _ _ X k _ l
   ·exact P.elim
  ·exact P.elim
 ·exact P.elim
def GQ:R2:=λx y H Q=>rI tE (λi j=>.int (i*j)) x y H Q\/LC x y H Q
theorem Fy{X:Cx}:iw X (Ļ .Mult) GQ:=Jz.or Jw
open Classical in
def gH(a b:D)(J:az):aj D:=match a,b with
 |.int i,.int j=>if tE i j then .ok (.int (i*j)) J else .bad
 |.obj m,.int k=>match J[m]? with
  |some (.lst S)=>if -(2^63)<=k/\k<2^63/\S.length*k.toNat<=sizeLine then .ok 1e3 (J++[.lst (List.replicate k.toNat S).flatten]) else .bad
  |_=>.bad
 |_,_=>.bad
theorem Reps.rep{K:W.Frag}{H:Hp}{Y:List Ĉ}{xs:List D}{vs:List V}(h:Reps K H Y xs vs):∀k:ă,Reps K H Y (List.replicate k xs).flatten (List.replicate k vs).flatten
 |0=>by simpa using Reps.nil
 |k+1=>by
  exact h.append (Reps.rep h k)
theorem JP:sO p gH GQ:=by
 intro a b v y H c e Q S r B P;unfold gH at P;split at P
 ·rename_i i j;split at P
  ·rename_i C;exact .inl ⟨i,j,ao.mp r,ao.mp B,C,P.now S _ (ao.mpr rfl)⟩
  ·exact P.elim
 ·rename_i m k;split at P
  ·rename_i s d;split at P
   ·rename_i L;refine aJ (bS S r d) λa U V f h R=>?_;subst V;refine .inr ⟨a,k,U,rfl,ao.mp B,h,L.1,L.2.1,by rw[R.length];exact L.2.2,λq z=>?_⟩;refine gF (cZ S z (R.rep k.toNat)) λx G X=>?_;exact P _ _ x G _ X
   ·exact P.elim
  ·exact P.elim
 ·exact P.elim
def bN(a b:D)(J:az):aj D:=match a,b with
 |.tup S,.int i=>match atI S i with
  |some d=>.ok d J
  |none=>.bad
 |.frz S,.int i=>match atI S i with
  |some d=>.ok d J
  |none=>.bad
 |.obj n,.int i=>match J[n]? with
  |some (.lst S)=>match atI S i with
   |some d=>.ok d J
   |none=>.bad
  |_=>.bad
 |_,_=>.bad
theorem Reps.atI{i:Ć}(r:Reps K H Y xs vs)(h:_l.atI xs i=Ā d):∃v,_l.atI vs i=Ā v/\aM K H Y d v:=by
 unfold _l.atI at h⊢;rw[r.length];cases e:vk xs.length i with
 |none=>rw[e]at h;cases h
 |some j=>rw[e]at h;exact r.get h
theorem NB:sO p bN (QK p.K):=by
 intro a b v y H e g Q S A B P;unfold bN at P;split at P
 ·rename_i x i;split at P
  ·rename_i d D;obtain⟨a,U,rfl,h,R⟩:=aH.mp A;obtain⟨v,V,r⟩:=R.atI D;exact .inr (.inl ⟨a,U,i,v,rfl,ao.mp B,h,V,P.now S _ r⟩)
  ·exact P.elim
 ·rename_i x i;split at P
  ·rename_i d D;obtain⟨a,U,rfl,h,R⟩:=bh.mp A;obtain⟨v,V,r⟩:=R.atI D;exact .inl ⟨a,U,i,v,rfl,ao.mp B,h.sq,V,P.now S _ r⟩
  ·exact P.elim
 ·rename_i n i;split at P
  ·rename_i x X;split at P
   ·rename_i d D;refine aJ (bS S A X) λa U c f h R=>?_;subst c;refine bb (R.atI D) λv V r=>?_;exact .inl ⟨a,U,i,v,rfl,ao.mp B,dZ.of h,V,P.now S _ r⟩
   ·exact P.elim
  ·exact P.elim
 ·exact P.elim
theorem M8{X:Cx}{a b:Expr}{fb:ME}(hK:X.K=p.K)(A:(PE X a (tD p fa)))(B:PE X b (tD p fb))(hs:ng b):PE X (.Subscript a b pos) (tD p (au bN fa fb)):=
 (AL Kd A B hs).weak λt H Q => aR λo f q S R P => ⟨o, f, q, S, R, (aD.bind P).imp λx c s i m j h v V => ⟨i, f, c, j, R.mono m, (aD.bind h).imp λy e l d n k g u r => by
  rw[hK];exact NB x y v u l d e Q k (V.mono n) r g⟩⟩
theorem jD{t sl:Ĉ}{items:ĕ ā}{vl vu:ā}{hi:Option Ć}(T:Ó 1e9 t items)(hs:s.heap.IsSliceOf sl vl vu .none)(L:ż vl lo)(U:ż vu hi)(W:HT.sIx 4e0 0 lo=0/\HT.sIx 4e0 4e0 hi=4e0)(h:Q (.ref t) s):Ċ 0e7 A (è (.ref t) (.ref sl)) Q E s:=by
 refine bo (id hs) λo d i S=>?_;unfold è
 try with_reducible refine To ?_
 refine Tn (No T.typeIs 0e3 ?_)
 refine Tn (Ub T.typeIs Uc
  (Ud Uc T.typeIs ð ?_ (D_ _ _)))
 show Ċ _ _ (Builtin.Tuple.tupleItemsOf (.ref t) >>= _) _ _ s;refine Tn (YQ T ?_);refine Tn (Ue ⟨o,d,i⟩ ?_);refine Tn (HT.sliceApplied_gen hs L U ?_)
 have O:(((HT.sIx 4e0 0 lo:ă):Ć) == 0&&(1:Ć) == 1&&(HT.sIx 4e0 4e0 hi-HT.sIx 4e0 0 lo) == items.size)=ą:=by
  rw[W.1,W.2];simp
 show Ċ _ _ (if (((HT.sIx 4e0 0 lo:ă):Ć) == 0&&(1:Ć) == 1&&(HT.sIx 4e0 4e0 hi-HT.sIx 4e0 0 lo) == items.size)=ą then _ else _) _ _ s;rw[RC O];exact Tn (Tn (Ue T.typeIs (SD (Tn (Sw (SD ⟨_,rfl,SD h⟩))))))
def lF(xs:List β)(lo I:Option Ć):List β:=(xs.drop (HT.sIx xs.length 0 lo)).take (HT.sIx xs.length xs.length I-HT.sIx xs.length 0 lo)
theorem wG(xs:List β)(lo I:Option Ć)(h:HT.sIx xs.length 0 lo=0/\HT.sIx xs.length xs.length I=xs.length):lF xs lo I=xs:=by
 simp_all[lF]
def GO(K:W.Frag):V->Option Ć->Option Ć->Hp->VK->Prop:=λx l I H Q=>∃a S,x=.ref a/\eQ K H a S /\
 (HT.sIx S.length 0 l=0/\HT.sIx S.length S.length I=S.length)/\Q (.ref a) H
theorem EC{X:Cx}:DI X (GO X.K):=by
 intro P s g H x v f u l c e Q I R S L U h;refine aJ h λa b V d W q=>?_;subst V;cases R;refine bo (I.tuple d) λi r T Z=>?_;exact⟨"tuple",_,Uc.lookup,T.typeIs,(jD T S L U (by rw[(show i.toArray.size=b.length by rw[SJ];exact r.length.symm)];exact W) ⟨.ref a,H,I,rfl,q⟩)⟩
def LB(K:W.Frag):V->Option Ć->Option Ć->Hp->VK->Prop:=λx l I H Q=>Lz K x l I H Q\/GO K x l I H Q\/LA K x l I H Q
theorem PB{X:Cx}:DI X (LB X.K):=IA.or (EC.or ED)
abbrev MO:=Ro->az->aj (Option Ć)
noncomputable def K6:MO:=λ_ d=>.ok Ă d
noncomputable def Ou(d:D)(J:az):aj (Option Ć):=match d with
 |.int i=>.ok (Ā i) J
 |_=>.bad
def mf(f:ME):MO:=λe d=>(f e d).bind Ou
def Lj(p:Pa)(f:MO):TO:=λa H Q=>∃h e d,p.S H h d/\cu p.K H h e a/\aD p H h (f e d) (λo _ b _=>Q o b)
theorem PO.weak{X:Cx}{e:Option Expr}{t t':TO}(h:PO X e t)(k:(∀σ H Q,t' σ H Q->t σ H Q)):PO X e t':=λP s σ H Q I q=>h P s σ H Q I (k σ H Q q)
theorem EA{X:Cx}:PO X Ă (Lj p K6):=Ff.weak λa H Q=>aR λh e d S R P=>P.now S
theorem Ez{X:Cx}{f:ME}(h:PE X e (tD p f)):PO X (Ā e) (Lj p (mf f)):=(Fe h).weak λo H Q=>aR λc l j S R P=>⟨c,l,j,S,R,(aD.bind P).imp λd k m g n b a v r=>by
 unfold Ou at a;split at a
 ·rename_i i;exact⟨i,ao.mp r,a.now b⟩
 ·exact a.elim⟩
def z8(a:D)(lo I:Option Ć)(J:az):aj D:=match a with
 |.tup S=>.ok (.tup (lF S lo I)) J
 |.frz S=>.ok 1e3 (J++[.lst (lF S lo I)])
 |.obj n=>match J[n]? with
  |some (.lst S)=>.ok 1e3 (J++[.lst (lF S lo I)])
  |_=>.bad
 |_=>.bad
def GI(i:ME)(l f:MO):ME:=λb c=>(i b c).bind λa d=>(l b d).bind λo e=>(f b e).bind λI w=>z8 a o I w
theorem Reps.cut'(r:Reps K H Y xs vs)(lo I:Option Ć):Reps K H Y (lF xs lo I) (vC vs lo I):=by
 unfold lF vC;rw[r.length];exact(r.drop _).take _
theorem M5{a:D}{hi:Option Ć}{Q:VK}(S:(p.S H Y J))(A:p.R H Y a v)(P:aD p H Y (z8 a lo hi J) (RV p Q)):LB p.K v lo hi H Q:=by
 unfold z8 at P;split at P
 ·rename_i x;obtain⟨a,U,rfl,h,r⟩:=aH.mp A;by_cases W:HT.sIx U.length 0 lo=0/\HT.sIx U.length U.length hi=U.length
  ·refine .inr (.inl ⟨a,U,rfl,h,W,?_⟩);rw[r.length]at W;rw[wG x lo hi W]at P;exact P.now S _ A
  ·exact .inl ⟨a,U,rfl,h,W,λq z=>P _ _ (bB z) (S.tuple z) _ (aH.mpr ⟨q,_,rfl,eQ.of aV,(r.cut' lo hi).mono (bB z)⟩)⟩
 ·rename_i x;obtain⟨a,U,rfl,h,r⟩:=bh.mp A;refine .inr (.inr ⟨a,U,rfl,h.sq,λq z=>?_⟩);refine gF (cZ S z (r.cut' lo hi)) λB G i=>?_;exact P _ _ B G _ i
 ·rename_i n;split at P
  ·rename_i x d;refine aJ (bS S A d) λa U b f h r=>?_;subst b;refine .inr (.inr ⟨a,U,rfl,dZ.of h,λq z=>?_⟩);refine gF (cZ S z (r.cut' lo hi)) λB G i=>?_;exact P _ _ B G _ i
  ·exact P.elim
 ·exact P.elim
theorem Cp{X:Cx}{lo hi:Option Expr}{fl fh:MO}{p2:Ľ}(hK:X.K=p.K)(q:PE X e (tD p fa))(L:PO X lo (Lj p fl))(U:PO X hi (Lj p fh)):PE X (.Subscript e (.Slice lo hi Ă p2) pos) (tD p (GI fa fl fh)):=
 (CJ PB q L U).weak λA H Q => aR λs f u S R P => ⟨s, f, u, S, R, (aD.bind P).imp λa b x i m k g v r => ⟨i, f, b, k, R.mono m, (aD.bind g).imp λl c y d n o j => ⟨d, f, c, o, (R.mono m).mono n, (aD.bind j).imp λh w z t I G E => by
  rw[hK];exact M5 G ((r.mono n).mono I) E⟩⟩⟩
end
inductive Aa(K:W.Frag)(H:Hp):V->Ī->Prop where
 |non:Aa K H .non "NoneType"
 |bl (x:ċ):Aa K H (.bl x) "bool"
 |int (i:Ć):Aa K H (.int i) "int"
 |str (x:ď):Aa K H (.str x) "str"
 |lst {a:Ĉ}{xs:List V} (e:dZ K H a xs):Aa K H (.ref a) "list"
 |tup {a:Ĉ}{xs:List V} (e:eQ K H a xs):Aa K H (.ref a) "tuple"
 |dic {a:Ĉ}{kvs:List (sP×V)} (e:H a=Ā (.dK kvs)):Aa K H (.ref a) "dict"
noncomputable def LP (n T:Ī):ċ:=n == T || (n == "bool" && T == "int")
noncomputable def rA:List Ī:=["NoneType", "bool", "int", "str", "list", "tuple", "dict"]
theorem μ6:∀tn∈rA,∀T∈["int", "bool", "tuple", "list", "str", "dict"],W.kitOne K (.type tn) (.type T)=Ā (LP tn T):=by
 intro tn H T c;simp[rA,Td,UN,UO]at H c;rcases H with rfl|rfl|rfl|rfl|rfl|rfl|rfl <;> rcases c with rfl|rfl|rfl|rfl|rfl|rfl <;> rfl
theorem Aa.mem{x:V}{tn:Ī}(h:Aa K H x tn):tn∈rA:=by
 cases h <;> decide
section
variable{X:Cx}
theorem Kf{c:ā}{b:ċ}{x:V}{tn:Ī}(I:0e4)(R:bA x u)(ty:Aa X.K H x tn)(e:W.kitOne X.K (.type tn) c=Ā b)(h:∀tk,Q (.bool b) {s with toks:=tk}):
  Ċ 1e2 A (call (.builtin "isinstance") [u,c]) Q E s:=by
 cases ty with
 |non=>cases R;exact W.kia_one W.kitx_none I.kIn Ź e (λz=>nomatch z) h
 |bl y=>cases R;exact W.kia_one W.kitx_bool I.kIn Ź e (λz=>nomatch z) h
 |int i=>obtain⟨t,q⟩:=R;cases q;exact W.kia_one W.kitx_int I.kIn Ź e (λz=>nomatch z) h
 |str y=>obtain⟨t,q⟩:=R;cases q;exact W.kia_one W.kitx_str I.kIn Ź e (λz=>nomatch z) h
 | @lst a j d=>
  cases R;obtain⟨S,_,⟨o,n,f,g,_⟩,_⟩:=I.list d;exact W.kia_one W.kitx_list I.kIn ⟨o,f,g⟩ e (λz=>nomatch z) h
 | @tup a j d=>
  cases R;obtain⟨S,_,⟨o,f,g,_⟩,_⟩:=I.tuple d;exact W.kia_one W.kitx_tuple I.kIn ⟨o,f,g⟩ e (λz=>nomatch z) h
 | @dic a k d=>
  cases R;obtain⟨_,_,v,_,p⟩:=I.hok a _ d;refine cv p λo l P f g _=>?_;exact W.kia_one W.kitx_dict I.kIn ⟨o,f,g.1⟩ e (λz=>nomatch z) h
def PJ(K:W.Frag):List V->Hp->VK->Prop:=λS H Q=>∃x T n b,S=[x,.ty T]/\Aa K H x n/\W.kitOne K (.type n) (.type T)=Ā b/\Q (.bl b) H
theorem Dl:b8 X (.builtin "isinstance") (PJ X.K):=by
 intro p s d H c S Q I r h;refine cx h λx T n b G ty e q=>?_;subst G;refine aU (w9 r) λu a V U R=>?_;subst V;cases R;exact Kf I U ty e λt=>⟨.bl b,H,I.tok _,rfl,q⟩
end
noncomputable def Oi(J:az):D->Option Ī
 |.non=>Ā "NoneType"
 |.bl _=>Ā "bool"
 |.int _=>Ā "int"
 |.str _=>Ā "str"
 |.tup _=>Ā "tuple"
 |.frz _=>Ā "list"
 |.obj n=>match J[n]? with
  |some (.lst _)=>Ā "list"
  |some .dic=>Ā "dict"
  |_=>Ă
theorem HZ{tn:Ī}(S:(p.S H Y J))(r:p.R H Y d v)(h:Oi J d=Ā tn):Aa p.K H v tn:=by
 cases d with
 |non=>cases h;rw[bp.mp r];exact .non
 |bl b=>cases h;rw[aP.mp r];exact .bl b
 |int b=>cases h;rw[ao.mp r];exact .int b
 |str b=>cases h;rw[a7.mp r];exact .str b
 |tup s=>cases h;obtain⟨a,y,rfl,c,_⟩:=aH.mp r;exact .tup c
 |frz s=>cases h;obtain⟨a,y,rfl,c,_⟩:=bh.mp r;exact .lst c.sq
 |obj n=>
  unfold Oi at h;dsimp only at h;split at h
  ·rename_i s x;cases h;refine aJ (bS S r x) λa U f g c _=>?_;subst f;exact .lst (dZ.of c)
  ·rename_i x;cases h;refine bb (S.at x) λa e q=>?_;obtain⟨A,rfl,E⟩:=aI.mp r;rw[e]at E;cases E;exact .dic q
  ·cases h
def mH(T:Ī)(d:D)(J:az):aj D:=match Oi J d with
 |some n=>.ok (.bl (LP n T)) J
 |none=>.bad
theorem IJ{X:Cx}{a:Expr}{T:Ī}{xT:ď}{pt:Ľ}(hK:X.K=p.K)(hT:T∈["int", "bool", "tuple", "list", "str", "dict"])(N:Gl X "isinstance")(m:X.mg "isinstance" = Ă)(hgT:Gl X xT)(hmT:X.mg xT=Ă)(hbT:Ġ xT=Ā (.type T))(A:(PE X a (tD p fa)))(hnT:xT ≠ "__name__")(hdT:(xT == ("__debug__" : ď))=ć)(h:ĉ [a,.Name xT pt] 1e4=(ć,eval a 1e4)::ĉ [.Name xT pt] 1e4):
  PE X (.Call (.Name "isinstance" px) [a,.Name xT pt] [] pos) (tD p (iu (mH T) fa)):=by
 refine(kT Dl N m V3 (fM A (fM (show PE X (.Name xT pt) (tC (.ty T)) from x3 hgT hmT hbT rfl hnT hdT) lJ rfl) h) 0e3 0e3 h rfl).weak λo H Q=>aR λe j f S R P=>⟨e,j,f,S,R,(aD.bind P).imp λd g k i l c b v r=>?_⟩;unfold mH at b;split at b
 ·rename_i t n;have ty:=HZ c r n;rw[hK];exact⟨v,T,t,_,rfl,ty,μ6 t ty.mem T hT,b.now c _ (aP.mpr rfl)⟩
 ·exact b.elim
noncomputable def iV:List D->Option (List ċ)
 |[]=>Ā []
 |.bl b::r=>(iV r).map (b::·)
 |_::_=>Ă
theorem j4:∀{ds:List D}{bs:List ċ},iV ds=Ā bs->ds=bs.map D.bl
 |[],bs,h=>by cases h;rfl
 |.bl b::r,bs,h=>by
  unfold iV at h;cases e:iV r with
  |none=>rw[e]at h;cases h
  |some c=>rw[e]at h;cases h;rw[j4 e];rfl
 |.non::r,bs,h=>by cases h
 |.int _::r,bs,h=>by cases h
 |.str _::r,bs,h=>by cases h
 |.tup _::r,bs,h=>by cases h
 |.frz _::r,bs,h=>by cases h
 |.obj _::r,bs,h=>by cases h
theorem qM(bs:List ċ):iV (bs.map D.bl)=Ā bs:=by
 induction bs with
 |nil=>rfl
 |cons b r i=>simp only[SH,iV,i];rfl
theorem Reps.bools{K:W.Frag}{H:Hp}{Y:List Ĉ}:∀{bs:List ċ}{vs:List V},Reps K H Y (bs.map D.bl) vs->vs=bs.map V.bl
 |[],vs,h=>by simp at h;exact h
 |n::j,vs,h=>by
  refine aU h λv r b a c=>?_;subst b;rw[aP.mp a,Reps.bools c];rfl
theorem oo{bs:List ċ}(h:aX (bs.map V.bl) us):us=bs.map Ŏ:=by
 induction bs generalizing us with
 |nil=>cases h;rfl
 |cons b r i=>
  cases h with
  |cons H c=>cases H;rw[i c];rfl
theorem z5{bs:List ċ}:(List.range bs.length).all (λi=>bs.getD i ć)=bs.all id:=by
 induction bs with
 |nil=>rfl
 |cons b r h=>
  rw[Uu,UQ,Ul,List.all_map];congr 1
theorem z4{bs:List ċ}:(List.range bs.length).any (λi=>bs.getD i ć)=bs.any id:=by
 induction bs with
 |nil=>rfl
 |cons b r h=>
  rw[Uu,UQ,List.any_cons,List.any_map];congr 1
section
variable{X:Cx}
def LK(K:W.Frag):List V->Hp->VK->Prop:=λS H Q=>∃(a:Ĉ)(bs:List ċ),S=[.ref a]/\dZ K H a (bs.map V.bl)/\Q (.bl (bs.all id)) H
def LJ(K:W.Frag):List V->Hp->VK->Prop:=λS H Q=>∃(a:Ĉ)(bs:List ċ),S=[.ref a]/\dZ K H a (bs.map V.bl)/\Q (.bl (bs.any id)) H
theorem aO.fresh_it(I:0e4){o:ħ}{tk:ă}(h:∀b ob,b ∉ [0e0]->(s.heap.push o).get? b=Ā ob->h'.get? b=Ā ob):aO X pins σ H {s with heap:=h',toks:=tk}:=
 I.kept λb ob e=>h b ob (λm=>by
  have:b=s.heap.objs.size:=by simpa using m
  subst this
  exact absurd (S0 e) (S7 _)) (Tr _ e)
theorem zW (C:X.calm=ą):b8 X (.builtin "all") (LK X.K):=by
 intro p s w H x U Q I r h;obtain⟨a,bs,rfl,d,q⟩:=h;obtain⟨u,rfl,R⟩:=dU r;cases R;obtain⟨S,f,L,Z⟩:=I.list d;have c:S=bs.map Ŏ:=oo f
 have E:a≠s.heap.objs.size:=by
  obtain⟨o,n,e,_⟩:=L;exact Sn (S0 e)
 refine call_all_walk (Vs L.isList ?_);refine⟨0e0,[0e0,a],[0e0],_,_,_,λi=>bs.getD i ć,rfl,Vu (A:=X.A.in1) (show X.A.in1.handled=Ă from I.ok.hd C) _ a E S.toArray,⟨⟨_,SZ _ rfl,rfl,rfl⟩,L.isList.at λo e=>Tr _ e⟩,?_,?_⟩
 ·intro i v l g t hP hQ;subst c;have V:(bs.map Ŏ)[i]?=Ā v:=by simpa using hP
  rw[SS]at V;cases e:bs[i]? with
  |none=>rw[e]at V;cases V
  |some b=>
   rw[e]at V;cases V;have:bs.getD i ć=b:=by rw[SQ,e];rfl
   dsimp only at hQ;rw[this]at hQ;exact Ti hQ
 ·intro j T k;have m:S.toArray.size=bs.length:=by subst c;simp
  rw[m,z5];exact⟨.bl _,H,I.fresh_it k,rfl,q⟩
theorem zV (C:X.calm=ą):b8 X (.builtin "any") (LJ X.K):=by
 intro p s w H x U Q I r h;obtain⟨a,bs,rfl,d,q⟩:=h;obtain⟨u,rfl,R⟩:=dU r;cases R;obtain⟨S,f,L,Z⟩:=I.list d;have c:S=bs.map Ŏ:=oo f
 have E:a≠s.heap.objs.size:=by
  obtain⟨o,n,e,_⟩:=L;exact Sn (S0 e)
 refine call_any_walk (Vs L.isList ?_);refine⟨0e0,[0e0,a],[0e0],_,_,_,λi=>bs.getD i ć,rfl,Vu (A:=X.A.in1) (show X.A.in1.handled=Ă from I.ok.hd C) _ a E S.toArray,⟨⟨_,SZ _ rfl,rfl,rfl⟩,L.isList.at λo e=>Tr _ e⟩,?_,?_⟩
 ·intro i v l g t hP hQ;subst c;have V:(bs.map Ŏ)[i]?=Ā v:=by simpa using hP
  rw[SS]at V;cases e:bs[i]? with
  |none=>rw[e]at V;cases V
  |some b=>
   rw[e]at V;cases V;have:bs.getD i ć=b:=by rw[SQ,e];rfl
   dsimp only at hQ;rw[this]at hQ;exact Ti hQ
 ·intro j T k;have m:S.toArray.size=bs.length:=by subst c;simp
  rw[m,z4];exact⟨.bl _,H,I.fresh_it k,rfl,q⟩
end
def vB(ds:List D)(J:az):aj D:=match ds with
 |[.obj n]=>match J[n]? with
  |some (.lst S)=>match iV S with
   |some bs=>.ok (.bl (bs.all id)) J
   |none=>.bad
  |_=>.bad
 |_=>.bad
def vA(ds:List D)(J:az):aj D:=match ds with
 |[.obj n]=>match J[n]? with
  |some (.lst S)=>match iV S with
   |some bs=>.ok (.bl (bs.any id)) J
   |none=>.bad
  |_=>.bad
 |_=>.bad
theorem JN:sN p vB (LK p.K):=by
 intro s y H c e Q S r P;unfold vB at P;split at P
 ·rename_i n;split at P
  ·rename_i x d;split at P
   ·rename_i bs B;obtain⟨v,rfl,b⟩:=r.one;refine aJ (bS S b d) λa U μ f h R=>?_;subst μ;rw[j4 B]at R;exact⟨a,bs,rfl,by rw[<- R.bools];exact dZ.of h,P.now S _ (aP.mpr rfl)⟩
   ·exact P.elim
  ·exact P.elim
 ·exact P.elim
theorem JM:sN p vA (LJ p.K):=by
 intro s y H c e Q S r P;unfold vA at P;split at P
 ·rename_i n;split at P
  ·rename_i x d;split at P
   ·rename_i bs B;obtain⟨v,rfl,b⟩:=r.one;refine aJ (bS S b d) λa U v11 f h R=>?_;subst v11;rw[j4 B]at R;exact⟨a,bs,rfl,by rw[<- R.bools];exact dZ.of h,P.now S _ (aP.mpr rfl)⟩
   ·exact P.elim
  ·exact P.elim
 ·exact P.elim
def xl(ds:List D)(J:az):aj D:=match ds with
 |[.tup S]=>.ok (.int S.length) J
 |[.frz S]=>.ok (.int S.length) J
 |[.str x]=>if x.length<=sizeLine then .ok (.int x.length) J else .bad
 |[.obj n]=>match J[n]? with
  |some (.lst S)=>.ok (.int S.length) J
  |_=>.bad
 |_=>.bad
theorem FI:sN p xl (λxs H Q=>∃x n,xs=[x]/\HC p.K x H n/\Q (.int n) H):=by
 intro s y H c e Q S r P;unfold xl at P;split at P
 ·rename_i xs;obtain⟨v,rfl,R⟩:=r.one;obtain⟨a,U,rfl,h,b⟩:=aH.mp R;exact⟨_,xs.length,rfl,.inr ⟨U,h,b.length.symm⟩,P.now S _ (ao.mpr rfl)⟩
 ·rename_i xs;obtain⟨v,rfl,R⟩:=r.one;obtain⟨a,U,rfl,h,b⟩:=bh.mp R;exact⟨_,xs.length,rfl,.inl ⟨U,h.sq,b.length.symm⟩,P.now S _ (ao.mpr rfl)⟩
 ·rename_i x;obtain⟨v,rfl,R⟩:=r.one;split at P
  ·rename_i L;exact⟨v,x.length,rfl,by rw[a7.mp R];exact⟨L,rfl⟩,P.now S _ (ao.mpr rfl)⟩
  ·exact P.elim
 ·rename_i n;split at P
  ·rename_i xs d;obtain⟨v,rfl,R⟩:=r.one;refine aJ (bS S R d) λa U v13 f h b=>?_;subst v13;exact⟨_,xs.length,rfl,.inl ⟨U,dZ.of h,b.length.symm⟩,P.now S _ (ao.mpr rfl)⟩
  ·exact P.elim
 ·exact P.elim
def cQ(ds:List D)(J:az):aj D:=match ds with
 |[.tup S]=>.ok (.tup S) J
 |[.frz S]=>.ok (.tup S) J
 |[.obj n]=>match J[n]? with
  |some (.lst S)=>.ok (.tup S) J
  |_=>.bad
 |_=>.bad
theorem CP:sN p cQ (λxs H Q=>∃q ys,xs=[.ref q]/\((dZ p.K H q ys/\∀l,H l=Ă->Q (.ref l) (bz H l (.tup ys)))\/(eQ p.K H q ys/\Q (.ref q) H))):=by
 intro s y H c e Q S r P;unfold cQ at P;split at P
 ·rename_i xs;obtain⟨v,rfl,R⟩:=r.one;obtain⟨a,U,rfl,h,b⟩:=aH.mp R;exact⟨a,U,rfl,.inr ⟨h,P.now S _ R⟩⟩
 ·rename_i xs;obtain⟨v,rfl,R⟩:=r.one;obtain⟨a,U,rfl,h,b⟩:=bh.mp R;exact⟨a,U,rfl,.inl ⟨h.sq,λq z=>P _ _ (bB z) (S.tuple z) _ (aH.mpr ⟨q,U,rfl,eQ.of aV,b.mono (bB z)⟩)⟩⟩
 ·rename_i n;split at P
  ·rename_i xs d;obtain⟨v,rfl,R⟩:=r.one;refine aJ (bS S R d) λa U v17 f h b=>?_;subst v17;exact⟨a,U,rfl,.inl ⟨dZ.of h,λq z=>P _ _ (bB z) (S.tuple z) _ (aH.mpr ⟨q,U,rfl,eQ.of aV,b.mono (bB z)⟩)⟩⟩
  ·exact P.elim
 ·exact P.elim
noncomputable def ku(ds:List D)(J:az):aj D:=match ds with
 |[.int i]=>.ok (.int i) J
 |[.bl k]=>.ok (.int (if k then 1 else 0)) J
 |_=>.bad
theorem JL:sN p ku (λxs H Q=>(∃i,xs=[.int i]/\Q (.int i) H)\/∃k,xs=[.bl k]/\Q (.int (if k then 1 else 0)) H):=by
 intro s y H h d Q S r P;unfold ku at P;split at P
 ·rename_i i;obtain⟨v,rfl,R⟩:=r.one;exact .inl ⟨i,by rw[ao.mp R],P.now S _ (ao.mpr rfl)⟩
 ·rename_i i;obtain⟨v,rfl,R⟩:=r.one;exact .inr ⟨i,by rw[aP.mp R],P.now S _ (ao.mpr rfl)⟩
 ·exact P.elim
noncomputable def AV(ds:List D)(J:az):aj D:=match ds with
 |[.int i,.int j]=>.ok (.int (if j>i then j else i)) J
 |_=>.bad
noncomputable def AU(ds:List D)(J:az):aj D:=match ds with
 |[.int i,.int j]=>.ok (.int (if j<i then j else i)) J
 |_=>.bad
theorem FH:sN p AV (λxs H Q=>∃i j,xs=[.int i,.int j]/\Q (.int (if j>i then j else i)) H):=by
 intro s y H h d Q S r P;unfold AV at P;split at P
 ·rename_i i j;refine aU r.two λv u v20 R L=>?_;subst v20;exact⟨i,j,by rw[ao.mp R,ao.mp L],P.now S _ (ao.mpr rfl)⟩
 ·exact P.elim
theorem FG:sN p AU (λxs H Q=>∃i j,xs=[.int i,.int j]/\Q (.int (if j<i then j else i)) H):=by
 intro s y H h d Q S r P;unfold AU at P;split at P
 ·rename_i i j;refine aU r.two λv u v20 R L=>?_;subst v20;exact⟨i,j,by rw[ao.mp R,ao.mp L],P.now S _ (ao.mpr rfl)⟩
 ·exact P.elim
section
theorem mz{T:Ī}(hT:T = "list" \/ T = "tuple"){l:Ĉ}{vs:List ā}{Q:List ā->Ą->Prop}{o:ħ}(O:s.heap.get? l=Ā o)(C:o.cls=.type T)(hd:o.data=.seq vs.toArray n)(h:Q vs {s with heap:=(s.heap.push (ĥ "list" #[] 0)).update 0e0 (Ğ (·++vs.toArray))})(z:vs.length<=sizeLine):
  Ċ 0e7 A (Yn (.ref l)) Q E s:=by
 refine Tn (Vt (Vn ã ?_));refine Tn (VD (SD ⟨Vq _ 3e0,Vn XG ?_⟩));show Ċ _ _ (Builtin.List.listExtendWith (.ref 0e0) (.ref l) (.ref 0e0)) _ _ {s with heap:=s.heap.push (ĥ "list" #[] 0)};have i:(s.heap.push (ĥ "list" #[] 0)).get? l=Ā o:=Tr _ O;refine Tn (Ue ⟨o,i,C⟩ ?_);rw[RC (by rcases hT with rfl|rfl <;> simp)];refine Tn (I_ i hd ?_);refine Tn (I_ (SZ _ rfl) rfl ?_);refine Tn (VB (SZ _ rfl) rfl ?_ (RT _) (by show (#[]++vs.toArray).size<=sizeLine+1;simp;exact RG z));refine SD ?_;refine Tn (Tq (VC (SZ _ rfl) _) ?_)
 simp_all[Ċ]
theorem sy{T:Ī}(hT:T = "list" \/ T = "tuple"){l:Ĉ}{vs:List ā}{o:ħ}(O:s.heap.get? l=Ā o)(C:o.cls=.type T)(hd:o.data=.seq vs.toArray n)(hI:Ŗ vs ns)(h64:vs.length<64)(h:∀(out:ĕ ā)(ns':List Ć),Ŗ out.toList ns'->ns'.Perm ns->ns'.Pairwise (·<=·)->Q (.ref (s.heap.objs.size+1)) {s with heap:=Tl 1e9 vs out}):
  Ċ 0e7 A (call (.builtin "sorted") [.ref l]) Q E s:=by
 have H:vs.length<=sizeLine:=RH (Sj h64) 0e3;refine ŭ ZE Yu Yw (Yz _) ?_;refine Tn (SD ?_);refine Tn (mz hT O C hd ?_ H);refine Tn (VD ?_ H)
 have z:((s.heap.push (ĥ "list" #[] 0)).update 0e0 (Ğ (·++vs.toArray))).objs.size=s.heap.objs.size+1:=by
  simp
 have hoL:(((s.heap.push (ĥ "list" #[] 0)).update 0e0 (Ğ (·++vs.toArray))).push (ĥ "list" vs.toArray 0)).get? (s.heap.objs.size+1)=Ā (ĥ "list" vs.toArray 0):=by
  rw[<- z];exact SZ _ rfl
 rw[z];exact Tn (To (Ud X_ ⟨_,hoL,rfl⟩ Xj (list_sort_tree hoL hI h64 λout ns' f k c=>⟨_,rfl,(SD ⟨_,rfl,h out ns' f k c⟩)⟩) (YH _)))
end
theorem pK{h:Ĕ}{vs:List ā}{out:ĕ ā}{u:ħ}(e:h.get? b=Ā u):(Tl h vs out).get? b=Ā u:=by
 have B:=S0 e;unfold Tl ü
 grind [PySem.Heap.get?_update_ne,PySem.Heap.get?_push_of_some]
theorem pL {h:Ĕ}{vs:List ā}{out:ĕ ā}:∃n,(Tl h vs out).get? (h.objs.size+1)=Ā (ĥ "list" out n):=by
 have z:((h.push (ĥ "list" #[] 0)).update h.objs.size (Ğ (·++vs.toArray))).objs.size=h.objs.size+1:=by
  simp
 have hoL:(((h.push (ĥ "list" #[] 0)).update h.objs.size (Ğ (·++vs.toArray))).push (ĥ "list" vs.toArray 0)).get? (h.objs.size+1)=Ā (ĥ "list" vs.toArray 0):=by
  rw[<- z];exact SZ _ rfl
 exact⟨_,VC (Tr (ĥ "list" #[] 0) (Tr (ĥ "tuple" vs.toArray 0) (VC hoL (λ_=>#[])))) (λ_=>out)⟩
theorem sm(h:Ŗ us ns):aX (ns.map V.int) us:=by
 induction h with
 |nil=>exact .nil
 |cons n t _ i=>exact .cons ⟨t,rfl⟩ i
section
variable{X:Cx}
def vI(K:W.Frag):List V->Hp->VK->Prop:=λS H Q=>∃(a:Ĉ)(j:List Ć),S=[.ref a]/\(dZ K H a (j.map V.int)\/eQ K H a (j.map V.int))/\j.length<64 /\
 ∀n:List Ć,n.Perm j->n.Pairwise (·<=·)->∀l,H l=Ă->Q (.ref l) (bz H l (.lst (n.map V.int)))
theorem wN:b8 X (.builtin "sorted") (vI X.K):=by
 intro p s t H x v Q I r h;obtain⟨a,S,rfl,g,L,q⟩:=h;obtain⟨u,rfl,U⟩:=dU r;cases U
 have core:∀(T:Ī),T = "list" \/ T = "tuple" -> ∀(i:List ā) (o:ħ) (n:ă),s.heap.get? a=Ā o->o.cls=.type T->o.data=.seq i.toArray n->aX (S.map V.int) i->Ċ 1e2 X.A (call (.builtin "sorted") [.ref a]) (EP X p t Q) X.xe s:=by
  intro T hT i o n c d f R;have hI:=f7 R;refine sy hT c d f hI (by rw[hI.length];exact L) λout N k j l=>?_;refine⟨.ref (s.heap.objs.size+1),bz H (s.heap.objs.size+1) (.lst (N.map V.int)),I.laid (λb O e=>pK e) (R6 _) ?_,rfl,q N j l _ (I.hok.fresh (R6 _))⟩;obtain⟨m,e⟩:=pL;refine⟨?_,out.toList,m,sm k,by simpa using e⟩;rw[Us,j.length_eq];exact RH (Sj L) 0e3
 rcases g with g|g
 ·obtain⟨i,R,⟨o,n,c,d,_,f⟩,Z⟩:=I.list g;exact core "list" (.inl rfl) i o n c d f R
 ·obtain⟨i,R,⟨o,c,d,n,f⟩,Z⟩:=I.tuple g;exact core "tuple" (.inr rfl) i o n c d f R
theorem pY{r:Ĉ}(I:0e4)(h:eQ X.K H r (k.map V.int)):Tk X.prog X.w 1e9 k r:=by
 obtain⟨S,R,⟨o,e,m,n,a⟩,_⟩:=I.tuple h;refine⟨o,S.toArray,n,e,m,a,?_⟩
 have core:∀(k:List Ć)(S:List ā),aX (k.map V.int) S->PySem.ItemsAre (E_ X.prog X.w) k S:=by
  intro k
  induction k with
  |nil=>intro S h;cases h;exact .nil
  |cons i r d=>
   intro S h;cases h with
   |cons b c=>
    obtain⟨t,rfl⟩:=b;exact .cons (by simp[E_,α4]) (d _ c)
 simp_all
noncomputable def fx(q:List KP):List V:=q.map λp=>V.ref p.2
theorem jt:∀{qs:List KP}{its:List ā},aX (fx qs) its->its=qs.map λp=>đ p.2
 |[],its,h=>by cases h;rfl
 |q::qs,its,h=>by
  cases h with
  |cons H c=>cases H;rw[jt c];rfl
theorem i4:∀(qs:List KP),aX (fx qs) (ba qs)
 |[]=>.nil
 |q::qs=>.cons rfl (i4 qs)
def AI(K:W.Frag)(w:ē):List V->Hp->VK->Prop:=λS H Q=>∃(a:Ĉ)(q:List KP),S=[.ref a]/\(dZ K H a (fx q)\/eQ K H a (fx q))/\(∀p∈q,p.1∈prs/\eQ K H p.2 (p.1.map V.int)) /\
 ∀l,H l=Ă->Q (.ref l) (bz H l (.ext λh=>eS w h l (dJ q)))
theorem zO (C:X.calm=ą) (U:3e8):b8 X (.type "set") (AI X.K X.w):=by
 intro P s y H α N Q I r h;refine aJ h λa S V c z q=>?_;subst V;obtain⟨u,rfl,x⟩:=dU r;cases x
 have n:∀(f:Ĕ)(T:ă),eS X.w f 0e0 (dJ S)->(∀b o,b<s.heap.objs.size->s.heap.get? b=Ā o->f.get? b=Ā o)->EP X P y Q (.ref 0e0) {s with heap:=f,toks:=T}:=by
  intro f T hS m;refine⟨.ref 0e0,bz H 0e0 (.ext λh=>eS X.w h 0e0 (dJ S)),I.laid (λb O e=>m b O (S0 e) e) (Rx _) ?_,rfl,q _ (I.hok.fresh (Rx _))⟩;refine⟨hS,?_,λμ M g k=>g.keeps k⟩;obtain⟨o,G,B,t,Z,l,_⟩:=hS;exact⟨o,l.ho⟩
 rcases c with c|c
 ·obtain⟨i,R,L,v⟩:=I.list c;exact u2 (I.ok.hd C) L.isList (by simpa using jt R) (λp d=>(z p d).1) (λp d=>pY I (z p d).2) (R8 (V5 (Vj _ _) _) U) n
 ·obtain⟨i,R,L,v⟩:=I.tuple c;exact sC (I.ok.hd C) L (by simpa using jt R) (λp d=>(z p d).1) (λp d=>pY I (z p d).2) 0e1 n
def vH(K:W.Frag)(w:ē):List V->Hp->VK->Prop:=λS H Q=>∃(a:Ĉ)(ps:List KP),S=[.ref a]/\H a=Ā (.ext λh=>eS w h a ps)/\(∀p∈ps,eQ K H p.2 (p.1.map V.int)) /\
 ∀out:List KP,out.Perm ps->vY out->∀l,H l=Ă->Q (.ref l) (bz H l (.lst (fx out)))
end
noncomputable def ax(k:List Ć):D:=.tup (k.map D.int)
noncomputable def yS:D->Option (List Ć)
 |.tup [.int a,.int b]=>if 0<=a/\a<b/\b<6 then Ā [a,b] else Ă
 |_=>Ă
def mj:List D->Option 0e2
 |[]=>Ā []
 |d::r=>match yS d,mj r with
  |some k,Ā s=>Ā (k::s)
  |_,_=>Ă
theorem FY(h:yS d=Ā k):d=ax k/\k∈prs:=by
 unfold yS at h;split at h
 ·split at h
  ·rename_i C;cases h;exact⟨rfl,rG C.1 C.2.1 C.2.2⟩
  ·cases h
 ·cases h
theorem zx{a b:Ć}(h:0<=a/\a<b/\b<6):yS (.tup [.int a,.int b])=Ā [a,b]:=by
 simp[yS,RC h]
theorem ux:∀{ds:List D}{ks:0e2},mj ds=Ā ks->ds=ks.map ax/\∀k∈ks,k∈prs
 |[],ks,h=>by cases h;simp
 |d::r,ks,h=>by
  unfold mj at h;split at h
  ·rename_i k b H c;cases h;obtain⟨E,m⟩:=FY H;obtain⟨q,O⟩:=ux c;refine⟨by rw[E,q];rfl,λa K=>?_⟩;rcases Td.mp K with z|z
   ·rw[z];exact m
   ·exact O a z
  ·cases h
theorem nZ:∀{ks:0e2},(∀k∈ks,k∈prs)->mj 1e5=Ā ks
 |[],_=>rfl
 |k::ks,h=>by
  refine aJ (dX (h k Ta)) λa b G H c d=>?_;subst G;simp[SH,mj,nZ λe K=>h e (Tb _ K)];have:yS (ax [a,b])=Ā [a,b]:=zx ⟨H,c,d⟩;rw[this]
noncomputable def Ax(ks:0e2)(k:List Ć):List (List Ć):=if k∈ks then ks else ks++[k]
def dG(ks:0e2):List (List Ć):=ks.foldl Ax []
def fH(ks:0e2):List (List Ć):=prs.filter λk=>decide (k∈ks)
theorem oH:∀(qs ps:List KP),(qs.foldl (λps p=>kl ps p.1 p.2) ps).map 4e2=(qs.map 4e2).foldl Ax (ps.map 4e2)
 |[],ps=>rfl
 |q::qs,ps=>by
  rw[SI,SH,SI,oH qs];unfold kl Ax;split <;> simp
theorem zL(q:List KP):(dJ q).map 4e2=dG (q.map 4e2):=oH q []
theorem zK:k∈dG ks↔k∈ks:=by
 have core:∀(ks a:0e2),k∈ks.foldl Ax a↔k∈a\/k∈ks:=by
  intro ks
  induction ks with
  |nil=>intro a;simp
  |cons x r i=>
   intro a;rw[SI,i];unfold Ax;split
   ·rename_i d;constructor
    ·rintro (h | h)
     ·exact .inl h
     ·exact .inr (Tb _ h)
    ·rintro (h | h)
     ·exact .inl h
     ·rcases Td.mp h with z | z
      ·exact .inl (by rw[z];exact d)
      ·exact .inr z
   ·simp[or_assoc]
 simp_all[dG]
theorem eY:prs.Pairwise λa b=>oX a<oX b:=by decide +kernel
theorem Dc{m:0e2}(L:l.Pairwise λa b=>oX a<oX b)(H:m.Pairwise λa b=>oX a<oX b)(h:∀k,k∈l↔k∈m):l=m:=by
 refine((SV (L.imp λh e=>by subst e;lia) (H.imp λh e=>by subst e;lia)).mpr h).eq_of_pairwise (λa b _ _ c d=>by lia) L H
theorem Cf{out:List KP}{ps:List KP}(K:∀p∈ps,p.1∈prs)(d:out.Perm ps)(r:vY out):out.map 4e2=fH (ps.map 4e2):=by
 refine Dc ?_ (eY.filter _) λk=>?_
 ·unfold vY at r;rw[SW];exact r
 ·have H : k ∈ out.map 4e2 ↔ k ∈ ps.map 4e2 := (d.map _).mem_iff;rw[H];unfold fH;rw[S8,SG];constructor
  ·intro h;refine⟨?_,h⟩;obtain⟨p,n,rfl⟩:=SY.mp h;exact K p n
  ·exact λh=>h.2
theorem mu(ks:0e2):fH (dG ks)=fH ks:=by
 simp[fH,zK]
theorem Reps.keys{K:W.Frag}{H:Hp}{Y:List Ĉ}:∀{ks:0e2}{vs:List V},Reps K H Y 1e5 vs->∃qs:List KP,qs.map 4e2=ks/\vs=fx qs/\∀p∈qs,eQ K H p.2 (p.1.map V.int)
 |[],vs,h=>by simp at h;exact⟨[],rfl,h,λp d=>by simp at d⟩
 |k::ks,vs,h=>by
  refine aU h λv r G b c=>?_;subst G;refine aU (aH.mp b) λa U g e f=>?_;subst g;refine bo (Reps.keys c) λqs E m o=>?_;refine⟨(k,a)::qs,by rw[SH,E],by rw[m];rfl,λp d=>?_⟩;rcases Td.mp d with z|z
  ·subst z;rw[<- f.ints];exact e
  ·exact o p z
theorem mD{K:W.Frag}{H:Hp}{Y:List Ĉ}:∀{qs:List KP},(∀p∈qs,eQ K H p.2 (p.1.map V.int))->Reps K H Y ((qs.map 4e2).map ax) (fx qs)
 |[],_=>Reps.nil
 |q::qs,h=>by
  refine Reps.cons (aH.mpr ⟨q.2,_,rfl,h q Ta,fB _⟩) (mD λp d=>h p (Tb _ d))
noncomputable def fX:List D->Option (List Ć)
 |[]=>Ā []
 |.int i::r=>(fX r).map (i::·)
 |_::_=>Ă
theorem di:∀{ds:List D}{ns:List Ć},fX ds=Ā ns->ds=ns.map D.int
 |[],bs,h=>by cases h;rfl
 |.int b::r,bs,h=>by
  unfold fX at h;cases e:fX r with
  |none=>rw[e]at h;cases h
  |some c=>rw[e]at h;cases h;rw[di e];rfl
 |.non::r,bs,h=>by cases h
 |.bl _::r,bs,h=>by cases h
 |.str _::r,bs,h=>by cases h
 |.tup _::r,bs,h=>by cases h
 |.frz _::r,bs,h=>by cases h
 |.obj _::r,bs,h=>by cases h
def pZ(xs:List D)(J:az):aj D:=match mj xs with
 |some k=>.ok 1e3 (J++[.set (dG k)])
 |none=>.bad
def pf(ds:List D)(J:az):aj D:=match ds with
 |[.tup S]=>pZ S J
 |[.obj n]=>match J[n]? with
  |some (.lst S)=>pZ S J
  |_=>.bad
 |_=>.bad
section
theorem FM{Q:VK}(S:(p.S H Y J))(a:∀k∈ks,k∈prs)(r:p.Rs H Y 1e5 vs)(P:aD p H Y (.ok 1e3 (J++[.set (dG ks)])) (RV p Q)):
  ∃qs:List KP,vs=fx qs/\(∀q∈qs,q.1∈prs/\eQ p.K H q.2 (q.1.map V.int))/\∀l,H l=Ă->Q (.ref l) (bz H l (.ext λh=>eS p.w h l (dJ qs))):=by
 obtain⟨qs,E,m,o⟩:=r.keys;refine⟨qs,m,λq z=>⟨a _ (by rw[<- E];exact Vi z),o q z⟩,λl L=>?_⟩;have B:p.X H (bz H l (.ext λh=>eS p.w h l (dJ qs))) Y (Y++[l]):=(bB L).trans (gM [l]);refine P _ _ B (S.more L ⟨dJ qs,by rw[zL,E],aV,λq z=>?_,sI,λq z=>?_⟩) _ (aI.mpr ⟨l,rfl,by rw[<- S.len];simp⟩)
 ·exact a _ (by rw[<- E];exact Vi (j6 z))
 ·exact B.tup _ _ (o q (j6 z))
theorem A9{us:List V}{Q:VK}(S:(p.S H Y J))(h:dZ p.K H a us\/eQ p.K H a us)(R:p.Rs H Y xs us)(P:aD p H Y (pZ xs J) (RV p Q)):AI p.K p.w [.ref a] H Q:=by
 unfold pZ at P;split at P
 ·rename_i k m;obtain⟨q,O⟩:=ux m;rw[q]at R;refine bo (FM S O R P) λs E e o=>?_;exact⟨a,s,rfl,by rw[<- E];exact h,e,o⟩
 ·exact P.elim
theorem JH:sN p pf (AI p.K p.w):=by
 intro s y H c e Q S r P;unfold pf at P;split at P
 ·rename_i x;obtain⟨v,rfl,R⟩:=r.one;refine aU (aH.mp R) λa U V h b=>?_;subst V;exact A9 S (.inr h) b P
 ·rename_i n;split at P
  ·rename_i x d;obtain⟨v,rfl,R⟩:=r.one;refine aJ (bS S R d) λa U μ f h b=>?_;subst μ;exact A9 S (.inl (dZ.of h)) b P
  ·exact P.elim
 ·exact P.elim
noncomputable def nA(ns:List Ć):List Ć:=ns.mergeSort λa b=>decide (a<=b)
theorem t4{ns':List Ć}(P:ns'.Perm ns)(hs:ns'.Pairwise (·<=·)):ns'=nA ns:=by
 have H:(nA ns).Perm ns:=List.mergeSort_perm ns _
 have d:(nA ns).Pairwise (·<=·):=by
  have:=List.pairwise_mergeSort (le:=λ(a b:Ć)=>decide (a<=b)) (λa b c H d=>by simp at *;exact V6 H d) (λa b=>by simp;lia) ns;exact this.imp λh=>by simpa using h
 exact(P.trans H.symm).eq_of_pairwise (λa b _ _ H d=>V7 H d) hs d
def gB(ds:List D)(J:az):aj D:=match ds with
 |[.tup S]=>match fX S with
  |some j=>if j.length<64 then .ok 1e3 (J++[.lst ((nA j).map D.int)]) else .bad
  |none=>.bad
 |[.obj n]=>match J[n]? with
  |some (.lst S)=>match fX S with
   |some j=>if j.length<64 then .ok 1e3 (J++[.lst ((nA j).map D.int)]) else .bad
   |none=>.bad
  |some (.set k)=>.ok 1e3 (J++[.lst ((fH k).map ax)])
  |_=>.bad
 |_=>.bad
theorem lT:sN p gB (λxs H Q=>vI p.K xs H Q\/vH p.K p.w xs H Q):=by
 intro α F H k m Q S r P
 have f:∀{j:List Ć},aD p H k (.ok (.obj m.length) (m++[.lst ((nA j).map D.int)])) (RV p Q)->∀N:List Ć,N.Perm j->N.Pairwise (·<=·)->∀l,H l=Ă->Q (.ref l) (bz H l (.lst (N.map V.int))):=by
  intro j P N b u l L;rw[<- t4 b u]at P;refine gF (cZ S L (fB N)) λB G i=>?_;exact P _ _ B G _ i
 unfold gB at P;split at P
 ·rename_i xs;split at P
  ·rename_i j h;split at P
   ·rename_i L;refine bb r.one λv y c=>?_;subst y;refine aU (aH.mp c) λa U C b R=>?_;subst C;rw[di h]at R;exact .inl ⟨a,j,rfl,.inr (by rw[<- R.ints];exact b),L,f P⟩
   ·exact P.elim
  ·exact P.elim
 ·rename_i n;split at P
  ·rename_i xs d;split at P
   ·rename_i j h;split at P
    ·rename_i L;refine bb r.one λv I c=>?_;subst I;refine aJ (bS S c d) λa U μ T b R=>?_;subst μ;rw[di h]at R;exact .inl ⟨a,j,rfl,.inl (by rw[<- R.ints];exact dZ.of b),L,f P⟩
    ·exact P.elim
   ·exact P.elim
  ·rename_i O d;obtain⟨v,rfl,c⟩:=r.one;obtain⟨a,A,ps,o,s,t,Z,e⟩:=S.at d;obtain⟨M,rfl,E⟩:=aI.mp c;rw[A]at E;cases E;refine .inr ⟨a,ps,rfl,s,e,λout g x l L=>?_⟩;have R:p.Rs H k ((out.map 4e2).map ax) (fx out):=mD λq z=>e q (g.mem_iff.mp z);rw[Cf t g x,o]at R;refine gF (cZ S L R) λB G i=>?_;exact P _ _ B G _ i
  ·exact P.elim
 ·exact P.elim
def eU(ds:List D)(J:az):aj D:=xl ds J
theorem JK:sN p eU (λxs H Q=>∃x n,xs=[x]/\HC p.K x H n/\Q (.int n) H):=FI
end
section
variable{X:Cx}
def GR(K:W.Frag):List V->Hp->VK->Prop:=λS H Q=>∃(a:Ĉ)(n:List Ć),S=[.ref a]/\(dZ K H a (n.map V.int)\/eQ K H a (n.map V.int))/\n≠[]/\∀m∈n,(∀j∈n,m<=j)->Q (.int m) H
def GS(K:W.Frag):List V->Hp->VK->Prop:=λS H Q=>∃(a:Ĉ)(n:List Ć),S=[.ref a]/\(dZ K H a (n.map V.int)\/eQ K H a (n.map V.int))/\n≠[]/\∀m∈n,(∀j∈n,j<=m)->Q (.int m) H
theorem jm(h:Ŗ its ns){v:ā}(e:its.toArray[i]?=Ā v):∃t,v=.int (ns.getD i 0) t/\i<ns.length:=by
 obtain⟨n,t,rfl,H⟩:=h.at i v (by simpa using e);exact⟨t,by rw[SQ,H];rfl,((Se.mp H).1)⟩
theorem uH(h:i<ns.length):ns.getD i 0∈ns:=by
 simp_all
theorem uu{j:Ć}(h:j∈ns):∃i,i<ns.length/\ns.getD i 0=j:=by
 obtain⟨i,I,e⟩:=VU h;exact⟨i,I,by simp_all⟩
theorem zR (C:X.calm=ą):b8 X (.builtin "min") (GR X.K):=by
 intro P s σ H xs us Q I r h;refine aJ h λa N W k E q=>?_;subst W;obtain⟨u,rfl,D⟩:=dU r;cases D;have f:=V8.mpr E
 have core:∀(S:List ā)(o:ħ),Ŗ S N->∀v c,S.toArray[œ (λi j=>decide (N.getD i 0<N.getD j 0)) (S.toArray.size-1)]?=Ā v->Zk [0e0] (λa b=>b=a) {s with heap:=s.heap.push o} c->EP X P σ Q v c:=by
  intro S o hI v c V m;refine bb (jm hI V) λt F y=>?_;subst F;have z:S.toArray.size-1=N.length-1:=by rw[SJ,hI.length]
  rw[z]at y⊢;obtain⟨b1,b2⟩:=argBest_lt (λi=>N.getD i 0) (N.length-1);obtain⟨hh,g,d,tk,os⟩:=c;have G:=m.gens;have μ:=m.drawn;have M:=m.os;subst G μ M;refine⟨.int _,H,I.fresh_it λb O B e=>m.heap b O B e,⟨t,rfl⟩,q _ (uH y) λj α=>?_⟩;refine bb (uu α) λi l v6=>?_;subst v6;exact b2 i (RO (RP l))
 have cmp:∀(S:List ā),Ŗ S N->CmpOf X.prog X.w X.A.in1 .Lt (λi v=>S.toArray[i]?=Ā v) (λi j=>decide (N.getD i 0<N.getD j 0)):=by
  intro S hI i j vi vj c Q' E' T U hQ;obtain⟨t1,rfl,_⟩:=jm hI T;obtain⟨t2,rfl,_⟩:=jm hI U;exact(ë hQ:Ċ _ _ (Ĭ .Lt _ _) _ _ _)
 rcases k with k|k
 ·obtain ⟨S, R, L, Z⟩ := I.list k;have hI:=f7 R
  have E:a≠s.heap.objs.size:=by
   refine bZ L λo n e _=>?_;exact Sn (S0 e)
  refine YF (Vs L.isList ?_);refine⟨0e0,[0e0,a],[0e0],_,_,_,_,_,rfl,(Vu (A:=X.A.in1) (I.ok.hd C) _ a E S.toArray).toS,⟨⟨_,SZ _ rfl,rfl,rfl⟩,L.isList.at λo e=>Tr _ e⟩,λb B=>?_,by simp[hI.length,f],cmp S hI,λv c V m=>core S _ hI v c V m⟩;refine bZ L λo n e _=>?_;have:=S0 e;simp[Td,UN]at B;rw[VE]
  lia
 ·obtain ⟨S, R, L, Z⟩ := I.tuple k;have hI:=f7 R
  have E:a≠s.heap.objs.size:=by
   refine bb L λo e _=>?_;exact Sn (S0 e)
  refine YF (UL L ?_);refine⟨0e0,[0e0,a],[0e0],_,_,_,_,_,rfl,(XQ (A:=X.A.in1) (I.ok.hd C) _ a E S.toArray).toS,⟨⟨_,SZ _ rfl,rfl,rfl⟩,(show s.heap.IsTuple a S.toArray from L).at λo e=>Tr _ e⟩,λb B=>?_,by simp[hI.length,f],cmp S hI,λv c V m=>core S _ hI v c V m⟩;obtain⟨o,e,_⟩:=L;have:=S0 e;simp[Td,UN]at B;rw[VE]
  lia
theorem zT (C:X.calm=ą):b8 X (.builtin "max") (GS X.K):=by
 intro P s σ H xs us Q I r h;refine aJ h λa N W k E q=>?_;subst W;obtain⟨u,rfl,D⟩:=dU r;cases D;have f:=V8.mpr E
 have core:∀(S:List ā)(o:ħ),Ŗ S N->∀v c,S.toArray[œ (λi j=>decide (N.getD i 0>N.getD j 0)) (S.toArray.size-1)]?=Ā v->Zk [0e0] (λa b=>b=a) {s with heap:=s.heap.push o} c->EP X P σ Q v c:=by
  intro S o hI v c V m;refine bb (jm hI V) λt F x=>?_;subst F;have z:S.toArray.size-1=N.length-1:=by rw[SJ,hI.length]
  rw[z]at x⊢;obtain⟨b1,b2⟩:=argBest_gt (λi=>N.getD i 0) (N.length-1);obtain⟨hh,g,d,tk,os⟩:=c;have y:=m.gens;have G:=m.drawn;have μ:=m.os;subst y G μ;refine⟨.int _,H,I.fresh_it λb O B e=>m.heap b O B e,⟨t,rfl⟩,q _ (uH x) λj α=>?_⟩;refine bb (uu α) λi U v10=>?_;subst v10;exact b2 i 0e1
 have cmp:∀(S:List ā),Ŗ S N->CmpOf X.prog X.w X.A.in1 .Gt (λi v=>S.toArray[i]?=Ā v) (λi j=>decide (N.getD i 0>N.getD j 0)):=by
  intro S hI i j vi vj c Q' E' M T hQ;obtain⟨t1,rfl,_⟩:=jm hI M;obtain⟨t2,rfl,_⟩:=jm hI T;exact(ì hQ:Ċ _ _ (Ĭ .Gt _ _) _ _ _)
 rcases k with k|k
 ·obtain ⟨S, R, L, Z⟩ := I.list k;have hI:=f7 R
  have E:a≠s.heap.objs.size:=by
   refine bZ L λo n e _=>?_;exact Sn (S0 e)
  refine YG (Vs L.isList ?_);refine⟨0e0,[0e0,a],[0e0],_,_,_,_,_,rfl,(Vu (A:=X.A.in1) (I.ok.hd C) _ a E S.toArray).toS,⟨⟨_,SZ _ rfl,rfl,rfl⟩,L.isList.at λo e=>Tr _ e⟩,λb B=>?_,by simp[hI.length,f],cmp S hI,λv c V m=>core S _ hI v c V m⟩;refine bZ L λo n e _=>?_;have:=S0 e;simp[Td,UN,UO]at B;rw[VE]
  lia
 ·obtain ⟨S, R, L, Z⟩ := I.tuple k;have hI:=f7 R
  have E:a≠s.heap.objs.size:=by
   refine bb L λo e _=>?_;exact Sn (S0 e)
  refine YG (UL L ?_);refine⟨0e0,[0e0,a],[0e0],_,_,_,_,_,rfl,(XQ (A:=X.A.in1) (I.ok.hd C) _ a E S.toArray).toS,⟨⟨_,SZ _ rfl,rfl,rfl⟩,(show s.heap.IsTuple a S.toArray from L).at λo e=>Tr _ e⟩,λb B=>?_,by simp[hI.length,f],cmp S hI,λv c V m=>core S _ hI v c V m⟩;obtain⟨o,e,_⟩:=L;have:=S0 e;simp[Td,UN,UO]at B;rw[VE]
  lia
end
noncomputable def LN:List Ć->Ć
 |[]=>0
 |x::r=>r.foldl min x
noncomputable def Hs:List Ć->Ć
 |[]=>0
 |x::r=>r.foldl max x
theorem zH(r:List Ć):∀x:Ć,(r.foldl min x=x\/r.foldl min x∈r)/\r.foldl min x<=x/\∀j∈r,r.foldl min x<=j:=by
 induction r with
 |nil=>simp
 |cons y r i=>
  intro x;refine gF (i (min x y)) λH c d=>?_
  grind [Ć.min_le_right,List.mem_cons_self,List.mem_cons_of_mem]
theorem jw(r:List Ć):∀x:Ć,(r.foldl max x=x\/r.foldl max x∈r)/\x<=r.foldl max x/\∀j∈r,j<=r.foldl max x:=by
 induction r with
 |nil=>simp
 |cons y r i=>
  intro x;refine gF (i (max x y)) λH c d=>?_
  grind [Ć.le_max_right,List.mem_cons_self,List.mem_cons_of_mem]
theorem FR{m:Ć}(h:m∈ns)(H:∀j∈ns,m<=j):m=LN ns:=by
 cases ns with
 |nil=>simp at h
 |cons x r=>
  obtain⟨a,c,d⟩:=zH r x
  have f:m<=r.foldl min x:=by
   rcases a with e|e
   ·rw[e];exact H x Ta
   ·exact H _ (Tb _ e)
  have k:r.foldl min x<=m:=by
   rcases Td.mp h with e|e
   ·rw[e];exact c
   ·exact d m e
  exact V7 f k
theorem FU{m:Ć}(h:m∈ns)(H:∀j∈ns,j<=m):m=Hs ns:=by
 cases ns with
 |nil=>simp at h
 |cons x r=>
  obtain⟨a,c,d⟩:=jw r x
  have f:r.foldl max x<=m:=by
   rcases a with e|e
   ·rw[e];exact H x Ta
   ·exact H _ (Tb _ e)
  have k:m<=r.foldl max x:=by
   rcases Td.mp h with e|e
   ·rw[e];exact c
   ·exact d m e
  exact V7 k f
def Ap(d:D)(J:az):Option (List Ć):=match d with
 |.tup S=>fX S
 |.frz S=>fX S
 |.obj n=>match J[n]? with
  |some (.lst S)=>fX S
  |_=>Ă
 |_=>Ă
theorem xQ(S:(p.S H Y J))(r:p.R H Y d v)(h:Ap d J=Ā ns):∃a,v=.ref a/\(dZ p.K H a (ns.map V.int)\/eQ p.K H a (ns.map V.int)):=by
 unfold Ap at h;split at h
 ·obtain⟨a,U,rfl,c,b⟩:=aH.mp r;rw[di h]at b;exact⟨a,rfl,.inr (by rw[<- b.ints];exact c)⟩
 ·obtain⟨a,U,rfl,c,b⟩:=bh.mp r;rw[di h]at b;exact⟨a,rfl,.inl (by rw[<- b.ints];exact c.sq)⟩
 ·split at h
  ·rename_i s x;refine aJ (bS S r x) λa U v11 f c b=>?_;subst v11;rw[di h]at b;exact⟨a,rfl,.inl (by rw[<- b.ints];exact dZ.of c)⟩
  ·cases h
 ·cases h
def yU(ds:List D)(J:az):aj D:=match ds with
 |[d]=>match Ap d J with
  |some (n::j)=>.ok (.int (LN (n::j))) J
  |_=>.bad
 |ds=>AU ds J
def lE(ds:List D)(J:az):aj D:=match ds with
 |[d]=>match Ap d J with
  |some (n::j)=>.ok (.int (Hs (n::j))) J
  |_=>.bad
 |ds=>AV ds J
theorem JI:sN p yU (λxs H Q=>GR p.K xs H Q\/∃i j,xs=[.int i,.int j]/\Q (.int (if j<i then j else i)) H):=by
 intro s y H c e Q S r P;unfold yU at P;split at P
 ·rename_i d;split at P
  ·rename_i n N h;refine bb r.one λv v13 R=>?_;subst v13;obtain⟨a,rfl,b⟩:=xQ S R h;refine .inl ⟨a,n::N,rfl,b,by simp,λm M μ=>?_⟩;rw[FR M μ];exact P.now S _ (ao.mpr rfl)
  ·exact P.elim
 ·exact .inr (FG s y H c e Q S r P)
theorem JJ:sN p lE (λxs H Q=>GS p.K xs H Q\/∃i j,xs=[.int i,.int j]/\Q (.int (if j>i then j else i)) H):=by
 intro s y H e f Q S r P;unfold lE at P;split at P
 ·rename_i d;split at P
  ·rename_i n N h;refine bb r.one λv V R=>?_;subst V;refine bb (xQ S R h) λa c b=>?_;subst c;refine .inl ⟨a,n::N,rfl,b,by simp,λm M μ=>?_⟩;rw[FU M μ];exact P.now S _ (ao.mpr rfl)
  ·exact P.elim
 ·exact .inr (FH s y H e f Q S r P)
theorem om:∀{xs:List V}{us:List ā},xs.length=us.length->(∀(i:ă) x u,xs[i]?=Ā x->us[i]?=Ā u->bA x u)->aX xs us
 |[],[],_,_=>.nil
 |[],_::_,h,_=>by simp at h
 |_::_,[],h,_=>by simp at h
 |x::xs,u::us,h,k=>.cons (k 0 x u rfl rfl) (om (by simpa using h) λi a d H c=>k (i+1) a d (by simpa using H) (by simpa using c))
section
variable{X:Cx}
def MJ(t:TA):TE:=λa H Q=>t a H λy b=>∃j:Ć,y=[.int j]/\∀r,b r=Ă->Q (.ref r) (bz b r (.rng 0 j))
theorem zi{a:Expr}{ta:TA}{p:Ľ}(N:Gl X "range")(m:(X.mg "range" = Ă))(A:PA X [a] ta)(hs:(ĉ [a] 1e4=[(ć,eval a 1e4)])):PE X (.Call (.Name "range" p) [a] [] pos) (MJ ta):=by
 intro P s i H Q I h;refine Zm (iP I N m X6 (Ts (cB (A pos P s i H _ I h) λU S=>bD λy c d R f=>?_) hs rfl));refine bb f λj e q=>?_;subst e;cases R with
 |cons r g=>
  cases g;obtain⟨t,rfl⟩:=r;refine Yy ?_;refine⟨.ref S.heap.objs.size,bz c S.heap.objs.size (.rng 0 j),d.laid (λb O e=>Tr _ e) (Rx _) ⟨_,_,_,SZ _ rfl⟩,rfl,q _ (d.hok.fresh (Rx _))⟩
def IX:List V->Hp->VK->Prop:=λS H Q=>∃(r:Ĉ)(j:Ć),S=[.ref r]/\H r=Ā (.rng 0 j)/\-(2^62)<=j/\j<=2^20/\∀l,H l=Ă->Q (.ref l) (bz H l (.lst ((List.range j.toNat).map λ(i:ă)=>V.int (i:Ć))))
theorem wQ (d:X.calm=ą):b8 X (.type "list") IX:=by
 intro P s G H B S Q I r h;refine fe h λR j y A o μ q=>?_;subst y;obtain⟨u,rfl,U⟩:=dU r;cases U;obtain⟨t,u,v,g⟩:=show dC X.prog X.w H 1e9 R (.rng 0 j) from I.hok R _ A;have N:Builtin.Range.rangeSize 0 j 1=((j.toNat:ă):Ć):=by rw[YS];split <;> lia
 refine call_list_range (n:=j.toNat) (I.ok.hd d) g (small_one 1e1 1e1 (o) 0e1) N 0e1 λz K acc' C k L T=>?_
 have l:aX ((List.range j.toNat).map λ(i:ă)=>V.int (i:Ć)) acc'.toList:=by
  obtain⟨E,m⟩:=T;refine om (by simp[E]) λi x u a c=>?_;rw[SS]at a
  have f:i<j.toNat:=by
   have:=(Se.mp c).1;simp[E]at this
   lia
  rw[V0 f]at a;cases a;obtain⟨t,rfl⟩:=m i u (by simpa using c);exact⟨t,by simp⟩
 refine⟨.ref 0e0,bz H 0e0 (.lst ((List.range j.toNat).map λ(i:ă)=>V.int (i:Ć))),I.laid (λb O e=>k b O e) (Rx _) ⟨?_,acc'.toList,C,l,by simpa using L⟩,rfl,q _ (I.hok.fresh (Rx _))⟩
 grind [PySem.sizeLine_eq]
end
section
variable{X:Cx}{a b c d:Expr}{tb tc td:TE}{fb fc fd:ME}{op' op'':Ő}{r r' r'':R2}{o1 o2 o3:(D->D->az->aj D)}
def yO(d:D)(J:az):aj ċ:=match d with
 |.non=>.ok ć J
 |.bl b=>.ok b J
 |.int i=>.ok (i != 0) J
 |.str x=>if x.length<=sizeLine then .ok ((x.length:Ć) != 0) J else .bad
 |.tup S=>.ok (!S.isEmpty) J
 |.frz S=>.ok (!S.isEmpty) J
 |.obj n=>match J[n]? with
  |some (.lst S)=>.ok (!S.isEmpty) J
  |_=>.bad
def gp(f:ME):MT:=λg e=>(f g e).bind yO
theorem Reps.isEmpty(r:Reps K H Y xs vs):vs.isEmpty=xs.isEmpty:=by
 have:=r.length;cases xs with
 |nil=>have h:=V9 (by simpa using this);rw[h];rfl
 |cons x r=>cases vs with
  |nil=>simp at this
  |cons _ _=>rfl
theorem Ec{d:D}{R:ċ->az->Hp->List Ĉ->Prop}(S:(p.S H Y J))(r:p.R H Y d v)(P:aD p H Y (yO d J) R):∃k,HA p.K v H k/\R k J H Y:=by
 unfold yO at P;split at P
 ·rw[bp.mp r];exact⟨ć,rfl,P.now S⟩
 ·rename_i b;rw[aP.mp r];exact⟨b,rfl,P.now S⟩
 ·rename_i i;rw[ao.mp r];exact⟨_,rfl,P.now S⟩
 ·rename_i x;split at P
  ·rename_i L;rw[a7.mp r];exact⟨_,⟨L,rfl⟩,P.now S⟩
  ·exact P.elim
 ·obtain⟨a,y,rfl,h,e⟩:=aH.mp r;exact⟨_,.inr (.inl ⟨y,h,by rw[e.isEmpty]⟩),P.now S⟩
 ·obtain⟨a,y,rfl,h,e⟩:=bh.mp r;exact⟨_,.inl ⟨y,h.sq,by rw[e.isEmpty]⟩,P.now S⟩
 ·split at P
  ·rename_i s f;refine aJ (bS S r f) λa U z A h g=>?_;subst z;exact⟨_,.inl ⟨U,dZ.of h,by rw[g.isEmpty]⟩,P.now S⟩
  ·exact P.elim
theorem B2{f:ME}(hK:X.K=p.K)(h:PE X e (tD p f))(n:∀whole,isTrue e 1e4 whole=(do let v <- whole;æ e.pos;holding [v] (ZK v))):PT X e (ma p (gp f)):=
 (CA h n).weak λt H Q => aR λj o l S R P => ⟨j, o, l, S, R, (aD.bind P).imp λd m q k s i g v V => by
  rw[hK];exact Ec i V g⟩
def jY(ds:List D)(J:az):aj D:=match ds with
 |[.int j]=>if -(2^62)<=j/\j<=2^20 then .ok 1e3 (J++[.lst (bc 0 j.toNat)]) else .bad
 |_=>.bad
theorem Cz(n:ă):Reps K H Y (bc 0 n) ((List.range n).map λ(i:ă)=>V.int (i:Ć)):=by
 have:bc 0 n=((List.range n).map λ(i:ă)=>((i:ă):Ć)).map D.int:=by
  unfold bc;rw[UR];apply US;intro i _;simp
 rw[this];have h:((List.range n).map λ(i:ă)=>V.int (i:Ć))=((List.range n).map λ(i:ă)=>((i:ă):Ć)).map V.int:=by rw[UR];rfl
 grind [fB]
theorem Cq{pl pr p1:Ľ}(C:X.calm=ą)(N:Gl X "range")(M:(X.mg "range" = Ă))(L:Gl X "list")(e:X.mg "list" = Ă)(A:PA X [a] (wX p fr))(hs:(ĉ [a] 1e4=[(ć,eval a 1e4)])):
  PE X (.Call (.Name "list" pl) [.Call (.Name "range" pr) [a] [] p1] [] pos) (tD p (aA jY fr)):=by
 refine(qt (T:="list") (wQ C) L e boot_list (fM (zi N M A hs) lJ rfl) 0e3 0e3 rfl rfl).weak λI H Q=>aR λt w u S R P=>⟨t,w,u,S,R,(aD.bind P).imp λD g m i y n h E V=>?_⟩;unfold jY at h;split at h
 ·rename_i j;obtain⟨v,rfl,s⟩:=V.one;split at h
  ·rename_i μ;refine⟨j,by rw[ao.mp s],λk f=>?_⟩;refine⟨k,j,rfl,aV,μ.1,μ.2,λl q=>?_⟩;have o:p.S (bz m k (.rng 0 j)) i g:=n.same (bB f) λa A=>aN λz=>A (by rw[z];exact f);refine gF (cZ o q (Cz j.toNat)) λB G x=>?_;exact h _ _ ((bB f).trans B) G _ x
  ·exact h.elim
 ·exact h.elim
def Ld(p:Pa)(f:D->List D->az->aj D)(r:(V->List V->Hp->VK->Prop)):Prop:=∀d s v y H h e Q,p.S H h e->p.R H h d v->p.Rs H h s y->aD p H h (f d s e) (RV p Q)->r v y H Q
noncomputable def pU(d:D)(J:az):ċ:=match d with
 |.obj n=>match J[n]? with
  |some (.lst _)=>ą
  |_=>ć
 |_=>ć
def oW(f:D->List D->az->aj D)(fo:ME)(G:MA):ME:=λh i=>(fo h i).bind λo e=>if pU o e=ą then (G h e).bind λs g=>f o s g else .bad
theorem Kg{d:D}(S:(p.S H Y J))(r:p.R H Y d v)(h:pU d J=ą):Oh p.K "list" v H:=by
 unfold pU at h;split at h
 ·split at h
  ·rename_i s x;refine aJ (bS S r x) λa U f A e g=>?_;subst f;exact .inl ⟨rfl,U,dZ.of e⟩
  ·cases h
 ·cases h
theorem xb{o:Expr}{es:4e1}{fo:ME}{name:ď}{id:Ī}{rr:(V->List V->Hp->VK->Prop)}{f:D->List D->az->aj D}(hK:X.K=p.K)(slot:Zr "list" name id)(y:(Ô (.builtin id)=pure (.type "method_descriptor")))(M:O2 X id rr)(B:Ld p f rr)(O:PE X o (tD p fo))(A:PA X (e::es) (wX p fr))(hbase:ĩ o name 1e4 (eval o 1e4)=eval o 1e4)(W : ((Ħ cpos (ĉ (e :: es) 1e4)).all (λx => !x.1) && (Š cpos (ō [] 1e4)).all (λx => x.1.isSome)
   && decide ((e::es).length+([]:List ŋ).length+(if ([]:List ŋ).isEmpty then 0 else 1)<30))=ą)(hline:(apos.endLine == cpos.line)=ą)(hs:ĉ (e::es) 1e4=(ć,eval e 1e4)::ĉ es 1e4)(hplain:(Ħ cpos (ĉ es 1e4)).any 4e2=ć):
  PE X (.Call (.Attribute o name apos) (e::es) [] cpos) (tD p (oW f fo fr)):=
 (Nx PySem.F.plainAttrs_list slot y M O A hbase W hline hs hplain).weak λN H Q => aR λG n I S R P => ⟨G, n, I, S, R, (aD.bind P).imp λd g μ i u l h v m => by
  by_cases L:pU d g=ą
  ·rw[RC L]at h;rw[hK];exact⟨Kg l m L,i,n,g,l,R.mono u,(aD.bind h).imp λz k q j w t s E C=>B d z v E q j k Q t (m.mono w) C s⟩
  ·rw[RE L]at h;exact h.elim⟩
def lL(d:D)(ds:List D)(J:az):aj D:=match d,ds with
 |.obj n,[.int i]=>match J[n]? with
  |some (.lst S)=>match vk S.length i with
   |some k=>match S[k]? with
    |some y=>if -(2^63)<=i/\i<2^63 then .ok y (J.set n (.lst (S.eraseIdx k))) else .bad
    |none=>.bad
   |none=>.bad
  |_=>.bad
 |_,_=>.bad
theorem FO:Ld p lL Bf:=by
 intro d l v m H q t Q S D s P;unfold lL at P;split at P
 ·rename_i n i;split at P
  ·rename_i o x;split at P
   ·rename_i k K;split at P
    ·rename_i y α;split at P
     ·rename_i B;refine aJ (bS S D x) λa U j A h R=>?_;subst j;refine bb s.one λw V f=>?_;subst V;refine bb (R.get α) λz Z g=>?_;have e:=(rS K).1;exact⟨a,U,i,k,z,rfl,by rw[ao.mp f],h,B.1,B.2,by rw[R.length];exact e,Z,(P _ _ (fN h) (S.put x A h (R.eraseIdx k)) _ (g.mono (fN h)))⟩
     ·exact P.elim
    ·exact P.elim
   ·exact P.elim
  ·exact P.elim
 ·exact P.elim
def bI(d:D)(ds:List D)(J:az):aj D:=match d,ds with
 |.obj n,[y]=>match J[n]? with
  |some (.lst S)=>if S.length<sizeLine then .ok .non (J.set n (.lst (S++[y]))) else .bad
  |_=>.bad
 |_,_=>.bad
theorem FP:Ld p bI xW:=by
 intro d g v V H j k Q S D s P;unfold bI at P;split at P
 ·rename_i n y;split at P
  ·rename_i i x;split at P
   ·rename_i B;refine aJ (bS S D x) λa U G f h e=>?_;subst G;obtain⟨w,rfl,R⟩:=s.one;exact⟨a,U,w,rfl,rfl,h,by rw[e.length];exact B,P _ _ (fN h) (S.put x f h (e.snoc R)) _ (bp.mpr rfl)⟩
   ·exact P.elim
  ·exact P.elim
 ·exact P.elim
end
noncomputable abbrev ka(K:W.Frag)(w:ē):Pa:=⟨K,w,λ_ _ _ _=>ł⟩
abbrev gG:D->D->az->aj D:=dI λi j=>.int (i-j)
noncomputable abbrev qe:D->D->az->aj D:=DF LV λi j=>.int (i / j)
noncomputable abbrev ph:D->D->az->aj D:=DF (λ_ j=>0<j) λi j=>.int (i%j)
noncomputable abbrev Hv:D->D->az->aj D:=DF AA λi j=>.int (i^j.toNat)
def lM(N:List ď)(S scope:ĺ)(Nc:List ď)(cap:2e9):ċ:=
 (scope.kind == .function)&&scope.names.all (λy=>scope.names.lookup y.1 == Ā y.2) &&
 scope.names.all (λy=>y.2 != .free || S.names.lookup y.1 == Ā .cell || S.names.lookup y.1 == Ā .free)&&fJ N {scope:=S,globals:=0,builtins:=0,locals:=0,cells:=[],qual:="",func:=Ă,code:=.none,frame:=Ă} scope Nc cap
theorem lZ{N:List ď}{e1 e2:Ŋ}{scope:ĺ}:∀{Nc:List ď}{cap:2e9},fJ N e1 scope Nc cap=fJ N e2 scope Nc cap
 |[],[]=>rfl
 |_::_,[]=>rfl
 |[],_::_=>rfl
 |_::Nc,Ă::cap=>by unfold fJ;exact lZ
 |x::Nc,Ā j::cap=>by unfold fJ;rw[lZ]
theorem zM{X:Cx}{sc:ĺ}{cap:2e9}(hN:X.N=N)(K:∀x,(sc.names.lookup x=Ā .cell\/sc.names.lookup x=Ā .free)->X.env.kindOf x=Ā .cell\/X.env.kindOf x=Ā .free)(h:lM N sc scope Nc cap=ą):bQ X.N 1e4 scope Nc cap:=by
 unfold lM at h;simp only[SE]at h;obtain⟨⟨⟨H,i⟩,j⟩,k⟩:=h;refine⟨eq_of_beq H,λy α=>?_,λy α F=>?_,?_⟩
 ·exact eq_of_beq (SL.mp i y α)
 ·have := SL.mp j y α;simp only[Wa,F]at this;refine K _ ?_;rcases this with (z|z)|z
  ·exact absurd z 0e3
  ·exact .inl (eq_of_beq z)
  ·exact .inr (eq_of_beq z)
 ·rw[hN,lZ];exact k
theorem r9{X:Cx}{sc:ĺ}{cap:2e9}(hN:X.N=N)(hs:X.env.scope=sc)(h:lM N sc scope Nc cap=ą):bQ X.N 1e4 scope Nc cap:=
 zM hN (λx H=>by subst hs;exact H) h
structure BE(p:Pa)(X:Cx)(e:Expr)(f:ME):Prop where
 h:PE X e (tD p f)
structure BA(p:Pa)(X:Cx)(e:4e1)(f:MA):Prop where
 h:PA X e (wX p f)
structure BT(p:Pa)(X:Cx)(e:Expr)(f:MT):Prop where
 h:PT X e (ma p f)
structure BW(p:Pa)(X:Cx)(e:Expr)(f:MT):Prop where
 h:PW X e (ma p f)
structure Dy(p:Pa)(X:Cx)(e:4e1)(f:MT):Prop where
 h:vh X e (ma p f)
structure BS(p:Pa)(X:Cx)(e:ĝ)(f:MS):Prop where
 h:PS X e (me p f)
structure sZ(p:Pa)(X:Cx)(e:List ĝ)(f:MS):Prop where
 h:ly X e (me p f)
structure BG(p:Pa)(X:Cx)(e:Expr)(f:MG):Prop where
 h:PG X e (sU p f)
structure Lx(p:Pa)(X:Cx)(e:4e1)(f:Dw):Prop where
 h:Ab X e (An p f)
structure BI(p:Pa)(X:Cx)(t e:Expr)(f:MI):Prop where
 h:PI X t e (yH p f)
structure BO(p:Pa)(X:Cx)(e:Option Expr)(f:MO):Prop where
 h:PO X e (Lj p f)
structure Lg(p:Pa)(X:Cx)(e:Expr)(k:ă)(a:Ĉ)(f:MB):Prop where
 h:Ac X e k a (Dp p f a)
section
variable{X:Cx}{a b c d:Expr}{es:4e1}{fb fc fd f:ME}{ft gt:MT}
theorem QV(i:ă)(hN:(autoParam (X.N[i]?=Ā x) ATr))(V:Du X.env.scope x:=by first|exact Ð rfl|exact Ï (Ð rfl)|exact Ï (Ï rfl))(hd:1e0)(D:(autoParam ((x == ("__classdict__" : ď))=ć) ATs)):BE p X (.Name x pos) (ai i):=⟨IF (lI hN V hd D)⟩
theorem QY{i j}:BE p X (.Constant (.int i) j pos) (cC (.int i)):=⟨Aq Jp λ_ _=>ao.mpr rfl⟩
theorem QZ{i j}:BE p X (.Constant (.bool i) j pos) (cC (.bl i)):=⟨Aq Ny λ_ _=>aP.mpr rfl⟩
theorem QX{j}:BE p X (.Constant .none j pos) (cC .non):=⟨Aq Bk λ_ _=>bp.mpr rfl⟩
theorem QW{x j}:BE p X (.Constant (.str x) j pos) (cC (.str x)):=⟨Aq Jl λ_ _=>a7.mpr rfl⟩
theorem Ph{i:Ć}(h:∃t,X.mg x=Ā (.int i t))(N:(autoParam (Gl X x) ATr))(hd:1e0):BE p X (.Name x pos) (cC (.int i)):=.mk (by
 obtain⟨t,T⟩:=h
 exact Aq (rK (v:=.int i) N T ⟨t,rfl⟩ hd) λ_ _=>ao.mpr rfl)
theorem Mv(H:(BE p X a fa))(i:(BE p X b fb))(hK:0e9):BE p X (.BinOp a .Add b pos) (au cq fa fb):=⟨gD (hK ▸ FE) JT H.h i.h⟩
theorem Me(H:(BE p X a fa))(i:(BE p X b fb)):BE p X (.BinOp a .Sub b pos) (au gG fa fb):=⟨gD Jt (Hr λ_ _ _ _=>ao.mpr rfl) H.h i.h⟩
theorem Mm(H:(BE p X a fa))(i:(BE p X b fb)):BE p X (.BinOp a .Mult b pos) (au gH fa fb):=⟨gD Fy JP H.h i.h⟩
theorem HR(H:(BE p X a fa))(i:(BE p X b fb)):BE p X (.BinOp a .FloorDiv b pos) (au qe fa fb):=⟨gD Fz (tF λ_ _ _ _=>ao.mpr rfl) H.h i.h⟩
theorem Mn(H:(BE p X a fa))(i:(BE p X b fb)):BE p X (.BinOp a .Mod b pos) (au ph fa fb):=⟨gD JA (tF λ_ _ _ _=>ao.mpr rfl) H.h i.h⟩
theorem Mh(H:(BE p X a fa))(i:(BE p X b fb)):BE p X (.BinOp a .Pow b pos) (au Hv fa fb):=⟨gD Jx (tF λ_ _ _ _=>ao.mpr rfl) H.h i.h⟩
theorem Ml(H:(BE p X a fa)):BE p X (.UnaryOp .USub a pos) (iu qV fa):=⟨M6 HY JU H.h⟩
structure pq(X:Cx)(p:Pa)(op:Ő)(o:(D->D->az->aj D)):Prop where
 ex:∃r,iw X (Ĭ op) r/\sO p o r
theorem P0(U:3e8)(hK:0e9):pq X p .Eq (fW ć):=⟨Au p.K ć,hK ▸ JD U,G0⟩
theorem PY(U:3e8)(hK:0e9):pq X p .NotEq (fW ą):=⟨Au p.K ą,hK ▸ Jy U,G0⟩
theorem PZ(U:3e8)(hK:0e9):pq X p .In (w8 ć):=⟨As p.K ć,hK ▸ JC U,GZ⟩
theorem NJ(U:3e8)(hK:0e9):pq X p .NotIn (w8 ą):=⟨As p.K ą,hK ▸ zl U,GZ⟩
theorem NM:pq X p .Is (vz ć):=⟨_,JB,JR⟩
theorem Ka:pq X p .IsNot (vz ą):=⟨_,Fv,FK⟩
theorem NI(U:3e8)(O:autoParam (tG op=ą) ATr)(hK:0e9):pq X p op (fL op):=⟨AK p.K op,hK ▸ FA U O,JS⟩
variable{op' op'':Ő}{o' o'':(D->D->az->aj D)}
theorem Ms(k:pq X p op o)(H:(BE p X a fa))(i:(BE p X b fb))(m:autoParam (Ř op b=ć) ATr):BE p X (.Compare a [op] [b] pos) (au o fa fb):=.mk (let ⟨_,h1,h2⟩:=k.ex;IK h1 h2 H.h i.h m)
theorem MC(k:pq X p op o)(H:(BE p X a fa))(i:(BE p X b fb))(m:autoParam (Ř op b=ć) ATr):BT p X (.Compare a [op] [b] pos) (eP (au o fa fb)):=.mk (let ⟨_,h1,h2⟩:=k.ex;Ii h1 h2 H.h i.h m)
theorem Q4(h:BE p X e f)(n:autoParam (∀whole,isTrue e 1e4 whole=(do let v <- whole;æ e.pos;holding [v] (ZK v))) ATt)(hK:0e9):BT p X e (gp f):=⟨B2 hK h.h n⟩
theorem MD(H:BT p X a ft)(i:BW p X (.BoolOp .And (b::rest) pos) gt):BW p X (.BoolOp .And (a::b::rest) pos) (kx ft gt):=⟨Ie H.h i.h⟩
theorem Pm(H:BT p X a ft)(i:BW p X (.BoolOp .Or (b::rest) pos) gt):BW p X (.BoolOp .Or (a::b::rest) pos) (mJ ft gt):=⟨MV H.h i.h⟩
theorem Ic(H:BT p X a ft):BW p X (.BoolOp .And [a] pos) ft:=⟨E3 H.h⟩
theorem Mz(H:BT p X a ft):BW p X (.BoolOp .Or [a] pos) ft:=⟨IY H.h⟩
theorem Mj{op}(H:(BE p X a fa)):BE p X (.BoolOp op [a] pos) fa:=⟨Jm H.h⟩
noncomputable def vJ:Expr->ċ
 |.Starred _ _=>ć
 |_=>ą
theorem lO{a:Expr}{es:4e1}(h:vJ a=ą):ĉ (a::es) env=(ć,eval a env)::ĉ es env:=by
 cases a <;> first|rfl|cases h
theorem QP(H:(BE p X a fa))(r:BA p X es fr)(hs:autoParam (vJ a=ą) ATr):BA p X (a::es) (ag fa fr):=⟨ES H.h r.h (lO hs)⟩
theorem QO  : BA p X [] aw:=⟨IP⟩
theorem HU{k:ă}{F:2e5}(h:kf X.prog X.w X.K X.mg X.base p k x n F)(r:cU k X.A)(i:BA p X (a::es) fr)(N:(autoParam (Gl X x) ATr))(H:1e0)(E:(autoParam (ĉ (a::es) 1e4=(ć,eval a 1e4)::ĉ es 1e4) ATr))(L:2e7):BE p X (.Call (.Name x px) (a::es) [] pos) (aA F fr):=⟨EM h r N i.h H E L⟩
structure ny(X:Cx)(p:Pa)(x:ď)(F:2e5):Prop where
 ex:∃(u:ā) (r:(List V->Hp->VK->Prop)),((∃id,u=.builtin id)\/∃T,u=.type T)/\Ġ x=Ā u/\b8 X u r/\sN p F r/\x ≠ "__name__" /\ (x == ("__debug__" : ď))=ć
theorem jF{F:2e5}(k:ny X p x F)(M:X.mg x=Ă)(n:BA p X (a::es) fr)(N:(autoParam (Gl X x) ATr))(E:(autoParam (ĉ (a::es) 1e4=(ć,eval a 1e4)::ĉ es 1e4) ATr))(L:2e7):BE p X (.Call (.Name x px) (a::es) [] pos) (aA F fr):=.mk (by
 obtain⟨u,r,U,H,i,j,l,m⟩:=k.ex;rcases U with⟨id,rfl⟩|⟨T,rfl⟩
 ·exact Cr i j N M H n.h l m E L
 ·exact zb i j N M H n.h l m E L)
theorem N6 (hK:0e9) (W:autoParam (X.w=p.w) ATr):ny X p "len" eU:=⟨_,_,.inl ⟨_,rfl⟩,PySem.boot_len,Dk,by rw[hK];exact JK,by decide,by decide⟩
theorem N9 (C:2e8) (hK:0e9):ny X p "all" vB:=⟨_,_,.inl ⟨_,rfl⟩,by decide +kernel,zW C,hK ▸ JN,by decide,by decide⟩
theorem N8 (C:2e8) (hK:0e9):ny X p "any" vA:=⟨_,_,.inl ⟨_,rfl⟩,by decide +kernel,zV C,hK ▸ JM,by decide,by decide⟩
theorem Gr (hK:0e9):ny X p "tuple" cQ:=⟨_,_,.inr ⟨_,rfl⟩,by decide +kernel,pQ,hK ▸ CP,by decide,by decide⟩
theorem N7:ny X p "int" ku:=⟨_,_,.inr ⟨_,rfl⟩,by decide +kernel,zU,JL,by decide,by decide⟩
theorem N4 (C:2e8) (hK:0e9):ny X p "min" yU:=⟨_,_,.inl ⟨_,rfl⟩,by decide +kernel,(zR C).or (zQ C),hK ▸ JI,by decide,by decide⟩
theorem N5 (C:2e8) (hK:0e9):ny X p "max" lE:=⟨_,_,.inl ⟨_,rfl⟩,by decide +kernel,(zT C).or (zS C),hK ▸ JJ,by decide,by decide⟩
theorem N3 (U:3e8) (C:2e8) (hK:0e9) (W:autoParam (X.w=p.w) ATr):ny X p "set" pf:=⟨_,_,.inr ⟨_,rfl⟩,by decide +kernel,zO C U,by rw[hK,W];exact JH,by decide,by decide⟩
theorem AB{T:Ī}{xT:ď}{pt:Ľ}(hT:T∈["int", "bool", "tuple", "list", "str", "dict"])(hbT:Ġ xT=Ā (.type T))(hnT:xT ≠ "__name__")(hdT:(xT == ("__debug__" : ď))=ć)(m:X.mg "isinstance" = Ă)(hmT:X.mg xT=Ă)(i:(BE p X a fa))(N:autoParam (Gl X "isinstance") ATr)(hgT:autoParam (Gl X xT) ATr)(H:(autoParam (ĉ [a,.Name xT pt] 1e4=(ć,eval a 1e4)::ĉ [.Name xT pt] 1e4) ATr))(hK:0e9):BE p X (.Call (.Name "isinstance" px) [a,.Name xT pt] [] pos) (iu (mH T) fa):=⟨IJ hK hT N m hgT hmT hbT i.h hnT hdT H⟩
theorem KO:Ġ "int" = Ā (.type "int"):=by decide +kernel
theorem Gq:Ġ "bool" = Ā (.type "bool"):=by decide +kernel
theorem Gp:Ġ "list" = Ā (.type "list"):=by decide +kernel
theorem HP {pl pr p1:Ľ} (m:(X.mg "range" = Ă)) (l:X.mg "list" = Ă) (H:BA p X [a] fr) (C:2e8) (N:autoParam (Gl X "range") ATr) (L:autoParam (Gl X "list") ATr) (hs:(autoParam (ĉ [a] 1e4=[(ć,eval a 1e4)]) ATr)):BE p X (.Call (.Name "list" pl) [.Call (.Name "range" pr) [a] [] p1] [] pos) (aA jY fr):=⟨Cq C N m L l H.h hs⟩
theorem Pg(H:(BE p X a fa))(i:(BE p X b fb))(hs:ng b:=by exact λ_ _=>rfl)(hK:0e9):BE p X (.Subscript a b pos) (au bN fa fb):=⟨M8 hK H.h i.h hs⟩
theorem Pe{lo hi:Option Expr}{fl fh:MO}{p2:Ľ}(n:BE p X e fa)(L:BO p X lo fl)(U:BO p X hi fh)(hK:0e9):BE p X (.Subscript e (.Slice lo hi Ă p2) pos) (GI fa fl fh):=⟨Cp hK n.h L.h U.h⟩
theorem Mi{fo:ME}(O:BE p X ob fo)(H:BA p X [e] fr)(hbase:autoParam (ĩ ob "pop" X.env (eval ob 1e4)=eval ob 1e4) ATr)(W:autoParam (((Ħ pos (ĉ [e] 1e4)).all (λx=>!x.1)&&(Š pos (ō [] 1e4)).all (λx=>x.1.isSome)
   && decide ([e].length+([]:List ŋ).length+(if ([]:List ŋ).isEmpty then 0 else 1)<30))=ą) ATr)(hline:(autoParam ((apos.endLine == pos.line)=ą) ATr))(hs:(autoParam (ĉ [e] 1e4=(ć,eval e 1e4)::ĉ [] 1e4) ATr))(L:(autoParam ((Ħ pos (ĉ [] 1e4)).any 4e2=ć) ATr))(hK:0e9):BE p X (.Call (.Attribute ob "pop" apos) [e] [] pos) (oW lL fo fr):=⟨xb hK PySem.F.slot_list_pop PySem.F.type_list_pop CU FO O.h H.h hbase W hline hs L⟩
theorem Mu{fo:ME}(O:BE p X ob fo)(H:BA p X [e] fr)(hbase:autoParam (ĩ ob "append" X.env (eval ob 1e4)=eval ob 1e4) ATr)(W:autoParam (((Ħ pos (ĉ [e] 1e4)).all (λx=>!x.1)&&(Š pos (ō [] 1e4)).all (λx=>x.1.isSome)
   && decide ([e].length+([]:List ŋ).length+(if ([]:List ŋ).isEmpty then 0 else 1)<30))=ą) ATr)(hline:(autoParam ((apos.endLine == pos.line)=ą) ATr))(hs:(autoParam (ĉ [e] 1e4=(ć,eval e 1e4)::ĉ [] 1e4) ATr))(L:(autoParam ((Ħ pos (ĉ [] 1e4)).any 4e2=ć) ATr))(hK:0e9):BE p X (.Call (.Attribute ob "append" apos) [e] [] pos) (oW bI fo fr):=⟨xb hK PySem.F.slot_list_append PySem.F.type_list_append qy FP O.h H.h hbase W hline hs L⟩
variable{g:MG}{u:Dw}
theorem Rf(L:BE p X e f)(hK:0e9):BI p X tg e (dz f):=⟨IC hK L.h⟩
theorem Qi(m:(X.mg "range" = Ă))(H:BA p X [a] fr)(N:autoParam (Gl X "range") ATr)(hs:(autoParam (ĉ [a] 1e4=[(ć,eval a 1e4)]) ATr)):BI p X tg (.Call (.Name "range" px) [a] [] pos) (cA d3 fr):=⟨y9 N m H.h hs⟩
theorem Qh(m:(X.mg "range" = Ă))(i:BA p X [a,b] fr)(N:autoParam (Gl X "range") ATr)(hs:autoParam (ĉ [a,b] 1e4=[(ć,eval a 1e4),(ć,eval b 1e4)]) ATr)(H:autoParam (ĉ [b] 1e4=[(ć,eval b 1e4)]) ATr):BI p X tg (.Call (.Name "range" px) [a,b] [] pos) (cA lC fr):=⟨y8 N m i.h hs H⟩
theorem Qj{tpos:Ľ}(m:X.mg "enumerate" = Ă)(H:BA p X [a] fr)(N:autoParam (Gl X "enumerate") ATr)(hs:(autoParam (ĉ [a] 1e4=[(ć,eval a 1e4)]) ATr))(hK:0e9):BI p X (.Tuple elts k1 tpos) (.Call (.Name "enumerate" px) [a] [] pos) (cA mn fr):=⟨EE hK N m H.h hs⟩
theorem Rg(i:ă)(hN:(X.N.Nodup))(I:(autoParam (X.N[i]?=Ā x) ATr))(h:autoParam (yN X.env.scope x) ATv)(F:(autoParam 2e3 ATw)):BG p X (.Name x pos) (ah i):=⟨EG hN I h F⟩
theorem NX  : Lx p X [] cn:=⟨EF⟩
theorem Km(H:BG p X e g)(i:Lx p X es u)(hs:autoParam ((Ķ (e::es) 1e4).map (·.2)=Ŝ e 1e4::(Ķ es 1e4).map (·.2)) ATr):Lx p X (e::es) (aS g u):=⟨Ci H.h i.h hs⟩
theorem NV{k:ă}(h:Lx p X es u)(C:2e8)(H:autoParam ((Ķ es 1e4).length=n) ATr)(t:autoParam ((Ķ es 1e4).findIdx? 4e2=Ă) ATr)(hK:0e9):BG p X (.Tuple es k pos) (cm n u):=⟨ID hK C h.h H t⟩
theorem NW{fo fi:ME}(O:BE p X a fo)(I:BE p X b fi)(H:autoParam (∀v,Ŝ (.Subscript a b pos) 1e4 v=(do
   let ov <- holding [v] (eval a 1e4)
   let iv <- holding [v,ov] (eval b 1e4)
   æ pos
   holding [v,ov,iv] (Yl ov iv v)
   Zb [v,ov,iv] [])) ATt):BG p X (.Subscript a b pos) (kr fo fi):=⟨IE O.h I.h H⟩
variable{ifs:4e1}{cap:2e9}{tt:MT}{te:ME}
theorem HS(S:(bQ X.N 1e4 scope Nc cap))(I:BI p X tg iter fi)(G:(∀cl C s H fp,BG p.nx 0e8 tg g))(T:(∀cl C s H fp,Dy p.nx 0e8 ifs tt))(n:∀cl C s H fp,BE p.nx 0e8 elt te)(i:2e8)(hs:2e6):BE p X 1e7 (bq fi cap g tt te):=⟨EL i S I.h (λcl C s H fp=>(G cl C s H fp).h) (λcl C s H fp=>(T cl C s H fp).h) (λcl C s H fp=>(n cl C s H fp).h) hs⟩
noncomputable def m4(gs:List Ě):ċ:=gs.all λg=>g.is_async == 0
theorem xG{gs:List Ě}(h:m4 gs=ą):∀g∈gs,g.is_async=0:=λg N=>eq_of_beq (SL.mp h g N)
variable{mb:MB}{cl0:Ě}{rest:List Ě}{d:ă}
theorem Qu(N:gens[d]?=Ă)(l:BE p.nx X elt te)(E:autoParam (X.xe=sW) ATr):Lg p.nx X (.ListComp elt gens scope pos) d acc (nE te):=⟨EO N E l.h⟩
theorem Qt(N:gens[d]?=Ā ⟨tg,iter,ifs,0⟩)(I:BI p.nx X tg iter fi)(C:BG p.nx X tg g)(t:Dy p.nx X ifs tt)(H:Lg p.nx X (.ListComp elt gens scope pos) (d+1) acc mb)(hz:autoParam (m4 gens=ą) ATr)(E:autoParam (X.xe=sW) ATr)(i:2e8)(hs:2e6):Lg p.nx X (.ListComp elt gens scope pos) d acc (nN fi g tt mb):=
 ⟨Cs rfl (xG hz) N E i I.h C.h t.h H.h hs⟩
theorem ET(i:ă)(hN:(X.N.Nodup))(S:(bQ X.N 1e4 scope Nc cap))(I:BI p X tg iter fi)(G:(∀cl C s H fp,BG p.nx 0e8 tg g))(T:(∀cl C s H fp,Dy p.nx 0e8 ifs tt))(k:∀cl C s H fp acc,Lg p.nx 0e8 (.ListComp elt (⟨tg,iter,ifs,0⟩::rest) scope pos) 1 acc mb)(hz:autoParam (m4 (⟨tg,iter,ifs,0⟩::rest)=ą) ATr)(j:(autoParam (X.N[i]?=Ā x) ATr))(m:(autoParam (X.env.scope.names.lookup x=Ā .local) ATr))(l:2e8)(W:(autoParam (ī (.ListComp elt (⟨tg,iter,ifs,0⟩::rest) scope pos) (Ā (.Name x pos1)) pos2.line 1e4=pure ą) ATr))(hs:2e6):BS p X (.Assign [.Name x pos1] (.ListComp elt (⟨tg,iter,ifs,0⟩::rest) scope pos) pos2) (aZ (iU fi cap g tt mb) (ah i)):=
 ⟨B5 l (xG hz) hN j m S I.h (λcl C s H fp=>(G cl C s H fp).h) (λcl C s H fp=>(T cl C s H fp).h) (λcl C s H fp acc=>(k cl C s H fp acc).h) W hs⟩
variable{fs gs:MS}{sts A B:List ĝ}
theorem Na(i:ă)(hN:(X.N.Nodup))(n:BE p X e f)(I:(autoParam (X.N[i]?=Ā x) ATr))(H:autoParam (yN X.env.scope x) ATv)(hs:autoParam (ī e (Ā (.Name x pos')) pos.line 1e4=pure ć) ATr)(F:(autoParam 2e3 ATw)):BS p X (.Assign [.Name x pos'] e pos) (aZ f (ah i)):=⟨Ij hN I H n.h hs F⟩
theorem IQ(i:ă)(hN:(X.N.Nodup))(S:(bQ X.N 1e4 scope Nc cap))(I:BI p X tg iter fi)(G:(∀cl C s H fp,BG p.nx 0e8 tg g))(T:(∀cl C s H fp,Dy p.nx 0e8 ifs tt))(n:∀cl C s H fp,BE p.nx 0e8 elt te)(j:(autoParam (X.N[i]?=Ā x) ATr))(l:(autoParam (X.env.scope.names.lookup x=Ā .local) ATr))(k:2e8)(W:(autoParam (ī 1e7 (Ā (.Name x pos1)) pos2.line 1e4=pure ą) ATr))(hs:2e6):BS p X (.Assign [.Name x pos1] 1e7 pos2) (aZ (bq fi cap g tt te) (ah i)):=⟨Er k hN j l S I.h (λcl C s H fp=>(G cl C s H fp).h) (λcl C s H fp=>(T cl C s H fp).h) (λcl C s H fp=>(n cl C s H fp).h) W hs⟩
theorem Nf(n:BE p X e f)(N:BG p X tg g)(hs:autoParam (ò [tg] e pos.line 1e4=pure ć) ATr)(W:autoParam (ó [tg] e 1e4=pure Ă) ATr)(H:autoParam ((Ķ [tg] 1e4).map (·.2)=[Ŝ tg 1e4]) ATr):BS p X (.Assign [tg] e pos) (aZ f g):=⟨Ir n.h N.h hs W H⟩
theorem IR(n:BE p X e f)(hs:autoParam (ī e Ă pos.line 1e4=pure ć) ATr):BS p X (.Expr e pos) (fw f):=⟨Es n.h hs⟩
theorem Nb(P:U_ 1e2 X.A 1e4 X.xe)(I:BI p X tg iter fi)(N:BG p X tg g)(H:sZ p X body fs)(C:2e8)(hs:2e6):BS p X (.For tg iter body [] pos) (fD fi g fs):=⟨Ip P C I.h N.h H.h hs⟩
end
section
variable{X:Cx}{a b c:Expr}{es:4e1}{fb f:ME}{ft gt:MT}{fs gs:MS}{sts A B:List ĝ}
theorem L7(H:(BE p X a fa)):BE p X (.UnaryOp .Not a pos) (tI fa):=⟨IH H.h⟩
theorem Mb(H:(BE p X a fa))(i:BE p X (.BoolOp .And (b::rest) pos) fb):BE p X (.BoolOp .And (a::b::rest) pos) (tJ fa fb):=⟨IL H.h i.h⟩
theorem O9(H:(BE p X a fa))(i:BE p X (.BoolOp .Or (b::rest) pos) fb):BE p X (.BoolOp .Or (a::b::rest) pos) (Av fa fb):=⟨M7 H.h i.h⟩
theorem Pb(C:BT p X c ft)(H:(BE p X a fa))(i:(BE p X b fb)):BE p X (.IfExp c a b pos) (Lr ft fa fb):=⟨M9 C.h H.h i.h⟩
theorem L6{k:ă}(h:BA p X es fr):BE p X (.Tuple es k pos) (bJ fr):=⟨IG h.h⟩
theorem L8(h:BA p X es fr):BE p X (.List es pos) (d4 fr):=⟨II h.h⟩
theorem D6:BO p X Ă K6:=⟨EA⟩
theorem D5(h:BE p X e f):BO p X (Ā e) (mf f):=⟨Ez h.h⟩
theorem L4(H:BT p X a ft):BT p X (.UnaryOp .Not a pos) (iC ft):=⟨Ih H.h⟩
theorem O8(h:BW p X e ft):BT p X e ft:=⟨h.h.pt⟩
theorem L5:Dy p X [] a9:=⟨En⟩
theorem L3(h:BT p X c ft):Dy p X [c] ft:=⟨Em h.h⟩
theorem L0:sZ p X [] b9:=⟨Io⟩
theorem HF(H:BS p X st fs)(i:sZ p X sts gs):sZ p X (st::sts) (aY fs gs):=⟨Et H.h i.h⟩
theorem LZ(H:BS p X st fs):sZ p X [st] fs:=⟨Il H.h⟩
theorem LY(h:BE p X e f):BS p X (.Return (Ā e) pos) (bU f):=⟨Ik h.h⟩
theorem O6(C:BT p X c ft)(H:sZ p X A fs)(i:sZ p X B gs):BS p X (.If c A B pos) (gS ft fs gs):=⟨MW C.h H.h i.h⟩
end
theorem L9{k:ă}{f:Ĉ}{ps:List ď}(F:(ke K x qual st f fd))(S:cH N ps (aF st))(j:ps.length=n)(m:mg x=Ā (.ref f))(i:cW K fd ps [])(body : ∀ (cdv : ā) (A : Đ) (outer : List Ŋ) (s : Ą) (H : Hp) (E : XK), cU k (A.deeper (Ŀ qual (aF st) 0e0 f cdv)) ->
   sZ p (mI sY P w K mg base N qual (aF st) f cdv A outer s H E).nox (bt st) fb):kf P w K mg base p (k+1) x n (fF n N.length fb):=
 KH F S j m i λcdv A outer s H E r=>(body cdv A outer s H E r).h
end _l
namespace _l
open PySem _r
section
variable{fb fc fd f:ME}{ft gt:MT}{op o1 o2 o3:(D->D->az->aj D)}{fs gs:MS}{g:MG}
@[simp] theorem ak{r:Ro}:ai 0 (Ā d::r) J=.ok d J:=VW (VX _)
@[simp] theorem aq{x:Option D}{r:Ro}:ai (i+1) (x::r) J=ai i r J:=VW (VX _)
@[simp] theorem bg:cC d ρ J=.ok d J:=VW (VX _)
@[simp] theorem aG:au op fa fb ρ J=(fa ρ J).bind λa J1=>(fb ρ J1).bind λb J2=>op a b J2:=VW (VX _)
@[simp] theorem jH {o:D->az->aj D}:iu o fa ρ J=(fa ρ J).bind λa J1=>o a J1:=VW (VX _)
@[simp] theorem aB:aw ρ J=.ok [] J:=VW (VX _)
@[simp] theorem ay:ag fa fr ρ J=(fa ρ J).bind λa J1=>(fr ρ J1).bind λr J2=>.ok (a::r) J2:=VW (VX _)
@[simp] theorem aL {F:2e5}:aA F fr ρ J=(fr ρ J).bind F:=VW (VX _)
@[simp] theorem bV:bJ fr ρ J=(fr ρ J).bind λds J=>if ds.length<=sizeLine then .ok (.tup ds) J else .bad:=VW (VX _)
@[simp] theorem d6:d4 fr ρ J=(fr ρ J).bind λds J=>if ds.length<=sizeLine then .ok 1e3 (J++[.lst ds]) else .bad:=VW (VX _)
@[simp] theorem bC {b:ċ}:Dt (.bl b) J=.ok b J:=VW (VX _)
@[simp] theorem cc:eP f ρ J=(f ρ J).bind Dt:=VW (VX _)
@[simp] theorem jq:kx ft gt ρ J=(ft ρ J).bind λb J1=>if b=ą then gt ρ J1 else .ok ć J1:=VW (VX _)
@[simp] theorem rm:mJ ft gt ρ J=(ft ρ J).bind λb J1=>if b=ą then .ok ą J1 else gt ρ J1:=VW (VX _)
@[simp] theorem mZ:iC ft ρ J=(ft ρ J).bind λb J1=>.ok (!b) J1:=VW (VX _)
@[simp] theorem ON:tJ fa fb ρ J=(fa ρ J).bind λa J1=>(Dt a J1).bind λb J2=>if b=ą then fb ρ J2 else .ok (.bl ć) J2:=VW (VX _)
@[simp] theorem Ku:Av fa fb ρ J=(fa ρ J).bind λa J1=>(Dt a J1).bind λb J2=>if b=ą then .ok (.bl ą) J2 else fb ρ J2:=VW (VX _)
@[simp] theorem OI:tI f ρ J=(f ρ J).bind λa J1=>(Dt a J1).bind λb J2=>.ok (.bl (!b)) J2:=VW (VX _)
@[simp] theorem G5:Lr ft fa fb ρ J=(ft ρ J).bind λb J1=>if b=ą then fa ρ J1 else fb ρ J1:=VW (VX _)
@[simp] theorem iR:gp f ρ J=(f ρ J).bind yO:=VW (VX _)
@[simp] theorem mY {b:ċ}:yO (.bl b) J=.ok b J:=VW (VX _)
@[simp] theorem AR {fl fh:MO}:GI fa fl fh ρ J=(fa ρ J).bind λa J1=>(fl ρ J1).bind λlo J2=>(fh ρ J2).bind λhi J3=>z8 a lo hi J3:=VW (VX _)
@[simp] theorem BD:K6 ρ J=.ok Ă J:=VW (VX _)
@[simp] theorem n9:mf f ρ J=(f ρ J).bind Ou:=VW (VX _)
@[simp] theorem vP {i:Ć}:Ou (.int i) J=.ok (Ā i) J:=VW (VX _)
@[simp] theorem nB {F:D->List D->az->aj D}{fo:ME}:oW F fo fr ρ J=(fo ρ J).bind λo J1=>if pU o J1=ą then (fr ρ J1).bind λds J2=>F o ds J2 else .bad:=VW (VX _)
@[simp] theorem cw:bU f ρ J=(f ρ J).bindS λd J'=>.ret d J':=VW (VX _)
@[simp] theorem gv:b9 ρ J=.next ρ J:=VW (VX _)
@[simp] theorem aK:aY fs gs ρ J=(fs ρ J).bind gs:=VW (VX _)
@[simp] theorem bE:gS ft fs gs ρ J=(ft ρ J).bindS λb J1=>if b=ą then fs ρ J1 else gs ρ J1:=VW (VX _)
@[simp] theorem aT:aZ f g ρ J=(f ρ J).bindS λd J1=>(g d ρ J1).bindS λρ' J2=>.next ρ' J2:=VW (VX _)
@[simp] theorem jo:fw f ρ J=(f ρ J).bindS λ_ J1=>.next ρ J1:=VW (VX _)
@[simp] theorem aE {g:MS}:(SO.next ρ J).bind g=g ρ J:=VW (VX _)
@[simp] theorem Iz{g:MS}:(SO.ret d J).bind g=.ret d J:=VW (VX _)
@[simp] theorem jk {g:MS}:(SO.next ρ J).loop g=g ρ J:=VW (VX _)
@[simp] theorem dD:(SO.ret d J).out=.ok d J:=VW (VX _)
@[simp] theorem Oc:(SO.next ρ J).out=.ok .non J:=VW (VX _)
@[simp] theorem bG:ah i d ρ J=.ok (ρ.set i (Ā d)) J:=VW (VX _)
@[simp] theorem rX{fo fi:ME}:kr fo fi d ρ J=(fo ρ J).bind λo J1=>(fi ρ J1).bind λi J2=>(vq o i d J2).bind λ_ J3=>.ok ρ J3:=VW (VX _)
@[simp] theorem OL{u:Dw}:cm n u (.tup xs) ρ J=if xs.length=n then u xs ρ J else .bad:=VW (VX _)
@[simp] theorem OM:cn [] ρ J=.ok ρ J:=VW (VX _)
@[simp] theorem Oe{u:Dw}{r:List D}:aS g u (d::r) ρ J=(g d ρ J).bind λρ' J'=>u r ρ' J':=VW (VX _)
@[simp] theorem cP:fD fi g fs ρ J=(fi ρ J).bindS λsrc J1=>bH src g fs src.items ρ J1:=VW (VX _)
@[simp] theorem bT:dz f ρ J=(f ρ J).bind yQ:=VW (VX _)
@[simp] theorem bu {F:List D->az->aj kb}:cA F fr ρ J=(fr ρ J).bind F:=VW (VX _)
@[simp] theorem rW:yQ (.tup xs) J=.ok (.fix xs) J:=VW (VX _)
@[simp] theorem br{cap:2e9}:bq fi cap g ft f ρ J=(fi ρ J).bind λsrc J1=>compLoop src J1.length g ft f src.items (cT cap ρ) (J1++[.lst []]):=VW (VX _)
@[simp] theorem aW:(kb.fix xs).items=xs:=VW (VX _)
@[simp] theorem bM:(kb.own n xs).items=xs:=VW (VX _)
@[simp] theorem OO:cT [] ρ=[]:=VW (VX _)
@[simp] theorem Og {r:2e9}:cT (Ă::r) ρ=Ă::cT r ρ:=VW (VX _)
@[simp] theorem Of{r:2e9}:cT (Ā j::r) ρ=(ρ[j]?).join::cT r ρ:=VW (VX _)
theorem bW{N:ă}{a:D}:fF 1 N fs [a] J=pV J (fs (Ā a::List.replicate (N-1) Ă) J).out:=RC rfl
theorem d7{N:ă}{a b:D}:fF 2 N fs [a,b] J=pV J (fs (Ā a::Ā b::List.replicate (N-2) Ă) J).out:=RC rfl
theorem KA{N:ă}{a b c:D}:fF 3 N fs [a,b,c] J=pV J (fs (Ā a::Ā b::Ā c::List.replicate (N-3) Ă) J).out:=RC rfl
@[simp] theorem d9 {op:Ő}{i j:Ć}:fL op (.int i) (.int j) J=.ok (.bl (cmpI op i j)) J:=VW (VX _)
@[simp] theorem gA {i j:Ć}:cq (.int i) (.int j) J=.ok (.int (i+j)) J:=VW (VX _)
@[simp] theorem G6 {gg:Ć->Ć->D}{i j:Ć}:dI gg (.int i) (.int j) J=.ok (gg i j) J:=VW (VX _)
@[simp] theorem iS {C:(Ć->Ć->Prop)}{gg:Ć->Ć->D}{i j:Ć} (h:C i j):DF C gg (.int i) (.int j) J=.ok (gg i j) J:=by unfold DF;simp[h]
@[simp] theorem OJ {i j:Ć} (h:tE i j):gH (.int i) (.int j) J=.ok (.int (i*j)) J:=by unfold gH;simp[h]
@[simp] theorem BF {i:Ć}:qV (.int i) J=.ok (.int (-i)) J:=VW (VX _)
@[simp] theorem cY{i j:Ć}:fW neg (.int i) (.int j) J=.ok (.bl (if neg then !(i == j) else i == j)) J:=VW (VX _)
@[simp] theorem QB{i j:ċ}:fW neg (.bl i) (.bl j) J=.ok (.bl (if neg then !(i == j) else i == j)) J:=VW (VX _)
@[simp] theorem Ky{a:D}:vz neg a .non J=.ok (.bl (if neg then !a.isNon else a.isNon)) J:=VW (VX _)
@[simp] theorem gw:eU [.tup xs] J=.ok (.int xs.length) J:=VW (VX _)
@[simp] theorem OK:eU [.frz xs] J=.ok (.int xs.length) J:=VW (VX _)
theorem gz(h:(J[n]?=Ā (.lst xs))):eU [.obj n] J=.ok (.int xs.length) J:=by unfold eU xl;simp[h]
theorem d8(h:(J[n]?=Ā (.lst xs))):cQ [.obj n] J=.ok (.tup xs) J:=by unfold cQ;simp[h]
theorem Ga{bs:List ċ}(h:J[n]?=Ā (.lst (bs.map D.bl))):vB [.obj n] J=.ok (.bl (bs.all id)) J:=by unfold vB;simp[h,qM]
theorem F9{bs:List ċ}(h:J[n]?=Ā (.lst (bs.map D.bl))):vA [.obj n] J=.ok (.bl (bs.any id)) J:=by unfold vA;simp[h,qM]
theorem jX{i:Ć}(h:atI xs i=Ā d):bN (.tup xs) (.int i) J=.ok d J:=by unfold bN;simp[h]
theorem Kx{i:Ć}(h:atI xs i=Ā d):bN (.frz xs) (.int i) J=.ok d J:=by unfold bN;simp[h]
theorem fE{i:Ć}(m:(J[n]?=Ā (.lst xs)))(h:atI xs i=Ā d):bN (.obj n) (.int i) J=.ok d J:=by unfold bN;simp[m,h]
theorem kH{i:Ć}(m:(J[n]?=Ā (.lst xs)))(h:vk xs.length i=Ā j):vq (.obj n) (.int i) d J=.ok () (J.set n (.lst (xs.set j d))):=by unfold vq;simp[m,h]
theorem bP(h:(J[n]?=Ā (.lst xs))):yQ (.obj n) J=.ok (.own n xs) J:=by unfold yQ;simp[h]
theorem bY{j:Ć}(H:0<=j)(h:j<1000):d3 [.int j] J=.ok (.fix (bc 0 j.toNat)) J:=by
 unfold d3;dsimp only;rw[RC];lia
theorem kI{i j:Ć}(H:0<=i)(a:i<1000)(c:-1000<=j)(h:j<1000):lC [.int i,.int j] J=.ok (.fix (bc i (j-i).toNat)) J:=by
 unfold lC;dsimp only;rw[RC];lia
theorem tK{Y:Type}{x:Y}{r:List Y}:atI (x::r) 0=Ā x:=by unfold atI vk;simp
theorem A0{Y:Type}{x y:Y}{r:List Y}:atI (x::y::r) 1=Ā y:=sd rfl
theorem G9{Y:Type}{x y z:Y}{r:List Y}:atI (x::y::z::r) 2=Ā z:=sd rfl
@[simp] theorem dh {x:D}{r:List D}:bN (.tup (x::r)) (.int 0) J=.ok x J:=jX tK
@[simp] theorem fO {x y:D}{r:List D}:bN (.tup (x::y::r)) (.int 1) J=.ok y J:=jX A0
theorem lN{Y:Type}{xs:List Y}{i:Ć}{x:Y}(H:0<=i)(h:xs[i.toNat]?=Ā x):atI xs i=Ā x:=by
 have:=sd h
 rwa [show ((i.toNat:ă):Ć)=i by lia]at this
theorem jV{i:Ć}(H:0<=i)(h:i<n):vk n i=Ā i.toNat:=by unfold vk;simp[H,h]
end
section
@[simp] theorem OH{i:Ć}:(D.int i).low n=Ÿ:=by simp[D.low]
@[simp] theorem QA{i:ċ}:(D.bl i).low n=Ÿ:=by simp[D.low]
@[simp] theorem OG:D.non.low n=Ÿ:=by simp[D.low]
@[simp] theorem OE:(D.str x).low n=Ÿ:=by simp[D.low]
@[simp] theorem OD:(D.tup xs).low n=D.lows n xs:=by simp[D.low]
@[simp] theorem OF:(D.obj m).low n=(m<n):=by simp[D.low]
@[simp] theorem Od:D.lows n []=Ÿ:=by simp[D.lows]
@[simp] theorem Lh{x:D}:D.lows n (x::xs)=(x.low n/\D.lows n xs):=by rfl
theorem fz{n:ă}:∀{xs:List D},D.lows n xs↔∀x∈xs,x.low n
 |[]=>by simp
 |x::xs=>by simp[fz (xs:=xs)]
theorem fZ(hd:d.low 3e9):pV J (.ok d (J++g))=.ok d J:=by
 unfold pV;dsimp only;rw[RC]
 ·simp
 ·refine⟨hd,by simp,λi o I h=>.inl ?_⟩;rw[TX I]at h;exact h
theorem fg(hd:d.low 3e9):pV J (.ok d J)=.ok d J:=by
 have:=fZ (J:=J) (g:=[]) hd;simpa using this
theorem vN{o:O}(hd:d.low 3e9)(H:o.low 3e9):pV J (.ok d (J.set i o++g))=.ok d (J.set i o):=by
 unfold pV;dsimp only;rw[RC]
 ·congr 1;rw[List.take_append_of_le_length 1e1];exact UX 1e1
 ·refine ⟨hd, by simp, λj a r h => ?_⟩;rw[TX (by simpa using r)]at h;by_cases μ:i=j
  ·subst μ;rw[Tg r]at h;cases h;exact .inr H
  ·rw[Th μ]at h;exact .inl h
theorem yq{o:O}(hd:d.low 3e9)(h:o.low 3e9):pV J (.ok d (J.set i o))=.ok d (J.set i o):=by
 have:=vN (J:=J) (g:=[]) (i:=i) hd h;simpa using this
theorem gK{J':az}(h:¬ d.low 3e9):pV J (.ok d J')=.ok d J':=by
 unfold pV;dsimp only;rw[RE λz=>h z.1]
end
theorem nT{a b:O}:(J1++a::g).set J1.length b=J1++b::g:=by
 simp
theorem av{a:O}:(J1++a::g)[J1.length]?=Ā a:=by
 simp
theorem fU{y:D}(h:ys.length<sizeLine):qa J1.length y (J1++.lst ys::g)=.ok () (J1++.lst (ys++[y])::g):=by
 unfold qa;rw[av];dsimp only;rw[RC h,nT]
theorem fV{src:kb}{g:MG}{t:MT}{e:ME}{J1:az}{q:D->ċ}{h:D->D}(R:Ro->Prop)(O:∀a,bf src 3e5) :
  ∀{xs acc:List D}{ρ:Ro},R ρ->acc.length+xs.length<=sizeLine->(∀x∈xs,∀a ρ,R ρ->∃ρ1,R ρ1/\g x ρ 3e5=.ok ρ1 3e5/\t ρ1 3e5=.ok (q x) 3e5/\(q x=ą->e ρ1 3e5=.ok (h x) 3e5)) ->
   compLoop src J1.length g t e xs ρ (J1++[.lst acc])=.ok (.obj J1.length) (J1++[.lst (acc++(xs.filter q).map h)])
 |[],acc,ρ,r,L,n=>by
  unfold compLoop;rw[RC (O acc)];simp
 |x::xs,acc,ρ,r,L,n=>by
  refine pW (n x Ta acc ρ r) λρ1 b E m o=>?_;unfold compLoop;rw[RC (O acc),E];simp only[af,aa];rw[m];simp only[af,aa];have l:=λy α=>n y (Tb _ α);simp only[Uu]at L;cases z:q x with
  |false=>
   rw[RE RF,fV R O b (RK L) l,Wb,z];rfl
  |true=>
   rw[RC rfl,o z];simp only[af,aa];rw[fU (Ry (Rz (RA _ _)) L)];simp only[aa];rw[fV R O b (by simp;exact RH (RI (RJ _ _ _)) L) l,Wb,z];simp
theorem gN{src:kb}{g:MG}{t:MT}{e:ME}{n:ă}(μ:List D->List D->Ro->az->az->Prop)
  (F:∀ys ρ J1 s,μ [] ys ρ J1 s->J1.length=n/\bf src (J1++.lst ys::s))
  (step : ∀ x r ys ρ J1 s, μ (x :: r) ys ρ J1 s -> J1.length = n /\ bf src (J1 ++ .lst ys :: s) /\ ∃ ρ1 μa sa b μb sb, g x ρ (J1 ++ .lst ys :: s) = .ok ρ1 (μa ++ .lst ys :: sa) /\ t ρ1 (μa ++ .lst ys :: sa) = .ok b (μb ++ .lst ys :: sb) /\
   (b=ą->∃y μc sc,e ρ1 (μb++.lst ys::sb)=.ok y (μc++.lst ys::sc)/\ys.length<sizeLine/\μc.length=n/\μ r (ys++[y]) ρ1 μc sc)/\(b=ć->μ r ys ρ1 μb sb)) :
  ∀{xs ys:List D}{ρ:Ro}{J1 s:az},μ xs ys ρ J1 s->∃ys' ρ' J1' s',μ [] ys' ρ' J1' s'/\compLoop src n g t e xs ρ (J1++.lst ys::s)=.ok (.obj n) (J1'++.lst ys'::s')
 |[],ys,ρ,J1,s,hJ=>by
  refine⟨ys,ρ,J1,s,hJ,?_⟩;unfold compLoop;rw[RC (F ys ρ J1 s hJ).2]
 |x::xs,ys,ρ,J1,s,hJ=>by
  obtain⟨H,h,ρ1,μa,sa,b,μb,sb,E,m,o,a⟩:=step x xs ys ρ J1 s hJ;unfold compLoop;rw[RC h,E];simp;rw[m];simp;cases b with
  |false=>
   exact gN μ F step (a rfl)
  |true=>
   refine cF (o rfl) λy μc sc q O c G=>?_;rw[q];simp;subst c;rw[fU O];exact gN μ F step G
theorem g6{src:kb}{g:MG}{fb:MS}(μ:List D->Ro->az->Prop)(n:∀ρ J,μ [] ρ J->bf src J)
  (step:∀x r ρ J,μ (x::r) ρ J->bf src J/\∃ρ1 J1 ρ2 J2,g x ρ J=.ok ρ1 J1/\fb ρ1 J1=.next ρ2 J2/\μ r ρ2 J2) :
  ∀{xs:List D}{ρ:Ro}{J:az},μ xs ρ J->∃ρ' J',μ [] ρ' J'/\bH src g fb xs ρ J=.next ρ' J'
 |[],ρ,J,h=>⟨ρ,J,h,by unfold bH;rw[RC (n ρ J h)]⟩
 |x::xs,ρ,J,h=>by
  obtain⟨O,ρ1,J1,ρ2,J2,E,m,c⟩:=step x xs ρ J h;refine bZ (g6 μ n step c) λρ' J' H o=>?_;refine⟨ρ',J',H,?_⟩;unfold bH;rw[RC O,E];simp;rw[m];exact o
end _l
namespace _l
open PySem PySem.Spec PyProof.Rows _r
theorem N0{k:ă}{f:Ĉ}{ps:List ď}(F:(ke K x qual st f fd))(S:cH N ps (aF st))(o:ps.length=n)(body : ∀ (cdv : ā) (A : Đ) (outer : List Ŋ) (s : Ą) (H : Hp) (E : XK), cU k (A.deeper (Ŀ qual (aF st) 0e0 f cdv)) ->
   sZ p (mI sY P w K mg base N qual (aF st) f cdv A outer s H E).nox (bt st) fb):ko P w K mg base sY (k+1) f fd ps (Dr p n (fF n N.length fb)):=by
 refine F.ok S (λy H Q E h=>h.1.trans o.symm) λcdv A outer s H y Q E q h=>?_;refine⟨_,(body cdv A outer s H E q).h,?_⟩;obtain⟨L,t,D,l,j,R,g⟩:=h;unfold fF at g;rw[RC (by rw[<- R.length];exact L)]at g;have i:=mX j g;unfold start;rw[L];refine⟨t,_,l,j,hZ R _,?_⟩;cases e:fb (D.map Ā++List.replicate (N.length-n) Ă) l with
 |ret d a=>rw[e]at i;exact λc b v x s r=>i c b x s v r
 |next m a=>rw[e]at i;exact λc b u x s r=>i c b x s .non (bp.mpr rfl)
 |exc x a=>rw[e]at i;exact i
 |brk m a=>rw[e]at i;exact i.elim
 |cnt m a=>rw[e]at i;exact i.elim
 |bad=>rw[e]at i;exact i.elim
theorem qm{K:W.Frag}{H:Hp}{Y:List Ĉ}:∀ns:List Ć,Reps K H Y (ns.map D.int) (ns.map V.int)
 |[]=>by rfl
 |n::ns=>by
  exact⟨_,_,rfl,ao.mpr rfl,qm ns⟩
theorem CY{F:2e5}{E:XK}(hF:∃J',F [.frz (ns.map D.int)] []=.ok (.bl ą) J')(hO:DU H)(hS:dZ K H a (ns.map V.int)):
  Dr (ka K w) 1 F [.ref a] H (λv _=>v=.bl ą) E:=by
 obtain⟨J',e⟩:=hF
 have f:GJ K H a (ns.map V.int):=by
  rcases hS with (h|h)|h
  ·rcases hO a with z | ⟨o, S, z⟩
   all_goals lia
  ·exact .inl h
  ·exact .inr h
 refine⟨rfl,[],[.frz (ns.map D.int)],[],⟨rfl,U6,λn o a h=>by simp at h⟩,?_,?_⟩
 ·simp only[Reps];exact⟨_,_,rfl,bh.mpr ⟨a,_,rfl,f,qm ns⟩,rfl⟩
 ·rw[e];exact λb d x s v r=>aP.mp r
section
variable{X:Cx}
noncomputable def vM:D->ċ
 |.tup _=>ą
 |.frz _=>ą
 |.obj _=>ą
 |_=>ć
theorem wB(h:vM d=ą)(r:aM K H Y d v):∃a,v=.ref a:=by
 cases d with
 |tup S=>obtain⟨a,U,rfl,_⟩:=aH.mp r;exact⟨a,rfl⟩
 |frz S=>obtain⟨a,U,rfl,_⟩:=bh.mp r;exact⟨a,rfl⟩
 |obj n=>obtain⟨a,rfl,_⟩:=aI.mp r;exact⟨a,rfl⟩
 |_=>cases h
theorem pO:seqSlot? (.type "list") (dunderI "add")=pure (Ā (.builtin "list.__iadd__")):=PySem.seqSlot_of F.slot_list_iadd.lookup 3e0
theorem j9{M:ų}{a b:ā}(H:s.TypeIs a "list")(B:s.TypeIs b "list")(C:Ċ M A (call (.builtin "list.__iadd__") [a,b]) Q E s):Ċ M A (Yd .Add a b) Q E s:=by
 refine To ?_
 have h:fillsInplaceSlot (.type "list") "add" (Õ.Add == .Add)=pure ć:=by
  rfl
 refine Tn (Ue H (Tn (UB h ?_)));exact Tn (wpAny_binaryOp1_none H B noFill_list_add (Tn (UB pO (Tn (Sw C)))))
def GT:Ls:=λx y H Q=>(∃i j,x=.int i/\y=.int j/\Q (.int (i+j)) H) \/
 ∃l b S z,x=.ref l/\y=.ref b/\H l=Ā (.lst S)/\H b=Ā (.lst z)/\S.length+z.length<=sizeLine/\Q (.ref l) (bz H l (.lst (S++z)))
theorem F0:OA X .Add GT:=by
 intro P s a H x y v u Q I R L h;rcases h with h|h
 ·exact Kh P s a H x y v u Q I R L h
 ·obtain ⟨l, b, S, g, rfl, rfl, hH, hB, d, q⟩ := h;cases R;cases L;obtain⟨z,i,n,r,c,e⟩:=I.lstM hH;obtain⟨f,its2,N,L,j,m⟩:=I.lstM hB;have Z:i.toArray.size+its2.toArray.size<=sizeLine:=by rw[SJ,SJ];lia
  have hlong:¬ (!i.toArray.isEmpty&&Builtin.List.listTooLong (i.toArray.size+its2.toArray.size))=ą:=by
   rw[uj Z,Ø];exact RF
  refine j9 ⟨_,e,rfl⟩ ⟨_,m,rfl⟩ ?_
  refine Uo F.slot_list_iadd ⟨_,e,rfl⟩ F.entry_list_iadd (F.args_list_iadd_2 _ _)
   (AutoSeq1.list___iadd___list_list_0 l i.toArray n b its2.toArray N hlong (by rw[SJ];exact RH (RA _ _) Z) (RG Z)) ⟨e,m,?_⟩
  refine⟨.ref l,_,I.lset hH e 1e1 (r.append L) ?_,rfl,q⟩
  simp_all
def iB(a b:D)(J:az):aj D:=match a,b with
 |.int i,.int j=>.ok (.int (i+j)) J
 |.obj m,.obj n=>match J[m]?,J[n]? with
  |some (.lst S),Ā (.lst α)=>if S.length+α.length<=sizeLine then .ok (.obj m) (J.set m (.lst (S++α))) else .bad
  |_,_=>.bad
 |_,_=>.bad
theorem FL:sO p iB GT:=by
 intro a b v y H l o Q S R B P;unfold iB at P;split at P
 ·rename_i i j;obtain rfl:=ao.mp R;obtain rfl:=ao.mp B;exact .inl ⟨i,j,rfl,rfl,P.now S _ (ao.mpr rfl)⟩
 ·rename_i m n;split at P
  ·rename_i x s d α;split at P
   ·rename_i k;refine aJ (bS S R d) λa U z f h e=>?_;subst z;refine aJ (bS S B α) λA u V g c r=>?_;subst V;exact .inr ⟨a,A,U,u,rfl,rfl,h,c,by rw[e.length,r.length];exact k,P _ _ (fN h) (S.put d f h (e.append r)) _ (aI.mpr ⟨a,rfl,f⟩)⟩
   ·exact P.elim
  ·exact P.elim
 ·exact P.elim
theorem Nd{f:ME}(i:ă)(hN:(X.N.Nodup))(n:BE p X e f)(I:(autoParam (X.N[i]?=Ā x) ATr))(d:autoParam (yN X.env.scope x) ATv)(F:(autoParam 2e3 ATw)):
  BS p X (.AugAssign (.Name x pos') .Add e pos) (qT i iB f):=⟨Iq hN I d n.h F0 FL F⟩
noncomputable def tr(neg:ċ)(a b:D)(J:az):aj D:=match a,b with
 |.str x,.str y=>.ok (.bl (if neg then !decide (x=y) else decide (x=y))) J
 |_,_=>.bad
theorem Eo{y:ď}:decide (V.str x=V.str y)=decide (x=y):=by
 simp
theorem JO:sO p (tr ą) OW:=by
 intro a b v y H h d Q S r R P;unfold tr at P;split at P
 ·rename_i x z;obtain rfl:=a7.mp r;obtain rfl:=a7.mp R;exact⟨rfl,by rw[Eo];exact P.now S _ (aP.mpr rfl)⟩
 ·exact P.elim
theorem NK:pq X p .NotEq (tr ą):=⟨OW,NA,JO⟩
end
end _l
namespace _l
open PySem PySem.W PyProof.Rows _r
section
theorem Ko{id:Ī}{b:Builtin}(H:ZH id=Ă)(h:plainId id=ą)(d:Xw Zi id=Ā b)(a:Yj id ⟨us,kw⟩)(G : Ċ 0e7 A.in1 (b ⟨us, kw⟩) (λfin s' => match fin with
   |.done f=>(match (Except.ok f:Ų) with | .ok (.ret v)=>Q v s' | .ok _=>ł | .error e=>E e s')
   |.again c=>c.quiet=ą/\Ń 0e7 A c (λr s'=>match r with | .ok (.ret v)=>Q v s' | .ok _=>ł | .error e=>E e s') s') E s):Ċ 0e7 A (call (.builtin id) us kw) Q E s:=by
 refine TF (Vr h d ?_);simp[ŷ,H];cases z:Manifest.signature? id with
 |none=>exact SD G
 |some g=>
  simp[(by simpa[Yj,z] using a)];exact SD G
noncomputable def Hx (vs:ĕ ā) (c:ă):ħ:={cls:=.type "list",dict:=Ă,data:=.seq vs c,slots:=#[]}
abbrev Kp(s0:Ą)(h:Ĕ):Prop:=∀b O,s0.heap.get? b=Ā O->h.get? b=Ā O
theorem Mw{μ S:Ĉ}{St:ă->Ĕ->Prop}(Wk:Zh prog w A.in1 μ fp [μ] its.length (λi v=>its[i]?=Ā v) St)(N:μ≠S)(nS:S∉fp)(u:s0.heap.get? μ=Ă)(x:s0.heap.get? S=Ă){lt:ă->ă->ċ}{R:Ų->Ą->Prop}(C:∀(j:ă) v v0,its[j+1]?=Ā v->its[œ lt j]?=Ā v0->∀h tk,Kp s0 h->yV .Lt A.in1 {s0 with heap:=h,toks:=tk} v v0 (lt (j+1) (œ lt j)))(hR:∀v h tk,its[œ lt (its.length-1)]?=Ā v->Kp s0 h->R (.ok (.ret v)) {s0 with heap:=h,toks:=tk}):
  ∀(k j:ă)(h:Ĕ)(tk c:ă)(v0:ā),its.length-(j+1)=k->j+1<=its.length->Kp s0 h->St (j+1) h->its[œ lt j]?=Ā v0->h.get? S=Ā (Hx #[v0,v0] c) ->
   Ń 0e7 A (.builtin "min.loop" ⟨[.ref μ,.none,.ref S],kw⟩) R {s0 with heap:=h,toks:=tk}:=by
 have r:(F_ "min" ++ F_ ".loop" : Ī) = "min.loop" := by decide
 have kJ:∀{h H:Ĕ},Kp s0 h->(∀b o,b ∉ [μ]->h.get? b=Ā o->H.get? b=Ā o)->Kp s0 H:=λq t b O e=>t b O (λz=>by
  simp_all) (q b O e)
 have kS:∀{h:Ĕ}{o:ħ->ħ},Kp s0 h->Kp s0 (h.update S o):=λq b O e=>by
  grind [PySem.Heap.get?_update_other]
 intro k
 induction k with
 |zero=>
  intro j h tk c v0 f s p I B hS;have n:j+1=its.length:=by lia
  rw[n]at I;have a:j=its.length-1:=Sd Ñ n;subst a;refine Vn Wc ?_;rw[VA Wd _];refine Tn (UF hS rfl ?_);refine Tn (We (Wk.done _ _ _ I λH T M=>?_));have hS':=M S _ (by simpa using N.symm) hS;refine Tn ?_;exact Wf hS' rfl (Tn (Wg (SD (hR _ _ _ B (kS (kJ p M))))))
 |succ k g=>
  intro j h tk c v0 f s p I B hS;have l:j+1<its.length:=by omega
  refine Vn Wc ?_;rw[VA Wd _];refine Tn (UF hS rfl ?_);refine Tn (We (Wk.item (j+1) _ _ _ l I λv H T hP d M=>?_));have hS':=M S _ (by simpa using N.symm) hS;have K:=kJ p M;refine Tn (m:=tryCatch (holding [v,v] (XX .Lt v v0 >>= _)) _) (We (To (Tn (C j v v0 hP B H T K prog w _ _ ?_))));refine Tn (To (Ti (Tn (Wg (SD ?_)))));cases e:lt (j+1) (œ lt j) with
  |false=>
   simp;refine Tn (Wg ?_);rw[r];refine SD ⟨Vo Wd _,g (j+1) H T c v0 (Sd Ñ f) l K d ?_ hS'⟩
   simp_all[œ]
  |true=>
   simp;refine Tn ?_;refine Wf hS' rfl (Tn (Wg ?_));rw[r];refine SD ⟨Vo Wd _,g (j+1) _ T _ v 0e1 l (kS K) (Wk.frame _ _ _ d λb B o e=>?_) ?_ (Uj _ hS' rfl)⟩
   ·exact(Uk _ _ (λz=>nS (by rw[z];exact B))).trans e
   ·show its[if lt (j+1) (œ lt j)=ą then j+1 else œ lt j]?=_;rw[e];exact hP
theorem KQ{μ S:Ĉ}{St:ă->Ĕ->Prop}(Wk:Zh prog w A.in1 μ fp [μ] its.length (λi v=>its[i]?=Ā v) St)(N:μ≠S)(nS:S∉fp)(u:s0.heap.get? μ=Ă)(x:s0.heap.get? S=Ă){lt:ă->ă->ċ}{R:Ų->Ą->Prop}(n:its≠[])(C:∀(j:ă) v v0,its[j+1]?=Ā v->its[œ lt j]?=Ā v0->∀h tk,Kp s0 h->yV .Lt A.in1 {s0 with heap:=h,toks:=tk} v v0 (lt (j+1) (œ lt j)))(hR:∀v h tk,its[œ lt (its.length-1)]?=Ā v->Kp s0 h->R (.ok (.ret v)) {s0 with heap:=h,toks:=tk}){h:Ĕ}{tk:ă}(B:Kp s0 h)(I:St 0 h)(hS:h.get? S=Ā (Hx #[] c)):
  Ń 0e7 A (.builtin "min.loop" ⟨[.ref μ,.none,.ref S],kw⟩) R {s0 with heap:=h,toks:=tk}:=by
 have kJ:∀{h H:Ĕ},Kp s0 h->(∀b o,b ∉ [μ]->h.get? b=Ā o->H.get? b=Ā o)->Kp s0 H:=λK k b O e=>k b O (λz=>by
  simp at z
  subst z;rw[u]at e;cases e) (K b O e)
 have kS:∀{h:Ĕ}{o:ħ->ħ},Kp s0 h->Kp s0 (h.update S o):=λK b O e=>by
  have:S≠b:=λz=>by subst z;rw[x]at e;cases e
  exact(Uk _ _ this).trans (K b O e)
 have L:=V8.mpr n;refine Vn Wc ?_;refine Tn (UF hS rfl ?_);refine Tn (We (Wk.item 0 _ _ _ L I λv H T hP d M=>?_));have hS':=M S _ (by simpa using N.symm) hS;refine Tn (m:=updateSeq S λ_=>#[v,v]) ?_;refine Wf hS' rfl ?_;refine SD ⟨Vo Wd _,Mw Wk N nS u x C hR (its.length-1) 0 _ T _ v rfl L (kS (kJ B M)) (Wk.frame _ _ _ d λb a o e=>?_) hP (Uj _ hS' rfl)⟩
 grind [PySem.Heap.get?_update_other]
theorem Qr{μ S:Ĉ}{St:ă->Ĕ->Prop}{I:ă->ā->Prop}(Wk:Zh prog w A.in1 μ fp [μ] 0 I St)(u:s0.heap.get? μ=Ă){d:ā}{R:Ų->Ą->Prop}(hR:∀h tk,Kp s0 h->R (.ok (.ret d)) {s0 with heap:=h,toks:=tk}){h:Ĕ}{tk:ă}(B:Kp s0 h)(i:St 0 h)(hS:h.get? S=Ā (Hx #[] c)):
  Ń 0e7 A (.builtin "min.loop" ⟨[.ref μ,.none,.ref S],[(Ž "default",d)]⟩) R {s0 with heap:=h,toks:=tk}:=by
 refine Vn Wc ?_;refine Tn (UF hS rfl ?_);refine Tn (We (Wk.done _ _ _ i λH T m=>?_));refine Tn (Sw (SD (hR _ _ λb O e=>m b O (λz=>?_) (B b O e))))
 grind
theorem AY:∀j,œ (λ_ _=>ć) j=0
 |0=>rfl
 |j+1=>by unfold œ;simp[AY j]
end
section
variable{X:Cx}
theorem rN{h:Ĕ}(k:h.objs.size<=a):h.get? a=Ă:=by
 cases e:h.get? a with
 |none=>rfl
 |some o=>exact absurd (S0 e) (Xr.mpr k)
theorem BX:(λ(i:ă) v=>its.toArray[i]?=Ā v)=(λi v=>its[i]?=Ā v):=by funext i v;simp
def AJ(K:W.Frag):List V->Hp->VK->Prop:=λS H Q=>∃(a:Ĉ)(y:List V),S=[.ref a]/\dZ K H a y/\(∀b,y[0]?=Ā b->∀v∈y,∃p q,nk K H p v/\nk K H q b/\fitP p=ą/\fitP q=ą/\cmpP .Lt p q=Ā ć)/\Q (y.head?.getD .non) H
theorem z3 (x d:ā):Yj "min" ⟨[x],[(Ž "default",d)]⟩:=by rfl
theorem zP(α:X.calm=ą)(hu:3e8){xs:List V}{Q:VK}(I:0e4)(r:aX xs us)(h:AJ X.K xs H Q):
  Ċ 1e2 X.A (call (.builtin "min") us [(Ž "default",Ę)]) (EP X pins σ Q) X.xe s:=by
 refine aJ h λa S v1 U m q=>?_;subst v1;obtain⟨u,rfl,ru⟩:=dU r;cases ru;refine bo (I.list U) λi R L hz=>?_;have alt:a<s.heap.objs.size:=by refine bZ L λo n e _=>?_;exact S0 e
 refine Ko F.kind_min F.plain_min F.entry_min (z3 _ _) ?_;refine Tn (UB rfl ?_);refine Tn (SD ?_);refine Tn (Vs L.isList ?_);refine Tn (Ug ?_);have W0:=Vu (prog:=X.prog) (w:=X.w) (A:=X.A.in1) (I.ok.hd α) 0e0 a (Sn alt) i.toArray;rw[BX]at W0;by_cases f:i=[]
 ·subst f;cases R;refine SD ⟨Vo Wd _,Qr W0 (rN (Rx _)) (λh t B=>⟨.non,H,I.kept B,rfl,q⟩) ?_ ?_ (SZ _ rfl)⟩
  ·exact λb O e=>Tr _ (Tr _ e)
  ·exact⟨⟨_,Tr _ (SZ _ rfl),rfl,rfl⟩,L.isList.at λo e=>Tr _ (Tr _ e)⟩
 ·refine SD ⟨Vo Wd _, KQ (s0 := s) (lt := λ_ _ => ć) W0 ?_ ?_ ?_ ?_ f ?_ ?_ ?_ ?_ (SZ _ rfl)⟩
  ·simp
  ·simp_all[Sa,Uw]
  ·exact rN (Rx _)
  ·simp[rN]
  ·intro j v v0 l g h t B pr wo C G hQ;rw[AY]at g
   have y:(0:ă)<S.length:=by
    have:=(Se.mp g).1;rw[R.length];exact this
   have z:j+1<S.length:=by
    have:=(Se.mp l).1;rw[R.length];exact this
   refine bb (R.get (Vw y)) λu0 c r0=>?_;refine bb (R.get (Vw z)) λu1 d r1=>?_;rw[g]at c;cases c;rw[l]at d;cases d;refine fe (m _ (Vw y) _ (Wh z)) λp q μ M x N T=>?_;have k:aO X pins σ H {s with heap:=h,toks:=t}:=I.kept B;obtain⟨W,Z⟩:=bX k p _ _ μ r1;obtain⟨bs,D⟩:=bX k q _ _ M r0;refine rc_reads rfl p q X.A.in1 _ _ _ W bs ć Z D (fitP_lay x) (fitP_lay N) ?_ T pr wo C G hQ;unfold fitP at x
   lia
  ·intro v h t e B;rw[AY]at e;refine⟨_,H,I.kept B,?_,q⟩;cases R with
   |nil=>cases e
   |cons r rr=>cases e;exact r
  ·exact λb O e=>Tr _ (Tr _ e)
  ·exact⟨⟨_,Tr _ (SZ _ rfl),rfl,rfl⟩,L.isList.at λo e=>Tr _ (Tr _ e)⟩
def Ht(J:az)(y x:D):ċ:=match mG J y,mG J x with
 |some p,Ā q=>fitP p&&fitP q&&decide (cmpP .Lt p q=Ā ć)
 |_,_=>ć
def nF(ds:List D)(J:az):aj D:=match ds with
 |[.obj n]=>match J[n]? with
  |some (.lst [])=>.ok .non J
  |some (.lst (x::r))=>if (x::r).all (λy=>Ht J y x)=ą then .ok x J else .bad
  |_=>.bad
 |_=>.bad
theorem FF:sN p nF (AJ p.K):=by
 intro D μ H N T Q S r P;unfold nF at P;split at P
 ·rename_i n;split at P
  ·rename_i d;obtain⟨v,rfl,c⟩:=r.one;refine aJ (bS S c d) λa s t g b R=>?_;subst t;subst R;exact⟨a,[],rfl,dZ.of b,λo e=>by simp at e,P.now S _ (bp.mpr rfl)⟩
  ·rename_i x M d;split at P
   ·rename_i h;obtain⟨v,rfl,c⟩:=r.one;refine aJ (bS S c d) λa s z g b R=>?_;subst z;have f:=R;refine aU f λU u B q C=>?_;subst B;refine⟨a,U::u,rfl,dZ.of b,λo e v V=>?_,P.now S _ q⟩;cases e;obtain⟨i,I,rfl⟩:=VU V;refine bb (R.getV (Vw I)) λy α l=>?_;have L:=SL.mp h y (T1 α);unfold Ht at L;split at L
    ·rename_i G k j m;simp at L;exact⟨G,k,iO S j l,iO S m q,L.1.1,L.1.2,L.2⟩
    ·cases L
   ·exact P.elim
  ·exact P.elim
 ·exact P.elim
theorem zX:Ġ "min" = Ā (.builtin "min"):=by decide +kernel
theorem Fl{a:Expr}{t:TA}{p pk:Ľ}{kp:Ľ}(C:X.calm=ą)(U:3e8)(N:Gl X "min")(m:X.mg "min" = Ă)(f:PA X [a] t)(g:Ħ pos (ĉ [a] 1e4)=(ć,eval a 1e4)::Ħ pos (ĉ [] 1e4))(i:(Ħ pos (ĉ [a] 1e4)).any 4e2=ć):PE X (.Call (.Name "min" p) [a] [⟨Ā "default",.Constant .none j pk,kp⟩] pos) (OR (AJ X.K) t):=by
 intro P s c H Q I h;refine TJ (iP I N m zX ?_ 0e3 0e3);refine callWith_kw (cB (f pos P s c H _ I h) λk S=>bD λy b e R q=>?_) g i;refine kws_cons (cB (Bk P S c b (λv d=>v=.non/\d=b) e ⟨rfl,rfl⟩) λu M=>jS λv l n r V hH=>kws_nil ?_);subst V hH;cases r;exact zP C U n R q
theorem HN{a:Expr}{pa:Pa}{p pk:Ľ}{kp:Ľ}(U:3e8)(m:X.mg "min" = Ă)(f:BE pa X a fa)(C:2e8)(N:autoParam (Gl X "min") ATr)(hs:autoParam (vJ a=ą) ATr)(hK:autoParam (X.K=pa.K) ATr):BE pa X (.Call (.Name "min" p) [a] [⟨Ā "default",.Constant .none j pk,kp⟩] pos) (aA nF (ag fa aw)):=.mk (by
 refine(Fl C U N m (QP f QO hs).h ?_ ?_).weak λo H Q=>aR λg l k S R P=>⟨g,l,k,S,R,P.bind.imp λs d b i n e c y r=>by rw[hK];exact FF s y b i d Q e r c⟩
 ·rw[lO hs];rfl
 ·rw[lO hs];rfl)
end
theorem Q2{Y:Type}{P:List Y->Prop}(h:∀a,P [a]):∀us:List Y,us.length=1->P us
 |[a],_=>h a
theorem us2{Y:Type}{P:List Y->Prop}(h:∀a b,P [a,b]):∀us:List Y,us.length=2->P us
 |[a,b],_=>h a b
theorem Q0{Y:Type}{P:List Y->Prop}(h:∀a b c,P [a,b,c]):∀us:List Y,us.length=3->P us
 |[a,b,c],_=>h a b c
theorem ke.b1{f:Ĉ}{ps:List ď}(F:(ke K x qual st f fd))(L:ps.length=1)(h:∀(kV doc pm:ā)(an:Option Ĉ)(cdv ct a:ā),Ŧ 1e6 ⟨[a],[]⟩=pure (ps.zip [a])):cW K fd ps []:=
 F.binds λkV doc pm an cdv ct U e=>Q2 (P:=λU=>Ŧ 1e6 ⟨U,[]⟩=pure (ps.zip U)) (λa=>h kV doc pm an cdv ct a) U (e.trans L)
theorem ke.b2{f:Ĉ}{ps:List ď}(F:(ke K x qual st f fd))(L:ps.length=2)(h:∀(kV doc pm:ā)(an:Option Ĉ)(cdv ct a b:ā),Ŧ 1e6 ⟨[a,b],[]⟩=pure (ps.zip [a,b])):cW K fd ps []:=
 F.binds λkV doc pm an cdv ct U e=>us2 (P:=λU=>Ŧ 1e6 ⟨U,[]⟩=pure (ps.zip U)) (λa b=>h kV doc pm an cdv ct a b) U (e.trans L)
theorem ke.b3{f:Ĉ}{ps:List ď}(F:(ke K x qual st f fd))(L:ps.length=3)(h:∀(kV doc pm:ā)(an:Option Ĉ)(cdv ct a b c:ā),Ŧ 1e6 ⟨[a,b,c],[]⟩=pure (ps.zip [a,b,c])):cW K fd ps []:=
 F.binds λkV doc pm an cdv ct U e=>Q0 (P:=λU=>Ŧ 1e6 ⟨U,[]⟩=pure (ps.zip U)) (λa b c=>h kV doc pm an cdv ct a b c) U (e.trans L)
end _l
namespace PySem.W
open PySem PySem.Spec PySem.Calls PyProof.Rows Builtin Builtin.ObjectAttr
section
variable{R:Ų->Ą->Prop}{K:Zg}{x C:Ĉ}{cd:Ye}{name:ď}{v:ā}
theorem x4{od:Option ħ}{tk:α0}(X:K.In 1e9)(I:InstAt 1e9 x ox C od)(c:YW K C=Ā cd)(d:∀self,ZR self "__setattr__" cd.mro=pure ())(m:EQ K C (.type "object")=Ā ą)(T:Ş K 3e2 name=Ā Ă)(h : Ċ 0e7 A.in1 (storeInOwnDict (.ref x) 3e2 (.str name tk) name v ć)
   (λfin s'=>match fin with | .done f=>R (.ok f) s' | .again c'=>c'.quiet=ą/\Ń 0e7 A c' R s') (λe s'=>R (.error e) s') s):
  Ń 0e7 A (.call (.builtin "object.__setattr__") ⟨[.ref x,.str name tk,v],[]⟩) R s:=by
 have SF:=PySem.F.store_object;refine Vr SF.slot.plain SF.entry (@check_slot 0e7 _ _ s "object.__setattr__" "object" "__setattr__" (.ref x) [.str name tk,v] [] _ SF.kind SF.split (I.type.andThen (XY X m)) (SF.args (.ref x) (.str name tk) v) ?_);rw[osa_eq,refuse_eq];refine Tn (Tn (I.type.here (Tn ((show Ŵ 0e7 1e9 (mroOf 3e2) cd.mro from (XZ X c).andThen .now).here ?_))));rw[d];exact SD (Tn (I.type.here (Tn ((VH X T).here (Tn (Ŵ.now.here h))))))
theorem y0{b:ċ}{tk:α0}{Q:Fin->Ą->Prop}(X:K.In 1e9)(f:s.heap.get? x=Ā ox)(hC:ox.cls=.ref C)(hd:ox.dict=Ă)(m:Zn ox=ą)(p:YW K C=Ā cd)(l:cd.hasDict=ą)(z:∀h',h'.get? x=Ā {ox with dict:=Ā 0e0}->h'.Ns1 0e0 (λy=>if y=name then Ā v else Ă)->(∀b o,b≠x->s.heap.get? b=Ā o->h'.get? b=Ā o)->∀tk',Q (.done (.ret .none)) {s with heap:=h',toks:=tk'}):
  Ċ 0e7 A (storeInOwnDict (.ref x) 3e2 (.str name tk) name v b) Q E s:=by
 obtain⟨i,g,d,t,O⟩:=s;obtain⟨G,I,odt,osl⟩:=ox;subst hC hd;have H:=Sn (S0 f);refine Tn (SD ?_);refine Tn ?_;refine Tn (Ú f ?_);refine Tn ((XZ X p).here ?_);rw[l];have j:(i.push {cls:=.type "dict",data:=.dict #[]}).get? x=Ā ⟨.ref C,Ă,odt,osl⟩:=Tr _ f
 have n:Ċ 0e7 A (do
   let d <- alloc {cls:=.type "dict",data:=.dict #[]}
   update x λo=>{o with dict:=Ā d}
   dictMade 3e2 x d) (λa r=>Ċ 0e7 A (match a with|some d=>storeInDict d (.str name tk) name v|none=>noDictFor (.ref x) 3e2 name b) Q E r) E ⟨i,g,d,t,O⟩:=by
  refine Tn (wpAny_alloc' ?_);refine Tn (wpAny_update' j ?_);refine SD ?_
  have D:((i.push {cls:=.type "dict",data:=.dict #[]}).update x λo=>{cls:=o.cls,dict:=Ā i.objs.size,data:=o.data,slots:=o.slots}).get? i.objs.size
    = Ā {cls:=.type "dict",data:=.dict #[]}:=
   (V4 _ _ _ _ H.symm).trans (K_ rfl rfl)
  have hnd:((i.push {cls:=.type "dict",data:=.dict #[]}).update x λo=>{cls:=o.cls,dict:=Ā i.objs.size,data:=o.data,slots:=o.slots}).Ns i.objs.size (λ_=>Ă):=
   ⟨_,#[],_,D,rfl,λe q=>absurd q 1e1,λ_=>rfl⟩
  refine Tn (SD (Tn (Yr (Ĕ.Ns1.of_empty hnd) λh' h S=>?_)));refine cv (h.count (α1 name v Within.nil)) λoD esD epD hoD hdD hcD=>?_;refine Tn (XC hoD (by grind [XF]) ?_);refine SD (z h' ?_ h (λb u k B=>?_) _)
  ·refine(S.2 x H).trans (Uj _ j ?_);cases odt <;> first|rfl|exact((Ĕ.get?_some_iff.mp f).2)
  ·exact(S.2 b (Sn (S0 B))).trans ((V4 _ _ _ _ k).trans (Tr _ B))
 cases odt with
 |cls c=>cases m
 |_=>exact n
theorem wc{dx:Ĉ}{b:ċ}{tk:α0}{ns:List ď}{Q:Fin->Ą->Prop}(X:K.In 1e9)(d:s.heap.get? x=Ā ox)(hC:ox.cls=.ref C)(hd:ox.dict=Ā dx)(u:dx≠x)(n:s.heap.Ns1 dx mA)(c:YW K C=Ā cd)(l:cd.hasDict=ą)(W:Within mA ns)(Z:ns.length<=1000)(z:∀h',h'.get? x=Ā ox->h'.Ns1 dx (λy=>if y=name then Ā v else mA y)->(∀b o,b≠dx->s.heap.get? b=Ā o->h'.get? b=Ā o)->∀tk',Q (.done (.ret .none)) {s with heap:=h',toks:=tk'}):
  Ċ 0e7 A (storeInOwnDict (.ref x) 3e2 (.str name tk) name v b) Q E s:=by
 obtain⟨a,D,odt,osl⟩:=ox;subst hC hd;refine Tn (SD ?_);refine Tn ?_;refine Tn (Ú d ?_);refine Tn ((XZ (M:=Č prog w) X c).here ?_);rw[l];refine SD ?_;refine Tn (SD (Tn (Yr n λh' h H=>?_)));refine cv (h.count (α1 name v W)) λoD esD epD hoD hdD hcD=>?_;exact Tn (XC hoD (by grind [XF,PySem.sizeLine_eq]) (SD (z h' ((H.2 x u.symm).trans d) h (λb O B e=>(H.2 b B).trans e) _)))
structure SetsX(K:Zg)(C:Ĉ):Prop where
 sa:Ş K 3e2 "__setattr__" = Ā (Ā (.builtin "object.__setattr__"))
 obj:EQ K C (.type "object")=Ā ą
 cls:∃cd,YW K C=Ā cd/\cd.hasDict=ą/\∀self,ZR self "__setattr__" cd.mro=pure ()
theorem setx_one{Q:(ŏ->Ą->Prop)}(X:K.In 1e9)(S:SetsX K C)(F:Ş K 3e2 name=Ā Ă)(d:s.heap.get? x=Ā ox)(hC:ox.cls=.ref C)(hd:ox.dict=Ă)(m:Zn ox=ą)(z:∀h',h'.get? x=Ā {ox with dict:=Ā 0e0}->h'.Ns1 0e0 (λy=>if y=name then Ā v else Ă)->(∀b o,b≠x->s.heap.get? b=Ā o->h'.get? b=Ā o)->∀tk',Q () {s with heap:=h',toks:=tk'}):
  Ċ 0e7 A (Ym (.ref x) name v) Q E s:=by
 refine bo S.cls λcd h l p=>?_;have I:InstAt 1e9 x ox C Ă:=⟨d,hC,m,by rw[hd];trivial⟩;exact set_plain X I S.sa (x4 X I h p S.obj F (y0 X d hC hd m h l λh' q G μ tk'=>(z h' q G μ tk')))
theorem setx_more{od:ħ}{dx:Ĉ}{ns:List ď}{Q:(ŏ->Ą->Prop)}(X:K.In 1e9)(S:SetsX K C)(F:Ş K 3e2 name=Ā Ă)(d:s.heap.get? x=Ā ox)(hC:ox.cls=.ref C)(hd:ox.dict=Ā dx)(m:Zn ox=ą)(u:dx≠x)(n:s.heap.Ns1 dx mA)(W:Within mA ns)(z:ns.length<=1000)(q:∀h',h'.get? x=Ā ox->h'.Ns1 dx (λy=>if y=name then Ā v else mA y)->(∀b o,b≠dx->s.heap.get? b=Ā o->h'.get? b=Ā o)->∀tk',Q () {s with heap:=h',toks:=tk'}):
  Ċ 0e7 A (Ym (.ref x) name v) Q E s:=by
 refine bo S.cls λcd h l p=>?_;refine gI (id n) λod c P e r=>?_;have I:InstAt 1e9 x ox C (Ā od):=⟨d,hC,m,by rw[hd];exact e⟩;exact set_plain X I S.sa (x4 X I h p S.obj F (wc X d hC hd u n h l W z λh' a G μ tk'=>(q h' a G μ tk')))
end
section
variable{K:Zg}{x D:Ĉ}{od:Option ħ}{name:ď}{v:ā}
theorem getx{expr:ċ}(X:K.In 1e9)(I:InstAt 1e9 x ox D od)(H:(Ş K (.ref D) "__getattribute__" = Ā (Ā (.builtin "BaseException.__getattribute__"))))(n:Ş K (.ref D) "__getattr__" = Ā Ă)(hmB:EQ K D 3e1=Ā ą)(f:findObj K D od name=Ā (.value v))(V:handedIn v=ą)(z:∀tk',Q v {s with toks:=tk'}):Ċ 0e7 A (Zc (.ref x) name expr) Q E s:=by
 obtain⟨i,g,d,t,S⟩:=s;have b:=I.type (M:=Č prog w);have L:Ŵ 0e7 i (ž (.ref D) "__getattribute__") (Ā (.builtin "BaseException.__getattribute__")):=VH X H;have e:Ŵ 0e7 i (ž (.ref D) "__getattr__") Ă:=VH X n;have Lf:=looks_find (M:=Č prog w) X I f;have y:=VI.ga.bind (.ref x);have h:(ņ "BaseException.__getattribute__" == ņ "object.__getattribute__")=ć:=by decide +kernel
 have j:(Yb (đ D)&&ņ "BaseException.__getattribute__" == ņ "object.__getattribute__")=ć:=by rw[h];rfl
 have a:(ć&&Yb (ņ "BaseException.__getattribute__"))=ć:=rfl;unfold Zc getAttrBy
 repeat (any_goals (first|assumption|with_reducible refine b.at ?_|with_reducible refine L.at ?_|with_reducible refine e.at ?_|wp_step))
 rw[RE (by cases expr <;> exact RF)]
 repeat (any_goals (first|assumption|with_reducible refine b.at ?_|wp_step))
 refine Vr VI.ga.plain F.entry_bexc_ga (uI X b hmB ?_)
 repeat (any_goals (first|assumption|with_reducible refine b.at ?_|with_reducible refine Lf.at ?_|wp_step))
 show Ċ _ _ (handedOut v) _ _ _;rw[handedOut_of V];exact SD (z _)
end
end PySem.W
namespace _l
open PySem PySem.Spec PyProof.Rows
noncomputable def tu(ea C:Ĉ):HO:=.ext λh=>∃t:Ĉ,h.get? ea=Ā {cls:=.ref C,data:=.fields #[.ref t,.none,.none,.none,.bool ć,.none]}
noncomputable def iD(ea C d:Ĉ):HO:=.ext λh=>∃t:Ĉ,h.get? ea=Ā {cls:=.ref C,dict:=Ā d,data:=.fields #[.ref t,.none,.none,.none,.bool ć,.none]}
section
variable{X:Cx}{C:Ĉ}{f:ď}
theorem EH{Q:(ŏ->Ą->Prop)}(I:0e4)(e:H ea=Ā (tu ea C))(S:W.SetsX X.K C)(n:W.findIn X.K 3e2 f=Ā Ă)(α:bA y u)(h:∀s' dx,H dx=Ă->dx≠ea->aO X pins σ (bz (bz H dx (.xd [(f,y)])) ea (iD ea C dx)) s'->Q () s'):Ċ 1e2 A (Ym (.ref ea) f u) Q E s:=by
 obtain⟨⟨t,m⟩,_,_⟩:=(show dC X.prog X.w H 1e9 ea (tu ea C) from I.hok ea _ e);have T:=S0 m;have i:s.heap.objs.size≠ea:=Sa T;refine W.setx_one I.kIn S n m rfl rfl rfl λx j B μ l=>h _ 0e0 I.fresh i ?_;have ne:∀b,H b=Ă->b≠ea:=λb z q=>by rw[q,e]at z;cases z
 have R:∀b (o:HO),H b=Ā o->(∀U,o≠.ext U)->bz (bz H 0e0 (.xd [(f,y)])) ea (iD ea C 0e0) b=Ā o:=λb o q nx=>by
  rw[aN λz=>?_,aN λz=>?_]
  ·exact q
  ·rw[z,I.fresh]at q;cases q
  ·rw[z,e]at q;cases q;exact nx _ rfl
 refine I.call' (s':={s with heap:=x,toks:=l}) rfl ⟨λb o q n _ _=>μ b o (ne b n) q,λb o q n _ _=>⟨o.slots,μ b o (ne b n) q⟩,λb o q n _=>?_,λb o q _=>?_,λb M q=>R b _ q (λ_ z=>nomatch z),λb o u q=>R b _ q (λ_ z=>nomatch z),
  λb ps q=>⟨#[],by rw[R b _ q (λ_ z=>nomatch z)];simp⟩⟩ (λb o q=>?_) I.bare (ch:=[]) (λb z=>absurd z 1e1)
 ·rw[aN (ne b n),aN (Sn (S0 q))];exact n
 ·by_cases z : b = ea
  ·exact⟨_,by rw[z];exact j⟩
  ·exact⟨o,μ b o z q⟩
 ·by_cases z : b = ea
  ·subst z;rw[aV]at q;cases q;exact⟨⟨t,j⟩,⟨_,j⟩,λD O a k=>by obtain⟨L,a⟩:=a;exact⟨L,k _ a⟩⟩
  ·rw [aN z] at q;by_cases Z:b=0e0
   ·subst Z;rw[aV]at q;cases q;refine⟨_,B,λg=>?_⟩;by_cases G:g=f
    ·subst G;simp only[Ut,Wi,T8];exact α
    ·rw[RE G,Ut,show (g == f)=ć from by simpa using G];exact Ź
   ·rw [aN Z] at q;refine(I.hok b o q).stay (λc v d r=>μ c v ?_ r) (λc r=>R c _ r (λ_ z=>nomatch z)) λc M r=>R c _ r (λ_ z=>nomatch z);rcases d with rfl|d
    ·exact z
    ·intro w;rw[w,e]at d;cases d
end
def Nh(K:W.Frag)(ta tv:TE)(f:ď):TS:=λD σ H=>tv σ H λy b=>ta σ b λx l=>∃ea C,x=.ref ea/\l ea=Ā (tu ea C)/\W.SetsX K C/\W.findIn K 3e2 f=Ā Ă /\
 ∀d,l d=Ă->d≠ea->D.nx σ (bz (bz l d (.xd [(f,y)])) ea (iD ea C d))
section
variable{X:Cx}{o value:Expr}{tv:TE}{f:ď}
theorem Fb(i:PE X o ta)(V:PE X value tv)(hs:ī value (Ā (.Attribute o f pos')) pos.line 1e4=pure ć):PS X (.Assign [.Attribute o f pos'] value pos) (Nh X.K ta tv f):=by
 intro pins s σ H D I h;refine Wj (cB (V pins s σ H _ I h) λu j=>bD λy b d α q=>cB (i pins j σ b _ d q) λO M ⟨x,l,a,R,ea,C,ex,e,S,n,G⟩=>?_) hs;subst ex;obtain rfl:O=đ ea:=R;exact EH a e S n α λk g z Z c=>⟨σ,_,c,G g z Z⟩
end
section
variable{f:Ĉ}{E:XK}
theorem μ3{C dx:Ĉ}(I:(aO 2e1 pins σ H s))(e:H ea=Ā (iD ea C dx))(G:s0.heap.get? ea=Ă)(q:E 3e2 (Ā ea) (bz H ea (iL ea C (Ā dx)))):(nj P w K mg base N qual scope f cdv A outer s0 H0 E).xe (.ref ea) s:=by
 obtain⟨⟨t,k⟩,_,_⟩:=(show dC P w H 1e9 ea (iD ea C dx) from I.hok ea _ e);obtain⟨fs,h⟩:∃fs,fs=ea::ni (Ŀ qual scope s0.heap.objs.size f cdv::outer):=⟨_,rfl⟩;have l:∀env∈(Ŀ qual scope s0.heap.objs.size f cdv::outer),∀b,env.frame=Ā b->b∈fs:=λenv k b B=>by rw[h];exact Tb _ (Tt.mpr ⟨env,k,B⟩)
 have T:(W.hideAll 1e9 fs).StaysIn 1e9:=λb o q=>W.of_hideAll _ q
 have hB:∀b o,s0.heap.get? b=Ā o->b∉ni outer->∃O,(W.hideAll 1e9 fs).get? b=Ā O:=λb o e B=>by
  obtain⟨⟨Q,p⟩,M⟩:=mx I e B;refine⟨Q,W.hideAll_get _ p ?_⟩;rw[h];intro z;rcases Td.mp z with z|z
  ·rw[z,G]at e;cases e
  ·exact M z
 obtain⟨a,hH1⟩:∃a:Hp,a=λb=>if b=ea then Ă else H b:=⟨_,rfl⟩
 have i:a ea=Ă:=by rw[hH1];exact RC rfl
 have d:∀b,b≠ea->a b=H b:=λb B=>by rw[hH1];exact RE B
 have x:bz a ea (iL ea C (Ā dx))=bz H ea (iL ea C (Ā dx)):=by
  funext b;by_cases B:b=ea
  ·rw[B,aV,aV]
  ·rw[aN B,aN B,d b B]
 have ne:∀b (o:HO),H b=Ā o->(∀α,o≠.ext α)->b≠ea:=λb o q nx z=>by rw[z,e]at q;cases q;exact nx _ rfl
 have L:lA P w a (W.hideAll 1e9 fs):=λb u q=>by
  have B:b≠ea:=λz=>by rw[z,i]at q;cases q
  rw[d b B]at q
  have nfr:∀c v,H c=Ā v->c≠ea->c∉fs:=λc v e z y=>by
   rw[h]at y;rcases Td.mp y with y|y
   ·exact z y
   ·rw[I.stkFree c y]at e;cases e
  refine(I.hok b u q).stay (λc v g r=>W.hideAll_get _ r ?_) (λc r=>by rw[d c (ne c _ r (λ_ z=>nomatch z))];exact r) λc S r=>by rw[d c (ne c _ r (λ_ z=>nomatch z))];exact r
  rcases g with rfl|g
  ·exact nfr _ _ q B
  ·exact nfr _ _ g (ne c _ g (λ_ z=>nomatch z))
 have j:Un (ni outer) [] H0 a s0.heap 1e9:=by
  have u:=I.base;refine⟨u.keep,u.slot,λb o e n μ=>?_,u.there,λb S q=>?_,λb o U q=>?_,λb ps q=>?_⟩
  ·by_cases z : b = ea
   ·rw[z];exact i
   ·rw[d b z];exact u.free b o e n μ
  ·have:=u.tups b S q;rw[d b (ne b _ this (λ_ z=>nomatch z))];exact this
  ·have:=u.frzs b o U q;rw[d b (ne b _ this (λ_ z=>nomatch z))];exact this
  ·obtain⟨m,this⟩:=u.tbls b ps q;exact⟨m,by rw[d b (ne b _ this (λ_ z=>nomatch z))];exact this⟩
 show Ċ _ _ (Ů _ (.ref ea)) _ _ s;refine lq (a0:=.ref t) I.ok.frames rfl T (W.funFrames_hide I.stack l) ?_ k rfl rfl rfl λZ F up=>?_
 ·exact W.hideAll_none _ (by rw[h];exact Ta)
 ·exact⟨ea,C,.ref t,Ā dx,_,a,rfl,I.os,I.bare,AC j hB T F.1 up (qE I),L,F,i,hB,by rw[x];exact q⟩
end
def yW (mg:3e6) (base:Ĕ) (c:ď) (C fI:Ĉ):Prop:=mg c=Ā 3e2/\∃bmB newId B initId b N r q bs h n sub a col d k g i j l mN,base.get? C=Ā (ś r q C N bs b h n sub a col d k g i j l newId)/\base.Ns N mN/\mN "__init__" = Ā (.ref fI)/\Yo base bmB b /\
 À B newId initId bmB/\∃oI,base.get? fI=Ā oI/\oI.cls=.type "function"
section
variable{X:Cx}{C:Ĉ}
theorem aO.newx(I:0e4)(h:ŧ 1e9 h' ea 3e2 us):H ea=Ă/\aO X pins σ (bz H ea (tu ea C)) {s with heap:=h'}:=by
 have g:H ea=Ă:=by
  cases z:H ea with
  |none=>rfl
  |some u=>
   obtain⟨o,e⟩:=(I.hok ea u z).thr;rw[h.new]at e;cases e
 obtain⟨t,d,_,_⟩:=h.there;have R:∀b (o:HO),H b=Ā o->bz H ea (tu ea C) b=Ā o:=λb o q=>by rw[aN (bx q g)];exact q
 refine⟨g,I.call' (s':={s with heap:=h'}) rfl ⟨λb o q n _ _=>h.keeps b o q,λb o q n _ _=>⟨o.slots,h.keeps b o q⟩,λb o q n _=>?_,λb o q _=>⟨o,h.keeps b o q⟩,λb S q=>R b _ q,λb o u q=>R b _ q,
  λb ps q=>⟨#[],by rw[R b _ q];simp⟩⟩ (λb o q=>?_) I.bare (ch:=[]) (λb z=>absurd z 1e1)⟩
 ·rw[aN λz=>by rw[z,h.new]at q;cases q];exact n
 ·by_cases z : b = ea
  ·subst z;rw[aV]at q;cases q;exact⟨⟨t,d⟩,⟨_,d⟩,λj l a k=>by obtain⟨i,a⟩:=a;exact⟨i,k _ a⟩⟩
  ·rw[aN z]at q;exact(I.hok b o q).stay (λc v _ r=>h.keeps c v r) (λc r=>R c _ r) λc S r=>R c _ r
end
noncomputable def xo (K:W.Frag) (C:Ĉ) (f:ď):ċ:=W.findIn K 3e2 "__getattribute__" == Ā (Ā (.builtin "BaseException.__getattribute__"))&&W.findIn K 3e2 "__getattr__" == Ā Ă&&W.mroIn K C 3e1 == Ā ą &&
 W.findIn K 3e2 f == Ā Ă&&W.hasDictIn K C
def MN(K:W.Frag)(ta:TE)(f:ď):TE:=λσ H Q=>ta σ H λx b=>∃a C d fs i,x=.ref a/\b a=Ā (iL a C (Ā d))/\b d=Ā (.xd fs)/\xo K C f=ą/\fs.lookup f=Ā (.int i)/\Q (.int i) b
section
variable{X:Cx}{f:ď}
theorem Fm(M:PE X e ta)(L:ĩ e f 1e4 (eval e 1e4)=eval e 1e4):PE X (.Attribute e f pos) (MN X.K ta f):=by
 intro pins s σ H Q I h;refine Gu L (cB (M pins s σ H _ I h) λu S ⟨x,b,d,α,a,C,D,fs,i,ex,ea,p,c,l,q⟩=>?_);subst ex;obtain rfl:u=đ a:=α;obtain⟨⟨oe,y,B,G,μ⟩,_⟩:=(show dC X.prog X.w b S.heap a (iL a C (Ā D)) from d.hok a _ ea);refine bb (show dC X.prog X.w b S.heap D (.xd fs) from d.hok D _ p) λmA U r=>?_;refine bb (zw U) λF O T=>?_;unfold xo at c;simp only[SE,VJ]at c;obtain⟨⟨⟨⟨g,j⟩,k⟩,m⟩,n⟩:=c;have R:=r f;rw[l]at R
 obtain⟨v,V,t,rfl⟩:∃v,mA f=Ā v/\∃t,v=.int i t:=by
  cases z:mA f with
  |none=>rw[z]at R;exact ę R
  |some v=>rw[z]at R;exact⟨v,rfl,R⟩
 exact W.getx d.kIn ⟨y,B,μ,by rw[G];exact O⟩ g j k (W.findObj_own n m rfl (by rw[T,V])) rfl λZ=>⟨.int i,b,d.tok _,⟨t,rfl⟩,q⟩
end
end _l
namespace _l
open PySem PySem.Spec PyProof.Rows _r
def Mc(E:XK)(C:Ĉ)(x:DX)(H:Hp):Prop:=(x.args=[]->∀e,H e=Ă->E 3e2 (Ā e) (bz H e (iL e C Ă))) /\
 (x.args≠[]->∀e d,H e=Ă->H d=Ă->d≠e->E 3e2 (Ā e) (bz (bz H d (.xd (x.args.map λp=>(p.1,V.int p.2)))) e (iL e C (Ā d))))
noncomputable abbrev Ds(K:W.Frag)(w:ē)(E:XK):Pa:=⟨K,w,λx _ H _=>∃C,W.nsIn K Ĝ x.cls=Ā (Ā 3e2)/\Mc E C x H⟩
def OS(K:W.Frag)(w:ē)(n:ă)(F:2e5):Sp:=λy H Q E=>y.length=n/\∃h s d,dA K w H h d/\Reps K H h s y/\aD (Ds K w E) H h (F s d) (RV (Ds K w E) Q)
structure q0(P:č)(w:ē)(K:W.Frag)(mg:3e6)(base:Ĕ)(k:ă)(x:ď)(n:ă)(F:2e5):Prop where
 len:∀ds J,ds.length≠n->F ds J=.bad
 fn:∃f fd ps,mg x=Ā (.ref f)/\W.keepIn K (.ref f)=ą/\cW K fd ps []/\ko P w K mg base (DK P w) k f fd ps (OS K w n F)
theorem HH{k:ă}{f:Ĉ}{ps:List ď}(F:(ke K x qual st f fd))(S:cH N ps (aF st))(t:ps.length=n)(M:mg x=Ā (.ref f))(B:cW K fd ps [])(body : ∀ (cdv : ā) (A : Đ) (outer : List Ŋ) (s : Ą) (H : Hp) (E : XK), cU k (A.deeper (Ŀ qual (aF st) 0e0 f cdv)) ->
   sZ (Ds K w E) (nj P w K mg base N qual (aF st) f cdv A outer s H E) (bt st) fb):q0 P w K mg base (k+1) x n (fF n N.length fb):=by
 refine⟨λD m h=>by simp_all[fF],f,fd,ps,M,F.kp,B,?_⟩;obtain⟨O,I,kV,doc,Z,G,cdv,T,osl,rfl,y,l⟩:=F.ex;refine AO y l S (λV H Q E h=>h.1.trans t.symm) λA outer s H V Q E u h=>?_;refine⟨_,(body cdv A outer s H E u).h,?_⟩;obtain⟨L,z,D,m,o,R,j⟩:=h;unfold fF at j;have q:D.length=n:=by rw[<- R.length];exact L
 rw[RC q]at j;have i:=mX o j;unfold start;rw[L];refine⟨z,_,m,o,hZ R _,?_⟩;cases e:fb (D.map Ā++List.replicate (N.length-n) Ă) m with
 |ret d b=>rw[e]at i;exact λg c v x s r=>i g c x s v r
 |next p b=>rw[e]at i;exact λg c C x s r=>i g c x s .non (bp.mpr rfl)
 |exc x b=>rw[e]at i;exact i
 |brk p b=>rw[e]at i;exact i.elim
 |cnt p b=>rw[e]at i;exact i.elim
 |bad=>rw[e]at i;exact i.elim
section
variable{X:Cx}{E:XK}{k:ă}{F:2e5}{a:Expr}{es:4e1}
theorem xB (h:q0 X.prog X.w X.K X.mg X.base k x n F) (t:gZ (DK X.prog X.w) X E) (u:cU k X.A) (p:BA (Ds X.K X.w E) X (a::es) fr) (G:(autoParam (Gl X x) ATr)) (B:1e0)
  (q:(autoParam (ĉ (a::es) 1e4=(ć,eval a 1e4)::ĉ es 1e4) ATr)) (L:2e7):BE (Ds X.K X.w E) X (.Call (.Name x px) (a::es) [] pos) (aA F fr):=.mk (by
 refine cF h.fn λf D ps g j m o=>?_;refine(rL (dvs:=[]) (E:=E) o u G g j m .nil t p.h B q L).weak λμ H Q=>aR λv C z S R P=>⟨v,C,z,S,R,(aD.bind P).imp λs d c i I e b y r=>?_⟩;show OS X.K X.w n F (y++[]) c Q E;rw[TC];refine⟨?_,i,s,d,e,r,b⟩;by_cases l:s.length=n
 ·rw[r.length];exact l
 ·rw[h.len s d l]at b;exact b.elim)
theorem D9(h:kf X.prog X.w X.K X.mg X.base p.nx k x n F)(C:cU k X.A)(v:BA p X (a::es) fr)(G:(autoParam (Gl X x) ATr))(B:1e0)(z:(autoParam (ĉ (a::es) 1e4=(ć,eval a 1e4)::ĉ es 1e4) ATr))(L:2e7):BE p X (.Call (.Name x px) (a::es) [] pos) (aA (λds J=>(F ds J).nox) fr):=.mk (by
 refine cF h.fn λf D ps q s t u=>?_;refine(rL (dvs:=[]) (E:=E0) u C G q s t .nil AM v.h B z L).weak λT H Q=>aR λI μ J S R P=>⟨I,μ,J,S,R,(aD.bind P).imp λds b l i M o c V r=>?_⟩;show Dr p.nx n F (V++[]) l Q E0;rw[TC]
 have g:aD p.nx l i (F ds b) (RV p.nx Q):=by
  cases e:F ds b with
  |ok d j=>rw[e]at c;exact c
  |exc y j=>rw[e]at c;exact ę c
  |bad=>rw[e]at c;exact c
 refine⟨?_,i,ds,b,o,r,g⟩;by_cases m:ds.length=n
 ·rw[r.length];exact m
 ·rw[h.len ds b m]at g;exact g.elim)
end
noncomputable def SO.ro(o:SO):SO:=match o with
 |.ret d b=>.ret d b
 |_=>.bad
def Hf(x:DX):O:=match x.args with
 |[]=>.exc x.cls
 |fs=>.exn x.cls fs
def Ar(known:List ď)(i N:ă)(fb h:MS):MS:=λb d=>match fb b d with
 |.exc x e=>if known.contains x.cls=ą then (h ((List.replicate N Ă).set i (Ā (.obj e.length))) (e++[Hf x])).ro else .bad
 |o=>o
def tL(K:W.Frag)(r:ď)(R:Ĉ)(known:List ď):Prop:=∀c∈known,∃C,W.nsIn K Ĝ c=Ā (Ā 3e2)/\W.exmOne K 3e2 (.ref R)=Ā ą
theorem dw.ro{o:SO}{D:lG}(h:dw p H Y o.ro D):dw p H Y o {nx:=λ_ _=>ł,rt:=D.rt}:=by
 cases o with
 |ret d b=>exact h
 |next e b=>exact ę h
 |brk e b=>exact ę h
 |cnt e b=>exact ę h
 |exc x b=>exact ę h
 |bad=>exact ę h
theorem LX{X:Cx}{xw:DX->az->Hp->List Ĉ->Prop}{r n:ď}{R:Ĉ}{hpos:Ľ}{suite:List ĝ}{b0:ĝ}{fh:MS}(F:X.Fn)(hN:(X.N.Nodup))(hk:tL X.K r R known)(hm:X.mg r=Ā (.ref R))(hb:∀pins E,sZ (Ds X.K X.w E) (X.tri pins E) body fb)(hs:∀ea,sZ ⟨X.K,X.w,xw⟩ (X.hnd ea) (b0::suite) fh)(Q:autoParam (X.N.length=m) ATr)(hi:autoParam (X.N[i]?=Ā n) ATr)(s:yN X.env.scope n:=by exact Ð rfl)(O:autoParam (X.env.kindOf n=Ā .local) ATr)(hg:autoParam (Gl X r) ATr)(hd:autoParam ((r == ("__debug__" : ď))=ć) ATs):
  BS ⟨X.K,X.w,xw⟩ X (.Try body [.ExceptHandler (Ā (.Name r np)) (Ā n) (b0::suite) hpos] [] [] pos) (Ar known i m fb fh):=.mk (by
 refine(I9 F hN hi s O hg hm hd (λpins E=>(hb pins E).h) λea=>(hs ea).h).weak λD σ H=>aR λY ρ J S Rl P=>?_
 refine⟨λcls L q=>∃C ea,cls=.ref C/\L=Ā ea/\(W.exmOne X.K 3e2 (.ref R)=Ā ą/\∀g:St,g.length=X.N.length->me ⟨X.K,X.w,xw⟩ fh {nx:=λ_ _=>ł,rt:=D.rt} (g.set i (Ā (.ref ea))) q),
  λC ea q h=>?_,Y,ρ,J,S,Rl,?_⟩
 ·simp_all
 ·unfold Ar at P;cases e:fb ρ J with
  |ret d c=>rw[e]at P;exact P
  |next v c=>rw[e]at P;exact P
  |brk v c=>rw[e]at P;exact P
  |cnt v c=>rw[e]at P;exact P
  |bad=>rw[e]at P;exact P
  |exc x c=>
   rw[e]at P;dsimp only at P;by_cases M:known.contains x.cls=ą
   ·rw [RC M] at P;refine bb (hk x.cls (Wl.mp M)) λC G U=>?_;intro q b X' B;have X3:iK X.K H q Y b:=X'
    have core:∀(ea:Ĉ)(y:Hp),iK X.K q y b (b++[ea])->dA X.K X.w y (b++[ea]) (c++[Hf x])->∀g:St,g.length=X.N.length->me ⟨X.K,X.w,xw⟩ fh {nx:=λ_ _=>ł,rt:=D.rt} (g.set i (Ā (.ref ea))) y:=λea y X2 S2 g hσ=>by
     refine⟨b++[ea],_,_,S2,⟨by simp[hσ,Q],λj d μ=>?_⟩,(dw.from (p:=⟨X.K,X.w,xw⟩) (X3.trans X2) P).ro⟩;by_cases I:j=i
     ·subst I
      have t:j<(List.replicate m (Ă:Option _l.D)).length:=by
       have:=(Se.mp hi).1;simp;exact Ry this (RI Q)
      rw[Tg t]at μ;cases μ;refine⟨.ref ea,by rw[Tg (by rw[hσ];simpa[Q] using t)],aI.mpr ⟨ea,rfl,?_⟩⟩;have T:b.length=c.length:=B.len;rw[<- T,TU (Rx _)];simp
     ·rw[Th (R7 I),TV]at μ;split at μ <;> cases μ
    refine⟨C,G,λZ ea l=>⟨C,ea,rfl,rfl,U,core ea _ ((bB l).trans (gM [ea])) ?_⟩,λZ ea α l o u=>⟨C,ea,rfl,rfl,U,core ea _ ?_ ?_⟩⟩
    ·have s : Hf x = .exc x.cls := by unfold Hf; rw [Z]
     rw[s];exact dA.more B l ⟨C,Ă,G,aV⟩
    ·exact(bB o).trans ((bB (RM (aN (R7 u)) l)).trans (gM [ea]))
    ·have s:Hf x=.exn x.cls x.args:=by
      simp[Hf]
     rw[s];have S1:dA X.K X.w (bz q α (.xd (x.args.map λp=>(p.1,V.int p.2)))) b c:=B.same (bB o) λa ha=>aN λz=>ha (by rw[z];exact o);exact dA.more S1 (RM (aN (R7 u)) l) ⟨C,α,G,aV,by rw[aN u,aV]⟩
   ·rw [RE M] at P
    exact ę P)
theorem vO{f:Ĉ}{E:XK}:(mI CX P w K mg base N qual scope f cdv A outer s H E).nox.Fn:=⟨rfl,rfl,rfl⟩
theorem qJ{x:V}:∀{xs:List V}{us:List ā},aX xs us->xs.all iN=ą->us.countP (Hg x)=xs.countP λy=>w4 y x
 |_,_,.nil,_=>rfl
 |y::xs,u::us,.cons r t,f=>by
  rw[Ul,SE]at f;rw[Wm,Wm,vQ r f.1,qJ t f.2]
def Bh:V->List V->Hp->VK->Prop:=λx v H Q=>∃l S y,x=.ref l/\v=[y]/\H l=Ā (.lst S)/\iN y=ą/\S.all iN=ą/\Q (.int (S.countP λz=>w4 z y:ă)) H
def Bg:V->List V->Hp->VK->Prop:=λx v H Q=>∃l S y j,x=.ref l/\v=[y]/\H l=Ā (.lst S)/\iN y=ą/\S.all iN=ą/\(∃z,S[j]?=Ā z/\w4 z y=ą)/\(∀m z,m<j->S[m]?=Ā z->w4 z y=ć)/\S.length<1000/\Q (.int (j:ă)) H
section
variable{X:Cx}
theorem CW:Hi X "list.count" Bh:=by
 intro P s f H x c v U Q I b V h;obtain⟨l,S,y,rfl,rfl,hH,d,fs,q⟩:=h;cases b;obtain⟨u,rfl,R⟩:=V.one;obtain⟨z,i,n,r,L,e⟩:=I.lstM hH;refine Uo F.slot_list_count ⟨_,e,rfl⟩ F.entry_list_count (F.args_list_count_2 _ _) (SeqAt.list_countAt l i.toArray n Ă #[] u (Hg y)) ⟨e,λw W=>nY R d r fs w (by simpa using W),?_⟩;refine⟨.int (S.countP λz=>w4 z y:ă),H,I.tok _,⟨s.toks,?_⟩,q⟩;rw[<- qJ r fs]
theorem CV:Hi X "list.index" Bg:=by
 intro P s K H x E v C Q I o V h;obtain⟨l,S,y,j,rfl,rfl,hH,α,fs,⟨G,Z,T⟩,O,g,q⟩:=h;cases o;obtain⟨u,rfl,U⟩:=V.one;obtain⟨z,i,n,r,L,e⟩:=I.lstM hH;have t:j<S.length:=(Se.mp Z).1
 have B:∀m w,i[m]?=Ā w->∃z,S[m]?=Ā z/\Hg y w=w4 z y:=λm w W=>by
  have M:m<i.length:=(Se.mp W).1;have c:m<S.length:=by rw[r.length];exact M
  obtain⟨A,b,R⟩:=r.get (Vw c);rw[W]at b;cases b;exact⟨_,Vw c,vQ R (SL.mp fs _ (Wh c))⟩
 have N:=r.length;refine Uo F.slot_list_index ⟨_,e,rfl⟩ F.entry_list_index (F.args_list_index_2 _ _) (SeqAt.list_indexAt l i.toArray n Ă #[] u (Hg y) j (by rw[SJ];lia) 0e1 ?_ ?_) ⟨e,λw W=>nY U α r fs w (by simpa using W),?_⟩
 ·have W:i[j]?=Ā i[j]:=Vw 0e1;obtain⟨d,f,k⟩:=B j _ W;rw[Z]at f;cases f;show Hg y i.toArray[j]=ą;rw[List.getElem_toArray,k];exact T
 ·intro m M μ;have c:m<i.length:=by rw[SJ]at M;exact M
  obtain⟨d,f,k⟩:=B m _ (Vw c);rw[List.getElem_toArray,k];exact O m d μ f
 ·exact⟨.int (j:ă),H,I.tok _,⟨s.toks,rfl⟩,q⟩
end
noncomputable def iM:List D->ċ
 |[]=>ą
 |.bl _::r=>iM r
 |_::_=>ć
noncomputable def mK:D->ċ
 |.bl b=>b
 |_=>ć
theorem uR:∀{vs:List V},Reps K H Y xs vs->iM xs=ą->vs=xs.map λd=>V.bl (mK d):=by
 induction xs with
 |nil=>simp[Reps]
 |cons d r I=>
  intro vs h q;simp only[Reps]at h;obtain⟨v,R,rfl,c,f⟩:=h;cases d with
  |bl b=>rw[aP.mp c,I f (by simpa only[iM] using q)];rfl
  |non=>simp_all[iM]
  |int i=>simp_all[iM]
  |str i=>simp_all[iM]
  |tup i=>simp_all[iM]
  |frz i=>simp_all[iM]
  |obj i=>simp_all[iM]
theorem oi:∀xs:List D,(xs.map λd=>V.bl (mK d)).all iN=ą
 |[]=>rfl
 |_::xs=>by rw[SH,Ul,oi xs];rfl
def g8(d:D)(ds:List D)(J:az):aj D:=match d,ds with
 |.obj n,[.bl ą]=>match J[n]? with
  |some (.lst S)=>if iM S=ą then .ok (.int (S.countP mK:ă)) J else .bad
  |_=>.bad
 |_,_=>.bad
def g7(d:D)(ds:List D)(J:az):aj D:=match d,ds with
 |.obj n,[.bl ą]=>match J[n]? with
  |some (.lst S)=>if iM S=ą/\S.length<1000/\S.any mK=ą then .ok (.int (S.findIdx mK:ă)) J else .bad
  |_=>.bad
 |_,_=>.bad
section
theorem zr:Ld p g8 Bh:=by
 intro d s v j H k l Q S D R P;unfold g8 at P;split at P
 ·split at P
  ·rename_i n x f;split at P
   ·rename_i B;refine aJ (bS S D f) λa U g A b r=>?_;subst g;have V:=uR r B;simp only[Reps]at R;obtain⟨y,i,rfl,c,rfl⟩:=R;rw[aP.mp c];refine⟨a,U,.bl ą,rfl,rfl,b,rfl,by rw[V];exact oi x,?_⟩;have z:=P.now S (.int (x.countP mK:ă)) (ao.mpr rfl)
    have e:(U.countP λz=>w4 z (.bl ą))=x.countP mK:=by
     rw[V,Wn];congr 1;funext d;cases h:mK d <;> simp[w4,h]
    rw[e];exact z
   ·exact P.elim
  ·exact P.elim
 ·exact P.elim
theorem zq:Ld p g7 Bg:=by
 intro d s v j H k l Q S D R P;unfold g7 at P;split at P
 ·split at P
  ·rename_i n x f;split at P
   ·rename_i B;refine gF B λB N α=>?_;refine aJ (bS S D f) λa U g A b r=>?_;subst g;have V:=uR r B;simp only[Reps]at R;obtain⟨y,i,rfl,c,rfl⟩:=R;rw[aP.mp c];have h:x.findIdx mK<x.length:=List.findIdx_lt_length_of_exists (by simpa using α);refine⟨a,U,.bl ą,x.findIdx mK,rfl,rfl,b,rfl,by rw[V];exact oi x,⟨.bl ą,?_,rfl⟩,λm z M Z=>?_,by simp_all,P.now S (.int (x.findIdx mK:ă)) (ao.mpr rfl)⟩
    ·rw[V,SS,Vw h];have:=List.findIdx_getElem (w:=h);simp[this]
    ·rw [V, SS, Vw (by exact RU M h : m < x.length)] at Z;cases Z;have F:=List.not_of_lt_findIdx M;show (mK _ == ą)=ć
     lia
   ·exact P.elim
  ·exact P.elim
 ·exact P.elim
end
noncomputable def jA(subs known:List ď)(d:D)(J:az):aj D:=match d with
 |.obj n=>match J[n]? with
  |some (.exc c)=>if known.contains c=ą then .ok (.bl (subs.contains c)) J else .bad
  |some (.exn c _)=>if known.contains c=ą then .ok (.bl (subs.contains c)) J else .bad
  |_=>.bad
 |_=>.bad
def bF(K:W.Frag)(u:ā)(subs known:List ď):Prop:=∀c∈known,∃C,W.nsIn K Ĝ c=Ā (Ā 3e2)/\W.excCls K C=ą/\W.kitOne K 3e2 u=Ā (subs.contains c)
theorem Bq{x:V}{Q:VK}(hK:K=p.K)(m:bF K u subs known)(U:bA v u)(S:(p.S H Y J))(r:p.R H Y d x)(P:aD p H Y (jA subs known d J) (RV p Q)):LH K u [x,v] H Q:=by
 subst hK;unfold jA at P;split at P
 ·split at P
  ·rename_i n c i;split at P
   ·rename_i g;obtain⟨a,A,C,b,h,f⟩:=S.at i;obtain⟨q,rfl,E⟩:=aI.mp r;rw[A]at E;cases E;refine bo (m c (Wl.mp g)) λo k j l=>?_;rw[h]at k;cases k;exact⟨a,C,_,v,rfl,U,⟨b,f⟩,j,l,P.now S _ (aP.mpr rfl)⟩
   ·exact P.elim
  ·rename_i n c fs i;split at P
   ·rename_i g;obtain⟨a,A,C,b,h,f,_⟩:=S.at i;obtain⟨q,rfl,E⟩:=aI.mp r;rw[A]at E;cases E;refine bo (m c (Wl.mp g)) λo k j l=>?_;rw[h]at k;cases k;exact⟨a,C,_,v,rfl,U,⟨Ā b,f⟩,j,l,P.now S _ (aP.mpr rfl)⟩
   ·exact P.elim
  ·exact P.elim
 ·exact P.elim
section
variable{X:Cx}{a:Expr}{fo:ME}{pt:Ľ}{xT:ď}
theorem Mp {C:Ĉ} (k:bF X.K 3e2 subs known) (m:X.mg "isinstance" = Ă) (hmT:X.mg xT=Ā 3e2) (A:(BE p X a fa)) (N:autoParam (Gl X "isinstance") ATr) (hgT:autoParam (Gl X xT) ATr) (hdT:autoParam ((xT == ("__debug__" : ď))=ć) ATs)
  (f:(autoParam (ĉ [a,.Name xT pt] 1e4=(ć,eval a 1e4)::ĉ [.Name xT pt] 1e4) ATr)) (hK:0e9):BE p X (.Call (.Name "isinstance" px) [a,.Name xT pt] [] pos) (iu (jA subs known) fa):=.mk (by
 have B:PE X (.Name xT pt) (tC 3e2):=rK hgT hmT rfl hdT;refine(kT (uQ (u:=.ref C) λv w c j=>?_) N m V3 (fM A.h (fM B lJ rfl) f) 0e3 0e3 f rfl).weak λE H Q=>aR λl s o S R P=>⟨l,s,o,S,R,(aD.bind P).imp λd q x n y i g v r=>?_⟩
 ·cases v with
  |ref b=>cases (show đ C=đ b from c);exact j
  |non=>cases (show đ C=Ę from c)
  |bl b=>cases (show đ C=Ŏ b from c)
  |int b=>obtain⟨t,z⟩:=(show ∃t,đ C=ä b t from c);cases z
  |str b=>obtain⟨t,z⟩:=(show ∃t,đ C=R_ b t from c);cases z
  |byt b=>obtain⟨t,z⟩:=(show ∃t,đ C=XS b t from c);cases z
  |flt b=>obtain⟨t,z⟩:=(show ∃t,đ C=XR b t from c);cases z
  |ty b=>cases (show đ C=ģ b from c)
 ·exact Bq hK k rfl i r g)
theorem HQ {T:Ī} (k:bF X.K (.type T) subs known) (m:X.mg "isinstance" = Ă) (hmT:X.mg xT=Ă) (hbT:Ġ xT=Ā (.type T)) (A:(BE p X a fa)) (N:autoParam (Gl X "isinstance") ATr) (hgT:autoParam (Gl X xT) ATr) (hnT:autoParam (xT ≠ "__name__") ATs) (hdT:autoParam ((xT == ("__debug__" : ď))=ć) ATs)
  (f:(autoParam (ĉ [a,.Name xT pt] 1e4=(ć,eval a 1e4)::ĉ [.Name xT pt] 1e4) ATr)) (hK:0e9):BE p X (.Call (.Name "isinstance" px) [a,.Name xT pt] [] pos) (iu (jA subs known) fa):=.mk (by
 have B:PE X (.Name xT pt) (tC (.ty T)):=x3 hgT hmT hbT rfl hnT hdT;refine(kT (uQ (u:=.type T) λv w c j=>?_) N m V3 (fM A.h (fM B lJ rfl) f) 0e3 0e3 f rfl).weak λC H Q=>aR λl s o S R P=>⟨l,s,o,S,R,(aD.bind P).imp λd q x n y i g v r=>?_⟩
 ·cases v with
  |ty b=>cases (show ģ T=ģ b from c);exact j
  |non=>cases (show ģ T=Ę from c)
  |bl b=>cases (show ģ T=Ŏ b from c)
  |int b=>obtain⟨t,z⟩:=(show ∃t,ģ T=ä b t from c);cases z
  |str b=>obtain⟨t,z⟩:=(show ∃t,ģ T=R_ b t from c);cases z
  |byt b=>obtain⟨t,z⟩:=(show ∃t,ģ T=XS b t from c);cases z
  |flt b=>obtain⟨t,z⟩:=(show ∃t,ģ T=XR b t from c);cases z
  |ref b=>cases (show ģ T=đ b from c)
 ·exact Bq hK k rfl i r g)
theorem Mr (O:BE p X ob fo) (H:BA p X [e] fr) (hbase:autoParam (ĩ ob "count" X.env (eval ob 1e4)=eval ob 1e4) ATr) (W:autoParam (((Ħ pos (ĉ [e] 1e4)).all (λx=>!x.1)&&(Š pos (ō [] 1e4)).all (λx=>x.1.isSome)
   && decide ([e].length+([]:List ŋ).length+(if ([]:List ŋ).isEmpty then 0 else 1)<30))=ą) ATr) (hline:(autoParam ((apos.endLine == pos.line)=ą) ATr)) (hs:(autoParam (ĉ [e] 1e4=(ć,eval e 1e4)::ĉ [] 1e4) ATr)) (L:(autoParam ((Ħ pos (ĉ [] 1e4)).any 4e2=ć) ATr)) (hK:0e9):BE p X (.Call (.Attribute ob "count" apos) [e] [] pos) (oW g8 fo fr):=
 ⟨xb hK PySem.F.slot_list_count PySem.F.type_list_count CW zr O.h H.h hbase W hline hs L⟩
theorem Mq (O:BE p X ob fo) (H:BA p X [e] fr) (hbase:autoParam (ĩ ob "index" X.env (eval ob 1e4)=eval ob 1e4) ATr) (W:autoParam (((Ħ pos (ĉ [e] 1e4)).all (λx=>!x.1)&&(Š pos (ō [] 1e4)).all (λx=>x.1.isSome)
   && decide ([e].length+([]:List ŋ).length+(if ([]:List ŋ).isEmpty then 0 else 1)<30))=ą) ATr) (hline:(autoParam ((apos.endLine == pos.line)=ą) ATr)) (hs:(autoParam (ĉ [e] 1e4=(ć,eval e 1e4)::ĉ [] 1e4) ATr)) (L:(autoParam ((Ħ pos (ĉ [] 1e4)).any 4e2=ć) ATr)) (hK:0e9):BE p X (.Call (.Attribute ob "index" apos) [e] [] pos) (oW g7 fo fr):=
 ⟨xb hK PySem.F.slot_list_index PySem.F.type_list_index CV zq O.h H.h hbase W hline hs L⟩
end
structure Az(P:č)(w:ē)(K:W.Frag)(mg:3e6)(base:Ĕ)(p:Pa)(k:ă)(x:ď)(n:ă)(F:2e5):Prop where
 len:∀ds J,ds.length≠n->F ds J=.bad
 fn:∃f fd ps,mg x=Ā (.ref f)/\W.keepIn K (.ref f)=ą/\cW K fd ps []/\tN P w K mg base sY k f fd ps (Dr p n F)
theorem HI{k:ă}{f:Ĉ}{ps:List ď}(F:(ke K x qual st f fd))(S:cH N ps (aF st))(t:ps.length=n)(M:mg x=Ā (.ref f))(B:cW K fd ps [])(body : ∀ (cdv : ā) (A : Đ) (outer : List Ŋ) (s : Ą) (H : Hp) (E : XK), dv k (A.deeper (Ŀ qual (aF st) 0e0 f cdv)) ->
   sZ p (mq sY P w K mg base N qual (aF st) f cdv A outer s H E).nox (bt st) fb):Az P w K mg base p (k+1) x n (fF n N.length fb):=by
 refine⟨λD l h=>by simp_all[fF],f,fd,ps,M,F.kp,B,?_⟩;refine F.okH S (λy H Q E h=>h.1.trans t.symm) λcdv A outer s H y Q E u h=>?_;refine⟨_,(body cdv A outer s H E u).h,?_⟩;obtain⟨L,z,D,l,m,R,j⟩:=h;unfold fF at j;have q:D.length=n:=by rw[<- R.length];exact L
 rw[RC q]at j;have i:=mX m j;unfold start;rw[L];refine⟨z,_,l,m,hZ R _,?_⟩;cases e:fb (D.map Ā++List.replicate (N.length-n) Ă) l with
 |ret d b=>rw[e]at i;exact λg c v x s r=>i g c x s v r
 |next o b=>rw[e]at i;exact λg c C x s r=>i g c x s .non (bp.mpr rfl)
 |exc x b=>rw[e]at i;exact i
 |brk o b=>rw[e]at i;exact i.elim
 |cnt o b=>rw[e]at i;exact i.elim
 |bad=>rw[e]at i;exact i.elim
theorem Ea{X:Cx}{k:ă}{F:2e5}{a:Expr}{es:4e1}(h:Az X.prog X.w X.K X.mg X.base p k x n F)(v:dv k X.A)(t:BA p X (a::es) fr)(N:(autoParam (Gl X x) ATr))(B:1e0)(u:(autoParam (ĉ (a::es) 1e4=(ć,eval a 1e4)::ĉ es 1e4) ATr))(L:2e7):BE p X (.Call (.Name x px) (a::es) [] pos) (aA F fr):=.mk (by
 refine cF h.fn λf μ ps j m o q=>?_;refine(CM (dvs:=[]) (E:=E0) q v N j m o .nil AM t.h B u L).weak λM H Q=>aR λz G C S R P=>⟨z,G,C,S,R,(aD.bind P).imp λs d c i I g b y r=>?_⟩;show Dr p n F (y++[]) c Q E0;rw[TC];refine⟨?_,i,s,d,g,r,b⟩;by_cases l:s.length=n
 ·rw[r.length];exact l
 ·rw[h.len s d l]at b;exact b.elim)
theorem pR:Ġ "ValueError" = Ā (.type "ValueError"):=PyProof.Rows.Boot.«ValueError»
def C0(K:W.Frag)(u:ā)(subs known:List ď):ċ:=known.all λc=>match W.nsIn K Ĝ c with
 |some (Ā 3e2)=>W.excCls K C&&W.kitOne K 3e2 u == Ā (subs.contains c)
 |_=>ć
theorem bF.of(h:C0 K u subs known=ą):bF K u subs known:=λc H=>by
 have q:=SL.mp h c H;split at q
 ·rename_i C e;rw[SE]at q;exact⟨C,e,q.1,VJ.mp q.2⟩
 ·cases q
def μ5(K:W.Frag)(R:Ĉ)(known:List ď):ċ:=known.all λc=>match W.nsIn K Ĝ c with
 |some (Ā 3e2)=>W.exmOne K 3e2 (.ref R) == Ā ą
 |_=>ć
theorem tL.of{r:ď}{R:Ĉ}(h:μ5 K R known=ą):tL K r R known:=λc H=>by
 have q:=SL.mp h c H;split at q
 ·rename_i C e;exact⟨C,e,VJ.mp q⟩
 ·cases q
noncomputable abbrev nu:D->D->az->aj D:=DF AA λi j=>.int (i*2^j.toNat)
noncomputable abbrev tq:D->D->az->aj D:=DF (λ_ j=>0<=j) λi j=>.int (i / 2^j.toNat)
abbrev kk:D->D->az->aj D:=dI λi j=>.int (Builtin.bitAnd i j)
abbrev GE:D->D->az->aj D:=dI λi j=>.int (Builtin.bitOr i j)
section
variable{X:Cx}{a b:Expr}{fb:ME}
theorem Mg(A:(BE p X a fa))(B:(BE p X b fb)):BE p X (.BinOp a .LShift b pos) (au nu fa fb):=⟨gD Jv (tF λ_ _ _ _=>ao.mpr rfl) A.h B.h⟩
theorem Mf(A:(BE p X a fa))(B:(BE p X b fb)):BE p X (.BinOp a .RShift b pos) (au tq fa fb):=⟨gD Ju (tF λ_ _ _ _=>ao.mpr rfl) A.h B.h⟩
theorem HV(A:(BE p X a fa))(B:(BE p X b fb)):BE p X (.BinOp a .BitAnd b pos) (au kk fa fb):=⟨gD JF (Hr λ_ _ _ _=>ao.mpr rfl) A.h B.h⟩
theorem Mt(A:(BE p X a fa))(B:(BE p X b fb)):BE p X (.BinOp a .BitOr b pos) (au GE fa fb):=⟨gD Nz (Hr λ_ _ _ _=>ao.mpr rfl) A.h B.h⟩
end
section
variable(K:W.Frag)(H:Hp)
mutual
def oY:ė->V->Prop
 |.none,v=>v=.non
 |.bool b,v=>v=.bl b
 |.int i,v=>v=.int i
 |.str x,v=>v=.str x
 |.tuple xs,v=>∃a vs,v=.ref a/\eQ K H a vs/\RdGs xs vs
 |.list xs,v=>∃a vs,v=.ref a/\dZ K H a vs/\RdGs xs vs
 |.dict kvs,v=>kvs=[]/\∃a,v=.ref a/\H a=Ā (.dK [])
def RdGs:List ė->List V->Prop
 |[],vs=>vs=[]
 |x::xs,vs=>∃v r,vs=v::r/\oY x v/\RdGs xs r
end
end
mutual
def K7:ė->ċ
 |.list _=>ć
 |.tuple xs=>noLs xs
 |_=>ą
def noLs:List ė->ċ
 |[]=>ą
 |x::xs=>K7 x&&noLs xs
end
section
variable{X:Cx}
mutual
theorem qp(I:0e4):∀(d:ė)(x:V)(v:ā),oY X.K H d x->bA x v->∃as,Ev 1e9 v d as/\(K7 d=ą->ń∉as)
 |.none,_,_,h,r=>by simp only[oY]at h;subst h;cases r;exact⟨_,.none,λ_ z=>by cases z⟩
 |.bool b,_,_,h,r=>by simp only[oY]at h;subst h;cases r;exact⟨_,.bool b,λ_ z=>by cases z⟩
 |.int b,_,_,h,r=>by simp only[oY]at h;subst h;obtain⟨t,rfl⟩:=r;exact⟨_,.int b t,λ_ z=>by cases z⟩
 |.str b,_,_,h,r=>by simp only[oY]at h;subst h;obtain⟨t,rfl⟩:=r;exact⟨_,.str b t,λ_ z=>by cases z⟩
 |.tuple xs,_,_,h,r=>by
  simp only[oY]at h;refine aU h λa vs v3 h1 h2=>?_;subst v3;cases r;refine bo (I.tuple h1) λits rv v4 _=>?_;obtain⟨o,e1,e2,n,e3⟩:=v4;refine bb (readsAllG_of I xs vs its h2 rv) λas q hn=>?_;exact⟨_,.tuple e1 e2 e3 (by simpa using q),λz=>hn (by simpa only[K7] using z)⟩
 |.list xs,_,_,h,r=>by
  simp only[oY]at h;refine aU h λa vs v5 h1 h2=>?_;subst v5;cases r;refine bo (I.list h1) λits rv v6 _=>?_;refine aJ v6 λo n e1 e2 _ e3=>?_;refine bb (readsAllG_of I xs vs its h2 rv) λas q _=>?_;exact⟨_,.list e1 e2 e3 (by simpa using q),λz=>by grind [K7]⟩
 |.dict kvs,_,_,h,r=>by
  simp only[oY]at h;obtain⟨rfl,a,rfl,h1⟩:=h;cases r;obtain⟨_,hS,vs,rv,o,es,n,e1,e2,e3,_,e4,_⟩:([]:List (sP×V)).length<=sizeLine/\(a == ń)=ć/\∃vs,KV ([]:List (sP×V)) vs/\s.heap.DictOf (mU X.prog X.w) a vs:=I.hok a _ h1;cases rv
  have hes:es.toList=[]:=by
   generalize es.toList=l at e4;cases e4;rfl
  refine⟨[a]++[],Ev.dict (as:=[]) (bs:=[]) e1 e2.1 e3 ?_ ?_,λ_ z=>?_⟩
  ·rw[hes];exact .nil
  ·rw[hes];exact .nil
  simp_all
theorem readsAllG_of(I:0e4):∀(ds:List ė)(xs:List V)(vs:List ā),RdGs X.K H ds xs->aX xs vs->∃as,ŝ 1e9 vs ds as/\(noLs ds=ą->ń∉as)
 |[],_,_,h,r=>by simp only[RdGs]at h;subst h;cases r;exact⟨_,.nil,λ_ z=>by cases z⟩
 |d::ds,_,_,h,r=>by
  simp only[RdGs]at h;refine aU h λv q v9 h1 h2=>?_;subst v9;cases r with
  |cons r rr=>
   refine bb (qp I d _ _ h1 r) λas g1 n1=>?_;refine bb (readsAllG_of I ds _ _ h2 rr) λbs g2 n2=>?_;refine⟨_,.cons g1 g2,λz=>?_⟩;simp only[noLs,SE]at z;intro y;rcases Te.mp y with y|y
   ·exact n1 z.1 y
   ·exact n2 z.2 y
end
end
def Be(K:W.Frag):List V->Hp->VK->Prop:=λS H Q=>(∃a d,S=[.ref a]/\oY K H d (.ref a)/\d.showable=ą/\(d.hasDict=ą->K7 d=ą)/\d.depth<=60/\d.shown.length<=sizeLine/\Q (.str d.shown) H) \/
 (S=[.non]/\Q (.str "None") H)\/(∃a:Ć,S=[.int a]/\a.natAbs.log2<1920/\Q (.str (F_ a)) H)\/(∃b:ċ,S=[.bl b]/\Q (.str (if b then "True" else "False")) H)\/∃x:ď,S=[.str x]/\(Xv x).length<=sizeLine/\Q (.str (Xv x)) H
theorem wO {X:Cx} (U:3e8) (N:X.A.guards=Ā []):b8 X (.builtin "repr") (Be X.K):=by
 intro pins s σ H o m Q I r h;rcases h with⟨a,d,rfl,c,S,D,g,Z,q⟩|⟨rfl,q⟩|⟨a,rfl,f,q⟩|⟨b,rfl,q⟩|⟨x,rfl,i,q⟩
 ·obtain⟨u,rfl,R⟩:=dU r;cases R;refine bb (qp I d (.ref a) (.ref a) c rfl) λW j n=>?_;exact PySem.repr_of_reads' (h₀:=1e9) j S (λz=>n (D z)) N 0e1 (λ_ _ e=>e) (λl u T k=>⟨.str _,H,I.kept k,⟨u,rfl⟩,q⟩) Z
 ·obtain⟨u,rfl,R⟩:=dU r;cases R;exact PySem.P.repr_of_none ⟨.str _,H,I.kept (λ_ _ e=>e),⟨_,rfl⟩,q⟩
 ·obtain⟨u,rfl,t,rfl⟩:=dU r;exact PySem.P.repr_of_int f ⟨.str _,H,I.kept (λ_ _ e=>e),⟨_,rfl⟩,q⟩
 ·obtain⟨u,rfl,R⟩:=dU r;cases R;refine PySem.P.repr_of_bool ⟨.str _,H,I.kept (λ_ _ e=>e),⟨_,rfl⟩,?_⟩;cases b <;> exact q
 ·obtain⟨u,rfl,t,rfl⟩:=dU r;exact PySem.P.repr_of_str ⟨.str _,H,I.kept (λ_ _ e=>e),⟨_,rfl⟩,q⟩ i
noncomputable def AQ:D->Option ė
 |.non=>Ā .none
 |.bl b=>Ā (.bool b)
 |.int i=>Ā (.int i)
 |.str x=>Ā (.str x)
 |_=>Ă
def gU(f:D->Option ė):List D->Option (List ė)
 |[]=>Ā []
 |x::S=>(f x).bind λa=>(gU f S).map λr=>a::r
def sT(J:az):ă->D->Option ė
 |0,d=>AQ d
 |n+1,d=>match d with
  |.tup S=>(gU (sT J n) S).map .tuple
  |.frz S=>(gU (sT J n) S).map .list
  |.obj k=>match J[k]? with
   |some (.lst S)=>(gU (sT J n) S).map .list
   |some .dic=>Ā (.dict [])
   |_=>Ă
  |d=>AQ d
section
theorem uL{q:ė}(h:AQ d=Ā q)(r:aM K H Y d v):oY K H q v:=by
 cases d with
 |non=>cases h;simp only[oY];exact bp.mp r
 |bl b=>cases h;simp only[oY];exact aP.mp r
 |int b=>cases h;simp only[oY];exact ao.mp r
 |str b=>cases h;simp only[oY];exact a7.mp r
 |tup _=>cases h
 |frz _=>cases h
 |obj _=>cases h
theorem rP{f:D->Option ė}(F:∀d q v,f d=Ā q->aM K H Y d v->oY K H q v):∀{ds:List D}{qs:List ė}{vs:List V},gU f ds=Ā qs->Reps K H Y ds vs->RdGs K H qs vs:=by
 intro ds
 induction ds with
 |nil=>intro qs vs h r;cases h;simp only[Reps]at r;simp only[RdGs];exact r
 |cons d ds i=>
  intro qs vs h r;simp only[gU]at h;cases E:f d with
  |none=>rw[E]at h;cases h
  |some a=>
   rw[E]at h;cases m:gU f ds with
   |none=>rw[m]at h;cases h
   |some t=>
    rw[m]at h;cases h;simp only[Reps]at r;obtain⟨v,R,rfl,c,e⟩:=r;simp only[RdGs];exact⟨v,R,rfl,F d a v E c,i m e⟩
theorem H8(S:(dA K w H Y J)):∀(n:ă)(d:D)(q:ė)(v:V),sT J n d=Ā q->aM K H Y d v->oY K H q v:=by
 intro n
 induction n with
 |zero=>intro d q v h r;exact uL h r
 |succ n i=>
  intro d q v h r;unfold sT at h;split at h
  ·rename_i x;cases e:gU (sT J n) x with
   |none=>rw[e]at h;cases h
   |some Q=>
    rw[e]at h;cases h;obtain⟨a,U,rfl,c,f⟩:=aH.mp r;simp only[oY];exact⟨a,U,rfl,c,rP i e f⟩
  ·rename_i x;cases e:gU (sT J n) x with
   |none=>rw[e]at h;cases h
   |some Q=>
    rw[e]at h;cases h;obtain⟨a,U,rfl,c,f⟩:=bh.mp r;simp only[oY];exact⟨a,U,rfl,c.sq,rP i e f⟩
  ·rename_i k;split at h
   ·rename_i x g;cases e:gU (sT J n) x with
    |none=>rw[e]at h;cases h
    |some Q=>
     rw[e]at h;cases h;refine jE (S.at g) λa A U c f=>?_;obtain⟨j,rfl,E⟩:=aI.mp r;rw[A]at E;cases E;simp only[oY];exact⟨a,U,rfl,.inl (.inl c),rP i e f⟩
   ·rename_i g;cases h;obtain⟨a,A,c⟩:=S.at g;obtain⟨j,rfl,E⟩:=aI.mp r;rw[A]at E;cases E;simp only[oY];exact⟨trivial,a,rfl,c⟩
   ·cases h
  ·exact uL h r
end
noncomputable def kE(q:ė):ċ:=q.showable&&(!q.hasDict || K7 q)&&decide (q.depth<=60)&&decide (q.shown.length<=sizeLine)
def ck(ds:List D)(J:az):aj D:=match ds with
 |[.non]=>.ok (.str "None") J
 |[.int a]=>if a.natAbs.log2<1920 then .ok (.str (F_ a)) J else .bad
 |[.bl b]=>.ok (.str (if b then "True" else "False")) J
 |[.str x]=>if (Xv x).length<=sizeLine then .ok (.str (Xv x)) J else .bad
 |[d]=>match sT J 5 d with
  |some q=>if vM d=ą/\kE q=ą then .ok (.str q.shown) J else .bad
  |none=>.bad
 |_=>.bad
theorem CQ:sN p ck (Be p.K):=by
 intro D y H Y J Q S r P;unfold ck at P;split at P
 ·obtain⟨v,rfl,R⟩:=r.one;rw[bp.mp R];exact .inr (.inl ⟨rfl,P.now S _ (a7.mpr rfl)⟩)
 ·obtain ⟨v, rfl, R⟩ := r.one;rw[ao.mp R];split at P
  ·rename_i h;exact .inr (.inr (.inl ⟨_,rfl,h,P.now S _ (a7.mpr rfl)⟩))
  ·exact P.elim
 ·obtain⟨v,rfl,R⟩:=r.one;rw[aP.mp R];exact .inr (.inr (.inr (.inl ⟨_,rfl,P.now S _ (a7.mpr rfl)⟩)))
 ·obtain ⟨v, rfl, R⟩ := r.one;rw[a7.mp R];split at P
  ·rename_i h;exact .inr (.inr (.inr (.inr ⟨_,rfl,h,P.now S _ (a7.mpr rfl)⟩)))
  ·exact P.elim
 ·rename_i d _ _ _ _;split at P
  ·rename_i q f;split at P
   ·rename_i F;obtain⟨v,rfl,R⟩:=r.one;obtain⟨a,rfl⟩:=wB F.1 R;have c:=F.2;unfold kE at c;simp only[SE,SG]at c;refine .inl ⟨a,q,rfl,H8 S 5 d q _ f R,c.1.1.1,λz=>?_,c.1.2,c.2,P.now S _ (a7.mpr rfl)⟩;have e:=c.1.1.2;rw[z]at e;simpa using e
   ·exact P.elim
  ·exact P.elim
 ·exact P.elim
theorem Gs{X:Cx}{k:ă}(h:cU k X.A)(hK:0e9):ny X p "repr" ck:=⟨_,_,.inl ⟨_,rfl⟩,by decide +kernel,wO h.units h.gd,hK ▸ CQ,by decide,by decide⟩
def Pk(X:Cx)(p:Pa)(f:Ĉ)(F:2e5):Prop:=W.keepIn X.K (.ref f)=ą /\
 ∀(P:2e0)(c:St)(H:Hp)(s:Ą)(Q:VK)(U:List ā)(y:List V)(h:List Ĉ)(d:List D)(b:az),aO X P c H s->aX y U->dA X.K X.w H h b->Reps X.K H h d y->aD p H h (F d b) (RV p Q) ->
  Ċ 1e2 X.A (call (.ref f) U) (EP X P c Q) X.xe s
inductive yM(X:Cx)(p:Pa):List Expr->List 2e5->List Ĉ->Prop where
 |nil:yM X p [] [] []
 |cons {x:ď}{q:Ľ}{f:Ĉ}{F:2e5}{es:4e1}{Fs:List 2e5}{fs:List Ĉ} (hg:Gl X x) (hm:X.mg x=Ā (.ref f)) (hdb:(x == ("__debug__" : ď))=ć) (h:Pk X p f F) (r:yM X p es Fs fs) :
   yM X p (.Name x q::es) (F::Fs) (f::fs)
def QI(vs:List V):TA:=λ_ H Q=>Q vs H
section
variable{X:Cx}{es:4e1}{Fs:List 2e5}{fs:List Ĉ}
theorem yM.pa(h:yM X p es Fs fs):PA X es (QI (fs.map V.ref)):=by
 induction h with
 |nil=>exact lJ
 | @cons x q f F es Fs fs N m B h r I=>exact fM (rK (v:=.ref f) N m rfl B) I
theorem yM.len(h:yM X p es Fs fs):fs.length=Fs.length:=by
 induction h with
 |nil=>rfl
 |cons N m B h r I=>simp_all
theorem yM.get(h:yM X p es Fs fs):∀(i:ă)(F:2e5),Fs[i]?=Ā F->∃f,fs[i]?=Ā f/\Pk X p f F:=by
 induction h with
 |nil=>intro i F e;cases e
 |cons N m B h r I=>
  intro i F e;cases i with
  |zero=>simp_all
  |succ i=>exact I i F e
end
def xn(Fs:List 2e5)(i:ă)(fr:MA):ME:=λe d=>match e[i]? with
 |some (Ā (.int j))=>if 0<=j then (match Fs[j.toNat]? with
   |some F=>(fr e d).bind F
   |none=>.bad) else .bad
 |_=>.bad
section
variable{X:Cx}{es:4e1}{Fs:List 2e5}{a:Expr}{as:4e1}{ps pl pn:Ľ}
theorem lu(o b:Expr)(sp:Ľ)(args:4e1)(keywords:List ŋ)(pos:Ľ)(env:Ŋ):eval (.Call (.Subscript o b sp) args keywords pos) env=(do
  callWith pos (<- eval (.Subscript o b sp) env) [] (Ħ pos (ĉ args env)) (Š pos (ō keywords env))):=rfl
theorem HM (hs:∃fs,yM X p es Fs fs) (B:BA p X (a::as) fr) (hn:autoParam (Fs.length<=8) ATs) (hN:(autoParam (X.N[i]?=Ā x) ATr)) (hv:Du X.env.scope x:=by first|exact Ð rfl|exact Ï (Ð rfl)|exact Ï (Ï rfl)) (hd:1e0) (C:(autoParam ((x == ("__classdict__" : ď))=ć) ATs))
  (hK:0e9) (hw:autoParam (X.w=p.w) ATr) (he:autoParam (ĉ (a::as) 1e4=(ć,eval a 1e4)::ĉ as 1e4) ATr) (L:autoParam ((Ħ pos (ĉ as 1e4)).any 4e2=ć) ATr) :
  BE p X (.Call (.Subscript (.List es pl) (.Name x pn) ps) (a::as) [] pos) (xn Fs i fr):=.mk (by
 obtain⟨fs,hs⟩:=hs;intro b s α H Q I ⟨o,U,μ,S,R,P⟩;unfold xn at P
 obtain⟨j,F,e1,h0,e2,P⟩:∃(j:Ć)(F:2e5),U[i]?=Ā (Ā (.int j))/\0<=j/\Fs[j.toNat]?=Ā F/\aD p H o ((fr U μ).bind F) (RV p Q):=by
  split at P
  ·rename_i j e;split at P
   ·rename_i h0;split at P
    ·simp_all
    ·exact P.elim
   ·exact P.elim
  ·exact P.elim
 refine bo (hs.get _ _ e2) λf e3 k1 k2=>?_;refine bb (R.at' i _ e1) λv g1 g2=>?_;have g3:=ao.mp g2;subst g3;have m:(fs.map V.ref).length=Fs.length:=by rw[Us,hs.len]
 have hj:j.toNat<Fs.length:=(Se.mp e2).1
 have T:atI (fs.map V.ref) j=Ā (.ref f):=by
  simp_all[atI,vk]
 have E1:PE X (.Subscript (.List es pl) (.Name x pn) ps) (Li (Hn X.K) (Ly (QI (fs.map V.ref))) (Hk i)):=AL yh (Bl hs.pa) (lI hN hv hd C) (λ_ _=>rfl);rw[lu];refine Tn (cB (E1 b s α H (λv Z=>v=.ref f/\∃q,H q=Ă/\Z=bz H q (.lst (fs.map V.ref))) I ?_) λu s1 ⟨v,Z,O,r1,G,q,r,hH1⟩=>?_)
 ·refine⟨by rw[m];exact RH hn 0e3,λq r=>⟨_,g1,q,fs.map V.ref,j,.ref f,rfl,rfl,dZ.of aV,T,rfl,q,r,rfl⟩⟩
 ·subst G hH1;cases r1;have A:p.X H (bz H q (.lst (fs.map V.ref))) o o:=bB r;have S1:p.S (bz H q (.lst (fs.map V.ref))) o μ:=S.same A λa B=>aN λz=>B (by rw[z];exact r);refine W.callWith_K (h₀:=X.base) O.ok.mod.kin k1 (cB (B.h pos b s1 α _ (λy l=>∃d g c,dA X.K X.w l d c/\Reps X.K l d g y/\aD p l d (F g c) (RV p Q)) O ?_) λus s2 ⟨y,l,I2,r2,d,g,c,S2,R2,t⟩=>⟨I2.kIn,?_⟩) he L
  ·refine ⟨o, U, μ, S1, R.mono A, (aD.bind (aD.from A P)).imp λg M l d X2 S2 t y rv => ⟨d, g, M, ?_, ?_, t⟩⟩
   all_goals lia
  ·exact k2 b α l s2 Q us y d g c I2 r2 S2 R2 t)
end
section
variable{X:Cx}{E:XK}{k:ă}{F:2e5}
theorem PL(h:q0 X.prog X.w X.K X.mg X.base k x n F)(m:gZ (DK X.prog X.w) X E)(o:cU k X.A):∃f,X.mg x=Ā (.ref f)/\Pk X (Ds X.K X.w E) f F:=by
 refine cF h.fn λf D ps e g j l=>?_;refine⟨f,e,g,λb t H s Q U y q d c I r S R P=>?_⟩;refine Bc (dvs:=[]) (ds:=[]) (E:=E) l o j .nil m I r ?_;show OS X.K X.w n F (y++[]) H Q E;rw[TC];refine⟨?_,q,d,c,S,R,P⟩;by_cases L:d.length=n
 ·rw[R.length];exact L
 ·rw[h.len d c L]at P;exact P.elim
theorem Fg:∃fs,yM X p [] [] fs:=⟨[],.nil⟩
theorem CC{q:Ľ}{es:4e1}{Fs:List 2e5}(h:∃f,X.mg x=Ā (.ref f)/\Pk X p f F)(r:∃fs,yM X p es Fs fs)(N:(autoParam (Gl X x) ATr))(B:1e0):∃fs,yM X p (.Name x q::es) (F::Fs) fs:=
 let ⟨f,h1,h2⟩:=h;let ⟨fs,r⟩:=r;⟨f::fs,.cons N h1 B h2 r⟩
end
def kv(known:List ď)(a:ď)(d:D)(J:az):aj D:=match d with
 |.obj n=>match J[n]? with
  |some (.exn c fs)=>if known.contains c=ą then (match fs.lookup a with
   |some i=>.ok (.int i) J
   |none=>.bad) else .bad
  |_=>.bad
 |_=>.bad
def hG(K:W.Frag)(a:ď)(known:List ď):Prop:=∀c∈known,∃C,W.nsIn K Ĝ c=Ā (Ā 3e2)/\xo K C a=ą
theorem hG.of{a:ď}(h:(known.all λc=>match W.nsIn K Ĝ c with|some (Ā 3e2)=>xo K C a|_=>ć)=ą):hG K a known:=by
 intro c H
 grind
theorem mw{a:ď}:∀{fs:List (ď×Ć)}{i:Ć},fs.lookup a=Ā i->(fs.map λp=>(p.1,V.int p.2)).lookup a=Ā (V.int i)
 |[],_,h=>by cases h
 |(x,j)::r,i,h=>by
  rw[SH];rw[Ut]at h⊢;cases e:a == x with
  |true=>rw[e]at h;cases h;rfl
  |false=>rw[e]at h;exact mw h
section
variable{X:Cx}{a:ď}
theorem HW(I:hG X.K a known)(y:BE p X e fa)(z:autoParam (ĩ e a 1e4 (eval e 1e4)=eval e 1e4) ATr)(hK:0e9):BE p X (.Attribute e a pos) (iu (kv known a) fa):=.mk (by
 refine(Fm y.h z).weak λσ H Q=>aR λU W Z S R P=>⟨U,W,Z,S,R,(aD.bind P).imp λd O H1 α X1 q g v V=>?_⟩;unfold kv at g;split at g
 ·split at g
  ·rename_i n c fs μ;split at g
   ·rename_i G;split at g
    ·rename_i i L;obtain⟨b,B,C,D,s,t,u⟩:=q.at μ;refine bb (aI.mp V) λb' T l=>?_;subst T;rw[B]at l;cases l;refine bb (I c (Wl.mp G)) λC' o M=>?_;rw[hK]at o;rw[s]at o;cases o;exact⟨b,C,D,_,i,rfl,t,u,M,mw L,g.now q _ (ao.mpr rfl)⟩
    ·exact g.elim
   ·exact g.elim
  ·exact g.elim
 ·exact g.elim)
end
theorem SetsX.of{C:Ĉ}{cd:Ye}{R1 R2:Ĉ}(H:W.findIn K 3e2 "__setattr__" = Ā (Ā (.builtin "object.__setattr__")))(c:W.mroIn K C (.type "object")=Ā ą)(d:W.clsIn K C=Ā cd)(h:cd.hasDict=ą)(b:(cd.mro=[.ref R1,.ref R2,.type "ValueError",.type "Exception",.type "BaseException",.type "object"])):W.SetsX K C:=⟨H,c,cd,d,h,λself=>by
 rw[b]
 rfl⟩
theorem NC{h:Ĕ}{M:Ĉ}{m:3e6}{v:ā}(X:K.In h)(G:h.Ns M m)(e:W.nsIn K M x=Ā (Ā v)):m x=Ā v:=by
 refine cF G λO es b H c _ d=>?_;unfold W.nsIn at e;split at e
 ·rename_i q;have z:=X _ _ q
  grind [nsFind,findBy]
 ·cases e
theorem yW.of{nm q:ď}{C N:Ĉ}{bs bm:List ā}{hd:ċ}{sn:List ď}{sub:List ā}{ab:ċ}{col:Option ċ}{dd:Option Ĉ}{k0 k1 k2 k3 k5:Option ā}{oI:ħ}(X:K.In base)(G:base.Ns Ĝ mg)(e:W.nsIn K Ĝ x=Ā (Ā 3e2))(l:K.lookup C=Ā (ś nm q C N bs bm hd sn sub ab col dd k0 k1 k2 k3 k5 "ValueError.__new__"))(H:W.nsOkIn K N=ą)(c:W.nsIn K N "__init__" = Ā (Ā (.ref fI)))(d:W.tailIn K [.type "ValueError",.type "Exception",.type "BaseException",.type "object"] bm=ą)(h:K.lookup fI=Ā oI)(b:oI.cls=.type "function"):yW mg base x C fI:=
 ⟨W.mg_of X G e,_,_,_,_,bm,N,nm,q,bs,hd,sn,sub,ab,col,dd,k0,k1,k2,k3,k5,_,X _ _ l,.of_isNs (W.isNs_of_in X H),NC X (.of_isNs (W.isNs_of_in X H)) c,W.tail_of_in X d,PySem.F.excBase_ValueError,oI,X _ _ h,b⟩
end _l
namespace _l
open PySem PySem.Spec PyProof.Rows
section
variable{X:Cx}{C dx:Ĉ}{f f1:ď}
theorem Cj{y1:V}{Q:(ŏ->Ą->Prop)}(I:0e4)(e:H ea=Ā (iD ea C dx))(d:H dx=Ā (.xd [(f1,y1)]))(a:dx≠ea)(S:W.SetsX X.K C)(n:W.findIn X.K 3e2 f=Ā Ă)(α:bA y u)(h:∀s',aO X pins σ (bz H dx (.xd [(f,y),(f1,y1)])) s'->Q () s'):Ċ 1e2 A (Ym (.ref ea) f u) Q E s:=by
 refine gF (I.hok ea _ e) λm _ _=>?_;obtain⟨t,k⟩:=m;refine bb (I.hok dx _ d) λmA l r=>?_
 have p:Within mA [f1]:=λg G=>by
  by_cases z:g=f1
  ·simp_all
  ·have q := r g;rw[Ut,show (g == f1)=ć from by simpa using z]at q;cases w:mA g with
   |none=>exact absurd w G
   |some v=>rw[w]at q;exact ę q
 refine W.setx_more (od:={cls:=.ref C,data:=.fields #[]}) I.kIn S n k rfl rfl rfl a l p (Vj _ _) λM Z i μ T=>h _ ?_;have ne:∀b,H b=Ă->b≠dx:=λb z q=>by rw[q,d]at z;cases z
 have R:∀b (o:HO),H b=Ā o->(∀fs,o≠.xd fs)->bz H dx (.xd [(f,y),(f1,y1)]) b=Ā o:=λb o q nx=>by
  rw[aN λz=>?_]
  all_goals grind
 refine I.call' rfl ⟨λb o q n _ _=>μ b o (ne b n) q,λb o q n _ _=>⟨o.slots,μ b o (ne b n) q⟩,λb o q n _=>RM (aN (ne _ n)) n,λb o q _=>?_,λb x q=>R b _ q (λ_ z=>nomatch z),λb o u q=>R b _ q (λ_ z=>nomatch z),
  λb ps q=>⟨#[],by simp[*]⟩⟩ (λb o q=>?_) I.bare (ch:=[]) (λb z=>absurd z 1e1)
 ·by_cases z : b = dx
  ·refine gI i λD L B j _=>?_;exact⟨D,by rw[z];exact j⟩
  simp[*]
 ·by_cases z : b = dx
  ·subst z;rw[aV]at q;cases q;refine⟨_,i,λg=>?_⟩;by_cases G:g=f
   ·subst G;simp;exact α
   grind
  ·rw [aN z] at q;refine(I.hok b o q).stay (λc v U r=>μ c v ?_ r) (λc r=>R c _ r (λ_ z=>nomatch z)) λc x r=>R c _ r (λ_ z=>nomatch z)
   lia
end
def Ng(K:W.Frag)(ta tv:TE)(f:ď):TS:=λD σ H=>tv σ H λy b=>ta σ b λx l=>∃ea C dx f1 α,x=.ref ea/\l ea=Ā (iD ea C dx)/\l dx=Ā (.xd [(f1,α)])/\dx≠ea/\W.SetsX K C/\W.findIn K 3e2 f=Ā Ă /\
 D.nx σ (bz l dx (.xd [(f,y),(f1,α)]))
section
variable{X:Cx}{o value:Expr}{tv:TE}{f:ď}
theorem E9(j:PE X o ta)(V:PE X value tv)(hs:ī value (Ā (.Attribute o f pos')) pos.line 1e4=pure ć):PS X (.Assign [.Attribute o f pos'] value pos) (Ng X.K ta tv f):=by
 intro pins s σ H D I h;refine Wj (cB (V pins s σ H _ I h) λu k=>bD λy b d α q=>cB (j pins k σ b _ d q) λO M ⟨x,l,c,R,ea,C,dx,f1,p,ex,e,i,a,S,n,G⟩=>?_) hs;subst ex;obtain rfl:O=đ ea:=R;exact Cj c e i a S n α λm g=>⟨σ,_,g,G⟩
end
def OT(a b:ď)(C:Ĉ):Sp:=λv H Q _=>∃ea y z,v=[.ref ea,y,z]/\H ea=Ā (tu ea C)/\∀dx,H dx=Ă->dx≠ea->Q .non (bz (bz (bz H dx (.xd [(a,y)])) ea (iD ea C dx)) dx (.xd [(b,z),(a,y)]))
section
variable{f:Ĉ}{E:XK}
theorem ze{c a b:ď}{C:Ĉ}{ps:List ď}{k:ă}{e2:Expr}{t:TA}(O:yW mg base c C fI)(F:ko P w K mg base (DK P w) k fI fd ps (OT a b C)){A':Đ}(hr:cU (k+1) A')(hA:A'=(nj P w K mg base N qual scope f cdv A outer s0 H0 E).A)(hb:cW K fd ps [])(ha:PA 2e1 [e,e2] t)(hg:Gl 2e1 c)(hd:(c == ("__debug__" : ď))=ć)(S:4e3):
  PS 2e1 (.Raise (Ā (.Call (.Name c np) [e,e2] [] cpos)) Ă pos)
   (λ_ σ H=>t σ H λvs H1=>∃y z,vs=[y,z]/\∀ea dx,H1 ea=Ă->H1 dx=Ă->dx≠ea->E 3e2 (Ā ea) (bz (bz H1 dx (.xd [(b,z),(a,y)])) ea (iL ea C (Ā dx)))):=by
 intro pins s σ H D I q;obtain⟨bound,bmB,newId,B,initId,bm,Nn,nm,qn,bs,d,sn,sub,L,col,M,W,k1,k2,k3,k5,mN,hC,hN,hi,T,FB,oI,hfI,p⟩:=O;subst hA
 refine ve (nm:=nm) (q:=qn) (N:=Nn) (bs:=bs) (hdct:=d) (sn:=sn) (sub:=sub) (ab:=L) (col:=col) (dd:=M) (k0:=W) (k1:=k1) (k2:=k2) (k3:=k3) (k5:=k5)
  FB (T.hasType FB.hasBase) (I.ok.hd rfl) (by rw[S];rfl) hi (kF I hg bound ⟨rfl,?_⟩ hd)
 have i:=ha cpos pins s σ H _ I q;rw[S]at i⊢;refine PySem.Calls.evalArgs_plain (cB i λus s1 ⟨vs,H1,g,r,y,z,V,q1⟩=>?_);subst V
 obtain⟨u,U,rfl,ry,rz⟩:∃u U,us=[u,U]/\bA y u/\bA z U:=by
  cases r with
  |cons r1 r2=>cases r2 with|cons r3 r4=>cases r4;lia
 refine⟨rfl,?_,g.bk _ _ hC,hN.keeps g.bk,T.keeps g.bk,⟨oI,g.bk _ _ hfI,p⟩,λh' ea α=>?_⟩
 ·simp[sizeLine]
 obtain⟨hn,n⟩:=g.newx α
 have x:s0.heap.get? ea=Ă:=by
  cases z:s0.heap.get? ea with
  |none=>rfl
  |some o=>
   obtain⟨o',j⟩:=g.base.there ea o z (λz=>by cases z);rw[α.new]at j;cases j
 have hl:([đ ea,u,U]++[]).length=ps.length:=by
  have:=F.len [.ref ea,y,z] (bz H1 ea (tu ea C)) (λ_ _=>Ÿ) (λ_ _ _=>Ÿ) ⟨ea,y,z,rfl,aV,λ_ _ _=>trivial⟩;rw[<- this];rfl
 refine TF (TH (F.run _ _ _ _ ⟨[.ref ea,u,U],[]⟩ ([.ref ea,u,U]++[]) [.ref ea,y,z] (λv H2=>v=.non/\∃dx,H1 dx=Ă/\dx≠ea/\H2=bz (bz (bz (bz H1 ea (tu ea C)) dx (.xd [(a,y)])) ea (iD ea C dx)) dx (.xd [(b,z),(a,y)])) E (hr.make C [u,U] []) (n.env0.make C [u,U] [])
  (hb _ [.ref ea,u,U] n.kIn hl) (.cons rfl (.cons ry (.cons rz .nil))) ⟨ea,y,z,rfl,aV,λdx G Z=>⟨rfl,dx,RM (R9 (aN Z)) G,Z,rfl⟩⟩) λr s' h=>?_)
 cases r with
 |error j=>exact GY pins σ _ _ j s' n h
 |ok fl=>
  cases fl with
  |ret u'=>
   obtain⟨v,μ,l,rv,V,dx,G,Z,eH⟩:=n.after h;subst V;have R:=rv
   have eH':μ=bz (bz H1 dx (.xd [(b,z),(a,y)])) ea (iD ea C dx):=by
    rw[eH]
    grind [aV,aN]
   have Q:μ ea=Ā (iD ea C dx):=by rw[eH',aV]
   refine gF (l.hok ea _ Q) λv2 _ _=>?_;obtain⟨t',m⟩:=v2;refine⟨R,Ā dx,t',l.bk _ _ hC,m,μ3 l Q x ?_⟩;have q2:=q1 ea dx hn G Z;rw[eH']
   have:bz (bz (bz H1 dx (.xd [(b,z),(a,y)])) ea (iD ea C dx)) ea (iL ea C (Ā dx))=bz (bz H1 dx (.xd [(b,z),(a,y)])) ea (iL ea C (Ā dx)):=by
    grind [aV,aN]
   rw[this];exact q2
  |next=>exact ę h
  |brk=>exact ę h
  |cont=>exact ę h
end
end _l
namespace _l
open PySem PySem.Spec PyProof.Rows _r
noncomputable def kD(c a b:ď)(G:MA):MS:=λg e=>match G g e with
 |.ok [.int i,.int j] d=>.exc ⟨c,[(b,j),(a,i)]⟩ d
 |.exc x d=>.exc x d
 |_=>.bad
theorem C9{k:ă}{f C:Ĉ}{nm sf y y' a b:ď}{p1 p2 p3 q1 q2 q3:Ľ}(F:ke K nm qual st f fd)(S:cH [sf,y,y'] [sf,y,y'] (aF st))(B:(bt st=[.Assign [.Attribute (.Name sf p1) a p2] (.Name y p3) pos,.Assign [.Attribute (.Name sf q1) b q2] (.Name y' q3) pos']))(SX:W.SetsX K C)(o:W.findIn K 3e2 a=Ā Ă)(r:W.findIn K 3e2 b=Ā Ă)(V:Du (aF st) sf)(G:Du (aF st) y)(p:Du (aF st) y')(j:autoParam ((sf == ("__debug__" : ď))=ć) ATs)(μ:autoParam ((y == ("__debug__" : ď))=ć) ATs)(n:autoParam ((y' == ("__debug__" : ď))=ć) ATs)(g:autoParam ((sf == ("__classdict__" : ď))=ć) ATs)(l:autoParam ((y == ("__classdict__" : ď))=ć) ATs)(m:autoParam ((y' == ("__classdict__" : ď))=ć) ATs)(hs:(autoParam (∀env,ī (.Name y p3) (Ā (.Attribute (.Name sf p1) a p2)) pos.line env=pure ć) ATt))(d:(autoParam (∀env,ī (.Name y' q3) (Ā (.Attribute (.Name sf q1) b q2)) pos'.line env=pure ć) ATt)):ko P w K mg base (DK P w) (k+1) f fd [sf,y,y'] (OT a b C):=by
 obtain⟨O,X,kV,doc,α,T,cdv,U,osl,rfl,L,D⟩:=F.ex;refine AO L D S (λI H Q E h=>by refine gI h λc y z t _=>?_;subst t;rfl) λA outer s H I Q E R h=>?_;rw[B];refine⟨_,ud (Fb (lI (i:=0) rfl V j g) (lI (i:=1) rfl G μ l) (hs _)) (xX (E9 (lI (i:=0) rfl V j g) (lI (i:=2) rfl p n m) (d _))),?_⟩;refine cv h λc v z u e q=>?_;subst u;exact⟨v,rfl,.ref c,rfl,c,C,rfl,e,SX,o,λx M Z=>⟨z,rfl,.ref c,rfl,c,C,x,a,v,rfl,aV,by rw[aN Z,aV],Z,SX,r,q x M Z⟩⟩
def tM(P:č)(w:ē)(K:W.Frag)(mg:3e6)(base:Ĕ)(c a b:ď)(C:Ĉ):Prop:=∃fI D ps,yW mg base c C fI/\ko P w K mg base (DK P w) 1 fI D ps (OT a b C)/\cW K D ps []
section
variable{f:Ĉ}{E:XK}
theorem BN{c a b:ď}{C:Ĉ}{e2:Expr}(μ:W.nsIn K Ĝ c=Ā (Ā 3e2))(I:tM P w K mg base c a b C)(Q:cU 2 (nj P w K mg base N qual scope f cdv A outer s0 H0 E).A)(B:BA (Ds K w E) 2e1 [e,e2] fr)(M:autoParam (Gl 2e1 c) ATr)(hd:autoParam ((c == ("__debug__" : ď))=ć) ATs)(L:4e3):
  BS (Ds K w E) 2e1 (.Raise (Ā (.Call (.Name c np) [e,e2] [] cpos)) Ă pos) (kD c a b fr):=.mk (by
 refine cv I λfI fd ps O F G=>?_;refine(ze O F Q rfl G B.h M hd L).weak λD σ H=>aR λα m l S R P=>⟨α,m,l,S,R,?_⟩;unfold kD at P;cases z:fr m l with
 |bad=>rw[z]at P;exact ę P
 |exc x g=>rw[z]at P;exact P
 |ok s g=>
  rw[z]at P
  match s,P with
  |[.int i,.int j],P=>
   intro n d X o U T
   obtain rfl:U=[V.int i,V.int j]:=by
    obtain⟨v,r,p,e2,v',r',q,t,u⟩:=T;subst u t q e2;exact p
   refine bb (P n d X o) λZ k y=>?_;rw[μ]at k;cases k
   exact⟨.int i,.int j,rfl,y.2 1e1⟩)
end
theorem tM.of{c a b nm sf y y':ď}{C R1 R2:Ĉ}{cd:Ye}{p1 p2 p3 q1 q2 q3:Ľ}(O:yW mg base c C fI)(F:ke K nm qual st fI fd)(S:cH [sf,y,y'] [sf,y,y'] (aF st))(o:(bt st=[.Assign [.Attribute (.Name sf p1) a p2] (.Name y p3) pos,.Assign [.Attribute (.Name sf q1) b q2] (.Name y' q3) pos']))(H:W.findIn K 3e2 "__setattr__" = Ā (Ā (.builtin "object.__setattr__")))(i:W.mroIn K C (.type "object")=Ā ą)(k:W.clsIn K C=Ā cd)(l:cd.hasDict=ą)(m:(cd.mro=[.ref R1,.ref R2,.type "ValueError",.type "Exception",.type "BaseException",.type "object"]))(p:W.findIn K 3e2 a=Ā Ă)(r:W.findIn K 3e2 b=Ā Ă)(v:Du (aF st) sf)(G:Du (aF st) y)(V:Du (aF st) y')(B:cW K fd [sf,y,y'] [])(j:autoParam ((sf == ("__debug__" : ď))=ć) ATs)(μ:autoParam ((y == ("__debug__" : ď))=ć) ATs)(n:autoParam ((y' == ("__debug__" : ď))=ć) ATs)(g:autoParam ((sf == ("__classdict__" : ď))=ć) ATs)(d:autoParam ((y == ("__classdict__" : ď))=ć) ATs)(e:autoParam ((y' == ("__classdict__" : ď))=ć) ATs)(hs:(autoParam (∀env,ī (.Name y p3) (Ā (.Attribute (.Name sf p1) a p2)) pos.line env=pure ć) ATt))(h:(autoParam (∀env,ī (.Name y' q3) (Ā (.Attribute (.Name sf q1) b q2)) pos'.line env=pure ć) ATt)):tM P w K mg base c a b C:=
 ⟨fI,fd,[sf,y,y'],O,C9 F S o (SetsX.of H i k l m) p r v G V j μ n g d e hs h,B⟩
end _l
namespace _r
open PySem PySem.W PyProof.Rows
open _l (cmpP cmpPs cmpI fitP fitP_lay fitP_depth rc_reads)
mutual
def iJ:ė->ċ
 |.int _=>ą
 |.tuple xs=>tupOs xs
 |_=>ć
def tupOs:List ė->ċ
 |[]=>ą
 |x::xs=>iJ x&&tupOs xs
end
section
variable{h:Ĕ}
mutual
theorem qo (hk:∀b u,b≠a->h.get? b=Ā u->h'.get? b=Ā u) (ha:∃o,h.get? a=Ā o/\o.cls=.type "list"):∀(d:ė) {v:ā}{as:List Ĉ},iJ d=ą->Ev h v d as->∃bs,Ev h' v d bs
 |.int i,_,_,_,r=>by cases r;exact⟨_,.int _ _⟩
 |.tuple xs,_,_,hn,r=>by
  cases r with
  |tuple h1 h2 h3 h4=>
   obtain⟨bs,q⟩:=reads_buts hk ha xs hn h4;refine⟨bs,.tuple (hk _ _ (λe=>?_) h1) h2 h3 q⟩
   lia
 |.none,_,_,hn,_=>by simp[iJ]at hn
 |.bool _,_,_,hn,_=>by simp[iJ]at hn
 |.str _,_,_,hn,_=>by simp[iJ]at hn
 |.list _,_,_,hn,_=>by simp[iJ]at hn
 |.dict _,_,_,hn,_=>by simp[iJ]at hn
theorem reads_buts (hk:∀b u,b≠a->h.get? b=Ā u->h'.get? b=Ā u) (ha:∃o,h.get? a=Ā o/\o.cls=.type "list"):∀(ds:List ė) {vs:List ā}{as:List Ĉ},tupOs ds=ą->ŝ h vs ds as->∃bs,ŝ h' vs ds bs
 |[],_,_,_,r=>by cases r;exact⟨_,.nil⟩
 |d::ds,_,_,hn,r=>by
  simp[tupOs]at hn;cases r with
  |cons r rs=>
   obtain⟨bs,q⟩:=qo hk ha d hn.1 r;obtain⟨cs,q'⟩:=reads_buts hk ha ds hn.2 rs;exact⟨_,.cons q q'⟩
end
mutual
theorem oy(hk:(∀b u,h.get? b=Ā u->h'.get? b=Ā u)):∀(d:ė){v:ā}{as:List Ĉ},iJ d=ą->Ev h v d as->∃bs,Ev h' v d bs
 |.int i,_,_,_,r=>by cases r;exact⟨_,.int _ _⟩
 |.tuple xs,_,_,hn,r=>by
  cases r with
  |tuple h1 h2 h3 h4=>
   obtain⟨bs,q⟩:=reads_keeps hk xs hn h4;exact⟨bs,.tuple (hk _ _ h1) h2 h3 q⟩
 |.none,_,_,hn,_=>by simp[iJ]at hn
 |.bool _,_,_,hn,_=>by simp[iJ]at hn
 |.str _,_,_,hn,_=>by simp[iJ]at hn
 |.list _,_,_,hn,_=>by simp[iJ]at hn
 |.dict _,_,_,hn,_=>by simp[iJ]at hn
theorem reads_keeps(hk:(∀b u,h.get? b=Ā u->h'.get? b=Ā u)):∀(ds:List ė){vs:List ā}{as:List Ĉ},tupOs ds=ą->ŝ h vs ds as->∃bs,ŝ h' vs ds bs
 |[],_,_,_,r=>by cases r;exact⟨_,.nil⟩
 |d::ds,_,_,hn,r=>by
  simp[tupOs]at hn;cases r with
  |cons r rs=>
   obtain⟨bs,q⟩:=oy hk d hn.1 r;obtain⟨cs,q'⟩:=reads_keeps hk ds hn.2 rs;exact⟨_,.cons q q'⟩
end
end
structure jI(dat:List Ć->ė)(key:List Ć->Ć)(Ok:List Ć->Prop):Prop where
 tup:∀k,Ok k->∃x r,dat k=.tuple (.int x::r)
 lt:∀k k',Ok k->Ok k'->cmpP .Lt (dat k) (dat k')=Ā (decide (key k<key k'))
 inj:∀k k',Ok k->Ok k'->key k=key k'->k=k'
 fit:∀k,Ok k->fitP (dat k)=ą
 nol:∀k,Ok k->iJ (dat k)=ą
def Lb(dat:List Ć->ė)(h:Ĕ)(k:List Ć)(r:Ĉ):Prop:=∃W,Ev h (.ref r) (dat k) W
def g9(key:List Ć->Ć)(ps:List KP):Prop:=ps.Pairwise λp q=>key p.1<key q.1
section
variable{dat:List Ć->ė}{key:List Ć->Ć}{Ok:List Ć->Prop}
theorem yf{Q:ċ->Ą->Prop}{fin:ċ}:∀(xs ys:List ė){vs us:List ā}{as bs:List Ĉ}(i:ă){k:ċ},ŝ 1e9 vs xs as->ŝ 1e9 us ys bs->Ď xs=ą->Ď ys=ą ->
  A.units+min (Ē xs) (Ē ys)<į->(i=0->∀x r,xs=x::r->∃j,x=.int j)->(i=0->∀x r,ys=x::r->∃j,x=.int j)->fin=decide (xs.length<ys.length)->cmpPs .Lt xs ys=Ā k->Q k s->KatLex prog w A ą fin Q (vs.zip us) i s
 |[],ys,vs,us,_,_,i,k,R,B,_,_,_,_,_,F,H,q=>by
  cases R;rw[List.zip_nil_left];simp[cmpPs]at H;subst H F;refine kat_nil ?_
  have:decide (([]:List ė).length<ys.length)=decide ((0:Ć)<(ys.length:Ć)):=by
   simp
  rw[this];exact q
 |x::xs,[],vs,us,_,_,i,k,R,B,_,_,_,_,_,F,H,q=>by
  cases B;rw[List.zip_nil_right];simp[cmpPs]at H;subst H F;exact q
 |x::xs,y::ys,_,_,_,_,i,k,R,B,g,l,U,X,α,F,H,q=>by
  have b:x.canLay0=ą/\Ď xs=ą:=by simpa[Ď] using g
  have c:y.canLay0=ą/\Ď ys=ą:=by simpa[Ď] using l
  cases R with
  |cons r S=>
   cases B with
   |cons d f=>
    have n:=V_ x y A s _ _ _ _ r d b.1 c.1 (V2 U);refine kat_cons (n prog w _ _ ?_);simp[cmpPs]at H;cases e:ġ x y with
    |true=>
     rw[RC e]at H;refine kat_yes (yf xs ys (i+1) S f b.2 c.2 (Xe U) (λz=>by lia) (λz=>by lia) ?_ H q);rw[F];simp
    |false=>
     rw[RE 0e1]at H;cases i with
     |zero=>
      obtain⟨j,rfl⟩:=X rfl x xs rfl;obtain⟨μ,rfl⟩:=α rfl y ys rfl;cases r;cases d;simp[cmpP]at H;subst H;exact kat_lt_int q
     |succ i=>
      exact kat_one _ _ (rc_reads rfl x y A s _ _ _ _ k r d b.1 c.1 (V2 U) H prog w _ _ q)
theorem KJ(G:jI dat key Ok){x y:Ĉ}{k':List Ć}{Q:ċ->Ą->Prop}(U:A.units+61<į)(X:Lb dat 1e9 k x)(n:Lb dat 1e9 k' y)(K:Ok k)(H:Ok k')(h:Q (decide (key k<key k')) s):
  Ċ 0e7 A (Zp (tuples' ą) (.ref x) (.ref y)) Q E s:=by
 obtain⟨W,R⟩:=X;obtain⟨bs,α⟩:=n;have e:=G.lt k k' K H;have q:=G.fit k K;have O:=G.fit k' H;obtain⟨i,r,f⟩:=G.tup k K;obtain⟨j,o,c⟩:=G.tup k' H;rw[f]at R e q;rw[c]at α e O;simp only[cmpP]at e;have l1:=fitP_lay q;have l2:=fitP_lay O;cases R with
 |tuple l t m d=>
  cases α with
  |tuple z p I g=>
   refine kat_lt l m z I (yf _ _ 0 d g (by simpa[ě] using l1) (by simpa[ě] using l2) ?_ (λ_ x r e=>by cases e;exact⟨_,rfl⟩) (λ_ x r e=>by cases e;exact⟨_,rfl⟩) ?_ e h)
   ·have μ := fitP_depth q;simp only[ĭ]at μ;have:=Xf (Ē (.int i::r)) (Ē (.int j::o))
    lia
   ·have a:=V1 _ _ _ d;have b:=V1 _ _ _ g;rw[Rv]at a b;rw[a,b]
theorem tV(G:jI dat key Ok){h:Ĕ}:∀{ps:List KP},(∀p∈ps,Ok p.1)->(∀p∈ps,Lb dat h p.1 p.2)->∃fs,Zf h (ba ps) fs/\fs.length=ps.length/\∀v∈fs,∃i t,v=ä i t
 |[],_,_=>⟨[],Zf.nil,rfl,λv V=>by simp at V⟩
 |p::ps,k,T=>by
  refine bo (tV G (λq z=>k q (Tb _ z)) (λq z=>T q (Tb _ z))) λfs H c d=>?_;obtain⟨W,r⟩:=T p Ta;refine K4 (G.tup _ (k p Ta)) λx R e=>?_;rw[e]at r;generalize V:(đ p.2)=v at r;cases r with
  | @tuple D o y n _ as₁ b K I g=>
   cases V;generalize L:y.toList=l at g;cases g with
   |cons q Q=>
    cases q with
    |int _ t=>
     refine⟨.int x t::fs,Zf.cons b K I (by rw[<- Sh,L];rfl) H,by rw[Uu,Uu,c],λv V=>?_⟩;rcases Td.mp V with q|q
     ·exact⟨x,t,q⟩
     ·exact d v q
theorem Fu{ps:List KP}{p:ĕ ă}(g:dy ps.length p)(b:Ad (λi=>key (ps.getD i ([],0)).1) p ps.length) :
  ∃out:List KP,(p.toList.map λi=>(ba ps).getD i Ę)=ba out/\out.Perm ps/\g9 key out:=by
 refine⟨p.toList.map λi=>ps.getD i ([],0),?_,?_,?_⟩
 ·unfold ba;rw[UR];refine US λi I=>?_;have H:i<ps.length:=SM.mp (g.perm.mem_iff.mp I);simp[SQ,H]
 ·refine (g.perm.map _).trans ?_
  have:(List.range ps.length).map (λi=>ps.getD i ([],0))=ps:=by
   apply Sf;intro i;rw[SS];by_cases I:i<ps.length
   ·rw[V0 I];simp[I]
   ·rw[SU (by simpa using I),SU 0e1];rfl
  rw[this]
 ·unfold g9;rw[SW];refine List.pairwise_iff_getElem.mpr λi j I r μ=>?_;have H:i<p.size:=by simpa using I
  have l:j<p.size:=by simpa using r
  have:=b i j μ (by rw[<- g.size];exact l);unfold at' at this;simpa[ö,H,l] using this
def Tm(key:List Ć->Ć)(ks:0e2):Prop:=Ow ks.length λi=>key (ks.getD i [])
theorem Tm.ps{key:List Ć->Ć}{ps:List KP}(h:Tm key (ps.map 4e2)):Ow ps.length λi=>key (ps.getD i ([],0)).1:=by
 have e:(λi=>key ((ps.map 4e2).getD i []))=λi=>key (ps.getD i ([],0)).1:=by
  funext i;rw[SQ,SQ,SS];cases ps[i]? <;> rfl
 unfold Tm at h
 rwa [e,Us]at h
theorem Ce(G:jI dat key Ok){ps:List KP}{P:PySem.Fin->Ą->Prop}(O:s.heap.get? a=Ā (ĥ "list" (ba ps).toArray n))(k:∀p∈ps,Ok p.1)(hn:(ps.map 4e2).Nodup)(d:ps.length<5000)(ht:Tm key (ps.map 4e2))(hu:A.units+61<į)(hT:∀p∈ps,Lb dat 1e9 p.1 p.2)(h:∀out:List KP,out.Perm ps->g9 key out->P (.done (.ret .none)) {s with heap:=ü 1e9 a (ba ps) (ba out).toArray}):
  Ċ 0e7 A (Builtin.«list.sort» ⟨[.ref a],[]⟩) P E s:=by
 have l:(ba ps).length=ps.length:=by simp[ba]
 rw[list_sort_plain];have hal:=S0 O;refine Tn (I_ O rfl ?_);refine Tn (VB O rfl ?_ (by rw[SJ,l];exact RH (Sj d) 0e3) (RT _));obtain⟨f,y⟩:∃f,(s.heap.update a (Ğ λ_=>#[])).get? a=Ā (ĥ "list" #[] f):=⟨_,VC O (λ_=>#[])⟩;refine Tn (XW y rfl ?_);refine Tn (wpAny_newTuple ?_);refine Tn (VD ?_);refine To ?_
 have H:(((s.heap.update a (Ğ λ_=>#[])).push (ĥ "tuple" (ba ps).toArray 0)).push (ĥ "list" #[] 0)).get? a=Ā (ĥ "list" #[] f):=by
  grind [KT,PyProof.Rows.size_push',Ĕ.size_update]
 show Ċ 0e7 A _ P E {s with heap:=((s.heap.update a (Ğ λ_=>#[])).push (ĥ "tuple" (ba ps).toArray 0)).push (ĥ "list" #[] 0)};dsimp only;generalize hS:({s with heap:=((s.heap.update a (Ğ λ_=>#[])).push (ĥ "tuple" (ba ps).toArray 0)).push (ĥ "list" #[] 0)}:Ą)=s1;have m:s1.heap=((s.heap.update a (Ğ λ_=>#[])).push (ĥ "tuple" (ba ps).toArray 0)).push (ĥ "list" #[] 0):=by rw[<- hS]
 have hT1:∀p∈ps,Lb dat s1.heap p.1 p.2:=λp U=>by
  obtain⟨as,r⟩:=hT p U;refine qo (λb u hb e=>?_) ⟨_,O,rfl⟩ (dat p.1) (G.nol _ (k p U)) r
  grind [PySem.Heap.get?_push_of_some,PySem.Heap.get?_update_ne]
 rw[<- m]at H
 have N:∀out:List KP,out.Perm ps->g9 key out->P (.done (.ret .none)) {s1 with heap:=s1.heap.update a (Ğ λ_=>(ba out).toArray)}:=λout W c=>by
  have q:=h out W c;rw[<- hS];exact q
 have V:(ba ps).toArray.size=ps.length:=l;by_cases c:(ba ps).toArray.size<2
 ·rw [RC c, RC c];refine Tn (SD ?_);rw[ĵ.run_pure];refine Tn (SD ?_);dsimp only;refine Tn (XW H rfl ?_)
  have α:(α3 (SortSt.mk' general' ((ba ps).toArray.zip (ba ps).toArray) #[] 7 Ă)).map (·.2)=(ba ps).toArray:=by
   grind
  rw[α];refine Tn (VB H rfl ?_ (RT _) (ă.le_add_left_of_le (RR c)));simp only[Q_,Vm,T7];refine SD (N ps (List.Perm.refl _) ?_);rw[V]at c
  match ps,c with
  |[],_=>exact List.Pairwise.nil
  |[_],_=>exact List.pairwise_singleton _ _
  |_::_::_,h=>grind
 ·rw [RE c, RE c];rw[V]at c;refine bo (tV G k hT1) λfs k1 k2 k3=>?_;refine Tn (kat_kind (T:=ģ "int") k1 0e1 (λv hv=>?_) (by rfl) ?_)
  ·refine K4 (k3 v hv) λi t e=>?_;rw[e];exact .now
  ·have D : (ģ "int" != ģ "tuple") = ą := by decide
   rw[D];have Z:(pairsOf (ba ps)).size=ps.length:=by rw[pairsOf_size,l]
   have gi:∀i (I:i<ps.length),(ba ps).getD i Ę=.ref ps[i].2:=λi I=>by simp_all[ba]
   have K:∀i (I:i<ps.length),ps.getD i ([],0)=ps[i]:=λi I=>by simp_all
   have inj:∀i j (I:i<ps.length) (μ:j<ps.length),ps[i].1=ps[j].1->i=j:=λi j I μ e=>by
    have L:i<(ps.map 4e2).length:=by simp_all
    have x:j<(ps.map 4e2).length:=by simp_all
    exact(Ru (h₀:=L) (h₁:=x) hn).mp (by simpa using e)
   refine Tn (SA (Ej (it:=pairsOf (ba ps)) (key:=λi=>key (ps.getD i ([],0)).1) (Q:=λS X=>X=s1/\Go S=Ă/\∃out:List KP,out.Perm ps/\g9 key out/\(α3 S).map (·.2)=(ba out).toArray) 0e1 (by rw[Z];exact ht.ps) (λi j I μ e=>?_) (λi j I μ C hC=>?_) λp S g M R F=>?_) ?_ λ_ _ e=>e)
   ·rw[Z]at I μ;simp only[K i I,K j μ]at e;exact inj i j I μ (G.inj _ _ (k _ (Wh I)) (k _ (Wh μ)) e)
   ·rw [Z] at I μ;rw[<- kas_ask_eq]
    grind [kas_ask,KJ]
   ·rw[Z]at g M;refine bo (Fu g M) λout o z B=>?_;exact⟨rfl,F,out,z,B,by rw[kat_snds rfl R,o]⟩
   ·rintro ⟨⟨⟩, S⟩ X ⟨rfl, F, out, o, z, B⟩
    dsimp only;refine Tn (XW H rfl ?_);rw[B];refine Tn (VB H rfl ?_ (RT _) (by show (ba out).toArray.size<=_;rw[SJ];unfold ba;rw[Us,o.length_eq];exact RH (Sj d) 0e3));rw[F];simp only[Q_,Vm,T7];exact SD (N out o z)
theorem ou(G:jI dat key Ok){x:ā}{ps:List KP}(k:∀p∈ps,Ok p.1)(j:(ps.map 4e2).Nodup)(h64:ps.length<5000)(T:Tm key (ps.map 4e2))(U:A.units+64<į)(hT:∀p∈ps,Lb dat 1e9 p.1 p.2)(l:∀Q':List ā->Ą->Prop,(∀qs:List KP,qs.Perm ps->(ps.length<64\/qs=ps)->∀h',(∀b u,s.heap.get? b=Ā u->h'.get? b=Ā u)->s.heap.objs.size<=h'.objs.size->Q' (ba qs) {s with heap:=h'})->Ċ 0e7 A.in1 (Yn x) Q' E s)(h:∀out:List KP,out.Perm ps->g9 key out->∀h' D,s.heap.objs.size<=D->(∀b u,s.heap.get? b=Ā u->h'.get? b=Ā u)->(∃n,h'.get? D=Ā (ĥ "list" (ba out).toArray n))->Q (.ref D) {s with heap:=h'}):
  Ċ 0e7 A (call (.builtin "sorted") [x]) Q E s:=by
 refine ŭ ZE Yu Yw (Yz _) ?_;refine Tn (SD ?_);refine Tn (l _ λqs H f c K Z=>?_);have N:qs.length<5000:=by rw[H.length_eq];exact h64
 refine Tn (VD ?_ (RH (show (ba qs).length<=4999 by grind [ba]) 0e3));have hoL:(c.push (ĥ "list" (ba qs).toArray 0)).get? c.objs.size=Ā (ĥ "list" (ba qs).toArray 0):=SZ _ rfl;have W:∀b u,c.get? b=Ā u->b≠c.objs.size:=λb u q=>Sn (S0 q);refine Tn (To (Ud X_ ⟨_,hoL,rfl⟩ Xj ?body (YH _)))
 case body=>
  refine Ce G hoL (λp d=>k p (H.mem_iff.mp d)) ((H.map _).nodup_iff.mpr j) N (f.elim (λz=>.inl (by rw[Us,H.length_eq];exact z)) λz=>by rw[z];exact T) (L_ U) (λp d=>?_) λout g i=>?_
  ·obtain⟨S,r⟩:=hT p (H.mem_iff.mp d);exact oy (λb u e=>Tr _ (K _ _ e)) (dat p.1) (G.nol _ (k p (H.mem_iff.mp d))) r
  ·refine ⟨_, rfl, SD ⟨_, rfl, h out (g.trans H) i _ c.objs.size Z (λb u q => ?_) ?_⟩⟩
   ·grind [ü,PySem.Heap.get?_update_ne,PySem.Heap.get?_push_of_some]
   ·unfold ü;exact⟨_,VC (Tr (ĥ "list" #[] 0) (Tr (ĥ "tuple" (ba qs).toArray 0) (VC hoL (λ_=>#[])))) (λ_=>(ba out).toArray)⟩
end
end _r
namespace _r
open PySem PySem.W PyProof.Rows
open _l (isLt cmpP cmpPs cmpI fitP)
noncomputable def gX:ă->List Ć->Ć
 |0,_=>0
 |_+1,[]=>0
 |n+1,x::r=>(x+1)*7^n+gX n r
def vx(k:List Ć):Ć:=gX 6 k
def Aj(k:List Ć):Prop:=∀x∈k,0<=x/\x<6
def Sm(k:List Ć):Prop:=k≠[]/\k.length<=6/\Aj k
theorem nO:∀(n:ă)(k:List Ć),Aj k->0<=gX n k/\gX n k<7^n
 |0,_,_=>by simp[gX]
 |n+1,[],_=>by
  have:(0:Ć)<7^(n+1):=α6 0e3;simp[gX];omega
 |n+1,x::r,h=>by
  have i:=nO n r λy α=>h y (Tb _ α);have d:=h x Ta;have a:0<=(x+1)*7^n:=Ć.mul_nonneg (Tx (Wo d.1)) (V6 i.1 (Tx i.2));have b:(x+1)*7^n<=6*7^n:=Wp (á (Wq d.2 _)) 0e1;simp[gX];omega
def nr:List Ć->List Ć->ċ
 |[],[]=>ć
 |[],_::_=>ą
 |_::_,[]=>ć
 |x::r,y::R=>if x=y then nr r R else decide (x<y)
theorem kY{x y:Ć}{r r':List Ć}(d:Aj (x::r))(α:Aj (y::r'))(h:x<y):gX (n+1) (x::r)<gX (n+1) (y::r'):=by
 have a:=nO n r λz Z=>d z (Tb _ Z);have b:=nO n r' λz Z=>α z (Tb _ Z);have c:(x+1+1)*7^n<=(y+1)*7^n:=Wp (á (Wq (Wq h _) _)) 0e1;simp[gX]
 lia
theorem jl:∀{n:ă}{k k':List Ć},Aj k->Aj k'->k.length<=n->k'.length<=n->decide (gX n k<gX n k')=nr k k'
 |n,[],[],_,_,_,_=>by cases n <;> rfl
 |0,_::_,_,_,_,h,_=>by simp at h
 |0,[],_::_,_,_,_,h=>by simp at h
 |n+1,[],y::R,_,α,_,_=>by
  have b:=nO n R λz Z=>α z (Tb _ Z);have:=α y Ta;have:0<(y+1)*7^n:=Ć.mul_pos (Wo this.1) (α6 0e3);exact RB (by simp[gX];lia)
 |n+1,x::r,[],d,_,_,_=>by
  have b:=nO (n+1) (x::r) d;exact RD (by simp[gX]at b⊢;exact b.1)
 |n+1,x::r,y::R,d,α,H,c=>by
  simp at H c;unfold nr;by_cases e:x=y
  ·subst e;rw[RC rfl,<- jl (n:=n) (λz Z=>d z (Tb _ Z)) (λz Z=>α z (Tb _ Z)) (H) 0e1,XI];simp only[gX];constructor <;> intro h <;> lia
  ·rw [RE e];by_cases l:x<y
   ·rw[RB l,RB (kY d α l)]
   ·have := kY (n := n) α d 0e1
    lia
theorem oa:∀{n:ă}{k k':List Ć},Aj k->Aj k'->k.length<=n->k'.length<=n->gX n k=gX n k'->k=k'
 |_,[],[],_,_,_,_,_=>rfl
 |n,[],y::R,d,α,H,c,e=>by
  have:=jl d α H c;rw[e]at this;simp[nr]at this
 |n,x::r,[],d,α,H,c,e=>by
  have:=jl α d c H;rw[e]at this;simp[nr]at this
 |0,_::_,_::_,_,_,h,_,_=>by simp at h
 |n+1,x::r,y::R,d,α,H,c,e=>by
  have X:x=y:=by
   by_cases l:x<y
   ·have:=kY (n:=n) d α l;lia
   ·by_cases L : y < x
    ·have:=kY (n:=n) α d L;lia
    ·exact V7 (XB L) (XB l)
  subst X;simp at H c;simp[gX]at e;rw[oa (n:=n) (λz Z=>d z (Tb _ Z)) (λz Z=>α z (Tb _ Z)) 0e1 0e1 (e)]
theorem Dd{k':List Ć}(h:Sm k)(h':Sm k')(e:vx k=vx k'):k=k':=oa h.2.2 h'.2.2 h.2.1 h'.2.1 e
noncomputable def qU(k:List Ć):ė:=.tuple (k.map .int)
theorem uP:∀k k':List Ć,cmpPs .Lt (k.map .int) (k'.map .int)=Ā (nr k k')
 |[],[]=>rfl
 |[],y::r=>by
  simp[Uh,SH,cmpPs,Uu,Vd];exact RB 1e1
 |x::r,[]=>by
  rfl
 |x::r,y::R=>by
  simp[SH,cmpPs,ġ,nr,cmpP,cmpI];by_cases e:x=y
  ·subst e;simp[uP r R]
  ·simp[e]
theorem n5:∀k:List Ć,Ď (k.map .int)=ą/\Ē (k.map .int)<=1/\tupOs (k.map .int)=ą
 |[]=>⟨rfl,by simp[Ē],rfl⟩
 |x::r=>by
  refine gF (n5 r) λH c d=>?_;refine⟨by simp[Ď,ě,H],?_,by simp[tupOs,iJ,d]⟩;simp[SH,Ē,ĭ];omega
theorem qk:jI qU vx Sm where
 tup:=λk h=>by
  cases k with
  |nil=>exact absurd rfl h.1
  |cons x r=>exact⟨x,r.map .int,rfl⟩
 lt:=λk K h H=>by
  unfold qU vx;rw[jl h.2.2 H.2.2 h.2.1 H.2.1];simp only[cmpP];exact uP k K
 inj:=λk K h H e=>Dd h H e
 fit:=λk h=>by
  obtain⟨a,c,_⟩:=n5 k;unfold qU fitP;simp only[ě,a,ĭ,YL];exact RB 0e1
 nol:=λk h=>by
  obtain⟨_,_,d⟩:=n5 k;exact d
noncomputable def bO:List Ć->List ė
 |a::b::r=>.tuple [.int a,.int b]::bO r
 |_=>[]
def nt(m:Ć)(k:List Ć):ė:=.tuple [.int m,.tuple (bO k)]
noncomputable def jG:List Ć->ċ
 |[]=>ą
 |_::_::r=>jG r
 |_=>ć
def Lc(k:List Ć):Prop:=jG k=ą/\k.length<=30/\Aj k
def lD(k:List Ć):Ć:=gX 30 k
theorem yw:∀k k':List Ć,jG k=ą->jG k'=ą->cmpPs .Lt (bO k) (bO k')=Ā (nr k k')/\(ş (bO k) (bO k')=ą->nr k k'=ć)
 |[],[],_,_=>⟨rfl,λ_=>rfl⟩
 |[],y::z::r,_,_=>by
  refine⟨?_,λe=>by simp[bO,ş]at e⟩;simp[bO,cmpPs];exact RB 1e1
 |x::z::r,[],_,_=>by
  refine⟨?_,λe=>by rfl⟩;simp[bO,cmpPs,cmpI];exact RD 0e1
 |[],[_],_,h=>by simp[jG]at h
 |[_],_,h,_=>by simp[jG]at h
 |_::_::_,[_],_,h=>by simp[jG]at h
 |a::b::r,c::d::R,h,H=>by
  obtain⟨i,I⟩:=yw r R (by simpa[jG] using h) (by simpa[jG] using H);simp[bO,cmpPs,cmpP,ġ,ş,nr,cmpI,isLt]
  lia
theorem rJ:∀k:List Ć,Ď (bO k)=ą/\Ē (bO k)<=3/\tupOs (bO k)=ą
 |[]=>⟨rfl,by simp[bO,Ē],rfl⟩
 |[_]=>⟨rfl,by simp[bO,Ē],rfl⟩
 |a::b::r=>by
  refine gF (rJ r) λH c d=>?_;refine⟨by simp[bO,Ď,ě,H],?_,by simp[bO,tupOs,iJ,d]⟩;simp[bO,Ē,ĭ]
  lia
theorem lP(m:Ć):jI (nt m) lD Lc where
 tup:=λk h=>⟨m,_,rfl⟩
 lt:=λk K h H=>by
  unfold lD;rw[jl h.2.2 H.2.2 h.2.1 H.2.1];obtain⟨f,g⟩:=yw k K h.1 H.1
  have q:cmpP .Lt (nt m k) (nt m K)=if ġ (.tuple (bO k)) (.tuple (bO K))=ą then Ā ć else cmpPs .Lt (bO k) (bO K):=by
   unfold nt;simp[cmpP,cmpPs,isLt];rw[RC (by simp[ġ])];rfl
  simp_all[ġ]
 inj:=λk K h H e=>oa h.2.2 H.2.2 h.2.1 H.2.1 e
 fit:=λk h=>by
  refine gF (rJ k) λa c _=>?_;unfold nt fitP;simp[ě,Ď,ĭ,Ē];exact⟨a,RH c (Vj _ _)⟩
 nol:=λk h=>by
  simp[rJ,nt,iJ,tupOs]
end _r
namespace _l
open PySem PySem.Spec PyProof.Rows _r
section
variable{X:Cx}{dat:List Ć->ė}{key:List Ć->Ć}{Ok:List Ć->Prop}
def ri(K:W.Frag)(dat:List Ć->ė)(key:List Ć->Ć)(Ok:List Ć->Prop):List V->Hp->VK->Prop:=λS H Q=>∃(a:Ĉ)(ps:List KP),S=[.ref a]/\dZ K H a (fx ps)/\(∀p∈ps,Ok p.1/\nk K H (dat p.1) (.ref p.2))/\(ps.map 4e2).Nodup/\ps.length<5000/\Tm key (ps.map 4e2) /\
 ∀out:List KP,out.Perm ps->g9 key out->∀l,H l=Ă->Q (.ref l) (bz H l (.lst (fx out)))
theorem oF (G:jI dat key Ok) (U:3e8):b8 X (.builtin "sorted") (ri X.K dat key Ok):=by
 intro P s w H x S Q I r h;obtain⟨a,ps,rfl,f,hT,N,h64,T,q⟩:=h;obtain⟨u,rfl,g⟩:=dU r;cases g;refine bo (I.list f) λi v V Z=>?_;refine aJ V λo n E m _ c=>?_;have l:=jt v;subst l;refine ou G (λp d=>(hT p d).1) N h64 T U (λp d=>bX I _ _ _ (hT p d).2 rfl) (λj z=>mz (.inl rfl) E m c (z ps (List.Perm.refl _) (.inr rfl) _ (λb u e=>?_) ?_) (show (ba ps).length<=sizeLine by unfold ba;rw[Us];exact RH (Sj h64) 0e3)) λout d R t D hD k W=>?_
 ·rw[V4 _ _ _ _ (Sn (S0 e))];exact Tr _ e
 ·simp
 ·refine⟨.ref D,bz H D (.lst (fx out)),I.laid (λb O e=>k b O e) hD ?_,rfl,q out d R _ (I.hok.fresh hD)⟩;obtain⟨n,e⟩:=W;refine⟨?_,ba out,n,i4 out,e⟩;unfold fx;rw[Us,d.length_eq];exact RH (Sj h64) 0e3
theorem nV:(∀k∈prs,(fitP (qU k)=ą/\iJ (qU k)=ą)/\∀k'∈prs,cmpP .Lt (qU k) (qU k')=Ā (decide (oX k<oX k'))):=by
 decide +kernel
theorem y6:jI qU oX (·∈prs) where
 tup:=λk h=>by
  refine bZ (dX h) λa b v _=>?_;subst v;exact⟨_,_,rfl⟩
 lt:=λk K h H=>(nV k h).2 K H
 inj:=λk K h H e=>Gd h H e
 fit:=λk h=>(nV k h).1.1
 nol:=λk h=>(nV k h).1.2
theorem E2(k:List Ć):RdPs K H (k.map .int) (k.map V.int):=by
 induction k with
 |nil=>rfl
 |cons x r i=>exact⟨_,_,rfl,rfl,i⟩
theorem wM (C:X.calm=ą) (U:3e8):b8 X (.builtin "sorted") (vH X.K X.w):=by
 intro P s y H x m Q I r h;refine aJ h λa ps v c hT q=>?_;subst v;obtain⟨u,rfl,f⟩:=dU r;cases f;obtain⟨hS,_⟩:=(show dC X.prog X.w H 1e9 a (.ext λh=>eS X.w h a ps) from I.hok a _ c);refine kN (id hS) λo i E t Z l k N=>?_;have L:=rR k N;refine ou y6 k N (R8 L (Rz (Vj _ _))) (.inl (by rw[Us];exact R8 L (Rz (Vj _ _)))) U (λp d=>bX I _ _ _ ⟨_,_,rfl,hT p d,E2 _⟩ rfl) (λg z=>va (by simpa using I.ok.hd C) hS λS d=>z S d (.inl 0e1)) λout d R j D hD k N=>?_;refine⟨.ref D,bz H D (.lst (fx out)),I.laid (t':=s.toks) (λb O e=>k b O e) hD ?_,rfl,q out d R _ (I.hok.fresh hD)⟩;obtain⟨n,e⟩:=N;refine⟨?_,ba out,n,i4 out,e⟩;unfold fx;rw[Us,d.length_eq];exact RH L 0e3
noncomputable def kq(key:List Ć->Ć)(ks:0e2):List (List Ć):=ks.mergeSort λa b=>decide (key a<=key b)
theorem f6:(kq key ks).Perm ks:=List.mergeSort_perm ks _
theorem t6:(kq key ks).Pairwise λa b=>key a<=key b:=by
 have:=List.pairwise_mergeSort (le:=λ(a b:List Ć)=>decide (key a<=key b)) (λa b c H d=>by simp at *;exact V6 H d) (λa b=>by simp;lia) ks;exact this.imp λh=>by simpa using h
theorem Cg(G:jI dat key Ok){ks':0e2}(hs:∀k∈ks,Ok k)(d:ks'.Perm ks)(r:ks'.Pairwise λa b=>key a<=key b):ks'=kq key ks:=
 (d.trans f6.symm).eq_of_pairwise (λa b h B H c=>G.inj a b (hs a (d.mem_iff.mp h)) (hs b (f6.mem_iff.mp B)) (V7 H c)) r t6
theorem oJ{K:W.Frag}{H:Hp}{Y:List Ĉ}{mk:List Ć->D}(m:∀k,∃xs,mk k=.tup xs):∀{ks:0e2}{vs:List V},Reps K H Y (ks.map mk) vs->∃qs:List KP,qs.map 4e2=ks/\vs=fx qs/\∀q∈qs,aM K H Y (mk q.1) (.ref q.2)
 |[],vs,h=>by simp at h;exact⟨[],rfl,h,λp d=>by simp at d⟩
 |k::ks,vs,h=>by
  refine aU h λv r i c g=>?_;subst i;obtain⟨xs,e⟩:=m k;have b:=c;rw[e]at b;refine aU (aH.mp b) λa U j l n=>?_;subst j;refine bo (oJ m g) λqs E f o=>?_;refine⟨(k,a)::qs,by rw[SH,E],by rw[f];rfl,λp d=>?_⟩;rcases Td.mp d with z|z
  ·subst z;exact c
  ·exact o p z
theorem k7{K:W.Frag}{H:Hp}{Y:List Ĉ}{mk:List Ć->D}:∀{qs:List KP},(∀q∈qs,aM K H Y (mk q.1) (.ref q.2))->Reps K H Y ((qs.map 4e2).map mk) (fx qs)
 |[],_=>Reps.nil
 |q::qs,h=>Reps.cons (h q Ta) (k7 λp d=>h p (Tb _ d))
theorem Bm{mk:List Ć->D}{Q:VK}(G:jI dat key Ok)(M:∀k,∃xs,mk k=.tup xs)(hd:∀k,Ok k->pS J (mk k)=Ā (dat k))(L:∀k∈ks,Ok k)(S:(p.S H Y J))(x:J[n]?=Ā (.lst (ks.map mk)))(r:p.Rs H Y [.obj n] vs)(N:ks.Nodup)(b:ks.length<5000)(T:Tm key ks)(P:aD p H Y (.ok 1e3 (J++[.lst ((kq key ks).map mk)])) (RV p Q)):ri p.K dat key Ok vs H Q:=by
 refine bb r.one λv μ e=>?_;subst μ;refine aJ (bS S e x) λa U g A c f=>?_;subst g;refine bo (oJ M f) λs E m o=>?_;subst m;have ok:∀q∈s,Ok q.1:=λq z=>L _ (by grind);refine⟨a,s,rfl,dZ.of c,λq z=>⟨ok q z,eV (hd _ (ok q z)) (o q z)⟩,by rw[E];exact N,by grind,by rw[E];exact T,λout d R l b=>?_⟩;have ro:=k7 λq z=>o q (d.mem_iff.mp z);rw[Cg G L (by rw[<- E];exact d.map _) (SW.mpr (R.imp λh=>Tx h))]at ro;refine gF (cZ S b ro) λB i j=>?_;exact P _ _ B i _ j
end
noncomputable def OU(ns:List Ć):ċ:=!ns.isEmpty&&(decide (ns.length<=6)&&ns.all λx=>decide (0<=x)&&decide (x<6))
theorem EB:OU ns=ą↔Sm ns:=by
 simp[OU,Sm,Aj]
def xa:D->Option (List Ć)
 |.tup S=>match fX S with
  |some j=>if OU j=ą then Ā j else Ă
  |none=>Ă
 |_=>Ă
def nz:List D->Option 0e2
 |[]=>Ā []
 |x::S=>match xa x with
  |some k=>match nz S with
   |some s=>Ā (k::s)
   |none=>Ă
  |none=>Ă
theorem BU{x:D}(h:xa x=Ā k):x=ax k/\Sm k:=by
 unfold xa at h;split at h
 ·split at h
  ·rename_i S j e;split at h
   ·rename_i H;cases h;exact⟨by rw[di e];rfl,EB.mp H⟩
   ·cases h
  ·cases h
 ·cases h
theorem tW:∀{xs:List D}{ks:0e2},nz xs=Ā ks->xs=ks.map ax/\∀k∈ks,Sm k
 |[],ks,h=>by cases h;exact⟨rfl,by simp⟩
 |x::xs,ks,h=>by
  unfold nz at h;cases E:xa x with
  |none=>rw[E]at h;cases h
  |some k=>
   rw[E]at h;cases m:nz xs with
   |none=>rw[m]at h;cases h
   |some r=>
    rw[m]at h;cases h;obtain⟨a,b⟩:=BU E;obtain⟨c,d⟩:=tW m;exact⟨by rw[a,c];rfl,λz Z=>(Td.mp Z).elim (λy=>by rw[y];exact b) (d z)⟩
abbrev MZ(ks:0e2):List (List Ć):=kq vx ks
theorem uz{J:az}:∀k:List Ć,toPs J (k.map D.int)=Ā (k.map .int):=by
 intro x;cases x <;> simp_all[toPs,pS,uz]
noncomputable def vt:List Ć->List D
 |a::b::r=>.tup [.int a,.int b]::vt r
 |_=>[]
def Gy(m:Ć)(k:List Ć):D:=.tup [.int m,.tup (vt k)]
theorem xY{J:az}:∀k:List Ć,toPs J (vt k)=Ā (bO k)
 |[]=>rfl
 |[_]=>rfl
 |a::b::r=>by simp[vt,bO,toPs,pS,xY r]
theorem HK{m:Ć}:pS J (Gy m k)=Ā (nt m k):=by
 simp[Gy,nt,pS,toPs,xY]
noncomputable def ml:List D->Option (List Ć)
 |[]=>Ā []
 |.tup [.int a,.int b]::r=>if 0<=a/\a<6/\0<=b/\b<6 then (ml r).map λl=>a::b::l else Ă
 |_=>Ă
def Ak(m:Ć):D->Option (List Ć)
 |.tup [.int y,.tup S]=>if y=m then (match ml S with
  |some k=>if k.length<=30 then Ā k else Ă
  |none=>Ă) else Ă
 |_=>Ă
def pX(m:Ć):List D->Option 0e2
 |[]=>Ā []
 |x::S=>match Ak m x with
  |some k=>match pX m S with
   |some s=>Ā (k::s)
   |none=>Ă
  |none=>Ă
theorem F8:∀{ts:List D}{k:List Ć},ml ts=Ā k->ts=vt k/\jG k=ą/\Aj k:=by
 intro ts
 induction ts with
 |nil=>intro k h;cases h;exact⟨rfl,rfl,by intro x H;cases H⟩
 |cons x r i=>
  intro k h;unfold ml at h;split at h
  ·rename_i d;cases d
  ·rename_i a b R d;cases d;split at h
   ·rename_i C;cases e:ml r with
    |none=>rw[e]at h;cases h
    |some l=>
     rw[e]at h;cases h;refine gF (i e) λc f g=>?_;refine⟨by rw[c];rfl,f,λx H=>?_⟩;rcases Td.mp H with z|z
     ·simp_all
     ·rcases Td.mp z with z | z
      ·simp_all
      ·exact g x z
   ·cases h
  ·cases h
theorem xv{m:Ć}{x:D}(h:Ak m x=Ā k):x=Gy m k/\Lc k:=by
 unfold Ak at h;split at h
 ·split at h
  ·rename_i M;subst M;split at h
   ·rename_i a K;split at h
    ·rename_i L;cases h;refine gF (F8 K) λH c d=>?_;exact⟨by rw[H];rfl,c,L,d⟩
    ·cases h
   ·cases h
  ·cases h
 ·cases h
theorem BQ{m:Ć}:∀{xs:List D}{ks:0e2},pX m xs=Ā ks->xs=ks.map (Gy m)/\∀k∈ks,Lc k:=by
 intro xs
 induction xs with
 |nil=>intro ks h;cases h;exact⟨rfl,by simp⟩
 |cons x xs i=>
  grind [pX,xv]
noncomputable def xg:List D->Ć
 |.tup (.int m::_)::_=>m
 |_=>0
open Classical in
def bK(ds:List D)(J:az):aj D:=match ds with
 |[.obj n]=>match J[n]? with
  |some (.lst S)=>match nz S with
   |some k=>if k.Nodup/\k.length<5000/\Tm vx k then .ok 1e3 (J++[.lst ((MZ k).map ax)]) else .bad
   |none=>match pX (xg S) S with
    |some k=>if k.Nodup/\k.length<5000/\Tm lD k then .ok 1e3 (J++[.lst ((kq lD k).map (Gy (xg S)))]) else .bad
    |none=>gB [.obj n] J
  |_=>gB [.obj n] J
 |ds=>gB ds J
theorem wx:sN p bK (λxs H Q=>(ri p.K qU vx Sm xs H Q\/∃m,ri p.K (nt m) lD Lc xs H Q)\/(vI p.K xs H Q\/vH p.K p.w xs H Q)):=by
 intro b y H c a Q S r P;unfold bK at P;split at P
 ·rename_i n;split at P
  ·rename_i xs d;split at P
   ·rename_i s h;split at P
    ·rename_i C;obtain⟨q,O⟩:=tW h;rw[q]at d;exact .inl (.inl (Bm qk (λk=>⟨_,rfl⟩) (λk _=>by show pS a (.tup (k.map D.int))=_;simp[pS,uz];rfl) O S d r C.1 C.2.1 C.2.2 P))
    ·exact P.elim
   ·split at P
    ·rename_i s h;split at P
     ·rename_i C;obtain⟨q,O⟩:=BQ h;generalize xg xs=m at P q;rw[q]at d;exact .inl (.inr ⟨m,Bm (lP m) (λk=>⟨_,rfl⟩) (λk _=>HK) O S d r C.1 C.2.1 C.2.2 P⟩)
     ·exact P.elim
    ·exact .inr (lT _ _ _ _ _ _ S r P)
  ·exact .inr (lT _ _ _ _ _ _ S r P)
 ·exact .inr (lT _ _ _ _ _ _ S r P)
theorem b8.ex{X:Cx}{f:ā}{r:Ć->List V->Hp->VK->Prop}(h:∀m,b8 X f (r m)):b8 X f (λxs H Q=>∃m,r m xs H Q):=λp s a H xs U Q I R=>zE λm q=>h m p s a H xs U Q I R q
theorem zZ{X:Cx}(U:3e8)(C:2e8)(hK:0e9)(W:autoParam (X.w=p.w) ATr):ny X p "sorted" bK:=⟨_,_,.inl ⟨_,rfl⟩,by decide +kernel,((oF qk U).or (b8.ex λm=>oF (lP m) U)).or (wN.or (wM C U)),by rw[hK,W];exact wx,by decide,by decide⟩
def Rb:V->List V->Hp->VK->Prop:=λx y H Q=>∃i:Ć,x=.int i/\y=[]/\Q (.int ((Builtin.Int.intBits i:ă):Ć)) H
theorem NH {X:Cx}:Hi X "int.bit_length" Rb:=by
 intro P s a H x y v U Q I r R h;obtain⟨i,rfl,rfl,hQ⟩:=h;obtain⟨t,rfl⟩:=r;cases R;exact Uo F.slot_int_bit_length (û s i t) F.entry_int_bit_length (F.args_int_bit_length_1 _) (AutoIntG2.int_bit_length_int_0 i t).meets ⟨.int ((Builtin.Int.intBits i:ă):Ć),H,I.tok _,⟨s.toks,rfl⟩,hQ⟩
noncomputable def GF(d:D)(J:az):aj D:=match d with
 |.int i=>.ok (.int ((Builtin.Int.intBits i:ă):Ć)) J
 |_=>.bad
section
variable{X:Cx}{fo:ME}
theorem Pj (O:BE p X ob fo) (hbase:autoParam (ĩ ob "bit_length" X.env (eval ob 1e4)=eval ob 1e4) ATr) (hline:(autoParam ((apos.endLine == pos.line)=ą) ATr)) (hK:0e9):BE p X (.Call (.Attribute ob "bit_length" apos) [] [] pos) (iu GF fo):=.mk (by
 refine(Jq PySem.F.plainAttrs_int PySem.F.slot_int_bit_length PySem.F.type_int_bit_length NH O.h hbase hline).weak λl H Q=>aR λc j f S R P=>⟨c,j,f,S,R,(aD.bind P).imp λd g k e m b a v r=>?_⟩;cases d with
 |int i=>
  obtain rfl:=ao.mp r;exact⟨rfl,i,rfl,rfl,aD.now a b _ (ao.mpr rfl)⟩
 |_=>exact a.elim)
end
noncomputable abbrev dO(a:Ĉ)(xs:XD)(z:ă):HO:=.ext λh=>DctAt h a xs z
def O5(a:Ĉ)(n z:ă):It:=
 ⟨λi H=>(∃S,H a=Ā (dO a S z)/\S.length=n)/\i<n,λi H x b=>b=H/\∀S,H a=Ā (dO a S z)->∃e,S[i]?=Ā e/\x=.ref e.2.1,λi H=>(∃S,H a=Ā (dO a S z)/\S.length=n)/\n<=i⟩
theorem Gi{h:Ĕ}{xs ys:XD}{e:List Ć×Ĉ×ā}(x:DctAt h a xs ep)(y:DctAt h a ys ep)(n:xs[i]?=Ā e):∃e',ys[i]?=Ā e'/\e'.2.1=e.2.1:=by
 refine fe x λo S H _ d b _=>?_;refine fe y λO j z _ I g _=>?_;rw[H]at z;cases z;rw[d]at I;injection I with I _
 subst I;rw[b]at g;have q:=Sd (λl=>l[i]?) g;simp[SS,n]at q;cases α:ys[i]? with
 |none=>rw[α]at q;cases q
 |some e'=>
  simp_all[Hu]
theorem BR(a it:Ĉ)(n z:ă):vE P w K tg (O5 a n z) [it] it (λi h=>h.IsKeyIter it a i n z) where
 mem:=by simp
 obj:=λi h t b B=>by
  refine bo t λo e c d=>?_
  simp_all
 keep:=λi h j t k=>t.at λo e=>k it 1e1 o e
 item:=by
  intro X hP T hK C i p s u H E I F t N;obtain⟨⟨r,x,L⟩,l⟩:=N;subst L;obtain⟨hD,_,_⟩:=(I.hok a _ x);refine d5 (F it 1e1) λg q O y G μ=>?_;have f:=Vw l;refine CT t hD f λj S U=>?_;have v:aO X p u H {s with heap:=j}:=I.turned (λb o B e=>(U.2 b B).trans e) g q y G μ;refine bo (id S) λo e c d=>?_;refine⟨_,rfl,xj e c d 0e3 ⟨.ref r[i].2.1,H,v,rfl,⟨rfl,λZ α=>?_⟩,S,λb B=>(F b B).1⟩⟩;refine gF (I.hok a _ α) λhY _ _=>?_;refine bb (Gi hD hY f) λA M Q=>?_;exact⟨A,M,by rw[Q]⟩
 done:=by
  intro X hP T hK C i p s u H E I F t N;obtain⟨⟨r,x,L⟩,l⟩:=N;subst L;obtain⟨hD,_,_⟩:=(I.hok a _ x);refine d5 (F it 1e1) λg q O y G μ=>?_;exact Gc (I.ok.hd C) t hD l λj D=>⟨rfl,I.turned (λb o B e=>D b o B e) g q y G μ⟩
 self:=λ_ _ _ _ _ t h=>wpAny_pyIter_keyiter t h
def Ql(t:TE):TI:=λc H R=>t c H λx b=>∃a S z,x=.ref a/\(a == ń)=ć/\b a=Ā (dO a S z)/\R (O5 a S.length z) b
theorem Jh{X:Cx}{l:Expr}{tl:TE}(L:PE X l tl):PI X tg l (Ql tl):=by
 intro p s f H R I h;refine cB (L p s f H _ I h) λv S=>bD λx c d r Q=>?_;refine cF Q λa g z e D hH q=>?_;subst e;cases r;refine gF (d.hok a _ hH) λhD _ _=>?_;refine C5 D hD ?_;refine⟨S.heap.objs.size,[S.heap.objs.size],_,_,c,rfl,d.kept λb o e=>Tr _ e,BR a _ _ _,⟨_,SZ _ rfl,rfl,rfl⟩,λb B=>?_,q⟩;have e:b=S.heap.objs.size:=by simpa using B
 subst e;exact d.fpOk (Rx _) (d.hok.fresh (Rx _))
section
variable{X:Cx}{xs:XD}
theorem vR(I:0e4)(e:H a=Ā (dO a xs ep)):DctAt 1e9 a xs ep:=by
 refine gF (I.hok a _ e) λh _ _=>?_;exact h
theorem yu{h:Ĕ}(d:DctAt h a xs ep):∃o,h.get? a=Ā o:=let ⟨o,_,e,_⟩:=d;⟨o,e⟩
def MQ:TE:=λσ H Q=>∀q,H q=Ă->(q == ń)=ć->Q (.ref q) (bz H q (dO q [] 0))
theorem Fo:PE X (.Dict [] [] pos) MQ:=λpins s σ H Q I h=>by
 refine wpAny_Dict_empty ⟨.ref 0e0,_,I.laid (λ_ _ q=>Tr _ q) (Rx _) ?_,rfl,h _ (I.hok.fresh (Rx _)) (beq_eq_false_iff_ne.mpr (R7 (Sn (RU 0e3 (I.mod.glob.keeps I.bk).lt))))⟩;exact⟨DctAt.new 1e9,⟨_,SZ _ rfl⟩,λb c x k=>x.keeps k⟩
noncomputable def DT:ME:=λ_ J=>.ok 1e3 (J++[.dct [] 0])
theorem Ma:BE p X (.Dict [] [] pos) DT:=⟨Fo.weak λσ H Q=>aR λY e J S R P q z h=>by
 exact P _ _ ((bB z).trans (gM [q])) (S.more z ⟨h,[],aV,.nil,λx d=>by cases d⟩) _ (aI.mpr ⟨q,rfl,by rw[<- S.len];simp⟩)⟩
def LG(K:W.Frag):R2:=λx y H Q=>∃a xs ep b k c r,x=.ref a/\y=.ref b/\H a=Ā (dO a xs ep)/\eQ K H b (k.map V.int)/\(∀e∈xs,eQ K H e.2.1 (e.1.map V.int))/\Ò xs k=Ā (c,đ r)/\Q (.ref r) H
theorem Ke(U:3e8):Dx X (LG X.K):=by
 intro value slice pins s σ H x y v u Q I R α h S;obtain⟨a,xs,ep,b,k,c,r,rfl,rfl,hH,B,d,N,q⟩:=h;cases R;cases α;have hD:=vR I hH;exact Ui hD.typeIs F.slot_dict_getitem.lookup (wpAny_getItem_heap (C_ (R8 (V5 (Vj _ _) _) U)) (pY I B) (hD.all λe n=>pY I (d e n)) N ⟨rfl,.ref r,H,I.tok _,rfl,q⟩) S
noncomputable def DG(d:(List (List Ć×ă)))(k:List Ć):Option ă:=(d.find? λx=>decide (x.1=k)).map (·.2)
theorem sX.at(r:sX Y kvs xs):match DG kvs k with
  |some m=>∃c b,Ò xs k=Ā (c,đ b)/\Y[m]?=Ā b
  |none=>Ò xs k=Ă:=by
 induction r with
 |nil=>rfl
 |cons h _ i=>
  rename_i q x l1 l2 _;refine kh h λd b f g=>?_;unfold DG Ò at i⊢;rw[U8,U8,<- d];by_cases e:q.1=k
  ·simp[RB e,Option.map_some];refine⟨x.2.1,b,?_,f⟩;rw[<- g]
  ·simp only[RD e];exact i
def qW(a b:D)(J:az):aj D:=match a,b with
 |.obj n,.tup K=>match J[n]?,fX K with
  |some (.dct d _),Ā k=>match DG d k with
   |some m=>.ok (.obj m) J
   |none=>.bad
  |_,_=>.bad
 |_,_=>.bad
theorem JQ:sO p qW (LG p.K):=by
 intro a b v y H Y J Q S R j P;unfold qW at P;split at P
 ·rename_i n q;split at P
  ·rename_i i ep k x f;obtain⟨D,rfl,A⟩:=aI.mp R;refine aU (aH.mp j) λB u V h d=>?_;subst V;rw[di f]at d;rw[d.ints]at h;obtain⟨l,e,o,xs,hH,r,t⟩:=S.at x;rw[A]at e;cases e;have g:=r.at (k:=k);split at P
   ·rename_i m M;rw[M]at g;refine bZ g λc b z G=>?_;exact⟨D,xs,ep,B,k,c,b,rfl,rfl,hH,h,t,z,P.now S _ (aI.mpr ⟨b,rfl,G⟩)⟩
   ·exact P.elim
  ·exact P.elim
 ·exact P.elim
theorem Mo{a b:Expr}{fb:ME}(U:3e8)(q:(BE p X a fa))(B:(BE p X b fb))(hs:ng b:=by exact λ_ _=>rfl)(hK:0e9):BE p X (.Subscript a b pos) (au qW fa fb):=
 ⟨(AL (Ke U) q.h B.h hs).weak λσ H Q => aR λY f J S R P => ⟨Y, f, J, S, R, (aD.bind P).imp λx c t i n k g v V => ⟨i, f, c, k, R.mono n, (aD.bind g).imp λy e l d o m j u r => by
   rw[hK];exact JQ x y v u l d e Q m (V.mono o) r j⟩⟩⟩
def QJ(K:W.Frag):V->List V->Hp->VK->Prop:=λx y H Q=>∃a xs ep k b z,x=.ref a/\y=[.ref b,.ref z]/\H a=Ā (dO a xs ep)/\(a == ń)=ć/\eQ K H b (k.map V.int)/\(∀e∈xs,eQ K H e.2.1 (e.1.map V.int))/\xs.length<=1000 /\
 ((∃c r,Ò xs k=Ā (c,đ r)/\Q (.ref r) H)\/(Ò xs k=Ă/\Q (.ref z) (bz H a (dO a (xs++[(k,b,đ z)]) (ep+1)))))
theorem NG (C:3e8):Hi X "dict.setdefault" (QJ X.K):=by
 intro pins s σ H x μ v G Q I j V h;obtain⟨a,xs,ep,k,b,z,rfl,rfl,hH,S,B,f,L,h⟩:=h;cases j;refine aU (w9 V) λu W l U R=>?_;subst l;cases U;cases R;refine sH 0e1 (pY I B) (vR I hH) (λe E=>pY I (f e E)) (RH L 0e3) S (λq d T=>?_) λn m T hD' t=>?_
 ·rcases h with ⟨c, r, g, i⟩ | ⟨g, _⟩
  ·rw[g]at d;cases d;exact⟨.ref r,H,I.tok _,rfl,i⟩
  lia
 ·rcases h with ⟨c, r, g, i⟩ | ⟨_, i⟩
  ·rw[g]at n;cases n
  ·exact⟨.ref z,_,I.write (o:=dO a (xs++[(k,b,đ z)]) (ep+1)) (by rw[hH];trivial) (.inl rfl) (λb o B e=>(t.2 b B).trans e) (yu hD') ⟨hD',yu hD',λw y x k=>x.keeps k⟩,rfl,i⟩
def Q9(r:(V->List V->Hp->VK->Prop))(d:TE)(t:TA):TE:=λσ H Q=>d σ H λx b=>(∃a xs ep,x=.ref a/\b a=Ā (dO a xs ep))/\t σ b λy l=>r x y l Q
theorem Nw{o:Expr}{es:4e1}{name:ď}{id:Ī}{r:(V->List V->Hp->VK->Prop)}{td:TE}{t:TA}(slot:Zr "dict" name id)(y:(Ô (.builtin id)=pure (.type "method_descriptor")))(M:Hi X id r)(O:PE X o td)(A:PA X (e::es) t)(hbase:ĩ o name 1e4 (eval o 1e4)=eval o 1e4)(W : ((Ħ cpos (ĉ (e :: es) 1e4)).all (λx => !x.1) && (Š cpos (ō [] 1e4)).all (λx => x.1.isSome)
   && decide ((e::es).length+([]:List ŋ).length+(if ([]:List ŋ).isEmpty then 0 else 1)<30))=ą)(hline:(apos.endLine == cpos.line)=ą)(hs:ĉ (e::es) 1e4=(ć,eval e 1e4)::ĉ es 1e4)(hplain:(Ħ cpos (ĉ es 1e4)).any 4e2=ć):
  PE X (.Call (.Attribute o name apos) (e::es) [] cpos) (Q9 r td t):=by
 intro pins s σ H Q I h;refine Å hbase W hline rfl (cB (O pins s σ H _ I h) λv S=>jS λx c d R ty q=>?_);obtain⟨a,xs,ep,rfl,hH⟩:=ty;cases R;have hD:=vR d hH;refine⟨"dict",id,PySem.F.plainAttrs_dict,slot,y,hD.typeIs,λb B=>?_,?_⟩
 ·cases B;refine aU hD λf j E m _=>?_;exact⟨f,E,m.2.1⟩
 ·have hA:=A cpos pins S σ c _ d q;rw[hs]at hA⊢;exact Um (by grind) (Û (cB hA λU g=>bD λi l n L G=>M pins g σ l (.ref a) i (.ref a) U Q n rfl L G))
theorem uN{q:Ĉ}{φ:Ĕ->Prop}{o:HO}(h:H q=Ā (.ext φ)):iK p.K H (bz H q o) Y Y:=by
 refine⟨λa xs z=>?_,λa xs z=>?_,λ_ _ z=>z,λa fs z=>by rw[aN (mh z h (by intro y;cases y))];exact z⟩
 ·rcases z with (z | ⟨x, z⟩) | z
  ·exact .inl (.inl (by rw[aN (mh z h (by intro y;cases y))];exact z))
  ·exact .inl (.inr ⟨x,by rw[aN (mh z h (by intro y;cases y))];exact z⟩)
  ·exact .inr z
 ·rcases z with ⟨x, z⟩ | z
  ·exact .inl ⟨x,by rw[aN (mh z h (by intro y;cases y))];exact z⟩
  ·exact .inr z
theorem z6{φ:Ĕ->Prop}{o o':O}{ho:HO}(S:(p.S H Y J))(c:J[n]?=Ā o)(d:Y[n]?=Ā a)(f:H a=Ā (.ext φ))(q:qY p.K p.w (bz H a ho) Y o' a):p.S (bz H a ho) Y (J.set n o'):=by
 refine⟨by simp[S.len],S.nd,λm o b g G=>?_⟩;have N:=(Se.mp c).1;by_cases h:m=n
 ·simp_all
 ·rw[Th (λz=>h z.symm)]at g;refine(S.ob m o b g G).mono (uN (p:=p) (Y:=Y) (o:=ho) f) (aN λz=>h ?_);subst z;obtain⟨l1,E⟩:=Se.mp G;obtain⟨l2,e⟩:=Se.mp d;exact(Ru S.nd).mp (E.trans e.symm)
theorem sX.length(r:sX Y kvs xs):xs.length=kvs.length:=by
 induction r with
 |nil=>rfl
 |cons _ _ i=>simp[i]
theorem sX.snoc{z:Ĉ}(r:sX Y kvs xs)(h:Y[m]?=Ā z):sX Y (kvs++[(k,m)]) (xs++[(k,b,đ z)]):=by
 induction r with
 |nil=>exact .cons ⟨rfl,z,h,rfl⟩ .nil
 |cons c _ i=>exact .cons c i
def DE(d:D)(ds:List D)(J:az):aj D:=match d,ds with
 |.obj n,[.tup S,.obj m]=>match J[n]?,fX S with
  |some (.dct K ep),Ā k=>if K.length<=1000 then (match DG K k with
   |some j=>.ok (.obj j) J
   |none=>.ok (.obj m) (J.set n (.dct (K++[(k,m)]) (ep+1)))) else .bad
  |_,_=>.bad
 |_,_=>.bad
noncomputable def Oo(d:D)(J:az):ċ:=match d with
 |.obj n=>match J[n]? with
  |some (.dct _ _)=>ą
  |_=>ć
 |_=>ć
def Aw(f:D->List D->az->aj D)(fo:ME)(G:MA):ME:=λb J=>(fo b J).bind λo d=>if Oo o d=ą then (G b d).bind λS e=>f o S e else .bad
theorem JV:Ld p DE (QJ p.K):=by
 intro d T v O H Y J Q S I M P;unfold DE at P;split at P
 ·rename_i n U m;split at P
  ·rename_i y ep k q w;split at P
   ·rename_i L;obtain⟨D,rfl,A⟩:=aI.mp I;refine aU M.two λF W V R C=>?_;subst V;refine aU (aH.mp R) λB α v10 f l=>?_;subst v10;obtain⟨z,rfl,Z⟩:=aI.mp C;rw[di w]at l;rw[l.ints]at f;obtain⟨N,E,i,xs,hH,r,t⟩:=S.at q;rw[A]at E;cases E;have g:=r.at (k:=k);split at P
    ·rename_i j μ;rw[μ]at g;refine bZ g λc b G u=>?_;exact⟨D,xs,ep,k,B,z,rfl,rfl,hH,i,f,t,by rw[r.length];exact L,.inl ⟨c,b,G,P.now S _ (aI.mpr ⟨b,rfl,u⟩)⟩⟩
    ·rename_i μ;rw[μ]at g;have e:=uN (p:=p) (Y:=Y) (o:=dO D (xs++[(k,B,đ z)]) (ep+1)) hH;refine⟨D,xs,ep,k,B,z,rfl,rfl,hH,i,f,t,by rw[r.length];exact L,.inr ⟨g,P _ _ e (z6 S q A hH ⟨i,_,aV,r.snoc Z,λx h=>?_⟩) _ (aI.mpr ⟨z,rfl,Z⟩)⟩⟩;rcases Te.mp h with h|h
     ·exact e.tup _ _ (t x h)
     ·rw[UM.mp h];exact e.tup _ _ f
   ·exact P.elim
  ·exact P.elim
 ·exact P.elim
theorem Pf{o f:Expr}{fo:ME}(U:3e8)(O:BE p X o fo)(g:BA p X [e,f] fr)(hbase:autoParam (ĩ o "setdefault" X.env (eval o 1e4)=eval o 1e4) ATr)(W :autoParam (((Ħ pos (ĉ [e, f] 1e4)).all (λx => !x.1) && (Š pos (ō [] 1e4)).all (λx => x.1.isSome)
   && decide ([e,f].length+([]:List ŋ).length+(if ([]:List ŋ).isEmpty then 0 else 1)<30))=ą) ATr)(hline:(autoParam ((apos.endLine == pos.line)=ą) ATr))(hs:autoParam (ĉ [e,f] 1e4=(ć,eval e 1e4)::ĉ [f] 1e4) ATr)(l:autoParam ((Ħ pos (ĉ [f] 1e4)).any 4e2=ć) ATr)(hK:0e9):
  BE p X (.Call (.Attribute o "setdefault" apos) [e,f] [] pos) (Aw DE fo fr):=
 ⟨(Nw VN PySem.F.type_dict_setdefault (NG U) O.h g.h hbase W hline hs l).weak λσ H Q => aR λY q J S R P => ⟨Y, q, J, S, R, (aD.bind P).imp λd b μ i y m c v r => by
   by_cases L:Oo d b=ą
   ·rw [RC L] at c;refine⟨?_,i,q,b,m,R.mono y,(aD.bind c).imp λB k t j z w u V I=>by rw[hK];exact JV d B v V t j k Q w (r.mono z) I u⟩;unfold Oo at L;split at L
    ·rename_i n;split at L
     ·rename_i G ep C;obtain⟨D,rfl,g⟩:=aI.mp r;obtain⟨M,E,N,xs,hH,_⟩:=m.at C;rw[g]at E;cases E;exact⟨D,xs,ep,rfl,hH⟩
     ·cases L
    ·cases L
   ·rw[RE L]at c;exact c.elim⟩⟩
noncomputable def AF(d:D)(J:az):aj kb:=match d with
 |.obj n=>match J[n]? with
  |some (.dct k ep)=>.ok (.dks n k ep) J
  |_=>.bad
 |_=>.bad
def Os(f:ME):MI:=λe J=>(f e J).bind AF
theorem sX.get{q:List Ć×ă}(r:sX Y kvs xs)(h:kvs[i]?=Ā q):∃x,xs[i]?=Ā x/\x.1=q.1:=by
 induction r generalizing i with
 |nil=>cases h
 |cons b _ I=>
  cases i with
  |zero=>simp_all
  |succ i=>exact I h
theorem C4(S:(p.S H Y J))(N:J[n]?=Ā (.dct kvs ep))(A:Y[n]?=Ā a)(L:xs.length=kvs.length):tw p (O5 a xs.length ep) (.dks n kvs ep) H Y:=by
 intro o l m c b O;obtain⟨v,E,B,α,hH,r,t⟩:=b.at O;rw[c.pre n a A]at E;cases E;have y:=r.length;refine⟨λi d f=>?_,⟨α,hH,RM y (R9 L)⟩,by show xs.length<=(kvs.map _).length;simp_all⟩;have h:(kvs.map λp=>D.tup (p.1.map D.int))[i]?=Ā d:=f;rw[SS]at h;cases k:kvs[i]? with
 |none=>simp_all
 |some q=>
  rw[k]at h;simp at h;subst h;have I:=(Se.mp k).1;refine⟨⟨⟨α,hH,by lia⟩,Ry I (RI (R9 L))⟩,λx u=>zA λe g=>?_⟩;subst e;obtain⟨z,Z,rfl⟩:=g α hH;refine bb (r.get k) λC j w=>?_;exact⟨iK.refl,b,aH.mpr ⟨z.2.1,_,rfl,t z (T1 Z),by simp_all[fB]⟩⟩
theorem NR{l:Expr}{f:ME}(L:BE p X l f):BI p X tg l (Os f):=⟨(Jh L.h).weak λσ H R=>aR λY m J S Rr P=>by
 refine⟨Y,m,J,S,Rr,(aD.bind P).imp λd j o i q c b v V=>?_⟩;unfold AF at b;split at b
 ·rename_i n;split at b
  ·rename_i k ep x;obtain⟨D,rfl,A⟩:=aI.mp V;obtain⟨u,e,g,xs,hH,r,t⟩:=c.at x;rw[A]at e;cases e;exact⟨D,xs,ep,rfl,g,hH,b.now c _ x (C4 c x A r.length)⟩
  ·exact b.elim
 ·exact b.elim⟩
end
end _l
namespace _r
open PySem PySem.W PyProof.Rows
structure ZA(z TI TO i1 i2:Ĉ)(f1 f2:List Ĉ):Prop where
 TIz:TI≠z
 TOz:TO≠z
 i1z:i1≠z
 i2z:i2≠z
 TOi1:TO≠i1
 TOi2:TO≠i2
 z1:z∉f1
 z2:z∉f2
 t1:TO∉f1
 t2:TO∉f2
 j1:i2∉f1
 j2:i1∉f2
end _r
namespace _l
open PySem PySem.Spec PyProof.Rows _r
structure ZN(z TI TO i1 i2 a1 a2:Ĉ):Prop where
 nd:[z,TI,TO,i1,i2].Nodup
 n1:∀b∈[z,TI,TO,i1,i2],a1≠b
 n2:∀b∈[z,TI,TO,i1,i2],a2≠b
noncomputable def QH:Expr->List ď
 |.Name x _=>[x]
 |_=>[]
def QG:Expr->List ď
 |.Tuple S _ _=>S.flatMap QH
 |e=>QH e
def Gz(e:Expr)(cap:2e9)(N:List ď):List ď:=QG e++cap.filterMap λo=>o.bind λi=>N[i]?
def Oj(s:List Ě)(cap:2e9)(N:List ď):List ď:=s.flatMap (QG ·.target)++cap.filterMap λo=>o.bind λi=>N[i]?
section
variable{X:Cx}{a b c d:Expr}{g:MG}{ifs:4e1}{cap:2e9}{tt:MT}{te:ME}
theorem Pi(S:lM X.N X.env.scope scope (Gz tg cap X.N) cap=ą)(I:BI p X tg iter fi)(G:∀cl C s H fp,BG p.nx (fG X (Gz tg cap X.N) scope cl C s H fp) tg g)(T:∀cl C s H fp,Dy p.nx (fG X (Gz tg cap X.N) scope cl C s H fp) ifs tt)(n:∀cl C s H fp,BE p.nx (fG X (Gz tg cap X.N) scope cl C s H fp) elt te)(h:2e8)(hs:2e6):BE p X 1e7 (bq fi cap g tt te):=HS (r9 rfl rfl S) I G T n h hs
theorem PH(i:ă)(hN:(X.N.Nodup))(S:lM X.N X.env.scope scope (Gz tg cap X.N) cap=ą)(I:BI p X tg iter fi)(G:∀cl C s H fp,BG p.nx (fG X (Gz tg cap X.N) scope cl C s H fp) tg g)(T:∀cl C s H fp,Dy p.nx (fG X (Gz tg cap X.N) scope cl C s H fp) ifs tt)(n:∀cl C s H fp,BE p.nx (fG X (Gz tg cap X.N) scope cl C s H fp) elt te)(j:(autoParam (X.N[i]?=Ā x) ATr))(f:(autoParam (X.env.scope.names.lookup x=Ā .local) ATr))(h:2e8)(W:(autoParam (ī 1e7 (Ā (.Name x pos1)) pos2.line 1e4=pure ą) ATr))(hs:2e6):BS p X (.Assign [.Name x pos1] 1e7 pos2) (aZ (bq fi cap g tt te) (ah i)):=IQ i hN (r9 rfl rfl S) I G T n j f h W hs
variable{mb:MB}{rest:List Ě}
theorem PF(i:ă)(hN:(X.N.Nodup))(S:lM X.N X.env.scope scope (Oj (⟨tg,iter,ifs,0⟩::rest) cap X.N) cap=ą)(I:BI p X tg iter fi)(G:∀cl C s H fp,BG p.nx (fG X (Oj (⟨tg,iter,ifs,0⟩::rest) cap X.N) scope cl C s H fp) tg g)(T:∀cl C s H fp,Dy p.nx (fG X (Oj (⟨tg,iter,ifs,0⟩::rest) cap X.N) scope cl C s H fp) ifs tt)(B:∀cl C s H fp acc,Lg p.nx (fG X (Oj (⟨tg,iter,ifs,0⟩::rest) cap X.N) scope cl C s H fp) (.ListComp elt (⟨tg,iter,ifs,0⟩::rest) scope pos) 1 acc mb)(hz:autoParam (m4 (⟨tg,iter,ifs,0⟩::rest)=ą) ATr)(j:(autoParam (X.N[i]?=Ā x) ATr))(f:(autoParam (X.env.scope.names.lookup x=Ā .local) ATr))(h:2e8)(W:(autoParam (ī (.ListComp elt (⟨tg,iter,ifs,0⟩::rest) scope pos) (Ā (.Name x pos1)) pos2.line 1e4=pure ą) ATr))(hs:2e6):BS p X (.Assign [.Name x pos1] (.ListComp elt (⟨tg,iter,ifs,0⟩::rest) scope pos) pos2) (aZ (iU fi cap g tt mb) (ah i)):=ET i hN (r9 rfl rfl S) I G T B hz j f h W hs
end
theorem qb{l:List ď}(h:decide l.Nodup=ą):l.Nodup:=Wr h
end _l
namespace _w
open PySem _l
section
structure Nm(mg:3e6):Prop where
 ValueError:mg "ValueError" = Ă
 all:mg "all" = Ă
 any:mg "any" = Ă
 bool:mg "bool" = Ă
 enumerate:mg "enumerate" = Ă
 int:mg "int" = Ă
 isinstance:mg "isinstance" = Ă
 len:mg "len" = Ă
 list:mg "list" = Ă
 max:mg "max" = Ă
 min:mg "min" = Ă
 range:mg "range" = Ă
 repr:mg "repr" = Ă
 set:mg "set" = Ă
 sorted:mg "sorted" = Ă
 tuple:mg "tuple" = Ă
def ip:MS:=aY (aZ (aA eU (ag (au bN 3e4 2e2) (aw))) (ah 1))
 (gS (eP (au (fL .Gt) (ai 1) (cC (.int 12)))) (kD "TooGreat" "many" "most" (ag (ai 1) (ag (cC (.int 12)) (aw)))) (b9))
def cg:List D->az->aj D:=fF 1 2 ip
def jM:MS:=gS (eP (au (fL .Gt) (aA eU (ag 3e4 (aw))) (cC (.int 300)))) (kD "TooGreat" "many" "most" (ag (aA eU (ag 3e4 (aw))) (ag (cC (.int 300)) (aw)))) (b9)
def fm:List D->az->aj D:=fF 1 1 jM
def k8:ME:=d4 (aw)
def ee:MS:=aY (fw (oW bI (au bN (ai 3) (ai 5)) (ag (bJ (ag (ai 6) (ag (au nu 2e2 (ai 4)) (aw)))) (aw))))
 (fw (oW bI (au bN (ai 3) (ai 6)) (ag (bJ (ag (ai 5) (ag (au nu 2e2 (ai 4)) (aw)))) (aw))))
def oM:MS:=aY (aZ 3e4 (cm 2 (aS (ah 1) (aS (ah 2) (cn)))))
 (aY (aZ (bq (cA d3 (ag (ai 1) (aw))) [Ă] (ah 0) (a9) (k8)) (ah 3))
 (aY (fD (cA mn (ag (ai 2) (aw))) (cm 2 (aS (ah 4) (aS (cm 2 (aS (ah 5) (aS (ah 6) (cn)))) (cn)))) ee)
 (bU (ai 3))))
def h7:List D->az->aj D:=fF 1 7 oM
def e9:ME:=bJ (ag (bJ (ag 3e4 (aw))) (ag 2e4 (aw)))
def e7:ME:=bJ (ag (au cq 3e4 (bJ (ag (ai 2) (aw)))) (ag (au GE (ai 1) (ai 3)) (aw)))
def e5:MT:=eP (au (w8 ą) (ai 2) 3e4)
def dm:MB:=nN (dz (au bN (ai 4) (au bN 3e4 (iu qV 2e2)))) (cm 2 (aS (ah 2) (aS (ah 3) (cn)))) (e5) (nE (e7))
def dq:MS:=gS (eP (au (fL .Lt) (au bN (ai 6) 2e4) (au bN (ai 6) (iu qV 2e2)))) (fw (oW bI (Aw DE (ai 2) (ag (bJ (ag (au bN (ai 6) 2e4) (ag (au bN (ai 6) (iu qV 2e2)) (aw)))) (ag (d4 (aw)) (aw)))) (ag (ai 7) (aw)))) (b9)
def e6:MS:=aY (aZ (iU (dz (ai 4)) [Ă,Ă,Ă,Ă,Ā 3] (cm 2 (aS (ah 0) (aS (ah 1) (cn)))) (a9) (dm)) (ah 4))
 (fD (dz (ai 4)) (cm 2 (aS (ah 6) (aS (ah 7) (cn)))) dq)
def je:MS:=aY (aZ (DT) (ah 2))
 (aY (aZ (aA h7 (ag 3e4 (aw))) (ah 3))
 (aY (aZ (bq (cA d3 (ag (au bN 3e4 2e4) (aw))) [Ă] (ah 0) (a9) (e9)) (ah 4))
 (aY (fD (cA d3 (ag (ai 1) (aw))) (ah 5) e6)
 (bU (ai 2)))))
def eA:List D->az->aj D:=fF 2 8 je
def jd:ME:=d4 (aw)
def et:MS:=fw (oW bI (au bN (ai 2) (au gG (iu GF (ai 4)) 2e2)) (ag (ai 4) (aw)))
def dc:MS:=gS (eP (au (w8 ą) (ai 3) 3e4)) (fD (dz (au qW (ai 1) (ai 3))) (ah 4) et) (b9)
def la:MS:=aY (aZ (bq (dz 3e4) [Ă] (ah 0) (a9) (jd)) (ah 2))
 (aY (fD (Os (ai 1)) (ah 3) dc)
 (bU (ai 2)))
def fQ:List D->az->aj D:=fF 2 5 la
def jc:ME:=d4 (aw)
def eo:MS:=fw (oW bI (au bN (ai 1) (au gG (iu GF (aA lE (ag (ai 2) (aw)))) 2e2)) (ag (ai 2) (aw)))
def k9:MS:=aY (aZ (bq (dz 3e4) [Ă] (ah 0) (a9) (jc)) (ah 1))
 (aY (fD (dz 3e4) (ah 2) eo)
 (bU (ai 1)))
def fP:List D->az->aj D:=fF 1 3 k9
def mE:ME:=au (fW ć) (au kk (ai 1) 3e4) 3e4
def qP:MS:=bU (aA vA (ag (bq (dz (ai 1)) [Ă,Ā 0] (ah 0) (a9) (mE)) (aw)))
def gQ:List D->az->aj D:=fF 2 2 qP
def eG:ME:=au qW (ai 1) 3e4
def dg:ME:=au GE 3e4 (au nu 2e2 (ai 1))
def eF:ME:=ai 0
def c9:MT:=iC (gp (aA gQ (ag 3e4 (ag (au bN (ai 1) (ai 2)) (aw)))))
def gk:ME:=aA gQ (ag (ai 1) (ag 3e4 (aw)))
def gj:ME:=ai 0
def c8:MT:=gp (aA vB (ag (bq (dz (au bN (ai 1) (ai 2))) [Ă,Ā 0] (ah 0) (a9) (gk)) (aw)))
def de:MS:=aY (aZ (d4 (aw)) (ah 9))
 (aY (gS (mJ (eP (au (fL .GtE) (ai 8) (aA eU (ag (ai 2) (aw))))) (iC (gp (au bN (ai 2) (ai 8))))) (qT 9 iB (ai 7)) (b9))
 (aY (gS (mJ (eP (au (fL .GtE) (ai 8) (aA eU (ag (ai 2) (aw))))) (gp (au bN (ai 2) (ai 8)))) (aY (aZ (bq (dz (ai 7)) [Ă,Ā 8] (ah 0) (a9) (dg)) (ah 10))
 (qT 9 iB (bq (dz (ai 10)) [Ă,Ā 5,Ā 8] (ah 0) (c9) (eF)))) (b9))
 (aZ (bq (dz (ai 9)) [Ă,Ā 6,Ā 8] (ah 0) (c8) (gj)) (ah 7))))
def il:MS:=aY (aZ (au bN 3e4 2e2) (ah 3))
 (aY (aZ (aA eA (ag 3e4 (ag (ai 1) (aw)))) (ah 4))
 (aY (aZ (aA fQ (ag (ai 3) (ag (ai 4) (aw)))) (ah 5))
 (aY (aZ (aA fP (ag (bq (dz (ai 3)) [Ă,Ā 4] (ah 0) (a9) (eG)) (aw))) (ah 6))
 (aY (aZ (d4 (ag 2e4 (aw))) (ah 7))
 (aY (fD (cA d3 (ag (aA eU (ag (ai 3) (aw))) (aw))) (ah 8) de)
 (bU (ai 7)))))))
def cK:List D->az->aj D:=fF 3 11 il
def jf:MS:=bU (aA cK (ag 3e4 (ag (cC (.int 2)) (ag (ai 1) (aw)))))
def eC:List D->az->aj D:=fF 2 2 jf
def mT:ME:=ai 1
def iG:MT:=gp (au kk (au tq (ai 2) 3e4) 2e2)
def jL:MS:=bU (aA cQ (ag (bq (cA mn (ag 3e4 (aw))) [Ă,Ă,Ā 1] (cm 2 (aS (ah 0) (aS (ah 1) (cn)))) (iG) (mT)) (aw)))
def fk:List D->az->aj D:=fF 2 2 jL
def fS:ME:=bJ (ag (ai 1) (ag (aA fk (ag (ai 2) (ag 3e4 (aw)))) (aw)))
def oO:MS:=aY (aZ 3e4 (cm 2 (aS (ah 2) (aS (ah 3) (cn)))))
 (bU (aA bK (ag (bq (dz (aA cK (ag 3e4 (ag (ai 1) (ag (bJ (aw)) (aw)))))) [Ă,Ā 2,Ā 3] (ah 0) (a9) (fS)) (aw))))
def h8:List D->az->aj D:=fF 2 4 oO
def oN:MS:=bU (aA h8 (ag 3e4 (ag (cC (.int 2)) (aw))))
def f9:List D->az->aj D:=fF 1 1 oN
def ij:MS:=aY (fw (aA cg (ag 3e4 (aw))))
 (bU (aA eU (ag (aA (λs d=>(eC s d).nox) (ag 3e4 (ag (bJ (aw)) (aw)))) (aw))))
def cI:List D->az->aj D:=fF 1 1 ij
def ik:MS:=aY (fw (aA cg (ag 3e4 (aw))))
 (bU (aA nF (ag (aA (λs d=>(f9 s d).nox) (ag 3e4 (aw))) (aw))))
def cJ:List D->az->aj D:=fF 1 1 ik
def i8:MS:=aY (fw (aA cg (ag 3e4 (aw))))
 (aY (aZ (aA (λs d=>(f9 s d).nox) (ag 3e4 (aw))) (ah 1))
 (aY (fw (aA fm (ag (ai 1) (aw))))
 (bU (ai 1))))
def cD:List D->az->aj D:=fF 1 2 i8
def jh:MS:=aY (gS (eP (au (fL .Lt) (ai 1) (aA eU (ag 3e4 (aw))))) (bU (au bN 3e4 (ai 1))) (b9))
 (bU 2e4)
def eE:List D->az->aj D:=fF 2 2 jh
def mF:MS:=aY (aZ (au ph (au cq 3e4 (cC (.int 7919))) (cC (.int 2147483647))) (ah 0))
 (bU (au ph (au cq (au cq (au gH 3e4 3e4) (au gH (cC (.int 48271)) 3e4)) (cC (.int 12345))) (cC (.int 2147483629))))
def fC:List D->az->aj D:=fF 1 1 mF
def jN:MS:=aY (aZ (aA lE (ag 3e4 (ag (au gG 2e4 3e4) (aw)))) (ah 1))
 (bU (d4 (ag (ai 1) (ag (aA ku (ag (au (fL .GtE) (ai 1) (au Hv (cC (.int 10)) (cC (.int 18)))) (aw))) (ag (au ph (ai 1) (cC (.int 1000003))) (aw))))))
def fu:List D->az->aj D:=fF 1 2 jN
def ja:MS:=aY (gS (eP (au (fW ć) (au bN 3e4 2e2) 2e2)) (aY (aZ (au ph (au bN 3e4 2e4) (ai 1)) (ah 2))
 (aY (aZ (au qe (au bN 3e4 2e4) (ai 1)) (kr 3e4 2e4))
 (bU (ai 2)))) (b9))
 (aY (aZ (aA fC (ag (au cq (aA fC (ag (au bN 3e4 (cC (.int 2))) (aw))) (cC (.int 7))) (aw))) (kr 3e4 (cC (.int 2))))
 (bU (au ph (au qe (au bN 3e4 (cC (.int 2))) (cC (.int 64))) (ai 1))))
def bj:List D->az->aj D:=fF 2 3 ja
def lb:MS:=bU (tJ (iu (mH "int") 3e4) (tI (iu (mH "bool") 3e4)))
def ef:List D->az->aj D:=fF 1 1 lb
def jg:MS:=aY (aZ (d4 (ag (iu (jA [] ["TooGreat"]) 3e4) (ag (iu (jA [] ["TooGreat"]) 3e4) (ag (iu (jA [] ["TooGreat"]) 3e4) (ag (iu (jA [] ["TooGreat"]) 3e4) (aw)))))) (ah 1))
 (aY (aZ (au cq (ai 1) (d4 (ag (iu (jA [] ["TooGreat"]) 3e4) (ag (iu (jA [] ["TooGreat"]) 3e4) (ag (iu (jA [] ["TooGreat"]) 3e4) (ag (iu (jA ["TooGreat"] ["TooGreat"]) 3e4) (aw))))))) (ah 1))
 (aY (gS (mJ (iC (gp (iu (jA ["TooGreat"] ["TooGreat"]) 3e4))) (eP (au (fW ą) (oW g8 (ai 1) (ag (cC (.bl ą)) (aw))) 2e2))) (bU (cC (.str "other"))) (b9))
 (bU (au bN (d4 (ag (cC (.str "place")) (ag (cC (.str "number")) (ag (cC (.str "line")) (ag (cC (.str "root")) (ag (cC (.str "tree")) (ag (cC (.str "web")) (ag (cC (.str "text")) (ag (cC (.str "great")) (aw)))))))))) (oW g7 (ai 1) (ag (cC (.bl ą)) (aw)))))))
def df:List D->az->aj D:=fF 1 2 jg
def eO:ME:=bJ (ag (au bN (ai 2) 3e4) (ag (au bN (ai 2) (ai 1)) (aw)))
def eN:ME:=bJ (ag (aA yU (ag 3e4 (aw))) (ag (aA lE (ag 3e4 (aw))) (aw)))
def lj:MS:=aY (aZ (bq (dz (au bN 3e4 2e2)) [Ă,Ă,Ā 1] (cm 2 (aS (ah 0) (aS (ah 1) (cn)))) (a9) (eO)) (ah 2))
 (bU (bJ (ag (au bN 3e4 2e4) (ag (aA cQ (ag (aA bK (ag (aA pf (ag (bq (dz (ai 2)) [Ă] (ah 0) (a9) (eN)) (aw))) (aw))) (aw))) (aw)))))
def eh:List D->az->aj D:=fF 2 3 lj
def cS:ME:=oW lL (ai 1) (ag (aA bj (ag (ai 2) (ag (aA eU (ag (ai 1) (aw))) (aw)))) (aw))
def iH:MS:=aY (aZ (aA jY (ag (ai 1) (aw))) (ah 2))
 (bU (aA cQ (ag (bq (cA d3 (ag (ai 1) (aw))) [Ă,Ā 2,Ā 0] (ah 0) (a9) (cS)) (aw))))
def dF:List D->az->aj D:=fF 2 3 iH
def ei:ME:=au gH (d4 (ag (cC .non) (aw))) (ai 1)
def ig:MS:=gS (kx (eP (au (fW ć) (au bN (au bN (ai 2) (ai 3)) (ai 7)) (au gG (ai 4) 2e2))) (eP (au (vz ć) (au bN (au bN (ai 2) (ai 3)) (ai 8)) (cC .non)))) (aZ (ai 4) (kr (au bN (ai 2) (ai 3)) (ai 8))) (b9)
def ie:MS:=fD (dz (d4 (ag (bJ (ag (ai 5) (ag (ai 6) (aw)))) (ag (bJ (ag (ai 6) (ag (ai 5) (aw)))) (aw))))) (cm 2 (aS (ah 7) (aS (ah 8) (cn)))) ig
def ic:MS:=fD (dz (au bN 3e4 2e2)) (cm 2 (aS (ah 5) (aS (ah 6) (cn)))) ie
def ib:MS:=aY (aZ 2e4 (kr (au bN (ai 2) (ai 3)) (ai 3)))
 (fD (cA lC (ag 2e2 (ag (ai 1) (aw)))) (ah 4) ic)
def oP:MS:=aY (aZ (au bN 3e4 2e4) (ah 1))
 (aY (aZ (bq (cA d3 (ag (ai 1) (aw))) [Ă,Ā 1] (ah 0) (a9) (ei)) (ah 2))
 (aY (fD (cA d3 (ag (ai 1) (aw))) (ah 3) ib)
 (bU (ai 2))))
def ia:List D->az->aj D:=fF 1 9 oP
def gm:ME:=bJ (ag (ai 1) (ag 3e4 (aw)))
def ej:MT:=kx (eP (au (vz ą) (au bN (au bN (ai 3) (ai 1)) 3e4) (cC .non))) (eP (au (fL .LtE) (au bN (au bN (ai 3) (ai 1)) 3e4) (ai 2)))
def gb:MS:=aZ (au cq (ai 3) (bq (cA lC (ag (au cq (ai 4) 2e2) (ag (au bN 3e4 2e4) (aw)))) [Ă,Ā 4,Ā 1,Ā 2] (ah 0) (ej) (gm))) (ah 3)
def lg:MS:=aY (aZ (aA ia (ag 3e4 (aw))) (ah 2))
 (aY (aZ (d4 (aw)) (ah 3))
 (aY (fD (cA d3 (ag (au bN 3e4 2e4) (aw))) (ah 4) gb)
 (bU (bJ (ag (au bN 3e4 2e4) (ag (aA cQ (ag (ai 3) (aw))) (aw)))))))
def dj:List D->az->aj D:=fF 2 5 lg
def gn:ME:=bJ (ag 3e4 (ag (ai 1) (aw)))
def dP:MS:=aZ (au cq (ai 3) (bq (cA d3 (ag (ai 4) (aw))) [Ă,Ā 4] (ah 0) (a9) (gn))) (ah 3)
def dS:ME:=ai 0
def dN:MT:=eP (au (fW ć) (aA bj (ag (ai 1) (ag (cC (.int 2)) (aw)))) 2e4)
def dR:ME:=ai 0
def dM:MT:=eP (au (fW ć) (aA bj (ag (ai 1) (ag (cC (.int 3)) (aw)))) 2e4)
def cN:ME:=bJ (ag 3e4 (ag (au cq 3e4 2e2) (aw)))
def dQ:ME:=bJ (ag 3e4 (ag (au cq 3e4 2e2) (aw)))
def cM:ME:=bJ (ag 2e4 (ag 3e4 (aw)))
def bR:ME:=bJ (ag (aA bj (ag (ai 1) (ag 3e4 (aw)))) (ag 3e4 (aw)))
def gR:MS:=aY (aZ (aA bj (ag 3e4 (ag (cC (.int 7)) (aw)))) (ah 1))
 (aY (aZ (au cq 2e2 (aA bj (ag 3e4 (ag (cC (.int 6)) (aw))))) (ah 2))
 (aY (aZ (d4 (aw)) (ah 3))
 (aY (fD (cA d3 (ag (ai 2) (aw))) (ah 4) dP)
 (aY 0e6
 (bU (aA eh (ag (bJ (ag (ai 2) (ag (aA cQ (ag (ai 5) (aw))) (aw)))) (ag (aA dF (ag 3e4 (ag (ai 2) (aw)))) (aw)))))))))
def dr:List D->az->aj D:=fF 1 6 gR
def fv:MS:=aY (aZ (aA dr (ag 3e4 (aw))) (ah 1))
 (aY (aZ (aA bj (ag 3e4 (ag (cC (.int 6)) (aw)))) (ah 2))
 (aY (gS (eP (au (fL .Lt) (ai 2) (cC (.int 3)))) (aZ (aA dj (ag (ai 1) (ag (cC (.int 2)) (aw)))) (ah 1)) (b9))
 (aY (gS (kx (eP (au (fW ć) (ai 2) 2e4)) (eP (au (fW ą) (au bN (ai 1) 2e2) (bJ (aw))))) (aY (aZ (aA bj (ag 3e4 (ag (aA eU (ag (au bN (ai 1) 2e2) (aw))) (aw)))) (ah 3))
 (bU (bJ (ag (au bN (ai 1) 2e4) (ag (au cq (GI (au bN (ai 1) 2e2) (K6) (mf (ai 3))) (GI (au bN (ai 1) 2e2) (mf (au cq (ai 3) 2e2)) (K6))) (aw)))))) (b9))
 (aY (gS (kx (eP (au (fW ć) (ai 2) 2e2)) (eP (au (fL .Gt) (au bN (ai 1) 2e4) 2e2))) (aY (aZ (aA bj (ag 3e4 (ag (au bN (ai 1) 2e4) (aw)))) (ah 4))
 (aY (aZ (aA cQ (ag (aA bK (ag (bJ (ag (ai 4) (ag (au ph (au cq (au cq (ai 4) 2e2) (aA bj (ag 3e4 (ag (au gG (au bN (ai 1) 2e4) 2e2) (aw))))) (au bN (ai 1) 2e4)) (aw)))) (aw))) (aw))) (ah 5))
 (bU (bJ (ag (au bN (ai 1) 2e4) (ag (aA cQ (ag (aA bK (ag (aA pf (ag (au cq (au bN (ai 1) 2e2) (bJ (ag (ai 5) (aw)))) (aw))) (aw))) (aw))) (aw))))))) (b9))
 (bU (ai 1))))))
def fq:List D->az->aj D:=fF 1 6 fv
def gh:MS:=aY (aZ (Av (au (fW ć) (au kk (au tq (au bN (ai 1) (ai 3)) (ai 2)) 2e2) 2e2) (au (fW ą) (au kk (au bN (ai 1) (ai 3)) (au bN (ai 1) (ai 2))) 2e4)) (ah 4))
 (gS (eP (au (fW ą) (ai 4) (au (w8 ć) (bJ (ag (ai 3) (ag (ai 2) (aw)))) (au bN 3e4 2e2)))) (bU (cC (.bl ć))) (b9))
def gf:MS:=fD (cA d3 (ag (ai 2) (aw))) (ah 3) gh
def ll:MS:=aY (fD (cA d3 (ag (au bN 3e4 2e4) (aw))) (ah 2) gf)
 (bU (cC (.bl ą)))
def dk:List D->az->aj D:=fF 2 5 ll
def eJ:ME:=au bN (ai 1) 3e4
def ek:MT:=eP (au (fW ć) (au kk (au tq (ai 2) 3e4) 2e2) 2e2)
def ew:MS:=aY (aZ (au GE (au bN (ai 5) (ai 6)) (au nu 2e2 (ai 7))) (kr (ai 5) (ai 6)))
 (aZ (au GE (au bN (ai 5) (ai 7)) (au nu 2e2 (ai 6))) (kr (ai 5) (ai 7)))
def cz:MS:=aY (aZ (bq (cA d3 (ag (aA eU (ag (ai 1) (aw))) (aw))) [Ă,Ā 1,Ā 3] (ah 0) (ek) (eJ)) (ah 4))
 (aY (aZ (au gH (d4 (ag 2e4 (aw))) (au bN 3e4 2e4)) (ah 5))
 (aY (fD (dz (ai 4)) (cm 2 (aS (ah 6) (aS (ah 7) (cn)))) ew)
 (gS (gp (aA dk (ag 3e4 (ag (ai 5) (aw))))) (fw (oW bI (ai 2) (ag (bJ (ag (au bN 3e4 2e4) (ag (aA cQ (ag (ai 4) (aw))) (aw)))) (aw)))) (b9))))
def lh:MS:=aY (aZ (au bN 3e4 2e2) (ah 1))
 (aY (aZ (d4 (aw)) (ah 2))
 (aY (fD (cA d3 (ag (au nu 2e2 (aA eU (ag (ai 1) (aw)))) (aw))) (ah 3) cz)
 (bU (aA bK (ag (ai 2) (aw))))))
def fR:List D->az->aj D:=fF 1 8 lh
def jK:MS:=bU (xn [cI,cJ,cD] 0 (ag (ai 1) (aw)))
def fj:MS:=aY (gS (mJ (eP (au (fW ą) (aA df (ag (ai 2) (aw))) (cC (.str "great")))) (mJ (iC (gp (aA ef (ag (iu (kv ["TooGreat"] "many") (ai 2)) (aw))))) (iC (gp (aA ef (ag (iu (kv ["TooGreat"] "most") (ai 2)) (aw))))))) (bU (cC (.str "other"))) (b9))
 (bU (bJ (ag (cC (.str "great")) (ag (iu (kv ["TooGreat"] "many") (ai 2)) (ag (iu (kv ["TooGreat"] "most") (ai 2)) (aw))))))
def i9:MS:=Ar ["TooGreat"] 2 3 jK fj
def a8:List D->az->aj D:=fF 2 3 i9
def eK:ME:=aA a8 (ag 3e4 (ag (ai 1) (aw)))
def ez:MS:=aY (aZ (aA a8 (ag (cC (.int 2)) (ag 3e4 (aw)))) (ah 3))
 (aY (gS (eP (au (tr ą) (aA ck (ag (ai 3) (aw))) (aA ck (ag (Lr (eP (au (fL .Lt) (aA eU (ag (ai 1) (aw))) (cC (.int 301)))) (ai 1) (bJ (ag (cC (.str "great")) (ag (aA eU (ag (ai 1) (aw))) (ag (cC (.int 300)) (aw)))))) (aw))))) (bU (cC (.bl ć))) (b9))
 (gS (gp (iu (mH "list") (ai 3))) (fw (oW bI (ai 3) (ag 2e4 (aw)))) (b9)))
def iq:MS:=aY (gS (eP (au (fL .Gt) (aA eU (ag (au bN 3e4 2e2) (aw))) (cC (.int 12)))) (bU (au (fW ć) (bq (cA d3 (ag (cC (.int 3)) (aw))) [Ă,Ā 0] (ah 0) (a9) (eK)) (au gH (d4 (ag (bJ (ag (cC (.str "great")) (ag (aA eU (ag (au bN 3e4 2e2) (aw))) (ag (cC (.int 12)) (aw))))) (aw))) (cC (.int 3))))) (b9))
 (aY (aZ (aA fR (ag 3e4 (aw))) (ah 1))
 (aY (gS (mJ (eP (au (tr ą) (aA ck (ag (aA a8 (ag 2e4 (ag 3e4 (aw)))) (aw))) (aA ck (ag (aA eU (ag (ai 1) (aw))) (aw))))) (eP (au (tr ą) (aA ck (ag (aA a8 (ag 2e2 (ag 3e4 (aw)))) (aw))) (aA ck (ag (au bN (au cq (ai 1) (d4 (ag (cC .non) (aw)))) 2e4) (aw)))))) (bU (cC (.bl ć))) (b9))
 (aY (fD (cA d3 (ag (cC (.int 2)) (aw))) (ah 2) ez)
 (bU (cC (.bl ą))))))
def cL:List D->az->aj D:=fF 1 4 iq
theorem IM:cH ["_law_script", "_law_every", "_law_one", "_law_five", "_law_web", "_law_cell"] ["_law_script"] (aF jT):=⟨rfl,rfl,rfl,by decide +kernel,rfl,by decide +kernel,by decide +kernel⟩
def si:ME:=bJ (ag (ai 1) (ag 3e4 (aw)))
def js:MS:=aZ (au cq (ai 1) (bq (cA lC (ag (au cq (ai 2) 2e2) (ag (cC (.int 6)) (aw)))) [Ă,Ā 2] (ah 0) (a9) (si))) (ah 1)
def sh:ME:=ai 0
def nc:MT:=eP (au (fL .Lt) (au bN 3e4 2e2) (cC (.int 5)))
def kL:MS:=gS (iC (gp (aA cL (ag (ai 4) (aw))))) (bU (cC (.bl ć))) (b9)
def nh:MS:=gS (iC (gp (aA cL (ag (aA fq (ag (aA fu (ag (ai 5) (aw))) (aw))) (aw))))) (bU (cC (.bl ć))) (b9)
def A1:MS:=aY (aZ (d4 (aw)) (ah 1))
 (aY (fD (cA d3 (ag (cC (.int 6)) (aw))) (ah 2) js)
 (aY (aZ (aA cQ (ag (bq (dz (ai 1)) [Ă] (ah 0) (nc) (sh)) (aw))) (ah 3))
 (aY (fD (dz (d4 (ag (bJ (ag 2e2 (ag (bJ (aw)) (aw)))) (ag (bJ (ag (cC (.int 2)) (ag (bJ (ag (bJ (ag 2e4 (ag 2e2 (aw)))) (aw))) (aw)))) (ag (bJ (ag (cC (.int 3)) (ag (bJ (ag (bJ (ag 2e4 (ag 2e2 (aw)))) (ag (bJ (ag 2e2 (ag (cC (.int 2)) (aw)))) (aw)))) (aw)))) (ag (bJ (ag (cC (.int 5)) (ag (ai 3) (aw)))) (ag (bJ (ag (cC (.int 6)) (ag (aA cQ (ag (ai 1) (aw))) (aw)))) (ag (bJ (ag (cC (.int 6)) (ag (aA cQ (ag (GI (ai 1) (K6) (mf (cC (.int 13)))) (aw))) (aw)))) (aw))))))))) (ah 4) kL)
 (aY (fD (dz (au cq (d4 (ag (aA eE (ag 3e4 (ag 2e4 (aw)))) (aw))) (GI 3e4 (mf 2e2) (mf (cC (.int 3)))))) (ah 5) nh)
 (bU (cC (.bl ą)))))))
def tO:List D->az->aj D:=fF 1 6 A1
end
end _w
set_option hygiene false in
local macro_rules|`(tactic|exists $p,$l)=>`(tactic|(show BE _ _ _ ($p);refine $l))|`(tactic|exists $j,$p,$l)=>`(tactic|(show $j _ _ _ ($p);refine $l))
set_option hygiene false in
local macro_rules|`(tactic|ac_rfl)=>`(tactic|repeat' first|(show BA _ _ _ _;first|exact QO|refine QP ?_ ?_)|(show BE _ _ _ _;first|exists ai _,QV _|(show BE _ _ _ (cC _);first|exact QY|exact QZ|exact QW|exact QX|exact Ph (by assumption))|exists au bN _ _,Pg ?_ ?_|exists au cq _ _,Mv ?_ ?_|exists au gG _ _,Me ?_ ?_|exists au gH _ _,Mm ?_ ?_|exists au ph _ _,Mn ?_ ?_|exists au nu _ _,Mg ?_ ?_|exists au tq _ _,Mf ?_ ?_|exists au kk _ _,HV ?_ ?_|exists au GE _ _,Mt ?_ ?_|exists au qe _ _,HR ?_ ?_|exists au Hv _ _,Mh ?_ ?_|exists au qW _ _,Mo R.units ?_ ?_|exists bJ _,L6 ?_|exists d4 _,L8 ?_|exists aA eU _,jF N6 q.len ?_|exists aA cQ _,jF Gr q.tuple ?_|exists aA bK _,jF (zZ R.units) q.sorted ?_|exists aA pf _,jF (N3 R.units) q.set ?_|exists aA ck _,jF (Gs R) q.repr ?_|exists aA lE _,jF N5 q.max ?_|exists aA yU _,jF N4 q.min ?_|exists aA ku _,jF N7 q.int ?_|exists aA vB _,jF N9 q.all ?_|exists aA vA _,jF N8 q.any ?_|exists aA jY _,HP q.range q.list ?_|exists aA nF _,HN R.units q.min ?_|(show BE _ _ _ (aA _ _);first|refine HU (by assumption) (R.mono 0e3) ?_|refine xB (by assumption) GY (R.mono 0e3) ?_|refine D9 (by assumption) (R.mono 0e3) ?_|refine Ea (by assumption) ((R.h.mark _).mono 0e3) ?_|refine xB (by assumption) (GX vO) (R.mono 0e3) ?_)|exists bq _ _ _ _ _,Pi 0e5 ?_ ?_ ?_ ?_|exists GI _ _ _,Pe ?_ ?_ ?_|exists oW bI _ _,Mu ?_ ?_|exists iu qV _,Ml ?_|exists iu GF _,Pj ?_|exists oW lL _ _,Mi ?_ ?_|exists oW g8 _ _,Mr ?_ ?_|exists oW g7 _ _,Mq ?_ ?_|exists tJ _ _,Mb ?_ ?_|exists Av _ _,O9 ?_ ?_|exists tI _,L7 ?_|exists Lr _ _ _,Pb ?_ ?_ ?_|exists DT,Ma|exists Aw DE _ _,Pf R.units ?_ ?_|(show BE _ _ _ (iu (mH _) _);first|refine AB 0e3 KO 0e3 0e3 q.isinstance q.int ?_|refine AB 0e3 Gq 0e3 0e3 q.isinstance q.bool ?_|refine AB 0e3 Gp 0e3 0e3 q.isinstance q.list ?_)|(show BE _ _ _ (iu (jA _ _) _);first|refine Mp ?_ q.isinstance (by assumption) ?_|refine HQ (by assumption) q.isinstance q.ValueError pR ?_)|exists iu (kv _ _) _,HW (by assumption) ?_|exists au _ _ _,Ms ?_ ?_ ?_|exists xn _ _ _,HM ?_ ?_|refine Mj ?_)|(show sZ _ _ _ _;first|refine LZ ?_|refine HF ?_ ?_|exact L0)|(show BS _ _ _ _;first|exists BS,gS _ _ _,O6 ?_ ?_ ?_|exists BS,bU _,LY ?_|exists BS,fw _,IR ?_|exists BS,fD _ _ _,Nb U_.never ?_ ?_ ?_|exists BS,aZ (bq _ _ _ _ _) (ah _),PH _ (qb 0e5) 0e5 ?_ ?_ ?_ ?_|exists BS,aZ (iU _ _ _ _ _) (ah _),PF _ (qb 0e5) 0e5 ?_ ?_ ?_ ?_|exists BS,aZ _ (ah _),Na _ (qb 0e5) ?_|exists BS,aZ _ _,Nf ?_ ?_|refine Nd _ (qb 0e5) ?_|refine BN (by assumption) (by assumption) (R.mono 0e3) ?_|refine LX vO (qb 0e5) (by assumption) (by assumption) ?_ ?_)|(show BG _ _ _ _;first|exists BG,ah _,Rg _ (qb 0e5)|refine NV ?_|refine NW ?_ ?_)|(show Lx _ _ _ _;first|exact NX|refine Km ?_ ?_)|(show BI _ _ _ _ _;first|(show BI _ _ _ _ (dz _);refine Rf ?_)|(show BI _ _ _ _ (cA d3 _);refine Qi q.range ?_)|(show BI _ _ _ _ (cA lC _);refine Qh q.range ?_)|(show BI _ _ _ _ (cA mn _);refine Qj q.enumerate ?_)|refine NR ?_)|(show BO _ _ _ _;first|exact D6|refine D5 ?_)|(show Dy _ _ _ _;first|exact L5|refine L3 ?_)|(show BT _ _ _ _;first|(show BT _ _ _ (eP _);refine MC ?_ ?_ ?_)|refine L4 ?_|(show BT _ _ _ (gp _);refine Q4 ?_)|refine O8 ?_)|(show BW _ _ _ _;first|refine Pm ?_ ?_|refine MD ?_ ?_|refine Mz ?_|refine Ic ?_)|(show Lg _ _ _ _ _ _;first|refine Qu rfl ?_|refine Qt rfl ?_ ?_ ?_ ?_)|exact P0 R.units|exact NI R.units|exact PY R.units|exact PZ R.units|exact NJ R.units|exact NM|exact Ka|exact NK|assumption|refine CC ?_ ?_|exact Fg|exact PL (by assumption) (GX vO) (R.mono 0e3)|intro _)
namespace _v
variable{adj:(Ć->Ć->Prop)}{p:Ć}
def R(adj:(Ć->Ć->Prop))(p:Ć):ă->Ć->Prop
 |0,q=>q=p
 |n+1,q=>R adj p n q\/∃r,adj r q/\R adj p n r
def qS(adj:(Ć->Ć->Prop))(p:Ć):ă->Ć->Prop
 |0,q=>q=p
 |n+1,q=>R adj p (n+1) q/\¬ R adj p n q
theorem R.up(h:R adj p n q):R adj p (n+1) q:=.inl h
theorem R.mono(h:R adj p n q)(H:n<=m):R adj p m q:=by
 induction H with
 |refl=>exact h
 |step _ i=>exact i.up
theorem qS.r(h:qS adj p n q):R adj p n q:=by
 cases n with
 |zero=>exact h
 |succ n=>exact h.1
theorem R.lev(h:R adj p n q):∃j,j<=n/\qS adj p j q:=by
 induction n with
 |zero=>exact⟨0,Rx _,h⟩
 |succ n i=>
  by_cases r:R adj p n q
  ·obtain⟨j,H,L⟩:=i r;exact⟨j,by lia,L⟩
  ·exact⟨n+1,Rx _,h,r⟩
theorem qS.low(h:qS adj p n q)(r:j<n):¬ R adj p j q:=by
 cases n with
 |zero=>lia
 |succ n=>exact λH=>h.2 (H.mono (RR r))
theorem qS.one(h:qS adj p n q)(h':qS adj p m q):n=m:=by
 rcases ă.lt_trichotomy n m with z|z|z
 ·exact absurd h.r (h'.low z)
 ·exact z
 ·exact absurd h'.r (h.low z)
theorem i0:qS adj p (n+1) q↔¬ R adj p n q/\∃r,adj r q/\qS adj p n r:=by
 constructor
 ·rintro ⟨H, c⟩
  refine⟨c,?_⟩;rcases H with H|⟨r,h,a⟩
  ·exact absurd H c
  ·refine ⟨r, h, ?_⟩;cases n with
   |zero=>exact a
   |succ n=>exact⟨a,λz=>c (.inr ⟨r,h,z⟩)⟩
 ·rintro ⟨H, r, h, a⟩
  exact⟨.inr ⟨r,h,a.r⟩,H⟩
def Up(adj:(Ć->Ć->Prop))(p:Ć)(D:Ć->Prop)(n:ă)(f:(Ć->Option ă)):Prop:=∀q,D q->∀j,f q=Ā j↔(j<=n/\qS adj p j q)
theorem Up.none{D:Ć->Prop}(h:Up adj p D n f)(z:D q):f q=Ă↔¬ R adj p n q:=by
 constructor
 ·intro e a;refine bb a.lev λj H L=>?_;have:=(h q z j).mpr ⟨H,L⟩;rw[e]at this;cases this
 ·intro a;cases e:f q with
  |none=>rfl
  |some j=>
   obtain⟨H,L⟩:=(h q z j).mp e;exact absurd (L.r.mono H) a
theorem Gx{D:Ć->Prop}(h:∀q,D q->f q=if q=p then Ā 0 else Option.none):Up adj p D 0 f:=λq Q j=>by
 rw[h q Q];by_cases e:q=p
 ·rw [RC e];constructor
  ·intro z;cases z;exact⟨Rx _,e⟩
  lia
 ·rw [RE e];constructor
  ·intro z;cases z
  ·rintro ⟨H, c⟩
   have:j=0:=ă.eq_zero_of_le_zero H;subst this;exact absurd c e
theorem Up.next{D:Ć->Prop}{f':(Ć->Option ă)}(h:Up adj p D n f)(hD:∀a b,adj a b->D a)(e:∀q,D q->∀j,f' q=Ā j↔(f q=Ā j\/(f q=Option.none/\j=n+1/\∃r,adj r q/\f r=Ā n))):Up adj p D (n+1) f':=λq H j=>by
 rw[e q H j];constructor
 ·rintro (z | ⟨d, g, r, Z, i⟩)
  ·obtain⟨μ,L⟩:=(h q H j).mp z;exact⟨RG μ,L⟩
  ·subst g;exact⟨Rx _,i0.mpr ⟨(h.none H).mp d,r,Z,(((h r (hD r q Z) n).mp i).2)⟩⟩
 ·rintro ⟨μ, L⟩
  by_cases N:j<=n
  ·exact .inl ((h q H j).mpr ⟨N,L⟩)
  ·have:j=n+1:=RZ μ (RP (ă.lt_of_not_le N));subst this;refine kh (i0.mp L) λc r A R=>?_;exact .inr ⟨(h.none H).mpr c,rfl,r,A,(h r (hD r q A) n).mpr ⟨Rx _,R⟩⟩
def Ay(adj:(Ć->Ć->Prop))(p:Ć)(D:Ć->Prop)(f:(Ć->Option ă)):Prop:=∀q,D q->∀j,f q=Ā j↔qS adj p j q
theorem qS.below:∀{q:Ć},qS adj p n q->∀j,j<=n->∃r,qS adj p j r:=by
 induction n with
 |zero=>grind
 |succ n i=>
  intro q h j H;by_cases e:j=n+1
  ·grind
  ·refine kh (i0.mp h) λ_ r _ R=>?_;exact i R j (RR (RN H e))
theorem Up.full{D:Ć->Prop}(h:Up adj p D n f)(hD:∀a b,adj a b->D b)(e:∀q,D q->¬ qS adj p (n+1) q):Ay adj p D f:=λq Q j=>by
 rw[h q Q j];constructor
 ·exact λz=>z.2
 ·intro L;refine⟨?_,L⟩;apply R0;intro μ;obtain⟨r,H⟩:=L.below (n+1) (RP μ);refine kh (i0.mp H) λ_ s S _=>?_;exact e r (hD s r S) H
theorem μ2(P:0<=p/\p<m)(hD:∀a b,adj a b->0<=b/\b<m)(h:qS adj p n q):n<m:=by
 have d:∀j,∃r,j<=n->qS adj p j r:=λj=>by
  by_cases H:j<=n
  ·obtain⟨r,d⟩:=h.below j H;exact⟨r,λ_=>d⟩
  ·exact⟨0,λz=>absurd z H⟩
 let r:ă->Ć:=λj=>(d j).choose
 have c:∀j,j<=n->qS adj p j (r j):=λj H=>(d j).choose_spec H
 have rng:∀j,j<=n->0<=r j/\r j<m:=λj H=>by
  have:=c j H;cases j with
  |zero=>rw[show r 0=p from this];exact P
  |succ j=>
   obtain⟨_,s,S,_⟩:=i0.mp this;exact hD s _ S
 have N:((List.range (n+1)).map λj=>(r j).toNat).Nodup:=by
  rw[List.Nodup,SW];refine List.Pairwise.imp_of_mem (R:=(·<·)) ?_ Vf;intro a b A i B e;rw[SM]at A i;have k:=rng a 0e1;have L:=rng b 0e1;have E:r a=r b:=by lia
  have f:=c a 0e1;have g:=c b 0e1;rw[E]at f;have:=f.one g
  lia
 have sub:((List.range (n+1)).map λj=>(r j).toNat) ⊆ List.range m:=λx X=>by
  obtain⟨j,H,rfl⟩:=SY.mp X;rw[SM]at H⊢;have:=rng j 0e1
  lia
 have:=N.length_le_of_subset sub;rw[Us,UT,UT]at this;lia
end _v
namespace _v
noncomputable def vp(f:(Ć->Option ă))(r:Ć)(v:ă):Ć->Option ă:=λq=>if q=r then Ā v else f q
def Ae(n:ă)(f:(Ć->Option ă))(C:Ć×Ć):Ć->Option ă:=if f C.1=Ā n/\f C.2=Ă then vp f C.2 (n+1) else f
theorem Ep{f0:(Ć->Option ă)}{done:List (Ć×Ć)}{qr:Ć×Ć}(h:∀q j,f q=Ā j↔(f0 q=Ā j\/(f0 q=Ă/\j=n+1/\∃r,(r,q)∈done/\f0 r=Ā n))):
  ∀q j,Ae n f qr q=Ā j↔(f0 q=Ā j\/(f0 q=Ă/\j=n+1/\∃r,(r,q)∈done++[qr]/\f0 r=Ā n)):=by
 intro q j
 have H:∀r,f r=Ā n↔f0 r=Ā n:=λr=>by
  simp_all
 have l:∀r,f r=Ă->f0 r=Ă:=λr e=>by
  cases E:f0 r with
  |none=>rfl
  |some i=>
   grind
 obtain⟨a,b⟩:=qr;unfold Ae;dsimp only;by_cases c:f a=Ā n/\f b=Ă
 ·rw [RC c];unfold vp
  grind
 ·rw [RE c, h q j];constructor
  ·grind
  ·rintro (y | ⟨k, W, r, α, d⟩)
   ·exact .inl y
   ·rcases Te.mp α with α | α
    ·exact .inr ⟨k,W,r,α,d⟩
    ·simp at α;obtain⟨rfl,rfl⟩:=α;have g:f q≠Ă:=λz=>c ⟨(H r).mpr d,z⟩;cases e:f q with
     |none=>exact absurd e g
     |some i=>
      simp_all
theorem uJ{n:ă}{f0:(Ć->Option ă)}:∀(qs done:List (Ć×Ć))(f:(Ć->Option ă)),
  (∀q j,f q=Ā j↔(f0 q=Ā j\/(f0 q=Ă/\j=n+1/\∃r,(r,q)∈done/\f0 r=Ā n))) ->
  ∀q j,qs.foldl (Ae n) f q=Ā j↔(f0 q=Ā j\/(f0 q=Ă/\j=n+1/\∃r,(r,q)∈done++qs/\f0 r=Ā n))
 |[],done,f,h=>by simpa using h
 |C::qs,done,f,h=>by
  have:=uJ qs (done++[C]) (Ae n f C) (Ep h);simpa[Va] using this
theorem Cy{adj:(Ć->Ć->Prop)}{p:Ć}{D:Ć->Prop}{qs:List (Ć×Ć)}(h:Up adj p D n f)(hD:∀a b,adj a b->D a)(H:∀a b,adj a b↔(a,b)∈qs):Up adj p D (n+1) (qs.foldl (Ae n) f):=by
 refine h.next hD λq z j=>?_;have:=uJ (n:=n) (f0:=f) qs [] f (λq j=>by simp) q j
 simp_all
end _v
namespace _w
open PySem _l _r
theorem cj:1000<=sizeLine:=by decide
theorem xM(s:Ć):∃r:Ć,fC [.int s] J=.ok (.int r) J:=by
 have d:0<=(s+7919)%2147483647:=Ws _ 0e3;have H:(s+7919)%2147483647<2147483647:=Wt _ 0e3;generalize T:(s+7919)%2147483647=t at d H;have f:tE t t:=.inl ⟨by lia,by lia⟩;have g:tE 48271 t:=.inl ⟨by simp,by simp⟩
 simp_all[fC,bW,mF,fg]
noncomputable def b7(a b c:Ć):O:=.lst [.int a,.int b,.int c]
theorem mV{a b c:Ć}:(b7 a b c).low n:=by simp[b7,O.low]
theorem Iw(x:Ć):∃a b c:Ć,fu [.int x] J=.ok 1e3 (J++[b7 a b c]):=by
 refine⟨(if 0-x>x then 0-x else x),(if cmpI .GtE (if 0-x>x then 0-x else x) (10^(18:Ć).toNat) then 1 else 0),(if 0-x>x then 0-x else x)%1000003,?_⟩;simp[fu,bW,jN,(show ∀i j:Ć,lE [.int i,.int j] J=.ok (.int (if j>i then j else i)) J from λ_ _=>rfl),(iS (show AA 10 18 from⟨by decide,by decide,by decide⟩)),(show ∀k:ċ,∀J,ku [.bl k] J=.ok (.int (if k then 1 else 0)) J from λ_ _=>rfl),RC (show (3:ă)<=sizeLine by decide)];rw[gK 1e1];rfl
theorem xO{a b c m:Ć}(h:J[i]?=Ā (b7 a b c))(d:0<m)(g:m<200000):
  ∃r a' b' c':Ć,0<=r/\r<m/\bj [.obj i,.int m] J=.ok (.int r) (J.set i (b7 a' b' c')):=by
 have I:=(Se.mp h).1;have n:=h;have e:∀{x:Ć}{J:az},ph (.int x) (.int m) J=.ok (.int (x%m)) J:=λ{x J}=>iS d;have F:∀{x:Ć}{J:az},qe (.int x) (.int m) J=.ok (.int (x / m)) J:=λ{x J}=>iS ⟨d,by lia⟩;have f64:∀{x:Ć}{J:az},qe (.int x) (.int 64) J=.ok (.int (x / 64)) J:=λ{x J}=>iS ⟨by decide,by decide⟩;unfold bj;rw[d7];by_cases B:b=1
 ·subst B;refine⟨a%m,a / m,1,c,Ws _ (Tw d),Wt _ d,?_⟩;simp[ja,aK,bE,cc,aG,ak,bg,aa];rw[fE n A0];simp only[aa,cY,bC,ae];simp;rw[fE n tK];simp[aa,e,ae,aE,ak,bg,aG,aT,aK];rw[fE n tK];simp[aa,F,ae];rw[kH n (jV 0e3 1e1)];simp;exact yq 1e1 (mV)
 ·obtain ⟨S, E⟩ := xM (J := J) c;obtain⟨M,f⟩:=xM (J:=J) (S+7);refine⟨M / 64%m,a,b,M,Ws _ 0e1,Wt _ d,?_⟩;have H:(b == 1)=ć:=by simpa using B
  simp[ja,aK,bE,cc,aG,ak,bg,aa];rw[fE n A0];simp only[aa,cY,H,bC,ae,Vm,T7,aE,aK,aT,aL,ay,aB,aG,ak,bg];rw[fE n G9];simp only[aa,af,E,gA,f,ae,rX,ak,aq,bg];rw[kH n (jV 0e3 1e1)];have N:(J.set i (.lst ([D.int a,D.int b,D.int c].set (2:Ć).toNat (.int M))))[i]?=Ā (.lst [D.int a,D.int b,D.int M]):=by simp_all
  simp only[aa,af,ae,aE,cw,aG,ak,aq,bg];rw[fE N G9];simp only[aa,af,f64,e,ae,dD];exact yq 1e1 (mV)
theorem aC{o:O}(h:J[i]?=Ā o):(J++g)[i]?=Ā o:=by
 rw[TX (Se.mp h).1];exact h
theorem kC{o:O}(h:i<J.length):(J++g).set i o=J.set i o++g:=by
 simp_all
theorem kG{o:O}(h:i<J.length):(J.set i o)[i]?=Ā o:=Tg h
theorem qF{β γ:Type}{f:β->γ}:∀{l:List β}{i:ă},(l.map f).eraseIdx i=(l.eraseIdx i).map f
 |[],_=>rfl
 |_::_,0=>rfl
 |x::r,i+1=>by simp[qF]
theorem FN{a b c:Ć}{L:List Ć}{x:D}(I:i<J.length)(hL:0<L.length)(hL2:L.length<1000):
  ∃(r:ă)(y:Ć)(a' b' c':Ć),L[r]?=Ā y/\cS [Ā x,Ā 1e3,Ā (.obj i)] ((J.set i (b7 a b c)++[.lst (L.map D.int)])++.lst ys::[]) =
   .ok (.int y) ((J.set i (b7 a' b' c')++[.lst ((L.eraseIdx r).map D.int)])++.lst ys::[]):=by
 have n:((J.set i (b7 a b c)++[.lst (L.map D.int)])++.lst ys::[])[3e9]?=Ā (.lst (L.map D.int)):=by
  have e:J.length=(J.set i (b7 a b c)).length:=by simp
  rw[Va,e];exact av
 have p:((J.set i (b7 a b c)++[.lst (L.map D.int)])++.lst ys::[])[i]?=Ā (b7 a b c):=aC (aC (kG I));obtain⟨r,a',b',c',d,f,e⟩:=xO (m:=(L.length:Ć)) p 0e1 0e1;have H:r.toNat<L.length:=by lia
 refine⟨r.toNat,L[r.toNat],a',b',c',Vw H,?_⟩
 have t:((J.set i (b7 a b c)++[O.lst (L.map D.int)])++O.lst ys::[]).set i (b7 a' b' c')=(J.set i (b7 a' b' c')++[O.lst (L.map D.int)])++O.lst ys::[]:=by
  rw[kC (by simp;exact Uw I),kC (by simpa using I),List.set_set]
 have h:((J.set i (b7 a' b' c')++[.lst (L.map D.int)])++.lst ys::[])[3e9]?=Ā (.lst (L.map D.int)):=by
  have e:J.length=(J.set i (b7 a' b' c')).length:=by simp
  rw[Va,e];exact av
 have l:pU 1e3 ((J.set i (b7 a b c)++[.lst (L.map D.int)])++.lst ys::[])=ą:=by
  unfold pU;simp only[n]
 unfold cS;simp only[nB,aq,ak,aa,af,l,T8,ay,aB,aL];rw[gz n];simp only[aa,af,Us];rw[e];simp only[aa,af,t];unfold lL;dsimp only;rw[h];dsimp only;rw[jV d (by simpa using f)];dsimp only;rw[SS,Vw H];dsimp only[Option.map_some];rw[RC 0e1];simp[qF]
theorem wt{L:List Ć}{r:ă}{y:Ć}(h:L[r]?=Ā y):L.Perm (y::L.eraseIdx r):=by
 induction L generalizing r with
 |nil=>simp at h
 |cons x l i=>
  cases r with
  |zero=>simp_all
  |succ r=>
   exact((i h).cons x).trans (List.Perm.swap y x _)
theorem Ca{a b c m:Ć}(P:J[i]?=Ā (b7 a b c))(U:1<=m)(Z:m<=6):
  ∃(ns:List Ć)(a' b' c':Ć),ns.Nodup/\(ns.length:Ć)=m/\(∀n∈ns,0<=n/\n<m)/\dF [.obj i,.int m] J=.ok (.tup (ns.map D.int)) (J.set i (b7 a' b' c')):=by
 have I:i<J.length:=(Se.mp P).1
 have h00:J=J.set i (b7 a b c):=by
  apply Sf;intro j;by_cases H:i=j
  ·subst H;rw[kG I];exact P
  ·rw[Th H]
 let N:List Ć:=(List.range m.toNat).map λ(k:ă)=>(k:Ć)
 have hN0:bc 0 m.toNat=N.map D.int:=by
  simp only[bc,N,UR];apply US;intro k _;simp
 have R:=gN (src:=.fix (bc 0 m.toNat)) (g:=ah 0) (t:=a9) (e:=cS) (n:=J.length+1)
  (λX α l d s=>s=[]/\∃(o:Option D)(L ns:List Ć)(a b c:Ć),l=[o,Ā 1e3,Ā (.obj i)]/\d=J.set i (b7 a b c)++[.lst (L.map D.int)]/\α=ns.map D.int/\(ns++L).Perm N/\L.length=X.length/\X.length<=6)
  (λα l d s ⟨_,o,L,ns,a,b,c,_,e,_⟩=>⟨by rw[e];simp,trivial⟩)
  (λx r α l d s hJJ => by
   obtain⟨S,o,L,ns,a,b,c,u,E,p,q,v,w⟩:=hJJ;subst S;refine⟨by rw[E];simp,trivial,[Ā x,Ā 1e3,Ā (.obj i)],d,[],ą,d,[],by rw[u];rfl,rfl,λ_=>?_,λz=>by cases z⟩;simp only[Uu]at v w;obtain⟨j,y,a',b',c',H,e⟩:=FN (a:=a) (b:=b) (c:=c) (L:=L) (ys:=α) (x:=x) I 0e1 0e1;rw[E];refine⟨.int y,_,[],e,?_,by simp,rfl,Ā x,L.eraseIdx j,ns++[y],a',b',c',rfl,rfl,by rw[p];simp,?_,?_,by lia⟩
   ·rw [p, Us];have:=q.length_eq;have hN:N.length=m.toNat:=by simp[N]
    rw[Uq,hN]at this;exact Ry (show ns.length<1000 by lia) cj
   ·rw[Va];exact(List.Perm.append_left ns (wt H).symm).trans q
   ·have T := (Se.mp H).1
    rw[List.length_eraseIdx,RC T];lia)
  (xs:=bc 0 m.toNat) (ys:=[]) (ρ:=[Ă,Ā 1e3,Ā (.obj i)]) (J1:=J++[.lst (bc 0 m.toNat)]) (s:=[])
  ⟨rfl,Ă,N,[],a,b,c,rfl,by rw[<- h00,hN0],rfl,by simp,by simp[N,bc],by simp[bc];lia⟩
 obtain⟨f,M,J1',W,⟨S,o,L,ns,a',b',c',Q,F,A,G,μ,_⟩,R⟩:=R;have hLn:L=[]:=V9 (by simpa using μ);subst hLn S;rw[TC]at G;refine⟨ns,a',b',c',?_,?_,λn C=>?_,?_⟩
 ·rw[G.nodup_iff];simp only[N];rw[List.nodup_iff_pairwise_ne,SW];exact(Rw (n:=m.toNat)).imp λh e=>h 0e1
 ·have:=G.length_eq;rw[this];simp[N];lia
 ·have := G.mem_iff.mp C;simp only[N,SY,SM]at this;obtain⟨k,V,rfl⟩:=this
  lia
 ·unfold dF;rw[d7]
  have K:jY [.int m] J=.ok 1e3 (J++[.lst (bc 0 m.toNat)]):=by
   unfold jY;dsimp only;rw[RC 0e1]
  simp only[iH,aK,aT,aL,ay,aB,aq,ak,aa,af,K,ae,bG,aE,cw,br,bu];simp only[List.replicate,Wu,Wv,aq,ak,aa,af];rw[bY 0e1 0e1];simp only[aa,af,aW,Uq,Uu,UU];rw[show cT [Ă,Ā 2,Ā 0] [Ā (D.obj i),Ā (D.int m),Ā (D.obj 3e9)]=[Ă,Ā 1e3,Ā (.obj i)] from rfl];rw[R];simp only[aa,af]
  have B:(J1'++[O.lst f])[J.length+1]?=Ā (.lst f):=by
   have:J1'.length=J.length+1:=by rw[F];simp
   rw[<- this];exact av
  rw[d8 B];simp only[ae,af,dD];rw[F,A,Va];exact vN (fz.mpr 1e1) mV
def jR(m:Ć)(k:List Ć):Prop:=∃a b:Ć,k=[a,b]/\0<=a/\a<b/\b<m
theorem jR.prs{m:Ć}(h:jR m k)(M:m<=6):k∈prs:=by
 refine aJ h λa b G H c d=>?_;subst G;exact rG H c (B_ d M)
def cV(d:D)(m:Ć)(ks:0e2):Prop:=d=.tup [.int m,.tup 1e5]/\1<=m/\m<=6/\(ks.Pairwise λa b=>oX a<oX b)/\∀k∈ks,jR m k
theorem mr{m:Ć}(d:1<=m)(H:m<=6)(K:(∀k∈ks,jR m k)):cV (.tup [.int m,.tup ((fH ks).map ax)]) m (fH ks):=by
 refine⟨rfl,d,H,eY.filter _,λk h=>?_⟩
 simp_all[fH]
theorem ed{m:Ć}(h:cV d m ks):ks.length<=15:=by
 refine iy h λ_ _ M p H=>?_;have:=(show ks.Nodup from p.imp λh e=>by subst e;lia).length_le_of_subset (λk h=>(H k h).prs M)
 simp_all[rH]
noncomputable def cE(p:Ć×Ć):D:=.tup [.int p.1,.int p.2]
theorem l2:(2:ă)<=sizeLine:=by decide
theorem PR{u v:Ć}:yU [.tup [.int u,.int v]] J=.ok (.int (min u v)) J:=rfl
theorem PV{u v:Ć}:lE [.tup [.int u,.int v]] J=.ok (.int (max u v)) J:=rfl
theorem MX{m:Ć}{ps:List (Ć×Ć)}(μ:1<=m)(y:m<=6)(f:∀p∈ps,0<=p.1/\p.1<m/\0<=p.2/\p.2<m/\p.1≠p.2)(F:ps.length<1000)(Q:ns.Nodup)(T:(ns.length:Ć)=m)(R:∀n∈ns,0<=n/\n<m):
  cV (.tup [.int m,.tup ((fH ((ps.map λp=>(ns.getD p.1.toNat 0,ns.getD p.2.toNat 0)).map λp=>[min p.1 p.2,max p.1 p.2])).map ax)]) m (fH ((ps.map λp=>(ns.getD p.1.toNat 0,ns.getD p.2.toNat 0)).map λp=>[min p.1 p.2,max p.1 p.2]))/\eh [.tup [.int m,.tup (ps.map cE)],.tup (ns.map D.int)] J=.ok (.tup [.int m,.tup ((fH ((ps.map λp=>(ns.getD p.1.toNat 0,ns.getD p.2.toNat 0)).map λp=>[min p.1 p.2,max p.1 p.2])).map ax)]) J:=by
 let r:Ć->Ć:=λk=>ns.getD k.toNat 0
 have nmD:∀k,0<=k->k<m->atI (ns.map D.int) k=Ā (.int (r k)):=λk w z=>by
  have H:k.toNat<ns.length:=by lia
  refine lN w ?_;rw[SS,Vw H];simp[r,SQ,Vw H]
 have nmR:∀k,0<=k->k<m->0<=r k/\r k<m:=λk w z=>by
  have H:k.toNat<ns.length:=by lia
  have:r k=ns[k.toNat]:=by simp[r,SQ,Vw H]
  rw[this];exact R _ (Wh H)
 have nmI:∀j k,0<=j->j<m->0<=k->k<m->j≠k->r j≠r k:=λj k W j1 w z N e=>by
  have L:j.toNat<ns.length:=by lia
  have H:k.toNat<ns.length:=by lia
  have G:r j=ns[j.toNat]:=by simp[r,SQ,Vw L]
  have I:r k=ns[k.toNat]:=by simp[r,SQ,Vw H]
  rw[G,I]at e;have:=(Ru Q).mp e
  lia
 let s:List (Ć×Ć):=ps.map λp=>(r p.1,r p.2)
 let K:List (List Ć):=s.map λp=>[min p.1 p.2,max p.1 p.2]
 have S:∀k∈K,jR m k:=λk H=>by
  simp only[K,s,UR,SY,Function.comp_apply]at H;obtain⟨p,P,rfl⟩:=H;obtain⟨A,i,l,u,α⟩:=f p P;have b1:=nmR p.1 A i;have b2:=nmR p.2 l u;have b3:=nmI p.1 p.2 A i l u α;exact⟨_,_,rfl,by lia,by lia,by lia⟩
 refine⟨mr μ y S,?_⟩;show _=aj.ok (D.tup [.int m,.tup ((fH K).map ax)]) J
 have C:compLoop (.fix (ps.map cE)) 3e9 (cm 2 (aS (ah 0) (aS (ah 1) cn))) a9 eO (ps.map cE) [Ă,Ă,Ā (.tup (ns.map D.int))] (J++[.lst []])=.ok 1e3 (J++[.lst (s.map cE)]):=by
  have:=fV (src:=.fix (ps.map cE)) (g:=cm 2 (aS (ah 0) (aS (ah 1) cn))) (t:=a9) (e:=eO) (J1:=J) (q:=λ_=>ą)
   (h:=λd=>match d with | .tup [.int a,.int b]=>cE (r a,r b)|_=>.non) (λc=>∃o B,c=[o,B,Ā (.tup (ns.map D.int))]) (λ_=>trivial) (xs:=ps.map cE) (acc:=[]) (ρ:=[Ă,Ă,Ā (.tup (ns.map D.int))]) ⟨Ă,Ă,rfl⟩
   (by rw[Us,UU];exact RH 0e1 cj)
   (λx X a c hJJ => by
    obtain⟨o,B,v⟩:=hJJ;obtain⟨p,P,rfl⟩:=SY.mp X;obtain⟨A,i,l,u,α⟩:=f p P;refine⟨[Ā (.int p.1),Ā (.int p.2),Ā (.tup (ns.map D.int))],⟨_,_,rfl⟩,by subst v;rfl,rfl,λ_=>?_⟩;unfold eO;simp only[bV,ay,aB,aG,aq,ak,aa,af];rw[jX (nmD p.1 A i)];simp only[aa,af];rw[jX (nmD p.2 l u)];simp only[aa,af,Uu,UU,RC l2]
    rfl)
  rw[this,Ww.mpr (λ_ _=>rfl)];simp only[Wx,UR,s];rfl
 have E:compLoop (.own 3e9 (s.map cE)) (J++[O.lst (s.map cE)]).length (ah 0) a9 eN (s.map cE) [Ă] ((J++[O.lst (s.map cE)])++[.lst []])=.ok (.obj (J++[O.lst (s.map cE)]).length) ((J++[O.lst (s.map cE)])++[.lst (K.map ax)]):=by
  have:=fV (src:=.own 3e9 (s.map cE)) (g:=ah 0) (t:=a9) (e:=eN) (J1:=J++[O.lst (s.map cE)]) (q:=λ_=>ą)
   (h:=λd=>match d with | .tup [.int a,.int b]=>ax [min a b,max a b]|_=>.non) (λc=>∃o,c=[o]) (λa=>aC av) (xs:=s.map cE) (acc:=[]) (ρ:=[Ă]) ⟨Ă,rfl⟩
   (by rw[Us,UU];simp only[s,Us];exact RH 0e1 cj)
   (λx X a c hJJ => by
    obtain⟨o,v⟩:=hJJ;obtain⟨p,P,rfl⟩:=SY.mp X;refine⟨[Ā (cE p)],⟨_,rfl⟩,by subst v;rfl,rfl,λ_=>?_⟩;unfold eN cE;simp only[bV,ay,aB,aL,ak,aa,af,PR,PV,Uu,UU,RC l2]
    rfl)
  rw[this,Ww.mpr (λ_ _=>rfl)];simp only[Wx,UR,K];rfl
 have U:mj (K.map ax)=Ā K:=nZ λk H=>(S k H).prs y;unfold eh;rw[d7];simp only[lj,aK,aT,br,bT,aG,ak,aq,bg,aa,af,fO,rW,aW];rw[show cT [Ă,Ă,Ā 1] (Ā (D.tup [D.int m,D.tup (List.map cE ps)])::Ā (D.tup (List.map D.int ns))::List.replicate (3-2) Ă)=[Ă,Ă,Ā (.tup (ns.map D.int))] from rfl,C];simp only[ae,bG,aE,cw,bV,ay,aB,aL,aG,ak,aq,bg,aa,af,List.replicate,Wu,Wv,dh,br,bT];rw[bP av];simp only[aa,af,bM];rw[show cT [Ă] _=[Ă] from rfl,E];simp only[aa,af]
 have Z:pf [.obj (J++[O.lst (s.map cE)]).length] (J++[O.lst (s.map cE)]++[O.lst (K.map ax)])=.ok (.obj (J++[O.lst (s.map cE)]++[O.lst (K.map ax)]).length) ((J++[O.lst (s.map cE)]++[O.lst (K.map ax)])++[.set (dG K)]):=by
  unfold pf;dsimp only;rw[av];dsimp only;unfold pZ;rw[U]
 rw[Z];simp only[aa,af]
 have V:∀M:az,bK [.obj M.length] (M++[.set (dG K)])=.ok (.obj (M++[O.set (dG K)]).length) ((M++[.set (dG K)])++[.lst ((fH K).map ax)]):=λM=>by
  unfold bK;dsimp only;rw[av];dsimp only;unfold gB;dsimp only;rw[av];dsimp only;rw[mu]
 rw[V];simp only[aa,af];rw[d8 av];simp only[aa,af,Uu,UU,RC l2,ae,dD];rw[Va,Va,Va];exact fZ (by simp;exact fz.mpr (λx X=>by obtain⟨k,_,rfl⟩:=SY.mp X;simp[ax];exact fz.mpr 1e1))
theorem kW{m:Ć}(h:cV d m ks):d.low n:=by
 obtain⟨rfl,_⟩:=h;simp
 exact fz.mpr λx H=>by
  obtain⟨k,_,rfl⟩:=SY.mp H;exact fz.mpr 1e1
theorem eW{lo:Ć}:bc lo (n+1)=.int lo::bc (lo+1) n:=by
 unfold bc;rw[UQ,SH,UR];congr 1
 ·simp
 ·apply US
  lia
theorem fT{lo:Ć}:bc lo 0=[]:=rfl
theorem kP{lo:Ć}(h:bc lo n=[]):n=0:=by
 cases n with
 |zero=>rfl
 |succ n=>grind [eW]
theorem l1:(1:ă)<=sizeLine:=by decide
theorem Qp{x:D}(h:m<=6):ei [Ā x,Ā (.int m)] M=.ok (.obj (M.length+1)) (M++[.lst [.non],.lst (List.replicate m .non)]):=by
 simp[ei,RC l1];unfold gH;simp only[av];have Z:(6:ă)<=sizeLine:=by decide
 rw[RC (by refine⟨by simp,by lia,?_⟩;simp;exact RH h Z)];simp
end _w
namespace _w
open PySem _l _r _v
noncomputable def tm:Option ă->D
 |none=>.non
 |some n=>.int n
theorem zk(o:Option ă):tm o=.non\/∃i,tm o=.int i:=by
 cases o with
 |none=>exact .inl rfl
 |some n=>exact .inr ⟨n,rfl⟩
def pb(m:ă)(f:(Ć->Option ă)):List D:=(List.range m).map λq:ă=>tm (f q)
theorem Cw(A:0<=q)(Q:q<m):atI (pb m f) q=Ā (tm (f q)):=by
 refine lN A ?_;unfold pb;rw[SS,V0 0e1];simp only[Option.map_some,Wz A]
theorem Cv{v:ă}(A:0<=q)(Q:q<m):(pb m f).set q.toNat (.int v)=pb m (vp f q v):=by
 unfold pb;apply Sf;intro i;rw[List.getElem?_set,Us,UT,SS,SS];by_cases e:q.toNat=i
 ·rw[RC e,RC 0e1,V0 0e1,<- e];simp[Wz A,vp];rfl
 ·rw [RE e];by_cases I:i<m
  ·simp[V0 I,vp];rw[RE 0e1]
  simp_all
noncomputable def gC(T:Ć->Ć->Option ă)(p:Ć)(f:(Ć->Option ă)):Ć->Ć->Option ă:=λC=>if C=p then f else T C
theorem lR{p:Ć}:gC T p f p=f:=RC rfl
theorem t8{p:Ć}{g:(Ć->Option ă)}:gC (gC T p f) p g=gC T p g:=by
 funext p'
 simp_all[gC]
def FT(J0:az)(m a:ă)(T:Ć->Ć->Option ă)(J:az):Prop:=J0.length<=a/\(∀i,i<J0.length->J[i]?=J0[i]?)/\∃bs:List ă,bs.Nodup/\J[a]?=Ā (.lst (bs.map D.obj))/\bs.length=m /\
 ∀(p b:ă),bs[p]?=Ā b->J0.length<=b/\b≠a/\J[b]?=Ā (.lst (pb m (T p)))
theorem FT.app{a:ă}(h:FT J0 m a T J):FT J0 m a T (J++g):=by
 obtain⟨H,e,bs,c,d,j,k⟩:=h;have L:=RH H (Sj (Se.mp d).1);refine⟨H,λi I=>?_,bs,c,aC d,j,λp b B=>?_⟩
 ·rw[TX (Ry I L)];exact e i I
 ·refine gF (k p b B) λz K G=>?_;exact⟨z,K,aC G⟩
theorem FT.pre{a:ă}(h:FT J0 m a T J):∃g,J=J0++g:=by
 obtain⟨H,c,bs,d,b,e,j⟩:=h;refine⟨J.drop J0.length,?_⟩;apply Sf;intro i;by_cases I:i<J0.length
 all_goals simp_all[TX,TU]
theorem FT.get{a:ă}{p:Ć}(h:FT J0 m a T J)(P:0<=p)(α:p<m):∃b,bN (.obj a) (.int p) J=.ok (.obj b) J/\(∀q:Ć,0<=q->q<m->bN (.obj b) (.int q) J=.ok (tm (T p q)) J) /\
  ∀(q:Ć)(v:ă),0<=q->q<m->∃J',vq (.obj b) (.int q) (.int v) J=.ok () J'/\(∀(n:ă) xs t,J[n]?=Ā (.lst xs)->D.tup t∈xs->J'[n]?=Ā (.lst xs))/\FT J0 m a (gC T p (vp (T p) q v)) J':=by
 obtain⟨l,o,bs,c,s,w,g⟩:=h;have x:p.toNat<bs.length:=by lia
 have H:=Wz P;refine gF (g p.toNat bs[p.toNat] (Vw x)) λG X I=>?_;rw[H]at I;refine⟨bs[p.toNat],fE s (lN P 1e1),λq A Q=>fE I (Cw A Q),λq v A Q=>?_⟩;refine⟨_,kH I (jV A (by rw[(show (pb m (T p)).length=m by simp[pb])];exact Q)),λn xs t N K=>?_,l,λi k=>?_,bs,c,?_,w,λC b B=>?_⟩
 ·by_cases e : bs[p.toNat] = n
  ·subst e;rw[I]at N;cases N;refine bb (SY.mp K) λj _ μ=>?_;rcases zk (T p j) with z|⟨i,z⟩ <;> (rw[z]at μ;cases μ)
  simp_all
 ·rw[Th (Sa (Ry k G))];exact o i k
 ·simp_all
 ·refine gF (g C b B) λL S U => ?_;obtain⟨y,d⟩:=Se.mp B;refine⟨L,S,?_⟩;by_cases e:C=p.toNat
  ·subst e;rw[d,kG (Se.mp (d ▸ I)).1,Cv A Q,H,lR]
  ·have E:bs[p.toNat]≠b:=λz=>e ((Ru c).mp (d.trans z.symm));rw[Th E,U];unfold gC;rw[RE 0e1]
noncomputable def vy(ks:0e2):List (Ć×Ć):=ks.flatMap λk=>match k with
 |[u,v]=>[(u,v),(v,u)]
 |_=>[]
def oZ(ks:0e2)(a b:Ć):Prop:=(a,b)∈vy ks
theorem KB{o:Option ă}:fW ć (tm o) (.int ((n:Ć)+1-1)) J=.ok (.bl (decide (o=Ā n))) J:=by
 cases o with
 |none=>rfl
 |some k=>
  show fW ć (.int k) (.int ((n:Ć)+1-1)) J=_;simp
  grind
theorem zz{o:Option ă}:(tm o).isNon=decide (o=Ă):=by
 cases o <;> rfl
section
variable{a:ă}{web:D}{M p u v r:Ć}
theorem QN(h:FT J0 m a (gC T p f) J)(P:0<=p)(j:p<m)(A:0<=q)(Q:q<m)(r0:0<=r)(r1:r<m) :
  ∃J',ig [Ā web,Ā (.int M),Ā (.obj a),Ā (.int p),Ā (.int ((n:Ć)+1)),Ā (.int u),Ā (.int v),Ā (.int q),Ā (.int r)] J=.next [Ā web,Ā (.int M),Ā (.obj a),Ā (.int p),Ā (.int ((n:Ć)+1)),Ā (.int u),Ā (.int v),Ā (.int q),Ā (.int r)] J' /\
   (∀(n:ă) xs t,J[n]?=Ā (.lst xs)->D.tup t∈xs->J'[n]?=Ā (.lst xs))/\FT J0 m a (gC T p (Ae n f (q,r))) J':=by
 refine bo (h.get P j) λb E e k=>?_;rw[lR]at k e;simp only[ig,bE,jq,cc,aG,aq,ak,bg,aa,E,e q A Q,(show ∀x:Ć,gG (.int x) (.int 1) J=.ok (.int (x-1)) J from λ_=>rfl),KB];unfold Ae;by_cases c:f q=Ā n
 ·simp only [RB c, T8, E, e r r0 r1, aa, Ky, zz, Vm, T7, bC];by_cases g:f r=Ă
  ·refine bo (k r (n+1) r0 r1) λJ' G K I=>?_;rw[t8]at I;rw[show ((n+1:ă):Ć)=(n:Ć)+1 by push_cast;rfl]at G;simp only[RB g,T8,aT,aq,ak,ae,rX,aG,aa,E,G];rw[RC ⟨c,g⟩];exact⟨J',rfl,K,I⟩
  ·simp only[RD g];rw[RE λz=>g z.2];exact⟨J,rfl,λ_ _ _ h _=>h,h⟩
 simp_all
theorem fr3(h:FT J0 m a (gC T p f) J)(P:0<=p)(j:p<m)(U:0<=u)(b:u<m)(V:0<=v)(G:v<m){o7 o8:Option D} :
  ∃o7' o8' J',ie [Ā web,Ā (.int M),Ā (.obj a),Ā (.int p),Ā (.int ((n:Ć)+1)),Ā (.int u),Ā (.int v),o7,o8] J=.next [Ā web,Ā (.int M),Ā (.obj a),Ā (.int p),Ā (.int ((n:Ć)+1)),Ā (.int u),Ā (.int v),o7',o8'] J'/\FT J0 m a (gC T p (Ae n (Ae n f (u,v)) (v,u))) J':=by
 simp[ie,RC l2,bP av];obtain⟨d,c,E,o⟩:=QN (web:=web) (M:=M) (u:=u) (v:=v) (h.app) P j U b V G;have H:=E _ _ _ (show (J++[O.lst [.tup [.int u,.int v],.tup [.int v,.int u]]])[3e9]?=Ā (.lst [.tup [.int u,.int v],.tup [.int v,.int u]]) from av) Ta;obtain⟨e,g,F,y⟩:=QN (web:=web) (M:=M) (u:=u) (v:=v) o P j V G U b;have z:=F _ _ _ H Ta;refine⟨Ā (.int v),Ā (.int u),e,?_,y⟩
 simp_all[bH,bf]
theorem Rh(K:(∀k∈ks,jR m k))(h:FT J0 m a (gC T p f) J)(P:0<=p)(i:p<m){o5 o6 o7 o8:Option D}:
  ∃o5' o6' o7' o8' J',ic [Ā (.tup [.int M,.tup 1e5]),Ā (.int M),Ā (.obj a),Ā (.int p),Ā (.int ((n:Ć)+1)),o5,o6,o7,o8] J=.next [Ā (.tup [.int M,.tup 1e5]),Ā (.int M),Ā (.obj a),Ā (.int p),Ā (.int ((n:Ć)+1)),o5',o6',o7',o8'] J'/\FT J0 m a (gC T p ((vy ks).foldl (Ae n) f)) J':=by
 simp[ic]
 have R:=g6 (src:=.fix 1e5) (g:=cm 2 (aS (ah 5) (aS (ah 6) cn)))
  (λS c d=>∃α z:List (List Ć),S=z.map ax/\ks=α++z/\FT J0 m a (gC T p ((vy α).foldl (Ae n) f)) d/\∃o5 o6 o7 o8,c=[Ā (.tup [.int M,.tup 1e5]),Ā (.int M),Ā (.obj a),Ā (.int p),Ā (.int ((n:Ć)+1)),o5,o6,o7,o8])
  (λ_ _ _=>trivial)
  (λx S c d hJJ => by
   obtain⟨α,z,H,s,hF,o5,o6,o7,o8,e⟩:=hJJ;subst e;cases z with
   |nil=>cases H
   |cons k z=>
    injection H with j b
    subst j b;refine aJ (K k (by rw[s];simp)) λu v l U V G=>?_;subst l;obtain⟨o7',o8',w,E,o⟩:=fr3 hF P i U (RQ V G) (V6 U (Tx V)) G;refine⟨trivial,_,d,_,w,rfl,E,α++[[u,v]],z,rfl,by rw[s];simp,?_,_,_,_,_,rfl⟩;have:vy (α++[[u,v]])=vy α++[(u,v),(v,u)]:=by simp[vy]
    rw[this,List.foldl_append]
    exact o)
  ⟨[],ks,rfl,rfl,h,o5,o6,o7,o8,rfl⟩
 refine bZ R λy J' t R=>?_;obtain⟨α,z,H,s,hF,o5',o6',o7',o8',e⟩:=t
 have Z:z=[]:=by cases z with
  |nil=>rfl
  |cons=>cases H
 grind
theorem m3(K:(∀k∈ks,jR m k)){x y:Ć}(h:oZ ks x y):(0<=x/\x<m)/\(0<=y/\y<m):=by
 refine bb (WA.mp h) λk H b=>?_;refine aJ (K k H) λu v V U c G=>?_;subst V;simp at b
 lia
theorem fr5(H:(∀k∈ks,jR m k))(h:FT J0 m a (gC T p λ_=>Ă) J)(P:0<=p)(j:p<m)(z:m<=6){o5 o6 o7 o8:Option D}:
  ∃o4' o5' o6' o7' o8' J' f,ib [Ā (.tup [.int m,.tup 1e5]),Ā (.int m),Ā (.obj a),Ā (.int p),o4,o5,o6,o7,o8] J=.next [Ā (.tup [.int m,.tup 1e5]),Ā (.int m),Ā (.obj a),Ā (.int p),o4',o5',o6',o7',o8'] J'/\FT J0 m a (gC T p f) J'/\Ay (oZ ks) p (λq=>0<=q/\q<m) f:=by
 refine bo (h.get P j) λb E _ k=>?_;refine bo (k p 0 P j) λd o _ t=>?_;rw[t8,lR]at t;unfold ib;simp only[aK,aT,bg,ae,rX,aG,aq,ak,aa,E];rw[show (D.int 0)=.int ((0:ă):Ć) from rfl,o];simp only[aa,ae,aE,cP,bu,ay,aB,bg,aq,ak];rw[kI 0e1 1e1 1e1 0e1];simp only[ae]
 have R:=g6 (src:=.fix (bc 1 ((m:Ć)-1).toNat)) (g:=ah 4)
  (λS s d=>∃(n c:ă)(f:(Ć->Option ă)),S=bc ((n:Ć)+1) c/\n+1+c=m/\FT J0 m a (gC T p f) d/\Up (oZ ks) p (λq=>0<=q/\q<m) n f/\∃o4 o5 o6 o7 o8,s=[Ā (.tup [.int m,.tup 1e5]),Ā (.int m),Ā (.obj a),Ā (.int p),o4,o5,o6,o7,o8])
  (λ_ _ _=>trivial)
  (λx S s d hJJ => by
   obtain⟨n,c,f,X,C,hF,hU,o4,o5,o6,o7,o8,e⟩:=hJJ;subst e;cases c with
   |zero=>simp_all[fT]
   |succ c=>
    rw[eW]at X;injection X with i l
    subst i l;obtain⟨o5',o6',o7',o8',w,E,o⟩:=Rh H hF P j
    exact⟨trivial,_,d,_,w,rfl,E,n+1,c,_,by push_cast;rfl,RM (RJ _ _ _) C,o,Cy hU (λa b h=>(m3 H h).1) (λa b=>Iff.rfl),_,_,_,_,_,rfl⟩)
  (xs:=bc 1 ((m:Ć)-1).toNat) (ρ:=[Ā (.tup [.int m,.tup 1e5]),Ā (.int m),Ā (.obj a),Ā (.int p),o4,o5,o6,o7,o8]) (J:=d)
  ⟨0,m-1,_,by simp,by lia,t,Gx (λq _=>by unfold vp;rfl),o4,o5,o6,o7,o8,rfl⟩
 refine bZ R λy J' V R=>?_;obtain⟨n,c,f,X,C,hF,hU,o4',o5',o6',o7',o8',e⟩:=V;subst e;have Z:=kP X.symm;refine⟨o4',o5',o6',o7',o8',J',f,R,hF,hU.full (λa b h=>(m3 H h).2) λq Q L=>?_⟩;have:=μ2 ⟨P,j⟩ (λa b h=>(m3 H h).2) L
 lia
end
theorem zd:pb m (λ_=>Ă)=List.replicate m .non:=by
 simp[pb,tm,List.map_const']
theorem F7(H:m<=6):∃(bs:List ă)(s:az),compLoop (.fix (bc 0 m)) 3e9 (ah 0) a9 ei (bc 0 m) [Ă,Ā (.int m)] (J++[.lst []])=.ok 1e3 (J++.lst (bs.map D.obj)::s)/\bs.length=m/\bs.Nodup/\∀b∈bs,∃j,b=J.length+1+j/\s[j]?=Ā (.lst (List.replicate m .non)):=by
 have R:=gN (src:=.fix (bc 0 m)) (g:=ah 0) (t:=a9) (e:=ei)
  (λS α h d s=>d=J/\(∃o,h=[o,Ā (.int m)])/\∃bs:List ă,α=bs.map D.obj/\bs.length+S.length=m/\bs.Nodup/\∀b∈bs,∃j,b=J.length+1+j/\s[j]?=Ā (.lst (List.replicate m .non)))
  (λα h d s=>zA λe _=>⟨by rw[e],trivial⟩)
  (λx r α h d s hJJ => by
   obtain⟨i,G,bs,E,a,k,f⟩:=hJJ;obtain⟨o,l⟩:=G;subst i l;refine⟨rfl,trivial,[Ā x,Ā (.int m)],_,s,ą,_,s,rfl,rfl,λ_=>?_,λz=>by cases z⟩;have e:=Qp (M:=d++.lst α::s) (x:=x) H;simp at a;refine⟨.obj ((d++O.lst α::s).length+1),d,s++[.lst [.non],.lst (List.replicate m .non)],by rw[e];simp,?_,rfl,rfl,⟨_,rfl⟩,bs++[(d++O.lst α::s).length+1],by rw[E];simp,by simp;exact RM (RJ _ _ _) a,?_,λb B=>?_⟩
   ·rw[E,Us];exact Ry 0e1 cj
   ·rw [VV];refine⟨k,by simp,λb B c C=>?_⟩;refine bb (f b B) λj q F=>?_;have:=(Se.mp F).1;simp[UM,Uq,Uu]at C
    lia
   ·rcases Te.mp B with z | z
    ·refine bb (f b z) λj q F=>?_;exact⟨j,q,aC F⟩
    ·refine ⟨s.length + 1, ?_, ?_⟩
     ·simp[UM,Uq,Uu]at z;exact RM z (RJ _ _ _)
     ·rw[TU (R6 _)];simp)
  (xs:=bc 0 m) (ρ:=[Ă,Ā (.int m)]) (J1:=J) (s:=[])
  ⟨rfl,⟨_,rfl⟩,[],rfl,by simp[bc],by simp,by simp⟩
 obtain⟨y,p,J1',n,⟨i,_,bs,E,a,k,f⟩,R⟩:=R;subst i E;exact⟨bs,n,R,by simpa using a,k,f⟩
theorem Ew{k:ă}(h:cV (.tup [.int k,.tup 1e5]) k ks):∃a J' T,ia [.tup [.int k,.tup 1e5]] J=.ok (.obj a) J'/\FT J k a T J'/\∀p:Ć,0<=p->p<k->Ay (oZ ks) p (λq=>0<=q/\q<k) (T p):=by
 refine iy h λ_ h0 h1 U Q=>?_;have l:k<=6:=by lia
 refine aJ (F7 (J:=J) l) λbs s E z G A=>?_
 have F:FT J k 3e9 (λ_ _=>Ă) (J++.lst (bs.map D.obj)::s):=by
  refine⟨Rx _,λi N=>by rw[TX N],bs,G,av,z,λp b M=>?_⟩;refine bb (A b (T1 M)) λj v2 f=>?_;subst v2;refine⟨RK (RA _ _),Sa (ă.lt_add_right _ (Uv _)),?_⟩;rw[TU 0e1,show J.length+1+j-J.length=j+1 by lia,zd];exact f
 have R:=g6 (src:=.fix (bc 0 k)) (g:=ah 3)
  (λS y d=>∃(n c:ă)(T:Ć->Ć->Option ă),S=bc n c/\n+c=k/\FT J k 3e9 T d/\(∀p:Ć,(n:Ć)<=p->T p=λ_=>Ă)/\(∀p:Ć,0<=p->p<n->Ay (oZ ks) p (λq=>0<=q/\q<k) (T p))/\∃B O r t u v,y=[Ā (.tup [.int k,.tup 1e5]),Ā (.int k),Ā 1e3,B,O,r,t,u,v])
  (λ_ _ _=>trivial)
  (λx S y d hJJ => by
   obtain⟨n,c,T,H,C,hF,hN,hU,B,O,r,t,u,v,e⟩:=hJJ;subst e;cases c with
   |zero=>rw[fT]at H;cases H
   |succ c=>
    rw[eW]at H;injection H with m o
    subst m o
    have hT:gC T n (λ_=>Ă)=T:=by
     funext p';unfold gC;by_cases e:p'=(n:Ć)
     ·rw[RC e,e,hN n (WB _)]
     ·rw[RE e]
    obtain⟨X,α,V,W,o8',w,f,I,μ,L⟩:=fr5 Q (by rw[hT];exact hF) (WC _) 0e1 l;refine⟨trivial,_,d,_,w,rfl,I,n+1,c,_,by push_cast;rfl,RM (RJ _ _ _) C,μ,λp U=>?_,λp P p1=>?_,_,_,_,_,_,_,rfl⟩
    ·unfold gC;rw[RE 0e1];exact hN p 0e1
    ·unfold gC;by_cases e:p=(n:Ć)
     ·rw[RC e,e];exact L
     ·rw[RE e];exact hU p P 0e1)
  (ρ:=[Ā (.tup [.int k,.tup 1e5]),Ā (.int k),Ā 1e3,Ă,Ă,Ă,Ă,Ă,Ă]) (J:=J++.lst (bs.map D.obj)::s)
  ⟨0,k,_,rfl,UP _ _,F,λ_ _=>rfl,λp P p1=>by lia,_,_,_,_,_,_,rfl⟩
 refine bZ R λρ' J' v3 R=>?_;obtain⟨n,c,T,H,C,hF,hN,hU,B,O,r,t,u,v,e⟩:=v3;subst e;have Z:=kP H.symm;subst Z;have K:n=k:=C;subst K;refine⟨3e9,J',T,?_,hF,hU⟩;unfold ia;rw[bW];simp only[oP,aK,aT,aG,ak,bg,aa,dh,ae,bG,aE,br,bu,ay,aB];simp only[List.replicate,Wu,Wv,aq,ak,aa];rw[bY (WC _) 0e1];simp only[aa,af,aW,VT];rw[show cT [Ă,Ā 1] [Ā (D.tup [D.int n,D.tup (List.map ax ks)]),Ā (D.int n),Ă,Ă,Ă,Ă,Ă,Ă,Ă]=[Ă,Ā (.int n)] from rfl,E];simp only[ae,bG,aE,aK,cP,bu,ay,aB,Wu,Wv,aq,ak,aa,af];rw[bY 0e1 0e1]
 simp_all[gK]
noncomputable def On(k:Ć):Option ă->ċ
 |some j=>decide ((j:Ć)<=k)
 |none=>ć
def ki(T:Ć->Ć->Option ă)(k p lo:Ć)(c:ă):List (List Ć):=(((List.range c).map λi:ă=>lo+(i:Ć)).filter λq=>On k (T p q)).map λq=>[p,q]
def Hc(m:ă)(T:Ć->Ć->Option ă)(k:Ć):List (List Ć):=(List.range m).flatMap λp:ă=>ki T k p ((p:Ć)+1) (m-(p+1))
theorem t9{k p lo:Ć}:(ki T k p lo c).length<=c:=by
 unfold ki
 grind
theorem nU{k p lo:Ć}{x:List Ć}(h:x∈ki T k p lo c):∃q:Ć,x=[p,q]/\lo<=q/\q<lo+c:=by
 unfold ki at h;obtain⟨q,z,rfl⟩:=SY.mp h;obtain⟨z,_⟩:=S8.mp z;obtain⟨i,I,rfl⟩:=SY.mp z;rw[SM]at I;exact⟨_,rfl,by lia,by lia⟩
theorem EY{k p lo:Ć}:(ki T k p lo c).Pairwise λa b=>oX a<oX b:=by
 unfold ki;rw[SW];apply WD;rw[SW];exact Vf.imp λ{a b} h=>by show p*6+(lo+(a:Ć))<p*6+(lo+(b:Ć));lia
theorem tY{k:Ć}(h:1<=m)(c:m<=6):cV (.tup [.int m,.tup ((Hc m T k).map ax)]) m (Hc m T k):=by
 refine⟨rfl,by lia,by lia,?_,λx d=>?_⟩
 ·unfold Hc;rw[List.pairwise_flatMap];refine⟨λp _=>EY,?_⟩;refine List.Pairwise.imp_of_mem ?_ Vf;intro a b e B H x d y α;obtain⟨q,rfl,A,Q⟩:=nU d;refine bo (nU α) λr V R f=>?_;subst V;show (a:Ć)*6+q<(b:Ć)*6+r
  lia
 ·unfold Hc at d;refine bb (WA.mp d) λp P d=>?_;refine bo (nU d) λq z A Q=>?_;subst z;exact⟨_,_,rfl,WC _,B_ (Wo (WB _)) A,by omega⟩
theorem Cu{k p lo:Ć}:((bc lo c).filter λd=>match d with | .int q=>On k (T p q)|_=>ć).map (λd=>match d with | .int q=>ax [p,q]|_=>.non)=(ki T k p lo c).map ax:=by
 unfold bc ki;rw[WE,UR,WE,UR,UR];rfl
section
variable{a:ă}{p:Ć}{k:Ć}
theorem B3(h:FT J0 m a T J)(P:0<=p)(d:p<m)(A:0<=q)(Q:q<m):ej [Ā (.int q),Ā (.int p),Ā (.int k),Ā (.obj a)] J=.ok (On k (T p q)) J:=by
 refine bo (h.get P d) λb E c _=>?_;simp[ej,E,c q A Q];cases e:T p q with
 |none=>rfl
 |some j=>
  rfl
theorem B4(h:FT J0 m a T J)(M:m<=6)(P:0<=p)(j:p<m) :
  compLoop (.fix (bc (p+1) ((m:Ć)-(p+1)).toNat)) 3e9 (ah 0) ej gm (bc (p+1) ((m:Ć)-(p+1)).toNat) [Ă,Ā (.int p),Ā (.int k),Ā (.obj a)] (J++[.lst []])=.ok 1e3 (J++[.lst ((ki T k p (p+1) ((m:Ć)-(p+1)).toNat).map ax)]):=by
 have:=fV (src:=.fix (bc (p+1) ((m:Ć)-(p+1)).toNat)) (g:=ah 0) (e:=gm) (J1:=J) (q:=λd=>match d with | .int q=>On k (T p q)|_=>ć)
  (h:=λd=>match d with | .int q=>ax [p,q]|_=>.non) (λb=>∃o,b=[o,Ā (.int p),Ā (.int k),Ā (.obj a)]) (λ_=>trivial) (xs:=bc (p+1) ((m:Ć)-(p+1)).toNat) (acc:=[]) (ρ:=[Ă,Ā (.int p),Ā (.int k),Ā (.obj a)]) ⟨Ă,rfl⟩
  (by grind [bc,cj])
  (λx H c b hJJ => by
   obtain⟨o,O⟩:=hJJ;refine bb (SY.mp H) λi I v=>?_;subst v;rw[SM]at I;subst O;refine⟨[Ā (.int (p+1+(i:Ć))),Ā (.int p),Ā (.int k),Ā (.obj a)],⟨_,rfl⟩,rfl,B3 (h.app) P j 0e1 0e1,λ_=>?_⟩
   rfl)
 rw[this,Cu];rfl
end
theorem kX{m:ă}{T:Ć->Ć->Option ă}{k:Ć}(h:m<=6):∀n,((List.range n).flatMap λp:ă=>ki T k p ((p:Ć)+1) (m-(p+1))).length<=6*n
 |0=>by simp
 |n+1=>by
  rw[WG,List.flatMap_append,Uq];have:=kX (T:=T) (k:=k) h n;have H:=t9 (T:=T) (k:=k) (p:=n) (lo:=(n:Ć)+1) (c:=m-(n+1));simp only[WH,List.flatMap_nil,TC]
  lia
theorem y2{k:Ć}(h:cV (.tup [.int m,.tup 1e5]) m ks):∃T,(∀p:Ć,0<=p->p<m->Ay (oZ ks) p (λq=>0<=q/\q<m) (T p)) /\
  dj [.tup [.int m,.tup 1e5],.int k] J=.ok (.tup [.int m,.tup ((Hc m T k).map ax)]) J:=by
 refine cv (Ew (J:=J) h) λa μf T F hF hT=>?_;refine iy h λ_ z A P K=>?_;have H:m<=6:=by lia
 refine⟨T,hT,?_⟩
 have R:=g6 (src:=.fix (bc 0 m)) (g:=ah 4)
  (λS l d=>∃(n c t:ă)(j:Option D),S=bc n c/\n+c=m/\l=[Ā (.tup [.int m,.tup 1e5]),Ā (.int k),Ā (.obj a),Ā (.obj t),j]/\FT J m a T d/\d[t]?=Ā (.lst (((List.range n).flatMap λp:ă=>ki T k p ((p:Ć)+1) (m-(p+1))).map ax)))
  (λ_ _ _=>trivial)
  (λx r l d hJJ => by
   obtain⟨n,c,t,j,E,o,b,e,f⟩:=hJJ;subst b;cases c with
   |zero=>simp_all[fT]
   |succ c=>
    rw[eW]at E;injection E with ex s
    subst ex s;have μ:=B4 (k:=k) (p:=(n:Ć)) e H 0e1 0e1;rw[show ((m:Ć)-((n:Ć)+1)).toNat=m-(n+1) by lia]at μ;have N:=kX (T:=T) (k:=k) H n;have w:=t9 (T:=T) (k:=k) (p:=n) (lo:=(n:Ć)+1) (c:=m-(n+1));refine⟨trivial,_,d,[Ā (.tup [.int m,.tup 1e5]),Ā (.int k),Ā (.obj a),Ā (.obj (d.length+1)),Ā (.int n)],(d++[O.lst ((ki T k n ((n:Ć)+1) (m-(n+1))).map ax)])++[O.lst (((List.range (n+1)).flatMap λp:ă=>ki T k p ((p:Ć)+1) (m-(p+1))).map ax)],rfl,?_,n+1,c,d.length+1,Ā (.int n),by push_cast;rfl,RM (RJ _ _ _) o,rfl,(e.app).app,?_⟩
    ·show gb [Ā (.tup [.int m, .tup 1e5]), Ā (.int k), Ā (.obj a), Ā (.obj t), Ā (.int n)] d = _;unfold gb;simp only[aT,aG,aq,ak,aa,br,bu,ay,aB,bg,gA,dh];rw[kI (Tx (Wo (WC _))) 0e1 1e1 0e1];simp only[aa,aW];rw[show ((m:Ć)-((n:Ć)+1)).toNat=m-(n+1) by lia];rw[show cT [Ă,Ā 4,Ā 1,Ā 2] [Ā (D.tup [D.int ↑m,D.tup (List.map ax ks)]),Ā (D.int k),Ā (D.obj a),Ā (D.obj t),Ā (D.int n)]=[Ă,Ā (.int n),Ā (.int k),Ā (.obj a)] from rfl,μ];simp only[aa,af];unfold cq;dsimp only;rw[aC f,av];dsimp only
     rw[RC (by
      rw[Us,Us]
      exact RH 0e1 cj)]
     simp only[ae,af,bG];simp only[Uq,Uu,UU,Wu,Wv,WG,List.flatMap_append,U1,WH,List.flatMap_nil,TC]
    simp)
  (xs:=bc 0 m) (ρ:=[Ā (.tup [.int m,.tup 1e5]),Ā (.int k),Ā (.obj a),Ā (.obj μf.length),Ă]) (J:=μf++[.lst []])
  ⟨0,m,μf.length,Ă,rfl,UP _ _,rfl,hF.app,av⟩
 refine bZ R λy u v R=>?_;obtain⟨n,c,t,j,E,o,b,e,f⟩:=v;subst b;have Z:=kP E.symm;subst Z;have M:n=m:=o;subst M;have G:cV (.tup [.int n,.tup ((Hc n T k).map ax)]) n (Hc n T k):=tY 0e1 H;obtain⟨g,i⟩:=e.pre;unfold dj;rw[d7];simp only[lg,aK,aT,aL,ay,aB,ak,aa,af,F,ae,bG,aE,d6];have L:(0:ă)<=sizeLine:=RT _;simp only[UU,RC L,ae,aE,List.replicate,Wu,Wv,aK,cP,bu,ay,aB,aG,ak,bg,aa,af,dh];rw[bY (WC _) 0e1];simp only[ae,af,aW,VT];rw[R];simp only[aE,cw,bV,ay,aB,aG,aL,aq,ak,bg,aa,af,dh];rw[d8 f];simp only[aa,af,Uu,UU,RC l2,ae,dD];rw[i];exact fZ (kW G)
theorem uA{J:az}:∀fs:List Ć,gr J (fs.map D.int)=Ā (fs.map ř)
 |[]=>rfl
 |x::fs=>by simp[gr,uA fs];rfl
theorem uB:∀fs:List Ć,Ď (fs.map ř)=ą/\Ē (fs.map ř)=0
 |[]=>by simp[Ď,Ē]
 |x::fs=>by
  have:=uB fs;simp[Ď,Ē,this.1,this.2];exact⟨rfl,rfl⟩
theorem m5{m:Ć}(h:(∀k∈ks,jR m k)){a b:Ć}:oZ ks a b↔([a,b]∈ks\/[b,a]∈ks):=by
 unfold oZ vy
 grind
theorem uG{o o':O}(h:J[j]?=Ā o')(ne:i≠j):(J.set i o)[j]?=Ā o':=by simp_all
noncomputable def eR(k:List Ć):ė:=.tuple (k.map ř)
theorem lS{J:az}{m:Ć}:∀{ks:0e2},(∀k∈ks,jR m k)->gr J 1e5=Ā (ks.map eR)
 |[],_=>rfl
 |k::ks,h=>by
  refine bZ (h k Ta) λa b G _=>?_;subst G;simp[gr,(lS (J:=J) λx d=>h x (Tb _ d))];rfl
theorem qu{J:az}{m:Ć}:∀{ks:0e2},(∀k∈ks,jR m k)->toPs J 1e5=Ā (ks.map eR)
 |[],_=>rfl
 |k::ks,h=>by
  refine bZ (h k Ta) λa b V _=>?_;subst V;simp[toPs,(qu (J:=J) λx d=>h x (Tb _ d))];rfl
theorem jv{m:Ć}:∀{ks:0e2},(∀k∈ks,jR m k)->Ď (ks.map eR)=ą/\Ē (ks.map eR)<=1
 |[],_=>by simp[Ď,Ē]
 |k::ks,h=>by
  refine bZ (h k Ta) λa b z _=>?_;subst z;have i:=jv λx d=>h x (Tb _ d);simp[Ď,Ē,i.1,eR,ĭ];refine⟨rfl,?_⟩;exact RI (Sb i.2)
def fK(m:Ć)(ks:0e2):ė:=.tuple [.int m,.tuple (ks.map eR)]
theorem xr{m:Ć}(h:cV d m ks):mG J d=Ā (fK m ks):=by
 refine iy h λv _ _ _ k=>?_;subst v;unfold mG;simp[gr,Am,pS,qu k];rfl
theorem xt{m:Ć}(h:cV d m ks):fitP (fK m ks)=ą:=by
 refine iy h λ_ _ _ _ k=>?_;have:=jv k;simp[fitP,fK,ě,Ď,ĭ,Ē];exact⟨this.1,RH this.2 (Vj _ _)⟩
end _w
namespace _w
open PySem _l _r
def Pn(d:az)(i:ă)(J:az):Prop:=∃a b c g,J=d.set i (b7 a b c)++g
theorem Pn.app(h:Pn J0 i J):Pn J0 i (J++g):=by
 obtain⟨a,b,c,G,v⟩:=h;subst v;exact⟨a,b,c,G++g,by rw[Va]⟩
theorem Pn.get(h:Pn J0 i J)(I:i<J0.length):∃a b c,J[i]?=Ā (b7 a b c):=by
 obtain⟨a,b,c,g,G⟩:=h;subst G;exact⟨a,b,c,aC (kG I)⟩
theorem Pn.set{a b c:Ć}(h:Pn J0 i J)(I:i<J0.length):Pn J0 i (J.set i (b7 a b c)):=by
 obtain⟨A,B,C,G,v⟩:=h;subst v;exact⟨a,b,c,G,by rw[kC (by simpa using I),List.set_set]⟩
theorem Pn.len(h:Pn J0 i J):J0.length<=J.length:=by
 obtain⟨A,B,C,g,G⟩:=h;subst G;simp
theorem Pn.self{a b c:Ć}(h:J0[i]?=Ā (b7 a b c)):Pn J0 i J0:=by
 refine⟨a,b,c,[],?_⟩;rw[TC];apply Sf;intro j;by_cases e:i=j
 ·subst e;rw[kG (Se.mp h).1,h]
 ·rw[Th e]
theorem Pn.draw{m:Ć}(h:Pn J0 i J)(I:i<J0.length)(d:0<m)(H:m<200000):
  ∃r a b c:Ć,0<=r/\r<m/\bj [.obj i,.int m] J=.ok (.int r) (J.set i (b7 a b c))/\Pn J0 i (J.set i (b7 a b c)):=by
 obtain⟨a,b,c,p⟩:=h.get I;obtain⟨r,A,B,C,R,f,e⟩:=xO p d H;exact⟨r,A,B,C,R,f,e,h.set I⟩
theorem Pn.gc(h:Pn J0 i J)(hd:d.low J0.length):∃a b c,pV J0 (.ok d J)=.ok d (J0.set i (b7 a b c)):=by
 obtain⟨a,b,c,G,V⟩:=h;subst V;exact⟨a,b,c,vN hd mV⟩
theorem i3{e:ME}{rest:Ro}{f:Ć->Ć×Ć}{lo:Ć}(N:n<1000)(H:∀v a,e (Ā (.int v)::rest) 3e5=.ok (cE (f v)) 3e5):
  compLoop (.fix (bc lo n)) J1.length (ah 0) a9 e (bc lo n) (Ă::rest) (J1++[.lst []])=.ok (.obj J1.length) (J1++[.lst (((List.range n).map λk:ă=>f (lo+(k:Ć))).map cE)]):=by
 have:=fV (src:=.fix (bc lo n)) (g:=ah 0) (t:=a9) (J1:=J1) (q:=λ_=>ą)
  (h:=λd=>match d with | .int a=>cE (f a)|_=>.non) (λb=>∃o,b=o::rest) (λ_=>trivial) (xs:=bc lo n) (acc:=[]) (ρ:=Ă::rest) ⟨Ă,rfl⟩
  (by grind [bc,cj])
  (λx X a b hJJ => by
   obtain⟨o,O⟩:=hJJ;refine bb (SY.mp X) λk K V=>?_;subst V
   exact⟨_,⟨_,rfl⟩,by subst O;rfl,rfl,λ_=>H _ _⟩)
 rw[this,Ww.mpr (λ_ _=>rfl)];simp[bc]
def Lu(m:Ć)(ps:List (Ć×Ć)):Prop:=ps.length<=40/\∀p∈ps,0<=p.1/\p.1<m/\0<=p.2/\p.2<m/\p.1≠p.2
theorem oE{t:ă}{m:Ć}{k:Ć}{ps:List (Ć×Ć)}(I:i<J0.length)(T:J0.length<=t)(h:Pn J0 i J1)(L:J1[t]?=Ā (.lst (ps.map cE)))(H:Lu m ps)(k0:0<k)(k1:k<1000):
  ∃qs J2,Lu m qs/\Pn J0 i J2/\J2.length=J1.length/\compLoop (.own t (ps.map cE)) J1.length (ah 0) (eP (au (fW ć) (aA bj (ag (ai 1) (ag (cC (.int k)) (aw)))) 2e4)) 3e4 (ps.map cE) [Ă,Ā (.obj i)] (J1++[.lst []])=.ok (.obj J1.length) (J2++[.lst (qs.map cE)]):=by
 have n:=gN (src:=.own t (ps.map cE)) (g:=ah 0) (t:=(eP (au (fW ć) (aA bj (ag (ai 1) (ag (cC (.int k)) (aw)))) 2e4))) (e:=ai 0)
  (λX α w J2 s=>s=[]/\J2.length=J1.length/\Pn J0 i J2/\J2[t]?=Ā (.lst (ps.map cE))/\(∃o,w=[o,Ā (.obj i)])/\∃R qs:List (Ć×Ć),X=R.map cE/\α=qs.map cE/\qs.length+R.length<=40/\(∀p∈R,0<=p.1/\p.1<m/\0<=p.2/\p.2<m/\p.1≠p.2)/\(∀p∈qs,0<=p.1/\p.1<m/\0<=p.2/\p.2<m/\p.1≠p.2))
  (λα w J2 s=>L1 λ_ E _ d _=>⟨E,aC d⟩)
  (λx r α w J2 s hJJ => by
   obtain⟨S,E,d,j,⟨o,B⟩,R,qs,y,A,f,l,u⟩:=hJJ;subst S B A;cases R with
   |nil=>cases y
   |cons p R=>
    injection y with ex C
    subst ex C;refine cx ((d.app (g:=[.lst (qs.map cE)])).draw I k0 0e1) λv a b c Z D N P=>?_;have μ:=Ry I d.len;rw[kC μ]at N;refine⟨E,aC j,[Ā (cE p),Ā (.obj i)],J2,[],v == 0,J2.set i (b7 a b c),[],rfl,?_,λG=>?_,λG=>?_⟩
    ·simp_all
    ·refine ⟨cE p, J2.set i (b7 a b c), [], by rw [ak], ?_, by simpa using E, rfl, by simpa using E, d.set I, uG j (Sn (Ry I T)), ⟨_, rfl⟩, R, qs ++ [p], rfl, by simp, by simp at f ⊢; exact RH (RI (RJ _ _ _)) f, λq Q => l q (Tb _ Q), λq Q => ?_⟩
     ·rw[Us];exact Ry (show qs.length<1000 by simp at f;lia) cj
     ·exact(Te.mp Q).elim (u q) λz=>by simp at z;subst z;exact l _ Ta
    ·exact⟨rfl,by simpa using E,d.set I,uG j 0e1,⟨_,rfl⟩,R,qs,rfl,rfl,by simp at f⊢;exact RK f,λq Q=>l q (Tb _ Q),u⟩)
  (ρ:=[Ă,Ā (.obj i)]) (J1:=J1)
  ⟨rfl,rfl,h,L,⟨_,rfl⟩,ps,[],rfl,rfl,by have:=H.1;simpa using this,H.2,by simp⟩
 obtain⟨K,M,J2,U,V,n⟩:=n;obtain⟨S,E,d,j,⟨o,B⟩,R,qs,y,A,f,l,u⟩:=V;subst S A;exact⟨qs,J2,⟨RH (RA _ _) f,u⟩,d,E,n⟩
theorem wH{m:Ć}(I:i<J0.length)(h:Pn J0 i J1)(m0:1<=m)(M:m<=6):
  ∃qs J2,Lu m qs/\Pn J0 i J2/\J2.length=J1.length/\compLoop (.fix (bc 1 (m-1).toNat)) J1.length (ah 0) a9 bR (bc 1 (m-1).toNat) [Ă,Ā (.obj i)] (J1++[.lst []])=.ok (.obj J1.length) (J2++[.lst (qs.map cE)]):=by
 have R:=gN (src:=.fix (bc 1 (m-1).toNat)) (g:=ah 0) (t:=a9) (e:=bR)
  (λX α f J2 s=>s=[]/\J2.length=J1.length/\Pn J0 i J2/\(∃o,f=[o,Ā (.obj i)])/\∃(l:Ć)(n:ă)(qs:List (Ć×Ć)),X=bc l n/\1<=l/\l+n=m/\α=qs.map cE/\qs.length+n<=40/\(∀p∈qs,0<=p.1/\p.1<m/\0<=p.2/\p.2<m/\p.1≠p.2))
  (λα f J2 s=>QU λ_ E _=>⟨E,trivial⟩)
  (λx r α f J2 s hJJ => by
   obtain⟨S,E,d,⟨o,w⟩,l,n,qs,j,y,A,k,u,e10⟩:=hJJ;subst S w k;cases n with
   |zero=>simp_all[fT]
   |succ n=>
    rw[eW]at j;injection j with ex B
    subst ex B;refine cx ((d.app (g:=[.lst (qs.map cE)])).draw (m:=l) I 0e1 0e1) λv a b c V T N P=>?_;have G:=Ry I d.len;rw[kC G]at N;refine⟨E,trivial,[Ā (.int l),Ā (.obj i)],J2,[],ą,J2,[],rfl,rfl,λC=>?_,λC=>nomatch C⟩;refine⟨cE (v,l),J2.set i (b7 a b c),[],?_,?_,by simpa using E,rfl,by simpa using E,d.set I,⟨_,rfl⟩,l+1,n,qs++[(v,l)],rfl,Tx (Wo y),by lia,by simp,by simp;exact RH (RI (RJ _ _ _)) u,λq H=>?_⟩
    ·unfold bR;simp only[bV,aL,ay,aB,aq,ak,aa,N];rfl
    ·rw[Us];exact Ry (show qs.length<1000 by lia) cj
    ·exact(Te.mp H).elim (e10 q) λz=>by simp at z;subst z;exact⟨V,by lia,by lia,by lia,by dsimp only;lia⟩)
  (xs:=bc 1 (m-1).toNat) (ρ:=[Ă,Ā (.obj i)]) (J1:=J1)
  ⟨rfl,rfl,h,⟨_,rfl⟩,1,_,[],rfl,WB _,by lia,rfl,by simp;lia,by simp⟩
 obtain⟨K,L,J2,Q,μ,R⟩:=R;obtain⟨S,E,d,⟨o,w⟩,l,n,qs,j,y,A,k,u,e10⟩:=μ;subst S k;exact⟨qs,J2,⟨RH (RA _ _) u,e10⟩,d,E,R⟩
def eZ:MS:=0e6
theorem EN{t:ă}{m w:Ć}{ps:List (Ć×Ć)}(I:i<J0.length)(T:J0.length<=t)(h:Pn J0 i J1)(L:J1[t]?=Ā (.lst (ps.map cE)))(s:Lu m ps)(m0:1<=m)(Z:m<=6):
  ∃(o:ă)(qs:List (Ć×Ć))(J2:az),Lu m qs/\Pn J0 i J2/\J2[o]?=Ā (.lst (qs.map cE))/\eZ [Ā (.obj i),Ā (.int w),Ā (.int m),Ā (.obj t),o4,Ă] J1=.next [Ā (.obj i),Ā (.int w),Ā (.int m),Ā (.obj t),o4,Ā (.obj o)] J2:=by
 unfold eZ
 have R:∀n a,cN (Ā (.int n)::[]) 3e5=.ok (cE (n,n+1)) 3e5:=λn a=>by
  unfold cN;simp only[bV,ay,aB,aG,ak,bg,aa,af,gA,Uu,UU,RC l2];rfl
 have F:∀n a,dQ (Ā (.int n)::[]) 3e5=.ok (cE (n,n+1)) 3e5:=R
 have r3:∀n a,cM (Ā (.int n)::[]) 3e5=.ok (cE (0,n)) 3e5:=λn a=>by
  unfold cM;simp only[bV,ay,aB,aG,ak,bg,aa,af,gA,Uu,UU,RC l2];rfl
 have S:gG (.int m) (.int 1) J1=.ok (.int (m-1)) J1:=rfl;have r:(List.range (m-1).toNat).length<=5:=by rw[UT];lia
 have pth:∀p∈(List.range (m-1).toNat).map (λk:ă=>(((0:Ć)+(k:Ć)),(0:Ć)+(k:Ć)+1)),0<=p.1/\p.1<m/\0<=p.2/\p.2<m/\p.1≠p.2:=λp e=>by
  obtain⟨k,K,rfl⟩:=SY.mp e;rw[SM]at K;dsimp only
  lia
 by_cases y:w=0
 ·subst y;refine aJ (oE (k:=2) I T h L s 0e3 0e3) λqs J2 q G μ Q=>?_;refine⟨J1.length,qs,J2++[.lst (qs.map cE)],q,G.app,by rw[<- μ];exact av,?_⟩;simp only[bE,cc,aG,aq,ak,bg,aa,af,cY,Wi,bC,ae,Vm,T7,T8,aT,br,bT];rw[bP L];simp only[aa,af,bM];rw[show cT [Ă,Ā 0] [Ā (D.obj i),Ā (.int 0),Ā (.int m),Ā (.obj t),o4,Ă]=[Ă,Ā (.obj i)] from rfl];unfold dN dS;rw[Q];rfl
 have W:(w == 0)=ć:=by simpa using y
 by_cases A:w=1
 ·subst A;refine aJ (oE (k:=3) I T h L s 0e3 0e3) λqs J2 q G μ Q=>?_;refine⟨J1.length,qs,J2++[.lst (qs.map cE)],q,G.app,by rw[<- μ];exact av,?_⟩;simp only[bE,cc,aG,aq,ak,bg,aa,af,cY,W,Wi,bC,ae,Vm,T7,T8,aT,br,bT];rw[bP L];simp only[aa,af,bM];rw[show cT [Ă,Ā 0] [Ā (D.obj i),Ā (.int 1),Ā (.int m),Ā (.obj t),o4,Ă]=[Ă,Ā (.obj i)] from rfl];unfold dM dR;rw[Q];rfl
 have c:(w == 1)=ć:=by simpa using A
 by_cases B:w=2
 ·subst B;let b:List (Ć×Ć):=(List.range (m-1).toNat).map (λk:ă=>(((0:Ć)+(k:Ć)),(0:Ć)+(k:Ć)+1))
  let P:List (Ć×Ć):=(List.replicate (if cmpI .Gt m 2 then (1:Ć) else 0).toNat [((0:Ć),m-1)]).flatten
  have X:P=if cmpI .Gt m 2 then [((0:Ć),m-1)] else []:=by
   simp only[P];cases cmpI .Gt m 2 <;> rfl
  have H:P.length<=1/\∀p∈P,p=(0,m-1)/\2<m:=by
   rw[X];by_cases z:cmpI .Gt m 2=ą
   ·rw [RC z];have:2<m:=by simpa[cmpI] using z
    simp[this]
   ·rw[RE z];simp
  refine⟨_,b++P,((J1++[O.lst (b.map cE)]++[O.lst [cE (0,m-1)]])++[O.lst (P.map cE)])++[O.lst ((b++P).map cE)],⟨?_,λp e=>?_⟩,((h.app).app.app).app,av,?_⟩
  ·rw [Uq];have:b.length<=5:=by simp only[b,Us];exact r
   omega
  ·rcases Te.mp e with z | z
   ·exact pth p z
   ·obtain ⟨rfl, z2⟩ := H.2 p z;dsimp only
    lia
  ·simp only [bE, cc, aG, aq, ak, bg, aa, af, cY, W, c, Wi, bC, ae, Vm, T7, T8, aT, br, bu, ay, aB, S];rw[bY 0e1 0e1];simp only[aa,af,aW];rw[show cT [Ă] _=[Ă] from rfl,i3 0e1 R];have l1:(1:ă)<=sizeLine:=by decide
   have u:∀j,gG (.int m) (.int 1) j=.ok (.int (m-1)) j:=λ_=>rfl;have α:∀k:ċ,∀j,ku [.bl k] j=.ok (.int (if k then 1 else 0)) j:=λ_ _=>rfl;simp only[aa,af,d6,bV,ay,aB,aG,aq,ak,bg,u,Uu,UU,RC l2,RC l1,aL,d9,α]
   have V:∀M:az,gH (.obj M.length) (.int (if cmpI .Gt m 2=ą then 1 else 0)) (M++[O.lst [cE (0,m-1)]])=.ok (.obj (M++[O.lst [cE (0,m-1)]]).length) ((M++[O.lst [cE (0,m-1)]])++[O.lst (P.map cE)]):=λM=>by
    unfold gH;dsimp only;rw[av];dsimp only
    have:(List.replicate (if cmpI .Gt m 2=ą then (1:Ć) else 0).toNat [cE (0,m-1)]).flatten=P.map cE:=by
     simp only[P];cases cmpI .Gt m 2 <;> rfl
    rw[this,RC];have l:(1:ă)<=sizeLine:=by decide
    cases cmpI .Gt m 2
    ·exact⟨by decide,by decide,RT _⟩
    ·exact⟨by decide,by decide,l⟩
   rw[show (D.tup [D.int 0,D.int (m-1)])=cE (0,m-1) from rfl,V];simp only[aa,af]
   have N:cq (.obj J1.length) (.obj (J1++[O.lst (b.map cE)]++[O.lst [cE (0,m-1)]]).length) ((J1++[O.lst (b.map cE)]++[O.lst [cE (0,m-1)]])++[O.lst (P.map cE)])=.ok (.obj ((J1++[O.lst (b.map cE)]++[O.lst [cE (0,m-1)]])++[O.lst (P.map cE)]).length) (((J1++[O.lst (b.map cE)]++[O.lst [cE (0,m-1)]])++[O.lst (P.map cE)])++[O.lst ((b++P).map cE)]):=by
    unfold cq;dsimp only;rw[av,aC (aC av)];dsimp only;rw[RC,U1];have U:((List.range (m-1).toNat).map (λk:ă=>(((0:Ć)+(k:Ć)),(0:Ć)+(k:Ć)+1))).length<=5:=by rw[Us];exact r
    have e2:((b.map cE).length:ă)<=5:=by rw[Us];exact U
    have e3:((P.map cE).length:ă)<=1:=by rw[Us];exact H.1
    exact RH 0e1 cj
   rw[N];rfl
 have d:(w == 2)=ć:=by simpa using B
 by_cases C:w=3
 ·subst C;refine⟨J1.length,(List.range (m-1).toNat).map (λk:ă=>(((0:Ć)+(k:Ć)),(0:Ć)+(k:Ć)+1)),J1++[.lst _],⟨by rw[Us];exact RH r (Vj _ _),pth⟩,h.app,av,?_⟩;simp only[bE,cc,aG,aq,ak,bg,aa,af,cY,W,c,d,Wi,bC,ae,Vm,T7,T8,aT,br,bu,ay,aB,S];rw[bY 0e1 0e1];simp only[aa,af,aW];rw[show cT [Ă] _=[Ă] from rfl,i3 0e1 F];rfl
 have g:(w == 3)=ć:=by simpa using C
 by_cases E:w=4
 ·subst E;refine⟨J1.length,(List.range (m-1).toNat).map (λk:ă=>((0:Ć),(1:Ć)+(k:Ć))),J1++[.lst _],⟨by rw[Us];lia,λp e=>?_⟩,h.app,av,?_⟩
  ·obtain ⟨k, K, rfl⟩ := SY.mp e;rw[SM]at K;dsimp only
   lia
  simp only[bE,cc,aG,aq,ak,bg,aa,af,cY,W,c,d,g,Wi,bC,ae,Vm,T7,T8,aT,br,bu,ay,aB,S];rw[kI 0e1 1e1 0e1 0e1];simp only[aa,af,aW];rw[show cT [Ă] _=[Ă] from rfl,i3 (f:=λv=>(0,v)) 0e1 r3];rfl
 have x:(w == 4)=ć:=by simpa using E
 refine aJ (wH I h m0 Z) λqs J2 q G μ Q=>?_;refine⟨J1.length,qs,J2++[.lst (qs.map cE)],q,G.app,by rw[<- μ];exact av,?_⟩;simp only[bE,cc,aG,aq,ak,bg,aa,af,cY,W,c,d,g,x,bC,ae,Vm,T7,aT,br,bu,ay,aB];rw[kI 0e1 0e1 0e1 0e1]
 simp_all
theorem gO{m:Ć}(h:cV d m ks):d.low n:=kW h
theorem y3{a b c:Ć}(h:J[i]?=Ā (b7 a b c)):∃d m ks a' b' c',cV d m ks/\dr [.obj i] J=.ok d (J.set i (b7 a' b' c')):=by
 have I:=(Se.mp h).1;have T:=Pn.self h;refine cx (T.draw (m:=7) I 0e3 0e3) λw U b1 c1 w0 w1 W μ=>?_;generalize hM1:J.set i (b7 U b1 c1)=M1 at W μ;refine cx (μ.draw (m:=6) I 0e3 0e3) λy X b2 c2 m0 m1 M P=>?_;generalize hM2:M1.set i (b7 X b2 c2)=M2 at M P
 have R:=g6 (src:=.fix (bc 0 (1+y).toNat)) (g:=ah 4)
  (λxs G e => ∃ (l : Ć) (n : ă) (t : ă) (ps : List (Ć × Ć)) (C : Option D), xs = bc l n /\ 0 <= l /\ l + n = 1 + y /\ G = [Ā (.obj i), Ā (.int w), Ā (.int (1 + y)), Ā (.obj t), C, Ă] /\ Pn J i e /\ J.length <= t /\ e[t]? = Ā (.lst (ps.map cE)) /\
   (ps.length:Ć)<=6*l/\(∀p∈ps,0<=p.1/\p.1<p.2/\p.2<l))
  (λ_ _ _=>trivial)
  (λx r G e hJJ => by
   obtain⟨l,n,t,ps,C,E,j,e3,u,s,K,A,e8,B⟩:=hJJ;subst u;cases n with
   |zero=>simp_all[fT]
   |succ n=>
    rw[eW]at E;injection E with ex er
    subst ex er;let q:List (Ć×Ć):=(List.range l.toNat).map λk:ă=>((0:Ć)+(k:Ć),l)
    have hq:(q.length:Ć)=l:=by simp only[q,Us,UT];exact Wz j
    refine⟨trivial,_,e,[Ā (.obj i),Ā (.int w),Ā (.int (1+y)),Ā (.obj (e.length+1)),Ā (.int l),Ă],(e++[O.lst (q.map cE)])++[O.lst ((ps++q).map cE)],rfl,?_,l+1,n,e.length+1,ps++q,Ā (.int l),rfl,Tx (Wo j),by lia,rfl,s.app.app,?_,?_,?_,λp h=>?_⟩
    ·show dP [Ā (.obj i), Ā (.int w), Ā (.int (1 + y)), Ā (.obj t), Ā (.int l), Ă] e = _;unfold dP;simp only[aT,aG,aq,ak,aa,af,br,bu,ay,aB];rw[bY (j) 0e1];simp only[aa,af,aW]
     rw[show cT [Ă,Ā 4] [Ā (D.obj i),Ā (.int w),Ā (.int (1+y)),Ā (.obj t),Ā (.int l),Ă]=[Ă,Ā (.int l)] from rfl,
      i3 (f:=λv=>(v,l)) 0e1 (λv a=>by
       unfold gn;simp only[bV,ay,aB,aq,ak,aa,af,Uu,UU,RC l2]
       rfl)]
     simp only[aa,af];unfold cq;dsimp only;rw[aC A,av];dsimp only
     rw[RC (by
      rw[Us,Us];have:q.length=((List.range l.toNat).map λk:ă=>((0:Ć)+(k:Ć),l)).length:=rfl;rw[<- this]
      exact RH 0e1 cj)]
     simp only[ae,af,bG];simp only[Uq,Uu,UU,Wu,Wv,U1];rfl
    ·have:=s.len;exact RG this
    ·have : e.length + 1 = (e ++ [O.lst (q.map cE)]).length := by simp
     rw[this];exact av
    ·rw[Uq];push_cast;lia
    ·rcases Te.mp h with z | z
     ·have:=B p z;lia
     ·simp only [q] at z;obtain⟨k,hk,rfl⟩:=SY.mp z;rw[SM]at hk;dsimp only
      lia)
  (ρ:=[Ā (.obj i),Ā (.int w),Ā (.int (1+y)),Ā (.obj M2.length),Ă,Ă]) (J:=M2++[.lst []])
  ⟨0,(1+y).toNat,M2.length,[],Ă,rfl,WB _,by lia,rfl,P.app,P.len,av,by simp,by simp⟩
 obtain⟨ρ',M3,⟨l,n,t,ps,C,E,j,e3,u,s,K,A,e8,B⟩,R⟩:=R;subst u;have hn:=kP E.symm;subst hn;obtain⟨o,q,S,Q,N,q3,q4⟩:=EN (m:=1+y) I K s A ⟨by lia,λp h=>by have:=B p h;lia⟩ 0e1 0e1;obtain⟨a5,b5,c5,H⟩:=N.get I;refine cx (Ca H (m:=1+y) 0e1 0e1) λns α V c6 n1 n2 n3 n4=>?_;obtain⟨d,ks,L,g2⟩:∃d ks,cV d (1+y) ks/\eh _ (S.set i (b7 α V c6))=.ok d _:=⟨_,_,MX 0e1 0e1 Q.2 (by have:=Q.1;exact R8 this (Rz (Vj _ _))) n1 n2 n3⟩;obtain⟨Z,F,c7,hg⟩:=(N.set I).gc (gO L);refine⟨d,1+y,ks,Z,F,c7,L,?_⟩;unfold dr;rw[bW];simp only[gR,aK,aT,aL,ay,aB,ak,bg,aa,af,W,ae,bG,aE,List.replicate,Wu,Wv,aG,hM1,M,hM2,gA,d6,UU,RC (RT sizeLine),cP,bu,aq];rw[bY 0e1 0e1];simp only[ae,af,aW];rw[R];simp only[aE,aK];have hW:=q4;unfold eZ at hW;rw[hW];simp only[aE,cw,aL,ay,aB,aq,ak,bV,aa,af];rw[d8 q3];simp only[aa,af,Uu,UU,RC l2,n4,g2,ae,dD];exact hg
theorem B7{m k:Ć}(h:cV d m ks):∃d' ks',cV d' m ks'/\dj [d,.int k] J=.ok d' J:=by
 have H:=h.1;have M:1<=m/\m<=6:=⟨h.2.1,h.2.2.1⟩;subst H;obtain⟨n,rfl⟩:∃n:ă,m=(n:Ć):=⟨m.toNat,by lia⟩;refine bb (y2 (J:=J) (k:=k) h) λT _ e=>?_
 grind [tY]
theorem qv{m:Ć}(h:(∀k∈ks,jR m k)):fitP (.tuple (ks.map eR))=ą:=by
 have:=jv h;simp[fitP,ě,ĭ];exact⟨this.1,RH this.2 (Vj _ _)⟩
theorem x6{m:Ć}(h:(∀k∈ks,jR m k)):fW ą (.tup 1e5) (.tup []) J=.ok (.bl (!ks.isEmpty)) J:=by
 have E:mG J (.tup 1e5)=Ā (.tuple (ks.map eR)):=by
  simp[mG,lS h,Option.map_some]
 unfold fW;simp only[E,(show mG J (.tup [])=Ā (.tuple []) from rfl)];rw[RC ⟨qv h,by decide⟩];cases ks with
 |nil=>rfl
 |cons k ks=>rfl
theorem uE{m:Ć}{ks':0e2}(h:cV d m ks)(hs:ks'.Sublist ks):cV (.tup [.int m,.tup (ks'.map ax)]) m ks':=by
 refine iy h λ_ a b p K=>?_;exact⟨rfl,a,b,p.sublist hs,λk H=>K k (hs.subset H)⟩
theorem KL{xs:List β}{r:ă}(h:r<=xs.length):lF xs Ă (Ā (r:Ć))=xs.take r:=by
 simp[lF,HT.sIx_none,HT.sIx_nat]
theorem Df{xs:List β}{r:ă}(h:r<=xs.length):lF xs (Ā (r:Ć)) Ă=xs.drop r:=by
 simp[lF,HT.sIx_none,HT.sIx_nat,UX]
theorem M4{a b:Ć}:bK [.tup [.int a,.int b]] J=.ok 1e3 (J++[.lst [.int (min a b),.int (max a b)]]):=by
 have e:[min a b,max a b]=nA [a,b]:=by
  refine t4 ?_ (by simp;lia);by_cases h:a<=b
  ·rw[Ć.min_eq_left h,Ć.max_eq_right h]
  ·rw[Ć.min_eq_right (Tx (XA h)),Ć.max_eq_left 0e1];exact List.Perm.swap a b []
 have m:fX [.int a,.int b]=Ā [a,b]:=rfl;unfold bK gB
 grind
theorem B6{a b c:Ć}(hp:J[i]?=Ā (b7 a b c)):∃d m ks a' b' c',cV d m ks/\fq [.obj i] J=.ok d (J.set i (b7 a' b' c')):=by
 have I:i<J.length:=(Se.mp hp).1;obtain⟨d0,m,α,A,B,q,g0,l⟩:=y3 hp;have V:Pn J i (J.set i (b7 A B q)):=⟨A,B,q,[],by simp⟩;generalize hM0:J.set i (b7 A B q)=M0 at l V;refine cx (V.draw (m:=6) I 0e3 0e3) λw a1 b1 c1 D w1 o j=>?_;generalize hM1:M0.set i (b7 a1 b1 c1)=M1 at o j;have cmpw:cmpI .Lt w 3=decide (w<3):=rfl
 have st:∃d ks,cV d m ks/\gS (eP (au (fL .Lt) (ai 2) (cC (.int 3)))) (aZ (aA dj (ag (ai 1) (ag (cC (.int 2)) (aw)))) (ah 1)) (b9) [Ā (.obj i),Ā d0,Ā (.int w),Ă,Ă,Ă] M1=.next [Ā (.obj i),Ā d,Ā (.int w),Ă,Ă,Ă] M1:=by
  refine bZ (B7 (J:=M1) (k:=2) g0) λd' X g' e'=>?_;by_cases W:w<3
  ·refine ⟨d', X, g', ?_⟩
   simp_all
  ·refine ⟨d0, α, g0, ?_⟩
   simp_all
 obtain⟨d,ks,g,μ⟩:=st;have hlow:=λn=>gO (n:=n) g;have hg:=g;refine iy hg λv6 h0 h1 hpw K=>?_;subst v6;unfold fq;rw[bW];have sub1:∀x y:Ć,∀J,gG (.int x) (.int y) J=.ok (.int (x-y)) J:=λ_ _ _=>rfl;by_cases z0:w=0/\ks≠[]
 ·obtain ⟨v7, E⟩ := z0;subst v7;have hlen:=ed g;have hpos:0<ks.length:=V8.mpr E;have H:ks.isEmpty=ć:=by simpa using E
  refine cx (j.draw (m:=(ks.length:Ć)) I 0e1 0e1) λr p b2 t r0 r1 er P=>?_;generalize hM2:M1.set i (b7 p b2 t)=M2 at er P;obtain⟨R,rfl⟩:∃R:ă,r=(R:Ć):=⟨r.toNat,R9 (Wz r0)⟩
  have s:cV (.tup [.int m,.tup ((ks.take R++ks.drop (R+1)).map ax)]) m (ks.take R++ks.drop (R+1)):=by
   refine uE g ?_;have:=List.Sublist.append (List.Sublist.refl (ks.take R)) (List.drop_sublist 1 (ks.drop R))
   rwa [U0,List.drop_drop]at this
  obtain⟨Z,F,e,C⟩:=P.gc (gO s);refine⟨_,m,_,Z,F,e,s,?_⟩;simp only[fv,aK,aT,aL,ay,aB,ak,aq,bg,aa,af,l,hM0,ae,bG,aE,List.replicate,Wu,Wv,o,hM1];rw[μ];simp only[aE,aK,bE,jq,cc,aG,aq,ak,bg,aa,af,cY,Wi,Vm,T7,T8,bC,fO,bV,aB,UU,RC (RT sizeLine),x6 K,H,Xx,ae,aT,aL,ay,gw,Us,er,hM2,bG,Wu,Wv,cw,dh,AR,BD,n9,vP,gA]
  have s1:∀J,z8 (.tup 1e5) Ă (Ā (R:Ć)) J=.ok (.tup ((ks.map ax).take R)) J:=λJ=>by
   unfold z8;dsimp only;rw[KL (by rw[Us];lia)]
  have s2:∀J,z8 (.tup 1e5) (Ā ((R:Ć)+1)) Ă J=.ok (.tup ((ks.map ax).drop (R+1))) J:=λJ=>by
   unfold z8;dsimp only;rw[show ((R:Ć)+1)=((R+1:ă):Ć) by push_cast;rfl,Df (by rw[Us];lia)]
  simp only[s1,s2,aa,af]
  have s3:∀J,cq (.tup ((ks.map ax).take R)) (.tup ((ks.map ax).drop (R+1))) J=.ok (.tup ((ks.take R++ks.drop (R+1)).map ax)) J:=λJ=>by
   unfold cq;dsimp only;rw[RC,U1,U2,U3];rw[TQ,Ua,Us];exact RH 0e1 cj
  simp_all[l2]
 ·
  have t0:kx (eP (au (fW ć) (ai 2) 2e4)) (eP (au (fW ą) (au bN (ai 1) 2e2) (bJ (aw)))) [Ā (.obj i),Ā (.tup [.int m,.tup 1e5]),Ā (.int w),Ă,Ă,Ă] M1=.ok ć M1:=by
   by_cases W:w=0
   ·subst W
    have H:ks.isEmpty=ą:=by
     cases ks with
     |nil=>rfl
     |cons x y=>exact absurd ⟨rfl,by simp⟩ z0
    simp only[jq,cc,aG,aq,ak,bg,aa,af,cY,Wi,Vm,T7,T8,bC,fO,bV,aB,UU,RC (RT sizeLine),x6 K,H,WI]
   simp_all
  by_cases z1:w=1/\1<m
  ·obtain ⟨rfl, N⟩ := z1;refine cx (j.draw (m:=m) I (WJ D N) 0e1) λu p b2 t u0 u1 eu P=>?_;generalize hM2:M1.set i (b7 p b2 t)=M2 at eu P;refine cx (P.draw (m:=m-1) I 0e1 0e1) λv a3 b3 c3 v0 v1 ev P3=>?_;generalize hM3:M2.set i (b7 a3 b3 c3)=M3 at ev P3;have T:0<=(u+1+v)%m:=Ws _ (Tw (WJ D N));have U:(u+1+v)%m<m:=Wt _ 0e1
   have f:(u+1+v)%m≠u:=by
    by_cases hh:u+1+v<m
    ·rw[M_ (X8 (X8 u0 D) v0) hh];lia
    ·rw[show u+1+v=(u+1+v-m)+m by simp,Ć.add_emod_right,M_ (by omega) 0e1];lia
   have md:∀x J,ph (.int x) (.int m) J=.ok (.int (x%m)) J:=λx J=>iS (by show 0<m;lia);generalize hx:(u+1+v)%m=x at T U f
   have S:∀k∈ks++[[min u x,max u x]],jR m k:=λk L=>by
    rcases Te.mp L with z|z
    ·exact K k z
    ·simp at z;subst z;exact⟨_,_,rfl,by lia,by lia,by lia⟩
   have s:=mr h0 h1 S;have kd:mj ((ks++[[min u x,max u x]]).map ax)=Ā (ks++[[min u x,max u x]]):=nZ λk K=>(S k K).prs h1;obtain⟨Z,F,e,C⟩:=(((P3.app (g:=[.lst [.int (min u x),.int (max u x)]])).app (g:=[.set (dG (ks++[[min u x,max u x]]))])).app (g:=[.lst ((fH (ks++[[min u x,max u x]])).map ax)])).gc (gO s);refine⟨_,m,_,Z,F,e,s,?_⟩;have G:cmpI .Gt m 1=ą:=by simpa[cmpI] using N
   have l1:(1:ă)<=sizeLine:=by decide
   have s3:∀J,cq (.tup 1e5) (.tup [.tup [.int (min u x),.int (max u x)]]) J=.ok (.tup ((ks++[[min u x,max u x]]).map ax)) J:=λJ=>by
    unfold cq;dsimp only;rw[RC,U1]
    ·rfl
    ·have:=ed g;rw[Us];simp only[Uu,UU];exact RH 0e1 cj
   have s4:∀J,pf [.tup ((ks++[[min u x,max u x]]).map ax)] J=.ok 1e3 (J++[.set (dG (ks++[[min u x,max u x]]))]):=λJ=>by
    unfold pf pZ;dsimp only;rw[kd]
   have s5:∀M:az,bK [.obj M.length] (M++[.set (dG (ks++[[min u x,max u x]]))])=.ok (.obj (M++[O.set (dG (ks++[[min u x,max u x]]))]).length) ((M++[.set (dG (ks++[[min u x,max u x]]))])++[.lst ((fH (ks++[[min u x,max u x]])).map ax)]):=λM=>by
    unfold bK;dsimp only;rw[av];dsimp only;unfold gB;dsimp only;rw[av];dsimp only;rw[mu]
   simp only[fv,aK,aT,aL,ay,aB,ak,aq,bg,aa,af,l,hM0,ae,bG,aE,List.replicate,Wu,Wv,o,hM1];rw[μ];simp only[aE];rw[aK,bE,t0];simp only[ae,Vm,T7,gv,aE,aK,bE,jq,cc,aG,aq,ak,bg,aa,af,cY,Wi,T8,bC,dh,d9,G,aT,aL,ay,aB,eu,hM2,bG,Wu,Wv,bV,sub1,ev,hM3,gA,md,hx,Uu,UU,RC l2,RC l1,M4];rw[d8 av];simp only[aa,af,ae,bG,Wu,Wv,aE,cw,bV,ay,aB,aG,aL,aq,ak,bg,dh,fO,Uu,UU,RC l2,RC l1,s3,s4,s5]
   simp_all[d8,l2]
  ·have t1:kx (eP (au (fW ć) (ai 2) 2e2)) (eP (au (fL .Gt) (au bN (ai 1) 2e4) 2e2)) [Ā (.obj i),Ā (.tup [.int m,.tup 1e5]),Ā (.int w),Ă,Ă,Ă] M1=.ok ć M1:=by
    by_cases W:w=1
    ·subst W
     have G:cmpI .Gt m 1=ć:=by
      have:¬ 1<m:=λh=>z1 ⟨rfl,h⟩;simpa[cmpI] using this
     simp only[jq,cc,aG,aq,ak,bg,aa,af,cY,Wi,Vm,T7,T8,bC,dh,d9,G]
    ·have Q : (w == 1) = ć := by simpa using W
     simp only[jq,cc,aG,aq,ak,bg,aa,af,cY,Q,Vm,T7,bC]
   obtain⟨Z,F,e,C⟩:=j.gc (gO g);refine⟨_,m,_,Z,F,e,g,?_⟩;simp only[fv,aK,aT,aL,ay,aB,ak,aq,bg,aa,af,l,hM0,ae,bG,aE,List.replicate,Wu,Wv,o,hM1];rw[μ];simp only[aE];rw[aK,bE,t0];simp only[ae,Vm,T7,gv,aE];rw[aK,bE,t1];simp only[ae,Vm,T7,gv,aE,cw,aq,ak,dD];exact C
end _w
namespace _v
noncomputable def Pl(ks:0e2)(a b:Ć):ċ:=decide ([min a b,max a b]∈ks)
noncomputable def rg(m:ă):List Ć:=(List.range m).map Ć.ofNat
noncomputable def du(w:List Ć):Ć:=w.getLast?.getD 0
noncomputable def vg(w:List Ć):Ć:=w.head?.getD 0
def ND(m:ă)(ks:0e2)(w:List Ć):List Ć:=(rg m).filter λp=>!decide (p∈w)&&Pl ks (du w) p
def Qq(m:ă)(ks:0e2)(w:List Ć):List (List Ć):=(ND m ks w).map λp=>w++[p]
def Pc(m:ă)(ks:0e2):ă->List (List Ć)
 |0=>(rg m).map λp=>[p]
 |k+1=>(Pc m ks k).flatMap (Qq m ks)
theorem jU{p:Ć}:p∈rg m↔0<=p/\p<m:=by
 unfold rg;rw[SY];constructor
 ·rintro ⟨i, I, rfl⟩
  have:=SM.mp I;exact⟨WC _,by simpa using this⟩
 ·rintro ⟨d, H⟩
  exact⟨p.toNat,SM.mpr 0e1,by simp;lia⟩
theorem Bd:(rg m).length=m:=by simp[rg]
theorem oA{w:List Ć}{p:Ć}:du (w++[p])=p:=by simp[du]
structure Rm(m k:ă)(w:List Ć):Prop where
 len:w.length=k+1
 nd:w.Nodup
 rng:∀p∈w,0<=p/\p<(m:Ć)
theorem kX{m:ă}{f:List Ć->List (List Ć)}(h:∀w,(f w).length<=m):∀l:List (List Ć),(l.flatMap f).length<=l.length*m
 |[]=>by simp
 |w::l=>by
  rw[WH,Uq,Uu,Yp];have:=h w;have:=kX h l;lia
end _v
namespace _w
open PySem _l _r _v
theorem cy{U:Type}{en:U->D}{src:kb}{g:MG}{t:MT}{e:ME}{J1:az}{q:U->ċ}{h:U->D}(R:Ro->Prop)(O:∀a,bf src 3e5) :
  ∀{us:List U}{acc:List D}{ρ:Ro},R ρ->acc.length+us.length<=sizeLine->(∀x∈us,∀a ρ,R ρ->∃ρ1,R ρ1/\g (en x) ρ 3e5=.ok ρ1 3e5/\t ρ1 3e5=.ok (q x) 3e5/\(q x=ą->e ρ1 3e5=.ok (h x) 3e5)) ->
   compLoop src J1.length g t e (us.map en) ρ (J1++[.lst acc])=.ok (.obj J1.length) (J1++[.lst (acc++(us.filter q).map h)])
 |[],acc,ρ,r,L,n=>by
  rw[Uh];unfold compLoop;rw[RC (O acc)];simp
 |x::S,acc,ρ,r,L,n=>by
  refine pW (n x Ta acc ρ r) λρ1 b E m o=>?_;rw[SH];unfold compLoop;rw[RC (O acc),E];simp only[af,aa];rw[m];simp only[af,aa];have l:=λy α=>n y (Tb _ α);simp only[Uu]at L;cases z:q x with
  |false=>
   rw[RE RF,cy R O b (RK L) l,Wb,z];rfl
  |true=>
   rw[RC rfl,o z];simp only[af,aa];rw[fU (Ry (Rz (RA _ _)) L)];simp only[aa,af];rw[cy R O b (by simp;exact RH (RI (RJ _ _ _)) L) l,Wb,z];simp
theorem kU{U:Type}{en:U->D}{src:kb}{g:MG}{t:MT}{fb:MB}{J1:az}{q:U->ċ}{k:U->List D}(R:Ro->Prop)(O:∀a,bf src 3e5) :
  ∀{us:List U}{acc:List D}{ρ:Ro},R ρ->acc.length+((us.filter q).flatMap k).length<=sizeLine->(∀x∈us,∀a ρ,R ρ->∃ρ1,g (en x) ρ 3e5=.ok ρ1 3e5/\t ρ1 3e5=.ok (q x) 3e5/\(q x=ć->R ρ1)/\(q x=ą->a.length+(k x).length<=sizeLine->∃ρ2,R ρ2/\fb J1.length ρ1 3e5=.ok ρ2 (J1++[.lst (a++k x)]))) ->
   ∃ρ',R ρ'/\iA src J1.length g t fb (us.map en) ρ (J1++[.lst acc])=.ok ρ' (J1++[.lst (acc++(us.filter q).flatMap k)])
 |[],acc,ρ,h,L,n=>by
  refine⟨ρ,h,?_⟩;rw[Uh];unfold iA;rw[RC (O acc)];simp
 |x::S,acc,ρ,h,L,n=>by
  refine pW (n x Ta acc ρ h) λρ1 E m e o=>?_;rw[SH];unfold iA;rw[RC (O acc),E];simp only[af,aa];rw[m];simp only[af,aa];have l:=λy α=>n y (Tb _ α);cases z:q x with
  |false=>
   rw[Wb,z]at L;rw[RE RF,Wb,z];exact kU R O (e z) L l
  |true=>
   rw[Wb,z,RC rfl,WH,Uq]at L;refine bb (o z (RH (V5 (RA _ _) _) L)) λρ2 d b=>?_;rw[RC rfl,b];simp only[af,aa];refine bb (kU R O d (acc:=acc++k x) (by rw[Uq];exact RH (RI (YO _ _ _)) L) l) λρ' r c=>?_;refine⟨ρ',r,?_⟩;rw[c,Wb,z,RC rfl,WH,Va]
theorem fA{U:Type}:∀{us:List U},us.filter (λ_=>ą)=us
 |[]=>rfl
 |_::us=>by simp
theorem De{e:ME}{a:List D}{y:D}(h:e ρ 3e5=.ok y 3e5)(L:a.length+1<=sizeLine):nE e J1.length ρ 3e5=.ok ρ (J1++[.lst (a++[y])]):=by
 grind [nE,af,aa,fU]
theorem uC{m:Ć}{a b:Ć}(H:(∀k∈ks,jR m k)):w8 ć (.tup [.int a,.int b]) (.tup 1e5) J=.ok (.bl (decide ([a,b]∈ks))) J:=by
 have E:mG J (.tup 1e5)=Ā (.tuple (ks.map eR)):=by
  simp[mG,lS H]
 unfold w8;rw[(show mG J (.tup [.int a,.int b])=Ā (.tuple [.int a,.int b]) from rfl),E];dsimp only[vL];rw[RC ⟨rfl,qv H⟩];simp only[Vm,T7];congr 2;rw[List.any_map];apply SR.mpr;rw[WK,SG];constructor
 ·rintro ⟨k, c, e⟩
  refine bZ (H k c) λu v G _=>?_;subst G
  simp_all[eR,ġ,ş]
 ·intro h;exact⟨_,h,by simp[eR,ġ,ş]⟩
noncomputable abbrev jO(w:List Ć):D:=.tup (w.map D.int)
theorem gL:∀{ns:List Ć},fX (ns.map D.int)=Ā ns
 |[]=>rfl
 |n::ns=>by simp[fX,gL (ns:=ns)]
theorem μ1{w:List Ć}:(jO w).low n:=by simp;exact fz.mpr λx d=>by obtain⟨k,_,rfl⟩:=SY.mp d;simp
theorem NQ{w:List Ć}{a:Ć}:w8 neg (.int a) (jO w) J=.ok (.bl (if neg then !decide (a∈w) else decide (a∈w))) J:=by
 have m:mG J (jO w)=Ā (.tuple (w.map ř)):=by
  simp[mG,uA]
 have O:fitP (.tuple (w.map ř))=ą:=by
  simp[uB,fitP,ě,ĭ]
 unfold w8;rw[show mG J (.int a)=Ā (.int a) from rfl,m];dsimp[vL];rw[RC ⟨rfl,O⟩]
 have:(w.map ř).any (λy=>ġ y (.int a))=decide (a∈w):=by
  apply SR.mpr;simp[ġ]
 rw[this]
theorem K2{w:List Ć}{p:Ć}(h:w.length<=100):cq (jO w) (.tup [.int p]) J=.ok (jO (w++[p])) J:=by
 unfold cq;dsimp only;rw[RC]
 ·show _=aj.ok (D.tup ((w++[p]).map D.int)) J;rw[U1];rfl
 ·rw[Us];exact RH (by simp;lia) cj
theorem rQ{w:List Ć}(h:w≠[]):bN (jO w) (.int (-1)) J=.ok (.int (du w)) J:=by
 obtain⟨v,p,rfl⟩:∃v p,w=v++[p]:=⟨w.dropLast,w.getLast h,(WL h).symm⟩;rw[oA];refine jX ?_;unfold atI vk;simp only[U1,SH,Uh,Uq,Us,Uu,UU];rw[RE 0e1,RC 0e1];rw[show ((-1:Ć)+((v.length+(0+1):ă):Ć)).toNat=(v.map D.int).length from by rw[Us];lia];show (v.map D.int++[D.int p])[(v.map D.int).length]?=_;rw[TU (Rx _),G_];rfl
theorem yo{w:List Ć}(h:w≠[]):bN (jO w) (.int 0) J=.ok (.int (vg w)) J:=by
 cases w with
 |nil=>exact absurd rfl h
 |cons a r=>exact dh
theorem IV:bc 0 ((m:Ć)).toNat=(rg m).map D.int:=by
 simp[bc,rg]
end _w
namespace _v
section
variable{adj adj':(Ć->Ć->Prop)}{D:Ć->Prop}{p:Ć}
theorem R.add{q:Ć}{n:ă}(h:R adj p n q):∀{k:ă}{r:Ć},R adj q k r->R adj p (n+k) r
 |0,r,e=>by have this:=e;subst this;exact h
 |k+1,r,e=>by
  rcases e with e|⟨t,E,m⟩
  ·exact .inl (R.add h e)
  ·exact .inr ⟨t,E,R.add h m⟩
theorem R.split{n:ă}:∀{k:ă}{q:Ć},R adj p (n+k) q->∃r,R adj p n r/\R adj r k q
 |0,q,h=>⟨q,h,rfl⟩
 |k+1,q,h=>by
  rcases h with h|⟨t,H,c⟩
  ·refine bb (R.split h) λr a b=>?_;exact⟨r,a,.inl b⟩
  ·refine bb (R.split c) λr a b=>?_;exact⟨r,a,.inr ⟨t,H,b⟩⟩
theorem R.one{a b:Ć}(h:adj a b):R adj a 1 b:=.inr ⟨a,h,rfl⟩
end
end _v
namespace _w
open PySem _l _r _v
theorem A3:∀{xs ys:0e2},xs.Pairwise (λa b=>oX a<oX b)->ys.Pairwise (λa b=>oX a<oX b)->(∀k,k∈xs↔k∈ys)->xs=ys
 |[],ys,_,_,h=>by
  cases ys with
  |nil=>rfl
  |cons y ys=>exact absurd ((h y).mpr Ta) UN
 |x::xs,[],_,_,h=>absurd ((h x).mp Ta) UN
 |x::xs,y::ys,d,c,h=>by
  obtain⟨B,G⟩:=Ve.mp d;obtain⟨α,W⟩:=Ve.mp c
  have e:x=y:=by
   rcases Td.mp ((h x).mp Ta) with z|z
   ·exact z
   ·rcases Td.mp ((h y).mpr Ta) with u | u
    ·exact u.symm
    ·have:=α x z;have:=B y u;lia
  subst e;congr 1;refine A3 G W λk=>?_;constructor
  ·intro H;rcases Td.mp ((h k).mp (Tb _ H)) with z|z
   ·subst z;have:=B k H;lia
   ·exact z
  ·intro H;rcases Td.mp ((h k).mpr (Tb _ H)) with z|z
   ·subst z;have:=α k H;lia
   ·exact z
theorem uF{d':D}{m m':Ć}{ks':0e2}(h:cV d m ks)(h':cV d' m' ks')(e:∀a b:Ć,[a,b]∈ks↔[a,b]∈ks'):ks=ks':=by
 refine A3 h.2.2.2.1 h'.2.2.2.1 λk=>?_;constructor
 ·intro H;obtain⟨a,b,rfl,_⟩:=h.2.2.2.2 k H;exact(e a b).mp H
 ·intro H;obtain⟨a,b,rfl,_⟩:=h'.2.2.2.2 k H;exact(e a b).mpr H
abbrev aQ(m:ă)(ks:0e2):D:=.tup [.int m,.tup 1e5]
abbrev GW(m:ă)(ks:0e2):Prop:=cV 3e7 m ks
open Classical in
def DA(m:ă)(ks:0e2)(k:ă):List (List Ć):=prs.filter λx=>decide (x.getD 1 0<(m:Ć)/\R (oZ ks) (x.getD 0 0) k (x.getD 1 0))
open Classical in
theorem nI{k:ă}{a b:Ć}(M:m<=6):[a,b]∈DA m ks k↔(0<=a/\a<b/\b<(m:Ć)/\R (oZ ks) a k b):=by
 unfold DA;rw[S8,Db];constructor
 ·rintro ⟨H, h, f⟩
  obtain⟨c,d,e,z,K,I⟩:=dX H;cases e;exact⟨z,K,h,f⟩
 ·rintro ⟨H, h, f, g⟩
  exact⟨rG H h 0e1,f,g⟩
theorem xK{k:ă}(e:1<=m)(M:m<=6):GW m (DA m ks k):=by
 refine⟨rfl,by lia,by lia,eY.filter _,λx d=>?_⟩;refine aJ (dX (S8.mp d).1) λa b z g K I=>?_;subst z;refine lB ((nI M).mp d) λH c h _=>?_;exact⟨a,b,rfl,H,c,h⟩
section
theorem GW.m0(h:GW m ks):1<=m:=by have:=h.2.1;lia
theorem GW.m6(h:GW m ks):m<=6:=by have:=h.2.2.1;lia
theorem LR(h:GW m ks){a b:Ć}(e:oZ ks a b):oZ ks b a:=(m5 h.2.2.2.2).mpr ((m5 h.2.2.2.2).mp e).symm
theorem Qv(h:GW m ks){a b:Ć}(e:oZ ks a b):(0<=a/\a<(m:Ć))/\(0<=b/\b<(m:Ć)):=m3 h.2.2.2.2 e
end
end _w
namespace _v
def nq(i:ă)(k:List Ć)(p:Ć):List (Ć×ă):=if vg k=p then [(du k,i)] else if du k=p then [(vg k,i)] else []
def pT:ă->List (List Ć)->Ć->List (Ć×ă)
 |_,[],_=>[]
 |i,k::s,p=>nq i k p++pT (i+1) s p
theorem tX:∀(ks:0e2)(i:ă)(k:List Ć)(p:Ć),pT i (ks++[k]) p=pT i ks p++nq (i+ks.length) k p
 |[],i,k,p=>by simp[pT]
 |x::ks,i,k,p=>by
  simp[WM,pT,tX ks (i+1) k p,Va,Uu];rw[show i+1+ks.length=i+(ks.length+1) from RJ _ _ _]
theorem B0(i:ă)(k:List Ć)(p:Ć):(nq i k p).length<=1:=by
 unfold nq;split
 ·exact Rx _
 ·split <;> simp
theorem rD:∀(ks:0e2)(i:ă)(p:Ć),(pT i ks p).length<=ks.length
 |[],_,_=>by simp[pT]
 |k::ks,i,p=>by
  have:=rD ks (i+1) p;have:=B0 i k p;simp[pT,Uq,Uu]
  lia
abbrev Wy:=List Ć×ă
def jz(ks:0e2)(w:Wy):List Wy:=((pT 0 ks (du w.1)).filter λe=>!decide (e.1∈w.1)).map λe=>(w.1++[e.1],w.2 ||| 2^e.2)
def jQ(ks:0e2)(W:List Wy):List Wy:=W.flatMap (jz ks)
def W0(m:ă):List Wy:=(rg m).map λp=>([p],0)
def oV(W:List Wy):List Wy:=(W.filter λw=>decide (vg w.1<du w.1)).map λw=>([vg w.1,du w.1],w.2)
def EV(m:ă)(ks:0e2):List Wy:=oV (jQ ks (W0 m))++oV (jQ ks (jQ ks (W0 m)))
theorem C7(ks:0e2)(w:Wy):(jz ks w).length<=ks.length:=by
 unfold jz;rw[Us];exact RH (WN _ _) (rD _ _ _)
theorem jn(ks:0e2):∀W:List Wy,(jQ ks W).length<=W.length*ks.length
 |[]=>by simp[jQ]
 |w::W=>by
  have H:=C7 ks w;have c:=jn ks W;unfold jQ at c⊢;rw[WH,Uq,Uu]
  lia
noncomputable def iI(es:List Wy)(k:List Ć):List ă:=(es.filter λe=>decide (e.1=k)).map (·.2)
theorem uq(es:List Wy)(k k':List Ć)(c:ă):iI (es++[(k,c)]) k'=if k=k' then iI es k'++[c] else iI es k':=by
 unfold iI;rw[WO,U1];by_cases h:k=k'
 ·simp[h]
 ·simp[h]
theorem cR{es:List Wy}:c∈iI es k↔(k,c)∈es:=by
 simp[iI]
end _v
namespace _w
open PySem _l _r _v
structure NL(a:ă)(bs:List ă)(f:ă->List D)(M:az):Prop where
 out:M[a]?=Ā (.lst (bs.map D.obj))
 nd:bs.Nodup
 ne:a∉bs
 at':∀(i:ă) b,bs[i]?=Ā b->M[b]?=Ā (.lst (f i))
section
variable{a:ă}{bs:List ă}{f:ă->List D}
theorem NL.keep{M':az}(h:NL a bs f M)(k:∀j,j=a\/j∈bs->∀o,M[j]?=Ā o->M'[j]?=Ā o):NL a bs f M':=
 ⟨k a (.inl rfl) _ h.out,h.nd,h.ne,λi b B=>k b (.inr (T1 B)) _ (h.at' i b B)⟩
theorem NL.app(h:NL a bs f M):NL a bs f (M++g):=h.keep λj _ o e=>aC e
theorem NL.ext{f':ă->List D}(h:NL a bs f M)(e:∀i,i<bs.length->f i=f' i):NL a bs f' M:=
 ⟨h.out,h.nd,h.ne,λi b B=>by rw[<- e i (Se.mp B).1];exact h.at' i b B⟩
theorem NL.ix{p:Ć}(h:NL a bs f M)(d:0<=p)(H:p<bs.length):∃b,bs[p.toNat]?=Ā b/\bN (.obj a) (.int p) M=.ok (.obj b) M/\M[b]?=Ā (.lst (f p.toNat)):=by
 have L:p.toNat<bs.length:=by lia
 refine⟨bs[p.toNat],Vw L,fE h.out ?_,h.at' _ _ (Vw L)⟩
 simp_all[atI,jV]
noncomputable def vn(f:ă->List D)(i:ă)(d:D):ă->List D:=λj=>if j=i then f j++[d] else f j
theorem NL.push{p:Ć}(h:NL a bs f M)(e:0<=p)(g:p<bs.length)(L:(f p.toNat).length<=100000):∃b M',bs[p.toNat]?=Ā b/\bN (.obj a) (.int p) M=.ok (.obj b) M/\pU (.obj b) M=ą/\bI (.obj b) [d] M=.ok .non M'/\NL a bs (vn f p.toNat d) M'/\M'=M.set b (.lst (f p.toNat++[d])):=by
 refine bo (h.ix e g) λb B E m=>?_;refine⟨b,M.set b (.lst (f p.toNat++[d])),B,E,?_,?_,?_,rfl⟩
 ·unfold pU;dsimp only;rw[m]
 ·unfold bI;simp only[m];rw[RC (R8 L 0e3)]
 ·have l := (Se.mp m).1;refine⟨?_,h.nd,h.ne,λi c H=>?_⟩
  ·rw[Th (λz=>h.ne (by rw[<- z];exact T1 B))];exact h.out
  ·unfold vn;by_cases I:i=p.toNat
   ·simp_all
   ·rw [RE I, Th]
    ·exact h.at' i c H
    ·intro z;subst z;obtain⟨l1,E⟩:=Se.mp B;obtain⟨l2,m⟩:=Se.mp H;exact I ((Ru h.nd).mp (m.trans E.symm))
end
theorem qx{src:kb}{g:MG}{e:ME}{J:az}(h:∀s,bf src (J++s))(N:∀x ρ M,∃ρ',g x ρ M=.ok ρ' M)(n:∀ρ M,e ρ M=.ok (.obj M.length) (M++[.lst []])) :
  ∀(xs:List D)(k:ă)(ρ:Ro),k+xs.length<=1000->compLoop src 3e9 g a9 e xs ρ (J++.lst ((List.range k).map λi=>D.obj (J.length+1+i))::List.replicate k (.lst []))=.ok 1e3 (J++.lst ((List.range (k+xs.length)).map λi=>D.obj (J.length+1+i))::List.replicate (k+xs.length) (.lst []))
 |[],k,ρ,L=>by
  unfold compLoop;rw[RC (h _)];rfl
 |x::xs,k,ρ,L=>by
  simp at L;obtain⟨ρ',E⟩:=N x ρ (J++.lst ((List.range k).map λi=>D.obj (J.length+1+i))::List.replicate k (.lst []));unfold compLoop;rw[RC (h _),E];simp only[af,aa];rw[show a9 ρ' (J++.lst ((List.range k).map λi=>D.obj (J.length+1+i))::List.replicate k (.lst []))=.ok ą _ from rfl];simp only[af,aa,T8];rw[n];simp only[af,aa];rw[Va,WM,fU (by rw[Us,UT];exact Ry (Ry (Rz (RA _ _)) L) cj)];simp only[aa,af];have I:=qx h N n xs (k+1) ρ' (RH (RI (RJ _ _ _)) L);rw[show List.replicate k (O.lst [])++[.lst []]=List.replicate (k+1) (.lst []) from by rw[List.replicate_succ']]
  have l:List.length (J++O.lst ((List.range k).map λi=>D.obj (J.length+1+i))::List.replicate k (O.lst []))=J.length+1+k:=by
   simp;exact R9 (RJ _ _ _)
  rw[l,show (List.range k).map (λi=>D.obj (J.length+1+i))++[D.obj (J.length+1+k)]=(List.range (k+1)).map λi=>D.obj (J.length+1+i) from by rw[WG,U1];rfl];rw[I,Uu,show k+1+xs.length=k+(xs.length+1) from RJ _ _ _]
theorem rO:NL 3e9 ((List.range n).map λi=>J.length+1+i) (λ_=>[]) (J++.lst ((List.range n).map λi=>D.obj (J.length+1+i))::List.replicate n (.lst [])):=by
 refine⟨by rw[av,UR];rfl,?_,?_,λi b B=>?_⟩
 ·refine Vg _ (λx y h => ?_) (Rw)
  lia
 ·intro z;obtain⟨i,_,e⟩:=SY.mp z
  lia
 ·rw [SS] at B;by_cases I:i<n
  ·rw[V0 I]at B;simp at B;subst B;rw[TU 0e1,show J.length+1+i-J.length=i+1 from by lia,List.getElem?_cons_succ,TV,RC I]
  ·rw[SU (by simpa using I)]at B;cases B
theorem lU{g:MG}{e:ME}(O:∀s,bf src (J++s))(N:∀x ρ M,∃ρ',g x ρ M=.ok ρ' M)(n:∀ρ M,e ρ M=.ok (.obj M.length) (M++[.lst []]))(L:xs.length<=1000):
  compLoop src 3e9 g a9 e xs ρ (J++[.lst []])=.ok 1e3 (J++.lst ((List.range xs.length).map λi=>D.obj (J.length+1+i))::List.replicate xs.length (.lst [])):=by
 have:=qx O N n xs 0 ρ (RH (RI (UP _ _)) L);simpa using this
theorem m2(ρ:Ro)(M:az):d4 aw ρ M=.ok (.obj M.length) (M++[.lst []]):=by
 rfl
noncomputable def eD(e:Ć×ă):D:=.tup [.int e.1,.int ((2^e.2:ă):Ć)]
theorem nJ(h:i<=15):nu (.int 1) (.int (i:Ć)) M=.ok (.int ((2^i:ă):Ć)) M:=by
 rw[show nu (.int 1) (.int (i:Ć)) M=.ok (.int (1*2^(i:Ć).toNat)) M from iS ⟨WC _,by lia,by decide⟩,Ć.one_mul];congr 2
section
variable{A:ă}{bs:List ă}
abbrev GA(m:ă)(ks:0e2)(A:ă)(O r t:Option D):Ro:=[Ā 3e7,Ā (.int m),Ā (.tup 1e5),Ā (.obj A),O,r,t]
abbrev OV:MG:=cm 2 (aS (ah 4) (aS (cm 2 (aS (ah 5) (aS (ah 6) (cn)))) (cn)))
abbrev wY(d:0e2):ă->List D:=λp=>(pT 0 d (p:Ć)).map eD
theorem Ba{p:Ć}{r:Ro}{e1 e2:ă}{f:ă->List D}(h:NL A bs f M)(P:0<=p)(a:p<bs.length)(L:(f p.toNat).length<=100)(I:i<=15)(r3:r[3]?=Ā (Ā (.obj A)))(R:r[e1]?=Ā (Ā (.int p)))(Q:r[e2]?=Ā (Ā (.int q)))(r4:r[4]?=Ā (Ā (.int i))):
  ∃b,bs[p.toNat]?=Ā b/\fw (oW bI (au bN (ai 3) (ai e1)) (ag (bJ (ag (ai e2) (ag (au nu 2e2 (ai 4)) (aw)))) (aw))) r M=.next r (M.set b (.lst (f p.toNat++[eD (q,i)])))/\NL A bs (vn f p.toNat (eD (q,i))) (M.set b (.lst (f p.toNat++[eD (q,i)]))):=by
 obtain⟨b,g,B,x,G,k,X,c⟩:=h.push P a (RH L (Vj _ _));subst c;refine⟨b,B,?_,X⟩;have v:∀{j:ă}{d:D}(N:az),r[j]?=Ā (Ā d)->ai j r N=.ok d N:=λN e=>by unfold ai;rw[e]
 simp[jo,v M r3,v M R,x,v M Q,v M r4,nJ I]
 simp_all[sizeLine,eD]
theorem ER{dn:0e2}{a b:Ć}{o5 o6:Option D}(h:NL A bs (wY dn) M)(B:bs.length=m)(k:0<=a/\a<b/\b<m)(L:dn.length<=15):
  ∃ρ1 M',OV (.tup [.int (dn.length:Ć),ax [a,b]]) (GA m ks A o4 o5 o6) M=.ok ρ1 M/\ee ρ1 M=.next (GA m ks A (Ā (.int dn.length)) (Ā (.int a)) (Ā (.int b))) M'/\NL A bs (wY (dn++[[a,b]])) M'/\M'.length=M.length/\(∀j,j∉bs->M'[j]?=M[j]?):=by
 have l1:∀p:ă,(wY dn p).length<=15:=λp=>by
  grind [rD]
 refine bo (Ba (r:=GA m ks A (Ā (.int dn.length)) (Ā (.int a)) (Ā (.int b))) (e1:=5) (e2:=6) h k.1 0e1 (RH (l1 _) 0e3) L rfl rfl rfl rfl) λb1 H E d=>?_
 obtain⟨b2,n,e,f⟩:=Ba (r:=GA m ks A (Ā (.int dn.length)) (Ā (.int a)) (Ā (.int b))) (e1:=6) (e2:=5) d (V6 k.1 (Tx k.2.1)) 0e1 (by
  grind [vn]) L rfl rfl rfl rfl
 refine⟨GA m ks A (Ā (.int dn.length)) (Ā (.int a)) (Ā (.int b)),_,rfl,?_,f.ext λi l=>?_,by simp,λj μ=>?_⟩
 ·unfold ee;rw[aK,E,aE,e]
 ·have : pT 0 (dn ++ [[a, b]]) (i : Ć) = pT 0 dn i ++ nq dn.length [a, b] i := by simp [tX]
  unfold wY vn;dsimp only;rw[this,U1];have g:(a.toNat:Ć)=a:=Wz k.1;have N:(b.toNat:Ć)=b:=Wz (V6 k.1 (Tx k.2.1));unfold nq;rw[show vg [a,b]=a from rfl,show du [a,b]=b from rfl];by_cases c:i=a.toNat
  ·have : a = (i : Ć) := by lia
   rw[RE (show ¬ i=b.toNat by lia),RC c,RC this];rfl
  ·have E : ¬ a = (i : Ć) := by lia
   by_cases I:i=b.toNat
   ·have e : b = (i : Ć) := by lia
    rw[RC I,RE c,RE E,RC e];rfl
   ·have e : ¬ b = (i : Ć) := by lia
    rw[RE I,RE c,RE E,RE e];simp
 ·rw[Th (show b2≠j from λz=>μ (by rw[<- z];exact T1 n)),Th (show b1≠j from λz=>μ (by rw[<- z];exact T1 H))]
theorem xS{all:List D}:∀(rs dn:0e2)(M:az)(o4 o5 o6:Option D),NL A bs (wY dn) M->bs.length=m->(∀k∈rs,jR m k)->dn.length+rs.length<=15 ->
  ∃M' p4 p5 p6,bH (.fix all) OV ee (fy dn.length (rs.map ax)) (GA m ks A o4 o5 o6) M=.next (GA m ks A p4 p5 p6) M'/\NL A bs (wY (dn++rs)) M'/\M'.length=M.length/\(∀j,j∉bs->M'[j]?=M[j]?)
 |[],dn,M,o4,o5,o6,h,B,H,L=>by
  refine⟨M,o4,o5,o6,?_,by rw[TC];exact h,rfl,λ_ _=>rfl⟩;simp[fy,bH,RC (show bf (.fix all) _ from trivial)]
 |k::rs,dn,M,o4,o5,o6,h,B,H,L=>by
  simp at L;refine aJ (H k 1e1) λa b v e f i=>?_;subst v;obtain⟨l,c,z,K,I,g,d⟩:=ER h B ⟨e,f,i⟩ (RH (RA _ _) L);obtain⟨M',p4,p5,p6,q,G,μ,Q⟩:=xS rs (dn++[[a,b]]) c (Ā (.int dn.length)) (Ā (.int a)) (Ā (.int b)) I B (λx X=>H x (by simp[X])) (by simp;exact RH (RI (RJ _ _ _)) L);refine⟨M',p4,p5,p6,?_,by rw[Va]at G;exact G,μ.trans g,λj r=>(Q j r).trans (d j r)⟩;simp[fy];unfold bH;rw[RC (show bf (.fix all) _ from trivial),z,ae,K];rw[Uq]at q;exact q
theorem wg(h:GW m ks):∃bs M',h7 [aQ m ks] J=.ok 1e3 M'/\NL 3e9 bs (wY ks) M'/\bs.length=m/\(∀b∈bs,J.length<b)/\∃g,M'=J++g:=by
 have H:=h.m6;have L:=ed h;let bs:List ă:=(List.range m).map λi=>J.length+1+i
 let c:az:=J++.lst ((List.range m).map λi=>D.obj (J.length+1+i))::List.replicate m (.lst [])
 have n:NL 3e9 bs (wY []) c:=rO;have l:bs.length=m:=by simp[bs]
 obtain⟨M',p,P,d,q,G,μ,Q⟩:=xS ks [] c Ă Ă Ă n l h.2.2.2.2 (by simpa using L)
 have s:∀b∈bs,J.length<b:=λb B=>by
  grind
 refine⟨bs,M',?_,G,l,s,?_⟩
 ·unfold h7;rw[bW,show (Ā 3e7::List.replicate (7-1) Ă:Ro)=[Ā 3e7,Ă,Ă,Ă,Ă,Ă,Ă] from rfl];unfold oM;rw[aK,aT,ak,ae];rw[show cm 2 (aS (ah 1) (aS (ah 2) (cn))) 3e7 [Ā 3e7,Ă,Ă,Ă,Ă,Ă,Ă] J=.ok [Ā 3e7,Ā (.int m),Ā (.tup 1e5),Ă,Ă,Ă,Ă] J from rfl];simp only[ae,aE];rw[aK,aT,br,bu];simp[ay,aB,aq,ak,aa];rw[bY 0e1 0e1,aa,aW,lU (g:=ah 0) (e:=k8) (src:=.fix (bc 0 ((m:Ć)).toNat)) (J:=J) (λ_=>trivial) (λx a M=>⟨_,rfl⟩) (λa M=>m2 a M) (by unfold bc;rw[Us,UT];lia)];rw[show (bc 0 ((m:Ć)).toNat).length=m from by simp[bc]];simp only[ae,af,bG,aE];rw[aK,cP,bu];simp only[ay,aB,aq,ak,aa,af];rw[show ∀N,mn [.tup 1e5] N=.ok (.fix (fy 0 1e5)) N from λ_=>rfl,ae,aW];rw[show bH (.fix (fy 0 1e5)) OV ee (fy 0 1e5) (GA m ks 3e9 Ă Ă Ă) c=_ from q,aE,cw];simp[gK]
 ·refine ⟨M'.drop 3e9, ?_⟩
  have:M'.take 3e9=J:=by
   apply Sf;intro j;by_cases r:j<J.length
   ·rw[TY r,Q j (λz=>by have:=s j z;lia)];show (J++_)[j]?=_;rw[TX r]
   ·rw[SU (by rw[TQ];lia),SU (R0 r)]
  grind [List.take_append_drop]
end
end _w
namespace _v
open PySem
theorem Js(a b:ă):Builtin.bitOr (a:Ć) (b:Ć)=((a ||| b:ă):Ć):=by
 unfold Builtin.bitOr Builtin.bitAnd Builtin.bitNot;have c:decide (0 <= -(b:Ć)-1)=ć:=RD 0e1;simp only[(show decide (0 <= -(a:Ć)-1)=ć from RD 0e1),c];rw[(show (-(-(a:Ć)-1)-1).toNat=a by lia),(show (-(-(b:Ć)-1)-1).toNat=b by lia)]
 lia
theorem yF(a:ă):Builtin.bitAnd (a:Ć) 1=((a%2:ă):Ć):=by
 unfold Builtin.bitAnd;show ((a &&& 1:ă):Ć)=_;rw[ă.and_one_is_mod]
end _v
namespace _w
open PySem _l _r _v
def qQ(w:Wy):D:=.tup [jO w.1,.int ((w.2:ă):Ć)]
theorem xc{a b:ă}:GE (.int (a:Ć)) (.int (b:Ć)) M=.ok (.int ((a ||| b:ă):Ć)) M:=by
 rw[show GE (.int (a:Ć)) (.int (b:Ć)) M=.ok (.int (Builtin.bitOr (a:Ć) (b:Ć))) M from G6,Js]
structure pj(m:ă)(w:Wy):Prop where
 ne:w.1≠[]
 len:w.1.length<=3
 pl:∀p∈w.1,0<=p/\p<(m:Ć)
theorem uw{w:List Ć}(h:w≠[]):du w∈w:=by
 obtain⟨v,p,rfl⟩:∃v p,w=v++[p]:=⟨w.dropLast,w.getLast h,(WL h).symm⟩;rw[oA];simp
theorem Kk{w:List Ć}(h:w≠[]):vg w∈w:=by
 cases w with
 |nil=>exact absurd rfl h
 |cons a r=>simp[vg]
theorem lV{U V:Type}{f:U->V}:∀l:List U,(l.flatMap λe=>[f e])=l.map f
 |[]=>rfl
 |x::l=>by rw[WH,lV l];rfl
section
variable{A:ă}{bs:List ă}
theorem Ig(h:(∀k∈ks,jR m k)):∀(i:ă)(p:Ć),∀e∈pT i ks p,(0<=e.1/\e.1<(m:Ć))/\e.2<i+ks.length:=by
 induction ks with
 |nil=>intro i p e n;cases n
 |cons k r I=>
  intro i p e n;simp only[pT,Te]at n;rcases n with n|n
  ·obtain ⟨a, b, rfl, H, c, f⟩ := h k 1e1;unfold nq at n;rw[show vg [a,b]=a from rfl,show du [a,b]=b from rfl]at n;split at n
   ·simp only[UM]at n;subst n;refine⟨⟨?_,?_⟩,?_⟩ <;> simp <;> lia
   ·split at n
    ·simp only[UM]at n;subst n;refine⟨⟨?_,?_⟩,?_⟩ <;> simp <;> lia
    ·cases n
  ·obtain⟨H,c⟩:=I (λx d=>h x (by simp[d])) (i+1) p e n;exact⟨H,by simp;lia⟩
theorem Bx(K:(∀k∈ks,jR m k)){W:List Wy}(a:∀w∈W,pj m w/\w.1.length<=2):∀w∈jQ ks W,pj m w:=λw h=>by
 unfold jQ at h;obtain⟨v,V,h⟩:=WA.mp h;unfold jz at h;obtain⟨e,n,rfl⟩:=SY.mp h;have l:=Ig K 0 _ e (S8.mp n).1;obtain⟨⟨b,c,H⟩,f⟩:=a v V;refine⟨by simp,by simp;lia,λp d=>?_⟩;rcases Te.mp d with d|d
 ·exact H p d
 ·rw[UM.mp d];exact l.1
theorem BP{w:Wy}{a:List D}{o2:Option D}(h:NL A bs (wY ks) M)(r:bs.length=m)(W:pj m w)(L:a.length+(jz ks w).length<=sizeLine):
  ∃ρ2,(∃o0 o1 o2 o3,ρ2=[o0,o1,o2,o3,Ā (.obj A)])/\dm M.length [Ā (jO w.1),Ā (.int ((w.2:ă):Ć)),o2,o3,Ā (.obj A)] (M++[.lst a])=.ok ρ2 (M++[.lst (a++(jz ks w).map qQ)]):=by
 have p:=W.pl _ (uw W.ne);refine bo (h.ix p.1 0e1) λb c n E=>?_
 have s:wY ks (du w.1).toNat=(pT 0 ks (du w.1)).map eD:=by
  unfold wY;rw[Wz p.1]
 rw[s]at E
 obtain⟨i,⟨o,l,j⟩,q⟩:=kU (en:=eD) (src:=.own b ((pT 0 ks (du w.1)).map eD)) (g:=cm 2 (aS (ah 2) (aS (ah 3) (cn)))) (t:=e5) (fb:=nE e7) (J1:=M)
  (k:=λe=>[qQ (w.1++[e.1],w.2 ||| 2^e.2)]) (λf=>∃o2 o3,f=[Ā (jO w.1),Ā (.int ((w.2:ă):Ć)),o2,o3,Ā (.obj A)])
  (λa=>aC E) (acc:=a) (ρ:=[Ā (jO w.1),Ā (.int ((w.2:ă):Ć)),o2,o3,Ā (.obj A)]) ⟨_,_,rfl⟩
  (by
   unfold jz at L;rw[Us]at L;rw[lV,Us]
   exact L)
  (λx X a f hR => by
   obtain⟨o2,o3,rfl⟩:=hR;refine⟨[Ā (jO w.1),Ā (.int ((w.2:ă):Ć)),Ā (.int x.1),Ā (.int ((2^x.2:ă):Ć)),Ā (.obj A)],rfl,?_,λ_=>⟨_,_,rfl⟩,λ_ L=>⟨[Ā (jO w.1),Ā (.int ((w.2:ă):Ć)),Ā (.int x.1),Ā (.int ((2^x.2:ă):Ć)),Ā (.obj A)],⟨_,_,rfl⟩,?_⟩⟩
   ·unfold e5;simp[cc,aG,aq,ak,aa,NQ,T8,bC]
   ·refine De ?_ L;unfold e7;simp only[bV,ay,aB,aG,aq,ak,aa,Uu];rw[RC 0e3];simp only[aa,af];rw[K2 (by have:=W.len;exact RH this (Vj _ _))];simp only[aa,af,xc];rw[RC (show ([D.tup _,D.int _]:List D).length<=sizeLine from l2)]
    rfl)
 refine⟨i,⟨_,_,_,_,j⟩,?_⟩;unfold dm nN;simp only[bT,aG,aq,ak,jH,bg,BF,aa,af];rw[rQ W.ne,aa]
 have d:bN (.obj A) (.int (du w.1)) (M++[O.lst a])=.ok (.obj b) (M++[O.lst a]):=by
  obtain⟨B,H,d,_⟩:=(h.app).ix p.1 0e1;rw[c]at H;cases H;exact d
 simp_all[bP,aC,jz,lV]
theorem D7{V:ă}{W:List Wy}{r0 r1 r2 r5 r6 r7:Option D}(h:NL A bs (wY ks) M)(H:bs.length=m)(hV:M[V]?=Ā (.lst (W.map qQ)))(c:∀w∈W,pj m w)(L:W.length*ks.length<=10000) :
  iU (dz (ai 4)) [Ă,Ă,Ă,Ă,Ā 3] (cm 2 (aS (ah 0) (aS (ah 1) (cn)))) (a9) (dm) [r0,r1,r2,Ā (.obj A),Ā (.obj V),r5,r6,r7] M=.ok (.obj M.length) (M++[.lst ((jQ ks W).map qQ)]):=by
 obtain⟨i,_,E⟩:=kU (en:=qQ) (src:=.own V (W.map qQ)) (g:=cm 2 (aS (ah 0) (aS (ah 1) (cn)))) (t:=a9) (J1:=M)
  (λe=>∃O b o B,e=[O,b,o,B,Ā (.obj A)])
  (λa=>aC hV) (ρ:=[Ă,Ă,Ă,Ă,Ā (.obj A)]) ⟨_,_,_,_,rfl⟩
  (by
   rw[fA,UU,Vc,show (W.flatMap λw=>(jz ks w).map qQ)=(jQ ks W).map qQ from by unfold jQ;rw[List.map_flatMap],Us]
   exact RH (jn ks W) (RH L 0e3))
  (λx d a e hR => by
   obtain⟨O,b,o,B,v⟩:=hR;subst v;refine⟨[Ā (jO x.1),Ā (.int ((x.2:ă):Ć)),o,B,Ā (.obj A)],rfl,rfl,λz=>(by cases z),λ_ L=>?_⟩;rw[Us]at L
   exact BP h H (c x d) L)
 rw[fA,show (W.flatMap λw=>(jz ks w).map qQ)=(jQ ks W).map qQ from by unfold jQ;rw[List.map_flatMap]]at E
 simp_all[iU,bP]
end
noncomputable abbrev nD(c:ă):D:=.int ((c:ă):Ć)
structure DR(F:ă)(es:List Wy)(kvs:(List (List Ć×ă)))(ep:ă)(M:az):Prop where
 at':M[F]?=Ā (.dct kvs ep)
 nd:(kvs.map (·.2)).Nodup
 kn:(kvs.map 4e2).Nodup
 ne:F∉kvs.map (·.2)
 val:∀p∈kvs,M[p.2]?=Ā (.lst ((iI es p.1).map nD))
 key:∀k,k∈kvs.map 4e2↔∃c,(k,c)∈es
section
variable{F:ă}{es:List Wy}
theorem DR.keep{M':az}(h:(DR F es kvs ep M))(k:∀j,j=F\/j∈kvs.map (·.2)->∀o,M[j]?=Ā o->M'[j]?=Ā o):DR F es kvs ep M':=
 ⟨k F (.inl rfl) _ h.at',h.nd,h.kn,h.ne,λp d=>k p.2 (.inr (Vi d)) _ (h.val p d),h.key⟩
theorem DR.app(h:(DR F es kvs ep M)):DR F es kvs ep (M++g):=h.keep λj _ o e=>aC e
theorem DR.new:DR M.length [] [] 0 (M++.dct [] 0::g):=⟨av,.nil,.nil,by simp,λp d=>(by cases d),λk=>(by simp)⟩
theorem jr(h:(kvs.map 4e2).Nodup)(m:(k,j)∈kvs):DG kvs k=Ā j:=by
 unfold DG
 induction kvs with
 |nil=>cases m
 |cons x r i=>
  grind
theorem Dn(h:k∉kvs.map 4e2):DG kvs k=Ă:=by
 unfold DG
 grind
theorem DR.event(h:(DR F es kvs ep M))(L:kvs.length<=1000)(u:es.length<=10000):∃kvs' ep' M2 M' j,DE (.obj F) [jO k,.obj M.length] (M++[.lst []])=.ok (.obj j) M2/\pU (.obj j) M2=ą/\bI (.obj j) [nD c] M2=.ok .non M'/\DR F (es++[(k,c)]) kvs' ep' M' /\
  (∀i,i≠F->i∉kvs.map (·.2)->i<M.length->M'[i]?=M[i]?)/\(∀i∈kvs'.map (·.2),i∈kvs.map (·.2)\/i=M.length)/\M'.length=M.length+1:=by
 have hF:F<M.length:=(Se.mp h.at').1
 have l:∀k,(iI es k).length<=10000:=λk=>by
  unfold iI;rw[Us];exact RH (WN _ _) u
 have app:∀{N:az}{j:ă}{S:List D},N[j]?=Ā (.lst S)->S.length<=10000->pU (.obj j) N=ą/\bI (.obj j) [nD c] N=.ok .non (N.set j (.lst (S++[nD c]))):=λ{N j S} e X=>by
  constructor
  ·unfold pU;dsimp only;rw[e]
  ·unfold bI;dsimp only;rw[e];dsimp only;rw[RC (R8 X 0e3)]
 have b:(M++[O.lst []])[F]?=Ā (.dct kvs ep):=aC h.at';by_cases H:k∈kvs.map 4e2
 ·obtain ⟨p, d, e⟩ := SY.mp H;obtain⟨K,j⟩:=p;subst e;have μ:M[j]?=Ā (.lst ((iI es K).map nD)):=h.val _ d;have v:j<M.length:=(Se.mp μ).1;obtain⟨f,A⟩:=app (N:=M++[O.lst []]) (j:=j) (aC μ) (by rw[Us];exact l _);have hjF:j≠F:=λz=>h.ne (by rw[<- z];exact SY.mpr ⟨_,d,rfl⟩);refine⟨kvs,ep,_,_,j,?_,f,A,⟨?_,h.nd,h.kn,h.ne,λp n=>?_,λq=>?_⟩,λi s t o=>?_,λi I=>.inl I,by simp⟩
  ·unfold DE;dsimp only;rw[b,gL];dsimp only;rw[RC L,jr h.kn d]
  ·rw[Th hjF];exact b
  ·rw [uq];by_cases e:K=p.1
   ·have:p.2=j:=by
     have E:=jr h.kn n;have m:=jr h.kn d;rw[e]at m;rw[E]at m;cases m;rfl
    rw[RC e,this,Tg (by simp;lia),e,U1];rfl
   ·rw [RE e, Th (λz => e ?_)]
    ·exact aC (h.val p n)
    ·obtain ⟨l1, E⟩ := VU d;obtain⟨l2,m⟩:=VU n;obtain⟨g,E⟩:=E;obtain⟨T,m⟩:=m
     have:l1=l2:=by
      refine(Ru (xs:=kvs.map (·.2)) (h₀:=by simpa using g) (h₁:=by simpa using T) h.nd).mp ?_;simp[E,m,z]
     subst this;rw[E]at m;rw[<- m]
  ·rw [h.key q];constructor
   ·rintro⟨a,C⟩;exact⟨a,Tf _ C⟩
   ·rintro ⟨a, C⟩
    rcases Te.mp C with C|C
    ·exact⟨a,C⟩
    ·rw[UM]at C;cases C;exact(h.key _).mp H
  ·have:j≠i:=λz=>t (by rw[<- z];exact SY.mpr ⟨_,d,rfl⟩);rw[Th this,TX o]
 ·let M2 : az := (M ++ [O.lst []]).set F (.dct (kvs ++ [(k, M.length)]) (ep + 1))
  have m:M2[M.length]?=Ā (.lst []):=by
   show ((M++[O.lst []]).set F _)[M.length]?=_;rw[Th 0e1];exact av
  obtain⟨f,A⟩:=app (N:=M2) (j:=M.length) m (RT _);have lt:∀p∈kvs,p.2<M.length:=λp d=>(Se.mp (h.val p d)).1
  have r:iI es k=[]:=by
   rw[List.eq_nil_iff_forall_not_mem];intro a C;exact H ((h.key k).mpr ⟨a,cR.mp C⟩)
  refine⟨kvs++[(k,M.length)],ep+1,M2,_,M.length,?_,f,A,⟨?_,?_,?_,?_,λp n=>?_,λq=>?_⟩,λi s t o=>?_,λi I=>?_,by simp[M2]⟩
  ·unfold DE;dsimp only;rw[b,gL];dsimp only;rw[RC L,Dn H]
  ·rw[Th 0e1];exact Tg (by simp;lia)
  ·rw [U1, VV];refine⟨h.nd,by simp,λx X y α=>?_⟩;obtain⟨p,d,rfl⟩:=SY.mp X;simp only[SH,Uh,UM]at α;have:=lt p d
   lia
  ·rw[U1,VV];refine⟨h.kn,by simp,λx X y α=>?_⟩;simp only[SH,Uh,UM]at α;subst α;exact λz=>H (z ▸ X)
  ·rw [U1, Te]
   rintro (z|z)
   ·exact h.ne z
   ·simp at z;lia
  ·rw [uq];rcases Te.mp n with d|d
   ·have:k≠p.1:=λz=>H (by rw[z];exact Vi d);have:=lt p d;rw[RE (by assumption),Th 0e1];show ((M++[O.lst []]).set F _)[p.2]?=_;rw[Th (λz=>h.ne (by rw[z];exact Vi d))];exact aC (h.val p d)
   ·rw[UM]at d;subst d;rw[RC rfl,r,Tg (by simp[M2])];rfl
  ·rw [U1, Te, h.key q];constructor
   ·rintro (⟨a, C⟩ | z)
    ·exact⟨a,Tf _ C⟩
    ·simp at z;subst z;exact⟨c,by simp⟩
   ·rintro ⟨a, C⟩
    rcases Te.mp C with C|C
    ·exact .inl ⟨a,C⟩
    ·rw[UM]at C;cases C;exact .inr 1e1
  ·rw[Th 0e1];show ((M++[O.lst []]).set F _)[i]?=_;rw[Th (λz=>s z.symm),TX o]
  ·rw [U1, Te] at I;rcases I with I|I
   ·exact .inl I
   ·simp at I;exact .inr I
end
section
variable{F A V:ă}{es:List Wy}{r0 r1 r3 r4 r5 r6 r7:Option D}
theorem zo(n:l.Nodup)(h:∀k∈l,k∈prs):l.length<=15:=by
 have:=iZ n h
 simp_all[rH]
theorem BC{W:List Wy}(a:m<=6)(H:∀w∈W,pj m w):∀e∈oV W,e.1∈prs:=λe n=>by
 obtain⟨w,h,rfl⟩:=SY.mp n;rw[S8,SG]at h;exact jR.prs ⟨_,_,rfl,((H w h.1).pl _ (Kk (H w h.1).ne)).1,h.2,((H w h.1).pl _ (uw (H w h.1).ne)).2⟩ 0e1
theorem DR.len(h:(DR F es kvs ep M))(n:∀e∈es,e.1∈prs):kvs.length<=15:=by
 have:=zo h.kn λk H=>by
  obtain⟨c,C⟩:=(h.key k).mp H;exact n _ C
 simpa using this
theorem HL{w:Wy}(h:(DR F es kvs ep M))(n:∀e∈es,e.1∈prs)(L:es.length<=10000)(W:pj m w) :
  ∃kvs' ep' M',dq [r0,r1,Ā (.obj F),r3,r4,r5,Ā (jO w.1),Ā (nD w.2)] M=.next [r0,r1,Ā (.obj F),r3,r4,r5,Ā (jO w.1),Ā (nD w.2)] M'/\DR F (es++oV [w]) kvs' ep' M' /\
   (∀i,i≠F->i∉kvs.map (·.2)->i<M.length->M'[i]?=M[i]?)/\(∀i∈kvs'.map (·.2),i∈kvs.map (·.2)\/M.length<=i)/\M.length<=M'.length:=by
 unfold dq;simp only[bE,cc,aG,jH,bg,BF,aq,ak,aa,yo W.ne,rQ W.ne,d9];by_cases c:vg w.1<du w.1
 ·rw [show cmpI .Lt (vg w.1) (du w.1) = ą from RB c];obtain⟨kvs',ep',a,M',j,B,G,d,x,X,b,f⟩:=h.event (RH (h.len n) 0e3) L;refine⟨kvs',ep',M',?_,by rw[(show oV [w]=[([vg w.1,du w.1],w.2)] by unfold oV;simp[c])];exact x,X,λi I=>(b i I).imp id λz=>RI (R9 z),RK (RI (R9 f))⟩
  have q:Aw DE (ai 2) (ag (bJ (ag (au bN (ai 6) 2e4) (ag (au bN (ai 6) (iu qV 2e2)) (aw)))) (ag (d4 (aw)) (aw))) [r0,r1,Ā (.obj F),r3,r4,r5,Ā (jO w.1),Ā (nD w.2)] M=.ok (.obj j) a:=by
   simp[Aw];rw[RC (by unfold Oo;dsimp only;rw[h.at'])];simp[aa,yo W.ne,rQ W.ne];exact B
  simp_all
 ·rw[show cmpI .Lt (vg w.1) (du w.1)=ć from RD c];refine⟨kvs,ep,M,?_,by rw[(show oV [w]=[] by unfold oV;simp[c]),TC];exact h,λ_ _ _ _=>rfl,λi I=>.inl I,Rx _⟩;rfl
abbrev QE:MG:=cm 2 (aS (ah 6) (aS (ah 7) (cn)))
theorem xA{all:List D}(a:m<=6):∀(rs:List Wy)(es:List Wy)(kvs:(List (List Ć×ă)))(ep:ă)(M:az)(r6 r7:Option D),DR F es kvs ep M->(∀e∈es,e.1∈prs)->es.length+rs.length<=10000->(∀w∈rs,pj m w)->M[V]?=Ā (.lst all)->V≠F->V∉kvs.map (·.2) ->
  ∃kvs' ep' M' p6 p7,bH (.own V all) QE dq (rs.map qQ) [r0,r1,Ā (.obj F),r3,r4,r5,r6,r7] M=.next [r0,r1,Ā (.obj F),r3,r4,r5,p6,p7] M'/\DR F (es++oV rs) kvs' ep' M' /\
   (∀i,i≠F->i∉kvs.map (·.2)->i<M.length->M'[i]?=M[i]?)/\(∀i∈kvs'.map (·.2),i∈kvs.map (·.2)\/M.length<=i)/\M.length<=M'.length
 |[],es,kvs,ep,M,r6,r7,h,n,L,W,hV,G,v=>by
  refine⟨kvs,ep,M,r6,r7,?_,by show DR F (es++[]) kvs ep M;rw[TC];exact h,λ_ _ _ _=>rfl,λi I=>.inl I,Rx _⟩;rw[Uh];unfold bH;rw[RC (show bf (.own V all) _ from hV)]
 |w::rs,es,kvs,ep,M,r6,r7,h,n,L,W,hV,G,v=>by
  simp at L;obtain⟨kvs1,E,g,j,k,c,u,α⟩:=HL h n (RH (RA _ _) L) (W w 1e1);have hVl:=(Se.mp hV).1
  have e1l:(oV [w]).length<=1:=by
   unfold oV;rw[Us];exact WN _ _
  have e1p:∀e∈es++oV [w],e.1∈prs:=λe H=>by
   rcases Te.mp H with H|H
   ·exact n e H
   ·exact BC a (λx d=>W x (by rw[UM.mp d];simp)) e H
  obtain⟨kvs',ep',M',p6,p7,b1,b2,b3,B,l⟩:=xA a rs (es++oV [w]) kvs1 E g (Ā (jO w.1)) (Ā (nD w.2)) k e1p (by rw[Uq];lia) (λx d=>W x (by simp[d])) (by rw[c V G v hVl];exact hV) G (λz=>(u V z).elim v λz=>by lia);refine⟨kvs',ep',M',p6,p7,?_,?_,λi b f o=>?_,λi I=>?_,RH α l⟩
  ·rw[SH];unfold bH;rw[RC (show bf (.own V all) _ from hV),show QE (qQ w) [r0,r1,Ā (.obj F),r3,r4,r5,r6,r7] M=.ok [r0,r1,Ā (.obj F),r3,r4,r5,Ā (jO w.1),Ā (nD w.2)] M from rfl,ae,j];exact b1
  ·rw[show oV (w::rs)=oV [w]++oV rs from by unfold oV;rw[<- U1,<- WO];rfl,<- Va];exact b2
  ·rw[b3 i b (λz=>(u i z).elim f λz=>by lia) (Ry o α)];exact c i b f o
  ·rcases B i I with z | z
   ·exact u i z
   ·exact .inr (RH α z)
end
section
variable{F A V:ă}{bs:List ă}{es:List Wy}{r0 r1 r5 r6 r7:Option D}
theorem tR{W:List Wy}(h:GW m ks)(hF:(DR F es kvs ep M))(hN:NL A bs (wY ks) M)(b:bs.length=m)(hV:M[V]?=Ā (.lst (W.map qQ)))(H:∀w∈W,pj m w/\w.1.length<=2)(a:W.length*ks.length<=5000)(n:∀e∈es,e.1∈prs)(L:es.length<=5000)
  (sF:F∉A::bs) (k:∀i∈kvs.map (·.2),i∉A::bs) :
  ∃kvs' ep' M' p6 p7,e6 [r0,r1,Ā (.obj F),Ā (.obj A),Ā (.obj V),r5,r6,r7] M=.next [r0,r1,Ā (.obj F),Ā (.obj A),Ā (.obj M.length),r5,p6,p7] M'/\DR F (es++oV (jQ ks W)) kvs' ep' M'/\NL A bs (wY ks) M'/\M'[M.length]?=Ā (.lst ((jQ ks W).map qQ)) /\
   (∀i∈kvs'.map (·.2),i∉A::bs)/\(∀i,i≠F->i∉kvs.map (·.2)->i<M.length->M'[i]?=M[i]?)/\(∀i∈kvs'.map (·.2),i∈kvs.map (·.2)\/M.length<=i):=by
 have G:=jn ks W;have gok:=Bx h.2.2.2.2 H;have d:=h.m6;let c:az:=M++[.lst ((jQ ks W).map qQ)]
 have nlt:∀i∈A::bs,i<M.length:=λi I=>by
  rcases Td.mp I with rfl|I
  ·exact(Se.mp hN.out).1
  ·obtain⟨j,r,e⟩:=VU I;exact(Se.mp (hN.at' j i (by rw[<- e];exact Vw r))).1
 have olt:∀i∈kvs.map (·.2),i<M.length:=λi I=>by
  obtain⟨p,P,rfl⟩:=SY.mp I;exact(Se.mp (hF.val p P)).1
 have Flt:=(Se.mp hF.at').1;obtain⟨kvs',ep',M',p6,p7,b1,b2,b3,B,t⟩:=xA d (jQ ks W) es kvs ep c r6 r7 hF.app n 0e1 gok av (Sa Flt) (λz=>by have:=olt _ z;lia);have l1:c.length=M.length+1:=by simp[c]
 have s:∀i∈kvs'.map (·.2),i∉A::bs:=λi I z=>by
  rcases B i I with y|y
  ·exact k i y z
  ·have:=nlt i z;lia
 refine⟨kvs',ep',M',p6,p7,?_,b2,NL.keep (M:=c) hN.app λj r o e=>?_,?_,s,λi f g q=>?_,λi I=>(B i I).imp id λz=>by lia⟩
 ·unfold e6;rw[aK,aT,D7 hN b hV (λw Q=>(H w Q).1) (RH a (Vj _ _))];simp only[ae,bG,aE,Wu,Wv];rw[cP];simp only[bT,aq,ak,aa,af];rw[bP av,ae,bM];exact b1
 ·have l : j ∈ A :: bs := by rcases r with rfl | r <;> simp [*]
  have μ:=nlt j l;rw[b3 j (λz=>sF (z ▸ l)) (λz=>k j z l) 0e1];exact e
 ·rw[b3 M.length 0e1 (λz=>by have:=olt _ z;lia) 0e1];exact av
 ·rw[b3 i f g 0e1];exact TX q
theorem Eu(h:GW m ks):∃kvs ep M',eA [aQ m ks,.int 2] J=.ok 1e3 M'/\DR 3e9 (EV m ks) kvs ep M'/\(∃g,M'=J++g)/\∀i∈kvs.map (·.2),J.length<i:=by
 have K:=h.m6;have L:=ed h;let c:az:=J++[.dct [] 0]
 obtain⟨bs,d,s1,n1,G,s,g,eM1⟩:=wg (J:=c) h;have lM0:c.length=J.length+1:=by simp[c]
 have d1:DR 3e9 [] [] 0 d:=by
  rw[eM1];exact(DR.new (M:=J) (g:=[])).app
 have Q:(rg m).length=m:=Bd;let b:az:=d++[.lst ((W0 m).map qQ)]
 have l:∀w∈W0 m,pj m w/\w.1.length<=1:=λw H=>by
  obtain⟨p,hp,rfl⟩:=SY.mp H;refine⟨⟨by simp,by simp,λq hq=>?_⟩,by simp⟩;rw[UM.mp hq];exact jU.mp hp
 have X:(W0 m).length=m:=by unfold W0;rw[Us,Q]
 have sF:J.length∉c.length::bs:=λz=>by
  rcases Td.mp z with z|z
  ·lia
  ·have:=s _ z;lia
 have m6:m*ks.length<=6*15:=WQ K L;obtain⟨kvs1,ep1,f,P,r,α,C,O,u,a5,a6,Z⟩:=tR (r0:=Ā 3e7) (r1:=Ā (.int 2)) (r5:=Ā (.int 0)) (r6:=Ă) (r7:=Ă) (V:=d.length) (M:=b) (W:=W0 m) h d1.app n1.app G av (λw H=>⟨(l w H).1,by have:=(l w H).2;lia⟩) (by rw[X];lia) (λe he=>by cases he) 1e1 sF (λi I=>by cases I);have g1:=jn ks (W0 m);rw[X]at g1
 have T:∀w∈jQ ks (W0 m),pj m w/\w.1.length<=2:=λw H=>by
  refine⟨Bx (m:=m) h.2.2.2.2 (λv n=>⟨(l v n).1,by have:=(l v n).2;lia⟩) w H,?_⟩;unfold jQ at H;obtain⟨v,n,H⟩:=WA.mp H;unfold jz at H;obtain⟨e,_,rfl⟩:=SY.mp H;have:=(l v n).2;simp;lia
 have el:(oV (jQ ks (W0 m))).length<=90:=by
  unfold oV;rw[Us];exact RH (WN _ _) 0e1
 have m7:(jQ ks (W0 m)).length*ks.length<=90*15:=WQ 0e1 L;obtain⟨kvs2,E,S,q6,q7,c1,c2,c3,c4,c5,c6,c7⟩:=tR (r0:=Ā 3e7) (r1:=Ā (.int 2)) (r5:=Ā (.int 1)) (r6:=P) (r7:=r) (V:=b.length) (M:=f) (W:=jQ ks (W0 m)) h (by rw[Wx]at C;exact C) O G u T 0e1 (BC K λw H=>(T w H).1) 0e1 sF a5
 have gt:∀i∈kvs2.map (·.2),J.length<i:=λi I=>by
  have l2:c.length<=b.length:=by rw[show b=d++_ from rfl,eM1];simp
  rcases c7 i I with z|z
  ·rcases Z i z with y | y
   ·cases y
   ·lia
  ·have : b.length < f.length := (Se.mp u).1
   lia
 refine⟨kvs2,E,S,?_,c2,?_,gt⟩
 ·unfold eA;rw[d7,show (Ā 3e7::Ā (D.int 2)::List.replicate (8-2) Ă:Ro)=[Ā 3e7,Ā (.int 2),Ă,Ă,Ă,Ă,Ă,Ă] from rfl];unfold je;rw[aK,aT,show ∀R,DT R J=.ok 1e3 c from λ_=>rfl];simp only[ae,af,bG,aE,Wu,Wv];rw[aK,aT];simp only[aL,ay,aB,ak,aa,af,s1,ae,bG,aE,Wu,Wv];rw[aK,aT,br,bu];simp only[ay,aB,aG,bg,ak,aa,af];rw[show ∀N,bN 3e7 (.int 0) N=.ok (.int m) N from λ_=>rfl,aa,aa,bY 0e1 0e1,aa,aW,IV]
  rw[cy (U:=Ć) (en:=D.int) (src:=.fix ((rg m).map D.int)) (g:=ah 0) (t:=a9) (e:=e9) (J1:=d) (q:=λ_=>ą) (h:=λp=>qQ ([p],0)) (λB=>∃o,B=[o]) (λ_=>trivial) (us:=rg m) (acc:=[]) (ρ:=cT [Ă] [Ā 3e7,Ā (.int 2),Ā 1e3,Ā (.obj c.length),Ă,Ă,Ă,Ă]) ⟨Ă,rfl⟩ (by rw[Q];exact RH (show 0+m<=1000 by lia) cj) (λx hx a B hR=>by
   obtain⟨o,rfl⟩:=hR;refine⟨[Ā (.int x)],⟨_,rfl⟩,rfl,rfl,λ_=>?_⟩;unfold e9;simp only[bV,ay,aB,bg,ak,aa,af,Uu,UU];rw[RC (show 0+1<=sizeLine from l1)];simp only[aa,af];rw[RC (show ([D.tup _,D.int 0]:List D).length<=sizeLine from l2)]
   rfl),fA,Wx]
  rw[show (rg m).map (λp=>qQ ([p],0))=(W0 m).map qQ from by unfold W0;rw[UR];rfl];simp only[ae,af,bG,aE,Wu,Wv];rw[aK,cP,bu];simp only[ay,aB,aq,ak,aa,af];rw[bY 0e1 0e1,ae,aW,show bc 0 (2:Ć).toNat=[.int 0,.int 1] from rfl];unfold bH;rw[RC (show bf (.fix [D.int 0,D.int 1]) _ from trivial)];rw[show ah 5 (.int 0) [Ā 3e7,Ā (.int 2),Ā 1e3,Ā (.obj c.length),Ā (.obj d.length),Ă,Ă,Ă] b=.ok [Ā 3e7,Ā (.int 2),Ā 1e3,Ā (.obj c.length),Ā (.obj d.length),Ā (.int 0),Ă,Ă] b from rfl,ae,α];rw[show ∀(k:Ro->az->SO) R N,(SO.next R N).loop k=k R N from λ_ _ _=>rfl];unfold bH;rw[RC (show bf (.fix [D.int 0,D.int 1]) _ from trivial)];rw[show ah 5 (.int 1) [Ā 3e7,Ā (.int 2),Ā 1e3,Ā (.obj c.length),Ā (.obj b.length),Ā (.int 0),P,r] f=.ok [Ā 3e7,Ā (.int 2),Ā 1e3,Ā (.obj c.length),Ā (.obj b.length),Ā (.int 1),P,r] f from rfl,ae,c1];rw[show ∀(k:Ro->az->SO) R N,(SO.next R N).loop k=k R N from λ_ _ _=>rfl];unfold bH;rw[RC (show bf (.fix [D.int 0,D.int 1]) _ from trivial),aE,cw];simp only[aq,ak,ae,af,dD];exact gK 1e1
 ·refine ⟨S.drop 3e9, ?_⟩
  have:S.take 3e9=J:=by
   apply Sf;intro j;by_cases μ:j<J.length
   ·have l2 : J.length < b.length := by rw [show b = d ++ _ from rfl, eM1]; simp; lia
    have l3:b.length<f.length:=(Se.mp u).1
    rw[TY μ,c6 j 0e1 (λz=>by
     rcases Z j z with y|y
     ·cases y
     ·lia) 0e1,a6 j 0e1 (λz=>by cases z) 0e1]
    rw[show b=d++_ from rfl,eM1];rw[TX (by rw[Uq];lia),TX 0e1];show (J++_)[j]?=_;rw[TX μ]
   ·rw[SU (by rw[TQ];lia),SU 0e1]
  conv=>lhs;rw[<- U0 3e9 S,this]
end
end _w
namespace _v
def Ox(k:List Ć):Prop:=∃a b:Ć,k=[a,b]/\0<=a/\a<b/\b<6
def Jn(ks:0e2)(i:ă)(p q:Ć):Prop:=ks[i]?=Ā [p,q]\/ks[i]?=Ā [q,p]
theorem xH:∀(ks:0e2)(j:ă)(p:Ć)(e:Ć×ă),e∈pT j ks p↔∃i k,ks[i]?=Ā k/\e∈nq (j+i) k p
 |[],j,p,e=>by simp[pT]
 |k::ks,j,p,e=>by
  simp[pT,Te,xH ks (j+1) p e];constructor
  ·rintro (h | ⟨i, K, H, c⟩)
   ·exact⟨0,k,rfl,h⟩
   ·exact⟨i+1,K,H,by rw[show j+(i+1)=j+1+i from R9 (RJ _ _ _)];exact c⟩
  ·rintro ⟨i, K, H, c⟩
   cases i with
   |zero=>cases H;exact .inl c
   |succ i=>exact .inr ⟨i,K,H,by rw[show j+1+i=j+(i+1) from RJ _ _ _];exact c⟩
section
variable(hk:∀k∈ks,Ox k)
include hk
theorem fY(h:ks[i]?=Ā k):Ox k:=hk k (T1 h)
theorem q9{p:Ć}:(q,i)∈pT 0 ks p↔Jn ks i p q:=by
 rw[xH];constructor
 ·rintro ⟨I, k, H, c⟩
  refine aJ (fY hk H) λa b G d f g=>?_;subst G;unfold nq at c;rw[Vc]at c;split at c
  ·rename_i e;rw[UM]at c;cases c;subst e;exact .inl H
  ·split at c
   ·rename_i e;rw[UM]at c;cases c;subst e;exact .inr H
   ·cases c
 ·rintro (h | h)
  ·obtain⟨a,b,e,d,f,g⟩:=fY hk h;refine⟨i,[p,q],h,?_⟩;unfold nq;rw[show vg [p,q]=p from rfl,RC rfl,Vc];exact UM.mpr rfl
  ·obtain⟨a,b,e,d,f,g⟩:=fY hk h;refine⟨i,[q,p],h,?_⟩;unfold nq;rw[show vg [q,p]=q from rfl,show du [q,p]=p from rfl,RE 0e1];simp
theorem xf{p:Ć}(h:Jn ks i p q):p≠q:=by
 rcases h with h|h
 ·obtain⟨a,b,e,d,H,f⟩:=fY hk h;cases e;exact Ć.ne_of_lt H
 ·obtain⟨a,b,e,d,H,f⟩:=fY hk h;cases e;exact Tw H
theorem q5{w:Wy}:w∈jQ ks (W0 m)↔∃p q i,p∈rg m/\Jn ks i p q/\w=([p,q],0 ||| 2^i):=by
 unfold jQ W0;rw[WA];constructor
 ·rintro ⟨v, V, W⟩
  obtain⟨p,d,rfl⟩:=SY.mp V;unfold jz at W;obtain⟨⟨q,i⟩,n,rfl⟩:=SY.mp W;rw[S8]at n;exact⟨p,q,i,d,(q9 hk).mp n.1,rfl⟩
 ·rintro ⟨p, q, i, d, r, rfl⟩
  refine⟨([p],0),SY.mpr ⟨p,d,rfl⟩,?_⟩;unfold jz;refine SY.mpr ⟨(q,i),?_,rfl⟩;rw[S8];refine⟨(q9 hk).mpr r,?_⟩;have:=xf hk r;simp;exact λz=>this z.symm
theorem A2{w:Wy}:w∈jQ ks (jQ ks (W0 m))↔∃p b q i j,p∈rg m/\Jn ks i p b/\Jn ks j b q/\q≠p/\w=([p,b,q],(0 ||| 2^i) ||| 2^j):=by
 rw[show jQ ks (jQ ks (W0 m))=(jQ ks (W0 m)).flatMap (jz ks) from rfl,WA];constructor
 ·rintro ⟨v, V, W⟩
  obtain⟨p,b,i,d,r,rfl⟩:=(q5 hk).mp V;unfold jz at W;obtain⟨⟨q,j⟩,n,rfl⟩:=SY.mp W;rw[S8]at n;refine⟨p,b,q,i,j,d,r,(q9 hk).mp n.1,?_,rfl⟩;have:=n.2;simp at this;exact this.1
 ·rintro ⟨p, b, q, i, j, d, r, l, h, rfl⟩
  refine⟨([p,b],0 ||| 2^i),(q5 hk).mpr ⟨p,b,i,d,r,rfl⟩,?_⟩;unfold jz;refine SY.mpr ⟨(q,j),?_,rfl⟩;rw[S8];refine⟨(q9 hk).mpr l,?_⟩;have:=xf hk l;simp;exact⟨h,λz=>this z.symm⟩
theorem gY:(k,c)∈EV m ks↔∃p q,p∈rg m/\p<q/\k=[p,q]/\((∃i,Jn ks i p q/\c=0 ||| 2^i)\/∃b i j,Jn ks i p b/\Jn ks j b q/\c=(0 ||| 2^i) ||| 2^j):=by
 unfold EV oV;rw[Te,SY,SY];constructor
 ·rintro (⟨w, W, e⟩ | ⟨w, W, e⟩)
  ·rw[S8,SG]at W;obtain⟨p,q,i,d,r,rfl⟩:=(q5 hk).mp W.1;cases e;exact⟨p,q,d,W.2,rfl,.inl ⟨i,r,rfl⟩⟩
  ·rw[S8,SG]at W;obtain⟨p,b,q,i,j,d,r,l,n,rfl⟩:=(A2 hk).mp W.1;cases e;exact⟨p,q,d,W.2,rfl,.inr ⟨b,i,j,r,l,rfl⟩⟩
 ·rintro ⟨p, q, d, h, rfl, ⟨i, r, rfl⟩ | ⟨b, i, j, r, l, rfl⟩⟩
  ·refine .inl ⟨([p,q],0 ||| 2^i),?_,rfl⟩;rw[S8,SG];exact⟨(q5 hk).mpr ⟨p,q,i,d,r,rfl⟩,h⟩
  ·refine .inr ⟨([p,b,q],(0 ||| 2^i) ||| 2^j),?_,rfl⟩;rw[S8,SG];exact⟨(A2 hk).mpr ⟨p,b,q,i,j,d,r,l,Tw h,rfl⟩,h⟩
theorem AN{p:Ć}(h:Jn ks i p q):i<ks.length:=by
 rcases h with h|h
 ·exact(Se.mp h).1
 ·exact(Se.mp h).1
theorem xk(h:(k,c)∈EV m ks):0<c/\c<2^ks.length:=by
 have one:∀i,i<ks.length->(2:ă)^i<2^ks.length:=λi I=>ă.pow_lt_pow_right 0e3 I;have pos:∀x i:ă,0<x ||| 2^i:=λx i=>Ry (WR i) (ă.right_le_or);refine aJ ((gY hk).mp h) λp q d t v10 v11=>?_;subst v10;obtain⟨i,r,rfl⟩|⟨b,i,j,r,l,rfl⟩:=v11
 ·exact⟨pos _ _,WS (WR _) (one i (AN hk r))⟩
 ·exact⟨pos _ _,WS (WS (WR _) (one i (AN hk r))) (one j (AN hk l))⟩
end
noncomputable def ir(c v:ă):ċ:=(c &&& v) == v
theorem ff{v:ă}:ir c v=ą↔∀b,v.testBit b=ą->c.testBit b=ą:=by
 unfold ir;rw[VJ];constructor
 ·grind
 ·intro h;apply WT
  simp_all
theorem qd{a b:ă}:ir c (a ||| b)=ą↔ir c a=ą/\ir c b=ą:=by
 rw[ff,ff,ff]
 grind
theorem lK:ir c (2^i)=ą↔c.testBit i=ą:=by
 simp[ff,WU]
theorem yj:ir c 0=ą:=by simp[ff]
end _v
namespace _w
open PySem _l _r _v
theorem vX{a b:ă}:kk (nD a) (nD b) M=.ok (nD (a &&& b)) M:=by
 rfl
theorem F3(c v:ă):((((c &&& v:ă):Ć)) == ((v:ă):Ć))=ir c v:=by
 unfold ir
 lia
section
variable{F A V C:ă}{bs:List ă}{es:List Wy}
theorem xN{vs:List ă}(h:M[j]?=Ā (.lst (vs.map nD)))(L:vs.length<=100000):gQ [nD c,.obj j] M=.ok (.bl (vs.any (ir c))) M:=by
 simp only[gQ,d7,show (Ā (nD c)::Ā (D.obj j)::List.replicate (2-2) Ă:Ro)=[Ā (nD c),Ā (.obj j)] from rfl,qP,cw,aL,ay,br,bT,aq,ak,aa,bP h,bM]
 rw[cy (src:=.own j (vs.map nD)) (J1:=M) (h:=λv=>.bl (ir c v)) (λe=>∃o,e=[o,Ā (nD c)]) (λ_=>aC h) (ρ:=cT [Ă,Ā 0] [Ā (nD c),Ā (.obj j)]) ⟨Ă,rfl⟩ (by simp only[UU];exact RH (show 0+vs.length<=100000 from RH (RI (UP _ _)) L) 0e3) (λx d a e hR=>by
  obtain⟨o,rfl⟩:=hR;refine⟨[Ā (nD x),Ā (nD c)],⟨_,rfl⟩,rfl,rfl,λ_=>?_⟩;simp only[mE,aG,aq,ak,aa,vX,cY,F3]
  rfl)]
 simp;rw[F9 (by rw[av,UR];rfl)];simp[fZ]
theorem zp{a b:Ć}(h:(∀k∈ks,jR m k)):w8 ą (.tup [.int a,.int b]) (.tup 1e5) M=.ok (.bl (!decide ([a,b]∈ks))) M:=by
 have e:=uC (J:=M) (a:=a) (b:=b) h;unfold w8 at e⊢
 lia
theorem G8{v:ă}(h:0<v):∀M,(GF (nD v) M).bind (λd N=>gG d (.int 1) N)=.ok (.int (v.log2:Ć)) M:=λM=>by
 unfold GF
 have:Builtin.Int.intBits ((v:ă):Ć)=v.log2+1:=by
  unfold Builtin.Int.intBits;rw[RE (by simp;lia)];simp
 simp_all
theorem Bp{v:ă}(d:0<v)(h:v<2^n):v.log2<n:=(WV (Sa d)).mpr h
abbrev yK(ps:List ă):ă->List D:=λt=>(ps.filter λv=>v.log2 == t).map nD
abbrev vm(ks:0e2)(F C:ă)(B O:Option D):Ro:=[Ā (.tup 1e5),Ā (.obj F),Ā (.obj C),B,O]
theorem KN{ps:List ă}{v:ă}(h:NL C bs (yK ps) M)(g:bs.length=n)(a:0<v)(f:v<2^n)(L:ps.length<=100000):
  ∃b M',bs[v.log2]?=Ā b/\et (vm ks F C o3 (Ā (nD v))) M=.next (vm ks F C o3 (Ā (nD v))) M'/\NL C bs (yK (ps++[v])) M'/\∃o,M'=M.set b o:=by
 have t:=Bp a f
 obtain⟨b,M',H,B,G,x,j,c⟩:=h.push (p:=(v.log2:Ć)) (d:=nD v) 0e1 0e1 (by
  rw[VT,Us]
  exact RH (WN _ _) 0e1)
 rw[VT]at H j c;refine⟨b,M',H,?_,j.ext λi I=>?_,_,c⟩
 ·unfold et;rw[jo,nB,aG];simp only[aq,ak,aa,af]
  rw[show au gG (iu GF (ai 4)) 2e2 (vm ks F C o3 (Ā (nD v))) M=.ok (.int (v.log2:Ć)) M from by
   rw[aG,jH];simp only[aq,ak,bg,aa,af]
   exact G8 a M]
  rw[aa,B,aa,G,RC rfl];simp only[ay,aB,aq,ak,aa,af];rw[x];simp only[ae,af]
 ·unfold vn yK;rw[WO,U1];by_cases e:i=v.log2
  ·subst e;simp
  ·rw [RE e];have:(v.log2 == i)=ć:=by simp;lia
   simp[this]
theorem yz{j n:ă}{all:List D}{o3:Option D}(B:bs.length=n)(r:j∉C::bs):∀(vs ps:List ă)(M:az)(o4:Option D),NL C bs (yK ps) M->M[j]?=Ā (.lst all)->(∀v∈vs,0<v/\v<2^n)->ps.length+vs.length<=100000 ->
  ∃M' p4,bH (.own j all) (ah 4) et (vs.map nD) (vm ks F C o3 o4) M=.next (vm ks F C o3 p4) M'/\NL C bs (yK (ps++vs)) M'/\(∀i,i∉bs->M'[i]?=M[i]?)/\M'.length=M.length
 |[],ps,M,o4,h,hM,H,L=>by
  refine⟨M,o4,?_,by rw[TC];exact h,λ_ _=>rfl,rfl⟩;rw[Uh];unfold bH;rw[RC (show bf (.own j all) _ from hM)]
 |v::vs,ps,M,o4,h,hM,H,L=>by
  simp at L;obtain⟨b,c,a,X,e,o,x⟩:=KN h B (H v 1e1).1 (H v 1e1).2 (RH (RA _ _) L);have G:∀i,i∉bs->c[i]?=M[i]?:=λi I=>by rw[x,Th (λz=>I (by rw[<- z];exact(T1 a)))]
  obtain⟨M',p4,α,W,y,f⟩:=yz B r vs (ps++[v]) c (Ā (nD v)) e (by rw[G j (λz=>r (by simp[z]))];exact hM) (λw d=>H w (by simp[d])) (by simp;exact RH (RI (RJ _ _ _)) L);refine⟨M',p4,?_,by rw[Va]at W;exact W,λi I=>(y i I).trans (G i I),by rw[f,x];simp⟩;rw[SH];unfold bH;rw[RC (show bf (.own j all) _ from hM),show ah 4 (nD v) (vm ks F C o3 o4) M=.ok (vm ks F C o3 (Ā (nD v))) M from rfl,ae,X];exact α
theorem Fd:∀k∈prs,k.length=2:=by decide +kernel
def sS(ks:0e2)(es:List Wy)(kvs:(List (List Ć×ă))):List ă:=kvs.flatMap λp=>if p.1∈ks then [] else iI es p.1
theorem yA{n:ă}(K:(∀k∈ks,jR m k))(B:bs.length=n)(hF:F∉C::bs)(H:∀i∈kvs.map (·.2),i∉C::bs)(α:∀e∈es,e.1∈prs/\0<e.2/\e.2<2^n):∀(rs:(List (List Ć×ă)))(ps:List ă)(M:az)(o3 o4:Option D),NL C bs (yK ps) M->DR F es kvs ep M->(∀p∈rs,p∈kvs)->ps.length+(sS ks es rs).length<=100000 ->
  ∃M' p3 p4,bH (.dks F kvs ep) (ah 3) dc (rs.map λp=>jO p.1) (vm ks F C o3 o4) M=.next (vm ks F C p3 p4) M'/\NL C bs (yK (ps++sS ks es rs)) M'/\(∀i,i∉bs->M'[i]?=M[i]?)/\M'.length=M.length
 |[],ps,M,o3,o4,h,hD,R,L=>by
  refine⟨M,o3,o4,?_,by rw[show sS ks es []=[] from rfl,TC];exact h,λ_ _=>rfl,rfl⟩;rw[Uh];unfold bH;rw[RC (show bf (.dks F kvs ep) _ from hD.at')]
 |p::rs,ps,M,o3,o4,h,hD,R,L=>by
  have P:=R p 1e1;have U:sS ks es (p::rs)=(if p.1∈ks then [] else iI es p.1)++sS ks es rs:=by rfl
  rw[U]at L⊢;rw[Uq]at L;obtain⟨O,f⟩:=(hD.key p.1).mp (Vi P)
  obtain⟨a,b,E⟩:∃a b,p.1=[a,b]:=by
   have g:=Fd _ (α _ f).1
   match p.1,g with
   |[a,b],_=>exact⟨a,b,rfl⟩
  have r:=hD.val p P
  have step:∃d p4,dc (vm ks F C (Ā (jO p.1)) o4) M=.next (vm ks F C (Ā (jO p.1)) p4) d/\NL C bs (yK (ps++if p.1∈ks then [] else iI es p.1)) d/\(∀i,i∉bs->d[i]?=M[i]?)/\d.length=M.length:=by
   have tst:eP (au (w8 ą) (ai 3) 3e4) (vm ks F C (Ā (jO p.1)) o4) M=.ok (!decide (p.1∈ks)) M:=by
    simp[cc,aG,aq,ak,aa];rw[E];rw[show (jO [a,b])=.tup [.int a,.int b] from rfl,zp K];rfl
   unfold dc;rw[bE,tst,ae];by_cases c:p.1∈ks
   ·rw[RC c,RB c];refine⟨M,o4,?_,by rw[TC];exact h,λ_ _=>rfl,rfl⟩;rfl
   ·rw [RE c, RD c];rw[RE c]at L;obtain⟨d,p4,G,W,X,Z⟩:=yz B (H p.2 (Vi P)) (iI es p.1) ps M o4 h r (λv l=>(α _ (cR.mp l)).2) (RH (V5 (RA _ _) _) L);refine⟨d,p4,?_,W,X,Z⟩;simp only[Xx];rw[cP];simp[bT,aG,aq,ak,aa]
    rw[show qW (.obj F) (jO p.1) M=.ok (.obj p.2) M from by
     unfold qW;dsimp only;rw[hD.at',gL];dsimp only
     rw[jr hD.kn P]]
    rw[aa,bP r];exact G
  refine aJ step λd p4 S u N w=>?_
  have hD1:=hD.keep λj r o e=>by
   rw[N j]
   ·exact e
   ·intro z;rcases r with rfl|r
    ·exact hF (by simp[z])
    ·exact H j r (by simp[z])
  refine cF (yA K B hF H α rs _ d (Ā (jO p.1)) p4 u hD1 (λq Q=>R q (by simp[Q])) (by rw[Uq];exact RH (RI (YO _ _ _)) L)) λM' μ s T t x y=>?_;refine⟨M',μ,s,?_,by rw[Va]at t;exact t,λi I=>(x i I).trans (N i I),y.trans w⟩;rw[SH];unfold bH;rw[RC (show bf (.dks F kvs ep) _ from hD.at'),show ah 3 (jO p.1) (vm ks F C o3 o4) M=.ok (vm ks F C (Ā (jO p.1)) o4) M from rfl,ae,S];exact T
end
end _w
namespace _v
noncomputable def kg(vs:List ă):ă:=(vs.foldl max 0).log2
def GG(ks:0e2)(es:List Wy)(t c:ă):ċ:=es.any λe=>!decide (e.1∈ks)&&(e.2.log2 == t)&&ir c e.2
def stB(ks:0e2)(es:List Wy)(t c:ă):ċ:=ks.all λk=>!(kg (iI es k) == t) || (iI es k).any (ir c)
def DO(ks:0e2)(es:List Wy)(t:ă)(s:List ă):List ă:=(s++(s.map λc=>c ||| 2^t).filter λc=>!GG ks es t c).filter (stB ks es t)
def gE(ks:0e2)(es:List Wy):ă->List ă
 |0=>[0]
 |t+1=>DO ks es t (gE ks es t)
theorem rj{t:ă}(h:c<2^t):c ||| 2^t=c+2^t:=by
 rw[ă.or_comm,UP];have:=ă.two_pow_add_eq_or_of_lt h 1
 simp_all
theorem Ef{v t:ă}(H:2^t<=v)(c:v<2^(t+1)):v.testBit t=ą:=by
 rw[WW,SG]
 have:v / 2^t=1:=by
  rw[WX]at c;apply ă.div_eq_of_lt_le
  ·lia
  ·lia
 rw[this]
theorem FW{v t:ă}(H:2^t<=v)(c:v<2^(t+1)):v.log2=t:=by
 have V:v≠0:=by have:=WR t;exact Sa (Ry this H)
 have a:=(WV V).mpr c;have b:=(ă.le_log2 V).mpr H;exact U9 b a
theorem vV{v b t:ă}(h:v<2^t)(B:v.testBit b=ą):b<t:=by
 grind [At,Þ,Â]
theorem F1{v x:ă}(h:ir c v=ą):ir (c ||| x) v=ą:=by
 grind [ff]
theorem F2{v t:ă}(V:v<2^t)(h:ir (c ||| 2^t) v=ą):ir c v=ą:=by
 rw[ff]at h⊢;intro b B;have:=h b B;rw[W1,WU,Wa]at this;rcases this with z|z
 ·exact z
 ·have:=vV V B;lia
section
variable{es:List Wy}
theorem dH:∀t,∀c∈gE ks es t,c<2^t
 |0,c,h=>by simp[gE]at h;subst h;decide
 |t+1,c,h=>by
  have h:=(S8.mp h).1;rw[WX];rcases Te.mp h with h|h
  ·have:=dH t c h;exact W2 _ this
  ·refine bb (SY.mp (S8.mp h).1) λd D G=>?_;subst G;have:=dH t d D;rw[rj this];exact ß (W2 _ this) _
theorem iT:∀t,(gE ks es t).Pairwise (·<·)
 |0=>List.pairwise_singleton _ _
 |t+1=>by
  refine WD _ ?_;rw[List.pairwise_append];refine⟨iT t,WD _ (SW.mpr ?_),λa H b B=>?_⟩
  ·refine(iT t).imp_of_mem λH B h=>?_;rw[rj (dH t _ H),rj (dH t _ B)];exact ß h _
  ·refine bb (SY.mp (S8.mp B).1) λd D G=>?_;subst G;have:=dH t a H;rw[rj (dH t d D)];exact W2 _ this
theorem jx(α:∀e∈es,0<e.2):∀t,∀c∈gE ks es t,(∀e∈es,e.1∉ks->e.2<2^t->ir c e.2=ć)/\∀k∈ks,kg (iI es k)<t->∃v∈iI es k,ir c v=ą
 |0,c,h=>⟨λe n _ L=>by have:=α e n;simp at L;lia,λk _ L=>by lia⟩
 |t+1,c,h=>by
  unfold gE DO at h;rw[S8]at h;obtain⟨h,T⟩:=h;unfold stB at T;rw[SL]at T
  have now:∀k∈ks,kg (iI es k)=t->∃v∈iI es k,ir c v=ą:=λk H e=>by
   have:=T k H;rw[e]at this;simpa using this
  rcases Te.mp h with h|h
  ·obtain ⟨a, b⟩ := jx α t c h;refine⟨λe n N L=>?_,λk H L=>?_⟩
   ·by_cases z : e.2 < 2 ^ t
    ·exact a e n N z
    ·cases I : ir c e.2 with
     |false=>rfl
     |true=>
      have:=vV (dH t c h) (ff.mp I t (Ef (R0 z) L))
      lia
   ·by_cases z : kg (iI es k) < t
    ·exact b k H z
    ·exact now k H (U9 (R0 z) L)
  ·rw [S8] at h;obtain⟨h,l⟩:=h;refine bb (SY.mp h) λd D f=>?_;subst f;obtain⟨a,b⟩:=jx α t d D;refine⟨λe n N L=>?_,λk H L=>?_⟩
   ·cases I : ir (d ||| 2 ^ t) e.2 with
    |false=>rfl
    |true=>
     by_cases z:e.2<2^t
     ·have:=a e n N z;rw[F2 z I]at this;cases this
     ·exfalso
      have:GG ks es t (d ||| 2^t)=ą:=by
       unfold GG;rw[WK];refine⟨e,n,?_⟩;rw[RD N,FW 0e1 L,I];simp
      rw[this]at l;cases l
   ·by_cases z : kg (iI es k) < t
    ·refine bb (b k H z) λv V e=>?_;exact⟨v,V,F1 e⟩
    ·exact now k H 0e1
end
theorem μ4(n:ă)(acc:List ă):QL n acc=n::acc:=by cases n <;> rfl
theorem tU(x i j:ă):Ň (ŗ x (2^i ||| 2^j)) (2^i ||| 2^j)=(x.testBit i&&x.testBit j):=by
 rw[SR,ă.beq_eq,SE];constructor
 ·intro h;have g:∀k,(x &&& (2^i ||| 2^j)).testBit k=(2^i ||| 2^j).testBit k:=λk=>Sd (·.testBit k) h;have z:=g i;have K:=g j
  grind
 ·intro ⟨H, c⟩;refine WT λk=>?_;show (x &&& (2^i ||| 2^j)).testBit k=_
  grind
theorem x5(x i:ă):Ň (ŗ x (2^i)) (2^i)=x.testBit i:=by
 have h:=tU x i i
 simp_all
theorem Oa(x:ă)(ps:List (ă×ă)):Dq x (ps.map λp=>2^p.1 ||| 2^p.2)=ps.any λp=>x.testBit p.1&&x.testBit p.2:=by
 induction ps with
 |nil=>rfl
 |cons p r i=>
  show @Ĺ (λ_=>ċ) (Dq x (r.map _)) ą (Ň (ŗ x (2^p.1 ||| 2^p.2)) (2^p.1 ||| 2^p.2))=_;rw[tU,i,List.any_cons];cases x.testBit p.1&&x.testBit p.2 <;> rfl
theorem A7(x:ă)(t:ă×List (ă×ă)):Dq x (2^t.1::t.2.map λp=>2^p.1 ||| 2^p.2)=Ag x t:=by
 show @Ĺ (λ_=>ċ) (Dq x (t.2.map _)) ą (Ň (ŗ x (2^t.1)) (2^t.1))=_;rw[x5,Oa];unfold Ag;cases x.testBit t.1 <;> rfl
theorem A6(x:ă):Lk x yP=sz x:=by
 rw[xF];unfold sz;generalize tab=l
 induction l with
 |nil=>rfl
 |cons t r i=>
  rw[Wm,<- i,<- A7 x t];show @Ĺ (λ_=>ă) (Lk x (r.map _)) (Xp (Lk x (r.map _))) (Dq x _)=_;cases Dq x (2^t.1::t.2.map λp=>2^p.1 ||| 2^p.2) <;> rfl
theorem Dh(x:ă):AX x yP 0=vD x:=by
 rw[xF];unfold vD;generalize 0=s;generalize tab=l
 induction l generalizing s with
 |nil=>rfl
 |cons t r i=>
  rw[SI,<- i,<- A7 x t];show AX x (r.map _) (Yh (ă.mul 2 s) (@Ĺ (λ_=>ă) 0 1 (Dq x _)))=_;cases Dq x (2^t.1::t.2.map λp=>2^p.1 ||| 2^p.2) <;> rfl
theorem r8:∀(i x:ă)(acc:List ă),yT i x (acc.map vD)=(w6 i x acc).map vD
 |0,x,acc=>by
  unfold yT w6;rw[μ4,A6,Dh];cases Ţ (sz x) 12 <;> rfl
 |i+1,x,acc=>by
  unfold yT w6;rw[A6,show Yh x (Yg 2 i)=x+2^i from rfl,r8 i (x+2^i) acc,r8 i x];cases Ţ (sz x) 12 <;> rfl
theorem Bn(x n:ă):Ň (ŗ x (2^n)) 0=!x.testBit n:=by
 cases h:x.testBit n with
 |true=>
  grind [x5,ă.eq_of_beq_eq_true]
 |false=>
  have e:ŗ x (2^n)=0:=WT λk=>by
   show (x &&& 2^n).testBit k=_
   grind
  rw[e];rfl
theorem Ks(n:ă)(l:List ă):K9 (2^n) l=l.filter (λx=>x.testBit n == ą)/\Lq (2^n) l=l.filter (λx=>x.testBit n == ć):=by
 induction l with
 |nil=>exact⟨rfl,rfl⟩
 |cons x r i=>
  rw[Wb,Wb,<- i.1,<- i.2];refine⟨?_,?_⟩
  ·show @Ĺ (λ_=>List ă) (x::K9 (2^n) r) (K9 (2^n) r) (Ň (ŗ x (2^n)) 0)=_;rw[Bn];cases x.testBit n <;> rfl
  ·show @Ĺ (λ_=>List ă) (Lq (2^n) r) (x::Lq (2^n) r) (Ň (ŗ x (2^n)) 0)=_;rw[Bn];cases x.testBit n <;> rfl
theorem yg{v:ă}:∀L:List ă,@List.rec ă (λ_=>ċ) ć (λa _ ih=>@Ĺ (λ_=>ċ) ih ą (Ň a v)) L=ą->v∈L
 |[],h=>by cases h
 |a::L,h=>by
  cases e:Ň a v with
  |true=>rw[SN e];exact Ta
  |false=>
   have h:@Ĺ (λ_=>ċ) (@List.rec ă (λ_=>ċ) ć (λa _ ih=>@Ĺ (λ_=>ċ) ih ą (Ň a v)) L) ą (Ň a v)=ą:=h;rw[e]at h;exact Tb _ (yg L h)
theorem vT:∀(n:ă)(l:List ă),qX n l=ą->∀v:ă,(l.filter λx=>(List.range n).all λi=>x.testBit i == v.testBit i).length<=63\/∃y∈(l.filter λx=>(List.range n).all λi=>x.testBit i == v.testBit i),y∈Lp
 |0,l,h,v=>by
  unfold qX at h;cases B:Ţ l.length 63 with
  |true=>exact .inl (RH (WN _ _) (È B))
  |false=>
   rw[B]at h;cases l with
   |nil=>cases B
   |cons x t=>exact .inr ⟨x,by simp,yg Lp h⟩
 |n+1,l,h,v=>by
  unfold qX at h;cases B:Ţ l.length 63 with
  |true=>exact .inl (RH (WN _ _) (È B))
  |false=>
   rw[B]at h;have f:=Ks n l
   have H:qX n (K9 (2^n) l)=ą/\qX n (Lq (2^n) l)=ą:=by
    revert h;cases qX n (K9 (2^n) l) with
    |true=>simp
    |false=>simp
   rw[f.1,f.2]at H
   have key:∀b:ċ,v.testBit n=b->(l.filter λx=>(List.range (n+1)).all λi=>x.testBit i == v.testBit i)=((l.filter λx=>x.testBit n == b).filter λx=>(List.range n).all λi=>x.testBit i == v.testBit i):=λb e=>by
    rw[WG];simp[e]
   cases V:v.testBit n with
   |true=>rw[key ą V];exact vT n _ H.1 v
   |false=>rw[key ć V];exact vT n _ H.2 v
theorem Di(v:ă):((w6 15 0 []).filter λx=>decide (vD x=v)).length<=63\/∃y∈Lp,∀i<15,y.testBit i=v.testBit i:=by
 have h:=vT 15 _ KM v;have e:=r8 15 0 [];rw[Uh]at e;rw[e]at h;refine h.imp (λh=>?_) <| z7 λy H c=>⟨y,c,λi I=>?_⟩
 ·rw [WE, Us] at h;refine RH ?_ h;rw[<- W3,<- W3];refine List.countP_mono_left λx _ d=>?_
  simp_all
 ·have:=SL.mp (S8.mp H).2 i (SM.mpr I);simpa using this
theorem El{x y:ă}(h:∀b,x.testBit b=ą->y.testBit b=ą):sz x<=sz y:=by
 unfold sz;refine List.countP_mono_left λt _ T=>?_;unfold Ag at T⊢;rw[Wa]at T⊢;rcases T with T|T
 ·exact .inl (h _ T)
 ·refine .inr ?_;rw[WK]at T⊢;obtain⟨p,d,e⟩:=T;rw[SE]at e;exact⟨p,d,by rw[SE];exact⟨h _ e.1,h _ e.2⟩⟩
theorem Ee(y i b:ă)(h:((y >>> i) <<< i).testBit b=ą):y.testBit b=ą:=by
 rw[ă.testBit_shiftLeft,ă.testBit_shiftRight,SE]at h;rw[show i+(b-i)=b from by lia]at h;exact h.2
theorem BV(y i:ă):(y >>> i) <<< i=(y >>> (i+1)) <<< (i+1)+(if y.testBit i=ą then 2^i else 0):=by
 rw[W_,W_,W4,W4,WX,<- ă.div_div_eq_div_mul,WW];generalize y / 2^i=z;by_cases h:z%2=1
 ·rw [RB h, RC rfl, show z / 2 * (2 ^ i * 2) = (2 * (z / 2)) * 2 ^ i from by grind, show 2 * (z / 2) * 2 ^ i + 2 ^ i = (2 * (z / 2) + 1) * 2 ^ i from by rw [ă.add_mul, ă.one_mul]];congr 1
  lia
 ·rw [RD h, show z / 2 * (2 ^ i * 2) = (2 * (z / 2)) * 2 ^ i from by grind];congr 1
  lia
theorem rZ:∀(i x:ă)(acc:List ă)(y:ă),y∈acc->y∈w6 i x acc
 |0,x,acc,y,h=>by
  unfold w6;split
  ·exact Tb _ h
  ·exact h
 |i+1,x,acc,y,h=>by
  unfold w6;split
  ·exact rZ i x _ y (rZ i _ acc y h)
  ·exact h
theorem rY{y:ă}(α:sz y<=12):∀(i:ă)(acc:List ă),y∈w6 i ((y >>> i) <<< i) acc
 |0,acc=>by
  unfold w6;rw[ă.shiftRight_zero,ă.shiftLeft_zero,RC (É α)];simp
 |i+1,acc=>by
  unfold w6;rw[RC (É (RH (El λb B=>Ee y (i+1) b B) α))];have s:=BV y i;by_cases h:y.testBit i=ą
  ·rw[RC h]at s;rw[<- s];exact rZ i _ _ y (rY α i acc)
  ·rw[RE h,Vv]at s;rw[<- s];exact rY α i _
theorem Ge{y:ă}(α:sz y<=12)(h:y<2^15):y∈w6 15 0 []:=by
 have:=rY α 15 []
 simp_all[W4,ă.div_eq_of_lt]
def Ho(k:List Ć):ă:=sJ (vg k).toNat (du k).toNat
def sR:ă->List (List Ć)->ă->ă
 |_,[],_=>0
 |i,k::ks,c=>(if c.testBit i=ą then 2^Ho k else 0) ||| sR (i+1) ks c
theorem rx:∀(ks:0e2)(j c r:ă),(sR j ks c).testBit r=ą↔∃i k,ks[i]?=Ā k/\c.testBit (j+i)=ą/\Ho k=r
 |[],j,c,r=>by simp[sR]
 |k::ks,j,c,r=>by
  unfold sR;rw[W1,Wa,rx ks (j+1) c r];constructor
  ·rintro (h | ⟨i, K, a, H, d⟩)
   ·split at h
    ·rename_i e;rw[WU,SG]at h;exact⟨0,k,rfl,e,h⟩
    ·simp at h
   ·exact⟨i+1,K,a,by rw[show j+(i+1)=j+1+i from R9 (RJ _ _ _)];exact H,d⟩
  ·rintro ⟨i, K, a, H, d⟩
   cases i with
   |zero=>
    cases a;rw[Vv]at H;refine .inl ?_;rw[RC H,WU];exact RB d
   |succ i=>exact .inr ⟨i,K,a,by rw[show j+1+i=j+(i+1) from RJ _ _ _];exact H,d⟩
theorem BJ:∀(l:List ċ)(s:ă),l.foldl (λs b=>2*s+b.toNat) s<(s+1)*2^l.length
 |[],s=>by simp
 |b::l,s=>by
  have:=BJ l (2*s+b.toNat);refine Ry this ?_;rw[Uu,WX,Yq (2^l.length) 2,<- ă.mul_assoc];exact ă.mul_le_mul_right _ (by have:=ċ.toNat_le b;lia)
theorem yv:∀{gl gl':List ċ}{s s':ă},gl.length=gl'.length->gl.foldl (λs b=>2*s+b.toNat) s=gl'.foldl (λs b=>2*s+b.toNat) s'->s=s'/\gl=gl'
 |[],[],_,_,_,h=>⟨h,rfl⟩
 |b::l,B::a,s,s',L,h=>by
  obtain⟨H,c⟩:=yv (gl:=l) (gl':=a) (by simpa using L) h;have e:b=B:=by cases b <;> cases B <;> simp at H <;> first|rfl|lia
  subst e;exact⟨by lia,by rw[c]⟩
theorem NO:Lp=(List.range 6).map λw=>(kj.map λp=>p.1 != w&&p.2 != w).foldl (λs b=>2*s+b.toNat) 0:=by decide +kernel
theorem Jf:∀b<6,∀a<b,sJ a b<15:=by decide
theorem CD:∀b<6,∀a<b,∀d<6,∀c<d,(sJ a b != sJ c d || (a == c&&b == d))=ą:=by decide
theorem xZ(b:ă)(B:b<6)(a:ă)(H:a<b)(d:ă)(hd:d<6)(c:ă)(C:c<d)(e:sJ a b=sJ c d):a=c/\b=d:=by
 have:=CD b B a H d hd c C;rw[e]at this;simpa using this
theorem uf(a b:ă)(h:a≠b):sJ a b=sJ b a:=by
 unfold sJ
 grind
theorem CB{p:ă×ă}:p∈kj↔p.1<p.2/\p.2<6:=by
 unfold kj;rw[WA];constructor
 ·rintro ⟨b, B, h⟩
  obtain⟨a,H,rfl⟩:=SY.mp h;rw[SM]at B H;exact⟨H,B⟩
 ·rintro ⟨c, d⟩
  exact⟨p.2,SM.mpr d,SY.mpr ⟨p.1,SM.mpr c,rfl⟩⟩
section
variable(hk:∀k∈ks,Ox k)
include hk
theorem HG(c:ă):sR 0 ks c<2^15:=by
 apply ă.lt_pow_two_of_testBit;intro r R;cases h:(sR 0 ks c).testBit r with
 |false=>rfl
 |true=>
  refine aU ((rx ks 0 c r).mp h) λi k H d G=>?_;subst G;refine aJ (fY hk H) λa b V f g j=>?_;subst V;have:=Jf b.toNat 0e1 a.toNat 0e1;have e:Ho [a,b]=sJ a.toNat b.toNat:=rfl
  lia
theorem lH{a b:ă}(A:a<6)(B:b<6)(n:a≠b):(sR 0 ks c).testBit (sJ a b)=ą↔∃i,Jn ks i a b/\c.testBit i=ą:=by
 rw[rx];constructor
 ·rintro ⟨i, k, d, H, g⟩
  rw[Vc]at H;refine⟨i,?_,H⟩;refine aJ (fY hk d) λp q G j o r=>?_;subst G;have e:=g;by_cases l:a<b
  ·obtain⟨E,f⟩:=xZ q.toNat 0e1 p.toNat 0e1 b B a l e;refine .inl ?_;rw[d,show (a:Ć)=p from by lia,show (b:Ć)=q from by lia]
  ·rw[uf a b n]at e;obtain⟨E,f⟩:=xZ q.toNat 0e1 p.toNat 0e1 a A b (RN (R0 l) (R7 n)) e;refine .inr ?_;rw[d,show (b:Ć)=p from by lia,show (a:Ć)=q from by lia]
 ·rintro ⟨i, h | h, H⟩
  ·exact⟨i,_,h,by lia,by rfl⟩
  ·refine ⟨i, _, h, by rw [Vc]; exact H, ?_⟩;show sJ ((b:Ć)).toNat ((a:Ć)).toNat=_
   simp_all[uf,R7]
theorem Iv{a b:ă}(H:a<b)(B:b<6):Ag (sR 0 ks c) (Ot (a,b))=ą↔(∃i,Jn ks i a b/\c.testBit i=ą)\/∃d:Ć,(∃i,Jn ks i a d/\c.testBit i=ą)/\∃j,Jn ks j d b/\c.testBit j=ą:=by
 simp only[Ag,Ot];rw[Wa,lH hk (RU H B) B (Sn H),WK];refine or_congr Iff.rfl ?_;constructor
 ·rintro ⟨p, P, e⟩
  obtain⟨d,D,rfl⟩:=SY.mp P;rw[S8,SM]at D;obtain⟨f,D⟩:=D;simp at D;rw[SE]at e;exact⟨d,(lH hk 0e1 f (λz=>D.1 z.symm)).mp e.1,(lH hk f B D.2).mp e.2⟩
 ·rintro ⟨d, ⟨i, I, C⟩, ⟨j, r, μ⟩⟩
  have N:=xf hk r
  have rng:0<=d/\d<6:=by
   rcases I with h|h
   ·obtain⟨p,q,e,g,k,l⟩:=fY hk h;cases e;exact⟨V6 g (Tx k),l⟩
   ·obtain⟨p,q,e,g,k,l⟩:=fY hk h;cases e;exact⟨g,RQ k l⟩
  obtain⟨n,rfl⟩:=W5 rng.1;have R:a≠n:=λz=>(xf hk I) (by rw[z]);refine⟨(sJ a n,sJ n b),SY.mpr ⟨n,?_,rfl⟩,?_⟩
  ·grind
  ·rw[SE];exact⟨(lH hk 0e1 0e1 R).mpr ⟨i,I,C⟩,(lH hk 0e1 B (λz=>N (by rw[z]))).mpr ⟨j,r,μ⟩⟩
theorem AS{p:Ć}(H:p∈rg m)(h:p<q):(∃v,([p,q],v)∈EV m ks/\ir c v=ą)↔(∃i,Jn ks i p q/\c.testBit i=ą)\/∃d:Ć,(∃i,Jn ks i p d/\c.testBit i=ą)/\∃j,Jn ks j d q/\c.testBit j=ą:=by
 constructor
 ·rintro ⟨v, V, I⟩
  refine aJ ((gY hk).mp V) λP Q _ _ e a=>?_;obtain⟨i,r,rfl⟩|⟨b,i,j,r,l,rfl⟩:=a
  ·cases e;exact .inl ⟨i,r,lK.mp (qd.mp I).2⟩
  ·cases e;have:=qd.mp I;exact .inr ⟨b,⟨i,r,lK.mp (qd.mp this.1).2⟩,j,l,lK.mp this.2⟩
 ·rintro (⟨i, r, C⟩ | ⟨d, ⟨i, r, C⟩, ⟨j, l, μ⟩⟩)
  ·exact⟨_,(gY hk).mpr ⟨p,q,H,h,rfl,.inl ⟨i,r,rfl⟩⟩,qd.mpr ⟨yj,lK.mpr C⟩⟩
  ·exact⟨_,(gY hk).mpr ⟨p,q,H,h,rfl,.inr ⟨d,i,j,r,l,rfl⟩⟩,qd.mpr ⟨qd.mpr ⟨yj,lK.mpr C⟩,lK.mpr μ⟩⟩
theorem Ed{vs:List ă}(H:vs≠[])(h:∀v∈vs,0<v/\v<2^n):kg vs<n:=by
 have key:∀(vs:List ă)(x:ă),x<2^n->(∀v∈vs,v<2^n)->vs.foldl max x<2^n:=by
  intro vs
  induction vs with
  |nil=>intro x d _;exact d
  |cons v r i=>intro x d V;exact i (max x v) (ă.max_lt.mpr ⟨d,V v 1e1⟩) λw W=>V w (by simp[W])
 have g:∀(vs:List ă)(x:ă),x<=vs.foldl max x:=by
  intro vs
  induction vs with
  |nil=>simp
  |cons v r i=>intro x;exact RH (W6 _ _) (i (max x v))
 have t:=key vs 0 (WR n) λv V=>(h v V).2;cases vs with
 |nil=>exact absurd rfl H
 |cons v r=>
  have f:0<(v::r).foldl max 0:=Ry (h v 1e1).1 (RH (W7 0 v) (g r (max 0 v)));exact(WV (Sa f)).mpr t
theorem Gj(M:∀k∈ks,∀x∈k,x∈rg m)(R:ks.Nodup)(Q:(ks.length<=12)):(gE ks (EV m ks) ks.length).length<=63\/∃w∈List.range 6,(kj.map λp=>decide ([(p.1:Ć),(p.2:Ć)]∈ks))=kj.map λp=>p.1 != w&&p.2 != w:=by
 have α:∀e∈EV m ks,0<e.2:=λe U=>(xk hk U).1
 have tp:∀k∈ks,kg (iI (EV m ks) k)<ks.length:=λk H=>by
  refine aJ (hk k H) λa b v3 g n L=>?_;subst v3;obtain⟨i,I,e⟩:=VU H;refine Ed hk ?_ λv V=>xk hk (cR.mp V);have this:=cR.mpr ((gY hk).mpr ⟨a,b,M _ H a 1e1,n,rfl,.inl ⟨i,.inl (by rw[<- e];exact Vw I),rfl⟩⟩)
  grind
 have sq:∀c∈gE ks (EV m ks) ks.length,∀p∈kj,Ag (sR 0 ks c) (Ot p)=decide ([(p.1:Ć),(p.2:Ć)]∈ks):=λc C p P=>by
  obtain⟨a,b⟩:=p;obtain⟨o,f⟩:=CB.mp P;obtain⟨A,B⟩:=jx α ks.length c C;apply SR.mpr;rw[Iv hk o f,SG];constructor
  ·intro h;apply Ŭ;intro O
   have u:(a:Ć)∈rg m:=by
    have D:∀i d,Jn ks i (a:Ć) d->(a:Ć)∈rg m:=λi d r=>by
     rcases r with z|z
     ·exact M _ (T1 z) _ 1e1
     ·exact M _ (T1 z) _ 1e1
    rcases h with⟨i,r,_⟩|⟨d,⟨i,r,_⟩,_⟩
    ·exact D i _ r
    ·exact D i _ r
   refine bb ((AS hk u 0e1).mpr h) λv V I=>?_;have:=A _ V O (xk hk V).2;rw[this]at I;cases I
  ·intro h;refine bb (B _ h (tp _ h)) λv V I=>?_;exact(AS hk (M _ h _ 1e1) 0e1).mp ⟨v,cR.mp V,I⟩
 let G:List ċ:=kj.map λp=>decide ([(p.1:Ć),(p.2:Ć)]∈ks)
 have sl:∀c∈gE ks (EV m ks) ks.length,tab.map (Ag (sR 0 ks c))=G:=λc C=>by
  rw[Ib];exact US λp P=>sq c C p P
 have cd:∀x,vD x=(tab.map (Ag x)).foldl (λs b=>2*s+b.toNat) 0:=λx=>by rw[List.foldl_map];rfl
 have szl:∀c∈gE ks (EV m ks) ks.length,sz (sR 0 ks c)<=12:=λc C=>by
  have e:sz (sR 0 ks c)=(tab.map (Ag (sR 0 ks c))).countP id:=by rw[Wn];rfl
  rw[e,sl c C,Wn,W3]
  have N:((kj.filter (id ∘ λp=>decide ([(p.1:Ć),(p.2:Ć)]∈ks))).map λp=>[(p.1:Ć),(p.2:Ć)]).Nodup:=by
   refine Vg _ (λx y h=>?_) (WD _ (show kj.Nodup by decide));intro z;apply h;simp[W8,Xg,and_true]at z;exact Rq z.1 z.2
  have:=N.length_le_of_subset λk H=>by
   obtain⟨p,P,rfl⟩:=SY.mp H;exact Wr (S8.mp P).2
  rw[Us]at this;exact RH this Q
 have inj:∀c∈gE ks (EV m ks) ks.length,∀d∈gE ks (EV m ks) ks.length,sR 0 ks c=sR 0 ks d->c=d:=λc C d D e=>by
  have lc:=dH _ c C;have ld:=dH _ d D
  have one:∀(c:ă)(i:ă)(I:i<ks.length)(a b:ă),ks[i]=[(a:Ć),(b:Ć)]->a<b->b<6->((sR 0 ks c).testBit (sJ a b)=ą↔c.testBit i=ą):=λc i I a b K o f=>by
   rw[lH hk 0e1 f 0e1];constructor
   ·rintro ⟨j, r, μ⟩
    have:ks[j]?=Ā [(a:Ć),(b:Ć)]:=by
     rcases r with z|z
     ·exact z
     ·refine aJ (fY hk z) λx y e h4 h5 h6 => ?_;cases e
      lia
    obtain⟨X,t⟩:=Se.mp this;have this:=(Ru R).mp (t.trans K.symm);rw[<- this];exact μ
   ·intro h;exact⟨i,.inl (by rw[<- K];exact Vw I),h⟩
  apply WT;intro i;by_cases I:i<ks.length
  ·refine aJ (hk ks[i] (Wh I)) λa b K g n L => ?_;have E:ks[i]=[((a.toNat:ă):Ć),((b.toNat:ă):Ć)]:=by rw[K,Wz g,Wz (V6 g (Tx n))]
   have q:=one c i I a.toNat b.toNat E 0e1 0e1;have o2:=one d i I a.toNat b.toNat E 0e1 0e1;rw[e]at q;exact SR.mpr (q.symm.trans o2)
  grind [Â,At,Þ]
 have N:((gE ks (EV m ks) ks.length).map (sR 0 ks)).Nodup:=by
  rw[List.Nodup,SW];refine(iT ks.length).imp_of_mem λS T h z=>?_;have:=inj _ S _ T z
  lia
 have:=N.length_le_of_subset (l₂:=(w6 15 0 []).filter λx=>decide (vD x=G.foldl (λs b=>2*s+b.toNat) 0)) λx F=>by
  obtain⟨c,C,rfl⟩:=SY.mp F
  grind [Ge,HG]
 rw[Us]at this;refine(Di _).imp (λh=>RH this h) <| z7 λy g n=>?_;rw[NO]at g;obtain⟨w,W,rfl⟩:=SY.mp g;refine⟨w,W,?_⟩;have l1:G.length=15:=by rw[Us];rfl
 have l2:(kj.map λp=>p.1 != w&&p.2 != w).length=15:=by rw[Us];rfl
 refine(yv (gl:=G) (s:=0) (s':=0) (by rw[l1,l2]) (WT λi=>?_)).2;by_cases I:i<15
 ·exact(n i I).symm
 ·have z:∀l:List ċ,l.length=15->(l.foldl (λs (b:ċ)=>2*s+b.toNat) 0).testBit i=ć:=λl Z=>WZ (Ry (by have:=BJ l 0;rw[Z]at this;simpa using this) (WY 0e3 (show 15<=i from R0 I)));rw[z _ l1,z _ l2]
end
end _v
namespace _w
open PySem _l _r _v
section
variable{F A V C:ă}{bs:List ă}{es:List Wy}
theorem Bi{M':az}(h:∀j,j<J.length->M'[j]?=J[j]?):∃g,M'=J++g:=by
 refine⟨M'.drop 3e9,?_⟩
 have:M'.take 3e9=J:=by
  apply Sf;intro j;by_cases r:j<J.length
  ·rw[TY r,h j r]
  ·rw[SU (by rw[TQ];lia),SU 0e1]
 conv=>lhs;rw[<- U0 3e9 M',this]
theorem DR.lt(h:(DR F es kvs ep M)):∀i∈kvs.map (·.2),i<M.length:=λi I=>by
 obtain⟨p,d,rfl⟩:=SY.mp I;exact(Se.mp (h.val p d)).1
theorem rf:∀b∈(List.range n).map (λi=>J.length+1+i),J.length<b:=λb B=>by
 obtain⟨i,_,rfl⟩:=SY.mp B
 lia
theorem Cd(h:(∀k∈ks,jR m k))(L:ks.length<=15)(hD:DR F es kvs ep J)(α:∀e∈es,e.1∈prs/\0<e.2/\e.2<2^ks.length)(U:(sS ks es kvs).length<=100000) :
  ∃bs g,fQ [.tup 1e5,.obj F] J=.ok 1e3 (J++g)/\NL 3e9 bs (yK (sS ks es kvs)) (J++g)/\bs.length=ks.length/\(∀b∈bs,J.length<b):=by
 let c:az:=J++.lst ((List.range ks.length).map λi=>D.obj (J.length+1+i))::List.replicate ks.length (.lst [])
 let bs:List ă:=(List.range ks.length).map λi=>J.length+1+i
 have B:bs.length=ks.length:=by simp[bs]
 have Flt:=(Se.mp hD.at').1
 have big:∀i,i<J.length->i∉J.length::bs:=λi I z=>by
  rcases Td.mp z with z|z
  ·lia
  ·have:=rf i z;lia
 refine cF (yA h B (big F Flt) (λi I=>big i (hD.lt i I)) α kvs [] c Ă Ă (rO) hD.app (λp d=>d) (by simpa using U)) λl P n T t f y=>?_
 obtain⟨g,rfl⟩:=Bi (J:=J) λj r=>by
  rw[f j (λz=>big j r (by simp[z]))];exact TX r
 refine⟨bs,g,?_,by rw[Wx]at t;exact t,B,rf⟩;unfold fQ;rw[d7,show (Ā (D.tup 1e5)::Ā (D.obj F)::List.replicate (5-2) Ă:Ro)=[Ā (.tup 1e5),Ā (.obj F),Ă,Ă,Ă] from rfl];unfold la;rw[aK,aT,br];simp[bT,ak,aa,rW,aW];rw[lU (g:=ah 0) (e:=jd) (src:=.fix 1e5) (J:=J) (λ_=>trivial) (λx a M=>⟨_,rfl⟩) (λa M=>m2 a M) (by rw[Us];exact RH L (Vj _ _)),Us];simp only[ae,aE];rw[aK,cP]
 rw[show Os (ai 1) [Ā (.tup 1e5),Ā (.obj F),Ā 1e3,Ă,Ă] c=.ok (.dks F kvs ep) c from by
  unfold Os;simp[aq,ak,aa];unfold AF;dsimp only
  rw[show c[F]?=Ā (.dct kvs ep) from aC hD.at']]
 rw[ae,show (kb.dks F kvs ep).items=kvs.map λp=>jO p.1 from rfl];rw[show bH (.dks F kvs ep) (ah 3) dc (kvs.map λp=>jO p.1) (vm ks F 3e9 Ă Ă) c=_ from T,aE,cw];simp[gK]
theorem jw:∀(vs:List ă)(x:ă),(∀v∈vs,v<=vs.foldl max x)/\x<=vs.foldl max x/\(vs.foldl max x=x\/vs.foldl max x∈vs)
 |[],x=>by simp
 |v::vs,x=>by
  refine gF (jw vs (max x v)) λH c d=>?_;refine⟨λw W=>?_,?_,?_⟩
  ·rcases Td.mp W with rfl | W
   ·exact RH (W7 _ _) c
   ·exact H w W
  ·exact RH (W6 _ _) c
  ·rw [SI];rcases d with d|d
   ·rw [d];rcases ă.le_total x v with z|z
    ·right;rw[ă.max_eq_right z];simp
    ·left;exact Sb z
   ·right;simp[d]
theorem yc:∀(vs:List ă)(x:ă),(vs.map λv:ă=>(v:Ć)).foldl max (x:Ć)=((vs.foldl max x:ă):Ć)
 |[],x=>rfl
 |v::vs,x=>by
  rw[SH,SI,SI,<- yc vs (max x v)]
  lia
theorem JY{v:ă}{vs:List ă}(h:M[j]?=Ā (.lst ((v::vs).map nD))):lE [.obj j] M=.ok (nD ((v::vs).foldl max 0)) M:=by
 unfold lE;dsimp only;unfold Ap;dsimp only;rw[h];dsimp only;rw[show (v::vs).map nD=(((v::vs).map λw:ă=>(w:Ć))).map D.int from by rw[UR];rfl,gL];rw[SH];dsimp only;rw[show Hs ((v:Ć)::vs.map λw:ă=>(w:Ć))=_ from yc vs v,SI,ă.zero_max]
noncomputable abbrev Ah(ps:List (ă×ă)):ă->List D:=λt=>(ps.filter λp=>p.2 == t).map λp=>D.obj p.1
noncomputable abbrev Hd(μ C:ă)(z:Option D):Ro:=[Ā (.obj μ),Ā (.obj C),z]
def Mk(n:ă)(M:az)(p:ă×List ă):Prop:=M[p.1]?=Ā (.lst (p.2.map nD))/\p.2≠[]/\∀v∈p.2,0<v/\v<2^n
theorem GL{vs:List ă}(H:vs≠[])(h:∀v∈vs,0<v/\v<2^n):0<vs.foldl max 0/\kg vs<n:=by
 obtain⟨a,c,d⟩:=jw vs 0;cases vs with
 |nil=>exact absurd rfl H
 |cons v r=>
  have p:0<(v::r).foldl max 0:=Ry (h v 1e1).1 (a v 1e1);refine⟨p,Bp p ?_⟩;rcases d with d|d
  ·lia
  ·exact(h _ d).2
theorem xR{μ n:ă}{all:List D}(l:bs.length=n)(hJ:μ∉C::bs):∀(rs:List (ă×List ă))(ps:List (ă×ă))(M:az)(o2:Option D),NL C bs (Ah ps) M->M[μ]?=Ā (.lst all)->(∀p∈rs,Mk n M p/\p.1∉C::bs)->ps.length+rs.length<=100000 ->
  ∃M' p2,bH (.own μ all) (ah 2) eo (rs.map λp=>D.obj p.1) (Hd μ C o2) M=.next (Hd μ C p2) M'/\NL C bs (Ah (ps++rs.map λp=>(p.1,kg p.2))) M'/\(∀i,i∉bs->M'[i]?=M[i]?)/\M'.length=M.length
 |[],ps,M,o2,h,hM,R,L=>by
  refine⟨M,o2,?_,by simpa using h,λ_ _=>rfl,rfl⟩;rw[Uh];unfold bH;rw[RC (show bf (.own μ all) _ from hM)]
 |p::rs,ps,M,o2,h,hM,R,L=>by
  simp at L;obtain⟨⟨K,d,o⟩,S⟩:=R p 1e1;obtain⟨t,T⟩:=GL d o
  obtain⟨b,c,H,X,w,y,j,x⟩:=h.push (p:=(kg p.2:Ć)) (WC _) 0e1 (by
   rw[Us]
   exact RH (WN _ _) (RH (RA _ _) L))
  rw[VT]at H j x;have B:=T1 H;have G:∀i,i∉bs->c[i]?=M[i]?:=λi I=>by rw[x,Th (λz=>I (by rw[<- z];exact B))]
  have s:eo (Hd μ C (Ā (.obj p.1))) M=.next (Hd μ C (Ā (.obj p.1))) c:=by
   unfold eo;rw[jo,nB,aG];simp only[aq,ak,aa]
   rw[show au gG (iu GF (aA lE (ag (ai 2) (aw)))) 2e2 (Hd μ C (Ā (.obj p.1))) M=.ok (.int (kg p.2:Ć)) M from by
    rw[aG,jH,aL];simp[ay,aB,aq,ak,aa]
    rw[show lE [.obj p.1] M=.ok (nD (p.2.foldl max 0)) M from by
     cases a:p.2 with
     |nil=>exact absurd a d
     |cons v r=>rw[a]at K;exact JY K]
    rw[aa]
    exact G8 t M]
   rw[aa,X,aa,w,RC rfl];simp[ay,aB,aq,ak,aa];rw[y];rfl
  have N:NL C bs (Ah (ps++[(p.1,kg p.2)])) c:=j.ext λi I=>by
   unfold vn Ah;rw[WO];by_cases e:i=kg p.2
   ·subst e;simp
   ·rw [RE e];have:(kg p.2 == i)=ć:=by simp;exact R7 e
    simp[this]
  obtain⟨M',p2,α,W,E,P⟩:=xR l hJ rs (ps++[(p.1,kg p.2)]) c (Ā (.obj p.1)) N (by rw[G μ (λz=>hJ (by simp[z]))];exact hM) (λq Q=>by
   obtain⟨⟨f,k,g⟩,u⟩:=R q (by simp[Q])
   exact⟨⟨by rw[G q.1 (λz=>u (by simp[z]))];exact f,k,g⟩,u⟩) (by simp;exact RH (RI (RJ _ _ _)) L)
  refine⟨M',p2,?_,by rw[Va]at W;exact W,λi I=>(E i I).trans (G i I),by rw[P,x];simp⟩;rw[SH];unfold bH;rw[RC (show bf (.own μ all) _ from hM),show ah 2 (.obj p.1) (Hd μ C o2) M=.ok (Hd μ C (Ā (.obj p.1))) M from rfl,ae,s];exact α
theorem wh{μ:ă}{rs:List (ă×List ă)}(hJ:J[μ]?=Ā (.lst (rs.map λp=>D.obj p.1)))(R:∀p∈rs,Mk n J p)(h:rs.length=n)(h15:n<=15):
  ∃bs g,fP [.obj μ] J=.ok 1e3 (J++g)/\NL 3e9 bs (Ah (rs.map λp=>(p.1,kg p.2))) (J++g)/\bs.length=n/\(∀b∈bs,J.length<b):=by
 let c:az:=J++.lst ((List.range n).map λi=>D.obj (J.length+1+i))::List.replicate n (.lst [])
 let bs:List ă:=(List.range n).map λi=>J.length+1+i
 have B:bs.length=n:=by simp[bs]
 have big:∀i,i<J.length->i∉J.length::bs:=λi I z=>by
  rcases Td.mp z with z|z
  ·lia
  ·have:=rf i z;lia
 have Jlt:=(Se.mp hJ).1
 obtain⟨l,P,y,W,α,o⟩:=xR B (big μ Jlt) rs [] c Ă (rO) (aC hJ) (λp H=>by
  obtain⟨f,k,d⟩:=R p H
  exact⟨⟨aC f,k,d⟩,big _ (Se.mp f).1⟩) (by simp;lia)
 obtain⟨g,rfl⟩:=Bi (J:=J) λj r=>by
  rw[α j (λz=>big j r (by simp[z]))];exact TX r
 refine⟨bs,g,?_,by rw[Wx]at W;exact W,B,rf⟩;unfold fP;rw[bW];unfold k9;simp;rw[bP hJ,aa,bM,lU (g:=ah 0) (e:=jc) (src:=.own μ (rs.map λp=>D.obj p.1)) (J:=J) (λ_=>aC hJ) (λx a M=>⟨_,rfl⟩) (λa M=>m2 a M) (by rw[Us];lia),Us,h];simp;rw[bP (show c[μ]?=_ from aC hJ)]
 simp_all[gK]
end
end _w
namespace _v
noncomputable def vf(bs:List ċ)(t:ă)(c:ċ):ċ:=match bs[t]? with
 |none=>ą
 |some b=>b == c
def DN(ks:0e2)(es:List Wy)(bs:List ċ)(t:ă)(s:List ă):List ă:=((if vf bs t ć=ą then s else [])++(if vf bs t ą=ą then (s.map λc=>c ||| 2^t).filter λc=>!GG ks es t c else [])).filter (stB ks es t)
def GH(ks:0e2)(es:List Wy)(bs:List ċ):ă->List ă
 |0=>[0]
 |t+1=>DN ks es bs t (GH ks es bs t)
def sL(bs:List ċ)(t c:ă):ċ:=(List.range t).all λi=>vf bs i (c.testBit i)
theorem yG{bs:List ċ}{t:ă}:sL bs (t+1) c=(sL bs t c&&vf bs t (c.testBit t)):=by
 unfold sL;rw[WG,List.all_append];simp
theorem K1{bs:List ċ}{t:ă}(h:c<2^t):sL bs (t+1) c=(sL bs t c&&vf bs t ć):=by
 rw[yG,WZ h]
theorem Gw{bs:List ċ}{t:ă}(h:c<2^t):sL bs (t+1) (c ||| 2^t)=(sL bs t c&&vf bs t ą):=by
 rw[yG];have E:(c ||| 2^t).testBit t=ą:=by rw[W1,WU];simp
 have m:sL bs t (c ||| 2^t)=sL bs t c:=by
  unfold sL;apply SR.mpr;rw[SL,SL]
  have:∀i∈List.range t,(c ||| 2^t).testBit i=c.testBit i:=λi I=>by
   have:=SM.mp I;rw[W1,WU,RD (Sa this),YM]
  exact⟨λh i I=>by rw[<- this i I];exact h i I,λh i I=>by rw[this i I];exact h i I⟩
 rw[E,m]
section
variable{es:List Wy}{bs:List ċ}
theorem uM{p q:β->ċ}{b:ċ}{l:List β}(h:∀x∈l,p x=(q x&&b)):l.filter p=if b=ą then l.filter q else []:=by
 cases b with
 |true=>
  rw[RC rfl];exact List.filter_congr λx d=>by rw[h x d,ċ.and_true]
 |false=>
  rw[RE RF];exact List.filter_eq_nil_iff.mpr λx d=>by rw[h x d,Ø];exact RF
theorem vU:∀t,GH ks es bs t=(gE ks es t).filter (sL bs t)
 |0=>rfl
 |t+1=>by
  unfold GH gE DN DO;have lt:=dH (ks:=ks) (es:=es) t
  have G:∀{p q:ă->ċ}{l:List ă},(l.filter p).filter q=(l.filter q).filter p:=λ{p q l}=>by
   rw[List.filter_filter,List.filter_filter];exact List.filter_congr λc _=>ċ.and_comm _ _
  rw[vU t,G (p:=stB ks es t) (q:=sL bs (t+1))];congr 1;rw[WO (p:=sL bs (t+1))];congr 1
  ·exact(uM λc C=>K1 (lt c C)).symm
  ·rw[G (p:=λc=>!GG ks es t c) (q:=sL bs (t+1)),WE (p:=sL bs (t+1)),uM (q:=sL bs t) (b:=vf bs t ą) (p:=sL bs (t+1) ∘ λc=>c ||| 2^t) λc C=>Gw (lt c C)];split <;> rfl
end
end _v
namespace _w
open PySem _l _r _v
theorem og{U:Type}{en:U->D}{src:kb}{g:MG}{t:MT}{e:ME}{M0:az}{q:U->ċ}{h:U->D}(R:Ro->Prop)(O:∀a s,bf src (M0++.lst a::s)) :
  ∀{us:List U}{acc:List D}{ρ:Ro}{s:az},R ρ->acc.length+us.length<=sizeLine->(∀x∈us,∀a s ρ,R ρ->∃ρ1 s1 s2,R ρ1/\g (en x) ρ (M0++.lst a::s)=.ok ρ1 (M0++.lst a::s)/\t ρ1 (M0++.lst a::s)=.ok (q x) (M0++.lst a::s1)/\(q x=ą->e ρ1 (M0++.lst a::s1)=.ok (h x) (M0++.lst a::s2))) ->
   ∃s',compLoop src M0.length g t e (us.map en) ρ (M0++.lst acc::s)=.ok (.obj M0.length) (M0++.lst (acc++(us.filter q).map h)::s')
 |[],acc,ρ,s,r,L,H=>by
  refine⟨s,?_⟩;rw[Uh];unfold compLoop;rw[RC (O acc s)];simp
 |x::X,acc,ρ,s,r,L,H=>by
  refine cF (H x Ta acc s ρ r) λρ1 s1 s2 r1 E m o=>?_;have l:=λy α=>H y (Tb _ α);simp only[Uu]at L;cases z:q x with
  |false=>
   obtain⟨s',i⟩:=og R O (acc:=acc) (s:=s1) r1 (RK L) l;refine⟨s',?_⟩;rw[SH];unfold compLoop;rw[RC (O acc s),E];simp only[af,aa];rw[m];simp only[af,aa];rw[z,RE RF,i,Wb,z];rfl
  |true=>
   obtain⟨s',i⟩:=og R O (us:=X) (acc:=acc++[h x]) (s:=s2) r1 (by simp;exact RH (RI (RJ _ _ _)) L) l;refine⟨s',?_⟩;rw[SH];unfold compLoop;rw[RC (O acc s),E];simp only[af,aa];rw[m];simp only[af,aa];rw[z,RC rfl,o z];simp only[af,aa];rw[fU (Ry (Rz (RA _ _)) L)];simp only[aa,af];rw[i,Wb,z];simp
def Lm(bs:List ċ)(ps:List ă)(rs:List (ă×List ă))(t:ă)(s:List ă):List ă:=
 ((if vf bs t ć=ą then s else [])++if vf bs t ą=ą then (s.map λc=>c ||| 2^t).filter λc=>!((ps.filter λv=>v.log2 == t).any (ir c)) else []).filter λc=>(rs.filter λp=>kg p.2 == t).all λp=>p.2.any (ir c)
section
variable{C S:ă}{bs:List ċ}{cb sb:List ă}{ps:List ă}{rs:List (ă×List ă)}{B:az}{r0 r1 r3 r4 o9 o10:Option D}
noncomputable abbrev Ai(bs:List ċ):D:=.tup (bs.map D.bl)
abbrev z9(bs:List ċ)(r0 r1 r3 r4:Option D)(C S H t:ă)(o9 o10:Option D):Ro:=[r0,r1,Ā (Ai bs),r3,r4,Ā (.obj C),Ā (.obj S),Ā (.obj H),Ā (.int (t:Ć)),o9,o10]
theorem BM{t:ă}{R:Ro}{N:az}{T:MT}{c:ċ}(e2:R[2]?=Ā (Ā (Ai bs)))(e:R[8]?=Ā (Ā (.int (t:Ć))))(hT:∀b,bs[t]?=Ā b->T R N=.ok (b == c) N) :
  mJ (eP (au (fL .GtE) (ai 8) (aA eU (ag (ai 2) (aw))))) T R N=.ok (vf bs t c) N:=by
 simp only[rm,cc,aG,(show ai 8 R N=.ok (.int (t:Ć)) N by unfold ai;rw[e]),aa,aL,ay,(show ai 2 R N=.ok (Ai bs) N by unfold ai;rw[e2]),aB,gw,d9,Us,show cmpI .GtE (t:Ć) ((bs.length:ă):Ć)=decide (bs.length<=t) from by unfold cmpI;simp,vf,bC]
 grind
theorem BL{t:ă}{R:Ro}{N:az}{b:ċ}(e2:R[2]?=Ā (Ā (Ai bs)))(e:R[8]?=Ā (Ā (.int (t:Ć))))(h:bs[t]?=Ā b):gp (au bN (ai 2) (ai 8)) R N=.ok b N:=by
 simp_all[ai,jX,lN]
theorem yn{a b:ă}(H:M[a]?=Ā (O.lst xs))(c:M[b]?=Ā (O.lst ys))(L:xs.length+ys.length<=1000000):iB (.obj a) (.obj b) M=.ok (.obj a) (M.set a (O.lst (xs++ys))):=by
 unfold iB;simp only[H,c];rw[RC (RH L 0e3)]
theorem Gm{M0 s:az}{a:List D}{t:ă}(hS:NL S sb (Ah (rs.map λp=>(p.1,kg p.2))) M0)(r:∀p∈rs,M0[p.1]?=Ā (O.lst (p.2.map nD))/\p.2.length<=100000)(i:sb.length=n)(T:t<n)(L:rs.length<=100000):
  ∃s1,c8 [Ā (nD c),Ā (.obj S),Ā (.int (t:Ć))] (M0++O.lst a::s)=.ok ((rs.filter λp=>kg p.2 == t).all λp=>p.2.any (ir c)) (M0++O.lst a::s1):=by
 let M:az:=M0++O.lst a::s
 obtain⟨b,H,x,G⟩:=(hS.app).ix (p:=(t:Ć)) (WC _) 0e1;rw[VT]at H G;let q:=rs.filter λp=>kg p.2 == t
 have e:Ah (rs.map λp=>(p.1,kg p.2)) t=q.map λp=>D.obj p.1:=by
  unfold Ah;rw[WE,UR];rfl
 rw[e]at G;have l:q.length<=100000:=RH (WN _ _) L
 have f:=cy (src:=.own b (q.map λp=>D.obj p.1)) (g:=ah 0) (t:=a9) (e:=gk) (J1:=M) (λd=>∃o,d=[o,Ā (nD c)]) (λ_=>aC G) (acc:=[]) (ρ:=cT [Ă,Ā 0] [Ā (nD c),Ā (.obj S),Ā (.int (t:Ć))]) ⟨Ă,rfl⟩ (by simp only[UU];exact RH (show 0+q.length<=100000 from RH (RI (UP _ _)) l) 0e3) (λp h A d hR=>by
  obtain⟨o,rfl⟩:=hR;refine⟨[Ā (.obj p.1),Ā (nD c)],⟨_,rfl⟩,rfl,rfl,λ_=>?_⟩;unfold gk;obtain⟨K,k⟩:=r p (S8.mp h).1
  exact xN (aC (aC K)) k)
 rw[fA]at f;refine⟨s++[O.lst (q.map λp=>.bl (p.2.any (ir c)))],?_⟩;simp only[c8,iR,aL,ay,br,bT,aG,aq,ak,aa];rw[x,aa,bP G,aa,bM,f];simp only[aa,aB];rw[Ga (bs:=q.map λp=>p.2.any (ir c)) 1e1];simp only[List.all_map,M,Va];rfl
theorem Gn{H t:ă}{cs:List ă}(hC:NL C cb (yK ps) B)(hcb:cb.length=n)(hS:NL S sb (Ah (rs.map λp=>(p.1,kg p.2))) B)(μ:sb.length=n)(α:∀p∈rs,B[p.1]?=Ā (O.lst (p.2.map nD))/\p.2.length<=100000)(E:ps.length<=100000)(I:rs.length<=100000)(ht:t<n)(h15:t<=15)
  (hH:(B++g)[H]?=Ā (O.lst (cs.map nD))) (z:cs.length<=100000) :
  ∃g' H' p9 p10,de (z9 bs r0 r1 r3 r4 C S H t o9 o10) (B++g)=.next (z9 bs r0 r1 r3 r4 C S H' t p9 p10) (B++g')/\(B++g')[H']?=Ā (O.lst ((Lm bs ps rs t cs).map nD))/\B.length<=H':=by
 let G:=(B++g).length
 have hHl:H<(B++g).length:=(Se.mp hH).1;let b1:=vf bs t ć
 let b2:=vf bs t ą
 let A:List ă:=if b1=ą then cs else []
 have Al:A.length<=cs.length:=by
  grind
 let u:az:=(B++g)++[O.lst []]
 let M:az:=(B++g)++[O.lst (A.map nD)]
 have i1:iB (.obj G) (.obj H) u=.ok (.obj G) ((B++g)++[O.lst (cs.map nD)]):=by
  rw[yn av (aC hH) (by rw[UU,Us];lia)]
  grind
 let l:=cs.map λc=>c ||| 2^t
 have lgl:l.length=cs.length:=by simp[l]
 have hH2:M[H]?=Ā (O.lst (cs.map nD)):=aC hH
 have K:=cy (src:=.own H (cs.map nD)) (g:=ah 0) (t:=a9) (e:=dg) (J1:=M) (λd=>∃o,d=[o,Ā (.int (t:Ć))]) (λ_=>aC hH2) (acc:=[]) (ρ:=[Ă,Ā (.int (t:Ć))]) ⟨Ă,rfl⟩ (by simp only[UU];exact RH (show 0+cs.length<=100000 from RH (RI (UP _ _)) z) 0e3) (λx Z a d hR=>by
  obtain⟨o,rfl⟩:=hR;refine⟨[Ā (nD x),Ā (.int (t:Ć))],⟨_,rfl⟩,rfl,rfl,λ_=>?_⟩;unfold dg;simp only[aG,aq,ak,bg,aa,af]
  rw[nJ h15,aa,xc])
 rw[fA,Wx,show (cs.map λc=>nD (c ||| 2^t))=l.map nD from by rw[UR];rfl]at K;let j:az:=M++[O.lst (l.map nD)]
 have hL3:j[M.length]?=Ā (O.lst (l.map nD)):=av;let L:ă->ċ:=λc=>!((ps.filter λv=>v.log2 == t).any (ir c))
 have hC3:NL C cb (yK ps) j:=by
  show NL C cb (yK ps) ((B++g)++[O.lst (A.map nD)]++[O.lst (l.map nD)]);exact hC.app.app.app
 have P:=cy (src:=.own M.length (l.map nD)) (g:=ah 0) (t:=c9) (e:=eF) (J1:=j) (q:=L) (h:=nD) (λd=>∃o,d=[o,Ā (.obj C),Ā (.int (t:Ć))]) (λ_=>aC hL3) (us:=l) (acc:=[]) (ρ:=[Ă,Ā (.obj C),Ā (.int (t:Ć))]) ⟨Ă,rfl⟩ (by simp only[UU];exact RH (show 0+l.length<=100000 by lia) 0e3) (λx Z a d hR=>by
  obtain⟨o,rfl⟩:=hR;refine⟨[Ā (nD x),Ā (.obj C),Ā (.int (t:Ć))],⟨_,rfl⟩,rfl,?_,λ_=>rfl⟩;refine bo ((hC3.app (g:=[O.lst a])).ix (p:=(t:Ć)) 0e1 0e1) λb k x1 F=>?_;rw[VT]at k F;unfold c9;rw[mZ,iR,aL];simp only[ay,aB,aG,aq,ak,aa,af];rw[x1];simp only[aa,af];rw[xN (vs:=ps.filter λv=>v.log2 == t) F (RH (WN _ _) E)]
  rfl)
 rw[Wx]at P;have ql:(l.filter L).length<=100000:=RH (WN _ _) (RH (RI lgl) z);let r:=A++if b2=ą then l.filter L else []
 have f:∃m p10,gS (mJ (eP (au (fL .GtE) (ai 8) (aA eU (ag (ai 2) (aw))))) (gp (au bN (ai 2) (ai 8)))) (aY (aZ (bq (dz (ai 7)) [Ă,Ā 8] (ah 0) (a9) (dg)) (ah 10))
 (qT 9 iB (bq (dz (ai 10)) [Ă, Ā 5, Ā 8] (ah 0) (c9) (eF)))) (b9) (z9 bs r0 r1 r3 r4 C S H t (Ā (.obj G)) o10) M = .next (z9 bs r0 r1 r3 r4 C S H t (Ā (.obj G)) p10) ((B ++ g) ++ [O.lst (r.map nD)] ++ m) := by
  have tt:=BM (bs:=bs) (t:=t) (R:=z9 bs r0 r1 r3 r4 C S H t (Ā (.obj G)) o10) (N:=M) (T:=gp (au bN (ai 2) (ai 8))) (c:=ą) rfl rfl (λb w=>by rw[BL rfl rfl w];cases b <;> rfl);rw[bE,tt];simp only[ae,af];cases y:vf bs t ą with
  |false=>
   refine⟨[],o10,?_⟩;have:r=A:=by grind
   rw[this,TC,RE RF];rfl
  |true=>
   have eg:r=A++l.filter L:=by simp only[r,b2,y,T8]
   refine⟨[O.lst (l.map nD),O.lst ((l.filter L).map nD)],Ā (.obj M.length),?_⟩
   have i2:iB (.obj G) (.obj j.length) (j++[O.lst ((l.filter L).map nD)])=.ok (.obj G) ((B++g)++[O.lst (r.map nD)]++[O.lst (l.map nD),O.lst ((l.filter L).map nD)]):=by
    rw[yn (xs:=A.map nD) (ys:=(l.filter L).map nD) (aC (aC av)) av (by rw[Us,Us];lia)];rw[<- U1,eg];congr 1;show ((B++g)++[O.lst (A.map nD)]++[O.lst (l.map nD)]++[O.lst ((l.filter L).map nD)]).set G _=_;simp only[Va];rw[<- Va B g,List.set_append_right _ _ (Rx _),G_];simp
   rw[RC rfl];rw[aK,aT,br];simp only[bT,aq,ak,aa,af];rw[bP hH2,aa,bM];rw[show compLoop (.own H (cs.map nD)) M.length (ah 0) a9 dg (cs.map nD) (cT [Ă,Ā 8] (z9 bs r0 r1 r3 r4 C S H t (Ā (.obj G)) o10)) (M++[O.lst []])=_ from K];unfold qT;simp only[ae,af,bG,aE,Wu,Wv,aq,ak];rw[br];simp only[bT,aq,ak,aa,af];rw[bP hL3,aa,bM];rw[show compLoop (.own M.length (l.map nD)) (M++[O.lst (l.map nD)]).length (ah 0) c9 eF (l.map nD) (cT [Ă,Ā 5,Ā 8] (z9 bs r0 r1 r3 r4 C S H t (Ā (.obj G)) (Ā (.obj M.length)))) (M++[O.lst (l.map nD)]++[O.lst []])=_ from P];simp[*]
 refine K4 f λm p10 f=>?_;let i:az:=(B++g)++[O.lst (r.map nD)]++m
 have hG5:i[G]?=Ā (O.lst (r.map nD)):=aC av
 have grl:r.length<=200000:=by
  show (A++if b2=ą then l.filter L else []).length<=_;rw[Uq];split
  ·lia
  ·rw[UU];exact RH Al (RH z (Vj _ _))
 have hS5:NL S sb (Ah (rs.map λp=>(p.1,kg p.2))) i:=by
  show NL S sb _ ((B++g)++[O.lst (r.map nD)]++m);exact hS.app.app.app
 obtain⟨D,Q⟩:=og (U:=ă) (en:=nD) (src:=.own G (r.map nD)) (g:=ah 0) (t:=c8) (e:=gj) (M0:=i) (q:=λc=>(rs.filter λp=>kg p.2 == t).all λp=>p.2.any (ir c)) (h:=nD) (λd=>∃o,d=[o,Ā (.obj S),Ā (.int (t:Ć))]) (λ_ _=>aC hG5) (us:=r) (acc:=[]) (ρ:=[Ă,Ā (.obj S),Ā (.int (t:Ć))]) (s:=[]) ⟨Ă,rfl⟩ (by simp only[UU];exact RH (show 0+r.length<=200000 from RH (RI (UP _ _)) grl) 0e3) (λx Z a s d hR=>by
  obtain⟨o,rfl⟩:=hR;obtain⟨V,W⟩:=Gm (a:=a) (s:=s) (c:=x) hS5 (λp X=>⟨aC (aC (aC (α p X).1)),(α p X).2⟩) μ ht I
  exact⟨[Ā (nD x),Ā (.obj S),Ā (.int (t:Ć))],V,V,⟨_,rfl⟩,rfl,W,λ_=>rfl⟩)
 rw[Wx]at Q
 have eM:i++O.lst ((Lm bs ps rs t cs).map nD)::D=B++(g++[O.lst (r.map nD)]++m++O.lst ((Lm bs ps rs t cs).map nD)::D):=by
  simp[i]
 refine⟨_,i.length,Ā (.obj G),p10,?_,by rw[<- eM];exact av,by simp[i]⟩;rw[<- eM];have tf:=BM (bs:=bs) (t:=t) (R:=z9 bs r0 r1 r3 r4 C S H t (Ā (.obj (B++g).length)) o10) (N:=u) (T:=iC (gp (au bN (ai 2) (ai 8)))) (c:=ć) rfl rfl (λb w=>by rw[mZ,BL rfl rfl w,aa];cases b <;> rfl)
 have first:gS (mJ (eP (au (fL .GtE) (ai 8) (aA eU (ag (ai 2) (aw))))) (iC (gp (au bN (ai 2) (ai 8))))) (qT 9 iB (ai 7)) (b9) (z9 bs r0 r1 r3 r4 C S H t (Ā (.obj (B++g).length)) o10) u=.next (z9 bs r0 r1 r3 r4 C S H t (Ā (.obj G)) o10) M:=by
  rw[bE,tf];simp only[ae,af];cases k:vf bs t ć with
  |false=>
   have:A=[]:=by lia
   rw[RE RF];simp only[M,this];rfl
  |true=>
   have:A=cs:=by lia
   rw[RC rfl];unfold qT;simp only[aq,ak,aa,af,ae];rw[show iB (.obj (B++g).length) (.obj H) u=_ from i1];simp only[ae,af,bG,aE,Wu,Wv,M,this]
 unfold de;rw[aK,aT,m2];simp only[ae,af,bG,aE,Wu,Wv];rw[aK,first,aE,aK,f,aE];rw[aT,br];simp only[bT,aq,ak,aa,af];rw[bP hG5,aa,bM];rw[show compLoop (.own G (r.map nD)) i.length (ah 0) c8 gj (r.map nD) (cT [Ă,Ā 6,Ā 8] (z9 bs r0 r1 r3 r4 C S H t (Ā (.obj G)) p10)) (i++[O.lst []])=_ from Q];rfl
end
section
variable{F:ă}{es:List Wy}
theorem iQ(h:GW m ks):∀k∈ks,Ox k:=λk K=>by
 refine aJ (h.2.2.2.2 k K) λa b G H c d=>?_;subst G;have:=h.m6;exact⟨a,b,rfl,H,c,by lia⟩
theorem xi(h:GW m ks):∀k∈ks,∀x∈k,x∈rg m:=λk H x X=>by
 refine aJ (h.2.2.2.2 k H) λa b G c d e=>?_;subst G;rw[jU]
 grind
theorem n7(h:GW m ks):ks.Nodup:=h.2.2.2.1.imp λh e=>by subst e;lia
theorem Kw(h:GW m ks):(EV m ks).length<=1500:=by
 have L:=ed h;have z:=jn ks (W0 m);rw[(show (W0 m).length=m by simp[W0,Bd])]at z;have m6:=WQ h.m6 L;have K:=jn ks (jQ ks (W0 m));have a:(jQ ks (W0 m)).length*ks.length<=90*15:=WQ (RH z m6) L;unfold EV oV
 grind
theorem rn(h:GW m ks):∀e∈EV m ks,e.1∈prs/\0<e.2/\e.2<2^ks.length:=λe n=>by
 refine⟨?_,xk (iQ h) n⟩;refine aJ ((gY (iQ h)).mp n) λp q H t E r=>?_;rw[E]
 have Q:q<6:=by
  have lt:∀i d,Jn ks i d q->q<6:=λi d r=>by
   rcases r with z|z
   all_goals refine aJ (fY (iQ h) z) λx y e a f b=>?_;cases e;lia
  grind
 have:=(jU.mp H);exact jR.prs ⟨p,q,rfl,this.1,t,Q⟩ 0e3
theorem vK(h:GW m ks)(H:k∈ks):iI (EV m ks) k≠[]:=by
 refine aJ (h.2.2.2.2 k H) λa b V d c f=>?_;subst V;obtain⟨i,I,e⟩:=VU H;have this:=cR.mpr ((gY (iQ h)).mpr ⟨a,b,xi h _ H a 1e1,c,rfl,.inl ⟨i,.inl (by simp_all),rfl⟩⟩)
 grind
theorem ya:∀k,(iI es k).length<=es.length:=λk=>by
 unfold iI;rw[Us];exact WN _ _
theorem xD:∀kvs:List (List Ć×ă),(sS ks es kvs).length<=kvs.length*es.length
 |[]=>by simp[sS]
 |p::r=>by
  have i:=xD r;have:=ya (es:=es) p.1;unfold sS at i⊢;rw[WH,Uq,Uu,Yp];split
  ·rw[UU];lia
  ·lia
theorem xC(hD:(DR F es kvs ep M)){v:ă}:v∈sS ks es kvs↔∃k,k∉ks/\(k,v)∈es:=by
 unfold sS;rw[WA];constructor
 ·rintro ⟨p, d, V⟩
  split at V
  ·cases V
  ·rename_i n;exact⟨p.1,n,cR.mp V⟩
 ·rintro ⟨k, n, V⟩
  obtain⟨p,d,rfl⟩:=SY.mp ((hD.key k).mpr ⟨v,V⟩);exact⟨p,d,by rw[RE n];exact cR.mpr V⟩
def DD(kvs:(List (List Ć×ă)))(k:List Ć):ă:=(DG kvs k).getD 0
theorem IW{bs:List ċ}(hD:(DR F es kvs ep M))(t:ă)(s:List ă):Lm bs (sS ks es kvs) (ks.map λk=>(DD kvs k,iI es k)) t s=DN ks es bs t s:=by
 unfold Lm DN
 have E:∀c,((sS ks es kvs).filter λv=>v.log2 == t).any (ir c)=GG ks es t c:=λc=>by
  unfold GG;apply SR.mpr;rw[WK,WK];constructor
  ·grind [xC]
  ·rintro ⟨e, n, B⟩
   grind [xC]
 have a:∀c,(((ks.map λk=>(DD kvs k,iI es k)).filter λp=>kg p.2 == t).all λp=>p.2.any (ir c))=stB ks es t c:=λc=>by
  unfold stB;apply SR.mpr;simp
 simp[E,a]
theorem zN{bs:List ċ}(t:ă)(T:t<=15):(GH ks es bs t).length<=100000:=by
 rw[vU];refine RH (WN _ _) ?_;have:=(show (gE ks es t).Nodup from (iT t).imp λh=>Sn h).length_le_of_subset λc C=>SM.mpr (dH t c C);rw[UT]at this;have p:2^t<=2^15:=WY 0e3 T;exact RH this (RH p (Vj _ _))
theorem yD{bs:List ċ}{C S n:ă}{cb sb:List ă}{B:az}{r0 r1 r3 r4:Option D}{all:List D}{N:az}(hD:DR F es kvs ep N)(hC:NL C cb (yK (sS ks es kvs)) B)(h:cb.length=n)(hS:NL S sb (Ah ((ks.map λk=>(DD kvs k,iI es k)).map λp=>(p.1,kg p.2))) B)(b:sb.length=n)
  (r:∀p∈ks.map (λk=>(DD kvs k,iI es k)),B[p.1]?=Ā (.lst (p.2.map nD))/\p.2.length<=100000) (L:(sS ks es kvs).length<=100000) (G:ks.length<=15) (d:n<=15) :
  ∀(k t:ă)(g:az)(H:ă)(o8 o9 o10:Option D),t+k=n->(B++g)[H]?=Ā (.lst ((GH ks es bs t).map nD))->B.length<=H ->
   ∃g' H' p8 p9 p10,bH (.fix all) (ah 8) de (bc (t:Ć) k) [r0,r1,Ā (Ai bs),r3,r4,Ā (.obj C),Ā (.obj S),Ā (.obj H),o8,o9,o10] (B++g)=.next [r0,r1,Ā (Ai bs),r3,r4,Ā (.obj C),Ā (.obj S),Ā (.obj H'),p8,p9,p10] (B++g')/\(B++g')[H']?=Ā (.lst ((GH ks es bs n).map nD))/\B.length<=H'
 |0,t,g,H,o8,o9,o10,T,hH,hB=>by
  refine⟨g,H,o8,o9,o10,?_,by rw[show n=t from R9 T];exact hH,hB⟩;rw[fT];unfold bH;rw[RC (show bf (.fix all) _ from trivial)]
 |k+1,t,g,H,o8,o9,o10,T,hH,hB=>by
  obtain⟨z,c,p9,p10,f,a,A⟩:=Gn hC h hS b r L (by rw[Us];exact RH G (Vj _ _)) (show t<n by lia) 0e1 hH (zN t 0e1);rw[IW hD]at a;obtain⟨g',H',q,Q,q10,b1,b2,b3⟩:=yD hD hC h hS b r L G d k (t+1) z c (Ā (.int (t:Ć))) p9 p10 (RM (RJ _ _ _) T) a A;refine⟨g',H',q,Q,q10,?_,b2,b3⟩;rw[eW];unfold bH;rw[RC (show bf (.fix all) _ from trivial),show ah 8 (.int (t:Ć)) [r0,r1,Ā (Ai bs),r3,r4,Ā (.obj C),Ā (.obj S),Ā (.obj H),o8,o9,o10] (B++g)=.ok (z9 bs r0 r1 r3 r4 C S H t o9 o10) (B++g) from rfl,ae,f];exact b1
theorem ot{bs:List ċ}(h:GW m ks):∃g r,cK [aQ m ks,.int 2,Ai bs] J=.ok (.obj r) (J++g)/\(J++g)[r]?=Ā (.lst ((GH ks (EV m ks) bs ks.length).map nD))/\J.length<=r:=by
 have L:=ed h;refine cF (Eu (J:=J) h) λkvs ep U W hD μ T=>?_;obtain⟨z,rfl⟩:=μ;have es:=rn h;have s:=Kw h;have I:=hD.len λe y=>(es e y).1
 have u:(sS ks (EV m ks) kvs).length<=100000:=by
  have:=xD (ks:=ks) (es:=EV m ks) kvs;have p:kvs.length*(EV m ks).length<=15*1500:=WQ I s;exact RH this (RH p (Vj _ _))
 refine aJ (Cd (J:=J++z) h.2.2.2.2 L hD es u) λα K Q nC l gcb=>?_;have hD2:DR 3e9 (EV m ks) kvs ep (J++z++K):=hD.app
 have at':∀k∈ks,(k,DD kvs k)∈kvs:=λk H=>by
  obtain⟨c,w⟩:=List.exists_mem_of_ne_nil _ (vK h H);obtain⟨p,d,rfl⟩:=SY.mp ((hD.key k).mpr ⟨c,cR.mp w⟩);unfold DD;rw[jr hD.kn d];exact d
 let b:az:=J++z++K
 let R:List (ă×List ă):=ks.map λk=>(DD kvs k,iI (EV m ks) k)
 let f:az:=b++[.lst (ks.map λk=>D.obj (DD kvs k))]
 have C:=cy (src:=.fix 1e5) (g:=ah 0) (t:=a9) (e:=eG) (J1:=b) (λq=>∃o,q=[o,Ā 1e3]) (λ_=>trivial) (us:=ks) (acc:=[]) (ρ:=[Ă,Ā 1e3]) ⟨Ă,rfl⟩ (by simp only[UU];exact RH 0e1 cj) (λx X a q hR=>by
  obtain⟨o,rfl⟩:=hR;refine⟨[Ā (ax x),Ā 1e3],⟨_,rfl⟩,rfl,rfl,λ_=>?_⟩;unfold eG;simp only[aG,aq,ak,aa,af];unfold qW ax;dsimp only;rw[aC hD2.at',gL];dsimp only
  rw[jr hD.kn (at' x X)])
 rw[fA,Wx]at C
 have hJ:f[b.length]?=Ā (.lst (R.map λp=>D.obj p.1)):=by
  rw[show f[b.length]?=_ from av,UR];rfl
 obtain⟨sb,G,S,nS,n,gsb⟩:=wh (J:=f) hJ (λp d=>by
  obtain⟨k,H,rfl⟩:=SY.mp d
  exact⟨aC (hD2.val _ (at' k H)),vK h H,λv V=>(es _ (cR.mp V)).2⟩) (by rw[Us]) L
 let B:az:=f++G
 have A:∀p∈R,B[p.1]?=Ā (.lst (p.2.map nD))/\p.2.length<=100000:=λp d=>by
  refine bb (SY.mp d) λk H P=>?_;subst P;exact⟨aC (aC (hD2.val _ (at' k H))),RH (ya k) (RH s (Vj _ _))⟩
 obtain⟨j,i,Z,O,p10,b1,b2,b3⟩:=yD (B:=B) hD nC.app.app l nS n A u L L ks.length 0 [.lst [nD 0]] B.length Ă Ă Ă (UP _ _) av (Rx _);have eB:B++j=J++(z++K++[.lst (ks.map λk=>D.obj (DD kvs k))]++G++j):=by simp[B,f,b]
 have N:il [Ā 3e7,Ā (.int 2),Ā (Ai bs),Ă,Ă,Ă,Ă,Ă,Ă,Ă,Ă] J=.ret (.obj i) (B++j):=by
  unfold il;rw[aK,aT,aG];simp only[ak,bg,aa,af];rw[show bN 3e7 (.int 1) J=.ok (.tup 1e5) J from rfl];simp only[ae,af,bG,aE,Wu,Wv];rw[aK,aT];simp only[aL,ay,aB,aq,ak,aa,af,W,ae,bG,aE,Wu,Wv];rw[aK,aT];simp only[aL,ay,aB,aq,ak,aa,af,Q,ae,bG,aE,Wu,Wv];rw[aK,aT,aL,ay,br];simp only[bT,aq,ak,aa,af,rW,aW];rw[show compLoop (.fix 1e5) (J++z++K).length (ah 0) a9 eG 1e5 (cT [Ă,Ā 4] [Ā 3e7,Ā (.int 2),Ā (Ai bs),Ā (.tup 1e5),Ā 1e3,Ā (.obj (J++z).length),Ă,Ă,Ă,Ă,Ă]) (J++z++K++[.lst []])=_ from C];simp only[aB,aa,af];rw[S];simp only[ae,af,bG,aE,Wu,Wv];rw[aK,aT,d6];simp only[ay,aB,bg,aa,af];rw[RC (show ([D.int 0]:List D).length<=sizeLine from l1)];simp only[ae,af,bG,aE,Wu,Wv];rw[aK,cP,bu];simp only[aL,ay,aB,aq,ak,aa,af,gw,Us];rw[bY (WC _) 0e1,ae,aW,VT];rw[show bH (.fix (bc 0 ks.length)) (ah 8) de (bc 0 ks.length) [Ā 3e7,Ā (.int 2),Ā (Ai bs),Ā (.tup 1e5),Ā 1e3,Ā (.obj (J++z).length),Ā (.obj f.length),Ā (.obj (f++G).length),Ă,Ă,Ă] (f++G++[.lst [D.int 0]])=_ from b1,aE,cw];rfl
 have E:J.length<=i:=RH (by simp[B,f,b]) b3;refine⟨_,i,?_,by rw[<- eB];exact b2,E⟩
 simp_all[cK,KA,gK]
end
end _w
namespace _v
theorem Br{v t:ă}(V:v<2^t):ir (c%2^t) v=ir c v:=by
 apply SR.mpr;rw[ff,ff];constructor
 ·simp_all
 ·intro h b B;rw[W9,SE,SG];exact⟨vV V B,h b B⟩
theorem uo(c t:ă):c%2^(t+1)=if c.testBit t=ą then c%2^t ||| 2^t else c%2^t:=by
 apply WT;intro b;rw[W9];by_cases h:c.testBit t=ą
 ·rw [RC h, W1, W9, WU];by_cases e:b=t
  ·subst e;simp[h]
  ·have : decide (t = b) = ć := RD (λz => e z.symm);rw[this,YM];congr 1
   lia
 ·rw [RE h, W9];by_cases e:b=t
  ·subst e;simp[h]
  ·congr 1
   lia
theorem yd:∀(vs:List ă)(x:ă),x<=vs.foldl max x/\∀v∈vs,v<=vs.foldl max x
 |[],x=>⟨Rx _,λv V=>by cases V⟩
 |w::vs,x=>by
  obtain⟨H,c⟩:=yd vs (max x w);refine⟨RH (W6 _ _) H,λv V=>?_⟩;rcases Td.mp V with rfl|V
  ·exact RH (W7 _ _) H
  ·exact c v V
theorem yB{ks:0e2}{es:List Wy}{c:ă}(hA:∀e∈es,e.1∉ks->ir c e.2=ć)(hB:∀k∈ks,∃v∈iI es k,ir c v=ą)(α:∀e∈es,0<e.2):∀t,c%2^t∈gE ks es t
 |0=>by simp[gE,ă.mod_one]
 |t+1=>by
  have i:=yB hA hB α t;unfold gE DO;rw[S8];constructor
  ·rw [uo];by_cases h:c.testBit t=ą
   ·rw [RC h];refine Tu _ (S8.mpr ⟨SY.mpr ⟨_,i,rfl⟩,?_⟩);rw[Xa];unfold GG;rw[List.any_eq_false];intro e n;rw[SE,SE]
    rintro⟨⟨H,b⟩,d⟩
    rw[Xa,decide_eq_false_iff_not]at H
    have L:e.2<2^(t+1):=by
     have V:e.2≠0:=by have:=α e n;exact Sa this
     exact(WV V).mp (by have:=eq_of_beq b;exact Rz (RI this))
    rw[(show c%2^t ||| 2^t=c%2^(t+1) by rw[uo,RC h]),Br L,hA e n H]at d;cases d
   ·rw[RE h];exact Tf _ i
  ·unfold stB;rw[SL];intro k K;by_cases z:kg (iI es k)=t
   ·have : (kg (iI es k) == t) = ą := by simpa using z
    rw[this];simp only[WI,YN];rw[WK];refine bb (hB k K) λv V I=>?_;refine⟨v,V,?_⟩
    have L:v<2^(t+1):=by
     have H:=(yd (iI es k) 0).2 v V;have a:=α _ (cR.mp V);have:(iI es k).foldl max 0<2^(t+1):=(WV (Sa (Ry a H))).mp (by unfold kg at z;exact Rz (RI z));exact R8 H this
    rw[Br L];exact I
   lia
end _v
namespace _w
open PySem _l _r _v
noncomputable def yI:ă->List (List Ć)->List (ă×List Ć)
 |_,[]=>[]
 |i,k::ks=>(i,k)::yI (i+1) ks
theorem rT:∀(ks:0e2)(i:ă),(yI i ks).map (·.2)=ks:=by
 intro x;cases x <;> simp_all[yI,rT]
def b6(ks:0e2)(c:ă):List (List Ć):=((yI 0 ks).filter λp=>c.testBit p.1).map (·.2)
theorem CF(ks:0e2)(c:ă):(b6 ks c).Sublist ks:=by
 have:=((List.filter_sublist (p:=λp:ă×List Ć=>c.testBit p.1) (l:=yI 0 ks)).map (·.2));rw[rT]at this;exact this
theorem mW:∀(ks:0e2)(j:ă)(p:ă×List Ć),p∈yI j ks↔∃i,ks[i]?=Ā p.2/\p.1=j+i
 |[],_,_=>by simp[yI]
 |k::ks,j,p=>by
  simp[yI,Td,mW ks (j+1) p];constructor
  ·rintro (rfl | ⟨i, H, c⟩)
   ·exact⟨0,rfl,rfl⟩
   ·exact⟨i+1,H,RM c (RJ _ _ _)⟩
  ·rintro ⟨i, H, c⟩
   cases i with
   |zero=>
    left;cases H;exact Rq c rfl
   |succ i=>exact .inr ⟨i,H,RM c (R9 (RJ _ _ _))⟩
section
theorem CG(n:ks.Nodup){d:ă}(C:c<2^ks.length)(hd:d<2^ks.length)(e:b6 ks c=b6 ks d):c=d:=by
 have key:∀(c i:ă)(I:i<ks.length),ks[i]∈b6 ks c↔c.testBit i=ą:=λc i I=>by
  unfold b6;rw[SY];constructor
  ·rintro ⟨p, H, e⟩
   rw[S8]at H;obtain⟨j,f,g⟩:=(mW ks 0 p).mp H.1;obtain⟨r,o⟩:=Se.mp f;have:j=i:=(Ru n).mp (o.trans e);have:p.1=i:=by lia
   rw[<- this];exact H.2
  ·intro h;exact⟨(i,ks[i]),S8.mpr ⟨(mW ks 0 _).mpr ⟨i,Vw I,by simp⟩,h⟩,rfl⟩
 apply WT;intro i;by_cases I:i<ks.length
 ·have a:=key c i I;have b:=key d i I;rw[e]at a;exact SR.mpr (a.symm.trans b)
 ·rw[WZ (Ry C (WY 0e3 0e1)),WZ (Ry hd (WY 0e3 0e1))]
end
section
theorem n8:∀{ks:0e2},(∀k∈ks,jR m k)->vt ks.flatten=ks.map ax/\bO ks.flatten=ks.map eR
 |[],_=>⟨rfl,rfl⟩
 |k::ks,h=>by
  refine bZ (h k 1e1) λa b G _=>?_;subst G;obtain⟨c,I⟩:=n8 (ks:=ks) λx d=>h x (by simp[d]);constructor
  ·show D.tup [.int a,.int b]::vt ks.flatten=_;rw[c];rfl
  ·show ź [.int a,.int b]::bO ks.flatten=_;rw[I];rfl
theorem BB(d:m<=6):∀{ks:0e2},(∀k∈ks,jR m k)->ml 1e5=Ā ks.flatten/\ks.flatten.length=2*ks.length
 |[],_=>⟨rfl,rfl⟩
 |k::ks,h=>by
  refine aJ (h k 1e1) λa b V H c e=>?_;subst V;obtain⟨i,I⟩:=BB d (ks:=ks) λx X=>h x (by simp[X]);constructor
  ·show ml (.tup [.int a,.int b]::ks.map ax)=_;unfold ml;rw[RC ⟨H,by lia,V6 H (Tx c),by lia⟩,i];rfl
  ·simp[Xc,Uq,I];rfl
theorem vF(h:GW m ks):Gy m ks.flatten=aQ m ks:=by
 unfold Gy;rw[(n8 h.2.2.2.2).1]
theorem xy(h:GW m ks):Ak m 3e7=Ā ks.flatten:=by
 obtain⟨E,e⟩:=BB h.m6 h.2.2.2.2;have:=ed h;unfold Ak
 lia
theorem tP:∀{L:List 0e2},(∀l∈L,GW m l)->pX m (L.map (aQ m))=Ā (L.map List.flatten):=by
 intro x;cases x <;> simp_all[pX,xy,tP]
theorem Eb{L:List 0e2}:nz ((l::L).map (aQ m))=Ă:=by
 rfl
theorem uK:∀{ks ks':0e2},(∀k∈ks,jR m k)->(∀k∈ks',jR m k)->ks.flatten=ks'.flatten->ks=ks'
 |[],[],_,_,_=>rfl
 |[],k::r,_,h,e=>by
  obtain⟨a,b,rfl,_⟩:=h k 1e1;simp at e
 |k::r,[],h,_,e=>by
  obtain⟨a,b,rfl,_⟩:=h k 1e1;simp at e
 |k::r,K::R,h,f,e=>by
  refine bZ (h k 1e1) λa b v _=>?_;subst v;refine bZ (f K 1e1) λc d μ _=>?_;subst μ;simp[Xc,WM,W8]at e;obtain⟨rfl,rfl,e⟩:=e;rw[uK (λx H=>h x (by simp[H])) (λx H=>f x (by simp[H])) e]
theorem gu(h:GW m ks)(c:ă):GW m (b6 ks c):=uE h (CF ks c)
theorem nR(h:GW m ks)(h12:(ks.length<=12)):cg [aQ m ks] M=.ok .non M:=by
 simp[cg,bW,ip,show cmpI .Gt (ks.length:Ć) 12=ć from RD 0e1,fg]
end
section
variable{kw:0e2}
theorem AH{x y:Ć}:R (oZ ks) x 1 y↔y=x\/oZ ks x y:=by
 simp[R]
end
section
theorem ug:k∈b6 ks c↔∃i,ks[i]?=Ā k/\c.testBit i=ą:=by
 simp[b6,mW]
theorem iX(h:GW m ks){p:Ć}:oZ (b6 ks c) p q↔∃i,Jn ks i p q/\c.testBit i=ą:=by
 rw[m5 (gu h c).2.2.2.2,ug,ug];constructor
 ·rintro (⟨i, H, a⟩ | ⟨i, H, a⟩)
  ·exact⟨i,.inl H,a⟩
  ·exact⟨i,.inr H,a⟩
 ·rintro ⟨i, H | H, a⟩
  ·exact .inl ⟨i,H,a⟩
  ·exact .inr ⟨i,H,a⟩
theorem GN{a b:Ć}(H:a≠b):R (oZ ks) a 2 b↔oZ ks a b\/∃d,oZ ks a d/\oZ ks d b:=by
 constructor
 ·intro r;obtain⟨c,f,L⟩:=R.split (n:=1) (k:=1) r;rcases AH.mp f with rfl|e
  ·rcases AH.mp L with rfl | K
   ·exact absurd rfl H
   ·exact .inl K
  ·rcases AH.mp L with rfl | K
   ·exact .inl e
   ·exact .inr ⟨c,e,K⟩
 ·rintro (z | ⟨d, Z, g⟩)
  ·exact(R.one z).mono 0e3
  ·exact(R.one Z).add (R.one g)
theorem kQ(h:GW m ks){a b:Ć}(A:0<=a/\a<(m:Ć))(H:a<b)(B:b<(m:Ć)):[a,b]∈DA m (b6 ks c) 2↔∃v,([a,b],v)∈EV m ks/\ir c v=ą:=by
 rw[nI h.m6,AS (iQ h) (jU.mpr A) H,GN 0e1,iX h];constructor
 ·rintro ⟨_, _, _, z | ⟨d, Z, e⟩⟩
  ·exact .inl z
  ·exact .inr ⟨d,(iX h).mp Z,(iX h).mp e⟩
 ·rintro (z | ⟨d, Z, e⟩)
  ·exact⟨A.1,H,B,.inl z⟩
  ·exact⟨A.1,H,B,.inr ⟨d,(iX h).mpr Z,(iX h).mpr e⟩⟩
theorem Gk(h:GW m ks):c∈gE ks (EV m ks) ks.length↔c<2^ks.length/\DA m (b6 ks c) 2=ks:=by
 have α:∀e∈EV m ks,0<e.2:=λe w=>(rn h e w).2.1;constructor
 ·intro C;obtain⟨A,B⟩:=jx α ks.length c C;refine⟨dH _ c C,uF (xK h.m0 h.m6) h λa b=>?_⟩;constructor
  ·intro f;have H:=(nI h.m6).mp f;apply Ŭ;intro O;refine bb ((kQ h ⟨H.1,RQ H.2.1 H.2.2.1⟩ H.2.1 H.2.2.1).mp f) λv V I=>?_;rw[A _ V O (rn h _ V).2.2]at I;cases I
  ·intro f;refine aJ (h.2.2.2.2 _ f) λx y e s g l=>?_;cases e;obtain⟨v,V,I⟩:=B _ f ((GL (vK h f) λv V=>(rn h _ (cR.mp V)).2).2);exact(kQ h ⟨s,RQ g l⟩ g l).mpr ⟨v,cR.mp V,I⟩
 ·rintro ⟨T, e⟩
  have:=yB (ks:=ks) (c:=c) (λE n N=>?_) (λk K=>?_) α ks.length
  ·simp_all[ă.mod_eq_of_lt]
  ·cases I : ir c E.2 with
   |false=>rfl
   |true=>
    refine aJ ((gY (iQ h)).mp n) λp q P Q u _=>?_;have V:([p,q],E.2)∈EV m ks:=by rw[<- u];exact n
    have G:=jU.mp P;refine aJ ((gY (iQ h)).mp V) λS U _ _ t r=>?_;cases t
    have L:q<(m:Ć):=by
     have lt:∀i d,Jn ks i d q->q<(m:Ć):=λi d r=>by
      rcases r with z|z
      ·exact(jU.mp (xi h _ (T1 z) q 1e1)).2
      ·exact(jU.mp (xi h _ (T1 z) q 1e1)).2
     rcases r with⟨i,r,_⟩|⟨b,i,j,_,r,_⟩
     ·exact lt i _ r
     ·exact lt j _ r
    grind [kQ]
  ·refine aJ (h.2.2.2.2 k K) λa b μ s g l=>?_;subst μ;have o:=K;rw[<- e]at o;refine bb ((kQ h ⟨s,RQ g l⟩ g l).mp o) λv V I=>?_;exact⟨v,cR.mpr V,I⟩
end
def wZ(w:ă):List (List Ć):=prs.filter λk=>!k.contains (w:Ć)
noncomputable def nl(l:0e2):ă->List Ć:=@List.rec (List Ć) (λ_=>ă->List Ć) (λ_=>[]) (λa _ h i=>@Xl (λ_=>List Ć) a (λj _=>h j) i) l
theorem G1(l:0e2)(i:ă):nl l i=l.getD i []:=by
 induction l generalizing i with
 |nil=>rfl
 |cons a l h=>cases i with
  |zero=>rfl
  |succ i=>exact h i
abbrev yJ(m:ă)(ks:0e2):List (List Ć):=((gE ks (EV m ks) ks.length).map (b6 ks)).map List.flatten
def DC(l:0e2):ċ:=Ň l.length 368&&(List.range 367).all λr=>nr (nl l (qR r Om)) (nl l (qR (r+1) Om))
theorem Qg:DC (yJ 6 (wZ 0))=ą:=by decide +kernel
theorem Qf:DC (yJ 6 (wZ 1))=ą:=by decide +kernel
theorem Qe:DC (yJ 6 (wZ 2))=ą:=by decide +kernel
theorem Qd:DC (yJ 6 (wZ 3))=ą:=by decide +kernel
theorem Qc:DC (yJ 6 (wZ 4))=ą:=by decide +kernel
theorem Qb:DC (yJ 6 (wZ 5))=ą:=by decide +kernel
theorem Qa:DC (yJ 5 (wZ 5))=ą:=by decide +kernel
theorem P7:∀w∈List.range 6,∀k∈prs,∃p∈kj,k=[(p.1:Ć),(p.2:Ć)]/\decide (k∈wZ w)=(p.1 != w&&p.2 != w):=by decide +kernel
theorem P9:∀w∈List.range 5,∃a∈List.range 6,[(a:Ć),5]∈wZ w:=by decide +kernel
theorem P8:[(3:Ć),4]∈wZ 5:=by decide +kernel
section
theorem OX(h:GW m ks):Lc ks.flatten:=(xv (xy h)).2
theorem NN(h:GW m ks){w:ă}(W:w∈List.range 6)(e:(kj.map λp=>decide ([(p.1:Ć),(p.2:Ć)]∈ks))=kj.map λp=>p.1 != w&&p.2 != w):ks=wZ w:=by
 have m6:=h.2.2.1
 have key:∀k∈prs,(k∈ks↔k∈wZ w):=λk H=>by
  refine bo (P7 w W k H) λp d G E=>?_;subst G;have:=List.map_inj_left.mp e p d;rw[<- E]at this;simpa using this
 have p:ks.Perm (wZ w):=(SV (n7 h) ((eY.filter _).imp λh e=>by subst e;lia)).mpr λk=>
  ⟨λz=>(key k ((h.2.2.2.2 k z).prs m6)).mp z,λz=>(key k (S8.mp z).1).mpr z⟩
 exact p.eq_of_pairwise (λa b _ _ c f=>by lia) h.2.2.2.1 (eY.filter _)
theorem Kr(h:GW m ks)(h12:(ks.length<=12)):Tm lD (yJ m ks):=by
 have L:(yJ m ks).length=(gE ks (EV m ks) ks.length).length:=by rw[Us,Us]
 rcases Gj (m:=m) (iQ h) (xi h) (n7 h) h12 with h63|⟨w,W,e⟩
 ·exact .inl (by rw[L];exact Rz h63)
 ·have K := NN h W e
  have ok:∀i,Lc ((yJ m ks).getD i []):=λi=>by
   rw[SQ];cases e:(yJ m ks)[i]? with
   |none=>exact⟨rfl,by decide,λx X=>by cases X⟩
   |some k=>
    have:=T1 e;obtain⟨l,L,rfl⟩:=SY.mp this;obtain⟨c,_,rfl⟩:=SY.mp L;exact OX (gu h c)
  have C:DC (yJ m ks)=ą:=by
   subst K;have m6:=h.2.2.1
   have A:∀a:Ć,[a,5]∈wZ w->m=6:=λa z=>by
    refine aJ (h.2.2.2.2 _ z) λx y e H b d=>?_;cases e;lia
   by_cases f:w=5
   ·subst f;refine aJ (h.2.2.2.2 _ P8) λx y e H b d=>?_;cases e;have:m=5\/m=6:=by lia
    rcases this with rfl|rfl
    ·exact Qa
    ·exact Qb
   ·have Q := SM.mp W;refine bb (P9 w (SM.mpr (RN (RR Q) f))) λa _ g=>?_;have:=A _ g;subst this;have:w=0\/w=1\/w=2\/w=3\/w=4:=by lia
    rcases this with rfl|rfl|rfl|rfl|rfl
    ·exact Qg
    ·exact Qf
    ·exact Qe
    ·exact Qd
    ·exact Qc
  unfold DC at C;rw[SE,SL]at C;have n368:(yJ m ks).length=368:=SN C.1;refine K3 (rk:=Om) (n368.symm ▸ rfl) t5 λr R=>?_;have:=C.2 r (SM.mpr (Ã (Ry R (RI n368))));rw[G1,G1,<- jl (n:=30) (ok _).2.2 (ok _).2.2 (ok _).2.1 (ok _).2.1]at this;exact Wr this
end
def QM(p:ă×List Ć):D:=.tup [.int (p.1:Ć),ax p.2]
theorem uD:∀(ks:0e2)(i:ă),fy i 1e5=(yI i ks).map QM
 |[],_=>rfl
 |k::ks,i=>by simp[fy,uD ks (i+1)];rfl
theorem F4(ks:0e2)(i:ă):(yI i ks).length=ks.length:=by
 have:=Sd List.length (rT ks i)
 simp_all
theorem yC{es:List Wy}{t:ă}:GH ks es [] t=gE ks es t:=by
 simp[vU,sL,vf]
theorem rp{es:List Wy}{t:ă}:(gE ks es t).length<=2^t:=by
 have:=(show (gE ks es t).Nodup from (iT t).imp λh=>Sn h).length_le_of_subset λc C=>SM.mpr (dH t c C)
 simp_all
section
theorem y4(L:ks.length<=15):fk [.tup 1e5,nD c] M=.ok (.tup ((b6 ks c).map ax)) M:=by
 simp only[fk,d7,show (Ā (D.tup 1e5)::Ā (nD c)::List.replicate (2-2) Ă:Ro)=[Ā (.tup 1e5),Ā (nD c)] from rfl,jL,cw,aL,ay,br,bu,aB,ak,aa,show mn [.tup 1e5] M=.ok (.fix (fy 0 1e5)) M from rfl,aW,uD]
 rw[cy (src:=.fix ((yI 0 ks).map QM)) (J1:=M) (q:=λp=>c.testBit p.1) (λe=>∃o z,e=[o,z,Ā (nD c)]) (λ_=>trivial) (ρ:=cT [Ă,Ă,Ā 1] [Ā (.tup 1e5),Ā (nD c)]) ⟨Ă,Ă,rfl⟩ (by grind [F4,cj]) (λp h a e hR=>by
  obtain⟨o,z,rfl⟩:=hR;refine⟨[Ā (.int (p.1:Ć)),Ā (ax p.2),Ā (nD c)],⟨_,_,rfl⟩,rfl,?_,λ_=>rfl⟩;simp only[iG,iR,aG,aq,ak,bg,aa,show tq (nD c) (.int (p.1:Ć)) (M++[O.lst a])=.ok (.int ((c:Ć) / 2^((p.1:Ć)).toNat)) (M++[O.lst a]) from iS (WC _),VT,show (c:Ć) / 2^p.1=((c / 2^p.1:ă):Ć) from by push_cast;rfl,show kk (.int ((c / 2^p.1:ă):Ć)) (.int 1) (M++[O.lst a])=.ok (.int (Builtin.bitAnd ((c / 2^p.1:ă):Ć) 1)) (M++[O.lst a]) from G6,yF,yO];congr 1
  grind)]
 simp;rw[d8 (xs:=(b6 ks c).map ax) (by simp[b6])];exact fZ (fz.mpr λx d=>by obtain⟨k,_,rfl⟩:=SY.mp d;exact μ1)
theorem xu(h:GW m ks):fK m ks=nt m ks.flatten:=by
 unfold nt fK;rw[(n8 h.2.2.2.2).2]
def RL(m:ă)(ks:0e2):List D:=(kq lD (((gE ks (EV m ks) ks.length).map (b6 ks)).map List.flatten)).map (Gy m)
theorem vG:(RL m ks).length=(gE ks (EV m ks) ks.length).length:=by
 simp[RL,Us,f6.length_eq]
theorem rh(h:GW m ks)(hd:d∈RL m ks):∃l,GW m l/\d=aQ m l:=by
 obtain⟨k,H,rfl⟩:=SY.mp hd;have H:=f6.mem_iff.mp H
 grind [gu,vF]
theorem N1(h:GW m ks)(Q:(ks.length<=12)):(((gE ks (EV m ks) ks.length).map (b6 ks)).map List.flatten).Nodup/\(((gE ks (EV m ks) ks.length).map (b6 ks)).map List.flatten).length<5000:=by
 constructor
 ·rw [UR, List.Nodup, SW];refine(iT ks.length).imp_of_mem λ{a b} H B t z=>?_;have:=CG (n7 h) (dH _ a H) (dH _ b B) (uK (gu h a).2.2.2.2 (gu h b).2.2.2.2 z)
  lia
 ·rw[Us,Us];exact R8 rp (R8 (WY 0e3 Q) 0e3)
theorem qj(h:GW m ks)(Q:(ks.length<=12))(hM:M[n]?=Ā (.lst (((gE ks (EV m ks) ks.length).map (b6 ks)).map (aQ m)))):bK [.obj n] M=.ok (.obj M.length) (M++[.lst (RL m ks)]):=by
 obtain⟨q,O⟩:=N1 h Q;have y:=Kr h Q;unfold bK;simp only[hM,RL];cases C:gE ks (EV m ks) ks.length with
 |nil=>
  simp[nz,kq];exact Ð 0e3
 |cons c s=>
  rw[SH,Eb,show xg ((b6 ks c::s.map (b6 ks)).map (aQ m))=(m:Ć) from rfl]
  rw[tP (λl L=>by
   rw[<- SH]at L;obtain⟨x,_,rfl⟩:=SY.mp L
   exact gu h x)]
  grind
theorem wj(h:GW m ks)(Q:(ks.length<=12)):∃g r,h8 [aQ m ks,.int 2] J=.ok (.obj r) (J++g)/\(J++g)[r]?=Ā (.lst (RL m ks))/\J.length<=r:=by
 obtain⟨g,r,W,B,w⟩:=ot (J:=J) h;rw[yC]at B;have W:cK [aQ m ks,.int 2,.tup []] J=.ok (.obj r) (J++g):=W;let s:=gE ks (EV m ks) ks.length
 let b:az:=J++g
 have l:(gE ks (EV m ks) ks.length).length<=4096:=RH rp (RH (WY 0e3 Q) 0e3)
 have f:=cy (src:=.own r (s.map nD)) (g:=ah 0) (t:=a9) (e:=fS) (J1:=b) (λd=>∃o,d=[o,Ā (.int m),Ā (.tup 1e5)]) (λ_=>aC B) (acc:=[]) (ρ:=[Ă,Ā (.int m),Ā (.tup 1e5)]) ⟨Ă,rfl⟩ (by simp only[UU];exact RH (show 0+s.length<=100000 by lia) 0e3) (λc C a d hR=>by
  obtain⟨o,rfl⟩:=hR;refine⟨[Ā (nD c),Ā (.int m),Ā (.tup 1e5)],⟨_,rfl⟩,rfl,rfl,λ_=>?_⟩;unfold fS;simp[bV,ay,aB,aL,aq,ak,aa];rw[y4 (RH Q (Vj _ _))]
  rfl)
 rw[fA,Wx]at f
 have hM:(b++[.lst (s.map λc=>aQ m (b6 ks c))])[b.length]?=Ā (.lst ((s.map (b6 ks)).map (aQ m))):=by
  simp
 have S:=qj h Q hM;have eM:b++[O.lst (s.map λc=>aQ m (b6 ks c))]++[O.lst (RL m ks)]=J++(g++[O.lst (s.map λc=>aQ m (b6 ks c))]++[O.lst (RL m ks)]):=by simp[b]
 refine⟨_,(b++[O.lst (s.map λc=>aQ m (b6 ks c))]).length,?_,by rw[<- eM];exact av,by simp[b]⟩;rw[<- eM];unfold h8;rw[d7,show (Ā 3e7::Ā (D.int 2)::List.replicate (4-2) Ă:Ro)=[Ā 3e7,Ā (.int 2),Ă,Ă] from rfl];unfold oO;rw[aK,aT,ak,ae];rw[show cm 2 (aS (ah 2) (aS (ah 3) (cn))) 3e7 [Ā 3e7,Ā (.int 2),Ă,Ă] J=.ok [Ā 3e7,Ā (.int 2),Ā (.int m),Ā (.tup 1e5)] J from rfl];simp only[ae,aE];rw[cw,aL,ay,br,bT,aL];simp only[ay,aB,bV,aq,ak,aa,UU];rw[RC (RT sizeLine)];simp only[aa,af];rw[W,aa,bP B,aa,bM];rw[show compLoop (.own r ((gE ks (EV m ks) ks.length).map nD)) (J++g).length (ah 0) a9 fS ((gE ks (EV m ks) ks.length).map nD) (cT [Ă,Ā 2,Ā 3] [Ā 3e7,Ā (.int 2),Ā (.int m),Ā (.tup 1e5)]) (J++g++[.lst []])=_ from f];simp only[aa,af];rw[S];simp only[ae,dD];exact gK (by simp[b])
theorem oq(h:GW m ks)(Q:(ks.length<=12)):∃g r,f9 [aQ m ks] J=.ok (.obj r) (J++g)/\(J++g)[r]?=Ā (.lst (RL m ks))/\J.length<=r:=by
 refine aU (wj (J:=J) h Q) λg r W B C=>?_;refine⟨g,r,?_,B,C⟩;unfold f9;rw[bW]
 simp_all[oN,gK]
theorem B9(h:GW m ks)(Q:(ks.length<=12)):cI [aQ m ks] J=.ok (.int ((RL m ks).length:Ć)) J:=by
 obtain⟨g,r,W,B,C⟩:=ot (J:=J) h;rw[yC]at B
 have q:eC [aQ m ks,.tup []] J=.ok (.obj r) (J++g):=by
  simp[eC,d7,jf,(show cK [aQ m ks,.int 2,.tup []] J=.ok (.obj r) (J++g) from W)];exact gK (by simp;omega)
 simp[cI,bW,ij,aK,jo,aL,ay,aB,ak,aa,nR h (Q)]
 simp_all[gz,vG,fZ]
noncomputable def hdD:List D->D
 |[]=>.non
 |x::_=>x
theorem Cc(h:GW m ks)(Q:(ks.length<=12)):cJ [aQ m ks] J=.ok (hdD (RL m ks)) J:=by
 refine aU (oq (J:=J) h Q) λg r W B C=>?_;simp[cJ,bW,ik,nR h 0e1,W]
 rw[show nF [.obj r] (J++g)=.ok (hdD (RL m ks)) (J++g) from by
  unfold nF;dsimp only;rw[B];cases hR:RL m ks with
  |nil=>rfl
  |cons x l=>
   dsimp only;rw[RC]
   ·rfl
   ·rw [SL];intro y α;have p:=t6 (key:=lD) (ks:=((gE ks (EV m ks) ks.length).map (b6 ks)).map List.flatten);unfold RL at hR;cases s:kq lD (((gE ks (EV m ks) ks.length).map (b6 ks)).map List.flatten) with
    |nil=>rw[s]at hR;cases hR
    |cons K R=>
     rw[s]at p hR
     have good:∀k∈K::R,∃l,GW m l/\k=l.flatten:=λk H=>by
      rw[<- s]at H;obtain⟨l,L,rfl⟩:=SY.mp (f6.mem_iff.mp H);obtain⟨c,_,rfl⟩:=SY.mp L;exact⟨_,gu h c,rfl⟩
     obtain⟨X,L⟩:=UV hR;rw[<- X,<- L,<- SH]at α;obtain⟨k,H,rfl⟩:=SY.mp α;refine bb (good k H) λl1 z a=>?_;refine bb (good K 1e1) λf G E=>?_
     have le:lD K<=lD k:=by
      rcases Td.mp H with rfl|H
      all_goals simp_all
     subst a E;rw[<- X,vF z,vF G];simp only[Ht,xr z,xr G];rw[xt z,xt G,xu z,xu G,(lP m).lt _ _ (OX z) (OX G),show decide (lD l1.flatten<lD f.flatten)=ć from RD (Ć.not_lt_of_ge le)]
     rfl]
 refine fZ ?_;cases hR:RL m ks with
 |nil=>simp[hdD]
 |cons x l=>
  refine bb (rh h (d:=x) (by rw[hR];simp)) λi b e=>?_;rw[e];exact kW b
end
theorem rV{U:Type}{en:U->D}{src:kb}{g:MG}{fb:MS}{J:az}{q:U->ċ}(R:Ro->Prop)(O:bf src J):∀{us:List U}{ρ:Ro},R ρ->(∀x∈us,∀ρ,R ρ->∃ρ1 ρ2,R ρ2/\g (en x) ρ J=.ok ρ1 J/\fb ρ1 J=if q x=ą then .next ρ2 J else .ret (.bl ć) J)->∃ρ',R ρ'/\bH src g fb (us.map en) ρ J=if us.all q=ą then .next ρ' J else .ret (.bl ć) J
 |[],ρ,h,_=>⟨ρ,h,by unfold bH;rw[Uh];simp only[List.all_nil,T8];rw[RC O]⟩
 |x::us,ρ,h,n=>by
  refine aU (n x Ta ρ h) λρ1 ρ2 L E e=>?_;refine bb (rV R O L λy α=>n y (Tb _ α)) λρ' r o=>?_;refine⟨ρ',r,?_⟩;rw[SH];unfold bH;rw[RC O,E,ae,e,Ul];cases q x with
  |true=>rw[RC rfl,jk,o,YL]
  |false=>rfl
theorem DM:bc 0 n=(List.range n).map nD:=by
 simp[bc]
def gT(m:ă)(f:ă->ă):List D:=(List.range m).map λi=>nD (f i)
noncomputable def tj(f:ă->ă)(i v:ă):ă->ă:=λj=>if j=i then v else f j
def gJ(f:ă->ă)(k:List Ć):ă->ă:=match k with
 |[a,b]=>tj (tj f a.toNat (f a.toNat ||| 2^b.toNat)) b.toNat (f b.toNat ||| 2^a.toNat)
 |_=>f
theorem x8{f:ă->ă}{v a:ă}:(gT m f).set a (nD v)=gT m (tj f a v):=by
 apply List.ext_getElem
 ·simp[gT]
 ·intro i H c;simp[List.getElem_set,gT,List.getElem_map,List.getElem_range,tj]
  lia
theorem rl{f:ă->ă}{a P:ă}(h:a<m)(hP:M[P]?=Ā (.lst (gT m f))):bN (.obj P) (.int (a:Ć)) M=.ok (nD (f a)) M:=
 fE hP (lN (WC _) (by simp_all[gT]))
theorem yF(c:ă):kk (nD c) (.int 1)=kk (nD c) (nD 1):=rfl
theorem xP{fb:ME}(e:fa ρ M=.ok (nD c) M)(D:fb ρ M=.ok (.int (i:Ć)) M):au (fW ć) (au kk (au tq fa fb) 2e2) 2e2 ρ M=.ok (.bl (c.testBit i)) M:=by
 simp only[aG,e,D,bg,aa,show tq (nD c) (.int (i:Ć)) M=.ok (.int ((c:Ć) / 2^((i:Ć)).toNat)) M from iS 0e1,VT,show (c:Ć) / 2^i=((c / 2^i:ă):Ć) from by push_cast;rfl,show kk (.int ((c / 2^i:ă):Ć)) (.int 1) M=.ok (nD (c / 2^i &&& 1)) M from vX,cY];congr 2
 grind
noncomputable def GD(f:ă->ă)(i o:ă):ċ:=(f i).testBit o || (f i &&& f o) != 0
def Lo(m:ă)(ks:0e2)(f:ă->ă):ċ:=(List.range m).all λo=>(List.range o).all λi=>GD f i o == decide ([(i:Ć),(o:Ć)]∈ks)
section
variable{f:ă->ă}
theorem Cb(h:GW m ks){P:ă}(hP:M[P]?=Ā (.lst (gT m f))):dk [aQ m ks,.obj P] M=.ok (.bl (Lo m ks f)) M:=by
 have m6:=h.m6
 obtain⟨l,_,e⟩:=rV (src:=.fix ((List.range m).map nD)) (g:=ah 2) (fb:=gf) (J:=M) (λa=>∃x y z,a=[Ā 3e7,Ā (.obj P),x,y,z]) trivial (us:=List.range m) (ρ:=[Ā 3e7,Ā (.obj P),Ă,Ă,Ă]) ⟨_,_,_,rfl⟩ (λo c a hR=>by
  obtain⟨x,y,z,rfl⟩:=hR;have H:=SM.mp c
  obtain⟨j,⟨W,Z,L⟩,b⟩:=rV (src:=.fix ((List.range o).map nD)) (g:=ah 3) (fb:=gh) (J:=M) (q:=λi=>GD f i o == decide ([(i:Ć),(o:Ć)]∈ks)) (λa=>∃y z,a=[Ā 3e7,Ā (.obj P),Ā (nD o),y,z]) trivial (us:=List.range o) (ρ:=[Ā 3e7,Ā (.obj P),Ā (nD o),y,z]) ⟨_,_,rfl⟩ (λi I a hR=>by
   obtain⟨y,z,rfl⟩:=hR;have O:=SM.mp I;refine⟨[Ā 3e7,Ā (.obj P),Ā (nD o),Ā (nD i),z],[Ā 3e7,Ā (.obj P),Ā (nD o),Ā (nD i),Ā (.bl (GD f i o))],⟨_,_,rfl⟩,rfl,?_⟩;have A:=rl (show i<m from RU O H) hP;have k:=rl H hP;unfold gh;rw[aK,aT,Ku];rw[xP (by simp;exact A) rfl];simp only[aa,bC]
   have E:(if (f i).testBit o=ą then aj.ok (D.bl ą) M else au (fW ą) (au kk (au bN (ai 1) (ai 3)) (au bN (ai 1) (ai 2))) 2e4 [Ā 3e7,Ā (.obj P),Ā (nD o),Ā (nD i),z] M)=.ok (.bl (GD f i o)) M:=by
    unfold GD;cases (f i).testBit o with
    |true=>rfl
    |false=>
     rw[RE RF];simp only[aG,aq,ak,bg,aa];rw[A,aa,k,aa,vX,aa,cY,RC rfl,YN];congr 2;apply SR.mpr;rw[X7];simp
   rw[E];simp only[ae,bG,aE,Wu,Wv];rw[bE];simp[cc,aG,bV,ay,aB,aq,ak,bg,aa,Uu,fO];rw[RC 0e3];simp;rw[uC h.2.2.2.2]
   simp)
  refine⟨[Ā 3e7,Ā (.obj P),Ā (nD o),y,z],j,⟨Ā (nD o),W,Z,L⟩,rfl,?_⟩;unfold gf;rw[cP,bu];simp only[ay,aB,aq,ak,aa];rw[bY 0e1 0e1,ae,aW,VT,DM]
  exact b)
 unfold dk;rw[d7];simp only[ll,List.replicate];rw[aK,cP,bu];simp only[ay,aB,aG,bg,aq,ak,aa,af,dh];rw[bY 0e1 0e1,ae,aW,VT,DM,e];rw[show ((List.range m).all λo=>(List.range o).all λi=>GD f i o == decide ([(i:Ć),(o:Ć)]∈ks))=Lo m ks f from rfl];cases Lo m ks f with
 |true=>
  simp[fg]
 |false=>
  simp[fg]
theorem HX{v:ă}:tj f i v j=if j=i then v else f j:=rfl
theorem B1{a b:ă}(H:a<b):(gJ f [(a:Ć),(b:Ć)] i).testBit j=ą↔(f i).testBit j=ą\/(i=a/\j=b)\/(i=b/\j=a):=by
 unfold gJ;simp[VT,HX]
 grind
theorem x9{i j:ă}:∀(ps:0e2)(f:ă->ă),(∀k∈ps,jR m k)->((ps.foldl gJ f i).testBit j=ą↔(f i).testBit j=ą\/[(i:Ć),(j:Ć)]∈ps\/[(j:Ć),(i:Ć)]∈ps)
 |[],f,_=>by simp
 |k::ps,f,h=>by
  refine aJ (h k Ta) λa b v H e g=>?_;subst v;obtain⟨a,rfl⟩:=W5 H;obtain⟨b,rfl⟩:=W5 (show 0<=b from V6 H (Tx e));rw[SI,x9 ps _ λk K=>h k (Tb _ K),B1 0e1];simp[Td,W8,and_true,Xg];constructor
  ·rintro ((z | ⟨Z, c⟩ | ⟨Z, c⟩) | z | z)
   ·exact .inl z
   ·exact .inr (.inl (.inl ⟨Z,c⟩))
   ·exact .inr (.inr (.inl ⟨c,Z⟩))
   ·exact .inr (.inl (.inr z))
   ·exact .inr (.inr (.inr z))
  ·rintro (z | (⟨Z, c⟩ | z) | (⟨Z, c⟩ | z))
   ·exact .inl (.inl z)
   ·exact .inl (.inr (.inl ⟨Z,c⟩))
   ·exact .inr (.inl z)
   ·exact .inl (.inr (.inr ⟨c,Z⟩))
   ·exact .inr (.inr z)
theorem KY{a b:ă}:(a &&& b) != 0↔∃j,a.testBit j=ą/\b.testBit j=ą:=by
 rw[X7];constructor
 ·intro u;obtain⟨j,r⟩:=ă.exists_testBit_of_ne_zero u
  grind
 ·rintro ⟨j, H, c⟩ z
  have:(a &&& b).testBit j=ą:=by rw[ă.testBit_and,H,c];rfl
  simp_all
theorem JX{ps:0e2}(h:GW m ks)(p:GW m ps):Lo m ks (ps.foldl gJ λ_=>0)=decide (DA m ps 2=ks):=by
 have m0:=h.m0;have m6:=h.m6
 have B:∀{i j:ă},(ps.foldl gJ (λ_=>0) i).testBit j=ą↔oZ ps (i:Ć) (j:Ć):=λ{i j}=>by
  rw[x9 (m:=m) ps _ p.2.2.2.2,m5 p.2.2.2.2];simp
 have Md:∀{i o:ă},i<o->o<m->(GD (ps.foldl gJ λ_=>0) i o=ą↔[(i:Ć),(o:Ć)]∈DA m ps 2):=λ{i o} H g=>by
  unfold GD;rw[Wa,B,KY,nI m6,GN 0e1];constructor
  ·rintro (z | ⟨j, Z, c⟩)
   ·exact⟨by lia,by lia,by lia,.inl z⟩
   ·exact⟨by lia,by lia,by lia,.inr ⟨_,B.mp Z,LR p (B.mp c)⟩⟩
  ·rintro ⟨_, _, _, z | ⟨d, Z, c⟩⟩
   ·exact .inl z
   ·have:=(Qv p Z).2;obtain⟨j,rfl⟩:=W5 this.1;exact .inr ⟨j,B.mpr Z,B.mpr (LR p c)⟩
 apply SR.mpr;unfold Lo;rw[SL,SG];constructor
 ·intro A;refine uF (xK m0 m6) h λa b=>?_
  have key:∀i o:ă,i<o->o<m->([(i:Ć),(o:Ć)]∈DA m ps 2↔[(i:Ć),(o:Ć)]∈ks):=λi o H g=>by
   have:=A o (SM.mpr g);rw[SL]at this;have:=this i (SM.mpr H);rw[VJ]at this;rw[<- Md H g,this,SG]
  constructor
  ·intro z;obtain⟨Z,c,k,_⟩:=(nI m6).mp z;obtain⟨i,rfl⟩:=W5 Z;obtain⟨o,rfl⟩:=W5 (show 0<=b by lia);exact(key i o 0e1 0e1).mp z
  ·intro z;obtain⟨x,y,e,Z,c,k⟩:=h.2.2.2.2 _ z;cases e;obtain⟨i,rfl⟩:=W5 Z;obtain⟨o,rfl⟩:=W5 (show 0<=b by lia);exact(key i o 0e1 0e1).mpr z
 ·intro e o O;rw[SL];intro i I;rw[VJ];apply SR.mpr;rw[Md (SM.mp I) (SM.mp O),e,SG]
end
theorem Bw:∀(ks:0e2)(j:ă),yI j ks=(List.range ks.length).map λi=>(j+i,ks.getD i [])
 |[],_=>rfl
 |k::ks,j=>by
  simp only[Uu,UQ,SH,UR,yI,Bw ks (j+1)];congr 1;refine US λi _=>?_;simp[show j+1+i=j+i.succ from RJ _ _ _]
theorem Fh:((List.range ks.length).filter λi=>c.testBit i).map (λi=>ax (ks.getD i []))=(b6 ks c).map ax:=by
 simp[b6,Bw,WE,H_]
section
variable{f:ă->ă}{r0 r1 r2 r3 r4:Option D}
theorem FQ{N:az}{a b:ă}(H:a<b)(B:b<m)(m6:m<=6):ew [r0,r1,r2,r3,r4,Ā (.obj N.length),Ā (nD a),Ā (nD b)] (N++[.lst (gT m f)])=.next [r0,r1,r2,r3,r4,Ā (.obj N.length),Ā (nD a),Ā (nD b)] (N++[.lst (gT m (gJ f [(a:Ć),(b:Ć)]))]):=by
 have l:∀f,(gT m f).length=m:=λf=>by simp[gT]
 have s:gJ f [(a:Ć),(b:Ć)]=tj (tj f a (f a ||| 2^b)) b (f b ||| 2^a):=by
  unfold gJ;simp
 have e:tj f a (f a ||| 2^b) b=f b:=RE (Sa H);unfold ew;rw[aK,aT];simp[aG,aq,ak,bg,aa];rw[rl (RU H B) av,aa,nJ 0e1,aa,xc];simp;rw[kH av (jV (WC _) (by rw[l];lia)),nT,x8];simp only[aa,ae,aE];rw[aT];simp only[aG,aq,ak,bg,aa];rw[rl (B) av,aa,nJ 0e1,aa,xc]
 simp_all[kH,jV,x8]
theorem um{N:az}{S:ă}{all:List D}(hS:N[S]?=Ā (.lst all))(m6:m<=6):∀(ps:0e2)(f:ă->ă)(o6 o7:Option D),(∀k∈ps,jR m k)->∃p6 p7,bH (.own S all) (cm 2 (aS (ah 6) (aS (ah 7) (cn)))) ew (ps.map ax) [r0,r1,r2,r3,r4,Ā (.obj N.length),o6,o7] (N++[.lst (gT m f)])=.next [r0,r1,r2,r3,r4,Ā (.obj N.length),p6,p7] (N++[.lst (gT m (ps.foldl gJ f))])
 |[],f,o6,o7,_=>⟨o6,o7,by
  rw[Uh];unfold bH;rw[RC (show bf (.own S all) _ from aC hS)]
  rfl⟩
 |k::ps,f,o6,o7,h=>by
  refine aJ (h k Ta) λa b G H c e=>?_;subst G;obtain⟨a,rfl⟩:=W5 H;obtain⟨b,rfl⟩:=W5 (show 0<=b from V6 H (Tx c));refine K4 (um hS m6 ps (gJ f [(a:Ć),(b:Ć)]) (Ā (nD a)) (Ā (nD b)) λk K=>h k (Tb _ K)) λp6 p7 i=>?_;refine⟨p6,p7,?_⟩;rw[SH];unfold bH;rw[RC (show bf (.own S all) _ from aC hS),show cm 2 (aS (ah 6) (aS (ah 7) (cn))) (ax [(a:Ć),(b:Ć)]) [r0,r1,r2,r3,r4,Ā (.obj N.length),o6,o7] (N++[.lst (gT m f)])=.ok [r0,r1,r2,r3,r4,Ā (.obj N.length),Ā (nD a),Ā (nD b)] (N++[.lst (gT m f)]) from rfl,ae,FQ 0e1 0e1 m6,jk,i,SI]
theorem NF{t:ă}(T:M[t]?=Ā (.lst [.int 0]))(m6:m<=6):gH (.obj t) (.int (m:Ć)) M=.ok (.obj M.length) (M++[.lst (gT m λ_=>0)]):=by
 unfold gH;simp only[T];rw[RC ⟨by simp,by lia,by rw[Ur];exact RH 0e1 cj⟩];simp[gT,List.map_const']
abbrev DB(m:ă)(ks:0e2)(F:ă)(B O r t u:Option D):Ro:=[Ā 3e7,Ā (.tup 1e5),Ā (.obj F),B,O,r,t,u]
noncomputable abbrev GB(m:ă)(ks:0e2)(c:ă):ċ:=decide (DA m (b6 ks c) 2=ks)
theorem EW(h:GW m ks){acc:List D}{o5 o6 o7:Option D}(L:acc.length<=5000):∃g' p4 p5 p6 p7,cz (DB m ks 3e9 (Ā (nD c)) o4 o5 o6 o7) (J++.lst acc::g)=.next (DB m ks 3e9 (Ā (nD c)) p4 p5 p6 p7) (J++.lst (if GB m ks c=ą then acc++[aQ m (b6 ks c)] else acc)::g'):=by
 have m6:=h.m6;have I:=ed h;have n:0+1<=sizeLine:=by decide
 have q:0+1+1<=sizeLine:=by decide
 let b:az:=J++.lst acc::g
 have p:=gu h c
 have C:=cy (src:=.fix ((List.range ks.length).map nD)) (g:=ah 0) (t:=ek) (e:=eJ) (J1:=b) (h:=λk=>ax (ks.getD k [])) (λj=>∃o,j=[o,Ā (.tup 1e5),Ā (nD c)]) (λ_=>trivial) (us:=List.range ks.length) (acc:=[]) (ρ:=[Ă,Ā (.tup 1e5),Ā (nD c)]) ⟨Ă,rfl⟩ (by grind [cj]) (λk K a j hR=>by
  obtain⟨o,rfl⟩:=hR;refine⟨[Ā (nD k),Ā (.tup 1e5),Ā (nD c)],⟨_,rfl⟩,rfl,?_,λ_=>?_⟩
  ·unfold ek;rw[cc,xP rfl rfl,aa,bC]
  ·unfold eJ;simp only[aG,aq,ak,aa,af];have:=SM.mp K
   exact jX (lN 0e1 (by simp_all)))
 rw[Fh,Wx]at C;let l:az:=b++[.lst ((b6 ks c).map ax)]
 let i:az:=l++[.lst [.int 0]]
 obtain⟨p6,p7,P⟩:=um (r1:=Ā (.tup 1e5)) (r2:=Ā 1e3) (r3:=Ā (nD c)) (r4:=Ā (.obj b.length)) (aC av) m6 (b6 ks c) (λ_=>0) o6 o7 p.2.2.2.2;let N:az:=i++[.lst (gT m ((b6 ks c).foldl gJ λ_=>0))]
 have E:N=J++.lst acc::(g++[.lst ((b6 ks c).map ax),.lst [.int 0],.lst (gT m ((b6 ks c).foldl gJ λ_=>0))]):=by
  grind
 have T:dk [aQ m ks,.obj i.length] N=.ok (.bl (GB m ks c)) N:=by
  rw[Cb h av,JX h p]
 have H:cz (DB m ks 3e9 (Ā (nD c)) o4 o5 o6 o7) (J++.lst acc::g)=gS (gp (aA dk (ag 3e4 (ag (ai 5) (aw))))) (fw (oW bI (ai 2) (ag (bJ (ag (au bN 3e4 2e4) (ag (aA cQ (ag (ai 4) (aw))) (aw)))) (aw)))) (b9) (DB m ks 3e9 (Ā (nD c)) (Ā (.obj b.length)) (Ā (.obj i.length)) p6 p7) N:=by
  unfold cz;rw[aK,aT,br,bu];simp only[aL,ay,aB,aq,ak,aa,af,gw,Us];rw[bY (WC _) 0e1,aa,aW,VT,DM];rw[show compLoop (.fix ((List.range ks.length).map nD)) (J++.lst acc::g).length (ah 0) ek eJ ((List.range ks.length).map nD) (cT [Ă,Ā 1,Ā 3] (DB m ks 3e9 (Ā (nD c)) o4 o5 o6 o7)) (J++.lst acc::g++[.lst []])=_ from C];simp only[ae,af,bG,aE,Wu,Wv];rw[aK,aT];simp only[aG,d6,ay,aB,aq,ak,bg,aa,af,Uu,UU,RC n,dh];rw[NF av m6];simp only[ae,af,bG,aE,Wu,Wv];rw[aK,cP,bT];simp only[aq,ak,aa,af];rw[bP (aC (aC av)),ae,bM];rw[P,aE]
 rw[bE]at H;simp only[iR,aL,ay,aB,aq,ak,aa,af]at H;rw[T]at H;simp only[aa,af,mY,ae]at H;cases B:GB m ks c with
 |false=>
  simp[*]
 |true=>
  rw[B,RC rfl,jo,nB]at H;have G:N[3e9]?=Ā (.lst acc):=by rw[E];exact av
  have s:N[b.length]?=Ā (.lst ((b6 ks c).map ax)):=aC (aC av);simp only[bV,aL,ay,aB,aG,bg,aq,ak,aa,af,dh]at H;rw[show pU 1e3 N=ą from by unfold pU;dsimp only;rw[G],RC rfl,d8 s]at H;simp only[aa,af,Uu,UU,RC q]at H
  rw[show bI 1e3 [.tup [.int (m:Ć),.tup ((b6 ks c).map ax)]] N=.ok .non (N.set 3e9 (.lst (acc++[aQ m (b6 ks c)]))) from by
   unfold bI;dsimp only;rw[G];dsimp only
   rw[RC (R8 L 0e3)],E,nT]at H
  simp[*]
theorem xV(h:GW m ks){all:List D}:∀(cs:List ă)(acc:List D)(g:az)(o3 o4 o5 o6 o7:Option D),acc.length+cs.length<=5000->∃g' p3 p4 p5 p6 p7,bH (.fix all) (ah 3) cz (cs.map nD) (DB m ks 3e9 o3 o4 o5 o6 o7) (J++.lst acc::g)=.next (DB m ks 3e9 p3 p4 p5 p6 p7) (J++.lst (acc++(cs.filter (GB m ks)).map λc=>aQ m (b6 ks c))::g')
 |[],acc,g,o3,o4,o5,o6,o7,_=>⟨g,o3,o4,o5,o6,o7,by
  rw[Uh];unfold bH;rw[RC (show bf (.fix all) _ from trivial)]
  simp⟩
 |c::cs,acc,g,o3,o4,o5,o6,o7,L=>by
  rw[Uu]at L;obtain⟨z,p4,p5,p6,p7,E⟩:=EW (J:=J) (acc:=acc) h (RH (RA _ _) L)
  obtain⟨K,μ,q,Q,a,b,e⟩:=xV h cs (if GB m ks c=ą then acc++[aQ m (b6 ks c)] else acc) z (Ā (nD c)) p4 p5 p6 p7 (by
   split
   ·rw[Uq,Ur];exact RH (RI (RJ _ _ _)) L
   ·exact RK L)
  refine⟨K,μ,q,Q,a,b,?_⟩;rw[SH];unfold bH;rw[RC (show bf (.fix all) _ from trivial),show ah 3 (nD c) (DB m ks 3e9 o3 o4 o5 o6 o7) (J++.lst acc::g)=.ok (DB m ks 3e9 (Ā (nD c)) o4 o5 o6 o7) (J++.lst acc::g) from rfl,ae,E,jk,e,Wb];cases GB m ks c with
  |true=>rw[RC rfl,RC rfl,SH,Va,Vb]
  |false=>rw[RE RF,RE RF]
theorem B8(h:GW m ks)(h12:(ks.length<=12)):∃(g:az)(r:ă),fR [aQ m ks] J=.ok (.obj r) (J++g)/\(J++g)[r]?=Ā (.lst (RL m ks))/\J.length<=r:=by
 have p12:2^ks.length<=4096:=RH (WY 0e3 h12) 0e3;have N:0<=sizeLine:=by decide
 obtain⟨G,p,P,l,k,o,e⟩:=xV (J:=J) h (all:=(List.range (2^ks.length)).map nD) (List.range (2^ks.length)) [] [] Ă Ă Ă Ă Ă (by rw[UU,UT];lia);rw[Wx]at e;have fpw:((List.range (2^ks.length)).filter (GB m ks)).Pairwise (·<·):=Vf.filter _
 have F:(List.range (2^ks.length)).filter (GB m ks)=gE ks (EV m ks) ks.length:=by
  refine((SV (fpw.imp λt e=>by lia) ((iT ks.length).imp λt e=>by lia)).mpr λc=>?_).eq_of_pairwise (λa b _ _ H j=>by lia) fpw (iT ks.length);rw[Gk h,S8,SM,SG]
 rw[F]at e;let i:az:=J++.lst ((gE ks (EV m ks) ks.length).map λc=>aQ m (b6 ks c))::G
 have S:=qj (M:=i) (n:=3e9) h h12 (by rw[UR];exact av);refine⟨.lst ((gE ks (EV m ks) ks.length).map λc=>aQ m (b6 ks c))::G++[.lst (RL m ks)],i.length,?_,?_,by simp[i]⟩
 ·unfold fR;rw[bW,show (Ā 3e7::List.replicate (8-1) Ă:Ro)=[Ā 3e7,Ă,Ă,Ă,Ă,Ă,Ă,Ă] from rfl];unfold lh;rw[aK,aT];simp only[aG,bg,ak,aa,fO,ae,bG,aE,Wu,Wv];rw[aK,aT];simp only[d6,aB,aa,UU,RC N,ae,bG,aE,Wu,Wv];rw[aK,cP,bu];simp only[aL,ay,aB,aG,bg,aq,ak,aa,gw,Us];rw[nJ 0e1];simp only[aa]
  rw[show d3 [.int ((2^ks.length:ă):Ć)] (J++[.lst []])=.ok (.fix ((List.range (2^ks.length)).map nD)) (J++[.lst []]) from by
   unfold d3;dsimp only
   rw[RC ⟨V6 0e3 (WC _),WJ (Ć.ofNat_le.mpr p12) 0e3⟩,VT,DM]]
  rw[ae,aW];rw[show bH (.fix ((List.range (2^ks.length)).map nD)) (ah 3) cz ((List.range (2^ks.length)).map nD) [Ā 3e7,Ā (.tup 1e5),Ā 1e3,Ă,Ă,Ă,Ă,Ă] (J++[.lst []])=_ from e,aE];rw[cw];simp only[aL,ay,aB,aq,ak,aa];rw[show bK [.obj 3e9] (J++.lst ((gE ks (EV m ks) ks.length).map λc=>aQ m (b6 ks c))::G)=_ from S];simp only[ae,dD];show pV J (.ok (.obj i.length) (J++.lst ((gE ks (EV m ks) ks.length).map λc=>aQ m (b6 ks c))::G++[_]))=_;rw[Va];exact gK (by simp[i])
 ·rw[<- Va];exact av
end
theorem lQ{a:Ć}(d:0<=a)(H:a<7):ň (.int a)=ą/\Ł 8 (.int a)=ą/\Œ (.int a)<=3:=by
 have:a=0\/a=1\/a=2\/a=3\/a=4\/a=5\/a=6:=by lia
 rcases this with rfl|rfl|rfl|rfl|rfl|rfl|rfl <;> decide +kernel
theorem jZ{m:Ć}{J:az}(c:m<=6):∀{ks:0e2},(∀k∈ks,jR m k)->(∀n,gU (sT J (n+2)) 1e5=Ā (ks.map eR))/\ķ (ks.map eR)=ą/\Ĥ 8 (ks.map eR)=ą/\ŀ (ks.map eR)<=9*ks.length
 |[],_=>by simp[ķ,Ĥ,ŀ,gU]
 |k::ks,h=>by
  obtain⟨a,b,rfl,g,A,e⟩:=h k Ta;have i:=jZ (J:=J) c λx d=>h x (Tb _ d);have H:=lQ (a:=a) g 0e1;have B:=lQ (a:=b) 0e1 0e1;refine⟨λn=>by rw[SH,gU,i.1 n];rfl,?_⟩;have i:=i.2;simp only[SH,Uh,eR,ķ,Ĥ,ŀ,ň,Ł,Œ]at i H B⊢;refine⟨by simp only[H.1,B.1,i.1,Xd],by simp only[H.2.1,B.2.1,i.2.1,Xd],?_⟩;simp only[Uu]
  lia
theorem tQ(h:GW m ks):(∀J n,sT J (n+4) 3e7=Ā (fK m ks))/\(fK m ks).showable=ą/\(fK m ks).leavesShort 8=ą/\(fK m ks).weight<=200/\(fK m ks).canLay0=ą/\(fK m ks).depth<=5:=by
 have L:=ed h;have m6:=h.m6;have k:=h.2.2.2.2;have l:=jv k;have i:=lQ (a:=(m:Ć)) 0e1 0e1;obtain⟨_,s⟩:=jZ (J:=[]) (show (m:Ć)<=6 by lia) k;refine⟨λJ n=>?_,?_,?_,?_,?_,?_⟩
 ·have e := (jZ (J := J) (show (m : Ć) <= 6 by lia) k).1
  have g:sT J (n+3) (.tup 1e5)=Ā (.tuple (ks.map eR)):=by
   show (gU (sT J (n+2)) 1e5).map ź=_;rw[e];rfl
  show (gU (sT J (n+3)) [.int m,.tup 1e5]).map ź=_;simp only[gU];rw[g];rfl
 ·simp only[fK,ň,ķ]at i⊢;simp only[i.1,s.1,Xd]
 ·simp only[fK,Ł,Ĥ]at i⊢;simp only[i.2.1,s.2.1,Xd]
 ·simp only [fK, Œ, ŀ] at i ⊢;have:=s.2.2
  lia
 ·simp only[fK,ě,Ď,l.1,Xd]
 ·simp only [fK, ĭ, Ē];have:=l.2
  lia
theorem rM{q:ė}(H:q.showable=ą)(c:q.leavesShort 8=ą)(d:q.weight<=90000)(h:q.canLay0=ą)(f:q.depth<=60):kE q=ą:=by
 have s:=ė.shown_le 8 (Rx _) _ c
 grind [sizeLine,kE,ė.hasDict_of_canLay]
theorem AG{q:ė}(hd:vM d=ą)(g:sT M 5 d=Ā q)(ok:kE q=ą):ck [d] M=.ok (.str q.shown) M:=by
 cases d with
 |tup S=>unfold ck;simp_all
 |frz S=>unfold ck;simp_all
 |obj k=>unfold ck;simp_all
 |_=>cases hd
theorem IT(h:GW m ks):ck [aQ m ks] M=.ok (.str (fK m ks).shown) M:=by
 refine d5 (tQ h) λg S s N b a=>?_;exact AG rfl (g M 1) (rM S s (RH N (Vj _ _)) b (RH a (Vj _ _)))
theorem qf{m:ă}:∀{L:List 0e2},(∀l∈L,GW m l)->(∀J,gU (sT J 4) (L.map (aQ m))=Ā (L.map (fK m)))/\ķ (L.map (fK m))=ą/\Ĥ 8 (L.map (fK m))=ą/\ŀ (L.map (fK m))<=201*L.length/\Ď (L.map (fK m))=ą/\Ē (L.map (fK m))<=5
 |[],_=>by simp[ķ,Ĥ,ŀ,Ď,Ē,gU]
 |l::L,h=>by
  refine d5 (tQ (h l Ta)) λg S s N b e=>?_;refine d5 (qf λx d=>h x (Tb _ d)) λy c I o i a=>?_;refine⟨λJ=>?_,?_⟩
  ·rw[SH,gU,y,g J 0];rfl
  ·simp [SH, ķ, Ĥ, ŀ, Ď, Ē, Uu]
   lia
theorem xq{m:ă}:∀{xs:List D},(∀d∈xs,∃l,GW m l/\d=aQ m l)->∃L:List 0e2,xs=L.map (aQ m)/\∀l∈L,GW m l
 |[],_=>⟨[],rfl,by simp⟩
 |x::xs,h=>by
  refine bb (h x Ta) λl g G=>?_;subst G;refine bb (xq λy α=>h y (Tb _ α)) λL V k=>?_;subst V;exact⟨l::L,rfl,λz Z=>(Td.mp Z).elim (λe=>by rw[e];exact g) (k z)⟩
section
theorem Nj(h:GW m ks)(l:(RL m ks).length<=300):∃x,∀(M:az)(t:ă),M[t]?=Ā (.lst (RL m ks))->ck [.obj t] M=.ok (.str x) M:=by
 obtain⟨L,e,k⟩:=xq (m:=m) λd D=>rh h (d:=d) D;obtain⟨y,c,I,o,i,a⟩:=qf k;rw[e,Us]at l;refine⟨(ė.list (L.map (fK m))).shown,λM t T=>AG rfl ?_ (rM ?_ ?_ ?_ ?_ ?_)⟩
 ·unfold sT;dsimp only;rw[T,e];dsimp only;rw[y];rfl
 ·simp only[ň,c]
 ·simp only[Ł,I]
 ·simp only [Œ]
  lia
 ·simp only[ě,i]
 ·simp only [ĭ]
  lia
theorem Ni(h:GW m ks):∃x,∀M:az,ck [hdD (RL m ks)] M=.ok (.str x) M:=by
 cases e:RL m ks with
 |nil=>exact⟨"None",λM=>rfl⟩
 |cons d r=>
  obtain⟨l,g,rfl⟩:=rh h (d:=d) (by simp_all);exact⟨_,λM=>IT g⟩
theorem FS:((List.range 4097).all λn=>decide ((ř n).shown.length<=8))=ą:=by decide +kernel
theorem yb(n:ă)(h:n<4097):ň (.int n)=ą/\Ł 8 (.int n)=ą/\Œ (.int n)<=20:=by
 have l:n.log2<13:=by
  by_cases d:n=0
  ·subst d;decide
  ·exact(WV d).mpr (Ry h 0e3)
 refine⟨?_,?_,?_⟩
 ·simp only[ň,A_];exact RB 0e1
 ·simp only[Ł];exact SL.mp FS n (SM.mpr h)
 ·simp only[Œ,A_];split <;> lia
abbrev sV (n k:ă):D:=.tup [.str "great",nD n,nD k]
theorem Ct(h:n<4097):∃x,∀M:az,ck [sV n 300] M=.ok (.str x) M:=by
 refine gF (yb n h) λf k c=>?_;refine gF (yb 300 0e3) λb1 b2 b3=>?_;refine⟨(ź [.str "great",.int n,.int (300:ă)]).shown,λM=>AG rfl rfl (rM ?_ ?_ ?_ ?_ ?_)⟩
 ·simp[ň,ķ]at f b1⊢;simp[f];decide +kernel
 ·simp[Ł,Ĥ]at k b2⊢;simp[k];decide +kernel
 ·simp [Œ, ŀ] at c b3 ⊢;have:(("great" : ď)).cps.size<=10:=by decide +kernel
  lia
 ·simp[ě,Ď];decide +kernel
 simp[ĭ,Ē]
theorem IU{k:ă}(h:k<=100000):∃x,∀M:az,ck [nD k] M=.ok (.str x) M:=by
 refine⟨F_ (k:Ć),λM=>?_⟩;unfold ck;dsimp only;rw[RC];by_cases d:k=0
 ·subst d;decide
 ·exact(WV d).mpr (Ry (R8 h (show 100000<2^17 by decide)) (WY 0e3 0e3))
end
theorem m8{a b:ă}(h:J[a]?=Ā (.lst xs))(g:J[b]?=Ā (.lst ys))(n:xs.length+ys.length<=1000000):cq (.obj a) (.obj b) J=.ok 1e3 (J++[.lst (xs++ys)]):=by
 unfold cq;simp only[h,g];rw[RC (RH n 0e3)]
theorem l4:(4:ă)<=sizeLine:=by decide
theorem l8:(8:ă)<=sizeLine:=by decide
noncomputable abbrev qc:List D:=[.str "place",.str "number",.str "line",.str "root",.str "tree",.str "web",.str "text",.str "great"]
noncomputable abbrev kA:List D:=[D.bl ć,D.bl ć,D.bl ć,D.bl ć]
noncomputable abbrev kB:List D:=[D.bl ć,D.bl ć,D.bl ć,D.bl ą]
abbrev kR(J:az):az:=J++[O.lst kA]++[O.lst kB]
abbrev kS(J:az):az:=kR J++[O.lst (kA++kB)]
theorem MY{c:ď}{o:O}(H:∀(M:az) (n:ă) (subs:List ď),M[n]?=Ā o->jA subs ["TooGreat"] (.obj n) M=.ok (.bl (subs.contains c)) M)(C:([]:List ď).contains c=ć)(k:(["TooGreat"]:List ď).contains c=ą)(h:J[n]?=Ā o):df [.obj n] J=.ok (.str "great") J:=by
 have d:(J++[O.lst kA])[n]?=Ā o:=aC h;have l:(kR J)[n]?=Ā o:=aC d;have p:(kS J)[n]?=Ā o:=aC l;have b:(kS J)[(kR J).length]?=Ā (.lst (kA++kB)):=av;have e:(kS J++[O.lst qc])[(kR J).length]?=Ā (.lst (kA++kB)):=aC b;have K:(kS J++[O.lst qc])[(kS J).length]?=Ā (.lst qc):=av;have f:=m8 (J:=kR J) (aC av) av 0e3
 have i:g8 (.obj (kR J).length) [.bl ą] (kS J)=.ok (.int 1) (kS J):=by
  unfold g8;dsimp only;rw[b];rfl
 have I:g7 (.obj (kR J).length) [.bl ą] (kS J++[O.lst qc])=.ok (.int 7) (kS J++[O.lst qc]):=by
  unfold g7;dsimp only;rw[e];dsimp only;rw[RC ⟨by rfl,by simp,by rfl⟩];rfl
 have E:pU (.obj (kR J).length) (kS J)=ą:=by unfold pU;dsimp only;rw[b]
 have j:pU (.obj (kR J).length) (kS J++[O.lst qc])=ą:=by unfold pU;dsimp only;rw[e]
 unfold df;rw[bW];simp only[jg,List.replicate,aK,aT,d6,ay,aB,jH,ak,aa,H _ _ _ h,C];rw[RC (show kA.length<=sizeLine from l4)];simp only[ae];rw[show ah 1 (D.obj 3e9) [Ā (D.obj n),Ă] (J++[O.lst kA])=.ok [Ā (D.obj n),Ā (D.obj 3e9)] (J++[O.lst kA]) from rfl];simp only[ae,aE,aK,aT,aG,d6,ay,aB,jH,ak,aq,aa,H _ _ _ d,C,k];rw[RC (show kB.length<=sizeLine from l4)];simp only[aa];rw[f];simp only[ae];rw[show ah 1 (D.obj (kR J).length) [Ā (D.obj n),Ā (D.obj 3e9)] (kS J)=.ok [Ā (D.obj n),Ā (D.obj (kR J).length)] (kS J) from rfl];simp only[ae,aE,aK,bE,rm,mZ,iR,jH,ak,aa,H _ _ _ p,k,mY,WI];unfold eP;simp only[aG,nB,ay,aB,ak,aq,bg,aa,E,T8,i,cY,bC];rw[show (!((1:Ć) == 1))=ć from rfl];simp only[ae,Vm,T7,gv,aE,cw,aG,d6,ay,aB,bg,aa];rw[RC (show [D.str "place",D.str "number",D.str "line",D.str "root",D.str "tree",D.str "web",D.str "text",D.str "great"].length<=sizeLine from l8)];simp only[aa,nB,ay,aB,aq,ak,bg,j,T8,I];rw[fE K (by rfl)];simp[fZ]
theorem FZ{fs:List (ď×Ć)}(h:J[n]?=Ā (.exn "TooGreat" fs)):df [.obj n] J=.ok (.str "great") J:=MY (c:="TooGreat") (λM n subs h=>by
 unfold jA;dsimp only;rw[h];dsimp only
 rw[RC 3e0]) 3e0 3e0 h
theorem uS{a:ď}{fs:List (ď×Ć)}{i:Ć}(h:J[n]?=Ā (.exn "TooGreat" fs))(L:fs.lookup a=Ā i):kv ["TooGreat"] a (.obj n) J=.ok (.int i) J:=by
 unfold kv;dsimp only;rw[h];dsimp only;rw[RC 3e0,L]
theorem JZ{i:Ć}:ef [.int i] J=.ok (.bl ą) J:=by
 simp[ef,bW,lb,show mH "int" (.int i) J=.ok (.bl ą) J from rfl,show mH "bool" (.int i) J=.ok (.bl ć) J from rfl,fg]
section
variable{a:D}
noncomputable abbrev Fw:ă->List D->az->aj D:=λj=>[cI,cJ,cD].getD j cD
theorem G2(r:j<3){c:Option D}:jK [Ā (nD j),Ā a,c] J=(Fw j [a] J).bindS λd J'=>.ret d J':=by
 have:j=0\/j=1\/j=2:=by lia
 rcases this with rfl|rfl|rfl
 all_goals rfl
theorem rB(h:j<3){r:D}{J':az}(e:Fw j [a] J=.ok r J'):a8 [nD j,a] J=pV J (.ok r J'):=by
 simp_all[a8,d7,i9,Ar,G2]
theorem xE{k:ă}(r:j<3)(e:Fw j [a] J=.exc ⟨"TooGreat",[("most",(k:Ć)),("many",(n:Ć))]⟩ (J++g)):a8 [nD j,a] J=.ok (sV n k) J:=by
 have N:0+1+1+1<=sizeLine:=by decide
 let o:O:=.exn "TooGreat" [("most",(k:Ć)),("many",(n:Ć))]
 have h:(J++g++[o])[(J++g).length]?=Ā (.exn "TooGreat" [("most",(k:Ć)),("many",(n:Ć))]):=av;have f:=uS (a:="many") h (by rfl);have A:=uS (a:="most") h (by rfl)
 have ne:∀M:az,fW ą (.str "great") (.str "great") M=.ok (.bl ć) M:=λM=>by
  simp[fW,show mG M (.str "great")=Ā (.str "great") from rfl];rw[RC 3e0];congr 2
 simp[a8,d7];unfold i9 Ar;rw[G2 r,e,show (aj.exc ⟨"TooGreat",[("most",(k:Ć)),("many",(n:Ć))]⟩ (J++g)).bindS (λd b=>SO.ret d b)=.exc ⟨"TooGreat",[("most",(k:Ć)),("many",(n:Ć))]⟩ (J++g) from rfl];dsimp only
 rw[show fj ((List.replicate 3 Ă).set 2 (Ā (.obj (J++g).length))) (J++g++[Hf ⟨"TooGreat",[("most",(k:Ć)),("many",(n:Ć))]⟩])=.ret (sV n k) (J++g++[o]) from by
  show fj [Ă,Ă,Ā (.obj (J++g).length)] (J++g++[o])=_;simp only[fj,aK,bE,rm,mZ,iR,cc,jH,aG,aL,ay,aB,bg,aq,ak,aa,FZ h,ne,bC,f,A,JZ,mY]
  simp_all]
 rw[Va];exact fZ 1e1
theorem AW (h:12<ks.length):cg [aQ m ks] J=.exc ⟨"TooGreat",[("most",((12:ă):Ć)),("many",((ks.length:ă):Ć))]⟩ J:=by
 simp[cg,bW,ip,show cmpI .Gt (ks.length:Ć) 12=ą from RB (by omega)];rfl
theorem NZ(h:12<ks.length)(r:j<3):Fw j [aQ m ks] J=.exc ⟨"TooGreat",[("most",((12:ă):Ć)),("many",((ks.length:ă):Ć))]⟩ (J++[]):=by
 have:j=0\/j=1\/j=2:=by lia
 rcases this with rfl|rfl|rfl
 ·show cI [aQ m ks] J=_;simp[cI,bW,ij,AW h];rfl
 ·show cJ [aQ m ks] J=_;unfold cJ;simp[bW,ik];simp[aL,AW h];rfl
 ·show cD [aQ m ks] J=_;simp[cD,bW,i8,aL,ay,aB,ak,aa,AW h];rfl
theorem A8 (h:GW m ks) (h12:(ks.length<=12)):∃g r,(J++g)[r]?=Ā (.lst (RL m ks))/\J.length<=r/\cD [aQ m ks] J=if (RL m ks).length<=300 then .ok (.obj r) (J++g) else .exc ⟨"TooGreat",[("most",((300:ă):Ć)),("many",(((RL m ks).length:ă):Ć))]⟩ (J++g):=by
 refine aU (oq (J:=J) h h12) λg r W B C=>?_;refine⟨g,r,B,C,?_⟩
 have c:fm [.obj r] (J++g)=if (RL m ks).length<=300 then .ok .non (J++g) else .exc ⟨"TooGreat",[("most",((300:ă):Ć)),("many",(((RL m ks).length:ă):Ć))]⟩ (J++g):=by
  simp[fm,bW,jM,gz B];by_cases L:(RL m ks).length<=300
  ·rw[show cmpI .Gt ((RL m ks).length:Ć) 300=ć from RD 0e1,RC L];simp[fg]
  ·simp[show cmpI .Gt ((RL m ks).length:Ć) 300=ą from RB 0e1,RE L,kD];rw[gz B];rfl
 simp[cD,bW,i8,nR h h12,W];rw[c];by_cases L:(RL m ks).length<=300
 ·simp_all[gK]
 ·rw[RE L,RE L];rfl
theorem Mx(h:12<ks.length)(r:j<3):a8 [nD j,aQ m ks] J=.ok (sV ks.length 12) J:=xE r (NZ h r)
theorem Ei(h:GW m ks)(h12:(ks.length<=12)):a8 [nD 0,aQ m ks] J=.ok (nD (RL m ks).length) J:=by
 rw[rB (j:=0) 0e3 (B9 h h12)];exact fg 1e1
theorem BY(h:GW m ks)(h12:(ks.length<=12)):a8 [nD 1,aQ m ks] J=.ok (hdD (RL m ks)) J:=by
 rw[rB (j:=1) 0e3 (Cc h h12)];refine fg ?_;cases hR:RL m ks with
 |nil=>simp[hdD]
 |cons x l=>
  refine bb (rh h (d:=x) (by rw[hR];simp)) λL G e=>?_;show x.low 3e9
  grind [kW]
theorem H9(h:GW m ks)(h12:(ks.length<=12))(L:(RL m ks).length<=300):∃g r,a8 [nD 2,aQ m ks] J=.ok (.obj r) (J++g)/\(J++g)[r]?=Ā (.lst (RL m ks))/\J.length<=r:=by
 refine aU (A8 (J:=J) h h12) λg r B C W=>?_;rw[RC L]at W;refine⟨g,r,?_,B,C⟩;rw[rB (j:=2) 0e3 W]
 simp_all[gK]
theorem Eh(h:GW m ks)(h12:(ks.length<=12))(L:¬ (RL m ks).length<=300):a8 [nD 2,aQ m ks] J=.ok (sV (RL m ks).length 300) J:=by
 refine aU (A8 (J:=J) h h12) λg r B C W=>?_;rw[RE L]at W;exact xE 0e3 W
end
theorem DS:tr neg (.str x) (.str x) M=.ok (.bl (!neg)) M:=by
 unfold tr;dsimp only;rw[RB rfl];cases neg <;> rfl
noncomputable abbrev K8 (n k:ă):ė:=.tuple [.str "great",.int n,.int k]
theorem NU{k t u:ă}(h:M[t]?=Ā (.lst [sV n k,sV n k,sV n k]))(h':M[u]?=Ā (.lst [sV n k,sV n k,sV n k])):fW ć (.obj t) (.obj u) M=.ok (.bl ą) M:=by
 have f:fitP (.list [K8 n k,K8 n k,K8 n k])=ą:=by
  simp[fitP,ě,Ď,ĭ,Ē,(show ė.strOk "great" = ą by decide +kernel)]
 have e:∀i,M[i]?=Ā (.lst [sV n k,sV n k,sV n k])->mG M (.obj i)=Ā (.list [K8 n k,K8 n k,K8 n k]):=λi I=>by
  unfold mG;simp only[I];rfl
 simp_all[fW,SeqAt.eqv_refl,fitP_lay]
theorem Kl{k t u:ă}{T:D}(hT:T=sV n k)(h:M[t]?=Ā (.lst [T,T,T]))(h':M[u]?=Ā (.lst [T,T,T])):fW ć (.obj t) (.obj u) M=.ok (.bl ą) M:=by
 subst hT;exact NU h h'
theorem PN{t:ă}{x:D}(h:M[t]?=Ā (.lst [x])):gH (.obj t) (.int 3) M=.ok (.obj M.length) (M++[.lst [x,x,x]]):=by
 unfold gH;simp only[h];rfl
section
theorem EX(h:12<ks.length):cL [aQ m ks] J=.ok (.bl ą) J:=by
 have N:0+1<=sizeLine:=by decide
 have n:0+1+1+1<=sizeLine:=by decide
 have f:=cy (src:=.fix ((List.range 3).map nD)) (g:=ah 0) (t:=a9) (e:=eK) (J1:=J) (λb=>∃o,b=[o,Ā 3e7]) (λ_=>trivial) (us:=List.range 3) (ρ:=[Ă,Ā 3e7]) ⟨Ă,rfl⟩ (by rw[UU];decide) (λj r a b hR=>by
  obtain⟨o,rfl⟩:=hR;refine⟨[Ā (nD j),Ā 3e7],⟨_,rfl⟩,rfl,rfl,λ_=>?_⟩;unfold eK;simp only[aL]
  exact Mx h (SM.mp r))
 rw[fA]at f;obtain⟨T,hT⟩:∃T:D,T=.tup [.str "great",.int (ks.length:Ć),.int 12]:=⟨_,rfl⟩;let c:az:=J++[.lst [T,T,T]]
 have f:compLoop (.fix (bc 0 (3:Ć).toNat)) 3e9 (ah 0) a9 eK (bc 0 (3:Ć).toNat) (cT [Ă,Ā 0] [Ā 3e7,Ă,Ă,Ă]) (J++[.lst []])=.ok 1e3 c:=by
  show _=aj.ok (D.obj 3e9) (J++[.lst [T,T,T]]);rw[hT];exact f
 unfold cL;rw[bW,show (Ā 3e7::List.replicate (4-1) Ă:Ro)=[Ā 3e7,Ă,Ă,Ă] from rfl];unfold iq;rw[aK,bE];simp only[cc,aG,aL,ay,aB,bg,ak,aa,fO,gw,d9,bC,ae,Us];rw[show cmpI .Gt (ks.length:Ć) 12=ą from RB (by omega),RC rfl];rw[cw,aG,br,bu];simp only[ay,aB,bg,aa];rw[bY 0e3 0e3,aa,aW];rw[f];simp only[aa,aG,d6,bV,aL,ay,aB,bg,ak,fO,gw,Us,Uu,UU,RC N,RC n];rw[<- hT,PN av];simp only[aa];rw[Kl hT (aC (aC av)) av];simp only[ae,Iz,dD];show pV J (.ok (.bl ą) (J++[_]++[_]++[_]))=_;simp[fZ]
theorem xU(h:GW m ks)(h12:(ks.length<=12)){L:ă}{x2:D}(hL:M[L]?=Ā (.lst (RL m ks))):∃s p3,ez [Ā 3e7,Ā (.obj L),Ā x2,o3] M=.next [Ā 3e7,Ā (.obj L),Ā x2,p3] (M++s):=by
 have N:0+1+1+1<=sizeLine:=by decide
 by_cases l:(RL m ks).length<=300
 ·refine aU (H9 (J := M) h h12 l) λg r W B C => ?_;obtain⟨x,R⟩:=Nj h l;have a:=R _ _ B;have b:=R (M++g) _ (aC hL);have ix:(M++g).set r (.lst (RL m ks++[.int 0]))=M++g.set (r-M.length) (.lst (RL m ks++[.int 0])):=List.set_append_right _ _ C;refine⟨g.set (r-M.length) (.lst (RL m ks++[.int 0])),Ā (.obj r),?_⟩;unfold ez;rw[aK,aT];simp[aL,ay,aB,bg,ak,aa];rw[show a8 [.int 2,aQ m ks] M=_ from W];simp only[ae,aE];rw[aK,bE];simp only[cc,aG,aL,ay,aB,aq,ak,aa];rw[a];simp only[aa,G5,cc,aG,aL,ay,aB,bg,aq,ak];rw[gz (aC hL)];simp only[aa,d9,bC];rw[show cmpI .Lt ((RL m ks).length:Ć) 301=ą from RB 0e1,RC rfl];simp only[aa];rw[b];simp only[aa,DS,WI,bC,ae,Vm,T7,gv,aE];rw[bE];simp only[iR,jH,aq,ak,aa];rw[show mH "list" (.obj r) (M++g)=.ok (.bl ą) (M++g) from by unfold mH Oi;dsimp only;rw[B];rfl];simp only[aa,mY,ae,T8];rw[jo,nB];simp only[ay,aB,bg,aq,ak,aa];rw[show pU (.obj r) (M++g)=ą from by unfold pU;dsimp only;rw[B],RC rfl]
  rw[show bI (.obj r) [.int 0] (M++g)=.ok .non ((M++g).set r (.lst (RL m ks++[.int 0]))) from by
   unfold bI;dsimp only;rw[B];dsimp only
   rw[RC (R8 l 0e3)],ix]
  rfl
 ·have Q:(RL m ks).length<4097:=by
   rw[vG];exact R8 rp (R8 (WY 0e3 h12) 0e3)
  obtain⟨x,R⟩:=Ct Q;refine⟨[],Ā (sV (RL m ks).length 300),?_⟩;unfold ez;rw[aK,aT];simp only[aL,ay,aB,bg,aq,ak,aa];rw[show a8 [.int 2,aQ m ks] M=_ from Eh h h12 l];simp only[ae,bG,aE,Wu,Wv];rw[aK,bE];simp only[cc,aG,aL,ay,aB,aq,ak,aa];rw[R];simp only[aa,G5,cc,aG,aL,ay,aB,bg,aq,ak];rw[gz hL];simp only[aa,d9,bC];rw[show cmpI .Lt ((RL m ks).length:Ć) 301=ć from RD 0e1,RE RF];simp only[bV,aL,ay,aB,bg,aq,ak,aa];rw[gz hL];simp only[aa,Uu,UU,RC N];rw[show ck [.tup [.str "great",.int (((RL m ks).length:ă):Ć),.int 300]] M=_ from R M];simp only[aa,DS,WI,bC,ae,Vm,T7,gv,aE];rw[bE];simp only[iR,jH,aq,ak,aa];rw[show mH "list" (sV (RL m ks).length 300) M=.ok (.bl ć) M from rfl];simp
theorem tZ(h:GW m ks):cL [aQ m ks] J=.ok (.bl ą) J:=by
 by_cases h13:12<ks.length
 ·exact EX h13
 have h12:ks.length<=12:=R0 h13;have N:0+1<=sizeLine:=by decide
 refine aU (B8 (J:=J) h h12) λg r W B C=>?_;let c:az:=J++g
 have Q:(RL m ks).length<=4096:=by
  rw[vG];exact RH rp (RH (WY 0e3 h12) 0e3)
 obtain⟨x,R⟩:=IU (k:=(RL m ks).length) (RH Q (Vj _ _));obtain⟨y,q⟩:=Ni h;let a:az:=c++[.lst [.non]]
 have D:=m8 (J:=a) (aC B) av (by rw[Ur];exact à (RH Q (Vj _ _)) _);let f:az:=a++[.lst (RL m ks++[.non])]
 have d:bN (.obj a.length) (.int 0) f=.ok (hdD (RL m ks)) f:=fE av (by cases RL m ks <;> exact tK);have hL:f[r]?=Ā (.lst (RL m ks)):=aC (aC B);obtain⟨s,p,T⟩:=xU h h12 hL;obtain⟨S,i,t⟩:=xU h h12 (aC hL);unfold cL;rw[bW,show (Ā 3e7::List.replicate (4-1) Ă:Ro)=[Ā 3e7,Ă,Ă,Ă] from rfl];unfold iq;rw[aK,bE];simp only[cc,aG,aL,ay,aB,bg,ak,aa,fO,gw,d9,bC,ae,Us];rw[show cmpI .Gt (ks.length:Ć) 12=ć from RD 0e1,RE RF,gv,aE];rw[aK,aT];simp only[aL,ay,aB,ak,aa];rw[W];simp only[ae,bG,aE,Wu,Wv];rw[aK,bE,rm];simp only[cc,aG,aL,ay,aB,bg,aq,ak,aa];rw[show a8 [.int 0,aQ m ks] (J++g)=_ from Ei h h12];simp only[aa];rw[R];simp only[aa];rw[gz B];simp only[aa];rw[R];simp only[aa,DS,WI,bC,Vm,T7];rw[show a8 [.int 1,aQ m ks] (J++g)=_ from BY h h12];simp only[aa];rw[q];simp only[aa,d6,ay,aB,bg,Uu,UU,RC N];rw[show cq (.obj r) (.obj (J++g).length) (J++g++[.lst [.non]])=_ from D];simp only[aa];rw[d];simp only[aa];rw[q];simp only[aa,DS,WI,bC,ae,Vm,T7,gv,aE];rw[aK,cP,bu];simp only[ay,aB,bg,aa];rw[bY 0e3 0e3,ae,aW];rw[show bc 0 (2:Ć).toNat=[nD 0,nD 1] from rfl];unfold bH;rw[RC (show bf (.fix [nD 0,nD 1]) _ from trivial)];rw[bG,ae];simp only[Wu,Wv];rw[T,jk];unfold bH;rw[RC (show bf (.fix [nD 0,nD 1]) _ from trivial)];rw[bG,ae];simp only[Wu,Wv];rw[t,jk];unfold bH;rw[RC (show bf (.fix [nD 0,nD 1]) _ from trivial),aE,cw];simp only[bg,ae,dD];show pV J (.ok (.bl ą) (J++g++[_]++[_]++s++S))=_;simp[fZ]
end
theorem Ex:∃x:Ć,eE [.frz (ns.map D.int),.int 0] J=.ok (.int x) J:=by
 simp[eE,d7,jh];cases ns with
 |nil=>
  simp[cmpI,fg]
 |cons n r=>
  rw[show cmpI .Lt 0 ((n::r).length:Ć)=ą from RB (by rw[Uu];simp)];simp[Kx,tK,fg]
def yL(i:ă):List D:=List.map cE (List.map (λk:ă=>((i:Ć),(i:Ć)+1+(k:Ć))) (List.range (6-((i:Ć)+1)).toNat))
section
variable{a0 a3 a4 a5:Option D}
theorem Kv{t:ă}(T:M[t]?=Ā (.lst xs))(L:xs.length<=100)(I:i<6):∃(M':az)(t':ă),js [a0,Ā (.obj t),Ā (nD i),a3,a4,a5] M=.next [a0,Ā (.obj t'),Ā (nD i),a3,a4,a5] M'/\M'[t']?=Ā (.lst (xs++yL i)):=by
 have c:=i3 (J1:=M) (e:=si) (rest:=[Ā (nD i)]) (f:=λv=>((i:Ć),v)) (lo:=(i:Ć)+1) (n:=(6-((i:Ć)+1)).toNat) 0e1 (λv a=>by
  rfl)
 have y:(yL i).length=5-i:=by
  simp[yL,Us,UT]
  lia
 refine⟨M++[O.lst (yL i)]++[O.lst (xs++yL i)],(M++[O.lst (yL i)]).length,?_,av⟩;simp only[js,aT,aG,aq,ak,aa,br,bu,ay,aB,bg,gA];rw[kI 0e1 0e1 1e1 1e1,aa,aW,show compLoop (.fix (bc ((i:Ć)+1) (6-((i:Ć)+1)).toNat)) M.length (ah 0) a9 si (bc ((i:Ć)+1) (6-((i:Ć)+1)).toNat) (cT [Ă,Ā 2] [a0,Ā (.obj t),Ā (nD i),a3,a4,a5]) (M++[.lst []])=.ok (.obj M.length) (M++[.lst (yL i)]) from c];simp only[aa];rw[m8 (aC T) av 0e1];rfl
theorem Kt:∃(M':az)(t':ă)(b2:Option D),bH (.fix (bc 0 6)) (ah 2) js (bc 0 6) [a0,Ā (.obj 0),Ă,Ă,Ă,Ă] [.lst []]=.next [a0,Ā (.obj t'),b2,Ă,Ă,Ă] M'/\M'[t']?=Ā (.lst (prs.map ax)):=by
 have key:∀(n i:ă)(M:az)(t:ă)(S:List D)(a2:Option D),i+n=6->M[t]?=Ā (.lst S)->S.length<=10*i->∃(M':az)(t':ă)(b2:Option D),bH (.fix (bc 0 6)) (ah 2) js ((List.range n).map λk=>nD (i+k)) [a0,Ā (.obj t),a2,Ă,Ă,Ă] M=.next [a0,Ā (.obj t'),b2,Ă,Ă,Ă] M'/\M'[t']?=Ā (.lst (S++((List.range n).map λk=>yL (i+k)).flatten)):=by
  intro n
  induction n with
  |zero=>
   intro i M t S a2 _ T _;refine⟨M,t,a2,?_,by simpa using T⟩;simp[bH,bf]
  |succ n I=>
   intro i M t S a2 h T L;refine bZ (Kv (a0:=a0) (a3:=Ă) (a4:=Ă) (a5:=Ă) (i:=i) T 0e1 0e1) λc b E z=>?_
   have y:(yL i).length<=10:=by
    grind [yL]
   refine gI (I (i+1) c b (S++yL i) (Ā (nD i)) (RM (RJ _ _ _) h) z (by rw[Uq];exact ă.add_le_add L y)) λa B b2 m K=>?_;have s:∀{d:Type}(f:ă->d),((λk=>f (i+k)) ∘ Xp)=λk=>f (i+1+k):=λf=>funext λk=>by lia
   refine⟨a,B,b2,?_,?_⟩
   ·rw [UQ, SH];unfold bH;rw[RC (show bf (.fix (bc 0 6)) M from trivial)]
    simp_all
   ·rw[UQ,SH,UR,Xc,s yL,<- Va];exact K
 refine gI (key 6 0 [.lst []] 0 [] Ă rfl rfl (Rx _)) λM' t' b2 e g=>?_;refine⟨M',t',b2,?_,?_⟩
 ·simp_all[bc]
 ·rw[g];rfl
end
theorem jj(d:1<=m)(i:m<=6)(hs:ks.Sublist prs)(H:∀k∈ks,k.getD 1 0<(m:Ć)):GW m ks:=by
 refine⟨rfl,by lia,by lia,eY.sublist hs,λk h=>?_⟩;refine aJ (dX (hs.subset h)) λa b G z K I=>?_;subst G;have:=H _ h;simp[List.getD_cons_succ,List.getD_cons_zero]at this;exact⟨a,b,rfl,z,K,this⟩
def La:List (List Ć):=prs.filter λk=>decide (k.getD 1 0<5)
section
variable{a0 a1 a2 a3 a5:Option D}
theorem ye{S:ă}{all:List D}(hS:M[S]?=Ā (.lst all)):∀(ds:List D)(a4:Option D),(∀d∈ds,∃m ks,GW m ks/\d=aQ m ks)->∃b4,bH (.own S all) (ah 4) kL ds [a0,a1,a2,a3,a4,a5] M=.next [a0,a1,a2,a3,b4,a5] M
 |[],a4,_=>⟨a4,by unfold bH;rw[RC (show bf (.own S all) M from hS)]⟩
 |d::ds,a4,h=>by
  refine bZ (h d Ta) λm ks g G=>?_;subst G;obtain⟨b4,i⟩:=ye hS ds (Ā 3e7) λx H=>h x (Tb _ H);refine⟨b4,?_⟩;simp[bH,RC (show bf (.own S all) M from hS)]
  rw[show kL [a0,a1,a2,a3,Ā 3e7,a5] M=.next [a0,a1,a2,a3,Ā 3e7,a5] M from by
   simp[kL,tZ g],jk,i]
theorem FV{x:Ć}{a4:Option D}:∃M',nh [a0,a1,a2,a3,a4,Ā (.int x)] M=.next [a0,a1,a2,a3,a4,Ā (.int x)] M'/\∀(j:ă)(o:O),M[j]?=Ā o->M'[j]?=Ā o:=by
 obtain⟨a,b,c,z⟩:=Iw (J:=M) x;obtain⟨d,i,k,A,B,C,g,W⟩:=B6 (J:=M++[b7 a b c]) av;obtain⟨m,rfl⟩:=W5 (show 0<=i by have:=g.2.1;exact V6 (WC _) this);obtain⟨rfl⟩:d=aQ m k:=g.1;refine⟨M++[b7 A B C],?_,λj o r=>aC r⟩;simp[nh,z,W,tZ g]
end
theorem Iy(ns:List Ć):∃J',tO [.frz (ns.map D.int)] []=.ok (.bl ą) J':=by
 have U:0<=sizeLine:=by decide
 have α:0+1<=sizeLine:=by decide
 have N:0+1+1<=sizeLine:=by decide
 have n6:0+1+1+1+1+1+1<=sizeLine:=by decide
 obtain⟨f,l,b2,e1,v⟩:=Kt
 have P:=cy (src:=.own l (prs.map ax)) (g:=ah 0) (t:=nc) (e:=sh) (J1:=f) (q:=λk=>decide (k.getD 1 0<5)) (λc=>∃o,c=[o]) (λ_=>aC v) (us:=prs) (ρ:=[Ă]) ⟨Ă,rfl⟩ (by rw[UU];exact RH 0e3 cj) (λk K a c hR=>by
  obtain⟨o,rfl⟩:=hR;refine⟨[Ā (ax k)],⟨_,rfl⟩,rfl,?_,λ_=>rfl⟩;refine bZ (dX K) λx y v3 _=>?_;subst v3;unfold nc;simp only[cc,aG,bg,ak,aa,d9,bC];rw[show bN (ax [x,y]) (.int 1) (f++[O.lst a])=.ok (.int y) (f++[O.lst a]) from rfl];simp only[aa,d9,bC]
  rfl)
 rw[Wx]at P;let i:az:=f++[.lst (La.map ax)]
 have G:i[l]?=Ā (.lst (prs.map ax)):=aC v;let p:az:=i++[.lst ((prs.take 13).map ax)]
 obtain⟨W,hW⟩:∃W:List D,W=[D.tup [D.int 1,D.tup []],D.tup [D.int 2,D.tup [D.tup [D.int 0,D.int 1]]],D.tup [D.int 3,D.tup [D.tup [D.int 0,D.int 1],D.tup [D.int 1,D.int 2]]],D.tup [D.int 5,D.tup (La.map ax)],D.tup [D.int 6,D.tup (prs.map ax)],D.tup [D.int 6,D.tup ((prs.take 13).map ax)]]:=⟨_,rfl⟩;let j:az:=p++[.lst W]
 have gW:∀d∈W,∃m T,GW m T/\d=aQ m T:=λd H=>by
  rw[hW]at H;simp only[Td,UN,UO]at H;rcases H with rfl|rfl|rfl|rfl|rfl|rfl
  ·exact⟨1,[],jj 0e3 0e3 (List.nil_sublist _) 1e1,rfl⟩
  ·exact⟨2,[[0,1]],jj 0e3 0e3 3e0 0e3,rfl⟩
  ·exact⟨3,[[0,1],[1,2]],jj 0e3 0e3 3e0 0e3,rfl⟩
  ·exact⟨5,La,jj 0e3 0e3 List.filter_sublist (λk K=>Wr (S8.mp K).2),rfl⟩
  ·exact⟨6,prs,jj 0e3 0e3 (List.Sublist.refl _) 3e0,rfl⟩
  ·exact⟨6,prs.take 13,jj 0e3 0e3 (TZ _ _) 3e0,rfl⟩
 obtain⟨b4,lp⟩:=ye (M:=j) (all:=W) (a0:=Ā (.frz (ns.map D.int))) (a1:=Ā (.obj l)) (a2:=b2) (a3:=Ā (.tup (La.map ax))) (a5:=Ă) av W Ă gW;obtain⟨X,u⟩:=Ex (J:=j) (ns:=ns)
 obtain⟨S,w,hxl⟩:∃S:List Ć,lF (ns.map D.int) (Ā 1) (Ā 3)=S.map D.int/\S.length<=9:=by
  refine⟨(ns.drop (HT.sIx ns.length 0 (Ā 1))).take (HT.sIx ns.length ns.length (Ā 3)-HT.sIx ns.length 0 (Ā 1)),?_,?_⟩
  ·unfold lF;rw[Us,U2,U3]
  ·rw [TQ];have h6:HT.sIx ns.length ns.length (Ā 3)=min 3 ns.length:=HT.sIx_nat _ _ 3
   lia
 let s:az:=j++[.lst [.int X]]
 let n:az:=s++[.lst (S.map D.int)]
 have L:=m8 (J:=n) (a:=j.length) (b:=s.length) (xs:=[.int X]) (ys:=S.map D.int) (aC av) av (by rw[Us,Ur];lia);rw[show ([D.int X]++S.map D.int)=(X::S).map D.int from rfl]at L;let V:az:=n++[.lst ((X::S).map D.int)]
 obtain⟨ρ8,F,_,μ⟩:=g6 (src:=.own n.length ((X::S).map D.int)) (g:=ah 5) (fb:=nh)
  (λzs c h=>h[n.length]?=Ā (O.lst ((X::S).map D.int))/\(∃R:List Ć,zs=R.map D.int)/\∃z A B C I Z,c=[z,A,B,C,I,Z])
  (λc h hJ=>hJ.1)
  (λx r c h hJ => by
   obtain⟨Q,⟨R,E⟩,z,A,B,C,I,Z,eρ⟩:=hJ;subst eρ;cases R with
   |nil=>cases E
   |cons y R=>
    rw[SH]at E;injection E with ex E
    subst ex E;refine bb (FV (M:=h) (x:=y) (a0:=z) (a1:=A) (a2:=B) (a3:=C) (a4:=I)) λM' ec kc=>?_
    exact⟨Q,_,_,_,_,rfl,ec,kc _ _ Q,⟨R,rfl⟩,_,_,_,_,_,_,rfl⟩)
  (xs:=(X::S).map D.int) (ρ:=[Ā (.frz (ns.map D.int)),Ā (.obj l),b2,Ā (.tup (La.map ax)),b4,Ă]) (J:=V) ⟨av,⟨_,rfl⟩,_,_,_,_,_,_,rfl⟩
 have body:∃J',(A1 [Ā (.frz (ns.map D.int)),Ă,Ă,Ă,Ă,Ă] [])=.ret (.bl ą) J':=by
  refine⟨F,?_⟩;unfold A1;rw[aK,aT];simp only[d6,aB,aa,UU,RC U,ae,bG,aE,Wu,Wv];rw[aK,cP,bu];simp only[ay,aB,bg,aa];rw[bY 0e3 0e3,ae,aW];rw[show bH (.fix (bc 0 (6:Ć).toNat)) (ah 2) js (bc 0 (6:Ć).toNat) [Ā (.frz (ns.map D.int)),Ā (.obj 0),Ă,Ă,Ă,Ă] ([]++[.lst []])=_ from e1,aE];rw[aK,aT,aL,ay,br,bT];simp only[aq,ak,aa];rw[bP v,aa,bM];rw[show compLoop (.own l (prs.map ax)) f.length (ah 0) nc sh (prs.map ax) (cT [Ă] [Ā (.frz (ns.map D.int)),Ā (.obj l),b2,Ă,Ă,Ă]) (f++[.lst []])=.ok (.obj f.length) i from P];simp only[aa,aB];rw[d8 av];simp only[ae,bG,aE,Wu,Wv];rw[aK,cP,bT,d6];simp only[ay,aB,bV,aL,AR,BD,n9,vP,bg,aq,ak,aa,Uu,UU,RC U,RC α,RC N];rw[d8 G];simp only[aa,Uu,UU,RC N]
  rw[show z8 (.obj l) Ă (Ā 13) i=.ok (.obj i.length) p from by
   unfold z8;dsimp only;rw[G]
   rfl]
  simp only[aa];rw[d8 av];simp only[aa,Uu,UU,RC N,RC n6];rw[<- hW,bP av,ae,bM];rw[show bH (.own p.length W) (ah 4) kL W [Ā (.frz (ns.map D.int)),Ā (.obj l),b2,Ā (.tup (La.map ax)),Ă,Ă] (p++[O.lst W])=_ from lp,aE];rw[aK,cP,bT,aG,d6];simp only[aL,ay,aB,bg,aq,ak,aa,u,Uu,UU,RC α,AR,n9,vP]
  rw[show z8 (.frz (ns.map D.int)) (Ā 1) (Ā 3) (j++[.lst [.int X]])=.ok (.obj s.length) n from by
   unfold z8;dsimp only
   rw[w]]
  simp only[aa];rw[L];simp only[aa];rw[bP av,ae,bM,μ,aE,cw];rfl
 obtain⟨J',eb⟩:=body;unfold tO;rw[bW,show (Ā (.frz (ns.map D.int))::List.replicate (6-1) Ă:Ro)=[Ā (.frz (ns.map D.int)),Ă,Ă,Ă,Ă,Ă] from rfl,eb,dD];unfold pV;dsimp only;split
 all_goals lia
end _w
namespace _w
open PySem PySem.Spec PyProof.Rows _l _r
theorem G4(P:ø)(f:Ĉ)(n m:ď)(t:α0)(c:Ĉ)(s:ĝ)(l:(Kz P).lookup f=Ā (fo n s m t c))(q:W.codeIn (Kz P) (.ref c) n=ą):ke (Kz P) n n s f (W.fnOf n n (cG s) (bt s) (aF s) .none .none .none (.str m t) Ă (.ref c) .none):=Bz l q (by unfold W.keepIn;dsimp only;rw[l];rfl)
theorem By(P:ø)(f:Ĉ)(n q m:ď)(t:α0)(c:Ĉ)(s:ĝ)(l:(Kz P).lookup f=Ā (OZ n q s m t c))(e:W.codeIn (Kz P) (.ref c) q=ą):ke (Kz P) n q s f (W.fnOf n q (cG s) (bt s) (aF s) .none .none .none (.str m t) Ă (.ref c) .none):=Bz l e (by unfold W.keepIn;dsimp only;rw[l];rfl)
noncomputable abbrev O0:=Ĉ×ď×ď×α0×Ĉ×ă
noncomputable def jP(a:Ĉ)(x m:ď)(t:α0)(c:Ĉ)(j:ă):O0:=(a,x,m,t,c,j)
def TT:List O0:=[jP 151 "check_ties" "rootwebs.roots" 364 150 14,jP 158 "check_roots" "rootwebs.roots" 364 157 15,jP 163 "steps_at" "rootwebs.roots" 364 162 16,jP 168 "ways_between" "rootwebs.roots" 364 167 17,jP 173 "clashes_at" "rootwebs.roots" 364 172 18,jP 178 "settled_at" "rootwebs.roots" 364 177 19,jP 183 "is_made" "rootwebs.roots" 364 182 20,jP 188 "choices_by" "rootwebs.roots" 364 187 21,jP 195 "root_choices" "rootwebs.roots" 364 194 22,jP 200 "chosen_ties" "rootwebs.roots" 364 199 23,jP 205 "roots_by" "rootwebs.roots" 364 204 24,jP 212 "roots_of" "rootwebs.roots" 364 211 25,jP 219 "roots_many" "rootwebs.roots" 364 218 26,jP 226 "first_root" "rootwebs.roots" 364 225 27,jP 233 "all_roots" "rootwebs.roots" 364 232 28,jP 240 "_law_cell_at" "law_rootwebs_k17_all_roots" 472 239 30,jP 247 "_law_next" "law_rootwebs_k17_all_roots" 472 246 31,jP 254 "_law_pen_of" "law_rootwebs_k17_all_roots" 472 253 32,jP 261 "_law_draw" "law_rootwebs_k17_all_roots" 472 260 33,jP 268 "_law_whole" "law_rootwebs_k17_all_roots" 472 267 34,jP 275 "_law_kind_of" "law_rootwebs_k17_all_roots" 472 274 35,jP 280 "_law_named" "law_rootwebs_k17_all_roots" 472 279 36,jP 285 "_law_names_by" "law_rootwebs_k17_all_roots" 472 284 37,jP 290 "_law_far" "law_rootwebs_k17_all_roots" 472 289 38,jP 295 "_law_steps" "law_rootwebs_k17_all_roots" 472 294 39,jP 300 "_law_sparse_by" "law_rootwebs_k17_all_roots" 472 299 40,jP 307 "_law_web_by" "law_rootwebs_k17_all_roots" 472 306 41,jP 314 "_law_makes" "law_rootwebs_k17_all_roots" 472 313 42,jP 319 "_law_roots" "law_rootwebs_k17_all_roots" 472 318 43,jP 326 "_law_told" "law_rootwebs_k17_all_roots" 472 325 44,jP 331 "_law_right" "law_rootwebs_k17_all_roots" 472 330 45]
theorem tz(P:ø):(TT.map λr=>((Kz P).lookup r.1,W.codeIn (Kz P) (.ref r.2.2.2.2.1) r.2.1,W.nsIn (Kz P) Ĝ r.2.1))=TT.map λr=>(Ā (fo r.2.1 (top r.2.2.2.2.2) r.2.2.1 r.2.2.2.1 r.2.2.2.2.1),ą,Ā (Ā (.ref r.1))):=by kernel_rfl
def Zt(K:W.Frag)(mg:3e6):Prop:=∀(i:ă)(r:O0),TT[i]?=Ā r->(∃D,ke K r.2.1 r.2.1 (top r.2.2.2.2.2) r.1 D)/\mg r.2.1=Ā (.ref r.1)
theorem LW{h:Ĕ}(X:(Kz w.params).In h)(G:h.Ns Ĝ mg):Zt (Kz w.params) mg:=λi r e=>by
 have z:=Sd (·[i]?) (tz w.params);simp only[SS,e,Option.map_some,Vd,YI]at z;exact⟨⟨_,G4 w.params _ _ _ _ _ _ z.1 z.2.1⟩,W.mg_of X G z.2.2⟩
section
noncomputable def Ll(N:List ď)(n:ă)(s:ĺ):ċ:=(s.kind == .function) && !s.isCoroutine && !s.isGenerator&&decide N.Nodup&&decide (n<=N.length)&&(N.take n).all (λx=>s.names.lookup x == Ā .local || s.names.lookup x == Ā .cell)&&s.names.all λy=>y.2 != .free
theorem p0{s:ĺ}(h:Ll N n s=ą):cH N (N.take n) s/\(N.take n).length=n:=by
 simp only[Ll,SE,Xa,VJ,SG,SL,Wa,X7]at h;obtain⟨⟨⟨⟨⟨⟨a,b⟩,c⟩,d⟩,e⟩,f⟩,g⟩:=h;have l:(N.take n).length=n:=by rw[TQ];exact Si e
 exact⟨⟨a,b,c,d,by rw[l],f,g⟩,l⟩
theorem xz{k:ă}(z:(∃fd,ke K x x st a fd)/\mg x=Ā (.ref a))(N:List ď)(B:(∀fd,ke K x x st a fd->cW K fd (N.take n) []))(body:∀(cdv:ā)(A:Đ)(outer:List Ŋ)(s:Ą)(H:Hp)(E:XK),cU k (A.deeper (Ŀ x (aF st) 0e0 a cdv))->sZ p (mI sY P w K mg base N x (aF st) a cdv A outer s H E).nox (bt st) fb)(S:autoParam (Ll N n (aF st)=ą) ATx):(kf P w K mg base) p (k+1) x n (fF n N.length fb):=
 let ⟨⟨_,F⟩,e⟩:=z;L9 F (p0 S).1 (p0 S).2 e (B _ F) body
theorem xx{k:ă}(z:(∃fd,ke K x x st a fd)/\mg x=Ā (.ref a))(N:List ď)(B:(∀fd,ke K x x st a fd->cW K fd (N.take n) []))(body:∀(cdv:ā)(A:Đ)(outer:List Ŋ)(s:Ą)(H:Hp)(E:XK),cU k (A.deeper (Ŀ x (aF st) 0e0 a cdv))->sZ (Ds K w E) (nj P w K mg base N x (aF st) a cdv A outer s H E) (bt st) fb)(S:autoParam (Ll N n (aF st)=ą) ATx):(q0 P w K mg base) (k+1) x n (fF n N.length fb):=
 let ⟨⟨_,F⟩,e⟩:=z;HH F (p0 S).1 (p0 S).2 e (B _ F) body
theorem xh{k:ă}(z:(∃fd,ke K x x st a fd)/\mg x=Ā (.ref a))(N:List ď)(B:(∀fd,ke K x x st a fd->cW K fd (N.take n) []))(body:∀(cdv:ā)(A:Đ)(outer:List Ŋ)(s:Ą)(H:Hp)(E:XK),dv k (A.deeper (Ŀ x (aF st) 0e0 a cdv))->sZ p (mq sY P w K mg base N x (aF st) a cdv A outer s H E).nox (bt st) fb)(S:autoParam (Ll N n (aF st)=ą) ATx):(Az P w K mg base) p (k+1) x n (fF n N.length fb):=
 let ⟨⟨_,F⟩,e⟩:=z;HI F (p0 S).1 (p0 S).2 e (B _ F) body
structure Al(P:č)(w:ē)(K:W.Frag)(mg:3e6)(base:Ĕ):Prop where
 nm:Nm mg
 da0:∃t,mg "MOST_TIES" = Ā (.int 12 t)
 db0:∃t,mg "MOST_ROOTS" = Ā (.int 300 t)
 dc0:∃t,mg "ROOT_STEPS" = Ā (.int 2 t)
 k_TooGreat:W.nsIn K Ĝ "TooGreat" = Ā (Ā (.ref 142))
 j_TooGreat:tM P w K mg base "TooGreat" "many" "most" 142
 q_NoLine:bF K (.ref 61) [] ["TooGreat"]
 q_NoNumber:bF K (.ref 49) [] ["TooGreat"]
 q_NoPlace:bF K (.ref 37) [] ["TooGreat"]
 q_NoRoot:bF K (.ref 73) [] ["TooGreat"]
 q_NoText:bF K (.ref 123) [] ["TooGreat"]
 q_NoTree:bF K (.ref 85) [] ["TooGreat"]
 q_NoWeb:bF K (.ref 104) [] ["TooGreat"]
 q_TooGreat:bF K (.ref 142) ["TooGreat"] ["TooGreat"]
 q_ValueError:bF K (.type "ValueError") ["TooGreat"] ["TooGreat"]
 m_NoLine:mg "NoLine" = Ā (.ref 61)
 m_NoNumber:mg "NoNumber" = Ā (.ref 49)
 m_NoPlace:mg "NoPlace" = Ā (.ref 37)
 m_NoRoot:mg "NoRoot" = Ā (.ref 73)
 m_NoText:mg "NoText" = Ā (.ref 123)
 m_NoTree:mg "NoTree" = Ā (.ref 85)
 m_NoWeb:mg "NoWeb" = Ā (.ref 104)
 m_TooGreat:mg "TooGreat" = Ā (.ref 142)
 m_RootError:mg "RootError" = Ā (.ref 24)
 kn_RootError:tL K "RootError" 24 ["TooGreat"]
 ka_many:hG K "many" ["TooGreat"]
 ka_most:hG K "most" ["TooGreat"]
 Z:Zt K mg
theorem lx{A B:Prop}(a:A)(b:A->B):A/\B:=⟨a,b a⟩
set_option maxHeartbeats 0 in
theorem Hq (a:Al P w K mg base):(q0 P w K mg base) 3 "check_ties" 1 cg/\(q0 P w K mg base) 3 "check_roots" 1 fm/\(kf P w K mg base (ka K w)) 1 "steps_at" 1 h7/\(kf P w K mg base (ka K w)) 2 "ways_between" 2 eA/\(kf P w K mg base (ka K w)) 1 "clashes_at" 2 fQ/\(kf P w K mg base (ka K w)) 1 "settled_at" 1 fP/\(kf P w K mg base (ka K w)) 1 "is_made" 2 gQ/\(kf P w K mg base (ka K w)) 3 "choices_by" 3 cK/\(kf P w K mg base (ka K w)) 4 "root_choices" 2 eC/\(kf P w K mg base (ka K w)) 1 "chosen_ties" 2 fk/\(kf P w K mg base (ka K w)) 4 "roots_by" 2 h8:=by
 have q:=a.nm;have Z:=a.Z;cases a;refine lx (xx (Z 0 _ rfl) ["web", "many"] 1e8 λc A O s H E R=>by ac_rfl) λ_=>?_;refine lx (xx (Z 1 _ rfl) ["roots"] 1e8 λc A O s H E R=>by ac_rfl) λ_=>?_;refine lx (xz (Z 2 _ rfl) ["web", "many", "ties", "steps", "at", "a", "b"] 1e8 λc A O s H E R=>by ac_rfl) λ_=>?_;refine lx (xz (Z 3 _ rfl) ["web", "k", "found", "steps", "ways", "step", "way", "choice"] 3e3 λc A O s H E R=>by ac_rfl) λ_=>?_;refine lx (xz (Z 4 _ rfl) ["ties", "ways", "clashes", "pair", "way"] 3e3 λc A O s H E R=>by ac_rfl) λ_=>?_;refine lx (xz (Z 5 _ rfl) ["makings", "settled", "ways"] 1e8 λc A O s H E R=>by ac_rfl) λ_=>?_;refine lx (xz (Z 6 _ rfl) ["choice", "ways"] 3e3 λc A O s H E R=>by ac_rfl) λ_=>?_;refine lx (xz (Z 7 _ rfl) ["web", "k", "begun", "ties", "ways", "clashes", "settled", "choices", "at", "grown", "longer"] (λ_ F=>F.b3 rfl (by intros;rfl)) λc A O s H E R=>by ac_rfl) λ_=>?_;refine lx (xz (Z 8 _ rfl) ["web", "begun"] 3e3 λc A O s H E R=>by ac_rfl) λ_=>?_;refine lx (xz (Z 9 _ rfl) ["ties", "choice"] 3e3 λc A O s H E R=>by ac_rfl) λ_=>?_;exact xz (Z 10 _ rfl) ["web", "k", "many", "ties"] 3e3 λc A O s H E R=>by ac_rfl
set_option maxHeartbeats 0 in
theorem LL (a:Al P w K mg base):(kf P w K mg base (ka K w)) 5 "roots_of" 1 f9/\(q0 P w K mg base) 5 "roots_many" 1 cI/\(q0 P w K mg base) 6 "first_root" 1 cJ/\(q0 P w K mg base) 6 "all_roots" 1 cD/\(kf P w K mg base (ka K w)) 1 "_law_cell_at" 2 eE/\(kf P w K mg base (ka K w)) 1 "_law_next" 1 fC/\(kf P w K mg base (ka K w)) 1 "_law_pen_of" 1 fu/\(kf P w K mg base (ka K w)) 2 "_law_draw" 2 bj/\(Az P w K mg base (ka K w)) 1 "_law_whole" 1 ef/\(Az P w K mg base (ka K w)) 1 "_law_kind_of" 1 df/\(kf P w K mg base (ka K w)) 1 "_law_named" 2 eh:=by
 obtain⟨_,_,_,_,_,_,_,_,_,_,_⟩:=Hq a;have q:=a.nm;have Z:=a.Z;cases a;refine lx (xz (Z 11 _ rfl) ["web"] 1e8 λc A O s H E R=>by ac_rfl) λ_=>?_;refine lx (xx (Z 12 _ rfl) ["web"] 1e8 λc A O s H E R=>by ac_rfl) λ_=>?_;refine lx (xx (Z 13 _ rfl) ["web"] 1e8 λc A O s H E R=>by ac_rfl) λ_=>?_;refine lx (xx (Z 14 _ rfl) ["web", "roots"] 1e8 λc A O s H E R=>by ac_rfl) λ_=>?_;refine lx (xz (Z 15 _ rfl) ["_law_script", "_law_k"] 3e3 λc A O s H E R=>by ac_rfl) λ_=>?_;refine lx (xz (Z 16 _ rfl) ["_law_seed"] 1e8 λc A O s H E R=>by ac_rfl) λ_=>?_;refine lx (xz (Z 17 _ rfl) ["_law_cell", "_law_left"] 1e8 λc A O s H E R=>by ac_rfl) λ_=>?_;refine lx (xz (Z 18 _ rfl) ["_law_pen", "_law_many", "_law_found"] 3e3 λc A O s H E R=>by ac_rfl) λ_=>?_;refine lx (xh (Z 19 _ rfl) ["_law_found"] 1e8 λc A O s H E R=>by ac_rfl) λ_=>?_;refine lx (xh (Z 20 _ rfl) ["_law_e", "_law_marks"] 1e8 λc A O s H E R=>by ac_rfl) λ_=>?_;exact xz (Z 21 _ rfl) ["_law_web", "_law_names", "_law_ties"] 3e3 λc A O s H E R=>by ac_rfl
set_option maxHeartbeats 0 in
theorem PM (a:Al P w K mg base):(kf P w K mg base (ka K w)) 3 "_law_names_by" 2 dF/\(kf P w K mg base (ka K w)) 1 "_law_far" 1 ia/\(kf P w K mg base (ka K w)) 2 "_law_steps" 2 dj/\(kf P w K mg base (ka K w)) 4 "_law_sparse_by" 1 dr/\(kf P w K mg base (ka K w)) 5 "_law_web_by" 1 fq/\(kf P w K mg base (ka K w)) 1 "_law_makes" 2 dk/\(kf P w K mg base (ka K w)) 2 "_law_roots" 1 fR/\(kf P w K mg base (ka K w)) 7 "_law_told" 2 a8/\(kf P w K mg base (ka K w)) 8 "_law_right" 1 cL:=by
 obtain⟨_,_,_,_,_,_,_,_,_,_,_⟩:=LL a;obtain⟨_,_,_,_,_,_,_,_,_,_,_⟩:=Hq a;have q:=a.nm;have Z:=a.Z;cases a;refine lx (xz (Z 22 _ rfl) ["_law_pen", "_law_many", "_law_left"] 3e3 λc A O s H E R=>by ac_rfl) λ_=>?_;refine lx (xz (Z 23 _ rfl) ["_law_web", "_law_many", "_law_far_here", "_law_place", "_law_size", "_law_one", "_law_other", "_law_a", "_law_b"] 1e8 λc A O s H E R=>by ac_rfl) λ_=>?_;refine lx (xz (Z 24 _ rfl) ["_law_web", "_law_k", "_law_far_here", "_law_ties", "_law_one"] 3e3 λc A O s H E R=>by ac_rfl) λ_=>?_;refine lx (xz (Z 25 _ rfl) ["_law_pen", "_law_way", "_law_many", "_law_every", "_law_other", "_law_ties"] 1e8 λc A O s H E R=>by ac_rfl) λ_=>?_;refine lx (xz (Z 26 _ rfl) ["_law_pen", "_law_web", "_law_way", "_law_spot", "_law_one", "_law_pair"] 1e8 λc A O s H E R=>by ac_rfl) λ_=>?_;refine lx (xz (Z 27 _ rfl) ["_law_web", "_law_masks", "_law_other", "_law_one", "_law_made"] 3e3 λc A O s H E R=>by ac_rfl) λ_=>?_;refine lx (xz (Z 28 _ rfl) ["_law_web", "_law_ties", "_law_found", "_law_number", "_law_some", "_law_masks", "_law_one", "_law_other"] 1e8 λc A O s H E R=>by ac_rfl) λ_=>?_;refine lx (xz (Z 29 _ rfl) ["_law_way", "_law_web", "_law_e"] 3e3 λc A O s H E R=>by ac_rfl) λ_=>?_;exact xz (Z 30 _ rfl) ["_law_web", "_law_due", "_law_turn", "_law_found"] 1e8 λc A O s H E R=>by ac_rfl
set_option maxHeartbeats 0 in
theorem KZ(a:Al P w K mg base){f:Ĉ}(F:ke K "law" "law" jT f fd):ko P w K mg base sY 9 f fd ["_law_script"] (Dr (ka K w) 1 tO):=by
 obtain⟨_,_,_,_,_,_,_,_,_⟩:=PM a;obtain⟨_,_,_,_,_,_,_,_,_,_,_⟩:=LL a;obtain⟨_,_,_,_,_,_,_,_,_,_,_⟩:=Hq a;have q:=a.nm;have Z:=a.Z;cases a;exact N0 F IM rfl λc A O s H E R=>by ac_rfl
end
theorem K0{l:W.OpenLaw}{h:Ĕ}{fa:Ĉ}(X:(Kz w.params).In h)(G:h.Ns Ĝ mg)(a:mg "law" = Ā (.ref fa)):
  ∃fd:ğ,(∀(s:Ą) (v:ā),é s fd ⟨[v],[]⟩ [("_law_script",v)])/\∀base:Ĕ,(Kz w.params).In base->base.Ns Ĝ mg->ko l.prog w (Kz w.params) mg base sY 9 fa fd ["_law_script"] (Dr (ka (Kz w.params) w) 1 tO):=by
 have e:=a.symm.trans (W.mg_of X G (v:=.ref 336) 0e5);cases e;have r:Nm mg:=⟨W.mg_none_of X G 0e5,W.mg_none_of X G 0e5,W.mg_none_of X G 0e5,W.mg_none_of X G 0e5,W.mg_none_of X G 0e5,W.mg_none_of X G 0e5,W.mg_none_of X G 0e5,W.mg_none_of X G 0e5,W.mg_none_of X G 0e5,W.mg_none_of X G 0e5,W.mg_none_of X G 0e5,W.mg_none_of X G 0e5,W.mg_none_of X G 0e5,W.mg_none_of X G 0e5,W.mg_none_of X G 0e5,W.mg_none_of X G 0e5⟩;have F:=G4 w.params 336 "law" "law_rootwebs_k17_all_roots" 472 335 jT 0e5 0e5;refine⟨W.fnOf "law" "law" (cG jT) (bt jT) (aF jT) .none .none .none (.str "law_rootwebs_k17_all_roots" 472) Ă (.ref 335) .none,λs v=>.of_eq rfl,λbase Xb Gb=>?_⟩;exact KZ ⟨r,⟨_,W.mg_of X G (v:=.int 12 366) 0e5⟩,⟨_,W.mg_of X G (v:=.int 300 368) 0e5⟩,⟨_,W.mg_of X G (v:=.int 2 370) 0e5⟩,0e5,(tM.of (yW.of (fI:=139) (oI:=OZ "__init__" "TooGreat.__init__" (Oq (top 9) 0) "rootwebs.errors" 187 138) (nm:="TooGreat") (q:="TooGreat") (N:=141) (bs:=[(.ref 24)]) (bm:=[(.ref 24),(.type "ValueError"),(.type "Exception"),3e1,(.type "object")]) (hd:=ą) (sn:=[]) (sub:=[]) (ab:=ć) (col:=Ă) (dd:=Ă) (k0:=Ā (.ref 126)) (k1:=Ă) (k2:=Ā (.str "TooGreat" 337)) (k3:=Ā (.str "TooGreat" 345)) (k5:=Ā (.bool ą)) Xb Gb 0e5 0e5 0e5 0e5 0e5 0e5 rfl) (By w.params 139 "__init__" "TooGreat.__init__" "rootwebs.errors" 187 138 (Oq (top 9) 0) 0e5 0e5) ⟨rfl,rfl,rfl,by decide +kernel,rfl,by decide +kernel,by decide +kernel⟩ rfl 0e5 0e5 (cd:=⟨"TooGreat",[(.ref 24)],[(.ref 142),(.ref 24),(.type "ValueError"),(.type "Exception"),3e1,(.type "object")],141, "TooGreat",ą,[],[],ć,Ă,ć⟩) 0e5 rfl rfl 0e5 0e5 (.inl rfl) (.inl rfl) (.inl rfl) ((By w.params 139 "__init__" "TooGreat.__init__" "rootwebs.errors" 187 138 (Oq (top 9) 0) 0e5 0e5).b3 (by rfl) λ_ _ _ _ _ _ _ _ _=>by rfl)),(bF.of 0e5),(bF.of 0e5),(bF.of 0e5),(bF.of 0e5),(bF.of 0e5),(bF.of 0e5),(bF.of 0e5),(bF.of 0e5),(bF.of 0e5),(W.mg_of X G 0e5),(W.mg_of X G 0e5),(W.mg_of X G 0e5),(W.mg_of X G 0e5),(W.mg_of X G 0e5),(W.mg_of X G 0e5),(W.mg_of X G 0e5),(W.mg_of X G 0e5),(W.mg_of X G 0e5),(tL.of 0e5),(hG.of 0e5),(hG.of 0e5),LW X G⟩ F
theorem Pd{l:W.OpenLaw}{q:č}{d:Zq}(h:l.most=Ā 63)(F:d.params.defaults=[])(hd:d.name = "law"):
  W.WalkO q loose XP (W.Hook.says Hz) l.row.toRowW d [] (λf vs=>PySem.call f vs):=
 _l.walk_of (K:=Kz) (n:=63) (k:=9) (x:="_law_script") (CX:=λ_=>sY) (sp:=λw=>Dr (ka (Kz w.params) w) 1 tO) h 0e3 F ⟨rfl,by decide,by decide,rfl⟩ (λ_ _ α=>W.kIn_of α) (λ_ _ _ _ X G e=>K0 X G (hd ▸ e)) (λw H a j L hO hS=>CY (Iy j) hO hS) λ_ _ _ _ _ z=>z
end _w
open PySem PySem.W PyProof.Rows _w
set_option maxRecDepth 100000 in
set_option maxHeartbeats 0 in
theorem PySem.Challenge.cw_rootwebs_k17_all_roots_holds : PySem.Challenge.rw_rootwebs_k17_all_roots.Holds := by
 w_on;refine holds_law HD λsaid=>?_
 exact holds_open (Xt:=Xz) (XP:=XL Qz []) (YP:=Hook.says Hz) HE (Hook.of Hz) (Hook.keeps Hz) (λs e=>xl_of s (Ü.mp e).1) XL.keeps (by rfl) (by rfl) (by rfl) (λs e=>recFacts_of (Ü.mp e).2) (by rfl) said 3e0 ⟨rfl,rfl,rfl,rfl,rfl,by decide +kernel⟩ (by w_witness2) (Pd rfl rfl rfl)
