import PyProof.Rows.All
import Wide.All
import OpenK.AllK
import Wide.FinOn
import Lean
import PyProof.EqAt
import PyProof.EqKinds
import PyProof.TupleCall
import PyProof.StrLaws
import KE.KSortTup
import PySem.Challenge.RW_fitwhatever_k24_least_places
set_option genSizeOf false
set_option genInjectivity false
set_option bootstrap.genMatcherCode false
set_option compiler.extract_closed false
open Bool renaming and_eq_true->SA,not_eq_true'->Te,false_ne_true->To,or_eq_true->Uh,false_eq_true->Ui,eq_false_iff->U3,and_false->Vq,false_and->VH,and_true->VV,beq_eq_decide_eq->Wf,eq_iff_iff->WO,or_false->Xm,false_or->Xn,and_self->Xr,true_and->Xs,not_true->Xv,and_eq_true_iff->Yg
open PySem.W renaming Frag->SD,kitOne->Uo,keepIn->UA,findIn->U2,codeIn->V9,methodObj->Wq,fnOf->Wr,plainGet->Wu,isFn->Xc,cellsFrom_some->Xd,nsIn->Xg,hasDictIn->X1,plainOver->X4,kitx_dict->X7,makesIn->Yr,kia_one->Ys,OpenLaw->Yv,keq_eq->YD,WalkO->YT,Hook->Y2,kdu_collect->zcf,SharedT->zcl
open List renaming length_map->SE,getElem?_eq_some_iff->SF,getElem?_eq_getElem->SG,mem_cons_self->SH,mem_append_right->SJ,mem_cons_of_mem->SK,size_toArray->SM,getElem?_map->SQ,mem_cons->SR,mem_of_getElem?->SS,mem_singleton->SU,append_assoc->SW,mem_append->SY,length_append->S3,map_cons->S4,length_cons->S5,mem_append_left->S7,map_append->S9,range->Tc,nodup_append->Td,find?_cons->Tf,replicate->Th,mem_map->Tj,all_eq_true->Tq,mem_range->Ts,getElem?_set_self->Tt,getElem?_eq_none->Tx,nodup_cons->Tz,take_length->TC,drop_eq_getElem_cons->TJ,getElem?_set_ne->TL,map_map->TM,lookup_cons->TQ,getElem_mem->TR,all_cons->T5,isEmpty_iff->T9,ext_getElem?->Uc,length_range->Ud,take_append_drop->Ue,append_nil->Ug,not_mem_nil->Uk,any_cons->Up,getElem?_append_right->Ur,getD_eq_getElem?_getD->Us,getElem?_append_left->Uv,toArray->UB,length_take->UH,length_singleton->UK,getElem?_range->UQ,map_congr_left->UR,any_eq_true->US,filter_eq_nil_iff->UY,idxOf_lt_length_of_mem->U4,pairwise_map->U5,nodup_nil->U7,drop_length->Vc,pairwise_iff_getElem->Ve,filterMap_cons->Vf,perm_iff_count->Vg,zip_cons_cons->Vm,map_nil->Vp,count_append->Vr,mem_iff_getElem?->Vu,nodup_range->Vv,eq_nil_of_length_eq_zero->Vy,getElem_idxOf->VI,length_eraseIdx_of_lt->VL,getElem?_eq_none_iff->VP,sublist_append_right->VQ,reverse_cons->VT,take_add_one->VU,getElem_inj->V2,of_mem_zip->V8,contains_iff_mem->Wg,length->Wi,getElem?_of_mem->Wm,getElem_of_mem->Wo,mem_filterMap->Wt,take_sublist->Wy,foldl_append->WA,eraseIdxIfInBounds_toArray->WB,mem_filter->WM,forIn_cons->WQ,foldl_cons->WS,dropLast_concat_getLast->WV,map->W5,perm_ext_iff_of_nodup->W7,getElem?_take_of_lt->Xl,eq_of_mem_replicate->Xo,filterMap_cons_some->Xx,getElem?_replicate->Xy,pairwise_mergeSort->XA,getD->XC,length_replicate->XJ,perm_append_comm->XU,mergeSort_perm->Yl,pairwise_cons->Yt,lookup_append->Yw,getElem?_drop->Yy,any_eq_false->YF,flatMap_cons->YJ,map_reverse->YM,le_antisymm->YN,getElem_zip->YR,range'_succ->YS,length_nil->YU,nil_append->YW,count_nil->Y9,drop_nil->Zh,all_map->Zn,not_lt->Zx,range'->ZC,Nodup->ZR,foldl->Z9
open PySem.Heap renaming get?_push_of_some->SI,lt_size->SV,get?_push_size->S6,get?_update_self->Ux,get?_update_other->UG,SameBut->U9,get?_push_ne->YE,size_update->YO,size_push->Y5,ExtBut->Zy
open Nat renaming lt_of_lt_of_le->SN,le_refl->SO,ne_of_lt->S8,le_trans->Tn,zero_le->Tu,lt_succ_of_lt->TH,lt_irrefl->TN,lt_of_le_of_lt->T4,not_lt_zero->T8,lt_trans->UC,pow_le_pow_right->UE,le_of_lt->UM,le_succ_of_le->UN,mul_le_mul_right->UO,lt_succ_self->UU,le_of_lt_succ->U6,not_lt->U8,ne_of_gt->Vd,le_succ->Vn,zero_add->Vt,le_add_right->Vw,lt_of_le_of_ne->VO,add_mul->VY,le_of_not_lt->V4,mod_lt->Wb,succ_pos->Wc,le_of_ble_eq_true->Wh,mul_le_mul->Wn,le_antisymm->W0,ble->Xb,le_of_eq->XN,min_self->XO,lt_of_succ_lt_succ->XW,add_zero->XZ,sub_self->X0,add_le_add_left->Yp,succ_le_of_lt->YK,le_max_right->YV,lt_of_not_le->YX,succ_ne_zero->Y1,le_max_left->Y4,le_add_left->Y6,sub_zero->ZA,lt_or_ge->ZD,log2_lt->ZI,one_mul->ZO
open Option.some renaming inj->Ta
open Array renaming getD_eq_getD_getElem?->Tg,length_toList->Ti,getElem?_eq_getElem->Tp,getElem?_toList->TB,getElem?_eq_some_iff->UJ,getElem?_eq_none->UX,getD->Vl,perm_iff_toList_perm->VG,toList_inj->V1,size_map->WZ,getElem?_replicate->Xf,getElem?_extract->XD,toList_filterMap->XE,toArray_toList->XQ,mem_toList_iff->XY,getElem?_push->Yd,forIn_toList->Ym,toList->Ze
open PySem.Value renaming ref->Tv,type->Vi,none->WW,str->Yz,isStrOf->Y3,isInt->Zi,bool->Zt,int->ZG
open PySem.SetTable renaming insertAt->TF,below->TV,leap->Ua,turns->Ub,bits->Ul,runEnd->Uq,fresh->WH,has->W6,layClean->XX,grown->Yu,slot->YG,laid->YH,fits->YI
open Sum renaming inr->TU,inl->VE
open Int renaming mul_ne_zero->TY,gcd->TZ,toNat_natCast->Ut,gcd_pos_of_ne_zero_right->U0,mul_fdiv_cancel_left->Vk,fmod_nonneg_of_pos->Vs,gcd_dvd_right->VW,lt_or_gt_of_ne->Wv,fmod_lt_of_pos->Ww,mul_comm->WC,le_of_lt->WD,zero_sub->WG,gcd_dvd_left->WJ,natAbs_mul->Xe,fmod_eq_emod_of_nonneg->Xh,gcd_comm->XT,natAbs_dvd_natAbs->Yb,sub_eq_add_neg->YA,gcd_zero_right->YC,emod_nonneg->Zd,le_trans->Zs,lt_or_le->Zw,le_refl->ZF,neg_dvd->ZJ,neg_gcd->ZK
open PySem.F renaming slot_dict_keyiterator_next->T3,called_set->Uw,plainAttrs_list->Vh,args_dict_keyiterator_next_1->Vz,entry_dict_keyiterator_next->VD,slot_dict_getitem->WN,plain_extend_loop->WU,slot_list_extend->WY,plain_list_iadd->W9,slot_dict_clear->Xa,slot_list_pop->Xp,type_list_pop->Xq,slot_set_iter->Xu,sub_dict_dict->Xw,slot_list_ne->XB,slot_dict_eq->XF,slot_dict_ne->XG,entry_list_pop->Zf,slot_dict_iter->Zg,slot_list_pop->Zk,slot_dict_len->Zr
open Classical renaming byContradiction->T7
open PySem.Heap.SameBut renaming update->Uj,refl->ZS
open PySem.Paired renaming length->Um,snoc->XH
open Ne renaming symm->Uu
open PySem.SetTable.layClean renaming free->Uy
open PySem.Builtin.Str renaming glued->Uz,occurrences->VF,tooLong->V5
open PySem.Obj renaming mapFields->UD,mapSeq->UZ,data_mapFields->VN,putSet->Wd,isFreed_of_fields->Yc,data_mapDictKeys->Yo,cls_mapFields->YQ
open List.Sublist renaming refl->UI,append->U1
open PySem.Calls renaming call_function_entry->UL,callWith_builtin->V3,Name_function_global->WX,spliced_cons->Yh,spliced_nil->Yq
open PySem renaming mem_of_lookup->UP,Str->Xi,evalArgs_none->X6,call->Yk,Fin->ZQ,wpAny_bind->zaf,wpAny_pure->zag,SetTable->zah,starEach->zai,wpAny->zaj,model->zak,bootBuiltins->zal,World->zam,Around->zan,wpAny_setState_of->zao,sysModules->zap,tupleKind->zaq,wpAny_call_entry->zar,mainGlobals->zas,behindInMarks->zat,wpAny_holding->zau,sizeLine_eq->zav,wpAny_typeNameOfWhole_keyiter->zaw,foldedSetIterable->zax,wpAny_dictEntries->zay,compareOp->zaz,wpAny_setField->zaA,FuncData->zaB,wpAny_loadPart'->zaC,wpAny_callSpecial?_slot->zaD,assignEach->zaE,wpAny_newObj_type->zaF,backTo->zaG,tupleKind_room_in1->zaH,attributeBase->zaI,swapsWith->zaJ,codeAny_builtin->zaK,rawInt->zaL,pickOrder->zaM,wpAny_mono->zaN,wpAny_passesOwn->zaO,wpAny_truthy_bool->zaP,wpAny_of_eq->zaQ,wpAny_isInstance->zaR,codeAny_mono->zaS,wpAny_Call_Name_kw->zaT,atKey->zaU,wpAny_dictEpoch->zaV,size_of_entries->zaW,wpAny_ite_split->zaX,plainId_quiet->zaY,wpAny_richCompare_same_room->zaZ,firstArgMember->za0,Keyword->za1,swappedStores->za2,binaryOp->za3,Comprehension->za4,wpAny_fieldsOf->za7,ofAClassStatement->za8,DictEntry->za9,wpAny_askSetting->zba,swapsWithSole->zbb,codeAny->zbc,wpAny_newList->zbd,wpAny_attempt->zbe,keywordEach->zbf,wpAny_execs_nil->zbg,letOwnedTupleGo->zbh,PassesOwn->zbi,seqIndex?->zbj,entryOfKey->zbk,wpAny_seqItems->zbo,CmpOp->zbq,wpAny_pyIter_slot->zbr,wpAny_standAt->zbs,wpAny_comprehension_free->zbt,wpAny_Call_method0_late->zbv,wpAny_forIn_list->zbw,treeTable->zbx,builtinsNs->zby,BindsTo->zbz,call_meets->zbB,wpAny_Assign_Subscript->zbC,callerA->zbD,wpAny_specialOf->zbH,wpAny_updateSeq->zbI,wpAny_isTrue_Compare1->zbJ,wpAny_notOrdered_dict->zbK,wpAny_isOneOf_keyiter->zbL,builtinLookup_eq_fast->zbM,backToKw->zbO,isSubtype_stop->zbQ,wpAny_pyIter_keyiter->zbR,isSubtype_type->zbS,valueAt->zbT,wpAny_handled->zbV,pyNext->zbW,wpAny_load->zbX,typeIs_str->zbY,wpAny_getItem_heap->zbZ,wpAny_setItem_heap->zb0,GenState->zb1,wpAny_assign_Name->zb2,getItem->zb4,seqIndex_neg->zb5,wpAny_pyIter_list->zb6,call_meetsIn->zb7,wpAny_typeOf->zb8,wpAny_storeSet_of->zb9,wpAny_pyIter_enum->zca,FuncBody->zcb,isTrue->zcc,Result->zcd,seqIndex_of->zce,wpAny_throw->zch,standAt->zci,setItem->zcj,wpAny_Name->zcm,wpAny_rule->zcn,pyIter->zco,Operator->zcp,typeLookup->zcq,IntMulOk->zcs,entry_at->zct
open PyProof.Rows renaming callWith_type1->UT,sortedS->VX,callWith_builtin1->Wj,risingS->WR,ltCps_eq->ZL,strKind->ZM,list_addW->ZP,envOfC->Z8,size_push'->za5,seqObj->za6,assignInOrder_cons->zbl,args_list_sort->zbm,sortedHeap_old->zbn,AllBare->zbp,sortedHeap_at->zbu,subscriptTail_builtinR->zbA,plain_sorted->zbE,entry_sorted->zbF,args_sorted1->zbG,envOfC->zbN,kind_sorted->zbP,listUpdate_at->zbU,assignInOrder_nil->zb3,seqEpoch_at->zcg,IntsAre->zck,Subscript_->zcr
open PySem.SeqAt renaming EqAt->UW,notIn_listAt->Yi
open ForInStep renaming yield->Va
open PySem.NameKind renaming free->Vb
open False renaming elim->Vj
open PySem.Txt renaming slice->Vo,slice_le->XR
open PySem.SetTable.below renaming go->Vx
open List.Pairwise renaming imp_of_mem->VA,nil->Zv,filterMap->Zz
open List.Perm renaming refl->VB,swap->WE,eq_of_pairwise->WK,append_left->W8
open PySem.Builtin.List renaming listTooLong->VC,listExtendWith->Ws,listSameRef->Wz,listLengthHint->ZT
open Prod.mk renaming inj->VJ
open Rat renaming divInt->VM,intCast_lt_intCast->Wa,divInt_eq_divInt_iff->Xz,divInt_add_divInt->X8,divInt_mul_divInt->X9,divInt_eq_div->YL,intCast_inj->Y7,intCast_mul->Y8
open PySem.Builtin.Dict renaming showsAll->VS,samePairs->WI
open PyProof.Rows.F renaming entry_set_update_loop->VZ,plain_set_update_loop->Zq
open Except renaming ok->V0
open True renaming intro->V6
open PySem.SetTable.probe renaming go->V7
open PySem.Around renaming under_plainId->We
open Sum.inr renaming inj->Wx
open PySem.Manifest renaming sig_set_iterator->WL,owners->Yn
open PySem.AutoSeq1 renaming wpAny_loadPart'->WT
open Option renaming isNone_iff_eq_none->W2,isSome_map->Yj,map_some->YB,map->Zp
open PySem.Builtin.Int renaming intBits->W3
open Nat.succ renaming inj->W4
open PySem.SeqAt.EqAt renaming int_str->Xj,str_int->Xk,same->XM
open PySem.Spec renaming ltCps->XI
open Eq renaming symm->Ye
open List.cons renaming inj->Yx
open PySem.Shared renaming TypeIs->YY
open PySem.Builtin.Frozenset renaming updateFrom->YZ
open String renaming ofList->Y0
open Std.Legacy.Range renaming forIn_eq_forIn_range'->Za,size->Zb
open PySem.W.SharedT renaming abs->Zc
open PySem.Heap.IsSliceOf renaming new->Zj
open PySem.W.WShape renaming has->Zl
open Or renaming inr->Zm
open PyProof.Rows.SortSt renaming mk'->Zo
open PySem.Builtin.Range renaming rangeSize->Zu
open PySem.StrLaws renaming seqIndex_nonneg->ZE
open PySem.W.WData renaming int->ZH
open PySem.Str.mk renaming injEq->ZN
open PySem.W.Fast renaming tw11892475500146522536->ZU,tw14364793385576792824->ZV,tw6613529449190102663->ZW,tw10156331382660048174->ZX,tw10274390034422433532->ZY,tw14289696077712309145->ZZ,tw4187177175401517315->Z0,te11892475500146522536->Z1,te14364793385576792824->Z2,te6613529449190102663->Z3,te10156331382660048174->Z4,te10274390034422433532->Z5,te14289696077712309145->Z6,te4187177175401517315->Z7
theorem XV{p:Prop}(h:p:=by lia):p:=h
theorem W1{p:Prop}(h:p:=by decide):p:=h
theorem UV{p:Prop}(h:p:=by decide +kernel):p:=h
theorem T1{p:Prop}(h:p:=by simp):p:=h
theorem zcu:type_of% @if_pos:=@if_pos
theorem zcv:type_of% @if_neg:=@if_neg
theorem zcw:type_of% @decide_eq_false:=@decide_eq_false
theorem zcx:type_of% @decide_eq_true:=@decide_eq_true
theorem zcy:type_of% @congrArg:=@congrArg
theorem zcz:type_of% @beq_iff_eq:=@beq_iff_eq
theorem zcA:type_of% @of_decide_eq_true:=@of_decide_eq_true
set_option linter.all false
variable{b:Int}
theorem ME{n a:Int}(h:n<a:=by assumption)(d:decide (a<=b)=true:=by decide):n<b:=Int.lt_of_lt_of_le h (zcA d)
variable{k:Int}
theorem Pg{n a:Int}(h:n<a:=by assumption)(d:decide (a+k<=b)=true:=by decide):n+k<b:=ME (Int.add_lt_add_right h k) d
variable{l:Int}
theorem QG{n a:Int}(h:n<a:=by assumption)(d:decide (a+k+l<=b)=true:=by decide):n+k+l<b:=Pg (Pg h (zcx (ZF _))) d
theorem RL{n a p:Int}(h:n<a:=by assumption)(d:decide (a+k+l+p<=b)=true:=by decide):n+k+l+p<b:=QG (Pg h (zcx (ZF _))) d
theorem PJ{n a:Int}(h:n<=a:=by assumption)(d:decide (a<=b)=true:=by decide):n<=b:=Zs h (zcA d)
variable{m:Int}
theorem Sd{n:Int}(d:decide (k<=m)=true:=by decide):n+k<=n+m:=Int.add_le_add_left (zcA d) n
theorem Su{n:Int}(d:decide (k+l<=m)=true:=by decide):n+k+l<=n+m:=Int.add_assoc n k l▸Sd d
variable{x y z:Nat}
theorem fL(h:x<=y:=by assumption)(d:decide (y<=z)=true:=by decide):x<=z:=Tn h (zcA d)
theorem T6{p:Prop}(h:p:=by exact fL):p:=h
theorem Ot{c:Nat}(h:x<=y:=by assumption)(d:decide (y+c<=z)=true:=by decide):x+c<=z:=fL (Nat.add_le_add_right h c) d
theorem Ld(h:x<=y:=by assumption)(d:decide (y<z)=true:=by decide):x<z:=T4 h (zcA d)
theorem PM(h:x<y:=by assumption)(d:decide (y<=z)=true:=by decide):x<z:=SN h (zcA d)
theorem RV(d:decide (y<=z)=true:=by decide):x+y<=x+z:=Yp (zcA d) x
theorem Qx(h:x<y:=by assumption)(d:decide (y<=z+1)=true:=by decide):x<=z:=U6 (PM h d)
variable{P:Prop}
theorem cu{α:Type}{x:α}(h:none=some x):P:=nomatch h
theorem kU(h:false=true):P:=nomatch h
set_option Elab.async false
set_option maxRecDepth 100000
abbrev gA(x:Xi):Prop:=(x==("__debug__" : Xi))=false
abbrev sX(x:Xi):Prop:=(x==("__classdict__" : Xi))=false
noncomputable section
namespace L2
open PySem PySem.Spec PyProof.Rows
noncomputable abbrev Key:=Sum Int Str
noncomputable def gI:Key->Value->Bool
 | .inl k,v=>Zi k v
 | .inr x,v=>Y3 x v
noncomputable def Qy(w:zam):Key->Int
 | .inl k=>hashInt k
 | .inr x=>hashStr w x
theorem aR:∀{k:Key}{v:Value},gI k v=true->(∃i t,k=VE i/\v=ZG i t)\/(∃x t,k=TU x/\v=Yz x t)
 | .inl i,v,h=>by obtain⟨t,e⟩:=Value.isInt_shape h;exact .inl ⟨i,t,rfl,e⟩
 | .inr x,v,h=>by obtain⟨t,e⟩:=Value.isStrOf_shape h;exact .inr ⟨x,t,rfl,e⟩
theorem yn(i:Int)(t:Tok):gI (.inl i) (.int i t)=true:=by simp[gI,Zi]
theorem zE(x:Str)(t:Tok):gI (.inr x) (.str x t)=true:=by simp[gI,Y3]
theorem LI(a b:Int):decide ((VE a:Key)=VE b)=(a==b):=by
 by_cases e:a=b
 .subst e;simp
 .have h:¬ (VE a:Key)=VE b:=λq=>e (VE.inj q);rw[zcw h];exact(beq_eq_false_iff_ne.mpr e).symm
theorem K5(a b:Str):decide ((TU a:Key)=TU b)=decide (a=b):=by
 by_cases e:a=b
 .subst e;simp
 .have h:¬ (TU a:Key)=TU b:=λq=>e (Wx q);rw[zcw h,zcw e]
theorem Kz(a:Int)(b:Str):decide ((VE a:Key)=TU b)=false:=zcw (λq=>nomatch q)
theorem Ll(a:Str)(b:Int):decide ((TU a:Key)=VE b)=false:=zcw (λq=>nomatch q)
def aC(prog:Program)(w:zam):PySem.KeyKind prog w Key where
 is:=gI
 hash:=Qy w
 inj:=λv a b d hb=>by
  rcases aR d with ⟨i,t,rfl,rfl⟩|⟨x,t,rfl,rfl⟩
  .rcases aR hb with ⟨j,u,rfl,e⟩|⟨y,u,rfl,e⟩
   .injection e with e1 _;rw[e1]
   .exact nomatch e
  .rcases aR hb with ⟨j,u,rfl,e⟩|⟨y,u,rfl,e⟩
   .exact nomatch e
   .injection e with e1 _;rw[e1]
 byValue:=λk v h=>by rcases aR h with ⟨i,t,rfl,rfl⟩|⟨x,t,rfl,rfl⟩<;>rfl
 pyHash:=λc h=>by
  rcases aR c with ⟨i,t,rfl,rfl⟩|⟨x,t,rfl,rfl⟩
  .exact wpAny_pyHash_int h
  .exact wpAny_pyHash_str h
 eqBool:=λf c h=>by
  rcases aR f with ⟨i,t,rfl,rfl⟩|⟨x,t,rfl,rfl⟩
  .rcases aR c with ⟨j,u,rfl,rfl⟩|⟨y,u,rfl,rfl⟩
   .rw[LI] at h;exact wpAny_eqBool_int h
   .rw[Kz] at h;exact Xj i t y u _ _ _ _ h
  .rcases aR c with ⟨j,u,rfl,rfl⟩|⟨y,u,rfl,rfl⟩
   .rw[Ll] at h;exact Xk x t j u _ _ _ _ h
   .rw[K5] at h;exact wpAny_eqBool_str h
 «strs»:=λk x t v h=>by
  rcases aR h with ⟨i,u,rfl,e⟩|⟨y,u,rfl,e⟩
  .exact nomatch e
  .injection e with e1 _;subst e1;cases v<;>rfl
theorem tG(prog:Program)(w:zam)(i:Int)(t:Tok):(aC prog w).is (.inl i) (.int i t)=true:=yn i t
theorem sO(prog:Program)(w:zam)(x:Str)(t:Tok):(aC prog w).is (.inr x) (.str x t)=true:=zE x t
inductive V where
 |non|bl(b:Bool)|int(i:Int)|str(x:Str)|byt(b:Array UInt8)|flt(b:UInt64)|ref(a:Addr)|ty(n:String)
 deriving DecidableEq
def RelV:V->Value->Prop
 | .non,u=>u=WW
 | .bl b,u=>u=Zt b
 | .int i,u=>∃t,u=ZG i t
 | .str x,u=>∃t,u=Yz x t
 | .byt b,u=>∃t,u=Value.bytes b t
 | .flt b,u=>∃t,u=Value.float b t
 | .ref a,u=>u=Tv a
 | .ty n,u=>u=Vi n
abbrev Vals:List V->List Value->Prop:=Paired RelV
theorem Vals.length{xs:List V}{us:List Value}(r:Vals xs us):xs.length=us.length:=Um r
theorem Vals.get:∀{xs:List V}{us:List Value}{i:Nat}{x:V},Vals xs us->xs[i]?=some x->∃u,us[i]?=some u/\RelV x u
 |_,_,_,_,.nil,e=>by simp at e
 |_,_,0,_,.cons r _,e=>by simp at e;subst e;exact⟨_,rfl,r⟩
 |_,_,i+1,x,.cons _ t,e=>by obtain⟨u,h1,h2⟩:=Vals.get t (by simpa using e);exact⟨u,by simpa using h1,h2⟩
theorem Vals.set{x:V}{u:Value}(r:RelV x u):∀{xs:List V}{us:List Value}(i:Nat),Vals xs us->Vals (xs.set i x) (us.set i u)
 |_,_,_,.nil=>.nil
 |_,_,0,.cons _ t=>.cons r t
 |_,_,i+1,.cons q t=>.cons q (Vals.set r i t)
theorem Vals.append:∀{xs ys:List V}{us ws:List Value},Vals xs us->Vals ys ws->Vals (xs++ys) (us++ws)
 |_,_,_,_,.nil,s=>s
 |_,_,_,_,.cons r t,s=>.cons r (Vals.append t s)
theorem Vals.take:∀{xs:List V}{us:List Value}(n:Nat),Vals xs us->Vals (xs.take n) (us.take n)
 |_,_,0,_=>.nil
 |_,_,_+1,.nil=>.nil
 |_,_,n+1,.cons r t=>.cons r (Vals.take n t)
theorem Vals.drop:∀{xs:List V}{us:List Value}(n:Nat),Vals xs us->Vals (xs.drop n) (us.drop n)
 |_,_,0,r=>r
 |_,_,_+1,.nil=>.nil
 |_,_,n+1,.cons _ t=>Vals.drop n t
theorem Vals.none_of:∀{xs:List V}{us:List Value}{i:Nat},Vals xs us->xs[i]?=none->us[i]?=none:=λ{xs us i} r e=>by have h1:=r.length;have h2:=VP.mp e;exact VP.mpr XV
def jv:Option V->Option Value->Prop
 |some v,some u=>RelV v u
 |none,none=>True
 |_,_=>False
def KV{κ:Type}:List (κ×V)->List (κ×Value)->Prop:=Paired λ(p:κ×V)(q:κ×Value)=>p.1=q.1/\RelV p.2 q.2
noncomputable def kV:Key->V
 | .inl i=>.int i
 | .inr x=>.str x
inductive HO where
  |lst(xs:List V)
  |tup(xs:List V)
  |dK(kvs:List (Key×V))|dT(kvs:List (List Key×V))
  |set(S:Int->Bool)(n:Nat)
  |ins(C dx:Addr)(fs:List (Str×V))
  |own(x:Addr)
  |xd(fs:List (Str×V))
  |met(f x:Addr)
  |rng(lo hi:Int)
  |frz(o:Obj)(u:HO)
  |tbl(ps:Array Value)
  |ext(φ:Heap->Prop)
 |dU(φ:Heap->Prop)
noncomputable abbrev Hp:=Addr->Option HO
noncomputable def upd(H:Hp)(a:Addr)(o:HO):Hp:=λb=>if b=a then some o else H b
variable{H:Hp}
theorem bg{a:Addr}{o:HO}:upd H a o a=some o:=by delta upd;rw[zcu rfl]
theorem az{a b:Addr}{o:HO}(h:b≠a):upd H a o b=H b:=by delta upd;rw[zcv h]
theorem NK{a b:Addr}{o u:HO}(h:H a=some o)(h':H b=some u)(d:o≠u):a≠b:=by intro e;subst e;rw[h] at h';exact d (Ta h')
theorem aG{a b:Addr}{o:HO}(h:H a=some o)(h':H b=none):a≠b:=by intro e;subst e;rw[h] at h';cases h'
variable{h:Heap}
section
variable(P:Program)(w:zam)
def jT(h:Heap)(a:Addr)(items:Array Value):Prop:=∃o,h.get? a=some o/\o.cls=.type "tuple" /\ ∃n,o.data=.seq items n/\o.dict=none
theorem jT.t{a:Addr}{items:Array Value}(x:jT h a items):IsTup h a items:=let ⟨o,e,c,n,d,_⟩:=x;⟨o,e,c,n,d⟩
theorem jT.new(h:Heap)(items:Array Value):jT (h.push { cls:=.type "tuple",data:=.seq items }) h.objs.size items:=⟨_,S6 _ rfl,rfl,_,rfl,rfl⟩
def bV(H:Hp)(h:Heap)(a:Addr):HO->Prop
 | .lst xs=>xs.length<=sizeLine/\∃(b:List Value)(n:Nat),Vals xs b/\h.get? a=some { cls:=.type "list",data:=.seq b.toArray n }
 | .tup xs=>xs.length<=sizeLine/\∃b:List Value,Vals xs b/\jT h a b.toArray
 | .dK kvs=>kvs.length<=sizeLine/\(a==zap)=false/\∃vs,KV kvs vs/\h.DictOf (aC P w) a vs
 | .dT kvs=>kvs.length<=sizeLine/\(a==zap)=false/\∃xs:List (List Key×Addr×Value),
   Paired (λ(p:List Key×V)(q:List Key×Addr×Value)=>p.1=q.1/\H q.2.1=some (.tup (p.1.map kV))/\RelV p.2 q.2.2) kvs xs /\
   ∃o es ep,h.get? a=some o/\o.ExactDict/\o.data=.dict es ep/\es.toList=xs.map (zbk (zaq (aC P w)))/\(xs.map (·.1)).Nodup
 | .set S n=>h.SetOf (intKind P w) a S n
 | .ins C dx fs=>H dx=some (.own a)/\fs.length<=1000/\dx≠a/\h.get? a=some (PySem.W.instObj C dx) /\
   ∃e,h.Ns1 dx e/\(∀f,jv (fs.lookup f) (e f))/\PySem.Within e (fs.map (·.1))
 | .own _=>∃o,h.get? a=some o
 | .xd fs=>∃e,h.Ns1 a e/\∀f,jv (fs.lookup f) (e f)
 | .rng lo hi=>∃t u v,h.get? a=some { cls:=.type "range",data:=.fields #[.int lo t,.int hi u,.int 1 v] }
 | .frz o u=>h.get? a=some o/\bV H h a u
 | .tbl ps=>h.get? a=some { cls:=.none,data:=.fields ps }
 | .met f x=>h.get? a=some (Wq (.ref f) (.ref x))
 | .ext φ=>φ h/\(∃o,h.get? a=some o)/\∀h1 h2:Heap,φ h1->(∀o,h1.get? a=some o->h2.get? a=some o)->φ h2
 | .dU φ=>φ h/\(∃o,h.get? a=some o)/\∀h1 h2:Heap,φ h1->(∀o,h1.get? a=some o->h2.get? a=some o)->φ h2
def je(H:Hp)(h:Heap):Prop:=∀a o,H a=some o->bV P w H h a o
end
section
variable{P:Program}{w:zam}{H H':Hp}{h h':Heap}{a:Addr}{o:HO}
theorem bV.lt(x:bV P w H h a o):a<h.objs.size:=by
 cases o with
 |lst xs=>obtain⟨_,_,_,_,e⟩:=x;exact SV e
 |tup xs=>obtain⟨_,_,_,p⟩:=x;exact p.t.lt
 |dK kvs=>obtain⟨_,_,_,_,o,_,_,e,_⟩:=x;exact SV e
 |dT kvs=>obtain⟨_,_,_,_,o,_,_,e,_⟩:=x;exact SV e
 |set S n=>obtain⟨o,_,_,_,e,_⟩:=x;exact SV e
 |ins C dx fs=>obtain⟨_,_,_,e,_⟩:=x;exact SV e
 |own y=>obtain⟨_,e⟩:=x;exact SV e
 |xd fs=>obtain⟨_,⟨_,_,_,e,_⟩,_⟩:=x;exact SV e
 |rng lo hi=>obtain⟨_,_,_,e⟩:=x;exact SV e
 |frz ob u=>obtain⟨e,_⟩:=x;exact SV e
 |tbl ps=>exact SV (x)
 |met f y=>exact SV (x)
 |ext φ=>obtain⟨_,⟨_,e⟩,_⟩:=x;exact SV e
 |dU φ=>obtain⟨_,⟨_,e⟩,_⟩:=x;exact SV e
theorem Paired.Lh{α β:Type}{F G:α->β->Prop}:∀{g:List α}{l₂:List β},Paired F g l₂->(∀a b,F a b->G a b)->Paired G g l₂
 |_,_,.nil,_=>.nil
 |_,_,.cons r t,f=>.cons (f _ _ r) (Paired.Lh t f)
theorem bV.gy(x:bV P w H h a o)(k:∀b u,(b=a\/H b=some (.own a))->h.get? b=some u->h'.get? b=some u)
  (ho:∀b,H b=some (.own a)->H' b=some (.own a))(ht:∀b xs,H b=some (.tup xs)->H' b=some (.tup xs)):bV P w H' h' a o:=by
 induction o with
 |lst xs=>obtain⟨z,i,n,r,e⟩:=x;exact⟨z,i,n,r,k _ _ (.inl rfl) e⟩
 |tup xs=>obtain⟨z,i,r,ob,e,c⟩:=x;exact⟨z,i,r,ob,k _ _ (.inl rfl) e,c⟩
 |dK kvs=>obtain⟨z,y,vs,r,ob,es,ep,e,c⟩:=x;exact⟨z,y,vs,r,ob,es,ep,k _ _ (.inl rfl) e,c⟩
 |dT kvs=>obtain⟨z,y,xs,r,ob,es,ep,e,c⟩:=x;exact⟨z,y,xs,Paired.Lh r λp q z=>⟨z.1,ht _ _ z.2.1,z.2.2⟩,ob,es,ep,k _ _ (.inl rfl) e,c⟩
 |set S n=>obtain⟨ob,es,ep,t,e,c⟩:=x;exact⟨ob,es,ep,t,k _ _ (.inl rfl) e,c⟩
 |ins C dx fs=>obtain⟨d,z,ne,e,j,⟨od,es,ep,l,c⟩,r⟩:=x;exact⟨ho _ d,z,ne,k _ _ (.inl rfl) e,j,⟨od,es,ep,k _ _ (.inr d) l,c⟩,r⟩
 |own y=>obtain⟨ob,e⟩:=x;exact⟨ob,k _ _ (.inl rfl) e⟩
 |xd fs=>obtain⟨j,⟨od,es,ep,e,c⟩,r⟩:=x;exact⟨j,⟨od,es,ep,k _ _ (.inl rfl) e,c⟩,r⟩
 |rng lo hi=>obtain⟨t,u,v,e⟩:=x;exact⟨t,u,v,k _ _ (.inl rfl) e⟩
 |frz ob u m=>obtain⟨e,q⟩:=x;exact⟨k _ _ (.inl rfl) e,m q⟩
 |tbl ps=>have e:h.get? a=some { cls:=.none,data:=.fields ps }:=x;show h'.get? a=some { cls:=.none,data:=.fields ps };exact k a _ (.inl rfl) e
 |met f y=>have e:h.get? a=some (Wq (.ref f) (.ref y)):=x;show h'.get? a=some (Wq (.ref f) (.ref y));exact k a _ (.inl rfl) e
 |ext φ=>obtain⟨p,⟨o,e⟩,st⟩:=x;exact⟨st _ _ p λo q=>k _ _ (.inl rfl) q,⟨o,k _ _ (.inl rfl) e⟩,st⟩
 |dU φ=>obtain⟨p,⟨o,e⟩,st⟩:=x;exact⟨st _ _ p λo q=>k _ _ (.inl rfl) q,⟨o,k _ _ (.inl rfl) e⟩,st⟩
theorem je.lt(x:je P w H h)(e:H a=some o):a<h.objs.size:=(x a o e).lt
theorem je.fresh(x:je P w H h)(e:h.objs.size<=a):H a=none:=by
 cases q:H a with
 |none=>rfl
 |some u=>exact absurd (SN (x.lt q) e) (TN _)
theorem je.kept(x:je P w H h)(k:∀b u,h.get? b=some u->h'.get? b=some u):je P w H h':=λa o e=>(x a o e).gy (λb u _ q=>k b u q) (λ_ q=>q) λ_ _ q=>q
theorem je.laid(x:je P w H h)(k:∀b u,h.get? b=some u->h'.get? b=some u)(hp:h.objs.size<=a)(new:bV P w (upd H a o) h' a o):je P w (upd H a o) h':=λb u e=>by
 have hn:=x.fresh hp;by_cases hb:b=a
 .subst hb;rw[bg] at e;cases e;exact new
 .rw[az hb] at e;exact(x b u e).gy (λc v _ q=>k c v q) (λc q=>by rw[az (aG q hn)];exact q) λc xs q=>by rw[az (aG q hn)];exact q
end
def Rd(H:Hp)(a:Addr)(u:HO):Prop:=H a=some u\/∃o,H a=some (.frz o u)
variable{w:zam}
theorem Rd.ok{P:Program}{a:Addr}{u:HO}(r:Rd H a u)(x:je P w H h):bV P w H h a u:=by
 rcases r with r|⟨o,r⟩
 .exact x a u r
 .obtain⟨_,q⟩:=x a _ r;exact q
def OV:Option HO->Prop
 |some (.lst _)=>True
 |some (.dK _)=>True
 |some (.dT _)=>True
 |some (.set _ _)=>True
 |some (.ins _ _ _)=>True
 |some (.ext _)=>True
 |some (.dU _)=>True
 |_=>False
section
variable{P:Program}{w:zam}{H:Hp}{h h':Heap}{x e:Addr}{o':HO}
theorem je.write(ok:je P w H h)(mu:OV (H x))(he:e=x\/H e=some (.own x))(k:∀b u,b≠e->h.get? b=some u->h'.get? b=some u)(p:∃u,h'.get? e=some u)
  (new:bV P w (upd H x o') h' x o'):je P w (upd H x o') h':=λb u q=>by
 have n:∀c y,H c=some (.own y)->c≠x:=λc y r z=>by subst z;rw[r] at mu;exact mu
 have o:∀c xs,H c=some (.tup xs)->c≠x:=λc xs r z=>by subst z;rw[r] at mu;exact mu
 by_cases hb:b=x
 .subst hb;rw[bg] at q;cases q;exact new
 .rw[az hb] at q;by_cases a:b=e
  .have s:H b=some (.own x):=by
    rcases he with z|z
    .exact absurd (a.trans z) hb
    .rw[a];exact z
   rw[q] at s;cases s;obtain⟨v,t⟩:=p;exact⟨v,by rw[a];exact t⟩
  .refine(ok b u q).gy (λc v hc r=>k c v ?_ r) (λc r=>by rw[az (n c b r)];exact r) λc xs r=>by rw[az (o c xs r)];exact r
   rcases hc with rfl|hc
   .exact a
   .rintro rfl;rcases he with z|z
    .exact n c b hc z
    .rw[hc] at z;cases z;exact hb rfl
end
structure Un(fs ex:List Addr)(H H':Hp)(h h':Heap):Prop where
 keep:∀b o,h.get? b=some o->H b=none->b∉fs->b∉ex->h'.get? b=some o
 slot:∀b o,h.get? b=some o->H b=none->b∈fs->b∉ex->∃sl,h'.get? b=some { o with slots:=sl }
 free:∀b o,h.get? b=some o->H b=none->b∉ex->H' b=none
 there:∀b o,h.get? b=some o->b∉ex->∃o',h'.get? b=some o'
 tups:∀b xs,H b=some (.tup xs)->H' b=some (.tup xs)
 frzs:∀b o u,H b=some (.frz o u)->H' b=some (.frz o u)
 tbls:∀b ps,H b=some (.tbl ps)->∃more,H' b=some (.tbl (ps++more))
section
variable{fs fs' ex ex':List Addr}{H H1 H2:Hp}{h h1 h2 h':Heap}{a x e:Addr}{o:HO}
theorem Un.any(u:Un fs ex H H1 h h1){b:Addr}{ob:Obj}(q:h.get? b=some ob)(n:H b=none)(hx:b∉ex):∃sl,h1.get? b=some { ob with slots:=sl }:=by
 by_cases hb:b∈fs
 .exact u.slot b ob q n hb hx
 .exact⟨ob.slots,u.keep b ob q n hb hx⟩
theorem Un.kept(k:∀b u,h.get? b=some u->h'.get? b=some u):Un fs ex H H h h':=
 ⟨λb ob q _ _ _=>k b ob q,λb ob q _ _ _=>⟨ob.slots,k b ob q⟩,λ_ _ _ n _=>n,λb ob q _=>⟨ob,k b ob q⟩,λ_ _ q=>q,λ_ _ _ q=>q,λ_ ps q=>⟨#[],by rw[q];simp⟩⟩
theorem Un.refl:Un fs ex H H h h:=Un.kept λ_ _ q=>q
theorem Un.laid(k:∀b u,h.get? b=some u->h'.get? b=some u)(hp:h.objs.size<=a)(hn:H a=none):Un fs ex H (upd H a o) h h' where
 keep:=λb u q _ _ _=>k b u q
 slot:=λb u q _ _ _=>⟨u.slots,k b u q⟩
 free:=λb u q n _=>by rw[az (S8 (SN (SV q) hp))];exact n
 there:=λb u q _=>⟨u,k b u q⟩
 tups:=λb xs q=>by rw[az (aG q hn)];exact q
 frzs:=λb u xs q=>by rw[az (aG q hn)];exact q
 tbls:=λb ps q=>⟨#[],by rw[az (aG q hn),q];simp⟩
theorem Un.write(mu:OV (H x))(he:e=x\/H e=some (.own x))(k:∀b u,b≠e->h.get? b=some u->h'.get? b=some u)(p:∃u,h'.get? e=some u):Un fs ex H (upd H x o) h h':=by
 have hx:∀b,H b=none->b≠x:=λb n z=>by subst z;rw[n] at mu;exact mu
 have hb:∀b,H b=none->b≠e:=λb n z=>by
  subst z;rcases he with r|r
  .exact hx b n r
  .rw[n] at r;cases r
 have v:∀b u,H b=some u->¬ OV (some u)->b≠x:=λb u q nm z=>by subst z;rw[q] at mu;exact nm mu
 refine⟨λb u q n _ _=>k b u (hb b n) q,λb u q n _ _=>⟨u.slots,k b u (hb b n) q⟩,λb u q n _=>by rw[az (hx b n)];exact n,λb u q _=>?_,
  λb xs q=>by rw[az (v b _ q λz=>z)];exact q,λb u xs q=>by rw[az (v b _ q λz=>z)];exact q,λb ps q=>⟨#[],by rw[az (v b _ q λz=>z),q];simp⟩⟩
 by_cases a:b=e
 .subst a;exact p
 .exact⟨u,k b u a q⟩
end
noncomputable def PV(h:Heap)(H:Hp):List Addr:=(Tc h.objs.size).filter λa=>(H a).isSome
def qc(h:Heap)(H:Hp):Heap:=PySem.W.hideAll h (PV h H)
theorem zp(h:Heap)(H:Hp):(qc h H).objs.size=h.objs.size:=PySem.W.hideAll_size _ _
variable{o:Obj}
theorem AH{b:Addr}(e:h.get? b=some o)(n:H b=none):(qc h H).get? b=some o:=
 PySem.W.hideAll_get _ e λv=>by have q:=(WM.mp v).2;rw[n] at q;simp at q
theorem GI{b:Addr}(e:(qc h H).get? b=some o):h.get? b=some o/\H b=none:=by
 have k:=PySem.W.of_hideAll (PV h H) e;refine⟨k,?_⟩;cases q:H b with
 |none=>rfl
 |some x=>have v:b∈PV h H:=WM.mpr ⟨Ts.mpr (SV k),by simp[q]⟩;have z:(qc h H).get? b=none:=PySem.W.hideAll_none (PV h H) v;rw[z] at e;cases e
noncomputable def F5(g h:Heap)(L:Addr):List (Addr×Obj):=(Tc h.objs.size).filterMap λa=>if a=L\/(g.get? a).isSome=true then none else (h.get? a).map λo=>(a,o)
def rest(g h:Heap)(L d:Addr):List (Addr×Obj):=(F5 g h L).filter λp=>decide (p.1≠d)
structure Mod(K:SD)(mg:Str->Option Value)(base:Heap):Prop where
 kin:K.In base
 glob:base.Ns zas mg
 blt:∃mb,base.Ns zby mb/\∀x:Str,x ≠ "__name__" -> mb x=zal x
 nolimit:base.NoLimit
structure Cx where
 prog:Program
 w:zam
 K:SD
 mg:Str->Option Value
 base:Heap
 A:zan
 N:List Str
 s₀:Shared
 H₀:Hp
 env:Env
 outer:List Env
 stack:List Env
 ex:List Addr
 fn:Str->Bool
 calm:Bool
 pn:List (Addr×Obj)
 xe:Value->Shared->Prop
noncomputable def lp(l:List Env):List Addr:=l.filterMap (·.frame)
abbrev Cx.fs(X:Cx):List Addr:=lp X.outer
def pD(sc:Scope)(x:Str):Prop:=sc.names.lookup x=some .local\/sc.names.lookup x=some .cell\/sc.names.lookup x=some .free
def Loc(sc:Scope)(x:Str):Prop:=sc.names.lookup x=some .local\/sc.names.lookup x=some .cell
def Look(env:Env)(h:Heap)(m:Str->Option Value)(x:Str)(u:Value):Prop:=
 (env.kindOf x=some .local/\m x=some u)\/((env.kindOf x=some .cell\/env.kindOf x=some .free)/\∃c,env.cells.lookup x=some c/\h.IsCell c (some u))
structure Cx.Ok(X:Cx):Prop where
 mod:Mod X.K X.mg X.base
 kind:X.env.scope.kind=.function
 glob:X.env.globals=zas
 blt:X.env.builtins=zby
 above:X.s₀.heap.objs.size<=X.env.locals
 inj:∀x y c,X.env.cells.lookup x=some c->X.env.cells.lookup y=some c->x=y
 has:∀x,(X.env.kindOf x=some .cell\/X.env.kindOf x=some .free)->∃c,X.env.cells.lookup x=some c
 cab:∀x c,X.fn x=true->X.env.cells.lookup x=some c->X.s₀.heap.objs.size<=c
 hd:X.calm=true->X.A.handled=none
 frames:X.A.frames=some X.stack
 stk:X.stack=X.outer\/(X.stack=X.env::X.outer/\X.env.frame=some X.env.locals)
 exf:∀b∈X.ex,b≠X.env.locals/\∀x c,X.env.cells.lookup x=some c->c≠b
 bs:∀b o,X.base.get? b=some o->X.s₀.heap.get? b=some o/\X.H₀ b=none
 bsz:X.base.objs.size<=X.s₀.heap.objs.size
 noex:∀b o,X.base.get? b=some o->b∉X.ex
 exfs:∀b∈X.ex,b∉X.fs
 qJ:X.s₀.heap.FunFrames X.base X.outer
 frf:∀b∈X.fs,X.H₀ b=none
structure Inv(X:Cx)(pins:List (Addr×Obj))(Y:List (Option V))(H:Hp)(s:Shared):Prop where
 ok:X.Ok
 os:s.os=X.s₀.os
 bare:zbp s.gens
 base:Un X.fs X.ex X.H₀ H X.s₀.heap s.heap
 loc:∃m,s.heap.Ns X.env.locals m/\∀(i:Nat)(x:Str)(v:V),X.N[i]?=some x->Y[i]?=some (some v)->pD X.env.scope x->∃u,RelV v u/\Look X.env s.heap m x u
 cell:∀x c,X.env.cells.lookup x=some c->∃v,s.heap.IsCell c v
 free:H X.env.locals=none
 freeC:∀x c,X.env.cells.lookup x=some c->H c=none
 pin:∀p∈X.pn++pins,s.heap.get? p.1=some p.2/\H p.1=none/\p.1≠X.env.locals/\p.1∉X.fs/\∀v,p.2.data≠.cell v
 hok:je X.prog X.w H s.heap
 len:Y.length=X.N.length
variable{g':Array zb1}{t' i j:Nat}{d':Drawn}{ch:List Addr}{it:Addr}{N:List Str}{E:Value->Shared->Prop}{v:V}{u:Value}{Q:Unit->Shared->Prop}
section
variable{X:Cx}{pins:List (Addr×Obj)}{Y:List (Option V)}{H H':Hp}{s:Shared}{h':Heap}
theorem Cx.Ok.Qc(ok:X.Ok){b:Addr}(e:X.base.get? b=some o):b∉X.fs:=λhb=>by have:=(ok.qJ.mem hb).1;rw[e] at this;cases this
theorem Inv.bs(I:Inv X pins Y H s):∀b o,X.base.get? b=some o->s.heap.get? b=some o/\H b=none:=λb o e=>⟨I.base.keep b o (I.ok.bs b o e).1 (I.ok.bs b o e).2 (I.ok.Qc e) (I.ok.noex b o e),I.base.free b o (I.ok.bs b o e).1 (I.ok.bs b o e).2 (I.ok.noex b o e)⟩
theorem Inv.bk(I:Inv X pins Y H s):∀b o,X.base.get? b=some o->s.heap.get? b=some o:=λb o e=>(I.bs b o e).1
theorem Inv.mod(I:Inv X pins Y H s):Mod X.K X.mg X.base:=I.ok.mod
theorem Inv.HY(I:Inv X pins Y H s):X.K.In s.heap:=I.ok.mod.kin.keeps I.bk
theorem Inv.lt(I:Inv X pins Y H s):X.env.locals<s.heap.objs.size:=let ⟨_,hn,_⟩:=I.loc;hn.lt
theorem Inv.sz(I:Inv X pins Y H s):X.s₀.heap.objs.size<=s.heap.objs.size:=Tn I.ok.above (UM I.lt)
theorem Inv.M8(I:Inv X pins Y H s){a:Addr}(h:s.heap.objs.size<=a):a∉X.fs:=λhb=>by obtain⟨_,o,ho,_⟩:=I.ok.qJ.mem hb;exact absurd (SN (SV ho) (Tn I.sz h)) (TN _)
theorem Inv.L9(I:Inv X pins Y H s):∀x c,X.env.cells.lookup x=some c->c≠X.env.locals:=λx c e z=>by obtain⟨v,o,ho,hd⟩:=I.cell x c e;obtain⟨m,⟨o',es,ep,h,q,_⟩,_⟩:=I.loc;rw[z,h] at ho;cases ho;rw[q] at hd;cases hd
theorem Inv.qJ(I:Inv X pins Y H s):s.heap.FunFrames X.base X.outer:=by
 have all:∀(l:List Env),(∀b∈lp l,b∈X.fs)->X.s₀.heap.FunFrames X.base l->s.heap.FunFrames X.base l:=by
  intro l;induction l with
  |nil=>intro _ _;trivial
  |cons env r m=>intro hs hl;obtain⟨hk,⟨L,o,hf,hn,ho,hd⟩,w⟩:=hl;have u:=hs L (by delta lp;rw[Vf,hf];exact SH);obtain⟨sl,e⟩:=I.base.slot L o ho (I.ok.frf L u) u λz=>I.ok.exfs L z u;exact⟨hk,⟨L,_,hf,hn,e,hd⟩,m (λb hb=>hs b (by delta lp;rw[Vf,hf];exact SK _ hb)) w⟩
 exact all X.outer (λ_ hb=>hb) I.ok.qJ
theorem Inv.stack(I:Inv X pins Y H s):s.heap.FunFrames X.base X.stack:=by
 rcases I.ok.stk with e|⟨e,hf⟩
 .rw[e];exact I.qJ
 .rw[e];obtain⟨m,hn,_⟩:=I.loc;refine .cons (by rw[I.ok.kind];decide) hf hn ?_ I.qJ;exact Heap.get?_none_of_le (Tn I.ok.bsz I.ok.above)
theorem Inv.jS(I:Inv X pins Y H s):∀b∈lp X.stack,b∈X.env.locals::X.fs:=λb hb=>by
 rcases I.ok.stk with e|⟨e,hf⟩
 .rw[e] at hb;exact SK _ hb
 .rw[e] at hb
  delta lp at hb
  rw[Vf,hf] at hb;exact hb
theorem Inv.xD(I:Inv X pins Y H s):∀b∈lp X.stack,H b=none:=λb hb=>by
 rcases SR.mp (I.jS b hb) with e|hb
 .rw[e];exact I.free
 .obtain⟨_,o,ho,_⟩:=I.ok.qJ.mem hb;exact I.base.free b o ho (I.ok.frf b hb) λz=>I.ok.exfs b z hb
theorem Inv.step(I:Inv X pins Y H s)
  (y:∀b∈ch,(b∈X.ex\/X.s₀.heap.objs.size<=b)/\b≠X.env.locals/\(∀x c,X.env.cells.lookup x=some c->c≠b)/\∀p∈X.pn++pins,p.1≠b)
  (keep:∀b o,b≠X.env.locals->b∉X.fs->b∉ch->s.heap.get? b=some o->H b=none->h'.get? b=some o)
  (slot:∀b o,b≠X.env.locals->b∈X.fs->b∉ch->s.heap.get? b=some o->H b=none->∃sl,h'.get? b=some { o with slots:=sl })(free:∀b o,b∉ch->s.heap.get? b=some o->H b=none->H' b=none)
  (there:∀b o,b∉ch->s.heap.get? b=some o->∃o',h'.get? b=some o')
  (tups:∀b xs,H b=some (.tup xs)->H' b=some (.tup xs))(frzs:∀b o u,H b=some (.frz o u)->H' b=some (.frz o u))(tbls:∀b ps,H b=some (.tbl ps)->∃more,H' b=some (.tbl (ps++more)))
  (ns:∀m,s.heap.Ns X.env.locals m->h'.Ns X.env.locals m)(hok:je X.prog X.w H' h')(J:zbp g'):
  Inv X pins Y H' { s with heap:=h',gens:=g',drawn:=d',toks:=t' }:=by
 have E:∀b o,X.s₀.heap.get? b=some o->b≠X.env.locals:=λb o e=>S8 (SN (SV e) I.ok.above);have C:∀b o,X.s₀.heap.get? b=some o->b∉X.ex->b∉ch:=λb o e hx hb=>by
  rcases(y b hb).1 with z|z
  .exact hx z
  .exact absurd (SN (SV e) z) (TN _)
 have A:∀x c,X.env.cells.lookup x=some c->∀v,s.heap.IsCell c v->h'.IsCell c v:=λx c e v ⟨o,ho,hd⟩=>by
  have B:c∉ch:=λz=>(y c z).2.2.1 x c e rfl;by_cases hc:c∈X.fs
  .obtain⟨sl,q⟩:=slot c o (I.L9 x c e) hc B ho (I.freeC x c e);exact⟨_,q,hd⟩
  .exact⟨o,keep c o (I.L9 x c e) hc B ho (I.freeC x c e),hd⟩
 refine⟨I.ok,I.os,J,⟨λb o e n hb hx=>?_,λb o e n hb hx=>?_,λb o e n hx=>?_,λb o e hx=>?_,λb xs e=>tups b xs (I.base.tups b xs e),λb o xs e=>frzs b o xs (I.base.frzs b o xs e),λb ps e=>?_⟩,?_,λx c e=>?_,?_,λx c e=>?_,λp hp=>?_,hok,I.len⟩
 .exact keep b o (E b o e) hb (C b o e hx) (I.base.keep b o e n hb hx) (I.base.free b o e n hx)
 .obtain⟨sl,D⟩:=I.base.slot b o e n hb hx;obtain⟨G,F⟩:=slot b _ (E b o e) hb (C b o e hx) D (I.base.free b o e n hx);exact⟨G,F⟩
 .obtain⟨o',D⟩:=I.base.there b o e hx;exact free b o' (C b o e hx) D (I.base.free b o e n hx)
 .obtain⟨o',D⟩:=I.base.there b o e hx;exact there b o' (C b o e hx) D
 .obtain⟨K,D⟩:=I.base.tbls b ps e;obtain⟨L,F⟩:=tbls b _ D;exact⟨K++L,by rw[F,Array.append_assoc]⟩
 .obtain⟨m,hn,hl⟩:=I.loc;refine⟨m,ns m hn,λi x v D F N=>?_⟩;obtain⟨u,r,l⟩:=hl i x v D F N;refine⟨u,r,?_⟩;rcases l with l|⟨k,c,e,z⟩
  .exact .inl l
  .exact .inr ⟨k,c,e,A x c e _ z⟩
 .obtain⟨v,z⟩:=I.cell x c e;exact⟨v,A x c e v z⟩
 .obtain⟨m,⟨o,_,_,ho,_⟩,_⟩:=I.loc;exact free _ o (λz=>(y _ z).2.1 rfl) ho I.free
 .obtain⟨v,o,ho,hd⟩:=I.cell x c e;exact free c o (λz=>(y c z).2.2.1 x c e rfl) ho (I.freeC x c e)
 .obtain⟨e,n,ne,nf,d⟩:=I.pin p hp;have B:p.1∉ch:=λz=>(y p.1 z).2.2.2 p hp rfl;exact⟨keep p.1 p.2 ne nf B e n,free p.1 p.2 B e n,ne,nf,d⟩
theorem Inv.un(I:Inv X pins Y H s)(u:Un X.fs [] H H' s.heap h')(hok:je X.prog X.w H' h'):Inv X pins Y H' { s with heap:=h',toks:=t' }:=by
 obtain⟨m,⟨o,es,ep,ho,r⟩,_⟩:=id I.loc;obtain⟨sl,O⟩:=u.any ho I.free T1;exact I.step (g':=s.gens) (d':=s.drawn) (ch:=[]) (λ_ z=>nomatch z) (λb o _ hb _ e n=>u.keep b o e n hb T1) (λb o _ hb _ e n=>u.slot b o e n hb T1) (λb o _ e n=>u.free b o e n T1) (λb o _ e=>u.there b o e T1) u.tups u.frzs u.tbls (λQ v=>by obtain⟨o',es',x,h,P⟩:=v;rw[ho] at h;cases h;exact⟨_,es',x,O,P⟩) hok I.bare
theorem Inv.call(I:Inv X pins Y H s)(u:Un (lp X.stack) ch H H' s.heap h')(hok:je X.prog X.w H' h')(J:zbp g')
  (y:∀b∈ch,(b∈X.ex\/X.s₀.heap.objs.size<=b)/\b≠X.env.locals/\(∀x c,X.env.cells.lookup x=some c->c≠b)/\∀p∈X.pn++pins,p.1≠b):
  Inv X pins Y H' { s with heap:=h',gens:=g',drawn:=d',toks:=t' }:=by
 obtain⟨m,⟨o,es,ep,ho,r⟩,_⟩:=id I.loc;obtain⟨sl,O⟩:=u.any ho I.free λz=>(y _ z).2.1 rfl;exact I.step (ch:=ch) y (λb o O hb hc e n=>u.keep b o e n (λz=>(SR.mp (I.jS b z)).elim O hb) hc) (λb o _ _ hc e n=>u.any e n hc) (λb o hc e n=>u.free b o e n hc) (λb o hc e=>u.there b o e hc) u.tups u.frzs u.tbls (λQ v=>by obtain⟨o',es',R,h,P⟩:=v;rw[ho] at h;cases h;exact⟨_,es',R,O,P⟩) hok J
theorem Inv.turned(I:Inv X pins Y H s)(k:∀b o,b≠it->s.heap.get? b=some o->h'.get? b=some o)(hn:H it=none)(O:it≠X.env.locals)
  (h1:it∈X.ex\/X.s₀.heap.objs.size<=it)(h2:∀x c,X.env.cells.lookup x=some c->c≠it)(h3:∀p∈X.pn++pins,p.1≠it):Inv X pins Y H { s with heap:=h',toks:=t' }:=by
 have S:∀b u,H b=some u->b≠it:=λb u e z=>by rw[z,hn] at e;cases e
 refine I.step (g':=s.gens) (d':=s.drawn) (ch:=[it]) (λb hb=>?_) (λb o _ _ hc e _=>k b o (λz=>hc (by simp[z])) e) (λb o _ _ hc e _=>⟨o.slots,k b o (λz=>hc (by simp[z])) e⟩) (λ_ _ _ _ n=>n)
  (λb o hc e=>⟨o,k b o (λz=>hc (by simp[z])) e⟩) (λ_ _ e=>e) (λ_ _ _ e=>e) (λb ps e=>⟨#[],by rw[e];simp⟩) (λm T=>?_) (λb u e=>?_) I.bare
 .have e:b=it:=by simpa using hb
  subst e;exact⟨h1,O,h2,h3⟩
 .obtain⟨o,es,ep,ho,r⟩:=T;exact⟨o,es,ep,k _ o (Uu O) ho,r⟩
 .refine(I.hok b u e).gy (λc v hc q=>k c v ?_ q) (λ_ q=>q) λ_ _ q=>q;rcases hc with z|z
  .rw[z];exact S b u e
  .exact S c _ z
theorem Inv.tok(I:Inv X pins Y H s)(t:Nat):Inv X pins Y H { s with toks:=t }:=I.un Un.refl I.hok
theorem Inv.kept{t':Nat}(I:Inv X pins Y H s)(k:∀b u,s.heap.get? b=some u->h'.get? b=some u):Inv X pins Y H { s with heap:=h',toks:=t' }:=I.un (Un.kept k) (I.hok.kept k)
theorem Inv.laid{a:Addr}{o:HO}{t':Nat}(I:Inv X pins Y H s)(k:∀b u,s.heap.get? b=some u->h'.get? b=some u)(hp:s.heap.objs.size<=a)(new:bV X.prog X.w (upd H a o) h' a o):
  Inv X pins Y (upd H a o) { s with heap:=h',toks:=t' }:=I.un (Un.laid k hp (I.hok.fresh hp)) (I.hok.laid k hp new)
theorem Inv.write{x e:Addr}{o:HO}{t':Nat}(I:Inv X pins Y H s)(mu:OV (H x))(he:e=x\/H e=some (.own x))(k:∀b u,b≠e->s.heap.get? b=some u->h'.get? b=some u)(p:∃u,h'.get? e=some u)
  (new:bV X.prog X.w (upd H x o) h' x o):Inv X pins Y (upd H x o) { s with heap:=h',toks:=t' }:=I.un (Un.write mu he k p) (I.hok.write mu he k p new)
theorem Inv.pX{r:List (Addr×Obj)}(I:Inv X pins Y H s)(h:∀p∈r,s.heap.get? p.1=some p.2/\H p.1=none/\p.1≠X.env.locals/\p.1∉X.fs/\∀v,p.2.data≠.cell v):Inv X r Y H s:=
 ⟨I.ok,I.os,I.bare,I.base,I.loc,I.cell,I.free,I.freeC,λp hp=>(SY.mp hp).elim (λz=>I.pin p (S7 _ z)) (h p),I.hok,I.len⟩
theorem sx(z:N.Nodup){x:Str}(a:N[i]?=some x)(b:N[j]?=some x):i=j:=by obtain⟨h1,D⟩:=SF.mp a;obtain⟨h2,l⟩:=SF.mp b;exact(V2 z).mp (D.trans l.symm)
theorem oA{M:Model}{A:zan}{x:Str}(I:Inv X pins Y H s)(hN:X.N.Nodup)(hi:X.N[i]?=some x)(hx:Loc X.env.scope x)(r:RelV v u)
  (h:∀s',Inv X pins (Y.set i (some v)) H s'->(∃a,U9 a s.heap s'.heap/\(a=X.env.locals\/X.env.cells.lookup x=some a))->Q () s')(hf:X.fn x=true\/X.env.scope.names.lookup x=some .local:=by first|exact .inl rfl|exact .inr rfl|assumption):zaj M A (storeName X.env x u) Q E s:=by
 obtain⟨m,hn,hl⟩:=id I.loc;have hcls:(X.env.scope.kind==.class || (X.env.scope.kind==.module&&X.env.locals != X.env.globals))=false:=by rw[I.ok.kind];rfl
 have hiσ:i<Y.length:=by rw[I.len];exact(SF.mp hi).1
 have L9:=I.L9;have tracked:∀{a:Addr}{h':Heap},(∃o,s.heap.get? a=some o/\H a=none)->U9 a s.heap h'->je X.prog X.w H h':=λ{a h'} ha hs b ob e=>by
  obtain⟨_,_,hfree⟩:=ha;refine(I.hok b ob e).gy (λc w' hc q=>(hs.2 c ?_).trans q) (λ_ q=>q) λ_ _ q=>q;rintro rfl;rcases hc with rfl|hc
  .rw[hfree] at e;cases e
  .rw[hfree] at hc;cases hc
 rcases hx with hk|hk
 .refine wpAny_storeName_local hk hn (λh' hn' hs=>?_) hcls;obtain⟨oL,_,_,hoL,_⟩:=id hn;refine h _ ⟨I.ok,I.os,I.bare,⟨λb o e n hb hx=>?_,λb o e n hb hx=>?_,I.base.free,λb o e hx=>?_,I.base.tups,I.base.frzs,I.base.tbls⟩,⟨_,hn',λj y v' e1 e2 e3=>?_⟩,λy c e=>?_,I.free,I.freeC,λp hp=>?_,tracked ⟨oL,hoL,I.free⟩ hs,by simpa using I.len⟩ ⟨_,hs,.inl rfl⟩
  .exact(hs.2 b (S8 (SN (SV e) I.ok.above))).trans (I.base.keep b o e n hb hx)
  .obtain⟨sl,e1⟩:=I.base.slot b o e n hb hx;exact⟨sl,(hs.2 b (S8 (SN (SV e) I.ok.above))).trans e1⟩
  .obtain⟨o',e1⟩:=I.base.there b o e hx;exact⟨o',(hs.2 b (S8 (SN (SV e) I.ok.above))).trans e1⟩
  .by_cases hj:j=i
   .subst hj;rw[hi] at e1;cases e1;rw[Tt hiσ] at e2;cases e2;exact⟨u,r,.inl ⟨hk,by simp⟩⟩
   .rw[TL (Uu hj)] at e2;obtain⟨u',r',q⟩:=hl j y v' e1 e2 e3;refine⟨u',r',?_⟩;rcases q with ⟨k,e⟩|⟨k,c,e,z⟩
    .refine .inl ⟨k,?_⟩;have:y≠x:=λe=>hj (sx hN e1 (e▸hi));simp[this,e]
    .exact .inr ⟨k,c,e,z.sameBut hs (L9 y c e)⟩
  .obtain⟨w',z⟩:=I.cell y c e;exact⟨w',z.sameBut hs (L9 y c e)⟩
  .obtain⟨e,n,ne,nf,d⟩:=I.pin p hp;exact⟨(hs.2 p.1 ne).trans e,n,ne,nf,d⟩
 .have hfn:X.fn x=true:=by
   rcases hf with z|z
   .exact z
   .rw[z] at hk;cases hk
  obtain⟨c,hc⟩:=I.ok.has x (.inl hk);obtain⟨w',z⟩:=I.cell x c hc;refine wpAny_storeName_cell I.ok.kind hk hc z (λh' hc' hs=>?_);obtain⟨oc,hoc,hocd⟩:=id z;refine h { s with heap:=h' } ⟨I.ok,I.os,I.bare,⟨λb o e n hb hx=>?_,λb o e n hb hx=>?_,I.base.free,λb o e hx=>?_,I.base.tups,I.base.frzs,I.base.tbls⟩,⟨m,hn.sameBut hs (Uu (L9 x c hc)),λj y v' e1 e2 e3=>?_⟩,λy c' e=>?_,I.free,I.freeC,λp hp=>?_,tracked ⟨oc,hoc,I.freeC x c hc⟩ hs,by simpa using I.len⟩ ⟨c,hs,.inr hc⟩
  .exact(hs.2 b (S8 (SN (SV e) (I.ok.cab x c hfn hc)))).trans (I.base.keep b o e n hb hx)
  .obtain⟨sl,e1⟩:=I.base.slot b o e n hb hx;exact⟨sl,(hs.2 b (S8 (SN (SV e) (I.ok.cab x c hfn hc)))).trans e1⟩
  .obtain⟨o',e1⟩:=I.base.there b o e hx;exact⟨o',(hs.2 b (S8 (SN (SV e) (I.ok.cab x c hfn hc)))).trans e1⟩
  .by_cases hj:j=i
   .subst hj;rw[hi] at e1;cases e1;rw[Tt hiσ] at e2;cases e2;exact⟨u,r,.inr ⟨.inl hk,c,hc,hc'⟩⟩
   .rw[TL (Uu hj)] at e2;obtain⟨u',r',q⟩:=hl j y v' e1 e2 e3;refine⟨u',r',?_⟩;rcases q with q|⟨k,c',e,z'⟩
    .exact .inl q
    .refine .inr ⟨k,c',e,z'.sameBut hs ?_⟩;rintro rfl;exact hj (sx hN e1 (I.ok.inj _ _ _ e hc▸hi))
  .by_cases hcc:c'=c
   .subst hcc;exact⟨_,hc'⟩
   .obtain⟨w2,z2⟩:=I.cell y c' e;exact⟨w2,z2.sameBut hs hcc⟩
  .obtain⟨e,n,ne,nf,d⟩:=I.pin p hp;refine⟨(hs.2 p.1 ?_).trans e,n,ne,nf,d⟩;intro q;rw[q,hoc] at e;have q':oc=p.2:=Ta e;exact d w' (by rw[<-q'];exact hocd)
theorem jn{M:Model}{A:zan}{x:Str}(I:Inv X pins Y H s)(hN:X.N.Nodup)(hi:X.N[i]?=some x)(hx:Loc X.env.scope x)(r:RelV v u)
  (h:∀s',Inv X pins (Y.set i (some v)) H s'->Q () s')(hf:X.fn x=true\/X.env.scope.names.lookup x=some .local:=by first|exact .inl rfl|exact .inr rfl|assumption):zaj M A (storeName X.env x u) Q E s:=
 oA I hN hi hx r (λs' I' _=>h s' I') hf
theorem Inv.Nu{s':Shared}(I:Inv X pins Y H s)(ho:s'.os=s.os)(u:Un (lp X.stack) ch H H' s.heap s'.heap)(hok:je X.prog X.w H' s'.heap)(J:zbp s'.gens)
  (y:∀b∈ch,(b∈X.ex\/X.s₀.heap.objs.size<=b)/\b≠X.env.locals/\(∀x c,X.env.cells.lookup x=some c->c≠b)/\∀p∈X.pn++pins,p.1≠b):Inv X pins Y H' s':=by
 obtain⟨h',g',d',t',o'⟩:=s';have e:o'=s.os:=ho;subst e;exact I.call (g':=g') (t':=t') (d':=d') u hok J y
end
abbrev XK:=Value->Option Addr->Hp->Prop
noncomputable abbrev St:=List (Option V)
abbrev VK:=V->Hp->Prop
abbrev TE:=St->Hp->VK->Prop
abbrev TT:=St->Hp->(Bool->Hp->Prop)->Prop
abbrev TA:=St->Hp->(List V->Hp->Prop)->Prop
structure Ends where
 nx:St->Hp->Prop
 rt:VK
 bk:St->Hp->Prop:=λ_ _=>False
 ct:St->Hp->Prop:=λ_ _=>False
abbrev TS:=Ends->St->Hp->Prop
inductive EP(X:Cx)(pins:List (Addr×Obj))(Y:St)(Q:VK)(u:Value)(s':Shared):Prop
 |mk(v:V)(H':Hp)(i:Inv X pins Y H' s')(r:RelV v u)(q:Q v H')
inductive TP(X:Cx)(pins:List (Addr×Obj))(Y:St)(Q:Bool->Hp->Prop)(b:Bool)(s':Shared):Prop
 |mk(H':Hp)(i:Inv X pins Y H' s')(q:Q b H')
inductive AP(X:Cx)(pins:List (Addr×Obj))(Y:St)(Q:List V->Hp->Prop)(us:List Value)(s':Shared):Prop
 |mk(vs:List V)(H':Hp)(i:Inv X pins Y H' s')(r:Vals vs us)(q:Q vs H')
def SP(X:Cx)(pins:List (Addr×Obj))(D:Ends)(f:Flow)(s':Shared):Prop:=
 match f with
 | .next=>∃Y' H',Inv X pins Y' H' s'/\D.nx Y' H'
 | .brk=>∃Y' H',Inv X pins Y' H' s'/\D.bk Y' H'
 | .cont=>∃Y' H',Inv X pins Y' H' s'/\D.ct Y' H'
 | .ret u=>∃v Y' H',Inv X pins Y' H' s'/\RelV v u/\D.rt v H'
def PE(X:Cx)(e:Expr)(t:TE):Prop:=
 ∀(pins:List (Addr×Obj))(s:Shared)(Y:St)(H:Hp)(Q:VK),Inv X pins Y H s->t Y H Q->zaj (zak X.prog X.w) X.A (eval e X.env) (EP X pins Y Q) X.xe s
def PT(X:Cx)(e:Expr)(t:TT):Prop:=
 ∀(pins:List (Addr×Obj))(s:Shared)(Y:St)(H:Hp)(Q:Bool->Hp->Prop),Inv X pins Y H s->t Y H Q->zaj (zak X.prog X.w) X.A (zcc e X.env (eval e X.env)) (TP X pins Y Q) X.xe s
def PW(X:Cx)(e:Expr)(t:TT):Prop:=
 ∀(I:Sem Value)(pins:List (Addr×Obj))(s:Shared)(Y:St)(H:Hp)(Q:Bool->Hp->Prop),Inv X pins Y H s->t Y H Q->zaj (zak X.prog X.w) X.A (zcc e X.env I) (TP X pins Y Q) X.xe s
variable{X:Cx}{e:Expr}
theorem PW.pt{t:TT}(h:PW X e t):PT X e t:=h _
def PA(X:Cx)(es:List Expr)(t:TA):Prop:=
 ∀(pos:Pos)(pins:List (Addr×Obj))(s:Shared)(Y:St)(H:Hp)(Q:List V->Hp->Prop),Inv X pins Y H s->t Y H Q->zaj (zak X.prog X.w) X.A (spliced (zaG pos (zai es X.env))) (AP X pins Y Q) X.xe s
def PS(X:Cx)(st:Stmt)(t:TS):Prop:=
 ∀(pins:List (Addr×Obj))(s:Shared)(Y:St)(H:Hp)(D:Ends),Inv X pins Y H s->t D Y H->zaj (zak X.prog X.w) X.A (exec st X.env) (SP X pins D) X.xe s
def nU(X:Cx)(st:List Stmt)(t:TS):Prop:=
 ∀(pins:List (Addr×Obj))(s:Shared)(Y:St)(H:Hp)(D:Ends),Inv X pins Y H s->t D Y H->zaj (zak X.prog X.w) X.A (execs st X.env) (SP X pins D) X.xe s
variable{α:Type}{s:Shared}
theorem bG{t:Sem α}{Q H:α->Shared->Prop}{M:Model}{A:zan}(h:zaj M A t Q E s)(U:∀a s,Q a s->H a s):zaj M A t H E s:=zaN h U λ_ _ x=>x
variable{pins:List (Addr×Obj)}{R:V->V->Hp->Prop}{pos:Pos}{op:zbq}
section
variable{X:Cx}
theorem bin{a b:Expr}{ta tb:TE}(d:PE X a ta)(hb:PE X b tb){Y:St}(I:Inv X pins Y H s)(h:ta Y H λx c=>tb Y c λy V=>R x y V)
  {Q:α->Shared->Prop}{f:Value->Value->Sem α}
  (hf:∀v u s2 x y V,Inv X pins Y V s2->RelV x v->RelV y u->R x y V->zaj (zak X.prog X.w) X.A (f v u) Q X.xe s2):
  zaj (zak X.prog X.w) X.A (eval a X.env) (λv Z=>zaj (zak X.prog X.w) X.A (eval b X.env) (λu U=>zaj (zak X.prog X.w) X.A (f v u) Q X.xe U) X.xe Z) X.xe s:=by
 refine bG (d pins s Y H _ I h) λv s1 ⟨x,c,e,g,i⟩=>?_;refine bG (hb pins s1 Y c _ e i) λu s2 ⟨y,V,j,k,n⟩=>?_;exact hf v u s2 x y V j g k n
noncomputable def EB(i:Nat):TE:=λY H Q=>∃v,Y[i]?=some (some v)/\Q v H
noncomputable def tC(v:V):TE:=λ_ H Q=>Q v H
theorem cG{x:Str}(hN:X.N[i]?=some x)(hv:pD X.env.scope x)(hd:gA x:=by decide)(hcd:sX x:=by decide):PE X (.Name x pos) (EB i):=by
 intro pins s Y H Q I h;obtain⟨v,e,h⟩:=h;obtain⟨m,hn,hl⟩:=I.loc;obtain⟨u,r,l⟩:=hl i x v hN e hv;have fin:EP X pins Y Q u s:=⟨v,H,I,r,h⟩
 rcases l with ⟨hk,hm⟩|⟨hk,c,hc,hcell⟩
 .exact zcm (wpAny_loadName_local I.ok.kind hk hn hm fin) hd
 .rcases hk with hk|hk
  .exact zcm (wpAny_loadName_cell I.ok.kind hk hc hcell fin) hd
  .exact zcm (wpAny_loadName_free I.ok.kind hk hc hcell fin hcd) hd
theorem Ig{i j pos}:PE X (.Constant (.int i) j pos) (tC (.int i)):=λ_ _ _ H _ I h=>wpAny_Constant_int ⟨.int i,H,I.tok _,⟨_,rfl⟩,h⟩
theorem OT{b j pos}:PE X (.Constant (.bool b) j pos) (tC (.bl b)):=λ_ _ _ H _ I h=>Constant_bool ⟨.bl b,H,I,rfl,h⟩
theorem Kd{j pos}:PE X (.Constant .none j pos) (tC .non):=λ_ _ _ H _ I h=>Constant_none ⟨.non,H,I,rfl,h⟩
theorem JB{x j pos}:PE X (.Constant (.str x) j pos) (tC (.str x)):=λ_ _ _ H _ I h=>Calls.Constant_str ⟨.str x,H,I.tok _,⟨_,rfl⟩,h⟩
def Gl(X:Cx)(x:Str):Prop:=X.env.kindOf x=some .globalImplicit
theorem wX{Y:St}{x:Str}{Q:Value->Shared->Prop}(I:Inv X pins Y H s)(hg:Gl X x)(hm:X.mg x=some u)(h:Q u s)
  (hd:gA x:=by decide):zaj (zak X.prog X.w) X.A (eval (.Name x pos) X.env) Q E s:=
 WX I.ok.kind hg (Calls.loadGlobal_global (by rw[I.ok.glob];exact I.mod.glob.keeps I.bk) hm h) hd
theorem iS{Y:St}{x:Str}{Q:Value->Shared->Prop}(I:Inv X pins Y H s)(hg:Gl X x)(hm:X.mg x=none)(hv:zal x=some u)(h:Q u s)
  (hn:x ≠ "__name__" := by decide)(hd:gA x:=by decide):zaj (zak X.prog X.w) X.A (eval (.Name x pos) X.env) Q E s:=by
 obtain⟨mb,h1,h2⟩:=I.mod.blt;exact WX I.ok.kind hg (Calls.loadGlobal_builtin (by rw[I.ok.glob];exact I.mod.glob.keeps I.bk) hm (by rw[I.ok.blt];exact h1.keeps I.bk) ((h2 x hn).trans hv) h) hd
theorem Fp{x:Str}(hg:Gl X x)(hm:X.mg x=some u)(r:RelV v u)(hd:gA x:=by decide):PE X (.Name x pos) (tC v):=
 λ_ _ _ H _ I h=>wX I hg hm ⟨v,H,I,r,h⟩ hd
theorem ya{x:Str}(hg:Gl X x)(hm:X.mg x=none)(hv:zal x=some u)(r:RelV v u)(hn:x ≠ "__name__" := by decide)(hd:gA x:=by decide):PE X (.Name x pos) (tC v):=
 λ_ _ _ H _ I h=>iS I hg hm hv ⟨v,H,I,r,h⟩ hn hd
variable{a b:Expr}{ta tb:TE}{pos:Pos}
def PC(X:Cx)(op:zbq)(a b:Expr)(t:TE):Prop:=
 ∀(pins:List (Addr×Obj))(s:Shared)(Y:St)(H:Hp)(Q:VK),Inv X pins Y H s->t Y H Q->
  zaj (zak X.prog X.w) X.A (eval a X.env) (λv Z=>zaj (zak X.prog X.w) X.A (eval b X.env) (λu U=>zaj (zak X.prog X.w) X.A (zaz op v u) (EP X pins Y Q) X.xe U) X.xe Z) X.xe s
noncomputable def tB(t:TE):TT:=λY H Q=>t Y H λx X=>∃c,x=.bl c/\Q c X
theorem Jt{t:TE}(h:PC X op a b t)(h1:zat op b=false:=by first|exact nobehind _ W1 W1|rfl):PE X (.Compare a [op] [b] pos) t:=λpins s Y H Q I hw=>wpAny_Compare1 (h pins s Y H Q I hw) h1
theorem IH{t:TE}(h:PC X op a b t)(h1:zat op b=false:=by first|exact nobehind _ W1 W1|rfl):PT X (.Compare a [op] [b] pos) (tB t):=by intro pins s Y H Q I hw;refine zbJ (bG (h pins s Y H _ I hw) λv s1 h1=>bG h1 λu s2 h2=>bG h2 λc s3 ⟨x,H1,I1,r1,q1⟩=>?_) h1;obtain⟨d,rfl,q⟩:=q1;cases r1;exact zaP ⟨H1,I1,q⟩
theorem JU{t:TE}(h:PE X e t)(he:∀whole,zcc e X.env whole=(do let v <- whole;zci e.pos;holding [v] (truthy v)):=by intro _;rfl):PT X e (tB t):=by intro pins s Y H Q I hw;refine isTrue_plain (bG (h pins s Y H _ I hw) λv s1 ⟨x,H1,I1,r1,q1⟩=>?_) (he _);obtain⟨d,rfl,q⟩:=q1;cases r1;exact zaP ⟨H1,I1,q⟩
variable{tA tB':TT}{rest:List Expr}
noncomputable def QI(t u:TT):TT:=λY H Q=>t Y H λc X=>if c=true then u Y X Q else Q false X
noncomputable def R4(t u:TT):TT:=λY H Q=>t Y H λc X=>if c=true then Q true X else u Y X Q
noncomputable def QU(t:TT):TT:=λY H Q=>t Y H λc X=>Q (!c) X
theorem Fu(d:PT X a tA):PW X (.BoolOp .And [a] pos) tA:=by
 intro Z pins s Y H Q I h;refine isTrue_and (bG (d pins s Y H Q I h) λc s1 e=>?_);cases c with
 |true=>exact isTrue_and_nil e
 |false=>exact e
theorem Lc(d:PT X a tA):PW X (.BoolOp .Or [a] pos) tA:=by
 intro Z pins s Y H Q I h;refine isTrue_or (bG (d pins s Y H Q I h) λc s1 e=>?_);cases c with
 |false=>exact isTrue_or_nil e
 |true=>exact e
theorem Ks(d:PT X a tA)(hb:PW X (.BoolOp .And (b::rest) pos) tB'):PW X (.BoolOp .And (a::b::rest) pos) (QI tA tB'):=by
 intro Z pins s Y H Q I h;refine isTrue_and (bG (d pins s Y H _ I h) λc s1 ⟨f,e,i⟩=>?_);cases c with
 |true=>exact hb Z pins s1 Y f Q e i
 |false=>exact⟨f,e,i⟩
theorem Pw(d:PT X a tA)(hb:PW X (.BoolOp .Or (b::rest) pos) tB'):PW X (.BoolOp .Or (a::b::rest) pos) (R4 tA tB'):=by
 intro Z pins s Y H Q I h;refine isTrue_or (bG (d pins s Y H _ I h) λc s1 ⟨f,e,i⟩=>?_);cases c with
 |true=>exact⟨f,e,i⟩
 |false=>exact hb Z pins s1 Y f Q e i
theorem Km(d:PT X a tA):PT X (.UnaryOp .Not a pos) (QU tA):=by intro pins s Y H Q I h;exact isTrue_not (bG (d pins s Y H (λc f=>Q (!c) f) I h) λc s' ⟨H',i,q⟩=>⟨H',i,q⟩)
noncomputable def Oa(ta tb:TE):TE:=λY H Q=>ta Y H λx X=>∃c,x=.bl c/\if c=true then tb Y X Q else Q (.bl false) X
noncomputable def NI(ta:TE):TE:=λY H Q=>ta Y H λx X=>∃c,x=.bl c/\Q (.bl (!c)) X
theorem KC{op}{t:TE}(h:PE X a t):PE X (.BoolOp op [a] pos) t:=λpins s Y H Q I b=>BoolOp_one (h pins s Y H Q I b)
theorem LU(d:PE X a ta)(hb:PE X (.BoolOp .And (b::rest) pos) tb):PE X (.BoolOp .And (a::b::rest) pos) (Oa ta tb):=by
 intro pins s Y H Q I h;refine BoolOp_and (bG (d pins s Y H _ I h) λv s1 ⟨x,f,e,g,i⟩=>?_);obtain⟨c,rfl,i⟩:=i;cases g;refine zaP ?_;cases c with
 |true=>exact hb pins s1 Y f Q e i
 |false=>exact⟨.bl false,f,e,rfl,i⟩
theorem Li(d:PE X a ta):PE X (.UnaryOp .Not a pos) (NI ta):=by intro pins s Y H Q I h;refine UnaryOp_ (bG (d pins s Y H _ I h) λv s1 ⟨x,f,e,g,i⟩=>?_);obtain⟨c,rfl,i⟩:=i;cases g;exact not_of (zaP ⟨.bl (!c),f,e,rfl,i⟩)
end
def eI(K:SD)(H:Hp)(a:Addr)(xs:List V):Prop:=
 Rd H a (.lst xs) \/
  ∃(o:Obj)(b:Array Value)(n:Nat),K.lookup a=some o/\o.cls=.type "list" /\ o.dict=none/\o.data=.seq b n/\b.size<=sizeLine/\Vals xs b.toList
def eU(K:SD)(H:Hp)(a:Addr)(xs:List V):Prop:=
 Rd H a (.tup xs) \/
  ∃(o:Obj)(b:Array Value)(n:Nat),K.lookup a=some o/\(o.cls=.type "tuple" /\ o.dict=none)/\o.data=.seq b n/\b.size<=sizeLine/\Vals xs b.toList
noncomputable def P9:Value->Option V
 | .none=>some .non
 | .bool b=>some (.bl b)
 | .int i _=>some (.int i)
 | .str x _=>some (.str x)
 | .bytes b _=>some (.byt b)
 | .float b _=>some (.flt b)
 | .ref a=>some (.ref a)
 | .type n=>some (.ty n)
 |_=>none
theorem RelV.abs{x:V}(r:RelV x u):P9 u=some x:=by
 cases x with
 |non=>cases r;rfl
 |bl _=>cases r;rfl
 |int _=>obtain⟨t,rfl⟩:=r;rfl
 |str _=>obtain⟨t,rfl⟩:=r;rfl
 |byt _=>obtain⟨t,rfl⟩:=r;rfl
 |flt _=>obtain⟨t,rfl⟩:=r;rfl
 |ref _=>cases r;rfl
 |ty _=>cases r;rfl
theorem RelV.inj{x y:V}(r:RelV x u)(q:RelV y u):x=y:=Ta (r.abs.symm.trans q.abs)
theorem Vals.inj:∀{xs ys:List V}{us:List Value},Vals xs us->Vals ys us->xs=ys
 |_,_,_,.nil,.nil=>rfl
 |_,_,_,.cons r t,.cons r' t'=>by rw[r.inj r',Vals.inj t t']
section
variable{X:Cx}{pins:List (Addr×Obj)}{Y:St}{H:Hp}{s:Shared}{a:Addr}{xs ys:List V}
theorem Inv.list(I:Inv X pins Y H s)(h:eI X.K H a xs):∃b:List Value,Vals xs b/\PlainL s.heap a b.toArray/\xs.length<=sizeLine:=by
 rcases h with h|⟨o,b,n,hk,hc,hd,hs,hz,r⟩
 .obtain⟨z,b,n,r,e⟩:=h.ok I.hok;exact⟨b,r,⟨_,n,e,rfl,rfl,rfl⟩,z⟩
 .refine⟨b.toList,r,⟨o,n,I.HY a o hk,hc,hd,by simpa using hs⟩,?_⟩;have e:=r.length;simp only[Ti] at e;lia
theorem Inv.tuple(I:Inv X pins Y H s)(h:eU X.K H a xs):∃b:List Value,Vals xs b/\IsTup s.heap a b.toArray/\xs.length<=sizeLine:=by
 rcases h with h|⟨o,b,n,hk,hc,hs,hz,r⟩
 .obtain⟨z,b,r,p⟩:=h.ok I.hok;exact⟨b,r,p.t,z⟩
 .refine⟨b.toList,r,⟨o,I.HY a o hk,hc.1,n,by simpa using hs⟩,?_⟩;have e:=r.length;simp only[Ti] at e;lia
theorem Inv.l7(I:Inv X pins Y H s)(h:eI X.K H a xs)(h':eI X.K H a ys):xs=ys:=by
 obtain⟨b,r,⟨o,n,e,_,_,d⟩,_⟩:=I.list h;obtain⟨q,P,⟨o',n',k,_,_,d'⟩,_⟩:=I.list h';rw[e] at k;cases k;rw[d] at d';injection d' with d1 _;have:b=q:=by simpa using zcy Ze d1
 subst this;exact r.inj P
theorem Inv.oT(I:Inv X pins Y H s)(h:eU X.K H a xs)(h':eU X.K H a ys):xs=ys:=by
 obtain⟨b,r,⟨o,e,_,n,d⟩,_⟩:=I.tuple h;obtain⟨q,P,⟨o',k,_,n',d'⟩,_⟩:=I.tuple h';rw[e] at k;cases k;rw[d] at d';injection d' with d1 _;have:b=q:=by simpa using zcy Ze d1
 subst this;exact r.inj P
end
variable{c:Expr}{tc:TT}
section
variable{X:Cx}{st:Stmt}{rest:List Stmt}{t u:TS}{e:Expr}{te:TE}{pos:Pos}
noncomputable def MW:TS:=λD Y H=>D.nx Y H
noncomputable def ND(t u:TS):TS:=λD Y H=>t { D with nx:=u D } Y H
theorem Gf:nU X [] MW:=λ_ _ Y H _ I h=>zbg ⟨Y,H,I,h⟩
theorem Aq(h1:PS X st t)(h2:nU X rest u):nU X (st::rest) (ND t u):=by
 intro pins s Y H D I h;refine wpAny_execs_cons (bG (h1 pins s Y H { D with nx:=u D } I h) λf s1 q=>?_);cases f with
 |next=>obtain⟨Y',H',o,q⟩:=q;exact h2 pins s1 Y' H' D o q
 |ret v=>exact q
 |brk=>exact q
 |cont=>exact q
theorem Gw(h1:PS X st t):nU X [st] t:=by
 intro pins s Y H D I h;refine wpAny_execs_cons (bG (h1 pins s Y H D I h) λf s1 q=>?_);cases f with
 |next=>exact zbg q
 |ret v=>exact q
 |brk=>exact q
 |cont=>exact q
theorem Inv.quiet{Y:St}(I:Inv X pins Y H s):interactive X.env=false:=by simp[interactive,I.ok.kind]
noncomputable def NP(te:TE):TS:=λD Y H=>te Y H λ_ X=>D.nx Y X
theorem GD(he:PE X e te)(hs:zaJ e none pos.line X.env=pure false:=by rfl):PS X (.Expr e pos) (NP te):=by intro pins s Y H D I h;exact wpAny_Expr_any (bG (he pins s Y H _ I h) λv s1 ⟨x,H1,I1,r1,q1⟩=>⟨Y,H1,I1,q1⟩) I.quiet hs
noncomputable def Rk(te:TE):TS:=λD Y H=>te Y H D.rt
theorem LZ(he:PE X e te):PS X (.Return (some e) pos) (Rk te):=by intro pins s Y H D I h;exact wpAny_Return_some (bG (he pins s Y H _ I h) λv s1 ⟨x,f,r,g,i⟩=>⟨x,Y,f,r,g,i⟩)
noncomputable def Pj:TS:=λD _ H=>D.rt .non H
theorem FL:PS X (.Return none pos) Pj:=λ_ _ Y H _ I h=>wpAny_Return_none ⟨.non,Y,H,I,rfl,h⟩
noncomputable def Qo(c:TT)(t u:TS):TS:=λD Y H=>c Y H λb X=>if b=true then t D Y X else u D Y X
theorem NQ{a b:List Stmt}(hc:PT X c tc)(w:nU X a t)(hb:nU X b u):PS X (.If c a b pos) (Qo tc t u):=by
 intro pins s Y H D I h;refine wpAny_If (bG (hc pins s Y H _ I h) λd s1 ⟨f,e,i⟩=>?_);cases d with
 |true=>exact w pins s1 Y f D e i
 |false=>exact hb pins s1 Y f D e i
end
abbrev TG:=V->St->Hp->(St->Hp->Prop)->Prop
abbrev FW:=List V->St->Hp->(St->Hp->Prop)->Prop
def PG(X:Cx)(x:Expr)(t:TG):Prop:=
 ∀(pins:List (Addr×Obj))(s:Shared)(Y:St)(H:Hp)(v:V)(u:Value)(Q:St->Hp->Prop),Inv X pins Y H s->RelV v u->t v Y H Q->
  zaj (zak X.prog X.w) X.A (assign x X.env u) (λ_ s'=>∃Y' H',Inv X pins Y' H' s'/\Q Y' H') X.xe s
def JY(X:Cx)(ts:List Expr)(t:FW):Prop:=
 ∀(pins:List (Addr×Obj))(s:Shared)(Y:St)(H:Hp)(vs:List V)(us:List Value)(Q:St->Hp->Prop),Inv X pins Y H s->Vals vs us->t vs Y H Q->
  zaj (zak X.prog X.w) X.A (assignInOrder ((zaE ts X.env).map (·.2)) us) (λ_ s'=>∃Y' H',Inv X pins Y' H' s'/\Q Y' H') X.xe s
abbrev Mb:=V->V->V->Hp->(Hp->Prop)->Prop
def OD(X:Cx)(t:Mb):Prop:=
 ∀(pins:List (Addr×Obj))(s:Shared)(Y:St)(H:Hp)(o i v:V)(z B u:Value)(Q:Hp->Prop),Inv X pins Y H s->RelV o z->RelV i B->RelV v u->t o i v H Q->
  zaj (zak X.prog X.w) X.A (zcj z B u) (λ_ s'=>∃H',Inv X pins Y H' s'/\Q H') X.xe s
variable{es:List Expr}{tg:Expr}{te:TE}
section
variable{X:Cx}{pos:Pos}
noncomputable def Ce(i:Nat):TG:=λv Y H Q=>Q (Y.set i (some v)) H
theorem F9{x:Str}(hN:X.N.Nodup)(hi:X.N[i]?=some x)(hx:Loc X.env.scope x)(hf:X.fn x=true\/X.env.scope.names.lookup x=some .local:=by first|exact .inl rfl|exact .inr rfl|assumption):PG X (.Name x pos) (Ce i):=by intro pins s Y H v u Q I r h;exact zb2 (jn I hN hi hx r (λs' I'=>⟨_,H,I',h⟩) hf)
noncomputable def P8:FW:=λvs Y H Q=>vs=[]/\Q Y H
noncomputable def G6(t:TG)(u:FW):FW:=λvs Y H Q=>∃v r,vs=v::r/\t v Y H λY' H'=>u r Y' H' Q
theorem FP:JY X [] P8:=by intro pins s Y H vs us Q I r h;obtain⟨e,h⟩:=h;subst e;exact zb3 ⟨Y,H,I,h⟩
theorem Cf{t:TG}{u:FW}(h1:PG X e t)(h2:JY X es u)
  (hs:(zaE (e::es) X.env).map (·.2)=assign e X.env::(zaE es X.env).map (·.2):=by rfl):JY X (e::es) (G6 t u):=by
 intro pins s Y H vs us Q I r h;obtain⟨v,vr,e1,h⟩:=h;subst e1;cases r with
 |cons r rr=>rw[hs];refine zbl (bG (h1 pins s Y H _ _ _ I r h) λ_ s1 ⟨σ1,H1,I1,q1⟩=>?_);exact h2 pins s1 σ1 H1 _ _ Q I1 rr q1
noncomputable def QX(K:SD)(n:Nat)(t:FW):TG:=λv Y H Q=>∃a xs,v=.ref a/\eU K H a xs/\xs.length=n/\t xs Y H Q
theorem Kv{k:Nat}{t:FW}{n:Nat}(hc:X.calm=true)(h:JY X es t)
  (hn:(zaE es X.env).length=n:=by rfl)(hst:(zaE es X.env).findIdx? (·.1)=none:=by rfl):PG X (.Tuple es k pos) (QX X.K n t):=by
 intro pins s Y H v u Q I r hw;obtain⟨a,xs,e1,hq,hl,hw⟩:=hw;subst e1;cases r;obtain⟨its,rv,ht,hz⟩:=I.tuple hq;refine assign_Tuple_tuple (I.ok.hd hc) ht (by simp[hn,<-hl,rv.length]) hst λh' hx=>?_;have I1:=I.kept (t':=s.toks) λb o e=>hx b o (S8 (SV e)) e;exact h pins _ Y H xs _ Q I1 (by simpa using rv) hw
noncomputable def N5(to s:TE)(t:Mb):TG:=λv Y H Q=>to Y H λo X=>s Y X λi V=>t o i v V λu=>Q Y u
theorem JL{o i:Expr}{to ti:TE}{t:Mb}(ho:PE X o to)(hi:PE X i ti)(hs:OD X t)
  (ha:∀v,assign (.Subscript o i pos) X.env v=(do
   let ov <- holding [v] (eval o X.env)
   let iv <- holding [v,ov] (eval i X.env)
   zci pos
   holding [v,ov,iv] (zcj ov iv v)
   release [v,ov,iv] []):=by intro _;rfl):PG X (.Subscript o i pos) (N5 to ti t):=by
 intro pins s Y H v u Q I r h;refine zaf (zau (bG (ho pins s Y H _ I h) λov s1 ⟨x,H1,I1,r1,q1⟩=>?_));refine zaf (zau (bG (hi pins s1 Y H1 _ I1 q1) λiv s2 ⟨y,H2,I2,r2,q2⟩=>?_));refine zaf (zbs (zaf (zau (bG (hs pins s2 Y H2 x y v ov iv u _ I2 r1 r2 r q2) λ_ s3 ⟨H3,I3,q3⟩=>?_))));exact wpAny_release ⟨Y,H3,I3,q3⟩
noncomputable def Ck(te:TE)(g:TG):TS:=λD Y H=>te Y H λx X=>g x Y X D.nx
theorem Ai{g:TG}(he:PE X e te)(hg:PG X tg g)(hs:zbb [tg] e pos.line X.env=pure false:=by rfl)(hw:za2 [tg] e X.env=pure none:=by rfl)
  (h1:(zaE [tg] X.env).map (·.2)=[assign tg X.env]:=by rfl):PS X (.Assign [tg] e pos) (Ck te g):=by
 intro pins s Y H D I h;refine wpAny_Assign_stores (bG (he pins s Y H _ I h) λv s1 ⟨x,H1,I1,r1,q1⟩=>?_) hs hw;rw[h1];exact bG (hg pins s1 Y H1 x v _ I1 r1 q1) λ_ s2 q=>q
theorem Kf{x:Str}{pos':Pos}(hN:X.N.Nodup)(hi:X.N[i]?=some x)(hx:Loc X.env.scope x)(he:PE X e te)(hs:zaJ e (some (.Name x pos')) pos.line X.env=pure false:=by rfl)(hf:X.fn x=true\/X.env.scope.names.lookup x=some .local:=by first|exact .inl rfl|exact .inr rfl|assumption):
  PS X (.Assign [.Name x pos'] e pos) (Ck te (Ce i)):=by
 intro pins s Y H D I h;refine wpAny_Assign_Name (bG (he pins s Y H _ I h) λv s1 ⟨y,H1,I1,r1,q1⟩=>?_) hs;exact jn I1 hN hi hx r1 (λs2 I2=>⟨_,H1,I2,q1⟩) hf
noncomputable def MT(i j:Nat)(ta:TA):TS:=λD Y H=>ta Y H λvs X=>∃v w,vs=[v,w]/\D.nx ((Y.set i (some v)).set j (some w)) X
theorem K4{x y:Str}{a b:Expr}{ta:TA}{px py pt:Pos}{kt k2 pt2}(hc:X.calm=true)(hN:X.N.Nodup)(hi:X.N[i]?=some x)(hj:X.N[j]?=some y)(hij:i≠j)
  (hx:X.env.scope.names.lookup x=some .local)(hy:X.env.scope.names.lookup y=some .local)(ha:PA X [a,b] ta)
  (hw:za2 [.Tuple [.Name x px,.Name y py] kt pt] (.Tuple [a,b] k2 pt2) X.env=pure (some [x,y]))
  (hs:zbb [.Tuple [.Name x px,.Name y py] kt pt] (.Tuple [a,b] k2 pt2) pos.line X.env=pure false:=by rfl):
  PS X (.Assign [.Tuple [.Name x px,.Name y py] kt pt] (.Tuple [a,b] k2 pt2) pos) (MT i j ta):=by
 intro pins s Y H D I h;refine zaf (zbs ?_);refine zaf (zag ?_);refine zaf (Tuple_ (bG (ha _ pins s Y H _ I h) λus s1 ⟨vs,H1,I1,r1,q1⟩=>?_));obtain⟨v,w,e1,q1⟩:=q1;subst e1;obtain⟨u1,u2,rfl,rv,rw'⟩:∃u1 u2,us=[u1,u2]/\RelV v u1/\RelV w u2:=by
  cases r1 with
  |cons p q=>
   cases q with
   |cons p' q'=>cases q';exact ⟨_,_,rfl,p,p'⟩
 refine zaF ?_ (by show 2 ≤ sizeLine; decide);have I2:Inv X pins Y H1 { s1 with heap:=s1.heap.push { cls:=.type "tuple",data:=.seq [u1,u2].toArray } }:=I1.kept fun b o e=>SI _ e
 rw [hw];show zaj (zak X.prog X.w) X.A (do rule "assign.swapped-stores"; let items ← unpackItems (.ref s1.heap.objs.size) 2 none; assignInOrder [fun v=>bindName X.env y v,fun v=>bindName X.env x v] items.reverse; pure Flow.next) _ _ _;refine zaf (zcn (zaf (unpackItems_tuple (items:=#[u1,u2]) (I.ok.hd hc) (IsTup.new s1.heap _) fun h' hx'=>?_)));have I3:=I2.kept (h':=h') (t':=s1.toks) fun b o e=>hx' b o (S8 (SV e)) e
 refine zaf (zbl (wpAny_bindName (jn I3 hN hj (.inl hy) rw' (fun s2 I4=>?_) (.inr hy))));refine zbl (wpAny_bindName (jn I4 hN hi (.inl hx) rv (λs3 I5=>zb3 (zag ?_)) (.inr hx)));rw[List.set_comm _ _ (Uu hij)] at I5;exact⟨_,H1,I5,q1⟩
end
variable{body:List Stmt}{tb:TS}
section
variable{X:Cx}{pos:Pos}
def J5(c:TT)(tb:TS):TS:=λD Y H=>∃W:Nat->St->Hp->Prop,(∃m,W m Y H)/\∀m Y H,W m Y H->
 c Y H λb X=>if b=true then ∃N:St->Hp->Prop,(∀Y' H',N Y' H'->∃Q,Q<m/\W Q Y' H')/\tb { D with nx:=N,ct:=N,bk:=D.nx } Y X else D.nx Y X
theorem Dh(hp:zbi (zak X.prog X.w) X.A X.env X.xe)(hc:PT X c tc)(hb:nU X body tb):PS X (.While c body [] pos) (J5 tc tb):=by
 intro pins s Y H D I h;obtain⟨W,⟨U,a⟩,C⟩:=h;refine wpAny_While (codeAny_whileLoop (λn s'=>∃Y' H',Inv X pins Y' H' s'/\W n Y' H') ?_ U ⟨Y,H,I,a⟩);rintro n s1 ⟨t,R,e,l⟩;refine zaO hp (bG (hc pins s1 t R _ e (C n t R l)) λb s2 ⟨S,j,E⟩=>?_);cases b with
 |true=>
  obtain⟨N,z,E⟩:=E;refine zaO hp (bG (hb pins s2 t S _ j E) λf m F=>?_);cases f with
  |next=>obtain⟨V,u,G,K⟩:=F;obtain⟨Q,T,L⟩:=z V u K;exact⟨Q,T,V,u,G,L⟩
  |cont=>obtain⟨V,u,G,K⟩:=F;obtain⟨Q,T,L⟩:=z V u K;exact⟨Q,T,V,u,G,L⟩
  |brk=>exact F
  |ret v=>exact F
 |false=>exact zbg ⟨t,S,j,E⟩
end
structure It where
 go:Nat->Hp->Prop
 yld:Nat->Hp->V->Hp->Prop
 stop:Nat->Hp->Prop
def n5(X:Cx)(pins:List (Addr×Obj))(H:Hp)(b:Addr):Prop:=
 H b=none/\b≠X.env.locals/\b∉X.fs/\(b∈X.ex\/X.s₀.heap.objs.size<=b)/\(∀x c,X.env.cells.lookup x=some c->c≠b)/\∀p∈X.pn++pins,p.1≠b
theorem Inv.y0{Y:St}{H':Hp}{b:Addr}(I:Inv X pins Y H s)(hb:s.heap.objs.size<=b)(hn:H' b=none):n5 X pins H' b:=by
 refine⟨hn,Vd (SN I.lt hb),I.M8 hb,.inr (Tn I.sz hb),λx c e z=>?_,λp hp z=>?_⟩
 .obtain⟨v,q⟩:=I.cell x c e;exact absurd (SN q.lt (by rw[z];exact hb)) (TN _)
 .exact absurd (SN (SV (I.pin p hp).1) (by rw[z];exact hb)) (TN _)
structure Turn(P:Program)(w:zam)(K:SD)(tg:Expr)(J:It)(fp:List Addr)(it:Addr)(tn:Nat->Heap->Prop):Prop where
 mem:it∈fp
 obj:∀i h,tn i h->∀b∈fp,∃o,h.get? b=some o/\∀v,o.data≠.cell v
 keep:∀i h h',tn i h->(∀b∈fp,∀o,h.get? b=some o->h'.get? b=some o)->tn i h'
 item:∀(X:Cx),X.prog=P->X.w=w->X.K=K->X.calm=true->∀(i:Nat)(pins:List (Addr×Obj))(s:Shared)(Y:St)(H:Hp)(E:Value->Shared->Prop),Inv X pins Y H s->(∀b∈fp,n5 X pins H b)->tn i s.heap->J.go i H->
  zaj (zak P w) X.A (zbW (.ref it)) (λr s1=>∃u,r=some u /\
   zaj (zak P w) X.A (zbh tg (.ref it) u) (λ_ s2=>∃x H',Inv X pins Y H' s2/\RelV x u/\J.yld i H x H'/\tn (i+1) s2.heap/\∀b∈fp,H' b=none) E s1) E s
 done:∀(X:Cx),X.prog=P->X.w=w->X.K=K->X.calm=true->∀(i:Nat)(pins:List (Addr×Obj))(s:Shared)(Y:St)(H:Hp)(E:Value->Shared->Prop),Inv X pins Y H s->(∀b∈fp,n5 X pins H b)->tn i s.heap->J.stop i H->
  zaj (zak P w) X.A (zbW (.ref it)) (λr s1=>r=none/\Inv X pins Y H s1) E s
 self:∀(A:zan)(i:Nat)(s:Shared)(Q:Value->Shared->Prop)(E:Value->Shared->Prop),tn i s.heap->Q (.ref it) s->zaj (zak P w) A (zco (.ref it)) Q E s
abbrev TI:=St->Hp->(It->Hp->Prop)->Prop
def RI(X:Cx)(pins:List (Addr×Obj))(Y:St)(tg:Expr)(R:It->Hp->Prop)(A:Value)(s2:Shared):Prop:=
 ∃(it:Addr)(fp:List Addr)(tn:Nat->Heap->Prop)(J:It)(H':Hp),A=.ref it/\Inv X pins Y H' s2/\Turn X.prog X.w X.K tg J fp it tn/\tn 0 s2.heap/\(∀b∈fp,n5 X pins H' b)/\R J H'
def PI(X:Cx)(tg iter:Expr)(I:TI):Prop:=
 ∀(pins:List (Addr×Obj))(s:Shared)(Y:St)(H:Hp)(R:It->Hp->Prop),Inv X pins Y H s->I Y H R->
  zaj (zak X.prog X.w) X.A (eval iter X.env) (λv s1=>zaj (zak X.prog X.w) X.A (zco v) (RI X pins Y tg R) X.xe s1) X.xe s
theorem Bh{M:Model}{A:zan}{n:String}{vs:Array Value}(ho:s.heap.get? it=some o)(hc:o.cls=.type n)(hd:o.data=.fields vs)
    (hn:["enumerate", "zip", "dict_itemiterator", "dict_reverseitemiterator", "odict_iterator", "itertools.zip_longest", "itertools.pairwise"].contains n=false)(U:Q () s):zaj M A (zbh tg (.ref it) u) Q E s:=by
  unfold zbh;cases tg<;>first
    |exact zag U
    | (cases u<;>first
        |exact zag U
        | (refine zaf (zbX ho ?_)
           rw[hc,hd]
           show zaj M A (if (["enumerate", "zip", "dict_itemiterator", "dict_reverseitemiterator", "odict_iterator", "itertools.zip_longest", "itertools.pairwise"].contains n&&vs[0]?==some (zaL _))=true then _ else _) Q E s
           rw[zcv (by intro h;rw[hn,VH] at h;cases h)]
           exact zag U))
noncomputable def Ru(K:SD)(a:Addr):It:=
 ⟨λi H=>∃xs x,eI K H a xs/\xs[i]?=some x,λi H x H'=>H'=H/\∀xs,eI K H a xs->xs[i]?=some x,λi H=>∃xs,eI K H a xs/\xs.length<=i⟩
noncomputable def RE(K:SD)(a:Addr):It:=
 ⟨λi H=>∃xs x,eU K H a xs/\xs[i]?=some x,λi H x H'=>H'=H/\∀xs,eU K H a xs->xs[i]?=some x,λi H=>∃xs,eU K H a xs/\xs.length<=i⟩
noncomputable def P1(lo:Int)(n:Nat):It:=⟨λi _=>i<n,λi H x H'=>H'=H/\x=.int (lo+i),λi _=>n<=i⟩
variable{K:SD}
theorem yp{P:Program}(a it:Addr):Turn P w K tg (Ru K a) [it] it (λi h=>h.IsListIter it a i) where
 mem:=by simp
 obj:=λi h st b hb=>by
  have e:b=it:=by simpa using hb
  subst e;obtain⟨o,e,c,d⟩:=st;exact⟨o,e,λv z=>by rw[d] at z;cases z⟩
 keep:=λi h h' st k=>st.at λo e=>k it T1 o e
 item:=by intro X r t A hc i pins s Y H E I hf st J;subst r t A;obtain⟨xs,x,n,hx⟩:=J;obtain⟨B,C,p,hz⟩:=I.list n;obtain⟨u,f,S⟩:=C.get hx;obtain⟨D,F,T,G,L,R⟩:=hf it T1;refine wpAny_pyNext_list_item st p.isList (by simpa using f) λh' N V=>?_;have j:=I.turned (t':=s.toks) (λb o hb e=>(V.2 b hb).trans e) D F G L R;obtain⟨o,e,c,d⟩:=id N;exact⟨u,rfl,Bh e c d W1 ⟨x,H,j,S,⟨rfl,λys hy=>by rw[I.l7 hy n];exact hx⟩,N,λb hb=>(hf b hb).1⟩⟩
 done:=by intro X r t A hc i pins s Y H E I hf st J;subst r t A;obtain⟨xs,n,hx⟩:=J;obtain⟨B,C,p,hz⟩:=I.list n;obtain⟨D,F,T,G,L,R⟩:=hf it T1;have hl:=C.length;exact wpAny_pyNext_list_end (I.ok.hd hc) st p.isList (by simp;lia) λh' l=>⟨rfl,I.turned (λb o hb e=>l b o hb e) D F G L R⟩
 self:=λ_ _ _ _ _ st h=>wpAny_pyIter_listiter st h
theorem vy{P:Program}(a it:Addr):Turn P w K tg (RE K a) [it] it (λi h=>h.IsTupleIter it a i) where
 mem:=by simp
 obj:=λi h st b hb=>by
  have e:b=it:=by simpa using hb
  subst e;obtain⟨o,e,c,d⟩:=st;exact⟨o,e,λv z=>by rw[d] at z;cases z⟩
 keep:=λi h h' st k=>st.at λo e=>k it T1 o e
 item:=by intro X r t A hc i pins s Y H E I hf st J;subst r t A;obtain⟨xs,x,n,hx⟩:=J;obtain⟨B,C,p,hz⟩:=I.tuple n;obtain⟨u,f,S⟩:=C.get hx;obtain⟨D,F,T,G,L,R⟩:=hf it T1;refine wpAny_pyNext_tuple_item st (p) (by simpa using f) λh' N V=>?_;have j:=I.turned (t':=s.toks) (λb o hb e=>(V.2 b hb).trans e) D F G L R;obtain⟨o,e,c,d⟩:=id N;exact⟨u,rfl,Bh e c d W1 ⟨x,H,j,S,⟨rfl,λys hy=>by rw[I.oT hy n];exact hx⟩,N,λb hb=>(hf b hb).1⟩⟩
 done:=by intro X r t A hc i pins s Y H E I hf st J;subst r t A;obtain⟨xs,n,hx⟩:=J;obtain⟨B,C,p,hz⟩:=I.tuple n;obtain⟨D,F,T,G,L,R⟩:=hf it T1;have hl:=C.length;exact wpAny_pyNext_tuple_end (I.ok.hd hc) st (p) (by simp;lia) λh' l=>⟨rfl,I.turned (λb o hb e=>l b o hb e) D F G L R⟩
 self:=λ_ _ _ _ _ st h=>wpAny_pyIter_tupleiter st h
theorem uT{P:Program}(it:Addr)(lo:Int)(n:Nat):Turn P w K tg (P1 lo n) [it] it (λi h=>IsRangeIter h it (lo+(i:Nat)*1) ((n:Int)-(i:Nat)) 1) where
 mem:=by simp
 obj:=λi h st b hb=>by
  have e:b=it:=by simpa using hb
  subst e;exact⟨_,st,λv z=>by have x:=z;cases x⟩
 keep:=λi h h' st k=>k it T1 _ st
 item:=by intro X r c A hc i pins s Y H E I hf st J;subst r c A;obtain⟨D,F,T,G,L,R⟩:=hf it T1;have W:=Walks.range (prog:=X.prog) (w:=X.w) (I.ok.hd hc) it lo 1 n;refine W.item i s _ _ J st λv h' tk a N kk=>?_;obtain⟨t,rfl⟩:=a;have j:Inv X pins Y H { s with heap:=h',toks:=tk }:=I.turned (λb o hb e=>kk b o (by simpa using hb) e) D F G L R;refine⟨_,rfl,Bh N rfl rfl W1 ⟨.int (lo+i),H,j,⟨t,?_⟩,⟨rfl,rfl⟩,N,λb hb=>(hf b hb).1⟩⟩;rw[Int.mul_one]
 done:=by intro X r c A hc i pins s Y H E I hf st J;obtain⟨D,F,T,G,L,R⟩:=hf it T1;exact wpAny_pyNext_range_end (I.ok.hd hc) st (by have:n<=i:=J;lia) λh' l=>⟨rfl,I.turned (λb o hb e=>l b o hb e) D F G L R⟩
 self:=λ_ _ _ _ _ st h=>wpAny_pyIter_rangeiter st h
variable{fp:List Addr}
section
variable{X:Cx}{tg:Expr}
theorem BE{Y:St}{R:It->Hp->Prop}{lo hi:Int}{t u v:Tok}{tk:Nat}(I:Inv X pins Y H s)(h1:-(2^62)<=lo)(h2:lo<2^62)(h3:-(2^62)<=hi)(h4:hi<2^62)
  (q:R (P1 lo (hi-lo).toNat) H):zaj (zak X.prog X.w) X.A (zco (.ref s.heap.objs.size)) (RI X pins Y tg R) E { s with heap:=s.heap.push { cls:=.type "range",data:=.fields #[.int lo t,.int hi u,.int 1 v] },toks:=tk }:=by
 refine wpAny_pyIter_range (IsRange.new ..) (small_one h1 h2 h3 h4) ?_;have j:Inv X pins Y H { s with heap:=s.heap.push { cls:=.type "range",data:=.fields #[.int lo t,.int hi u,.int 1 v] },toks:=tk }:=I.kept λb o e=>SI _ e;refine⟨(s.heap.push { cls:=.type "range",data:=.fields #[.int lo t,.int hi u,.int 1 v] }).objs.size,[(s.heap.push { cls:=.type "range",data:=.fields #[.int lo t,.int hi u,.int 1 v] }).objs.size],_,_,H,rfl,
  j.kept (t':=tk) λb o e=>SI _ e,uT _ lo (hi-lo).toNat,?_,λb hb=>?_,q⟩
 .have D:lo+((0:Nat):Int)*1=lo:=by simp
  have l:(((hi-lo).toNat:Nat):Int)-((0:Nat):Int)=Zu lo hi 1:=by rw[rangeSize_one];split<;>lia
  show IsRangeIter _ _ (lo+((0:Nat):Int)*1) ((((hi-lo).toNat:Nat):Int)-((0:Nat):Int)) 1;rw[D,l];exact S6 _ rfl
 .have e:b=(s.heap.push { cls:=.type "range",data:=.fields #[.int lo t,.int hi u,.int 1 v] }).objs.size:=by simpa using hb
  subst e;exact j.y0 (SO _) (j.hok.fresh (SO _))
def OS(ta:TA):TI:=λY H R=>ta Y H λvs X=>∃j:Int,vs=[.int j] /\ -(2^62)<=j/\j<2^62/\R (P1 0 j.toNat) X
theorem zc{a:Expr}{ta:TA}{p:Pos}(hg:Gl X "range")(hm:X.mg "range" = none)(ha:PA X [a] ta)(hs:zai [a] X.env=[(false,eval a X.env)]:=by rfl):PI X tg (.Call (.Name "range" p) [a] [] pos) (OS ta):=by
 intro pins s Y H R I h;refine Call_ (iS I hg hm boot_range (UT (bG (ha pos pins s Y H _ I h) λus s1 ⟨vs,H1,I1,r1,q1⟩=>?_) hs rfl));obtain⟨j,e,q1,q2,q⟩:=q1;subst e;cases r1 with
 |cons r rr=>cases rr;obtain⟨t,rfl⟩:=r;exact call_range_1 (BE I1 W1 W1 q1 q2 (by simpa using q))
def Rh(I:TI)(g:TG)(tb:TS):TS:=λD Y H=>I Y H λJ X=>∃W:Nat->Nat->St->Hp->Prop,(∃m,W 0 m Y X)/\∀i m Y H,W i m Y H->
 (J.stop i H/\D.nx Y H)\/(J.go i H/\∃N:St->Hp->Prop,(∀Y' H',N Y' H'->∃Q,Q<m/\W (i+1) Q Y' H')/\∀x H',J.yld i H x H'->g x Y H' λP V=>tb { D with nx:=N,ct:=N,bk:=D.nx } P V)
noncomputable def l4(fp:List Addr)(h:Heap):List (Addr×Obj):=fp.filterMap λb=>(h.get? b).map λo=>(b,o)
theorem gn{b:Addr}(hb:b∈fp)(e:h.get? b=some o):(b,o)∈l4 fp h:=Wt.mpr ⟨b,hb,by rw[e];rfl⟩
theorem yK{p:Addr×Obj}(hp:p∈l4 fp h):p.1∈fp/\h.get? p.1=some p.2:=by
 obtain⟨b,hb,e⟩:=Wt.mp hp;cases q:h.get? b with
 |none=>rw[q] at e;cases e
 |some o=>rw[q] at e;have k:=Ta e;subst k;exact⟨hb,q⟩
theorem Inv.pinned{Y:St}(I:Inv X pins Y H s)(hf:∀b∈fp,n5 X pins H b)(ho:∀b∈fp,∃o,s.heap.get? b=some o/\∀v,o.data≠.cell v):Inv X (pins++l4 fp s.heap) Y H s:=
 I.pX λp hp=>(SY.mp hp).elim (λz=>I.pin p (SJ _ z)) λz=>by obtain⟨hb,e⟩:=yK z;obtain⟨D,F,T,_⟩:=hf p.1 hb;obtain⟨o,k,d⟩:=ho p.1 hb;rw[e] at k;cases k;exact⟨e,D,F,T,d⟩
theorem Inv.dC{pl:List (Addr×Obj)}{Y:St}(I:Inv X (pins++pl) Y H s):Inv X pins Y H s:=I.pX λp hp=>I.pin p (SJ _ (S7 _ hp))
theorem u7{iter:Expr}{wi:TI}{g:TG}(hp:zbi (zak X.prog X.w) X.A X.env X.xe)(hc:X.calm=true)(hi:PI X tg iter wi)(hg:PG X tg g)(hb:nU X body tb)
  (hs:∀x,zax iter X.env x=pure x:=by intro _;rfl):PS X (.For tg iter body [] pos) (Rh wi g tb):=by
 intro pins s Y H D I h;refine wpAny_For (bG (hi pins s Y H _ I h) λv s1 h1=>bG h1 λitv s2 h2=>?_) hs;obtain⟨it,fp,tn,J,H2,e,I2,T,st2,f2,W,⟨m0,w0⟩,turn⟩:=h2;subst e;have stat:∀{H':Hp},(∀b∈fp,H' b=none)->∀b∈fp,n5 X pins H' b:=λhn b hb=>⟨hn b hb,(f2 b hb).2⟩
 refine codeAny_forLoop_any (λn s'=>∃i Y' H',Inv X pins Y' H' s'/\tn i s'.heap/\(∀b∈fp,H' b=none)/\W i n Y' H') ?_ m0 ⟨0,Y,H2,I2,st2,λb hb=>(f2 b hb).1,w0⟩;rintro n s3 ⟨i,V,H3,I3,st3,fr3,w3⟩;rcases turn i n V H3 w3 with ⟨stop,qn⟩|⟨go,N,hN,step⟩
 .refine zaO hp (bG (T.done X rfl rfl rfl hc i pins s3 V H3 X.xe I3 (stat fr3) st3 stop) λr s4 ⟨hr,I4⟩=>?_);subst hr;exact zbg ⟨V,H3,I4,qn⟩
 .refine zaO hp (bG (T.item X rfl rfl rfl hc i pins s3 V H3 X.xe I3 (stat fr3) st3 go) λr s4 ⟨u,hr,h4⟩=>?_);subst hr;refine zaO hp (bG h4 λ_ s5 ⟨x,H5,I5,r5,y5,st5,fr5⟩=>?_);have I5':=I5.pinned (stat fr5) (T.obj _ _ st5);refine zaO hp (bG (hg _ s5 V H5 x u _ I5' r5 (step x H5 y5)) λ_ s6 ⟨σ6,H6,I6,q6⟩=>?_);refine zaO hp (bG (hb _ s6 σ6 H6 _ I6 q6) λf s7 q7=>?_);have again:∀{Z:St}{H7:Hp},Inv X (pins++l4 fp s5.heap) Z H7 s7->N Z H7->∃m,m<n/\∃i Y' H',Inv X pins Y' H' s7/\tn i s7.heap/\(∀b∈fp,H' b=none)/\W i m Y' H':=λ{Z H7} I7 n7=>by obtain⟨m',hm,w7⟩:=hN Z H7 n7;refine⟨m',hm,i+1,Z,H7,I7.dC,T.keep _ _ _ st5 λb hb o e=>(I7.pin (b,o) (SJ _ (SJ _ (gn hb e)))).1,λb hb=>?_,w7⟩;obtain⟨o,e,d⟩:=T.obj _ _ st5 b hb;exact(I7.pin (b,o) (SJ _ (SJ _ (gn hb e)))).2.1
  cases f with
  |next=>obtain⟨Z,H7,I7,n7⟩:=q7;exact again I7 n7
  |cont=>obtain⟨Z,H7,I7,n7⟩:=q7;exact again I7 n7
  |brk=>obtain⟨Z,H7,I7,q7⟩:=q7;exact⟨Z,H7,I7.dC,q7⟩
  |ret v=>obtain⟨x7,Z,H7,I7,r7,q7⟩:=q7;exact⟨x7,Z,H7,I7.dC,r7,q7⟩
end
abbrev R2:=V->V->Hp->VK->Prop
def eG(X:Cx)(f:Value->Value->Sem Value)(r:R2):Prop:=
 ∀(pins:List (Addr×Obj))(s:Shared)(Y:St)(H:Hp)(x y:V)(v u:Value)(Q:VK),Inv X pins Y H s->RelV x v->RelV y u->r x y H Q->
  zaj (zak X.prog X.w) X.A (f v u) (EP X pins Y Q) X.xe s
def Qw(X:Cx)(f:Value->Sem Value)(r:V->Hp->VK->Prop):Prop:=
 ∀(pins:List (Addr×Obj))(s:Shared)(Y:St)(H:Hp)(x:V)(v:Value)(Q:VK),Inv X pins Y H s->RelV x v->r x H Q->
  zaj (zak X.prog X.w) X.A (f v) (EP X pins Y Q) X.xe s
def bX(X:Cx)(f:Value)(r:List V->Hp->VK->Prop):Prop:=
 ∀(pins:List (Addr×Obj))(s:Shared)(Y:St)(H:Hp)(xs:List V)(us:List Value)(Q:VK),Inv X pins Y H s->Vals xs us->r xs H Q->
  zaj (zak X.prog X.w) X.A (call f us) (EP X pins Y Q) X.xe s
noncomputable def Om(r:R2)(ta tb:TE):TE:=λY H Q=>ta Y H λx X=>tb Y X λy V=>r x y V Q
noncomputable def R1(r:V->Hp->VK->Prop)(ta:TE):TE:=λY H Q=>ta Y H λx X=>r x X Q
noncomputable def rI(C:Int->Int->Prop)(g:Int->Int->V):R2:=λx y H Q=>∃i j,x=.int i/\y=.int j/\C i j/\Q (g i j) H
noncomputable def D3(g:Int->Int->V):R2:=λx y H Q=>∃i j,x=.int i/\y=.int j/\Q (g i j) H
def rU(g:Int->V):V->Hp->VK->Prop:=λx H Q=>∃i,x=.int i/\Q (g i) H
variable{f:Value->Value->Sem Value}{r:R2}
section
variable{X:Cx}{a b c:Expr}{ta tb tc:TE}{pos:Pos}
theorem IF(d:PE X a ta)(hb:PE X b tb){Y:St}(I:Inv X pins Y H s)
  (h:ta Y H λx c=>tb Y c λy V=>R x y V){Q:Value->Shared->Prop}
  (hf:∀v u s2 x y V,Inv X pins Y V s2->RelV x v->RelV y u->R x y V->zaj (zak X.prog X.w) X.A (f v u) Q X.xe s2):
  zaj (zak X.prog X.w) X.A (eval a X.env) (λv Z=>zaj (zak X.prog X.w) X.A (eval b X.env) (λu U=>zaj (zak X.prog X.w) X.A (f v u) Q X.xe U) X.xe Z) X.xe s:=by
 refine bG (d pins s Y H _ I h) λv s1 ⟨x,c,e,g,i⟩=>?_;refine bG (hb pins s1 Y c _ e i) λu s2 ⟨y,V,j,k,E⟩=>?_;exact hf v u s2 x y V j g k E
theorem O2{op:zcp}(ho:eG X (za3 op) r)(d:PE X a ta)(hb:PE X b tb):PE X (.BinOp a op b pos) (Om r ta tb):=by intro pins s Y H Q I h;exact wpAny_BinOp (IF d hb I h λv u s2 x y V j o w q=>ho pins s2 Y V x y v u Q j o w q)
theorem O7{op:UnaryOp}{r:V->Hp->VK->Prop}(ho:Qw X (unaryOp op) r)(d:PE X a ta):PE X (.UnaryOp op a pos) (R1 r ta):=by intro pins s Y H Q I h;exact UnaryOp_ (bG (d pins s Y H _ I h) λv s1 ⟨x,f,e,g,i⟩=>ho pins s1 Y f x v Q e g i)
theorem nN{C:Int->Int->Prop}{g:Int->Int->Int}
  (rule:∀(i j:Int)(t u:Tok)(s:Shared)(Q:Value->Shared->Prop)(E:Value->Shared->Prop),C i j->Q (.int (g i j) s.toks) { s with toks:=s.toks+1 }->zaj (zak X.prog X.w) X.A (f (.int i t) (.int j u)) Q E s):
  eG X f (rI C λi j=>.int (g i j)):=by
 intro pins s Y H x y v u Q I o K h;obtain⟨i,j,rfl,rfl,hc,q⟩:=h;obtain⟨t,rfl⟩:=o;obtain⟨t',rfl⟩:=K;exact rule i j t t' s _ _ hc ⟨.int (g i j),H,I.tok _,⟨_,rfl⟩,q⟩
theorem OL{g:Int->Int->Int}
  (rule:∀(i j:Int)(t u:Tok)(s:Shared)(Q:Value->Shared->Prop)(E:Value->Shared->Prop),Q (.int (g i j) s.toks) { s with toks:=s.toks+1 }->zaj (zak X.prog X.w) X.A (f (.int i t) (.int j u)) Q E s):
  eG X f (D3 λi j=>.int (g i j)):=by
 intro pins s Y H x y v u Q I o K h;obtain⟨i,j,rfl,rfl,q⟩:=h;obtain⟨t,rfl⟩:=o;obtain⟨t',rfl⟩:=K;exact rule i j t t' s _ _ ⟨.int (g i j),H,I.tok _,⟨_,rfl⟩,q⟩
theorem NA{g:Int->Int->Bool}
  (rule:∀(i j:Int)(t u:Tok)(s:Shared)(Q:Value->Shared->Prop)(E:Value->Shared->Prop),Q (.bool (g i j)) s->zaj (zak X.prog X.w) X.A (f (.int i t) (.int j u)) Q E s):
  eG X f (D3 λi j=>.bl (g i j)):=by
 intro pins s Y H x y v u Q I o K h;obtain⟨i,j,rfl,rfl,q⟩:=h;obtain⟨t,rfl⟩:=o;obtain⟨t',rfl⟩:=K;exact rule i j t t' s _ _ ⟨.bl (g i j),H,I,rfl,q⟩
def Ol(i j:Int):Prop:=0<=j/\j<=1000000/\i.natAbs<2^64
theorem LM:eG X (za3 .Add) (D3 λi j=>.int (i+j)):=OL λ_ _ _ _ _ _ _ q=>add_int q
theorem JX:eG X (za3 .Sub) (D3 λi j=>.int (i-j)):=OL λ_ _ _ _ _ _ _ q=>sub_int q
theorem Ee:eG X (za3 .Mod) (rI (λ_ j=>j≠0) λi j=>.int (i.fmod j)):=nN λ_ _ _ _ _ _ _ hc q=>mod_int' hc q
theorem Jv:eG X (za3 .Pow) (rI Ol λi j=>.int (i^j.toNat)):=nN λ_ _ _ _ _ _ _ hc q=>pow_int_small hc.1 hc.2.1 hc.2.2 q
theorem RS{f:Value->Sem Value}{g:Int->Int}
  (rule:∀(i:Int)(t:Tok)(s:Shared)(Q:Value->Shared->Prop)(E:Value->Shared->Prop),Q (.int (g i) s.toks) { s with toks:=s.toks+1 }->zaj (zak X.prog X.w) X.A (f (.int i t)) Q E s):
  Qw X f (rU λi=>.int (g i)):=by
 intro pins s Y H x v Q I o h;obtain⟨i,rfl,q⟩:=h;obtain⟨t,rfl⟩:=o;exact rule i t s _ _ ⟨.int (g i),H,I.tok _,⟨_,rfl⟩,q⟩
theorem LF:Qw X (unaryOp .USub) (rU λi=>.int (-i)):=RS λ_ _ _ _ _ q=>neg_int q
end
variable{us:List Value}
section
variable{X:Cx}{a b c:Expr}{ta tb tc:TE}{pos:Pos}
theorem AF{Y:St}{Q:VK}{k k':Bool}(I:Inv X pins Y H s)(q:Q (.bl k) H)(e:k=k'):EP X pins Y Q (.bool k') s:=by subst e;exact⟨.bl k,H,I,rfl,q⟩
theorem Hb:eG X (zaz .Lt) (D3 λi j=>.bl (decide (i<j))):=NA λ_ _ _ _ _ _ _ q=>lt_int q
theorem Ht:eG X (zaz .GtE) (D3 λi j=>.bl (decide (j<=i))):=NA λ_ _ _ _ _ _ _ q=>ge_int q
theorem CK:eG X (zaz .Is) (λx y H Q=>y=.non/\Q (.bl (decide (x=.non))) H):=by
 intro pins s Y H x y v u Q I o K h;obtain⟨rfl,q⟩:=h;cases K;refine is_none_gen (AF I q ?_);cases x<;>first
  |(cases o;rfl)
  |(obtain⟨t,rfl⟩:=o;rfl)
theorem iV:eG X (zaz .NotIn) (λx y H Q=>∃i j,x=.str i/\y=.str j/\Q (.bl (!(!(VF j i 0 j.length 1).isEmpty))) H):=by intro pins s Y H x y v u Q I o K h;obtain⟨i,j,rfl,rfl,q⟩:=h;obtain⟨t,rfl⟩:=o;obtain⟨t',rfl⟩:=K;exact notIn_str (AF I q rfl)
theorem cU(b:Expr)(h:op≠.In:=by decide)(h2:op≠.NotIn:=by decide):zat op b=false:=by
 have e1:(op==zbq.In)=false:=by cases op<;>first|rfl|exact absurd rfl h
 have e2:(op==zbq.NotIn)=false:=by cases op<;>first|rfl|exact absurd rfl h2
 cases b<;>simp[zat,e1,e2]
theorem Eb(ho:eG X (zaz op) r)(d:PE X a ta)(hb:PE X b tb)(T:zat op b=false):PE X (.Compare a [op] [b] pos) (Om r ta tb):=by intro pins s Y H Q I h;exact wpAny_Compare1 (IF d hb I h λv u s2 x y V j o K q=>ho pins s2 Y V x y v u Q j o K q) T
noncomputable def Ou(t:TE):TT:=λY H Q=>t Y H λx H'=>∃k,x=.bl k/\Q k H'
theorem D7(ho:eG X (zaz op) r)(d:PE X a ta)(hb:PE X b tb)(T:zat op b=false):PT X (.Compare a [op] [b] pos) (Ou (Om r ta tb)):=by
 intro pins s Y H Q I h;refine zbJ (bG (d pins s Y H _ I h) λv s1 ⟨x,f,j,g,i⟩=>bG (hb pins s1 Y f _ j i) λu s2 ⟨y,V,m,p,E⟩=>bG (ho pins s2 Y V x y v u _ m g p E) λc O ⟨z,q,G,w,k,e,F⟩=>?_) T
 subst e;cases w;exact zaP ⟨q,G,F⟩
theorem qD:(sizeLine:Nat)<2^63:=by rw[zav];decide
theorem vB:eG X (za3 .Add) (λx y H Q=>∃i j,x=.str i/\y=.str j/\i.length+j.length<=sizeLine/\Q (.str (i++j)) H):=by intro pins s Y H x y v u Q I o K h;obtain⟨i,j,rfl,rfl,hz,q⟩:=h;obtain⟨t,rfl⟩:=o;obtain⟨t',rfl⟩:=K;exact add_str (λt' tk=>⟨.str (i++j),H,I.tok _,⟨_,rfl⟩,q⟩) hz
theorem vals1{x:V}(r:Vals [x] us):∃u,us=[u]/\RelV x u:=by
 cases r with
 |cons g k=>cases k;exact⟨_,rfl,g⟩
theorem vals2{x y:V}(r:Vals [x,y] us):∃u Y,us=[u,Y]/\RelV x u/\RelV y Y:=by
 cases r with
 |cons g k=>
  cases k with
  |cons w H=>cases H;exact⟨_,_,rfl,g,w⟩
theorem BG:bX X (.builtin "abs") (λxs H Q=>∃i,xs=[.int i]/\Q (.int (if i<0 then -i else i)) H):=by intro pins s Y H xs us Q I r h;obtain⟨i,rfl,q⟩:=h;obtain⟨u,rfl,t,rfl⟩:=vals1 r;exact call_abs_int λu tk=>⟨.int (if i<0 then -i else i),H,I.tok _,⟨_,rfl⟩,q⟩
theorem yQ(hc:X.calm=true):bX X (.builtin "max") (λxs H Q=>∃i j,xs=[.int i,.int j]/\Q (.int (if j > i then j else i)) H):=by
 intro pins s Y H xs us Q I r h;obtain⟨i,j,rfl,q⟩:=h;obtain⟨u,y,rfl,⟨t,rfl⟩,⟨t',rfl⟩⟩:=vals2 r;refine max_two_ints (I.ok.hd hc) λh' tk k=>⟨_,H,I.kept k,?_,q⟩
 by_cases x:j > i
 .rw[zcu x,zcu x];exact⟨_,rfl⟩
 .rw[zcv x,zcv x];exact⟨_,rfl⟩
theorem yJ(hc:X.calm=true):bX X (.builtin "min") (λxs H Q=>∃i j,xs=[.int i,.int j]/\Q (.int (if j<i then j else i)) H):=by
 intro pins s Y H xs us Q I r h;obtain⟨i,j,rfl,q⟩:=h;obtain⟨u,y,rfl,⟨t,rfl⟩,⟨t',rfl⟩⟩:=vals2 r;refine min_two_ints (I.ok.hd hc) λh' tk k=>⟨_,H,I.kept k,?_,q⟩
 by_cases x:j<i
 .rw[zcu x,zcu x];exact⟨_,rfl⟩
 .rw[zcv x,zcv x];exact⟨_,rfl⟩
theorem yd:bX X (.type "int") (λxs H Q=>(∃i,xs=[.int i]/\Q (.int i) H)\/∃k,xs=[.bl k]/\Q (.int (if k then 1 else 0)) H):=by
 intro pins s Y H xs us Q I r h;rcases h with ⟨i,rfl,q⟩|⟨k,rfl,q⟩
 .obtain⟨u,rfl,t,rfl⟩:=vals1 r;exact call_int_int ⟨.int i,H,I,⟨_,rfl⟩,q⟩
 .obtain⟨u,rfl,g⟩:=vals1 r;cases g;exact call_int_bool ⟨.int (if k then 1 else 0),H,I.tok _,⟨_,rfl⟩,q⟩
def Oe(K:SD)(x:V)(H:Hp)(n:Nat):Prop:=
 match x with
 | .str y=>y.length<=sizeLine/\n=y.length
 | .byt y=>y.size<=sizeLine/\n=y.size
 | .ref p=>(∃xs,eI K H p xs/\n=xs.length)\/∃xs,eU K H p xs/\n=xs.length
 |_=>False
theorem Cz:bX X (.builtin "len") (λxs H Q=>∃x n,xs=[x]/\Oe X.K x H n/\Q (.int n) H):=by
 intro pins s Y H xs us Q I r h;obtain⟨x,n,rfl,e,q⟩:=h;obtain⟨u,rfl,o⟩:=vals1 r;have hs:=zav;cases x with
 |str y=>obtain⟨t,rfl⟩:=o;obtain⟨hy,k⟩:y.length<=sizeLine/\n=y.length:=e;subst k;exact len_str XV ⟨.int _,H,I.tok _,⟨_,rfl⟩,q⟩
 |byt y=>obtain⟨t,rfl⟩:=o;obtain⟨hy,k⟩:y.size<=sizeLine/\n=y.size:=e;subst k;exact PySem.W.len_bytes T6 ⟨.int _,H,I.tok _,⟨_,rfl⟩,q⟩
 |ref p=>
  cases o;have k:=e;rcases k with ⟨xs,hx,k⟩|⟨xs,hx,k⟩
  .subst k;obtain⟨b,P,pl,hz⟩:=I.list hx;have z:=P.length;exact Calls.call_len_list pl.isList (by rw[SM];lia) ⟨.int xs.length,H,I.tok _,⟨_,by rw[SM];rw[z]⟩,q⟩
  .subst k;obtain⟨b,P,pl,hz⟩:=I.tuple hx;have z:=P.length;exact len_tuple pl (by rw[SM];lia) ⟨.int xs.length,H,I.tok _,⟨_,by rw[SM];rw[z]⟩,q⟩
 |_=>exact(e).elim
end
theorem jv.some_of{o:Option Value}(r:jv (some v) o):∃u,o=some u/\RelV v u:=by
 cases o with
 |none=>exact(r).elim
 |some u=>exact⟨u,rfl,r⟩
theorem jv.none_of{o:Option Value}(r:jv none o):o=none:=by
 cases o with
 |none=>rfl
 |some u=>exact(r).elim
section
variable{P:Program}{w:zam}{H H':Hp}{h h':Heap}{a C dx:Addr}{fs fs':List (Str×V)}
end
structure MR(K:SD)(C:Addr):Prop where
 pg:Wu K C Str.empty=true
 hd:X1 K C=true
 po:X4 K C=true
 sa:U2 K (.ref C) "__setattr__" = some (some (.builtin "object.__setattr__"))
theorem MR.get{C:Addr}(c:MR K C)(f:Str):Wu K C f=true:=c.pg
def Lz(K:SD)(C:Addr)(f:Str):Prop:=U2 K (.ref C) f=some none
structure Meth(K:SD)(C:Addr)(m:Str)(f:Addr):Prop where
 at_:U2 K (.ref C) m=some (some (.ref f))
 fn:Xc K (.ref f)=true
 kp:UA K (.ref f)=true
section
variable{X:Cx}{pins:List (Addr×Obj)}{Y:St}{H:Hp}{s:Shared}{A:zan}{E:Value->Shared->Prop}{Q:Value->Shared->Prop}{c:Value}{b:Bool}
inductive AK(K:SD)(H:Hp):V->Value->Prop where
 |non:AK K H .non (.type "NoneType")
 |bl(x:Bool):AK K H (.bl x) (.type "bool")
 |int(i:Int):AK K H (.int i) (.type "int")
 |str(x:Str):AK K H (.str x) (.type "str")
end
structure eJ(k:Nat)(A:zan):Prop where
 hd:A.handled=none
 dp:A.depth+3*k+5<recursionLimit
 un:A.units+16*k+200<cLine
theorem eJ.mono{k:Nat}{A:zan}(r:eJ k A)(h:j<=k):eJ j A:=⟨r.hd,by have:=r.dp;lia,by have:=r.un;lia⟩
theorem eJ.deeper{k:Nat}{A:zan}(r:eJ (k+1) A)(env:Env):eJ k (A.deeper env):=
 ⟨r.hd,by have:=r.dp;show A.depth+1+3*k+5<_;lia,by have:=r.un;show A.units+3+16*k+200<_;lia⟩
theorem eJ.depth{k:Nat}{A:zan}(r:eJ k A):A.depth<recursionLimit:=by have:=r.dp;lia
theorem eJ.units{k:Nat}{A:zan}(r:eJ k A):A.units+64<cLine:=by have:=r.un;lia
noncomputable def NC:TA:=λ_ H Q=>Q [] H
noncomputable def HI(ta:TE)(tr:TA):TA:=λY H Q=>ta Y H λx X=>tr Y X λxs V=>Q (x::xs) V
section
variable{X:Cx}{e:Expr}{es:List Expr}{te:TE}{t:TA}{pos:Pos}
theorem cN:PA X [] NC:=λ_ _ _ _ H Q I h=>Yq ⟨[],H,I,.nil,h⟩
theorem bE(ha:PE X e te)(hr:PA X es t)(hs:zai (e::es) X.env=(false,eval e X.env)::zai es X.env:=by rfl):PA X (e::es) (HI te t):=by intro pos pins s Y H Q I h;rw[hs];refine Yh (bG (ha pins s Y H _ I h) λu s1 ⟨x,H1,I1,r1,q1⟩=>?_);exact bG (hr pos pins s1 Y H1 _ I1 q1) λus s2 ⟨xs,H2,I2,r2,q2⟩=>⟨x::xs,H2,I2,.cons r1 r2,q2⟩
def QH(t:TA):TE:=λY H Q=>t Y H λxs X=>xs.length<=sizeLine/\∀p,X p=none->Q (.ref p) (upd X p (.tup xs))
def Ri(t:TA):TE:=λY H Q=>t Y H λxs X=>xs.length<=sizeLine/\∀p,X p=none->Q (.ref p) (upd X p (.lst xs))
theorem LA{x1}(h:PA X es t):PE X (.Tuple es x1 pos) (QH t):=by intro pins s Y H Q I n;refine wpAny_Tuple_spliced (bG (h pos pins s Y H _ I n) λus s1 ⟨xs,f,j,r,z,q⟩=>⟨by rw[<-r.length];exact z,?_⟩);have hf:=j.hok.fresh (SO _);refine⟨.ref s1.heap.objs.size,upd f s1.heap.objs.size (.tup xs),j.laid (λb u e=>SI _ e) (SO _) ?_,rfl,q _ hf⟩;exact⟨z,us,r,⟨_,S6 _ rfl,rfl,_,rfl,rfl⟩⟩
theorem LW(h:PA X es t):PE X (.List es pos) (Ri t):=by intro pins s Y H Q I n;refine wpAny_List_spliced (bG (h pos pins s Y H _ I n) λus s1 ⟨xs,f,j,r,z,q⟩=>⟨by rw[<-r.length];exact z,?_⟩);have hf:=j.hok.fresh (SO _);refine⟨.ref s1.heap.objs.size,upd f s1.heap.objs.size (.lst xs),j.laid (λb u e=>SI _ e) (SO _) ?_,rfl,q _ hf⟩;exact⟨z,us,0,r,S6 _ rfl⟩
end
abbrev Sp:=List V->Hp->VK->XK->Prop
abbrev tL:=List Env->Hp->Shared->XK->Value->Shared->Prop
structure EZ(P:Program)(w:zam)(K:SD)(mg:Str->Option Value)(base:Heap)(A:zan)(outer:List Env)(s:Shared)(H:Hp):Prop where
 frames:A.frames=some outer
 mod:Mod K mg base
 bs:∀b o,base.get? b=some o->s.heap.get? b=some o/\H b=none
 bsz:base.objs.size<=s.heap.objs.size
 qJ:s.heap.FunFrames base outer
 frf:∀b∈lp outer,H b=none
 hok:je P w H s.heap
 bare:zbp s.gens
def CE(outer:List Env)(P:Program)(w:zam)(H:Hp)(s:Shared)(Q:VK)(u:Value)(s':Shared):Prop:=
 ∃v H',s'.os=s.os/\zbp s'.gens/\Un (lp outer) [] H H' s.heap s'.heap/\je P w H' s'.heap/\RelV v u/\Q v H'
def CR(CX:tL)(outer:List Env)(P:Program)(w:zam)(H:Hp)(s:Shared)(Q:VK)(E:XK)(r:zcd)(s':Shared):Prop:=
 match r with
 | .ok (.ret u)=>CE outer P w H s Q u s'
 | .ok _=>False
 | .error e=>CX outer H s E e s'
structure fE(P:Program)(w:zam)(K:SD)(mg:Str->Option Value)(base:Heap)(CX:tL)(k:Nat)(f:Addr)(fd:zaB)(ps:List Str)(sp:Sp):Prop where
 len:∀vs H Q E,sp vs H Q E->vs.length=ps.length
 run:∀(A:zan)(outer:List Env)(s:Shared)(H:Hp)(args:Args)(us:List Value)(vs:List V)(Q:VK)(E:XK),eJ k A->EZ P w K mg base A outer s H->zbz s fd args (ps.zip us)->Vals vs us->sp vs H Q E->
  zbc (zak P w) A (.call (.ref f) args) (CR CX outer P w H s Q E) s
theorem fE.mono{P:Program}{w:zam}{K:SD}{mg:Str->Option Value}{base:Heap}{CX:tL}{j k:Nat}{f:Addr}{fd:zaB}{ps:List Str}{sp:Sp}(F:fE P w K mg base CX j f fd ps sp)(h:j<=k):
  fE P w K mg base CX k f fd ps sp:=⟨F.len,λA outer s H args us vs Q E Y=>F.run A outer s H args us vs Q E (Y.mono h)⟩
variable{mg:Str->Option Value}{base:Heap}{CX:tL}{fd:zaB}{ps:List Str}
theorem fE.imp{P:Program}{k:Nat}{f:Addr}{sp Y:Sp}(F:fE P w K mg base CX k f fd ps sp)
  (h:∀vs H Q E,Y vs H Q E->sp vs H Q E):fE P w K mg base CX k f fd ps Y:=
 ⟨λvs H Q E q=>F.len vs H Q E (h _ _ _ _ q),λA outer s H args us vs Q E u he hb a hs=>F.run A outer s H args us vs Q E u he hb a (h _ _ _ _ hs)⟩
section
variable{X:Cx}{pins:List (Addr×Obj)}{Y:St}{H:Hp}{s s':Shared}
theorem Inv.Rc(I:Inv X pins Y H s):EZ X.prog X.w X.K X.mg X.base X.A X.stack s H:=
 ⟨I.ok.frames,I.ok.mod,I.bs,Tn I.ok.bsz I.sz,I.stack,I.xD,I.hok,I.bare⟩
theorem Inv.after{Q:VK}(I:Inv X pins Y H s)(h:CE X.stack X.prog X.w H s Q u s'):EP X pins Y Q u s':=by obtain⟨v,H',os,bare,un,hok,r,q⟩:=h;obtain⟨c,g,d,t,U⟩:=s';obtain rfl:U=s.os:=os;exact⟨v,H',I.call (h':=c) (g':=g) (d':=d) (t':=t) (ch:=[]) un hok bare (λb z=>absurd z T1),r,q⟩
end
noncomputable def OQ(sp:Sp)(dvs:List V)(E:XK)(t:TA):TE:=λY H Q=>t Y H λvs X=>sp (vs++dvs) X Q E
def Binds(K:SD)(fd:zaB)(ps:List Str)(ds:List Value):Prop:=
 ∀(s:Shared)(us:List Value),K.In s.heap->(us++ds).length=ps.length->zbz s fd ⟨us,[]⟩ (ps.zip (us++ds))
theorem Binds.all(h:∀us:List Value,us.length=ps.length->bindArgs fd ⟨us,[]⟩=pure (ps.zip us)):Binds K fd ps []:=λs us _ hl=>by rw[Ug] at hl ⊢;exact .of_eq (h us hl)
def Passes(CX:tL)(X:Cx)(E:XK):Prop:=∀(pins:List (Addr×Obj))(Y:St)(H:Hp)(s:Shared)(e:Value)(s':Shared),Inv X pins Y H s->CX X.stack H s E e s'->X.xe e s'
variable{vs:List V}
section
variable{X:Cx}{CX:tL}{k:Nat}{f C:Addr}{fd:zaB}{ps:List Str}{sp:Sp}{dvs:List V}{ds:List Value}{E:XK}{x m:Str}{p pos apos:Pos}{e o:Expr}{es:List Expr}{ta:TE}{t:TA}
theorem LD{Y:St}{Q:VK}(F:fE X.prog X.w X.K X.mg X.base CX k f fd ps sp)(m:eJ k X.A)(hb:Binds X.K fd ps ds)(hd:Vals dvs ds)(hx:Passes CX X E)
  (I:Inv X pins Y H s)(r:Vals vs us)(h:sp (vs++dvs) H Q E):zaj (zak X.prog X.w) X.A (call (.ref f) us) (EP X pins Y Q) X.xe s:=by
 have p:Vals (vs++dvs) (us++ds):=r.append hd;have hl:(us++ds).length=ps.length:=by rw[<-p.length];exact F.len _ _ _ _ h
 refine wpAny_call (zaS (F.run X.A X.stack s H ⟨us,[]⟩ (us++ds) (vs++dvs) Q E m I.Rc (hb s us I.HY hl) p h) λr s' n=>?_);cases r with
 |error e=>exact hx pins Y H s e s' I n
 |ok fl=>
  cases fl with
  |ret u=>exact I.after n
  |next=>exact Vj n
  |brk=>exact Vj n
  |cont=>exact Vj n
theorem wW(F:fE X.prog X.w X.K X.mg X.base CX k f fd ps sp)(hr:eJ k X.A)(hg:Gl X x)(hm:X.mg x=some (.ref f))(hk:UA X.K (.ref f)=true)(hb:Binds X.K fd ps ds)(hd:Vals dvs ds)(hx:Passes CX X E)
  (ha:PA X (e::es) t)(hdb:gA x:=by decide)(he:zai (e::es) X.env=(false,eval e X.env)::zai es X.env:=by rfl)(hpl:(zaG pos (zai es X.env)).any (·.1)=false:=by rfl):
  PE X (.Call (.Name x p) (e::es) [] pos) (OQ sp dvs E t):=by
 intro pins s Y H Q I h;refine zaT (wX I hg hm ?_ hdb);refine PySem.W.callWith_K (h₀:=X.base) I.ok.mod.kin hk (bG (ha pos pins s Y H _ I h) λus s1 ⟨vs,H1,I1,r,q⟩=>⟨I1.HY,?_⟩) he hpl;exact LD F hr hb hd hx I1 r q
structure Mk(K:SD)(C f:Addr):Prop where
 makes:Yr K C=true
 init:U2 K (.ref C) "__init__" = some (some (.ref f))
 fn:Xc K (.ref f)=true
 kp:UA K (.ref C)=true
end
structure ji(N P:List Str)(sc:Scope):Prop where
 kind:sc.kind=.function
 co:sc.isCoroutine=false
 gen:sc.isGenerator=false
 nd:N.Nodup
 pre:N.take P.length=P
 par:∀x∈P,sc.names.lookup x=some .local\/sc.names.lookup x=some .cell
 nofree:∀y∈sc.names,y.2≠.free
theorem oU{kindOf:Str->Option NameKind}{x:Str}:∀{s:List (Str×Value)}{m:Str->Option Value},(∀v,(x,v)∉s)->bindL kindOf s m x=m x
 |[],_,_=>rfl
 |(n,v)::r,m,h=>by
  unfold bindL;rw[oU λw t=>h w (SK _ t)];split
  .have:x≠n:=by rintro rfl;exact h v SH
   simp[this]
  .rfl
theorem oM{kindOf:Str->Option NameKind}{x:Str}:∀{s:List (Str×Value)}{m:Str->Option Value},(∀v,(x,v)∉s)->bindC kindOf s m x=m x
 |[],_,_=>rfl
 |(n,v)::r,m,h=>by
  unfold bindC;rw[oM λw t=>h w (SK _ t)];split
  .rfl
  .have:x≠n:=by rintro rfl;exact h v SH
   simp[this]
theorem oj{kindOf:Str->Option NameKind}{x:Str}{v:Value}:∀{P:List Str}{vs:List Value}{i:Nat}{m:Str->Option Value},P.Nodup->P[i]?=some x->vs[i]?=some v->kindOf x=some .local->
  bindL kindOf (P.zip vs) m x=some v
 |[],_,_,_,_,h,_,_=>by simp at h
 |_::_,[],_,_,_,_,h,_=>by simp at h
 |p::P,w::vs,0,m,nd,h1,h2,hk=>by simp at h1 h2;subst h1;subst h2;show bindL kindOf ((p,w)::P.zip vs) m p=_;unfold bindL;rw[oU λv a=>(Tz.mp nd).1 (V8 a).1,zcu hk];simp
 |p::P,w::vs,i+1,m,nd,h1,h2,hk=>by unfold bindL;exact oj (Tz.mp nd).2 (by simpa using h1) (by simpa using h2) hk
theorem oG{kindOf:Str->Option NameKind}{x:Str}{v:Value}:∀{P:List Str}{vs:List Value}{i:Nat}{m:Str->Option Value},P.Nodup->P[i]?=some x->vs[i]?=some v->kindOf x≠some .local->
  bindC kindOf (P.zip vs) m x=some v
 |[],_,_,_,_,h,_,_=>by simp at h
 |_::_,[],_,_,_,_,h,_=>by simp at h
 |p::P,w::vs,0,m,nd,h1,h2,hk=>by simp at h1 h2;subst h1;subst h2;show bindC kindOf ((p,w)::P.zip vs) m p=_;unfold bindC;rw[oM λv a=>(Tz.mp nd).1 (V8 a).1,zcv hk];simp
 |p::P,w::vs,i+1,m,nd,h1,h2,hk=>by unfold bindC;exact oG (Tz.mp nd).2 (by simpa using h1) (by simpa using h2) hk
noncomputable def start(N:List Str)(vs:List V):St:=vs.map some++Th (N.length-vs.length) none
noncomputable def vG(CX:tL)(P:Program)(w:zam)(K:SD)(mg:Str->Option Value)(base:Heap)(N:List Str)(qual:Str)(scope:Scope)(f:Addr)(cd:Value)(A:zan)(outer:List Env)(s:Shared)(H:Hp)(E:XK):Cx where
 prog:=P
 w:=w
 K:=K
 mg:=mg
 base:=base
 A:=A.deeper (zbN qual scope s.heap.objs.size f cd)
 N:=N
 s₀:=s
 H₀:=H
 env:=zbN qual scope s.heap.objs.size f cd
 outer:=outer
 stack:=zbN qual scope s.heap.objs.size f cd::outer
 ex:=[]
 calm:=true
 fn:=λ_=>true
 pn:=[]
 xe:=λe s'=>zaj (zak P w) (A.deeper (zbN qual scope s.heap.objs.size f cd)) (leaving (zbN qual scope s.heap.objs.size f cd) e) (λ_ h=>CX outer H s E e h) (λk h=>CX outer H s E k h) s'
theorem tW{sc:Scope}{n:Nat}{x:Str}(h:sc.names.lookup x=some .cell):∃c,(cellsFrom n sc.names []).lookup x=some c:=by have q:=Xd sc.names n [] (.inl h);exact Option.isSome_iff_exists.mp q
variable{scope:Scope}
theorem yF{P:Program}{qual:Str}{f:Addr}{cd:Value}{A:zan}{outer:List Env}{s1:Shared}{E:XK}
  (S:ji N ps scope)(hd:A.handled=none)(I:EZ P w K mg base A outer s H)(hl:vs.length=ps.length)(r:Vals vs us)
  (x:InCallC s s.heap.objs.size (bindL (zbN qual scope s.heap.objs.size f cd).kindOf (ps.zip us) λ_=>none) (cellsFrom (s.heap.objs.size+1) scope.names []) (bindC (zbN qual scope s.heap.objs.size f cd).kindOf (ps.zip us) λ_=>none) s1):
  Inv (vG CX P w K mg base N qual scope f cd A outer s H E) [] (start N vs) H s1:=by
 have O:ps.length<=N.length:=by have:=zcy Wi S.pre;rw[UH] at this;lia
 obtain⟨h1,tk,rfl,hk⟩:=x.done;have Y:∀b:Addr,b∉(vG CX P w K mg base N qual scope f cd A outer s H E).ex:=λb z=>absurd (show b∈([]:List Addr) from z) T1;refine⟨⟨I.mod,S.kind,rfl,rfl,SO _,λy z c h1 h2=>?_,λy hy=>?_,λy c _ h=>?_,λ_=>hd,zan.frames_deeper I.frames,.inr ⟨rfl,rfl⟩,λb z=>absurd z (Y b),I.bs,I.bsz,λb _ _=>Y b,λb z=>absurd z (Y b),I.qJ,I.frf⟩,
  rfl,I.bare,Un.kept hk,⟨_,x.toInCall.ns,λi y v h1 h2 h3=>?_⟩,λy c h=>⟨_,x.cell y c h⟩,I.hok.fresh (SO _),λy c h=>?_,λp hp=>absurd (show p∈([]:List (Addr×Obj)) from hp) T1,I.hok.kept hk,?_⟩
 .exact name_of_addr x.apart (UP h1) (UP h2)
 .have hy:=hy;rcases hy with hy|hy
  .exact tW hy
  .exact absurd rfl (S.nofree _ (UP hy))
 .exact UM (x.above y c (UP h))
 .have hi:i<vs.length:=by
   unfold start at h2;by_cases hi:i<vs.length
   .exact hi
   .rw[Ur (by simpa using hi)] at h2;rw[Xy] at h2;split at h2<;>cases h2
  have d:vs[i]?=some v:=by
   unfold start at h2;rw[Uv (by simpa using hi),SQ] at h2;cases e:vs[i]? with
   |none=>rw[e] at h2;cases h2
   |some a=>rw[e] at h2;cases h2;rfl
  obtain⟨u,C,U⟩:=r.get d;have hp:ps[i]?=some y:=by rw[<-S.pre,Xl XV];exact h1
  have B:ps.Nodup:=by rw[<-S.pre];exact S.nd.sublist (Wy _ _)
  refine⟨u,U,?_⟩;rcases S.par y (SS hp) with k|k
  .exact .inl ⟨k,oj B hp C k⟩
  .obtain⟨c,e⟩:=tW k;refine .inr ⟨.inl k,c,e,?_⟩;have q:=x.cell y c e;rw[oG B hp C (by show scope.names.lookup y≠_;rw[k];decide)] at q;exact q
 .exact I.hok.fresh (UM (x.above y c (UP h)))
 .delta start
  show _=N.length;rw[S3,SE,XJ];lia
theorem Pc{P:Program}{k:Nat}{f:Addr}{name qual:Str}{params:Arguments}{dV kV doc pm cdv ct oc:Value}{an od:Option Addr}
  {osl:Array (Option Value)}{sp:Sp}(B:K.lookup f=some ⟨oc,od,.func (Wr name qual params body scope dV kV doc pm an cdv ct),osl⟩)(c:V9 K cdv qual=true)(S:ji N ps scope)
  (len:∀vs H Q E,sp vs H Q E->vs.length=ps.length)
  (h:∀(A:zan)(outer:List Env)(s:Shared)(H:Hp)(vs:List V)(Q:VK)(E:XK),eJ k (A.deeper (zbN qual scope s.heap.objs.size f cdv))->sp vs H Q E->
   ∃t,nU (vG CX P w K mg base N qual scope f cdv A outer s H E) body t/\t { nx:=λ_ H'=>Q .non H',rt:=Q } (start N vs) H):
  fE P w K mg base CX (k+1) f (Wr name qual params body scope dV kV doc pm an cdv ct) ps sp:=by
 refine⟨len,λA outer s H args us vs Q E m Y hb r Z=>?_⟩;have hl:=len _ _ _ _ Z;have p:K.In s.heap:=Y.mod.kin.keeps λb o e=>(Y.bs b o e).1;have lim:s.heap.NoLimit:=Y.mod.nolimit.keeps λb o e=>(Y.bs b o e).1;have z:∀y∈ps.zip us,scope.names.lookup y.1=some .local\/(scope.names.lookup y.1=some .cell/\((cellsFrom (s.heap.objs.size+1) scope.names []).lookup y.1).isSome=true):=λ⟨n,v⟩ hy=>by
  rcases S.par n (V8 hy).1 with q|q
  .exact .inl q
  .exact .inr ⟨q,Xd _ _ _ (.inl q)⟩
 refine codeAny_call_function m.depth (p _ _ B) rfl S.co S.gen rfl (PySem.W.codeRec_of p c) (hb _ _ _ _ ?_);refine wpAny_newFunctionEnv_cells S.kind z λenv he s1 x=>?_;subst he;refine⟨lim.keeps x.toInCall.keep,codeAny_func ?_⟩;obtain⟨t,ht,L⟩:=h A outer s H vs Q E (m.deeper _) Z;have I:Inv (vG CX P w K mg base N qual scope f cdv A outer s H E) [] (start N vs) H s1:=yF S m.hd Y hl r x;refine zaN (ht [] s1 (start N vs) H _ I L) (λfl s' hs=>?_) λe s' hs=>hs;have fin:∀{Y':St}{H':Hp}{v:V}{u:Value},Inv (vG CX P w K mg base N qual scope f cdv A outer s H E) [] Y' H' s'->RelV v u->Q v H'->CE outer P w H s Q u s':=
  λ{Y' H' v u} J C q=>⟨v,H',J.os,J.bare,J.base,J.hok,C,q⟩
 cases fl with
 |ret u=>obtain⟨v,Y',H',J,C,q⟩:=hs;exact fin J C q
 |next=>obtain⟨Y',H',J,q⟩:=hs;exact fin (v:=V.non) (u:=WW) J rfl q
 |brk=>obtain⟨_,_,_,q⟩:=hs;exact Vj q
 |cont=>obtain⟨_,_,_,q⟩:=hs;exact Vj q
section
variable{X:Cx}{x:Str}{p pos:Pos}{e:Expr}{es:List Expr}{t:TA}{id T:String}{r:List V->Hp->VK->Prop}
noncomputable def Rm(r:List V->Hp->VK->Prop)(t:TA):TE:=λY H Q=>t Y H λvs X=>r vs X Q
theorem gG(hc:bX X (.builtin id) r)(hg:Gl X x)(hm:X.mg x=none)(hv:zal x=some (.builtin id))(ha:PA X (e::es) t)(hn:x ≠ "__name__" := by decide)(hdb:gA x:=by decide)
  (he:zai (e::es) X.env=(false,eval e X.env)::zai es X.env:=by rfl)(hpl:(zaG pos (zai es X.env)).any (·.1)=false:=by rfl):PE X (.Call (.Name x p) (e::es) [] pos) (Rm r t):=by
 intro pins s Y H Q I h;refine zaT (iS I hg hm hv ?_ hn hdb);exact Wj (bG (ha pos pins s Y H _ I h) λus s1 ⟨vs,H1,I1,r1,q1⟩=>hc pins s1 Y H1 vs us Q I1 r1 q1) he hpl
theorem yA(hc:bX X (.type T) r)(hg:Gl X x)(hm:X.mg x=none)(hv:zal x=some (.type T))(ha:PA X (e::es) t)(hn:x ≠ "__name__" := by decide)(hdb:gA x:=by decide)
  (he:zai (e::es) X.env=(false,eval e X.env)::zai es X.env:=by rfl)(hpl:(zaG pos (zai es X.env)).any (·.1)=false:=by rfl):PE X (.Call (.Name x p) (e::es) [] pos) (Rm r t):=by
 intro pins s Y H Q I h;refine zaT (iS I hg hm hv ?_ hn hdb);exact UT (bG (ha pos pins s Y H _ I h) λus s1 ⟨vs,H1,I1,r1,q1⟩=>hc pins s1 Y H1 vs us Q I1 r1 q1) he hpl
end
end L2
namespace HT
open PySem PyProof.Rows
section
variable{prog:Program}{w:zam}{A:zan}{E:Value->Shared->Prop}{s:Shared}
end
end HT
namespace L2
open PySem PySem.Spec PyProof.Rows
abbrev TO:=St->Hp->(Option Int->Hp->Prop)->Prop
def PO(X:Cx)(e:Option Expr)(t:TO):Prop:=
 ∀(pins:List (Addr×Obj))(s:Shared)(Y:St)(H:Hp)(Q:Option Int->Hp->Prop),Inv X pins Y H s->t Y H Q->
  zaj (zak X.prog X.w) X.A (evalPart e X.env) (λu s'=>∃o H',Inv X pins Y H' s'/\IsPart u o/\Q o H') X.xe s
noncomputable def GQ:TO:=λ_ H Q=>Q none H
noncomputable def Nn(t:TE):TO:=λY H Q=>t Y H λx X=>∃i,x=.int i/\Q (some i) X
variable{r:V->Option Int->Option Int->Hp->VK->Prop}
section
variable{X:Cx}{e:Expr}{te:TE}{lo hi:Option Expr}{tl th:TO}{pos p2:Pos}
theorem Gv:PO X none GQ:=by intro pins s Y H Q I h;exact zag ⟨none,H,I,.none,h⟩
theorem FV(h:PE X e te):PO X (some e) (Nn te):=by intro pins s Y H Q I c;refine bG (h pins s Y H _ I c) λu s1 ⟨x,f,j,g,E⟩=>?_;obtain⟨i,rfl,q⟩:=E;obtain⟨t,rfl⟩:=g;exact⟨some i,f,j,.int i t,q⟩
def fU(X:Cx)(r:V->Option Int->Option Int->Hp->VK->Prop):Prop:=
 ∀(pins:List (Addr×Obj))(s:Shared)(Y:St)(H:Hp)(x:V)(v q u:Value)(lo hi:Option Int)(sl:Addr)(Q:VK),Inv X pins Y H s->RelV x v->s.heap.IsSliceOf sl q u .none->IsPart q lo->IsPart u hi->r x lo hi H Q->
  ∃T id,zcq (.type T) "__getitem__" = pure (some (.builtin id))/\s.TypeIs v T/\zaj (zak X.prog X.w) X.A (zb4 v (.ref sl)) (EP X pins Y Q) X.xe s
theorem fU.or{P:V->Option Int->Option Int->Hp->VK->Prop}(h:fU X r)(h':fU X P):fU X (λx lo hi H Q=>r x lo hi H Q\/P x lo hi H Q):=by
 intro pins s Y H x v N u lo hi sl Q I o hs pl S q;rcases q with q|q
 .exact h pins s Y H x v N u lo hi sl Q I o hs pl S q
 .exact h' pins s Y H x v N u lo hi sl Q I o hs pl S q
noncomputable def R0(r:V->Option Int->Option Int->Hp->VK->Prop)(te:TE)(tl th:TO):TE:=λY H Q=>te Y H λx X=>tl Y X λl S=>th Y S λu q=>r x l u q Q
theorem Ct(m:fU X r)(he:PE X e te)(hl:PO X lo tl)(f:PO X hi th):PE X (.Subscript e (.Slice lo hi none p2) pos) (R0 r te tl th):=by intro pins s Y H Q I h;refine zcr (bG (he pins s Y H _ I h) λv s1 ⟨x,c,j,g,i⟩=>?_);refine wpAny_Slice (bG (hl pins s1 Y c _ j i) λN s2 ⟨l,V,E,pl,n⟩=>bG (f pins s2 Y V _ E n) λy O ⟨u,z,G,S,F⟩=>?_);rw[evalPart_none];refine zag ?_;have R:Inv X pins Y z { O with heap:=O.heap.push { cls:=.type "slice",data:=.fields #[N,y,.none] } }:=G.kept (t':=O.toks) λb ob q=>SI _ q;obtain⟨T,id,hT,ht,J⟩:=m pins { O with heap:=O.heap.push { cls:=.type "slice",data:=.fields #[N,y,.none] } } Y z x v N y l u O.heap.objs.size Q R g (Zj ..) pl S F;show zaj (zak X.prog X.w) X.A (subscriptTail e (.Slice lo hi none p2) v (.ref O.heap.objs.size)) (EP X pins Y Q) X.xe { O with heap:=O.heap.push { cls:=.type "slice",data:=.fields #[N,y,.none] } };exact tail_any (ops:=[.ref O.heap.objs.size,v]) ht hT J (by with_unfolding_all rfl)
end
noncomputable def tU(n:Nat)(i:Int):Option Nat:=if 0<=i then (if i<n then some i.toNat else none) else if -(n:Int)<=i then some (i+n).toNat else none
def gz{α:Type}(xs:List α)(i:Int):Option α:=(tU xs.length i).bind λj=>xs[j]?
variable{i:Int}{j:Nat}
theorem vU{n:Nat}(h:tU n i=some j):zbj i n=some j/\j<n /\ -(n:Int)<=i/\i<n:=by
 delta tU at h
 by_cases H:0<=i
 .rw[zcu H] at h
  by_cases h1:i<n
  .rw[zcu h1] at h
   have e:=Ta h
   exact⟨by rw[zce H h1,e],by lia,by lia,h1⟩
  .rw[zcv h1] at h;cases h
 .rw[zcv H] at h
  by_cases h1:-(n:Int)<=i
  .rw[zcu h1] at h
   have e:=Ta h
   exact⟨by rw[zb5 XV h1,e],by lia,h1,by lia⟩
  .rw[zcv h1] at h;cases h
variable{α:Type}
theorem qg{xs:List α}{v:α}(h:gz xs i=some v):∃j,zbj i xs.length=some j/\xs[j]?=some v/\j<xs.length /\ -(xs.length:Int)<=i/\i<xs.length:=by
 delta gz at h
 cases e:tU xs.length i with
 |none=>rw[e] at h;cases h
 |some j=>rw[e] at h;obtain⟨h1,h2,h3,h4⟩:=vU e;exact⟨j,h1,h,h2,h3,h4⟩
theorem eY{xs:List α}{v:α}(h:xs[j]?=some v):gz xs (j:Int)=some v:=by
 have x:=(SF.mp h).1;have e:tU xs.length (j:Int)=some j:=by
  delta tU
  rw[zcu XV,zcu XV];simp
 delta gz;rw[e];exact h
def k9(b:Expr):Prop:=∀o i,subscripted b false o i=operate [o,i] (zb4 o i)
def Fd(X:Cx)(r:R2):Prop:=
 ∀(value slice:Expr)(pins:List (Addr×Obj))(s:Shared)(Y:St)(H:Hp)(x y:V)(v u:Value)(Q:VK),Inv X pins Y H s->RelV x v->RelV y u->r x y H Q->
  subscripted slice false v u=operate [v,u] (zb4 v u)->zaj (zak X.prog X.w) X.A (subscriptTail value slice v u) (EP X pins Y Q) X.xe s
def QR(X:Cx)(id:String)(r:V->List V->Hp->VK->Prop):Prop:=
 ∀(pins:List (Addr×Obj))(s:Shared)(Y:St)(H:Hp)(x:V)(xs:List V)(v:Value)(us:List Value)(Q:VK),Inv X pins Y H s->RelV x v->Vals xs us->r x xs H Q->
  zaj (zak X.prog X.w) X.A (call (.builtin id) (v::us)) (EP X pins Y Q) X.xe s
variable{pins:List (Addr×Obj)}{H:Hp}{s:Shared}{p:Addr}{its its':List Value}{u v:Value}{T:String}
section
variable{X:Cx}{a b:Expr}{ta tb:TE}{pos:Pos}
theorem Fd.or{r P:R2}(h:Fd X r)(h':Fd X P):Fd X (λx y H Q=>r x y H Q\/P x y H Q):=by
 intro value slice pins s Y H x y v u Q I o K q hs;rcases q with q|q
 .exact h value slice pins s Y H x y v u Q I o K q hs
 .exact h' value slice pins s Y H x y v u Q I o K q hs
theorem Pf{r:R2}(m:Fd X r)(d:PE X a ta)(hb:PE X b tb)(hs:k9 b):PE X (.Subscript a b pos) (Om r ta tb):=by intro pins s Y H Q I h;exact zcr (IF d hb I h λv u s2 x y V j o K q=>m a b pins s2 Y V x y v u Q j o K q (hs _ _))
def Po(K:SD):R2:=λx y H Q=>∃p xs i v,x=.ref p/\y=.int i/\eI K H p xs/\gz xs i=some v/\Q v H
def NX(K:SD):R2:=λx y H Q=>∃p xs i v,x=.ref p/\y=.int i/\eU K H p xs/\gz xs i=some v/\Q v H
def Oh:R2:=λx y H Q=>∃z i c,x=.str z/\y=.int i/\z.length<=sizeLine/\gz z.cps.toList i=some c/\Q (.str ⟨#[c]⟩) H
theorem Ge:Fd X (Po X.K):=by
 intro value slice pins s Y H x y v u Q I o C h hs;obtain⟨p,xs,i,z,rfl,rfl,n,he,q⟩:=h;cases o;obtain⟨t,rfl⟩:=C;obtain⟨its,r,pl,hz⟩:=I.list n;obtain⟨j,h1,h2,h3,h4,h5⟩:=qg he;obtain⟨w,Z,A⟩:=r.get h2;have hl:=r.length;have hn:=qD;have fin:EP X pins Y Q w s:=⟨z,H,I,A,q⟩
 by_cases B:0<=i
 .have U:i.toNat=j:=by rw[zce B h5] at h1;exact Ta h1
  exact item_listR pl.isList B XV (by rw[U];simpa using Z) fin hs
 .have U:(i+(its.toArray.size:Int)).toNat=j:=by rw[zb5 XV h4] at h1;rw[SM,<-hl];exact Ta h1
  exact zbA (x:=w) pl.isList.typeIs slot_list_getitem.lookup
   (wpAny_getItem_list_neg (Q:=λr s'=>r=w/\EP X pins Y Q r s') pl.isList XV (by rw[SM]<;>lia) XV (by rw[U];simpa using Z) ⟨rfl,fin⟩) hs
theorem Kr:Fd X (NX X.K):=by
 intro value slice pins s Y H x y v u Q I o C h hs;obtain⟨p,xs,i,z,rfl,rfl,n,he,q⟩:=h;cases o;obtain⟨t,rfl⟩:=C;obtain⟨its,r,pl,hz⟩:=I.tuple n;obtain⟨j,h1,h2,h3,h4,h5⟩:=qg he;obtain⟨w,Z,A⟩:=r.get h2;have hl:=r.length;have hn:=qD;have fin:EP X pins Y Q w s:=⟨z,H,I,A,q⟩
 exact zbA pl.typeIs slot_tuple_getitem.lookup
  (getItem_tuple pl XV XV (by rw[SM,<-hl];exact h1) (by simpa using Z) ⟨rfl,fin⟩) hs
theorem II:Fd X Oh:=by
 intro value slice pins s Y H x y v u Q I o K h hs;obtain⟨z,i,c,rfl,rfl,hz,he,q⟩:=h;obtain⟨t,rfl⟩:=o;obtain⟨t',rfl⟩:=K;obtain⟨j,h1,h2,h3,h4,h5⟩:=qg he;have hl:z.cps.toList.length=z.length:=by simp[Str.length]
 rw[hl] at h1 h4 h5;have hn:=qD;exact tail_any (zbY s z t) slot_str_getitem.lookup (getItem_str (by have D:decide (i < -(2^63:Int))=false:=zcw XV;have l:decide (i≥2^63)=false:=zcw XV;rw[D,l,Xm]) (by rw[h1];simpa using h2) ⟨.str ⟨#[c]⟩,H,I.tok _,⟨_,rfl⟩,q⟩) hs
def RD(K:SD):R2:=λx y H Q=>Po K x y H Q\/NX K x y H Q\/Oh x y H Q
theorem Iz:Fd X (RD X.K):=Ge.or (Kr.or II)
theorem u9(its:List Value)(n j:Nat)(u:Value):UZ (·.setIfInBounds j u) { cls:=.type "list",data:=.seq its.toArray n }={ cls:=.type "list",data:=.seq (its.set j u).toArray n }:=by simp[UZ]
theorem Inv.lst{Y:St}{xs:List V}(I:Inv X pins Y H s)(h:H p=some (.lst xs)):
  ∃(its:List Value)(n:Nat),Vals xs its/\s.heap.get? p=some { cls:=.type "list",data:=.seq its.toArray n }/\xs.length<=sizeLine:=by
 obtain⟨z,its,n,r,e⟩:=I.hok p _ h;exact⟨its,n,r,e,z⟩
theorem Inv.Jd{Y:St}{xs ys:List V}{n n':Nat}{f:Obj->Obj}(I:Inv X pins Y H s)(h:H p=some (.lst xs))
  (ho:s.heap.get? p=some { cls:=.type "list",data:=.seq its.toArray n })(hf:f { cls:=.type "list",data:=.seq its.toArray n }={ cls:=.type "list",data:=.seq its'.toArray n' })(r:Vals ys its')(hz:ys.length<=sizeLine)(t:Nat):
  Inv X pins Y (upd H p (.lst ys)) { s with heap:=s.heap.update p f,toks:=t }:=by
 have e:(s.heap.update p f).get? p=some { cls:=.type "list",data:=.seq its'.toArray n' }:=by rw[Ux f ho (by rw[hf]<;>rfl),hf]
 refine I.write (x:=p) (e:=p) (by rw[h];trivial) (.inl rfl) (λb u hb q=>(UG _ _ (Uu hb)).trans q) ⟨_,e⟩ ?_;exact⟨hz,its',n',r,e⟩
def Hs:V->V->V->Hp->(Hp->Prop)->Prop:=λo i v H Q=>∃p xs k j,o=.ref p/\i=.int k/\H p=some (.lst xs)/\tU xs.length k=some j/\Q (upd H p (.lst (xs.set j v)))
theorem set_list:OD X Hs:=by
 intro pins s Y H o i v z y u Q I x ri C h;obtain⟨p,xs,k,j,rfl,rfl,hp,U,q⟩:=h;cases x;obtain⟨t,rfl⟩:=ri;obtain⟨its,n,r,ho,hz⟩:=I.lst hp;obtain⟨h1,h2,h3,h4⟩:=vU U;have hl:=r.length;have hn:=qD;have w:Inv X pins Y (upd H p (.lst (xs.set j v))) { s with heap:=s.heap.update p (UZ (·.setIfInBounds j u)) }:=
  I.Jd hp ho (u9 its n j u) (r.set C j) (by rw[List.length_set];exact hz) s.toks
 by_cases B:0<=k
 .have hk:k.toNat=j:=by rw[zce B h4] at h1;exact Ta h1
  exact PySem.W.ki_setAt ho B XV (by rw[SM,<-hl];exact h4) (by rw[hk];exact⟨_,w,q⟩)
 .have hk:(k+(its.toArray.size:Int)).toNat=j:=by rw[zb5 XV h3] at h1;rw[SM,<-hl];exact Ta h1
  exact PySem.W.ki_setBack ho XV (by rw[SM,<-hl];exact h3) XV (by rw[hk];exact⟨_,w,q⟩)
noncomputable def gF:V->Bool
 | .non=>true
 | .bl _=>true
 | .int _=>true
 | .str _=>true
 |_=>false
noncomputable def G8:V->V->Bool
 | .non,.non=>true
 | .bl a,.bl b=>a==b
 | .bl a,.int b=>(if a then 1 else 0)==b
 | .int a,.bl b=>a==(if b then 1 else 0)
 | .int a,.int b=>a==b
 | .str a,.str b=>a==b
 |_,_=>false
theorem cj{A:zan}{y x:V}(K:RelV y u)(o:RelV x v)(H:gF y=true)(fx:gF x=true):UW A s u v (G8 y x):=by
 cases y with
 |non=>
  cases K;cases x with
  |non=>cases o;exact XM _
  |bl b=>cases o;exact UW.none_bool b
  |int b=>obtain⟨t,rfl⟩:=o;exact UW.none_int b t
  |str b=>obtain⟨t,rfl⟩:=o;exact UW.none_str b t
  |_=>exact absurd (fx) To
 |bl a=>
  cases K;cases x with
  |non=>cases o;exact UW.bool_none a
  |bl b=>cases o;exact UW.bool_bool a b
  |int b=>obtain⟨t,rfl⟩:=o;exact UW.bool_int a b t
  |str b=>obtain⟨t,rfl⟩:=o;exact UW.bool_str a b t
  |_=>exact absurd (fx) To
 |int a=>
  obtain⟨t',rfl⟩:=K;cases x with
  |non=>cases o;exact UW.int_none a t'
  |bl b=>cases o;exact UW.int_bool a t' b
  |int b=>obtain⟨t,rfl⟩:=o;exact UW.int_int a t' b t
  |str b=>obtain⟨t,rfl⟩:=o;exact Xj a t' b t
  |_=>exact absurd (show false=true from fx) To
 |str a=>
  obtain⟨t',rfl⟩:=K;cases x with
  |non=>cases o;exact UW.str_none a t'
  |bl b=>cases o;exact UW.str_bool a t' b
  |int b=>obtain⟨t,rfl⟩:=o;exact Xk a t' b t
  |str b=>obtain⟨t,rfl⟩:=o;exact UW.str_str a t' b t
  |_=>exact absurd (show false=true from fx) To
 |_=>exact absurd (show false=true from H) To
def GV(x:V)(u:Value):Bool:=match u with
 | .none=>G8 .non x
 | .bool b=>G8 (.bl b) x
 | .int i _=>G8 (.int i) x
 | .str z _=>G8 (.str z) x
 |_=>false
theorem As{x y:V}(r:RelV y u)(f:gF y=true):GV x u=G8 y x:=by
 cases y with
 |non=>cases r;rfl
 |bl b=>cases r;rfl
 |int i=>obtain⟨t,rfl⟩:=r;rfl
 |str z=>obtain⟨t,rfl⟩:=r;rfl
 |_=>exact absurd (f) To
theorem qz{x:V}:∀{xs:List V}{us:List Value},Vals xs us->xs.all gF=true->us.any (GV x)=xs.any λy=>G8 y x
 |_,_,.nil,_=>rfl
 |y::xs,u::us,.cons r t,f=>by rw[T5,SA] at f;rw[Up,Up,As r f.1,qz t f.2]
theorem lZ{A:zan}{s:Shared}{x:V}{v:Value}(o:RelV x v)(fx:gF x=true):∀{xs:List V}{us:List Value},Vals xs us->xs.all gF=true->∀u∈us,UW A s u v (GV x u)
 |_,_,.nil,_=>λu C=>by cases C
 |y::xs,u::us,.cons r t,f=>λH C=>by
  rw[T5,SA] at f;rcases SR.mp C with rfl|C
  .rw[As r f.1];exact cj r o f.1 fx
  .exact lZ o fx t f.2 H C
def PU(x:V)(xs:List V):Bool:=xs.any λy=>G8 y x
def Qu(K:SD)(neg:Bool):R2:=λx y H Q=>∃p xs,y=.ref p/\(eI K H p xs\/eU K H p xs)/\gF x=true/\xs.all gF=true/\Q (.bl (if neg then !PU x xs else PU x xs)) H
theorem jm:eG X (zaz .NotIn) (Qu X.K true):=by
 intro pins s Y H x y v u Q I o C h;obtain⟨p,xs,rfl,n,fx,fs,q⟩:=h;cases C;rcases n with n|n
 .obtain⟨its,r,pl,hz⟩:=I.list n;refine Yi (GV x) pl.isList (λw t=>lZ o fx r fs w (by simpa using t)) ⟨.bl _,H,I,rfl,?_⟩;rw[show its.toArray.any (GV x)=its.any (GV x) by simp,qz r fs];exact q
 .obtain⟨its,r,pl,hz⟩:=I.tuple n;refine SeqAt.notIn_tupleAt (GV x) pl (λw t=>lZ o fx r fs w (by simpa using t)) ⟨.bl _,H,I,rfl,?_⟩;rw[show its.toArray.any (GV x)=its.any (GV x) by simp,qz r fs];exact q
theorem qh:bX X (.type "list") (λxs H Q=>∃p ys,xs=[.ref p]/\(eI X.K H p ys\/eU X.K H p ys)/\∀l,H l=none->Q (.ref l) (upd H l (.lst ys))):=by
 intro pins s Y H xs us Q I r h;obtain⟨p,ys,rfl,L,q⟩:=h;obtain⟨u,rfl,E⟩:=vals1 r;cases E;have fin:∀(its:List Value),Vals ys its->ys.length<=sizeLine->∀(h':Heap)(v:Nat),(∀b o',s.heap.get? b=some o'->h'.get? b=some o')->
   h'.get? s.heap.objs.size=some { cls:=.type "list",dict:=none,data:=.seq its.toArray v,slots:=#[] }->EP X pins Y Q (.ref s.heap.objs.size) { s with heap:=h' }:=λits P hz h' v kp e=>
  ⟨.ref s.heap.objs.size,_,I.laid kp (SO _) (show bV X.prog X.w _ h' _ (.lst ys) from ⟨hz,its,v,P,e⟩),rfl,q _ (I.hok.fresh (SO _))⟩
 rcases L with L|L
 .obtain⟨its,P,pl,hz⟩:=I.list L;have z:=P.length;obtain⟨o,ho,hc,n,hd⟩:=pl.isList;exact call_list_seq p (.inl rfl) ho hc hd (λh' v kp e=>fin its P hz h' v kp e) (by rw[SM]<;>lia)
 .obtain⟨its,P,pl,hz⟩:=I.tuple L;have z:=P.length;obtain⟨o,ho,hc,n,hd⟩:=pl;exact call_list_seq p (.inr rfl) ho hc hd (λh' v kp e=>fin its P hz h' v kp e) (by rw[SM]<;>lia)
theorem n8:bX X (.type "tuple") (λxs H Q=>∃p ys,xs=[.ref p]/\((eI X.K H p ys/\∀l,H l=none->Q (.ref l) (upd H l (.tup ys)))\/(eU X.K H p ys/\Q (.ref p) H))):=by
 intro pins s Y H xs us Q I r h;obtain⟨p,ys,rfl,h⟩:=h;obtain⟨u,rfl,E⟩:=vals1 r;cases E;rcases h with ⟨n,q⟩|⟨n,q⟩
 .obtain⟨its,P,pl,hz⟩:=I.list n;have z:=P.length;refine call_tuple_list pl.isList (λh' kp=>?_) (by rw[SM]<;>lia);have j:=I.kept (t':=s.toks) kp;have m:Inv X pins Y (upd H h'.objs.size (.tup ys)) { s with heap:=h'.push { cls:=.type "tuple",data:=.seq its.toArray } }:=
   j.laid (λb o e=>SI _ e) (SO _) (⟨hz,its,P,jT.new _ _⟩)
  exact⟨.ref h'.objs.size,_,m,rfl,q _ (j.hok.fresh (SO _))⟩
 .obtain⟨its,P,pl,hz⟩:=I.tuple n;exact call_tuple_same pl ⟨.ref p,H,I,rfl,q⟩
def PZ(K:SD)(T:String)(x:V)(H:Hp):Prop:=match x with
 | .str _=>T = "str"
 | .int _=>T = "int"
 | .ref p=>(T = "list" /\ ∃xs,eI K H p xs)\/(T = "tuple" /\ ∃o,K.lookup p=some o/\o.cls=.type "tuple" /\ o.dict=none) \/
   (T = "dict" /\ ((∃kvs,H p=some (.dK kvs))\/∃kvs,H p=some (.dT kvs)))\/(T = "set" /\ ∃S n,H p=some (.set S n))
 |_=>False
theorem AA{Y:St}{x:V}(I:Inv X pins Y H s)(r:RelV x v)(ty:PZ X.K T x H):
  s.TypeIs v T/\∀a,v=.ref a->∃ob,s.heap.get? a=some ob/\ob.dict=none:=by
 cases x with
 |str z=>obtain⟨t,rfl⟩:=r;cases (ty);exact⟨zbY s z t,λ_ e=>nomatch e⟩
 |int i=>obtain⟨t,rfl⟩:=r;cases (ty);exact⟨typeIs_int s i t,λ_ e=>nomatch e⟩
 |ref p=>
  cases r;rcases ty with ⟨rfl,xs,L⟩|⟨rfl,o,hk,hc,hd⟩|⟨rfl,hk⟩|⟨rfl,S,n,hk⟩
  .obtain⟨its,_,pl,_⟩:=I.list L;refine⟨pl.isList.typeIs,λa e=>?_⟩;cases e;obtain⟨o,n,e,c,hd,_⟩:=pl;exact⟨o,e,hd⟩
  .refine⟨⟨o,I.HY p o hk,hc⟩,λa e=>?_⟩;cases e;exact⟨o,I.HY _ o hk,hd⟩
  .have z:∃o,s.heap.get? p=some o/\o.ExactDict:=by
    rcases hk with ⟨kvs,hk⟩|⟨kvs,hk⟩
    .obtain⟨_,_,_,_,o,_,_,e,ex,_⟩:=I.hok p _ hk;exact⟨o,e,ex⟩
    .obtain⟨_,_,_,_,o,_,_,e,ex,_⟩:=I.hok p _ hk;exact⟨o,e,ex⟩
   obtain⟨o,e,ex⟩:=z;refine⟨⟨o,e,ex.1⟩,λa l=>?_⟩;cases l;exact⟨o,e,ex.2.1⟩
  .obtain⟨o,_,_,_,e,ex,_⟩:=I.hok p _ hk;refine⟨⟨o,e,ex.1⟩,λa l=>?_⟩;cases l;exact⟨o,e,ex.2.1⟩
 |_=>exact Vj ty
noncomputable def Q0(K:SD)(T:String)(r:V->List V->Hp->VK->Prop)(to:TE):TE:=λY H Q=>to Y H λx X=>PZ K T x X/\r x [] X Q
noncomputable def RM(K:SD)(T:String)(r:V->List V->Hp->VK->Prop)(to:TE)(t:TA):TE:=λY H Q=>to Y H λx X=>PZ K T x X/\t Y X λxs S=>r x xs S Q
variable{o e:Expr}{es:List Expr}{to:TE}{t:TA}{name:Str}{apos cpos:Pos}{T id:String}{r:V->List V->Hp->VK->Prop}
theorem Mm(pa:PlainAttrs T)(slot:Slot T name id)(hty:typeOf (.builtin id)=pure (.type "method_descriptor"))(hm:QR X id r)(ho:PE X o to)
  (hbase:zaI o name X.env (eval o X.env)=eval o X.env:=by rfl)(hline:(apos.endLine==cpos.line)=true:=by rfl):PE X (.Call (.Attribute o name apos) [] [] cpos) (Q0 X.K T r to):=by
 intro pins s Y H Q I h;refine zbv hbase hline (bG (ho pins s Y H _ I h) λv s1 ⟨x,H1,I1,r1,ty,q1⟩=>?_);obtain⟨h1,h2⟩:=AA I1 r1 ty;exact⟨T,id,pa,slot,hty,h1,h2,V3 rfl (X6 (hm pins s1 Y H1 x [] v [] Q I1 r1 .nil q1))⟩
theorem xb(pa:PlainAttrs T)(slot:Slot T name id)(hty:typeOf (.builtin id)=pure (.type "method_descriptor"))(hm:QR X id r)(ho:PE X o to)(ha:PA X (e::es) t)
  (hbase:zaI o name X.env (eval o X.env)=eval o X.env:=by rfl)
  (hfew:((zaG cpos (zai (e::es) X.env)).all (λx=>!x.1)&&(zbO cpos (zbf [] X.env)).all (λx=>x.1.isSome)
   && decide ((e::es).length+([]:List za1).length+(if ([]:List za1).isEmpty then 0 else 1)<30))=true:=by rfl)
  (hline:(apos.endLine==cpos.line)=true:=by rfl) (hs:zai (e::es) X.env=(false,eval e X.env)::zai es X.env:=by rfl) (hplain:(zaG cpos (zai es X.env)).any (·.1)=false:=by rfl):
  PE X (.Call (.Attribute o name apos) (e::es) [] cpos) (RM X.K T r to t):=by
 intro pins s Y H Q I h;refine wpAny_Call_method_late hbase hfew hline rfl (bG (ho pins s Y H _ I h) λv s1 ⟨x,H1,I1,r1,ty,q1⟩=>?_);obtain⟨h1,h2⟩:=AA I1 r1 ty;refine⟨T,id,pa,slot,hty,h1,h2,?_⟩;have hA:=ha cpos pins s1 Y H1 _ I1 q1;rw[hs] at hA ⊢;refine V3 (by show (false || (zaG cpos (zai es X.env)).any (·.1))=false;rw[hplain]<;>rfl) (Calls.evalArgs_plain ?_);exact bG hA λus s2 ⟨vs,H2,I2,r2,q2⟩=>hm pins s2 Y H2 x vs v us Q I2 r1 r2 q2
end
def PN(X:Cx)(id:String)(r:V->List V->Hp->VK->Prop):Prop:=
 ∀(pins:List (Addr×Obj))(s:Shared)(Y:St)(H:Hp)(x:V)(xs:List V)(v:Value)(us:List Value)(Q:VK),Inv X pins Y H s->RelV x v->Vals xs us->r x xs H Q->
  zaj (zak X.prog X.w) X.A (call (.builtin id) (v::us)) (EP X pins Y Q) X.xe s
theorem Vals.one:∀{x:V}{us:List Value},Vals [x] us->∃u,us=[u]/\RelV x u
 |_,_,.cons r .nil=>⟨_,rfl,r⟩
theorem Vals.zero:∀{us:List Value},Vals [] us->us=[]
 |_,.nil=>rfl
theorem Vals.dropLast{xs:List V}{us:List Value}(h:Vals xs us):Vals xs.dropLast us.dropLast:=by
 induction h with
 |nil=>exact .nil
 |cons r t m=>
  cases t with
  |nil=>exact .nil
  |cons q t'=>exact .cons r m
theorem Vals.eraseIdx:∀{xs:List V}{us:List Value}(i:Nat),Vals xs us->Vals (xs.eraseIdx i) (us.eraseIdx i)
 |_,_,_,.nil=>.nil
 |_,_,0,.cons _ t=>t
 |_,_,i+1,.cons r t=>.cons r (Vals.eraseIdx i t)
theorem vA(l:List α):l.eraseIdx (l.length-1)=l.dropLast:=by
 induction l with
 |nil=>rfl
 |cons a r m=>
  cases r with
  |nil=>rfl
  |cons b r=>
   have e:(a::b::r).length-1=((b::r).length-1)+1:=by have h1:(a::b::r).length=r.length+2:=rfl;have h2:(b::r).length=r.length+1:=rfl;lia
   rw[e,List.eraseIdx_cons_succ,m]
   all_goals rfl
theorem oJ{α:Type}:∀(l:List α)(i:Nat),(l.eraseIdx i).length<=l.length
 |[],_=>SO _
 |_::_,0=>Vn _
 |_::r,i+1=>Nat.succ_le_succ (oJ r i)
variable{t':Nat}
section
variable{X:Cx}{pins:List (Addr×Obj)}{Y:St}{H:Hp}{s:Shared}{l b:Addr}{xs ys zs:List V}
theorem Inv.E5{n:Nat}{f:Array Value->Array Value}(I:Inv X pins Y H s)(h:H l=some (.lst xs))
  (e:s.heap.get? l=some { cls:=.type "list",data:=.seq its.toArray n })(hf:f its.toArray=its'.toArray)(a:Vals ys its')(hz:ys.length<=sizeLine):
  Inv X pins Y (upd H l (.lst ys)) { s with heap:=s.heap.update l (UZ f),toks:=t' }:=by
 have q:=PySem.IsL.update e f;rw[hf] at q;refine I.write (by rw[h];exact trivial) (.inl rfl) (λr u hb C=>(UG s.heap (UZ f) (Uu hb)).trans C) ⟨_,q⟩ ?_;exact⟨hz,its',_,a,q⟩
theorem Inv.QZ(I:Inv X pins Y H s)(a:Vals ys its)(hz:ys.length<=sizeLine):
  Inv X pins Y (upd H s.heap.objs.size (.lst ys)) { s with heap:=s.heap.push { cls:=.type "list",data:=.seq its.toArray },toks:=t' }:=
 I.laid (λ_ _ q=>SI _ q) (SO _) ⟨hz,its,0,a,S6 _ rfl⟩
theorem Inv.fresh(I:Inv X pins Y H s):H s.heap.objs.size=none:=I.hok.fresh (SO _)
theorem Inv.EY(I:Inv X pins Y H s)(h:H l=some (.lst xs)):xs.length<=sizeLine/\∃(its:List Value)(n:Nat),Vals xs its/\xs.length=its.length/\s.heap.get? l=some { cls:=.type "list",data:=.seq its.toArray n }:=by obtain⟨z,its,n,r,e⟩:=I.hok l _ h;exact⟨z,its,n,r,r.length,e⟩
theorem Cv{n:Nat}(h:n<=sizeLine):VC n=false:=by exact zcw XV
end
section
variable{X:Cx}
def Eu:V->List V->Hp->VK->Prop:=λx vs H Q=>∃l xs y,x=.ref l/\vs=[y]/\H l=some (.lst xs)/\xs.length<sizeLine/\Q .non (upd H l (.lst (xs++[y])))
theorem zA:PN X "list.append" Eu:=by intro pins s Y H x vs v us Q I o C h;obtain⟨l,xs,y,rfl,rfl,p,hz,q⟩:=h;cases o;obtain⟨u,rfl,S⟩:=C.one;obtain⟨z,its,n,r,hl,e⟩:=I.EY p;refine zbB F.slot_list_append ⟨_,e,rfl⟩ F.entry_list_append (F.args_list_append_2 _ _) (PySem.list_append l its.toArray n u (by rw[SM];lia)) ⟨e,?_⟩;refine⟨.non,_,I.E5 p e T1 (r.append (.cons S .nil)) ?_,rfl,q⟩;rw[S3,UK];exact YK ‹_›
def Qr:V->List V->Hp->VK->Prop:=λx vs H Q=>∃l xs y,x=.ref l/\vs=[]/\H l=some (.lst xs)/\xs[xs.length-1]?=some y/\Q y (upd H l (.lst xs.dropLast))
theorem Ja:PN X "list.pop" Qr:=by
 intro pins s Y H x vs v us Q I o C h;obtain⟨l,xs,y,rfl,rfl,p,hy,q⟩:=h;cases o;have w:=C.zero;subst w;obtain⟨z,its,n,r,hl,e⟩:=I.EY p;obtain⟨u,f,S⟩:=r.get hy;have N:its.toArray[its.toArray.size-1]?=some u:=by show its.toArray[its.length-1]?=some u;rw[<-TB,<-hl];exact f
 refine zbB Zk ⟨_,e,rfl⟩ Zf (F.args_list_pop_1 _) (MeetsSeq.list_pop_last l its.toArray n u N (by rw[SM];lia)) ⟨e,?_⟩;refine⟨y,_,I.E5 p e ?_ r.dropLast ?_,S,q⟩
 .show its.toArray.eraseIdxIfInBounds (its.toArray.size-1)=its.dropLast.toArray;rw[SM,WB,vA]
 .rw[List.length_dropLast];lia
def K6:V->List V->Hp->VK->Prop:=λx vs H Q=>∃l xs i k y,x=.ref l/\vs=[.int i]/\H l=some (.lst xs) /\ -(2^63)<=i/\i<2^63/\zbj i xs.length=some k/\xs[k]?=some y/\Q y (upd H l (.lst (xs.eraseIdx k)))
theorem CO:PN X "list.pop" K6:=by
 intro pins s Y H x vs v us Q I o C h;obtain⟨l,xs,i,k,y,rfl,rfl,p,h1,h2,hk,hy,q⟩:=h;cases o;obtain⟨u,rfl,S⟩:=C.one;obtain⟨t,rfl⟩:=S;obtain⟨z,its,n,r,hl,e⟩:=I.EY p;obtain⟨w,c,A⟩:=r.get hy;refine zbB Zk ⟨_,e,rfl⟩ Zf (F.args_list_pop_2 _ _)
  (MeetsSeq.list_pop_at l its.toArray n i t k w (fitsIndex_both h1 h2) (by rw[SM,<-hl];exact hk) (by rw[<-TB];exact c) (by rw[SM];lia)) ⟨e,?_⟩
 refine⟨y,_,I.E5 p e ?_ (r.eraseIdx k) ?_,A,q⟩
 .show its.toArray.eraseIdxIfInBounds k=(its.eraseIdx k).toArray;rw[WB]
 .have:=oJ xs k;exact Tn ‹_› ‹_›
end
section
variable{prog:Program}{w:zam}{A:zan}{E:Value->Shared->Prop}{s:Shared}
end
variable{o:Option V}
section
variable{κ:Type}[DecidableEq κ]
noncomputable def fQ(kvs:List (κ×V))(k:κ):Option V:=(kvs.find? λs=>decide (s.1=k)).map (·.2)
noncomputable def putK(kvs:List (κ×V))(k:κ)(v:V):List (κ×V):=
 if (kvs.any λs=>decide (s.1=k))=true then kvs.map (λs=>if s.1=k then (s.1,v) else s) else kvs++[(k,v)]
theorem mH{p:κ×V}{r:List (κ×V)}{k:κ}(e:p.1=k):fQ (p::r) k=some p.2:=by simp[fQ,Tf,e]
theorem lG{p:κ×V}{r:List (κ×V)}{k:κ}(e:¬ p.1=k):fQ (p::r) k=fQ r k:=by simp[fQ,Tf,e]
theorem rO(k:κ):∀kvs:List (κ×V),(kvs.any λs=>decide (s.1=k))=(fQ kvs k).isSome
 |[]=>rfl
 |p::r=>by
  rw[Up];by_cases e:p.1=k
  .rw[mH e,zcx e,Bool.true_or,Option.isSome_some]
  .rw[lG e,zcw e,Xn];exact rO k r
theorem j9(kvs:List (κ×V))(k:κ)(v:V):(putK kvs k v).length<=kvs.length+1:=by
 delta putK
 split
 .rw[SE];lia
 .rw[S3,S5,YU];exact RV
theorem jv.j0{u:Option Value}(r:jv o u):o.isSome=u.isSome:=by
 cases o with
 |none=>cases u with
  |none=>rfl
  |some _=>exact(r).elim
 |some _=>cases u with
  |none=>exact(r).elim
  |some _=>rfl
theorem KV.val{kvs:List (κ×V)}{vs:List (κ×Value)}(r:KV kvs vs)(k:κ):jv (fQ kvs k) (zbT vs k):=by
 unfold KV at r;induction r with
 |nil=>exact V6
 |@cons p q ps I h t m=>
  obtain⟨h1,h2⟩:=h;by_cases e:p.1=k
  .have H:q.1=k:=h1.symm.trans e;have b:zbT (q::I) k=some q.2:=by simp[zbT,Tf,H]
   rw[mH e,b];exact h2
  .have H:¬ q.1=k:=λz=>e (h1.trans z);have b:zbT (q::I) k=zbT I k:=by simp[zbT,Tf,H]
   rw[lG e,b];exact m
theorem KV.any{kvs:List (κ×V)}{vs:List (κ×Value)}(r:KV kvs vs)(k:κ):(kvs.any λs=>decide (s.1=k))=vs.any λs=>decide (s.1=k):=by
 induction r with
 |nil=>rfl
 |cons h t m=>rw[Up,Up,m,h.1]
theorem KV.uR{kvs:List (κ×V)}{vs:List (κ×Value)}(r:KV kvs vs)(k:κ){y:V}(K:RelV y u):
  KV (kvs.map λs=>if s.1=k then (s.1,y) else s) (vs.map λs=>if s.1=k then (s.1,u) else s):=by
 induction r with
 |nil=>exact .nil
 |@cons p q ps I h t m=>
  rw[S4,S4];refine .cons ?_ m;obtain⟨h1,h2⟩:=h;by_cases e:p.1=k
  .rw[zcu e,zcu (h1.symm.trans e)];exact⟨h1,K⟩
  .rw[zcv e,zcv (λz=>e (h1.trans z))];exact⟨h1,h2⟩
theorem KV.put{kvs:List (κ×V)}{vs:List (κ×Value)}(r:KV kvs vs)(k:κ){y:V}(K:RelV y u):KV (putK kvs k y) (stored vs k u):=by
 delta putK stored
 rw[r.any k]
 by_cases e:(vs.any λs=>decide (s.1=k))=true
 .rw[zcu e,zcu e];exact r.uR k K
 .rw[zcv e,zcv e];exact XH r ⟨rfl,K⟩
theorem KV.keys{kvs:List (κ×V)}{vs:List (κ×Value)}(r:KV kvs vs):kvs.map (·.1)=vs.map (·.1):=by
 induction r with
 |nil=>rfl
 |cons h t m=>rw[S4,S4,m,h.1]
theorem KV.length{kvs:List (κ×V)}{vs:List (κ×Value)}(r:KV kvs vs):kvs.length=vs.length:=Um r
end
variable{w:zam}
theorem wB{P:Program}{k:Key}(r:RelV (kV k) u):(aC P w).is k u=true:=by
 cases k with
 |inl i=>obtain⟨t,e⟩:=(r);subst e;exact tG P w i t
 |inr x=>obtain⟨t,e⟩:=(r);subst e;exact sO P w x t
theorem hW{P:Program}{w:zam}:∀{ks:List Key}{us:List Value},Vals (ks.map kV) us->ItemsAre (aC P w) ks us
 |[],_,r=>by rw[Vp] at r;cases r;exact .nil
 |k::ks,_,r=>by
  cases r with
  |cons h t=>exact .cons (wB h) (hW t)
abbrev KT(H:Hp):List (List Key×V)->List (List Key×Addr×Value)->Prop:=Paired λp q=>p.1=q.1/\H q.2.1=some (.tup (p.1.map kV))/\RelV p.2 q.2.2
variable{kvs:List (List Key×V)}{xs:List (List Key×Addr×Value)}
theorem KT.val(r:KT H kvs xs)(k:List Key):jv (fQ kvs k) ((zaU xs k).map (·.2)):=by
 induction r with
 |nil=>exact V6
 |@cons p q ps I h t m=>
  obtain⟨h1,_,h2⟩:=h;by_cases e:p.1=k
  .have Q:=h1.symm.trans e;have b:zaU (q::I) k=some q.2:=by simp[zaU,Tf,Q]
   rw[mH e,b];exact h2
  .have Q:¬ q.1=k:=λz=>e (h1.trans z);have b:zaU (q::I) k=zaU I k:=by simp[zaU,Tf,Q]
   rw[lG e,b];exact m
theorem KT.uR(r:KT H kvs xs)(k:List Key){y:V}(K:RelV y u):
  KT H (kvs.map λs=>if s.1=k then (s.1,y) else s) (xs.map (putAt k u)):=by
 induction r with
 |nil=>exact .nil
 |@cons p q ps I h t m=>
  rw[S4,S4];refine .cons ?_ m;obtain⟨h1,h2,h3⟩:=h
  delta putAt
  by_cases e:p.1=k
  .rw[zcu e,zcu (h1.symm.trans e)];exact⟨h1,h2,K⟩
  .rw[zcv e,zcv (λz=>e (h1.trans z))];exact⟨h1,h2,h3⟩
theorem KT.put(r:KT H kvs xs)(k:List Key){b:Addr}{y:V}(hb:H b=some (.tup (k.map kV)))(K:RelV y u):
  KT H (putK kvs k y) (storedH xs k b u):=by
 have e:(kvs.any λs=>decide (s.1=k))=(zaU xs k).isSome:=by rw[rO,(r.val k).j0,Yj]
 delta putK storedH
 rw[e];by_cases q:(zaU xs k).isSome=true
 .rw[zcu q,zcu q];exact r.uR k K
 .rw[zcv q,zcv q];exact XH r ⟨rfl,hb,K⟩
variable{H':Hp}
theorem KT.keeps(r:KT H kvs xs)(ht:∀b ys,H b=some (.tup ys)->H' b=some (.tup ys)):KT H' kvs xs:=
 Paired.Lh r λ_ _ z=>⟨z.1,ht _ _ z.2.1,z.2.2⟩
section
variable{P:Program}{w:zam}{H:Hp}{h:Heap}{a:Addr}
theorem HK{u:HO}(ok:je P w H h)(e:Rd H a u):bV P w H h a u:=e.ok ok
theorem cW{kvs:List (Key×V)}(ok:je P w H h)(e:Rd H a (.dK kvs)):kvs.length<=sizeLine/\(a==zap)=false/\∃vs,KV kvs vs/\h.DictOf (aC P w) a vs:=
 show bV P w H h a (.dK kvs) from HK ok e
theorem HL{kvs:List (Key×V)}(ok:je P w H h)(e:H a=some (.dK kvs)):kvs.length<=sizeLine/\(a==zap)=false/\∃vs,KV kvs vs/\h.DictOf (aC P w) a vs:=cW ok (.inl e)
theorem qT{ks:List Key}(ok:je P w H h)(e:H a=some (.tup (ks.map kV))):(zaq (aC P w)).is h ks a:=by
 obtain⟨_,its,r,o,h1,h2,n,h3,_⟩:=(show bV P w H h a (.tup (ks.map kV)) from ok a _ e)
 exact⟨o,its.toArray,n,h1,h2,h3,by simpa using hW r⟩
theorem wC(ok:je P w H h)(e:Rd H a (.dT kvs)):kvs.length<=sizeLine/\(a==zap)=false /\
  ∃xs,KT H kvs xs/\h.DictOfH (zaq (aC P w)) a xs:=by
 obtain⟨z,y,xs,r,o,es,ep,h1,h2,h3,h4,h5⟩:=(HK ok e)
 refine⟨z,y,xs,r,o,es,ep,h1,h2,h3,h4,λx hx=>?_,h5⟩;have all:∀{l:List (List Key×V)}{m:List (List Key×Addr×Value)},KT H l m->∀x∈m,(zaq (aC P w)).is h x.1 x.2.1:=by
  intro l m q;induction q with
  |nil=>intro x hx;exact nomatch hx
  |@cons p q ps I n t Y=>
   intro x hx;rcases SR.mp hx with e|hx
   .subst e;exact qT ok (by rw[<-n.1];exact n.2.1)
   .exact Y x hx
 exact all r x hx
theorem O1(ok:je P w H h)(e:H a=some (.dT kvs)):kvs.length<=sizeLine/\(a==zap)=false /\
  ∃xs,KT H kvs xs/\h.DictOfH (zaq (aC P w)) a xs:=wC ok (.inl e)
end
def vD(H:Hp)(a:Addr)(y:V)(r:Option V):Prop:=
 (∃kvs k,Rd H a (.dK kvs)/\y=kV k/\r=fQ kvs k)\/∃kvs k b,Rd H a (.dT kvs)/\y=.ref b/\H b=some (.tup (k.map kV))/\r=fQ kvs k
def N8(H:Hp)(a:Addr)(y v:V)(H':Hp):Prop:=
 (∃kvs k,H a=some (.dK kvs)/\y=kV k/\kvs.length<sizeLine/\H'=upd H a (.dK (putK kvs k v))) \/
 ∃kvs k b,H a=some (.dT kvs)/\y=.ref b/\H b=some (.tup (k.map kV))/\kvs.length<sizeLine/\H'=upd H a (.dT (putK kvs k v))
variable{Q:Value->Shared->Prop}{h':Heap}
section
variable{X:Cx}{pins:List (Addr×Obj)}{Y:St}{H:Hp}{s:Shared}{a:Addr}{y v:V}{u r:Value}{o:Option V}{A:zan}{E:Value->Shared->Prop}
theorem Inv.big(I:Inv X pins Y H s):zap<s.heap.objs.size:=by have h:=(I.mod.glob.keeps I.bk).lt;exact UC W1 h
theorem yL(f:A.units+1<cLine)(I:Inv X pins Y H s)(g:vD H a y (some v))(K:RelV y u)(h:∀r s',Inv X pins Y H s'->RelV v r->Q r s'):
  zaj (zak X.prog X.w) A (zb4 (.ref a) u) Q E s:=by
 rcases g with ⟨kvs,k,e,O,l⟩|⟨kvs,k,b,e,O,G,l⟩
 .subst O;obtain⟨z,hd,vs,rel,R⟩:=cW I.hok e;obtain⟨r,t,q⟩:=jv.some_of (v:=v) (o:=zbT vs k) (by rw[l];exact rel.val k);exact wpAny_getItem_of (wB K) R.mapOf t (h r _ (I.tok _) q)
 .subst O;cases (show u=Tv b from K);obtain⟨z,hd,xs,rel,R⟩:=wC I.hok e;obtain⟨r,t,q⟩:=jv.some_of (v:=v) (o:=(zaU xs k).map (·.2)) (by rw[l];exact rel.val k);obtain⟨p,hp,x⟩:=Option.map_eq_some_iff.mp t;refine zbZ (zaH f) (qT I.hok G) R hp ?_;rw[x];exact h r _ (I.tok _) q
theorem GH(f:A.units+1<cLine)(I:Inv X pins Y H s)(g:vD H a y o)(K:RelV y u)(h:∀s',Inv X pins Y H s'->Q (.bool (!o.isSome)) s'):
  zaj (zak X.prog X.w) A (zaz .NotIn u (.ref a)) Q E s:=by
 rcases g with ⟨kvs,k,e,O,l⟩|⟨kvs,k,b,e,O,G,l⟩
 .subst O;obtain⟨z,hd,vs,rel,R⟩:=cW I.hok e;refine wpAny_notIn_of (wB K) hd R.mapOf ?_;rw[<-(rel.val k).j0,<-l];exact h _ (I.tok _)
 .subst O;cases (K);obtain⟨z,hd,xs,rel,R⟩:=wC I.hok e;refine wpAny_notIn_heap (zaH f) (qT I.hok G) hd R ?_;have q:=(rel.val k).j0;rw[Yj] at q;rw[<-q,<-l];exact h _ (I.tok _)
theorem kS{ob:HO}(I:Inv X pins Y H s)(mu:OV (H a))(hs:U9 a s.heap h')(he:∃q,h'.get? a=some q)(new:bV X.prog X.w (upd H a ob) h' a ob):
  Inv X pins Y (upd H a ob) { s with heap:=h',toks:=t' }:=
 I.write (x:=a) (e:=a) mu (.inl rfl) (λb q hb z=>(hs.2 b hb).trans z) he new
theorem Dm{P:Program}{kvs:List (Key×V)}{vs:List (Key×Value)}(z:kvs.length<=sizeLine)(hd:(a==zap)=false)(rel:KV kvs vs)(R:h'.DictOf (aC P w) a vs):
  bV P w H' h' a (.dK kvs):=⟨z,hd,vs,rel,R⟩
theorem yg{Q:Unit->Shared->Prop}(f:A.units+1<cLine)(I:Inv X pins Y H s)(g:N8 H a y v H')(K:RelV y u)(C:RelV v r)(h:∀s',Inv X pins Y H' s'->Q () s'):
  zaj (zak X.prog X.w) A (zcj (.ref a) u r) Q E s:=by
 rcases g with ⟨kvs,k,e,O,l,N⟩|⟨kvs,k,b,e,O,G,l,N⟩
 .subst O N;obtain⟨z,hd,vs,rel,R⟩:=HL I.hok e;have hz:vs.length<=sizeLine:=by rw[<-rel.length];exact z
  have hl:(putK kvs k v).length<=sizeLine:=by have:=j9 kvs k v;lia
  refine wpAny_setItem_pairs (hsz:=hz) (wB K) R λh' J hs=>h _ ?_;have he:∃q,h'.get? a=some q:=let ⟨q,_,_,n,_⟩:=J;⟨q,n⟩
  exact kS I (by rw[e];exact V6) hs he (Dm hl hd (rel.put k C) J)
 .subst O N;cases (show u=Tv b from K);obtain⟨z,hd,xs,rel,R⟩:=O1 I.hok e;have hz:xs.length<=sizeLine:=by rw[<-Um rel];exact z
  have hl:(putK kvs k v).length<=sizeLine:=by have:=j9 kvs k v;lia
  refine zb0 (hsz:=hz) (zaH f) (qT I.hok G) R λh' J hs=>h _ ?_;obtain⟨q,es,ep,n,h2,h3,h4,_,h5⟩:=J;refine kS I (by rw[e];exact V6) hs ⟨q,n⟩ ⟨hl,hd,_,(rel.put k G C).keeps λc ys U=>?_,q,es,ep,n,h2,h3,h4,h5⟩;rw[az (NK U e (λz=>nomatch z))];exact U
end
def uX(i:Expr):Prop:=∀z y,subscripted i false z y=operate [z,y] (zb4 z y)
theorem xg{prog:Program}{A:zan}{E:Value->Shared->Prop}{env:Env}{value slice:Expr}{pos:Pos}{id:String}
  (hl:zcq (.type T) "__getitem__" = pure (some (.builtin id)))(hs:uX slice)
  (h:zaj (zak prog w) A (eval value env) (λo Z=>zaj (zak prog w) A (eval slice env) (λi U=>U.TypeIs o T/\zaj (zak prog w) A (zb4 o i) Q E U) E Z) E s):
  zaj (zak prog w) A (eval (.Subscript value slice pos) env) Q E s:=by
 refine zcr (zaN h (λo Z O=>zaN O (λi U u=>?_) λ_ _ x=>x) λ_ _ x=>x);obtain⟨hT,u⟩:=u;refine zaf ?_;refine zaf (zbH hT hl ?_);have fin:zaj (zak prog w) A (subscripted slice false o i) (λr P=>zaj (zak prog w) A (letTemporaryGo value o r >>= λ_=>pure r) Q E P) E U:=by rw[hs o i];exact wpAny_operating (zaN u (λr P v=>zaf (wpAny_letTemporaryGo (zag v))) λ_ _ x=>x)
 first
  |exact zag (zaf fin)
  |exact zaf (zag (zaf fin))
  |exact zaf fin
theorem tV{X:Cx}{Y:St}{a:Addr}{y:V}(I:Inv X pins Y H s)(g:vD H a y o):s.TypeIs (.ref a) "dict" := by
 rcases g with ⟨kvs,k,e,_,_⟩|⟨kvs,k,b,e,_,_,_⟩
 .obtain⟨_,_,vs,_,R⟩:=cW I.hok e;exact R.typeIs
 .obtain⟨_,_,xs,_,R⟩:=wC I.hok e;exact R.typeIs
noncomputable def Nt(h ty:TE):TE:=λY H Q=>h Y H λx X=>ty Y X λy V=>∃a v,x=.ref a/\vD V a y (some v)/\Q v V
noncomputable def F6(ty h:TE):TE:=λY H Q=>ty Y H λy X=>h Y X λx V=>∃a o,x=.ref a/\vD V a y o/\Q (.bl (!o.isSome)) V
noncomputable def OO(h ty q:TE):TS:=λD Y H=>q Y H λv X=>h Y X λx V=>ty Y V λy u=>∃a Q,x=.ref a/\N8 u a y v Q/\D.nx Y Q
section
variable{X:Cx}{o i e value:Expr}{pos pos' tpos:Pos}{td ty tv:TE}
theorem FE(f:X.A.units+1<cLine)(ho:PE X o td)(hi:PE X i ty)(hs:uX i):PE X (.Subscript o i pos) (Nt td ty):=by intro pins s Y H Q I h;refine xg WN.lookup hs (bG (ho pins s Y H _ I h) λu s1 ⟨x,c,e,E,r⟩=>bG (hi pins s1 Y c _ e r) λB s2 ⟨y,V,j,K,a,v,ex,g,n⟩=>?_);subst ex;obtain rfl:u=Tv a:=E;exact⟨tV j g,yL f j g K λw O G q=>⟨v,V,G,q,n⟩⟩
theorem pe(f:X.A.units+1<cLine)(hi:PE X i ty)(ho:PE X o td):PC X .NotIn i o (F6 ty td):=by intro pins s Y H Q I h;refine bG (hi pins s Y H _ I h) λB s1 ⟨y,c,e,K,r⟩=>bG (ho pins s1 Y c _ e r) λu s2 ⟨x,V,j,E,a,z,ex,g,n⟩=>?_;subst ex;obtain rfl:u=Tv a:=E;exact GH f j g K λO G=>⟨.bl (!z.isSome),V,G,rfl,n⟩
theorem Ff(f:X.A.units+1<cLine)(ho:PE X o td)(hi:PE X i ty)(t:PE X value tv)(hs:zaJ value (some (.Subscript o i pos')) pos.line X.env=pure false):
  PS X (.Assign [.Subscript o i pos'] value pos) (OO td ty tv):=by
 intro pins s Y H D I h;refine zbC (bG (t pins s Y H _ I h) λr s1 ⟨v,c,e,C,E⟩=>bG (ho pins s1 Y c _ e E) λu s2 ⟨x,V,j,Q,n⟩=>bG (hi pins s2 Y V _ j n) λB O ⟨y,q,G,K,a,Z,ex,g,F⟩=>?_) hs;subst ex;obtain rfl:u=Tv a:=Q;exact yg f G g K C λw R=>⟨Y,Z,R,F⟩
end
theorem CC{P:Program}(h:Heap)(hb:zap<h.objs.size):bV P w H (h.push { cls:=.type "dict",data:=.dict #[] }) h.objs.size (.dK []):=
 ⟨Tu _,beq_eq_false_iff_ne.mpr (Uu (S8 hb)),[],.nil,Heap.DictOf.new h⟩
def KA:TE:=λ_ H Q=>∀p,H p=none->Q (.ref p) (upd H p (.dK []))
section
variable{X:Cx}{pos:Pos}
theorem Cw:PE X (.Dict [] [] pos) KA:=λpins s Y H Q I h=>wpAny_Dict_empty ⟨.ref s.heap.objs.size,_,I.laid (λ_ _ q=>SI _ q) (SO _) (CC s.heap I.big),rfl,h _ (I.hok.fresh (SO _))⟩
end
structure M1(X:Cx)(o:Expr)(m:Str)(apos:Pos)(e:Expr)(cpos:Pos):Prop where
 base:zaI o m X.env (eval o X.env)=eval o X.env
 few:((zaG cpos (zai [e] X.env)).all (λx=>!x.1)&&(zbO cpos (zbf [] X.env)).all (λx=>x.1.isSome)
  && decide (([e]:List Expr).length+([]:List za1).length+(if ([]:List za1).isEmpty then 0 else 1)<30))=true
 line:(apos.endLine==cpos.line)=true
 trees:zaG cpos (zai [e] X.env)=[(false,eval e X.env)]
section
variable{X:Cx}{pins:List (Addr×Obj)}{Y:St}{H:Hp}{s:Shared}{a:Addr}{kvs:List (Key×V)}{A:zan}{E:Value->Shared->Prop}
theorem Dk(I:Inv X pins Y H s)(e:Rd H a (.dK kvs))(h:∀p s',H p=none->Inv X pins Y (upd H p (.dK kvs)) s'->Q (.ref p) s'):zaj (zak X.prog X.w) A (call (.type "dict") [.ref a]) Q E s:=by obtain⟨z,hd,vs,rel,R⟩:=cW I.hok e;refine kt_call_dict hd R (by rw[<-rel.length];exact z) λh' J hs=>?_;refine h _ _ (I.hok.fresh (SO _)) (I.laid (λb q n=>?_) (SO _) (Dm z (beq_eq_false_iff_ne.mpr (Uu (S8 I.big))) rel J));exact(hs.2 b (S8 (SV n))).trans (SI _ n)
end
end L2
namespace Att
open PySem PySem.W PySem.Calls PyProof.Rows
variable{h:Heap}
theorem kO{P:Params}:∀(ns:List Int)(vs:List Value),WellAll P h vs (ns.map ZH)->zck vs ns:=by
 intro ns;induction ns with
 |nil=>intro vs w;cases w;exact .nil
 |cons n ns m=>
  intro vs w;cases w with
  |cons a b=>cases a;exact .cons _ _ (m _ b)
theorem zx{l:OpenLaw}{n:Nat}(hn:l.most=some n){P:Params}{args:List WData}{H:List Value}
  (Y:l.row.toRowW.claim.pre args=true)(u:WellAll P h H args):
  ∃a vs ns,H=[Tv a]/\args=[WData.list (ns.map ZH)]/\h.get? a=some { cls:=.type "list",data:=.seq vs.toArray }/\zck vs ns/\ns.length<=n:=by
 have x:=(pre_splitW Y).1;have hc:=(pre_splitW Y).2;obtain⟨d,r,rfl,h1,h2⟩:=hasAllW_cons x;obtain rfl:=hasAllW_nil h2;obtain⟨xs,rfl,h3⟩:=hasW_list h1;obtain⟨ns,rfl⟩:=items_int h3;have z:ns.length<=n:=by
  have h4:(WTm.not (.lt (.lit (.int (n:Int))) (.len (.arg 0)))).holds [] { args:=[.list (ns.map .int)] }=true:=by have h4:=(holds_andW hc).1;rw[hn] at h4;exact h4
  have h5:=condW_of h4 (w_not (w_lt w_lit (w_len_list (w_arg rfl))));refine V4 λq=>?_
  first
   |(rw[zcx q'] at h5;exact absurd h5 W1)
   |(simp at h5;lia)
 cases u with
 |cons y A=>
  cases A;cases y with
  |list ho v=>exact⟨_,_,ns,rfl,rfl,ho,kO ns _ v,z⟩
theorem yo(l:OpenLaw)(args:List WData):l.row.toRowW.claim.post args (.bool true) args=true:=
 postW_of
  (show Zl [] (.bool true) .bool=true by first|rfl|decide|simp[Zl,WShape.arms,WShape.armsAll])
  (w_eq_bool (w_res rfl) w_lit) rfl
theorem rZ{l:OpenLaw}{n:Nat}{q:Program}{loose:List Str}{XP:(Str->Option Value)->Heap->Prop}{YP:zam->Heap->Prop}{d:DefRec}
  (hn:l.most=some n)(N:d.params.defaults=[])
  (call:∀(w:zam)(s₀ Z:Shared)(mg mb:Str->Option Value)(v:Addr)(o:Obj)(pm cd doc:Value)(a:Addr)(vs:List Value)(ns:List Int),
   Ground q loose [] XP w s₀ mg mb Z.heap->YP w Z.heap->
   Z.heap.get? v=some o->o.data=.func (docDef d.name d.params d.body d.scope pm cd doc)->Z.heap.CodeRec cd d.name->mg d.name=some (.ref v)->
   Z.heap.get? a=some { cls:=.type "list",data:=.seq vs.toArray }->zck vs ns->ns.length<=n->Z.gens=#[]->
   zbc (zak l.prog w) zbD (.call (.ref v) ⟨[.ref a],[]⟩) (λr s'=>r=.ok (.ret (.bool true))/\OldK Z.heap s'.heap/\s'.os=Z.os/\zbp s'.gens) Z):
  WalkO q loose XP YP l.row.toRowW d [] (λf vs=>Yk f vs):=by
 intro w s₀ Z mg mb G Y v o pm cd doc dV kV ho hd c T Q J args U as D b p u t;obtain rfl:dV=.none:=Dflts.none T N;obtain rfl:kV=.none:=Dflts.noKw T;obtain⟨a,vs,ns,rfl,rfl,L,H,z⟩:=zx hn D u;refine enter_call (zaS (call w s₀ Z mg mb v o pm cd doc a vs ns G Y ho (fd_plain hd) c Q L H z J) λr s' x=>?_);obtain⟨rfl,h2,h3,h4⟩:=x;exact⟨.inl ⟨.bool true,.bool true,[],rfl,λ_=>rfl,.bool true,yo l _,λ_=>⟨Zv,λ_ y=>(nomatch y)⟩⟩,h2,h3,h4⟩
end Att
namespace L2
open PySem PySem.Spec PyProof.Rows
theorem pq:∀{vs:List Value}{ns:List Int},zck vs ns->Vals (ns.map V.int) vs
 |_,_,.nil=>.nil
 |_,_,.cons n t h=>.cons ⟨t,rfl⟩ (pq h)
def Ly(H:Hp):Prop:=∀b,H b=none\/∃o xs,H b=some (.frz o (.lst xs))
theorem DQ{P:Program}{w:zam}{K:SD}{mg mb:Str->Option Value}{CX:tL}{k:Nat}{p a:Addr}{fd:zaB}{x:Str}{sp:Sp}{Z:Shared}{vs:List Value}{ns:List Int}
  (S:K.In Z.heap)(D:Z.heap.Ns zas mg)(hb:Z.heap.Ns zby mb)(t:∀x:Str,x ≠ "__name__" -> mb x=zal x)(I:Z.heap.NoLimit)(g:Z.gens=#[])
  (U:Z.heap.get? a=some { cls:=.type "list",data:=.seq vs.toArray })(hi:zck vs ns)(hl:ns.length<=sizeLine)(G:eJ k zbD)
  (F:∀base:Heap,K.In base->base.Ns zas mg->fE P w K mg base CX k p fd [x] sp)(A:∀(s:Shared)(u:Value),zbz s fd ⟨[u],[]⟩ [(x,u)])
  (y:∀H:Hp,Ly H->eI K H a (ns.map V.int)->sp [.ref a] H (λv _=>v=.bl true) λ_ _ _=>False)
  (J:∀H e s',CX [] H Z (λ_ _ _=>False) e s'->False):
  zbc (zak P w) zbD (.call (.ref p) ⟨[.ref a],[]⟩) (λr s'=>r=.ok (.ret (.bool true))/\OldK Z.heap s'.heap/\s'.os=Z.os/\zbp s'.gens) Z:=by
 have C:=pq hi;have L:=hi.length;have l:∀H:Hp,Ly H->eI K H a (ns.map V.int)->je P w H Z.heap->(∀b,H b≠none->b=a)->(H a≠none->K.lookup a=none)->
   zbc (zak P w) zbD (.call (.ref p) ⟨[.ref a],[]⟩) (λr s'=>r=.ok (.ret (.bool true))/\OldK Z.heap s'.heap/\s'.os=Z.os/\zbp s'.gens) Z:=by
  intro H i R hok O j;have k7:∀{b:Addr}{o:Obj},Z.heap.get? b=some o->H b=none->(qc Z.heap H).get? b=some o:=λe n=>AH e n;have B:∀{b:Addr}{o:Obj}{es:Array za9}{ep:Nat},Z.heap.get? b=some o->o.data=.dict es ep->H b=none:=λ{b o es ep} e d=>by
   cases q:H b with
   |none=>rfl
   |some u=>have E:b=a:=O b (by rw[q];simp);subst E;rw[U] at e;cases e;have d':Data.seq vs.toArray _=Data.dict es ep:=d;cases d'
  have Y:∀{b:Addr}{m:Str->Option Value},Z.heap.Ns b m->(qc Z.heap H).Ns b m:=λ{b m} ⟨o,es,ep,e,d,r⟩=>⟨o,es,ep,k7 e (B e d),d,r⟩
  have N:K.In (qc Z.heap H):=λb o e=>k7 (S b o e) (by
   cases q:H b with
   |none=>rfl
   | some u=>have E:b=a:=O b (by rw[q];simp);subst E;rw[j (by rw[q];simp)] at e;cases e)
  have f:Mod K mg (qc Z.heap H):=⟨N,Y D,⟨mb,Y hb,t⟩,let ⟨mc,h1,h2⟩:=I;⟨mc,Y h1,h2⟩⟩
  have X:EZ P w K mg (qc Z.heap H) zbD [] Z H:=⟨rfl,f,λb o e=>GI e,XN (zp _ _),trivial,λb hb=>absurd (show b∈([]:List Addr) from hb) T1,hok,.of_eq g⟩
  refine zaS ((F _ N (Y D)).run zbD [] Z H ⟨[.ref a],[]⟩ [.ref a] [.ref a] _ _ G X (A Z (.ref a)) (.cons rfl .nil) (y H i R)) λr s' h=>?_;cases r with
  |error e=>exact(J H e s' h).elim
  |ok fl=>
   cases fl with
   |next=>exact Vj h
   |brk=>exact Vj h
   |cont=>exact Vj h
   |ret u=>
    obtain⟨v,H',os,bare,un,Q,r',q⟩:=h;have q':v=.bl true:=q;subst q';obtain rfl:u=Zt true:=r';refine⟨rfl,OldK.of_keep λb o e=>?_,os,bare⟩;cases q:H b with
    |none=>exact un.keep b o e q (by intro z;exact absurd (show b∈([]:List Addr) from z) T1) T1
    |some u=>
     rcases i b with z|⟨ob,xs,z⟩
     .rw[q] at z;cases z
     .have z2:=un.frzs b ob _ z;obtain⟨c,_⟩:=hok b _ z;obtain⟨e2,_⟩:=Q b _ z2;rw[e] at c;cases c;exact e2
 cases hk:K.lookup a with
 |some o=>have e:=S a o hk;rw[U] at e;cases e;refine l (λ_=>none) (λ_=>.inl rfl) (.inr ⟨_,vs.toArray,_,hk,rfl,rfl,rfl,by rw[SM,L];exact hl,by simpa using C⟩) (λb u z=>by have T:(none:Option HO)=some u:=z;cases T) (λb z=>absurd rfl z) λz=>absurd rfl z
 |none=>
  refine l (λb=>if b=a then some (.frz { cls:=.type "list",data:=.seq vs.toArray } (.lst (ns.map V.int))) else none) (λb=>?_) (.inl (.inr ⟨{ cls:=.type "list",data:=.seq vs.toArray },zcu rfl⟩)) (λb u z=>?_) (λb z=>?_) λ_=>hk
  .by_cases hb:b=a
   .exact .inr ⟨_,_,zcu hb⟩
   .exact .inl (zcv hb)
  .by_cases hb:b=a
   .have T:=(zcu hb).symm.trans z;cases T;subst hb;exact⟨U,by rw[SE];exact hl,vs,_,C,U⟩
   .have T:=(zcv hb).symm.trans z;cases T
  .by_cases hb:b=a
   .exact hb
   .exact absurd (zcv hb) z
noncomputable def dy(s:Stmt):Arguments:=match s with
 | .FunctionDef _ a _ _ _ _ _ _ _ _=>a
 |_=>{ posonlyargs:=[],args:=[],vararg:=none,kwonlyargs:=[],kw_defaults:=[],kwarg:=none,defaults:=[] }
noncomputable def cX(s:Stmt):List Stmt:=match s with
 | .FunctionDef _ _ b _ _ _ _ _ _ _=>b
 |_=>[]
noncomputable def aU(s:Stmt):Scope:=match s with
 | .FunctionDef _ _ _ _ _ _ sc _ _ _=>sc
 |_=>{ kind:=.function,names:=[],isGenerator:=false,isCoroutine:=false }
noncomputable abbrev E0:XK:=λ_ _ _=>False
theorem rF{A:zan}{k:Nat}(m:eJ k A):A.units+1<cLine:=T4 (Yp (by decide:1<=64) _) m.units
section
variable{X:Cx}
theorem pv(i:Nat){x:Str}{pos:Pos}(hN:X.N[i]?=some x:=by rfl)(hv:pD X.env.scope x:=by first|exact Or.inl rfl|exact Zm (Or.inl rfl)|exact Zm (Zm rfl))(hd:gA x:=by decide)
  (hcd:sX x:=by decide):PE X (.Name x pos) (EB i):=cG hN hv hd hcd
end
def P4(H H':Hp):Prop:=∀b o,H b=some o->H' b=some o
end L2
set_option maxHeartbeats 4000000
namespace L2
open PySem PySem.Spec PyProof.Rows PySem.W
open PySem.Builtin.ObjectAttr (find dataDescriptor? getOf)
open PySem.Builtin.Getset_descriptor (descrGet descrGetter descrCheckInstance descrNameAndClass)
section
variable{prog:Program}{w:zam}{A:zan}{E:Value->Shared->Prop}{h:Heap}{g:Array zb1}{d:Drawn}{t:Nat}{os:OsState}{K:Frag}{x C:Addr}
structure Nr(K:Frag)(C:Addr):Prop where
 ga:findIn K (.ref C) "__getattribute__" = some (some (.builtin "BaseException.__getattribute__"))
 gt:findIn K (.ref C) "__getattr__" = some none
 cl:findIn K (.ref C) "__class__" = some (some (.builtin "object.__class__"))
 gg:specialIn K (.builtin "object.__class__") "__get__" = some (some (.builtin "getset_descriptor.__get__"))
 tk:takesIn K (.builtin "object.__class__")=some true
 ob:mroIn K C (.type "object")=some true
 be:mroIn K C (.type "BaseException")=some true
def ExcAt(a C:Addr)(h:Heap):Prop:=∃H,h.get? a=some H/\H.cls=.ref C
theorem ExcAt.type{M:Model}(I:ExcAt x C h):Looks M h (typeOf (.ref x)) (.ref C):=by obtain⟨H,D,l⟩:=I;exact l▸(Looks.ld D).andThen .now
end
variable{C:Addr}
theorem Nr.there{K:Frag}(T:Nr K C):∃oc od cd sl,K.lookup C=some ⟨oc,od,.cls cd,sl⟩:=by
 have q:=T.ob;unfold mroIn clsIn at q;split at q
 .rename_i a b c e f;exact⟨a,b,c,e,f⟩
 .cases q
open PySem PySem.Spec PyProof.Rows
variable{w:zam}{H:Hp}{o:HO}
theorem bV.is{P:Program}{h:Heap}{a:Addr}(x:bV P w H h a o):∃ob,h.get? a=some ob:=by
 cases o with
 |lst xs=>obtain⟨_,_,_,_,e⟩:=x;exact⟨_,e⟩
 |tup xs=>obtain⟨_,_,_,ob,e,_⟩:=x;exact⟨_,e⟩
 |dK kvs=>obtain⟨_,_,_,_,ob,_,_,e,_⟩:=x;exact⟨_,e⟩
 |dT kvs=>obtain⟨_,_,_,_,ob,_,_,e,_⟩:=x;exact⟨_,e⟩
 |set S n=>obtain⟨ob,_,_,_,e,_⟩:=x;exact⟨_,e⟩
 |ins C dx fs=>obtain⟨_,_,_,e,_⟩:=x;exact⟨_,e⟩
 |own y=>obtain⟨_,e⟩:=x;exact⟨_,e⟩
 |xd fs=>obtain⟨_,⟨_,_,_,e,_⟩,_⟩:=x;exact⟨_,e⟩
 |rng lo hi=>obtain⟨_,_,_,e⟩:=x;exact⟨_,e⟩
 |frz ob u=>obtain⟨e,_⟩:=x;exact⟨_,e⟩
 |tbl ps=>exact⟨_,x⟩
 |met f y=>exact⟨_,x⟩
 |ext φ=>obtain⟨_,⟨_,e⟩,_⟩:=x;exact⟨_,e⟩
 |dU φ=>obtain⟨_,⟨_,e⟩,_⟩:=x;exact⟨_,e⟩
abbrev XS:=Value->St->Hp->Prop
abbrev TX:=Ends->XS->St->Hp->Prop
section
variable{X:Cx}
variable{k:Nat}{f C:Addr}{fd:zaB}{ps:List Str}{sp:Sp}{dvs:List V}{ds:List Value}{x m:Str}{p pos apos:Pos}{e o:Expr}{es:List Expr}{ta:TE}{t:TA}
noncomputable def Qf(a C:Addr):HO:=.ext (ExcAt a C)
end
def Bd(n:Nat)(x:Int):Prop:=x.natAbs<2^n
theorem Bd.mono{m n:Nat}{x:Int}(h:Bd m x)(k:m<=n):Bd n x:=SN h (UE W1 k)
theorem Bd.bits{n:Nat}{x:Int}(h:Bd n x):W3 x<=n:=by
 delta W3
 split
 .exact Tu _
 .rename_i z
  have B:x.natAbs≠0:=λq=>z (by simp[Int.natAbs_eq_zero.mp q])
  exact(ZI B).mpr h
theorem Bd.Na{m n:Nat}{x y:Int}(h:Bd m x)(k:Bd n y)(hs:m+n<=134217728):zcs x y:=zcs.of_le h.bits k.bits hs
theorem Bd.mul{m n:Nat}{x y:Int}(h:Bd m x)(k:Bd n y):Bd (m+n) (x*y):=by
 delta Bd at *
 rw[Xe,Nat.pow_add]
 exact Nat.mul_lt_mul'' h k
theorem Bd.add{m n:Nat}{x y:Int}(h:Bd m x)(k:Bd n y):Bd (max m n+1) (x+y):=by have h1:=h.mono (Y4 m n);have Y:=k.mono (YV m n);unfold Bd at *;lia
theorem Bd.neg{n:Nat}{x:Int}(h:Bd n x):Bd n (-x):=by delta Bd at *;rwa[Int.natAbs_neg]
theorem Bd.sub{m n:Nat}{x y:Int}(h:Bd m x)(k:Bd n y):Bd (max m n+1) (x-y):=by rw[YA];exact h.add k.neg
theorem Bd.log{n:Nat}{x:Int}(h:Bd n x)(hn:n<=9000):x.natAbs.log2<9000:=by
 by_cases z:x.natAbs=0
 .rw[z];decide
 .exact SN ((ZI z).mpr h) hn
section
variable{X:Cx}
def Rw(_ j:Int):Prop:=j≠0/\Bd 9000 j
theorem Fs:eG X (za3 .Mult) (rI zcs λi j=>.int (i*j)):=nN λ_ _ _ _ _ _ _ hc q=>mul_int q hc
theorem BL:eG X (za3 .FloorDiv) (rI Rw λi j=>.int (i.fdiv j)):=nN λ_ _ _ _ _ _ _ hc q=>floordiv_int hc.1 q (.inl (PyProof.noPylong_of_log2 (hc.2.log (SO _))))
end
inductive D where
 |non|bl(b:Bool)|int(i:Int)|str(x:Str)|tup(ds:List D)|lst(ds:List D)
mutual
noncomputable def D.eq:D->D->Bool
 | .non,.non=>true
 | .bl a,.bl b=>a==b
 | .bl a,.int b=>(if a then 1 else 0)==b
 | .int a,.bl b=>a==(if b then 1 else 0)
 | .int a,.int b=>a==b
 | .str a,.str b=>a==b
 | .tup xs,.tup ys=>D.eqs xs ys
 | .lst xs,.lst ys=>D.eqs xs ys
 |_,_=>false
noncomputable def D.eqs:List D->List D->Bool
 |[],[]=>true
 |x::xs,y::ys=>D.eq x y&&D.eqs xs ys
 |_,_=>false
end
mutual
noncomputable def D.depth:D->Nat
 | .tup xs=>D.gq xs+1
 | .lst xs=>D.gq xs+1
 |_=>0
noncomputable def D.gq:List D->Nat
 |[]=>0
 |x::xs=>max (D.depth x) (D.gq xs)
end
mutual
theorem D.jt:∀d:D,D.eq d d=true
 | .non=>rfl
 | .bl b=>beq_self_eq_true b
 | .int i=>beq_self_eq_true i
 | .str x=>beq_self_eq_true x
 | .tup xs=>D.lI xs
 | .lst xs=>D.lI xs
theorem D.lI:∀ds:List D,D.eqs ds ds=true
 |[]=>rfl
 |x::xs=>by show (D.eq x x&&D.eqs xs xs)=true;rw[D.jt x,D.lI xs];rfl
end
mutual
inductive Den(K:SD)(H:Hp):V->D->Prop
 |non:Den K H .non .non
 |bl(b:Bool):Den K H (.bl b) (.bl b)
 |int(i:Int):Den K H (.int i) (.int i)
 |str(x:Str):Den K H (.str x) (.str x)
 |tup{a:Addr}{xs:List V}{ds:List D}(e:eU K H a xs)(r:eV K H xs ds):Den K H (.ref a) (.tup ds)
 |lst{a:Addr}{xs:List V}{ds:List D}(e:eI K H a xs)(r:eV K H xs ds):Den K H (.ref a) (.lst ds)
inductive eV(K:SD)(H:Hp):List V->List D->Prop
 |nil:eV K H [] []
 |cons{x:V}{d:D}{xs:List V}{ds:List D}(h:Den K H x d)(r:eV K H xs ds):eV K H (x::xs) (d::ds)
end
theorem eV.len{K:SD}{H:Hp}:∀{xs:List V}{ds:List D},eV K H xs ds->xs.length=ds.length
 |_,_,.nil=>rfl
 |_,_,.cons _ r=>by rw[S5,S5,r.len]
theorem eV.at{K:SD}{H:Hp}:∀{xs:List V}{ds:List D}(j:Nat){x:V}{d:D},eV K H xs ds->xs[j]?=some x->ds[j]?=some d->Den K H x d
 |_,_,0,_,_,.cons h _,e1,e2=>by cases e1;cases e2;exact h
 |_,_,j+1,_,_,.cons _ r,e1,e2=>r.at j e1 e2
theorem D.oO:∀{ds:List D}(j:Nat){d:D},ds[j]?=some d->D.depth d<=D.gq ds
 |x::xs,0,_,e=>by cases e;exact Y4 _ _
 |x::xs,j+1,_,e=>Tn (D.oO j e) (YV _ _)
theorem D.gr:∀(xs ys:List D),D.eqs xs ys=((Tc (min xs.length ys.length)).all (λj=>D.eq (xs.getD j .non) (ys.getD j .non))&&xs.length==ys.length)
 |[],[]=>rfl
 |[],_::_=>rfl
 |_::_,[]=>rfl
 |x::xs,y::ys=>by
  rw[show D.eqs (x::xs) (y::ys)=(D.eq x y&&D.eqs xs ys) from rfl,D.gr xs ys,S5,S5,Nat.succ_min_succ,List.range_succ_eq_map,T5,Zn];have e:(xs.length+1==ys.length+1)=(xs.length==ys.length):=by rw[WO];simp
  rw[e,Bool.and_assoc];rfl
variable{xs ys:List V}{u v:Value}{us:List Value}
section
variable{X:Cx}{pins:List (Addr×Obj)}{Y:St}{H:Hp}{s:Shared}
theorem wZ{a:Addr}(I:Inv X pins Y H s)(h1:eU X.K H a xs)(h2:eI X.K H a ys):False:=by obtain⟨_,_,⟨o,e,c,_⟩,_⟩:=I.tuple h1;obtain⟨_,_,⟨o',n',k,v,_,d'⟩,_⟩:=I.list h2;rw[e] at k;cases k;rw[c] at v;injection v with q;exact absurd q W1
mutual
theorem Den.inj(I:Inv X pins Y H s):∀{v:V}{d e:D},Den X.K H v d->Den X.K H v e->d=e
 |_,_,_,.non,h=>by cases h;rfl
 |_,_,_,.bl b,h=>by cases h;rfl
 |_,_,_,.int i,h=>by cases h;rfl
 |_,_,_,.str x,h=>by cases h;rfl
 |_,_,_,.tup e r,h=>by
  cases h with
  |tup k P=>cases I.oT e k;rw[eV.inj I r P]
  |lst k P=>exact(wZ I e k).elim
 |_,_,_,.lst e r,h=>by
  cases h with
  |lst k P=>cases I.l7 e k;rw[eV.inj I r P]
  |tup k P=>exact(wZ I k e).elim
theorem eV.inj(I:Inv X pins Y H s):∀{v:List V}{d e:List D},eV X.K H v d->eV X.K H v e->d=e
 |_,_,_,.nil,h=>by cases h;rfl
 |_,_,_,.cons a r,h=>by
  cases h with
  |cons a' P=>rw[Den.inj I a a',eV.inj I r P]
end
theorem oD(I:Inv X pins Y H s){A:zan}{x y:V}{d e:D}(f:A.units<cLine)(hf:gF x=true)(hd:Den X.K H x d)(he:Den X.K H y e)(S:RelV x u)(C:RelV y v):UW A s u v (D.eq d e):=by
 cases hd with
 |tup=>cases hf
 |lst=>cases hf
 |non =>
  cases he with
  |tup q r=>cases S;cases C;obtain⟨_,_,p,_⟩:=I.tuple q;exact .none_tuple p f
  |lst q r=>cases S;cases C;obtain⟨_,_,p,_⟩:=I.list q;exact .none_list p.isList f
  |non => exact cj S C rfl rfl
  |bl b1=>exact cj S C rfl rfl
  |int Z=>exact cj S C rfl rfl
  |str w=>exact cj S C rfl rfl
 |bl F=>
  cases he with
  |tup q r=>cases S;cases C;obtain⟨_,_,p,_⟩:=I.tuple q;exact .bool_tuple _ p f
  |lst q r=>cases S;cases C;obtain⟨_,_,p,_⟩:=I.list q;exact .bool_list _ p.isList f
  |non => exact cj S C rfl rfl
  |bl b1=>exact cj S C rfl rfl
  |int Z=>exact cj S C rfl rfl
  |str w=>exact cj S C rfl rfl
 |int a=>
  cases he with
  |tup q r=>obtain⟨_,rfl⟩:=S;cases C;obtain⟨_,_,p,_⟩:=I.tuple q;exact .int_tuple _ _ p f
  |lst q r=>obtain⟨_,rfl⟩:=S;cases C;obtain⟨_,_,p,_⟩:=I.list q;exact .int_list _ _ p.isList f
  |non => exact cj S C rfl rfl
  |bl b1=>exact cj S C rfl rfl
  |int Z=>exact cj S C rfl rfl
  |str w=>exact cj S C rfl rfl
 |str b=>
  cases he with
  |tup q r=>obtain⟨_,rfl⟩:=S;cases C;obtain⟨_,_,p,_⟩:=I.tuple q;exact .str_tuple _ _ p f
  |lst q r=>obtain⟨_,rfl⟩:=S;cases C;obtain⟨_,_,p,_⟩:=I.list q;exact .str_list _ _ p.isList f
  |non => exact cj S C rfl rfl
  |bl b1=>exact cj S C rfl rfl
  |int Z=>exact cj S C rfl rfl
  |str w=>exact cj S C rfl rfl
theorem Vals.Gk(r:Vals xs us){j:Nat}(U:j<us.toArray.size):∃x,xs[j]?=some x/\RelV x us.toArray[j]:=by
 have hl:=r.length;have Y:j<us.length:=by simpa using U
 have hx:j<xs.length:=by lia
 obtain⟨u,e,S⟩:=r.get (SG hx);rw[SG Y] at e;cases e;exact⟨xs[j],SG hx,by simpa using S⟩
theorem eV.getD{K:SD}{H:Hp}{xs:List V}{ds:List D}(r:eV K H xs ds){j:Nat}{x:V}(e:xs[j]?=some x):Den K H x (ds.getD j .non)/\D.depth (ds.getD j .non)<=D.gq ds:=by
 have U:j<ds.length:=by rw[<-r.len];exact(SF.mp e).1
 have l:=SG U;have N:ds.getD j .non=ds[j]:=by rw[Us,l];rfl
 rw[N];exact⟨r.at j e l,D.oO j l⟩
theorem jO(I:Inv X pins Y H s){n:Nat}(m:∀{A:zan}{x y:V}{d e:D}{u v:Value},A.units+n<cLine->D.depth d<=n->Den X.K H x d->Den X.K H y e->RelV x u->RelV y v->UW A s u v (D.eq d e))
  {A:zan}(f:A.units+(n+1)<cLine){ds es:List D}{vs:List Value}(hn:D.gq ds<=n)(r:eV X.K H xs ds)(q:eV X.K H ys es)(S:Vals xs us)(C:Vals ys vs):
  ∀j (h1:j<us.toArray.size) (h2:j<vs.toArray.size),UW A.in1 s us.toArray[j] vs.toArray[j] (D.eq (ds.getD j .non) (es.getD j .non)):=λj h1 h2=>by
 obtain⟨x,ex,o⟩:=S.Gk h1;obtain⟨y,O,w⟩:=C.Gk h2;obtain⟨Z,h⟩:=r.getD ex;exact m (by show A.units+1+n<cLine;lia) (Tn h hn) Z (q.getD O).1 o w
theorem dR(I:Inv X pins Y H s):∀(n:Nat){A:zan}{x y:V}{d e:D}{u v:Value},A.units+n<cLine->D.depth d<=n->Den X.K H x d->Den X.K H y e->RelV x u->RelV y v->UW A s u v (D.eq d e):=by
 intro n;induction n with
 |zero=>
  intro A x y d e u v f hn hd he S C;cases id hd with
  |tup=>simp[D.depth] at hn
  |lst=>simp[D.depth] at hn
  |_=>exact oD I f rfl hd he S C
 |succ n m=>
  intro A x y d e u v f hn hd he S C;have q:A.units<cLine:=by lia
  cases id hd with
  |@tup a xs ds Z r=>
   cases S;obtain⟨us,L,p,_⟩:=I.tuple Z;cases id he with
   |@tup b ys es l k=>
    cases C;obtain⟨vs,F,T,_⟩:=I.tuple l;by_cases Q:a=b
    .subst Q;rw[hd.inj I he,D.jt];exact .same _
    .refine .of_refs Q ?_;rw[show D.eq (.tup _) (.tup _)=_ from D.gr _ _];have h:us.toArray.size=ds.length:=by rw[SM,<-L.length,r.len]
     have t:vs.toArray.size=es.length:=by rw[SM,<-F.length,k.len]
     rw[<-h,<-t];exact .tuples p T q (jO I m f (by rw[D.depth] at hn;lia) r k L F)
   |@lst b ys es l k=>cases C;obtain⟨vs,F,T,_⟩:=I.list l;exact .tuple_list p T.isList q
   |non => cases C;exact .tuple_none p q
   |bl w=>cases C;exact .tuple_bool _ p q
   |int J=>obtain⟨_,rfl⟩:=C;exact .tuple_int _ _ p q
   |str N=>obtain⟨_,rfl⟩:=C;exact .tuple_str _ _ p q
  |@lst a xs ds Z r=>
   cases S;obtain⟨us,L,p,_⟩:=I.list Z;cases id he with
   |@lst b ys es l k=>
    cases C;obtain⟨vs,F,T,_⟩:=I.list l;by_cases Q:a=b
    .subst Q;rw[hd.inj I he,D.jt];exact .same _
    .refine .of_refs Q ?_;rw[show D.eq (.lst _) (.lst _)=_ from D.gr _ _];have h:us.toArray.size=ds.length:=by rw[SM,<-L.length,r.len]
     have t:vs.toArray.size=es.length:=by rw[SM,<-F.length,k.len]
     rw[<-h,<-t];by_cases hl:us.toArray.size=vs.toArray.size
     .have c:(us.toArray.size==vs.toArray.size)=true:=zcz.mpr hl;rw[c,VV,<-hl,XO];exact .lists p.isList T.isList hl q (jO I m f (by rw[D.depth] at hn;lia) r k L F)
     .have c:(us.toArray.size==vs.toArray.size)=false:=beq_eq_false_iff_ne.mpr hl;rw[c,Vq];exact .lists_lengths p.isList T.isList (by simpa using hl) q
   |@tup b ys es l k=>cases C;obtain⟨vs,F,T,_⟩:=I.tuple l;exact .list_tuple p.isList T q
   |non => cases C;exact .list_none p.isList q
   |bl w=>cases C;exact .list_bool _ p.isList q
   |int J=>obtain⟨_,rfl⟩:=C;exact .list_int _ _ p.isList q
   |str N=>obtain⟨_,rfl⟩:=C;exact .list_str _ _ p.isList q
  |_=>exact oD I q rfl hd he S C
end
section
variable{X:Cx}{pins:List (Addr×Obj)}{Y:St}{H:Hp}{s:Shared}
theorem BR(I:Inv X pins Y H s){n:Nat}{A:zan}{x y:V}{d e:D}(f:A.units+n<cLine)(hn:D.depth d<=n)(hd:Den X.K H x d)(he:Den X.K H y e)(S:RelV x u)(C:RelV y v):SeqAt.RcAt A s u v (D.eq d e):=by
 have q:A.units<cLine:=by lia
 cases id hd with
 |non =>
  cases S;cases id he with
  |non => cases C;exact .none_none
  |bl F=>cases C;exact .none_bool _
  |int F=>obtain⟨_,rfl⟩:=C;exact .none_int _ _
  |str F=>obtain⟨_,rfl⟩:=C;exact .none_str _ _
  |@tup b ys es l k=>cases C;obtain⟨_,_,T,_⟩:=I.tuple l;exact .none_tuple T q
  |@lst b ys es l k=>cases C;obtain⟨_,_,T,_⟩:=I.list l;exact .none_list T.isList q
 |bl w=>
  cases S;cases id he with
  |non => cases C;exact .bool_none _
  |bl F=>cases C;exact .bool_bool _ _
  |int F=>obtain⟨_,rfl⟩:=C;exact .bool_int _ _ _
  |str F=>obtain⟨_,rfl⟩:=C;exact .bool_str _ _ _
  |@tup b ys es l k=>cases C;obtain⟨_,_,T,_⟩:=I.tuple l;exact .bool_tuple _ T q
  |@lst b ys es l k=>cases C;obtain⟨_,_,T,_⟩:=I.list l;exact .bool_list _ T.isList q
 |int w=>
  obtain⟨_,rfl⟩:=S;cases id he with
  |non => cases C;exact .int_none _ _
  |bl F=>cases C;exact .int_bool _ _ _
  |int F=>obtain⟨_,rfl⟩:=C;exact .int_int _ _ _ _
  |str F=>obtain⟨_,rfl⟩:=C;exact .int_str _ _ _ _
  |@tup b ys es l k=>cases C;obtain⟨_,_,T,_⟩:=I.tuple l;exact .int_tuple _ _ T q
  |@lst b ys es l k=>cases C;obtain⟨_,_,T,_⟩:=I.list l;exact .int_list _ _ T.isList q
 |str w=>
  obtain⟨_,rfl⟩:=S;cases id he with
  |non => cases C;exact .str_none _ _
  |bl F=>cases C;exact .str_bool _ _ _
  |int F=>obtain⟨_,rfl⟩:=C;exact .str_int _ _ _ _
  |str F=>obtain⟨_,rfl⟩:=C;exact .str_str _ _ _ _
  |@tup b ys es l k=>cases C;obtain⟨_,_,T,_⟩:=I.tuple l;exact .str_tuple _ _ T q
  |@lst b ys es l k=>cases C;obtain⟨_,_,T,_⟩:=I.list l;exact .str_list _ _ T.isList q
 |@tup a xs ds Z r=>
  cases S;obtain⟨us,L,p,_⟩:=I.tuple Z;cases id he with
  |non => cases C;exact .tuple_none p q
  |bl F=>cases C;exact .tuple_bool _ p q
  |int F=>obtain⟨_,rfl⟩:=C;exact .tuple_int _ _ p q
  |str F=>obtain⟨_,rfl⟩:=C;exact .tuple_str _ _ p q
  |@tup b ys es l k=>
   cases C;obtain⟨vs,P,T,_⟩:=I.tuple l;rw[D.depth] at hn;obtain⟨n,rfl⟩:∃m,n=m+1:=⟨n-1,by lia⟩
   rw[show D.eq (.tup _) (.tup _)=_ from D.gr _ _];have h:us.toArray.size=ds.length:=by rw[SM,<-L.length,r.len]
   have t:vs.toArray.size=es.length:=by rw[SM,<-P.length,k.len]
   rw[<-h,<-t];exact .tuples p T q (jO I (dR I n) f XV r k L P)
  |@lst b ys es l k=>cases C;obtain⟨_,_,T,_⟩:=I.list l;exact .tuple_list p T.isList q
 |@lst a xs ds Z r=>
  cases S;obtain⟨us,L,p,_⟩:=I.list Z;cases id he with
  |non => cases C;exact .list_none p.isList q
  |bl F=>cases C;exact .list_bool _ p.isList q
  |int F=>obtain⟨_,rfl⟩:=C;exact .list_int _ _ p.isList q
  |str F=>obtain⟨_,rfl⟩:=C;exact .list_str _ _ p.isList q
  |@tup b ys es l k=>cases C;obtain⟨_,_,T,_⟩:=I.tuple l;exact .list_tuple p.isList T q
  |@lst b ys es l k=>
   cases C;obtain⟨vs,P,T,_⟩:=I.list l;rw[D.depth] at hn;obtain⟨n,rfl⟩:∃m,n=m+1:=⟨n-1,by lia⟩
   rw[show D.eq (.lst _) (.lst _)=_ from D.gr _ _];have h:us.toArray.size=ds.length:=by rw[SM,<-L.length,r.len]
   have t:vs.toArray.size=es.length:=by rw[SM,<-P.length,k.len]
   rw[<-h,<-t];by_cases hl:us.toArray.size=vs.toArray.size
   .have c:(us.toArray.size==vs.toArray.size)=true:=zcz.mpr hl;rw[c,VV,<-hl,XO];exact .lists p.isList T.isList hl q (jO I (dR I n) f XV r k L P)
   .have c:(us.toArray.size==vs.toArray.size)=false:=beq_eq_false_iff_ne.mpr hl;rw[c,Vq];exact .lists_lengths p.isList T.isList (by simpa using hl) q
theorem vH(I:Inv X pins Y H s){n:Nat}{A:zan}{x y:V}{d e:D}(f:A.units+n<cLine)(hn:D.depth d<=n)(hd:Den X.K H x d)(he:Den X.K H y e)(S:RelV x u)(C:RelV y v):SeqAt.RcNeAt A s u v (!D.eq d e):=by
 have q:A.units<cLine:=by lia
 cases id hd with
 |non =>
  cases S;cases id he with
  |non => cases C;exact .none_none
  |bl F=>cases C;exact .none_bool _
  |int F=>obtain⟨_,rfl⟩:=C;exact .none_int _ _
  |str F=>obtain⟨_,rfl⟩:=C;exact .none_str _ _
  |@tup b ys es l k=>cases C;obtain⟨_,_,T,_⟩:=I.tuple l;exact .none_tuple T q
  |@lst b ys es l k=>cases C;obtain⟨_,_,T,_⟩:=I.list l;exact .none_list T.isList q
 |bl w=>
  cases S;cases id he with
  |non => cases C;exact .bool_none _
  |bl F=>cases C;exact .bool_bool _ _
  |int F=>obtain⟨_,rfl⟩:=C;exact .bool_int _ _ _
  |str F=>obtain⟨_,rfl⟩:=C;exact .bool_str _ _ _
  |@tup b ys es l k=>cases C;obtain⟨_,_,T,_⟩:=I.tuple l;exact .bool_tuple _ T q
  |@lst b ys es l k=>cases C;obtain⟨_,_,T,_⟩:=I.list l;exact .bool_list _ T.isList q
 |int w=>
  obtain⟨_,rfl⟩:=S;cases id he with
  |non => cases C;exact .int_none _ _
  |bl F=>cases C;exact .int_bool _ _ _
  |int F=>obtain⟨_,rfl⟩:=C;exact .int_int _ _ _ _
  |str F=>obtain⟨_,rfl⟩:=C;exact .int_str _ _ _ _
  |@tup b ys es l k=>cases C;obtain⟨_,_,T,_⟩:=I.tuple l;exact .int_tuple _ _ T q
  |@lst b ys es l k=>cases C;obtain⟨_,_,T,_⟩:=I.list l;exact .int_list _ _ T.isList q
 |str w=>
  obtain⟨_,rfl⟩:=S;cases id he with
  |non => cases C;exact .str_none _ _
  |bl F=>cases C;exact .str_bool _ _ _
  |int F=>obtain⟨_,rfl⟩:=C;exact .str_int _ _ _ _
  |str F=>obtain⟨_,rfl⟩:=C;exact .str_str _ _ _ _
  |@tup b ys es l k=>cases C;obtain⟨_,_,T,_⟩:=I.tuple l;exact .str_tuple _ _ T q
  |@lst b ys es l k=>cases C;obtain⟨_,_,T,_⟩:=I.list l;exact .str_list _ _ T.isList q
 |@tup a xs ds Z r=>
  cases S;obtain⟨us,L,p,_⟩:=I.tuple Z;cases id he with
  |non => cases C;exact .tuple_none p q
  |bl F=>cases C;exact .tuple_bool _ p q
  |int F=>obtain⟨_,rfl⟩:=C;exact .tuple_int _ _ p q
  |str F=>obtain⟨_,rfl⟩:=C;exact .tuple_str _ _ p q
  |@tup b ys es l k=>
   cases C;obtain⟨vs,P,T,_⟩:=I.tuple l;rw[D.depth] at hn;obtain⟨n,rfl⟩:∃m,n=m+1:=⟨n-1,by lia⟩
   rw[show D.eq (.tup _) (.tup _)=_ from D.gr _ _];have h:us.toArray.size=ds.length:=by rw[SM,<-L.length,r.len]
   have t:vs.toArray.size=es.length:=by rw[SM,<-P.length,k.len]
   rw[<-h,<-t];exact .tuples p T q (jO I (dR I n) f XV r k L P)
  |@lst b ys es l k=>cases C;obtain⟨_,_,T,_⟩:=I.list l;exact .tuple_list p T.isList q
 |@lst a xs ds Z r=>
  cases S;obtain⟨us,L,p,_⟩:=I.list Z;cases id he with
  |non => cases C;exact .list_none p.isList q
  |bl F=>cases C;exact .list_bool _ p.isList q
  |int F=>obtain⟨_,rfl⟩:=C;exact .list_int _ _ p.isList q
  |str F=>obtain⟨_,rfl⟩:=C;exact .list_str _ _ p.isList q
  |@tup b ys es l k=>cases C;obtain⟨_,_,T,_⟩:=I.tuple l;exact .list_tuple p.isList T q
  |@lst b ys es l k=>
   cases C;obtain⟨vs,P,T,_⟩:=I.list l;rw[D.depth] at hn;obtain⟨n,rfl⟩:∃m,n=m+1:=⟨n-1,by lia⟩
   rw[show D.eq (.lst _) (.lst _)=_ from D.gr _ _];have h:us.toArray.size=ds.length:=by rw[SM,<-L.length,r.len]
   have t:vs.toArray.size=es.length:=by rw[SM,<-P.length,k.len]
   rw[<-h,<-t];by_cases hl:us.toArray.size=vs.toArray.size
   .have c:(us.toArray.size==vs.toArray.size)=true:=zcz.mpr hl;rw[c,VV,<-hl,XO];exact .lists p.isList T.isList hl q (jO I (dR I n) f XV r k L P)
   .have c:(us.toArray.size==vs.toArray.size)=false:=beq_eq_false_iff_ne.mpr hl;rw[c,Vq];exact .lists_lengths p.isList T.isList (by simpa using hl) q
def Pl(K:SD):R2:=λx y H Q=>∃d e,Den K H x d/\Den K H y e/\D.depth d<=40/\Q (.bl (D.eq d e)) H
def NU(K:SD):R2:=λx y H Q=>∃d e,Den K H x d/\Den K H y e/\D.depth d<=40/\Q (.bl (!D.eq d e)) H
theorem p4(f:X.A.units+64<cLine):eG X (zaz .Eq) (Pl X.K):=by intro pins s Y H x y v u Q I o C h;obtain⟨d,e,hd,he,dp,q⟩:=h;exact BR I f T6 hd he o C _ _ _ _ ⟨.bl _,H,I,rfl,q⟩
theorem rh(f:X.A.units+64<cLine):eG X (zaz .NotEq) (NU X.K):=by intro pins s Y H x y v u Q I o C h;obtain⟨d,e,hd,he,dp,q⟩:=h;exact vH I f T6 hd he o C _ _ _ _ ⟨.bl _,H,I,rfl,q⟩
inductive IS(K:SD)(H:Hp):V->Value->Prop where
 |of{v:V}{t:Value}(h:AK K H v t):IS K H v t
 |tup{a:Addr}{xs:List V}(e:eU K H a xs):IS K H (.ref a) (.type "tuple")
 |lst{a:Addr}{xs:List V}(e:eI K H a xs):IS K H (.ref a) (.type "list")
 |dic{a:Addr}{kvs:List (Key×V)}(e:Rd H a (.dK kvs)):IS K H (.ref a) (.type "dict")
noncomputable def Ac:V->Value
 | .ref a=>.ref a
 | .ty n=>.type n
 |_=>.none
noncomputable def rG:V->Bool
 | .ref _=>true
 | .ty _=>true
 |_=>false
theorem xk{x:V}(h:rG x=true)(r:RelV x u):u=Ac x:=by cases x<;>first|exact r|cases h
theorem uK{pins:List (Addr×Obj)}{Y:St}{x:V}{t:Value}(I:Inv X pins Y H s)(E:RelV x u)(ty:IS X.K H x t):∃P,PySem.W.KitX X.K u t P/\P s.heap/\u≠.builtin "__main__.__loader__#opaque" := by
 cases ty with
 |tup e=>cases E;obtain⟨_,_,⟨o,h1,h2,_⟩,_⟩:=I.tuple e;exact⟨_,PySem.W.kitx_tuple,⟨o,h1,h2⟩,λz=>nomatch z⟩
 |lst e=>cases E;obtain⟨_,_,⟨o,_,h1,h2,_⟩,_⟩:=I.list e;exact⟨_,PySem.W.kitx_list,⟨o,h1,h2⟩,λz=>nomatch z⟩
 |dic e=>cases E;obtain⟨_,_,vs,_,o,es,ep,h1,h2,_⟩:=cW I.hok e;exact⟨_,X7,⟨o,h1,h2.1⟩,λz=>nomatch z⟩
 |of h=>
  cases h with
  |non=>cases E;exact⟨_,PySem.W.kitx_none,trivial,λz=>nomatch z⟩
  |bl y=>cases E;exact⟨_,PySem.W.kitx_bool,trivial,λz=>nomatch z⟩
  |int i=>obtain⟨_,rfl⟩:=E;exact⟨_,PySem.W.kitx_int,trivial,λz=>nomatch z⟩
  |str i=>obtain⟨_,rfl⟩:=E;exact⟨_,PySem.W.kitx_str,trivial,λz=>nomatch z⟩
theorem Av:bX X (.builtin "isinstance") (λxs H Q=>∃x c t b,xs=[x,c]/\IS X.K H x t/\rG c=true/\Uo X.K t (Ac c)=some b/\Q (.bl b) H):=by intro pins s Y H xs us Q I r h;obtain⟨x,c,t,b,rfl,ty,hc,hk,q⟩:=h;obtain⟨u,y,rfl,S,A⟩:=vals2 r;rw[xk hc A];obtain⟨P,Z,p,nb⟩:=uK I S ty;exact Ys Z I.HY p hk nb λtk=>⟨.bl b,H,I.tok tk,rfl,q⟩
end
theorem AU:zal "len" = some (.builtin "len"):=by decide +kernel
theorem iB:zal "isinstance" = some (.builtin "isinstance"):=by decide +kernel
theorem IK:zal "abs" = some (.builtin "abs"):=by decide +kernel
theorem LB:zal "max" = some (.builtin "max"):=by decide +kernel
theorem IW:zal "min" = some (.builtin "min"):=by decide +kernel
theorem jW:zal "sorted" = some (.builtin "sorted"):=by decide +kernel
theorem Bn:zal "int" = some (.type "int"):=by decide +kernel
theorem G5:zal "bool" = some (.type "bool"):=by decide +kernel
theorem J0:zal "str" = some (.type "str"):=by decide +kernel
theorem so:zal "tuple" = some (.type "tuple"):=by decide +kernel
theorem wb:zal "list" = some (.type "list"):=by decide +kernel
theorem qj:zal "dict" = some (.type "dict"):=by decide +kernel
theorem Jh:zal "set" = some (.type "set"):=by decide +kernel
theorem qe:zal "enumerate" = some (.type "enumerate"):=by decide +kernel
structure qL(K:SD)(x qual:Str)(st:Stmt)(f:Addr)(fd:zaB)(dV:Value):Prop where
 ex:∃(oc:Value)(od:Option Addr)(kV doc pm:Value)(an:Option Addr)(cdv ct:Value)(osl:Array (Option Value)),
  fd=Wr x qual (dy st) (cX st) (aU st) dV kV doc pm an cdv ct/\K.lookup f=some ⟨oc,od,.func fd,osl⟩/\V9 K cdv qual=true
 kp:UA K (.ref f)=true
section
variable{K:SD}{D:Ends}{Y:St}{H:Hp}{Q:VK}{QT:Bool->Hp->Prop}{QA:List V->Hp->Prop}{QS:St->Hp->Prop}{E:XK}{EX:XS}{ta tb tc te:TE}{tt tu:TT}{t u:TS}{tA tr:TA}{tx:TX}{g:TG}{gs:FW}{i j n:Nat}{v x y:V}{vs:List V}{r r':R2}{C:Addr}{sp:Sp}{dvs:List V}
def P7(J:It)(g:TG)(tb:TS)(D:Ends)(Y:St)(H:Hp):Prop:=∃W:Nat->Nat->St->Hp->Prop,(∃m,W 0 m Y H)/\∀i m Y H,W i m Y H->
 (J.stop i H/\D.nx Y H)\/(J.go i H/\∃N:St->Hp->Prop,(∀Y' H',N Y' H'->∃Q,Q<m/\W (i+1) Q Y' H')/\∀x H',J.yld i H x H'->g x Y H' λP V=>tb { D with nx:=N,ct:=N,bk:=D.nx } P V)
end
@[irreducible] def QS (X:Cx) (s:Stmt) (t:TS):Prop:=PS X s t
@[irreducible] def QT (X:Cx) (s:Expr) (t:TT):Prop:=PT X s t
@[irreducible] def QA (X:Cx) (s:List Expr) (t:TA):Prop:=PA X s t
set_option autoImplicit true
set_option relaxedAutoImplicit true
variable{elt:Expr}{scope:Scope}{pos:Pos}{env:Env}
section
variable{prog:Program}{w:zam}{A:zan}{R:zcd->Shared->Prop}{s:Shared}
theorem pS{u iter:Expr}{ifs:List Expr}{it acc:Value}(I:Nat->Shared->Prop)
  (C:∀n s,I n s->zaj (zak prog w) A (zbW it) (λr Z=>match r with
   |none=>R (.ok .next) Z
   | some v=>zaj (zak prog w) A (zbh u it v) (λ_ H=>zaj (zak prog w) A (assign u env v) (λ_ U=>
     zaj (zak prog w) A (forIn ifs true λc r=>if r=true then do let ok <- zcc c env (eval c env);pure (Va ok) else pure (Va r)) (λok P=>
      if ok=true then zaj (zak prog w) A (eval elt env) (λx Y=>zaj (zak prog w) A (call (.builtin "list.append") [acc,x]) (λ_ a=>∃m,m<n/\I m a) (λ_ _=>False) Y) (λ_ _=>False) P
      else ∃m,m<n/\I m P) (λ_ _=>False) U) (λ_ _=>False) H) (λ_ _=>False) Z) (λ_ _=>False) s)
  (n:Nat) (h:I n s):zbc (zak prog w) A (.compLoop (.ListComp elt [⟨u,iter,ifs,0⟩] scope pos) 0 it acc env) R s:=by
 refine codeAny_loop rfl I (λn s N=>?_) n h;show zaj _ A ((compTurn (.ListComp elt [⟨u,iter,ifs,0⟩] scope pos) 0 it acc env).onRaise (λx=>do noteFrame x env;theTreesLotGoes x)) _ _ s;refine wpAny_noted ?_;rw[compTurn_list];refine zaf (zbs (zaf (zaN (C n s N) (λr Z O=>?_) λ_ _ h'=>h'.elim)));cases r with
 |none=>exact zag O
 |some v=>
  refine zaf (zaN O (λ_ H p=>?_) λ_ _ h'=>h'.elim);refine zaf (zaN p (λ_ U D=>zaf (zaN D (λok P b=>?_) λ_ _ h'=>h'.elim)) λ_ _ h'=>h'.elim);cases ok with
  |false=>exact zag ⟨rfl,b⟩
  |true=>exact zaf (zaf (zaN b (λx Y y=>zaf (zaN y (λ_ a J=>zag (zag ⟨rfl,J⟩)) λ_ _ h'=>h'.elim)) λ_ _ h'=>h'.elim))
end
theorem mj{env:Env}{f:Str×NameKind->List (Str×Addr)->Sem (ForInStep (List (Str×Addr)))}
  (hf:∀x cs,f x cs=if (x.2==Vb)=true then (do let c <- cellOf env x.1;pure (Va ((x.1,c)::cs))) else pure (Va cs)):
  ∀(l:List (Str×NameKind))(cs:List (Str×Addr)),(∀x∈l,x.2=.free->∃c,env.cells.lookup x.1=some c)->
   ∃cl,forIn l cs f=(pure cl:Sem _)/\(∀x c,cl.lookup x=some c->cs.lookup x=some c\/env.cells.lookup x=some c) /\
    (∀x,(∃c,cs.lookup x=some c)\/(x,Vb)∈l->∃c,cl.lookup x=some c)
 |[],cs,_=>⟨cs,rfl,λ_ _ h=>.inl h,λx h=>h.elim id (λz=>by cases z)⟩
 |(n,k)::l,cs,h=>by
  rw[WQ,hf];by_cases hk:k=.free
  .subst hk;obtain⟨c,hc⟩:=h (n,.free) SH rfl;obtain⟨cl,e,h1,h2⟩:=mj hf l ((n,c)::cs) λx hx=>h x (SK _ hx);refine⟨cl,?_,λx v q=>?_,λx q=>h2 x ?_⟩
   .have D:cellOf env n=pure c:=by delta cellOf;rw[hc]
    simp only[beq_self_eq_true,if_true,D,pure_bind];exact e
   .rcases h1 x v q with z|z
    .rw[TQ] at z;by_cases hx:(x==n)=true
     .rw[hx] at z;have:x=n:=eq_of_beq hx;subst this;exact .inr (by rw[hc];exact z)
     .rw[U3.mpr hx] at z;exact .inl z
    .exact .inr z
   .rcases q with ⟨v,z⟩|z
    .left;rw[TQ];cases x==n with
     |true=>exact⟨c,rfl⟩
     |false=>exact⟨v,z⟩
    .rcases SR.mp z with z|z
     .left;cases z;rw[TQ,beq_self_eq_true];exact⟨c,rfl⟩
     .exact .inr z
  .obtain⟨cl,e,h1,h2⟩:=mj hf l cs λx hx=>h x (SK _ hx);refine⟨cl,?_,h1,λx q=>h2 x ?_⟩
   .have D:((n,k).2==Vb)=false:=by cases k<;>first|rfl|exact absurd rfl hk
    rw[D];exact e
   .rcases q with z|z
    .exact .inl z
    .rcases SR.mp z with z|z
     .cases z;exact absurd rfl hk
     .exact .inr z
theorem uL(h:∀x∈scope.names,x.2=.free->∃c,env.cells.lookup x.1=some c):
  ∃cl,closureFor scope env=pure cl/\(∀x c,cl.lookup x=some c->env.cells.lookup x=some c)/\(∀x,(x,Vb)∈scope.names->∃c,cl.lookup x=some c):=by
 obtain⟨cl,e,h1,h2⟩:=mj (λ_ _=>rfl) scope.names [] h;refine⟨cl,?_,λx c q=>(h1 x c q).elim (λz=>by cases z) id,λx q=>h2 x (.inr q)⟩;exact(zcy (λz:Sem (List (Str×Addr))=>z >>= λr=>pure r) e).trans (by rw[pure_bind])
section
variable{env:Env}
noncomputable def sg(env:Env):Str×NameKind->Str×NameKind:=λ(n,k)=>if (k==.free&&env.scope.kind==.function&&env.kindOf n==some .cell) then (n,.cell) else (n,k)
theorem tD(p:Str×NameKind):(sg env p).1=p.1:=by obtain⟨n,k⟩:=p;show (if _ then _ else _:Str×NameKind).1=n;split<;>rfl
theorem sM(p:Str×NameKind):(sg env p).2=p.2\/(p.2=.free/\(sg env p).2=.cell):=by
 obtain⟨n,k⟩:=p;show (if _ then _ else _:Str×NameKind).2=k\/_;split
 .rename_i h;right;rw[SA,SA] at h;refine⟨eq_of_beq h.1.1,?_⟩;show (if _ then _ else _:Str×NameKind).2=_;rw[zcu (by rw[SA,SA];exact h)]
 .left;rfl
theorem fg:∀{names:List (Str×NameKind)}{x:Str}{k:NameKind},names.lookup x=some k->(names.map (sg env)).lookup x=some k\/(k=.free/\(names.map (sg env)).lookup x=some .cell)
 |[],_,_,h=>by cases h
 |p::r,x,k,h=>by
  rw[S4];obtain⟨n,I⟩:=p;have D:=tD (env:=env) (n,I);have l:=sM (env:=env) (n,I);generalize sg env (n,I)=q at D l ⊢;obtain⟨n',k'⟩:=q;subst D;rw[TQ] at h ⊢;cases hx:x==n' with
  |true=>
   rw[hx] at h;cases h;rcases l with l|⟨l,N⟩
   .left;exact zcy some l
   .right;exact⟨l,zcy some N⟩
  |false=>rw[hx] at h;exact fg h
theorem cc:∀{names:List (Str×NameKind)}{x:Str}{k:NameKind},(names.map (sg env)).lookup x=some k->names.lookup x=some k\/(k=.cell/\names.lookup x=some .free)
 |[],_,_,h=>by cases h
 |p::r,x,k,h=>by
  rw[S4] at h;obtain⟨n,I⟩:=p;have D:=tD (env:=env) (n,I);have l:=sM (env:=env) (n,I);generalize sg env (n,I)=q at D l h;obtain⟨n',k'⟩:=q;subst D;rw[TQ] at h ⊢;cases hx:x==n' with
  |true=>
   rw[hx] at h;cases h;rcases l with l|⟨l,N⟩
   .left;exact zcy some l.symm
   .right;exact⟨N,zcy some l⟩
  |false=>rw[hx] at h;exact cc h
theorem g8{sc:Scope}{x:Str}(h:sc.names.lookup x=some .local):(relabel sc env).names.lookup x=some .local:=by
 rcases fg h with z|⟨z,_⟩
 .exact z
 .cases z
theorem CL{sc:Scope}{x:Str}(h:sc.names.lookup x=some .globalImplicit):(relabel sc env).names.lookup x=some .globalImplicit:=by
 rcases fg h with z|⟨z,_⟩
 .exact z
 .cases z
theorem rJ{sc:Scope}{x:Str}(h:sc.names.lookup x=some .free):pD (relabel sc env) x:=by
 rcases fg h with z|⟨_,z⟩
 .exact .inr (.inr z)
 .exact .inr (.inl z)
end
structure fB(N0 N:List Str)(k:Nat)(sc de:Scope):Prop where
 kind:sc.kind=.function
 cell:∀y∈sc.names,y.2≠.cell
 names:∀y∈sc.names,y.2=.local->sc.names.lookup y.1=some .local
 len:N.length=N0.length+k
 nd:N.Nodup
 old:∀p∈(N.take N0.length).zip N0,p.1=p.2\/sc.names.lookup p.1=none
 nl:∀n∈N.take N0.length,sc.names.lookup n≠some .local
 fr:∀y∈sc.names,y.2=.free->de.names.lookup y.1=some .cell\/de.names.lookup y.1=some .free
noncomputable def g9(X:Cx)(N:List Str)(sc:Scope)(cl:List (Str×Addr))(C:Addr)(s:Shared)(H:Hp)(ex:List Addr):Cx where
 prog:=X.prog
 w:=X.w
 K:=X.K
 mg:=X.mg
 base:=X.base
 A:=X.A
 N:=N
 s₀:=s
 H₀:=H
 env:=compEnvC sc cl C X.env
 outer:=X.stack
 stack:=X.stack
 ex:=ex
 fn:=λ_=>false
 calm:=X.calm
 pn:=[]
 xe:=λ_ _=>False
theorem mem_of_lookupK{names:List (Str×NameKind)}{x:Str}{k:NameKind}(h:names.lookup x=some k):(x,k)∈names:=UP h
section
variable{X:Cx}{pins:List (Addr×Obj)}{Y:St}{H:Hp}{s:Shared}{N:List Str}{k:Nat}{sc:Scope}{cl:List (Str×Addr)}{C:Addr}{fp:List Addr}{h1:Heap}{tk:Nat}
theorem BC(I:Inv X pins Y H s)(S:fB X.N N k sc X.env.scope)(a:∀x c,cl.lookup x=some c->X.env.cells.lookup x=some c)
  (U:∀x,(x,Vb)∈sc.names->∃c,cl.lookup x=some c)(P:s.heap.objs.size<=C)(hf:∀b∈fp,n5 X pins H b)(T:∀b∈fp,b<s.heap.objs.size)
  (hk:∀b o,s.heap.get? b=some o->h1.get? b=some o)(hn:∃m,h1.Ns C m):
  Inv (g9 X N sc cl C s H fp) (X.pn++pins) (Y++Th k none) H { s with heap:=h1,toks:=tk }:=by
 have q:∀b o,s.heap.get? b=some o->b≠C:=λb o e=>S8 (SN (SV e) P);have kind:∀x,((g9 X N sc cl C s H fp).env.kindOf x=some .cell\/(g9 X N sc cl C s H fp).env.kindOf x=some .free)->sc.names.lookup x=some .free:=λx hx=>by
  rcases hx with hx|hx
  .rcases cc hx with z|⟨_,z⟩
   .exact absurd rfl (S.cell _ (mem_of_lookupK z))
   .exact z
  .rcases cc hx with z|⟨z,_⟩
   .exact z
   .cases z
 refine⟨⟨I.ok.mod,S.kind,I.ok.glob,I.ok.blt,P,λx y c h1 h2=>I.ok.inj x y c (a _ _ h1) (a _ _ h2),λx hx=>U x (mem_of_lookupK (kind x hx)),λx c z _=>absurd (z) To,
  I.ok.hd,I.ok.frames,.inl rfl,λb hb=>⟨S8 (SN (T b hb) P),λx c e=>(hf b hb).2.2.2.2.1 x c (a _ _ e)⟩,I.bs,Tn I.ok.bsz I.sz,λb o e hb=>?_,λb hb Z=>?_,I.stack,I.xD⟩,
  rfl,I.bare,Un.kept hk,?_,λx c e=>?_,I.hok.fresh P,λx c e=>I.freeC x c (a _ _ e),λp hp=>?_,I.hok.kept hk,?_⟩
 .rcases(hf b hb).2.2.2.1 with z|z
  .exact I.ok.noex b o e z
  .exact absurd (SN (SV e) (Tn I.ok.bsz z)) (TN _)
 .rcases SR.mp (I.jS b Z) with z|z
  .exact(hf b hb).2.1 z
  .exact(hf b hb).2.2.1 z
 .obtain⟨m,hn⟩:=hn;refine⟨m,hn,λi x v D F t=>?_⟩;have hi:i<Y.length:=by
   by_cases hi:i<Y.length
   .exact hi
   .rw[Ur (by exact U8.mp ‹_›),Xy] at F;split at F<;>cases F
  rw[Uv hi] at F;have B:i<X.N.length:=by rw[<-I.len];exact hi
  have E:(N.take X.N.length)[i]?=some x:=by rw[Xl B];exact D
  have J:=S.nl x (SS E);have A:sc.names.lookup x=some .free:=by
   rcases t with z|z|z
   .rcases cc z with z|⟨z,_⟩
    .exact absurd z J
    .cases z
   .exact kind x (.inl z)
   .exact kind x (.inr z)
  have w:X.N[i]?=some x:=by
   have hz:((N.take X.N.length).zip X.N)[i]?=some (x,X.N[i]):=by rw[List.getElem?_zip_eq_some];exact⟨E,SG B⟩
   rcases S.old _ (SS hz) with z|z
   .have z:x=X.N[i]:=z;rw[SG B,<-z]
   .have z:=z;rw [A] at z; cases z
  obtain ⟨V,G,g⟩:=I.loc;have h:pD X.env.scope x:=by
   rcases S.fr _ (mem_of_lookupK A) rfl with z|z
   .exact .inr (.inl z)
   .exact .inr (.inr z)
  obtain⟨u,r,l⟩:=g i x v w F h;refine⟨u,r,.inr ⟨?_,?_⟩⟩
  .rcases rJ A with z|z|z
   .rcases cc z with z|⟨z,_⟩
    .rw[A] at z;cases z
    .cases z
   .exact .inl z
   .exact .inr z
  .rcases l with ⟨z,_⟩|⟨_,c,O,R⟩
   .have z:X.env.scope.names.lookup x=some .local:=z;rcases S.fr _ (mem_of_lookupK A) rfl with Q|Q
    .have Q:=Q;rw[z] at Q;cases Q
    .have Q:=Q;rw[z] at Q;cases Q
   .obtain⟨j,L⟩:=U x (mem_of_lookupK A);have:=a _ _ L;rw[O] at this;cases this;obtain⟨o,ho,hd⟩:=R;exact⟨c,L,o,hk _ _ ho,hd⟩
 .obtain⟨v,o,ho,hd⟩:=I.cell x c (a _ _ e);exact⟨v,o,hk _ _ ho,hd⟩
 .have hp:=hp;obtain⟨e,n,ne,nf,d⟩:=I.pin p hp;refine⟨hk _ _ e,n,q _ _ e,λhb=>?_,d⟩;rcases SR.mp (I.jS _ hb) with z|z
  .exact ne z
  .exact nf z
 .show (Y++Th k none).length=N.length;rw[S3,XJ,I.len,S.len]
theorem B2{H':Hp}{Y':St}{s':Shared}{D:Addr}{B:List Value}(I:Inv X pins Y H s)(w:Inv (g9 X N sc cl C s H fp) (X.pn++pins) Y' H' s')(T:s.heap.objs.size<=D)(x:H' D=none)
  (pl:s'.heap.PlainList D B.toArray)(U:Vals ys B)(hl:ys.length<=sizeLine)(hf:∀b∈fp,n5 X pins H b):Inv X pins Y (upd H' D (.lst ys)) s':=by
 obtain⟨n,O⟩:=pl;have u:=w.base;have ne:∀b o,s.heap.get? b=some o->b≠D:=λb o e=>S8 (SN (SV e) T);have r:∀b o,H' b=some o->b≠D:=λb o e=>aG e x;refine I.Nu w.os ⟨u.keep,u.slot,λb o e n nx=>?_,u.there,λb xs e=>?_,λb o v e=>?_,λb ps e=>?_⟩ (λb o e=>?_) w.bare (ch:=fp) λb hb=>?_
 .rw[az (ne b o e)];exact u.free b o e n nx
 .have:=u.tups b xs e;rw[az (r _ _ this)];exact this
 .have:=u.frzs b o v e;rw[az (r _ _ this)];exact this
 .obtain⟨more,this⟩:=u.tbls b ps e;exact⟨more,by rw[az (r _ _ this)];exact this⟩
 .by_cases hb:b=D
  .subst hb;rw[bg] at e;cases e;exact⟨hl,B,n,U,O⟩
  .rw[az hb] at e;exact(w.hok b o e).gy (λ_ _ _ q=>q) (λc q=>by rw[az (r _ _ q)];exact q) λc xs q=>by rw[az (r _ _ q)];exact q
 .obtain⟨p,F,A,G,L,R⟩:=hf b hb;exact⟨G,F,L,R⟩
end
variable{X:Cx}{pins:List (Addr×Obj)}{s:Shared}
theorem Inv.vJ{Y:St}(I:Inv X pins Y H s){a:Addr}(h:s.heap.objs.size<=a):a∉lp X.stack:=λhb=>by
 rcases SR.mp (I.jS a hb) with z|z
 .exact absurd (SN I.lt (by rw[<-z];exact h)) (TN _)
 .exact I.M8 h z
def PF(X:Cx)(ifs:List Expr)(t:TT):Prop:=∀(pins:List (Addr×Obj))(s:Shared)(Y:St)(H:Hp)(Q:Bool->Hp->Prop),Inv X pins Y H s->t Y H Q->
 zaj (zak X.prog X.w) X.A (forIn ifs true λc r=>if r=true then do let ok <- zcc c X.env (eval c X.env);pure (Va ok) else pure (Va r)) (TP X pins Y Q) X.xe s
noncomputable def Nl:TT:=λ_ H Q=>Q true H
theorem KQ:PF X [] Nl:=λ_ _ _ H _ I h=>wpAny_tests_nil ⟨H,I,h⟩
theorem JQ{c:Expr}{t:TT}(hc:PT X c t):PF X [c] t:=λpins s Y H Q I h=>wpAny_tests_one (hc pins s Y H Q I h)
def zY(J:It)(g:TG)(s:TT)(I:TE)(Q:VK)(Y:St)(H:Hp):Prop:=∃W:Nat->Nat->St->List V->Hp->Prop,(∃m,W 0 m Y [] H)/\∀i m Y ys H,W i m Y ys H->ys.length<=sizeLine /\
  ((J.stop i H/\∀r,H r=none->Q (.ref r) (upd H r (.lst ys))) \/
   (J.go i H/\∃N:St->List V->Hp->Prop,(∀Y' u H',N Y' u H'->∃v,v<m/\W (i+1) v Y' u H') /\
     ∀x H',J.yld i H x H'->g x Y H' λP S=>s P S λb q=>if b=true then I P q λy Z=>N P (ys++[y]) Z else N P ys q))
noncomputable def xt(n:Nat)(I:TI)(g:TG)(s:TT)(r:TE):TE:=λY H Q=>I Y H λJ X=>zY J g s r Q (Y++Th n none) X
section
variable{X:Cx}{pins:List (Addr×Obj)}{Y:St}{H:Hp}{s:Shared}{N:List Str}{k:Nat}{sc:Scope}{cl:List (Str×Addr)}{C:Addr}{fp:List Addr}{J:It}{it:Addr}{tn:Nat->Heap->Prop}
 {tg elt iter:Expr} {ifs:List Expr} {pos:Pos} {g:TG} {tt:TT} {te:TE} {Q:VK} {E:Value->Shared->Prop} {RR:Value->Addr->zcd->Shared->Prop}
theorem mZ(hc:X.calm=true)(S:fB X.N N k sc X.env.scope)(L:∀x c,cl.lookup x=some c->X.env.cells.lookup x=some c)
  (hcl2:∀x,(x,Vb)∈sc.names->∃c,cl.lookup x=some c)(I:Inv X pins Y H s)(T:Turn X.prog X.w X.K tg J fp it tn)(st:tn 0 s.heap)(hf:∀b∈fp,n5 X pins H b)
  (B:zY J g tt te Q (Y++Th k none) H)
  (hg:∀C,PG (g9 X N sc cl C s H fp) tg g)(ht:∀C,PF (g9 X N sc cl C s H fp) ifs tt)(he:∀C,PE (g9 X N sc cl C s H fp) elt te)
  (hRR:∀D C s' H' ys,Inv X pins Y (upd H' D (.lst ys)) s'->s.heap.objs.size<=C->upd H' D (.lst ys) C=none->(∃m,s'.heap.Ns C m)->Q (.ref D) (upd H' D (.lst ys))->RR (.ref D) C (.ok .next) s'):
  zaj (zak X.prog X.w) X.A (newList []) (λacc P=>zaj (zak X.prog X.w) X.A (newFunctionEnv sc X.env.globals cl [] X.env.qual none .none (some X.env)) (λf s₄=>zbc (zak X.prog X.w) X.A (.compStart (.ListComp elt [⟨tg,iter,ifs,0⟩] sc pos) 0 (.ref it) acc { f with scope:=relabel sc X.env }) (RR acc f.locals) s₄) E P) E s:=by
 refine zaF (wpAny_newFunctionEnv S.cell (by intro y hy;simp at hy) (λO U Z=>?_) S.kind);generalize hH2:s.heap.push { cls:=.type "list",dict:=none,data:=.seq ([]:List Value).toArray }=H2 at U Z ⊢;have hC:H2.objs.size=s.heap.objs.size+1:=by rw[<-hH2,Y5]
 have t:s.heap.objs.size≠H2.objs.size:=by rw[hC];exact S8 (UU _)
 have h:s.heap.objs.size<=H2.objs.size:=by rw[hC];exact Vn _
 have below:∀b,b<s.heap.objs.size->b≠H2.objs.size/\b≠s.heap.objs.size:=λb hb=>⟨by rw[hC];exact S8 (TH hb),S8 hb⟩
 have old:=λb o e=>Z.extBut b o (below b (SV e)).1 (SI _ (hH2▸SI _ e));have hacc:O.PlainList s.heap.objs.size #[]:=⟨_,Z.extBut _ _ t (SI _ (hH2▸S6 _ rfl))⟩
 have G:=λb hb=>let ⟨o,e,_⟩:=T.obj 0 _ st b hb;SV e
 have st1:=T.keep _ _ _ st λb hb o e=>old b o e;have I0:=BC (tk:=s.toks+([]:List (Str×Value)).length) I S L hcl2 h hf G old ⟨_,U⟩;generalize H2.objs.size=C at U Z hC t h below I0 ⊢;generalize hD:s.heap.objs.size=D at hC t h below hacc G ⊢;have a:s.heap.objs.size<=D:=by rw[hD];exact SO _
 have R:∀{H':Hp}{o:Obj},(∀b∈fp,H' b=none)->∀b∈fp,n5 (g9 X N sc cl C s H fp) ((X.pn++pins)++[(D,o)]) H' b:=λ{H' o} hn b hb=>by
  obtain⟨f0,f1,f2,f3,f4,f5⟩:=hf b hb;refine⟨hn b hb,(below b (G b hb)).1,λz=>?_,.inl hb,λx c e=>f4 x c (L _ _ e),λp hp=>?_⟩
  .rcases SR.mp (I.jS b z) with z|z
   .exact f1 z
   .exact f2 z
  .have hp:p∈(X.pn++pins)++[(D,o)]:=hp;rcases SY.mp hp with z|z
   .exact f5 p z
   .have:p=(D,o):=by simpa using z
    rw[this];exact Uu (below b (G b hb)).2
 have loop:∀P:Shared,P={ s with heap:=O,toks:=s.toks+([]:List (Str×Value)).length }->
   zbc (zak X.prog X.w) X.A (.compLoop (.ListComp elt [⟨tg,iter,ifs,0⟩] sc pos) 0 (.ref it) (.ref D) (compEnvC sc cl C X.env)) (RR (.ref D) C) P:=by
  rintro P rfl;obtain⟨W,⟨m0,w0⟩,step⟩:=B;refine pS (λn s'=>∃i Y' H' ys F,Inv (g9 X N sc cl C s H fp) (X.pn++pins) Y' H' s'/\tn i s'.heap/\(∀b∈fp,H' b=none)/\H' D=none/\s'.heap.PlainList D (F:List Value).toArray/\Vals ys F/\W i n Y' ys H') ?_ m0
   ⟨0,_,H,[],[],I0,st1,λb hb=>(hf b hb).1,I.hok.fresh a,hacc,.nil,w0⟩
  rintro n s3 ⟨i,V,H3,ys,F,I3,st3,fr3,hD3,⟨nn,pl3⟩,j,w3⟩;obtain⟨hl,cs⟩:=step i n V ys H3 w3;have pinD:∀{Y':St}{H':Hp}{s':Shared}{o:Obj},Inv (g9 X N sc cl C s H fp) (X.pn++pins) Y' H' s'->H' D=none->s'.heap.get? D=some o->(∀v,o.data≠.cell v)->Inv (g9 X N sc cl C s H fp) ((X.pn++pins)++[(D,o)]) Y' H' s':=λ{Y' H' s' o} I' hn e d=>
   I'.pX λp hp=>(SY.mp hp).elim (λz=>I'.pin p (SJ _ z)) λz=>by
    have:p=(D,o):=by simpa using z
    subst this;exact⟨e,hn,t,λz=>I.vJ a z,d⟩
  have I3p:=pinD I3 hD3 pl3 λv z=>by cases z
  rcases cs with ⟨stop,q⟩|⟨go,NN,hN,nx⟩
  .refine bG (T.done (g9 X N sc cl C s H fp) rfl rfl rfl hc i _ s3 V H3 _ I3p (R fr3) st3 stop) λr s4 ⟨hr,I4⟩=>?_;subst hr;have d4:=I4.pin (D,_) (SJ _ (SJ _ (SU.mpr rfl)));have I5:=B2 I I4.dC a d4.2.1 ⟨nn,d4.1⟩ j hl hf;refine hRR D C s4 H3 ys I5 (by rw[hD];exact h) ?_ (let ⟨m,hm,_⟩:=I4.loc;⟨m,hm⟩) (q D d4.2.1);rw[az (Uu t)];exact I4.free
  .refine bG (T.item (g9 X N sc cl C s H fp) rfl rfl rfl hc i _ s3 V H3 _ I3p (R fr3) st3 go) λr s4 ⟨u,hr,h4⟩=>?_;subst hr;refine bG h4 λ_ s5 ⟨x,H5,I5,r5,y5,st5,fr5⟩=>?_;have I5':=I5.pinned (R fr5) (T.obj _ _ st5);refine bG (hg C _ s5 V H5 x u _ I5' r5 (nx x H5 y5)) λ_ s6 ⟨l,H6,I6,q6⟩=>?_;refine bG (ht C _ s6 l H6 _ I6 q6) λb s7 ⟨H7,I7,q7⟩=>?_;have itK:∀{s8:Shared}{H8:Hp},Inv (g9 X N sc cl C s H fp) (((X.pn++pins)++[(D,({ cls:=.type "list",data:=.seq F.toArray nn }:Obj))])++l4 fp s5.heap) l H8 s8->tn (i+1) s8.heap/\∀b∈fp,H8 b=none:=λ{s8 H8} I8=>by refine⟨T.keep _ _ _ st5 λb hb o e=>(I8.pin (b,o) (SJ _ (SJ _ (gn hb e)))).1,λb hb=>?_⟩;obtain⟨o,e,d⟩:=T.obj _ _ st5 b hb;exact(I8.pin (b,o) (SJ _ (SJ _ (gn hb e)))).2.1
   cases b with
   |false=>obtain⟨m',hm,w7⟩:=hN _ _ _ q7;obtain⟨t7,f7⟩:=itK I7;have d7:=I7.pin (D,_) (SJ _ (S7 _ (SJ _ (SU.mpr rfl))));exact⟨m',hm,i+1,l,H7,ys,F,I7.dC.dC,t7,f7,d7.2.1,⟨nn,d7.1⟩,j,w7⟩
   |true=>
    refine bG (he C _ s7 l H7 _ I7 q7) λyv s8 ⟨y,H8,I8,r8,q8⟩=>?_;obtain⟨m',hm,w9⟩:=hN _ _ _ q8;obtain⟨t8,f8⟩:=itK I8;have d8:=I8.pin (D,_) (SJ _ (S7 _ (SJ _ (SU.mpr rfl))));refine wpAny_list_append_plain (hsz:=by rw[SM,<-j.length];exact hl) ⟨nn,d8.1⟩ λh9 pl9 sb9=>?_;have I9:=I8.dC.dC.turned (t':=s8.toks) (λb o hb e=>(sb9.2 b hb).trans e) d8.2.1 t (.inr a) (λx c e z=>?_) (λp hp z=>?_)
    .refine⟨m',hm,i+1,l,H8,ys++[y],F++[yv],I9,T.keep _ _ _ t8 λb hb o e=>(sb9.2 b (below b (G b hb)).2).trans e,f8,d8.2.1,?_,j.append (.cons r8 .nil),w9⟩;rw[<-List.push_toArray];exact pl9
    .obtain⟨v,q⟩:=I.cell x c (L _ _ e);exact absurd (SN q.lt (by rw[z];exact a)) (TN _)
    .have hp:=hp;exact absurd (SN (SV (I.pin p hp).1) (by rw[z];exact a)) (TN _)
 exact codeAny_compStart_list (loop _ rfl) (T.self _ _ _ _ _ st1 (loop _ rfl))
end
variable{h':Heap}{px:Pos}
section
variable{X:Cx}{N:List Str}{k:Nat}{sc:Scope}{tg elt iter:Expr}{ifs:List Expr}{pos:Pos}{g:TG}{tt:TT}{te:TE}{wi:TI}
theorem mf{Y:St}(I:Inv X pins Y H s)(S:fB X.N N k sc X.env.scope):
  ∃cl,closureFor sc X.env=pure cl/\(∀x c,cl.lookup x=some c->X.env.cells.lookup x=some c)/\(∀x,(x,Vb)∈sc.names->∃c,cl.lookup x=some c):=
 uL λx hx e=>I.ok.has x.1 (S.fr x hx e)
theorem Inv.letGo{Y:St}{H0:Hp}{u:Shared}(r:Inv X pins Y H0 u){Y':St}(I:Inv X pins Y' H s)(P:u.heap.objs.size<=C)(hn:H C=none)(V:U9 C s.heap h'):Inv X pins Y' H { s with heap:=h' }:=
 I.turned (t':=s.toks) (it:=C) (λb o hb e=>(V.2 b hb).trans e) hn (Vd (SN r.lt P)) (.inr (Tn r.sz P))
  (λx c e z=>by obtain⟨v,q⟩:=r.cell x c e;exact absurd (SN q.lt (by rw[z];exact P)) (TN _))
  (λp hp z=>absurd (SN (SV (r.pin p hp).1) (by rw[z];exact P)) (TN _))
theorem vY(hc:X.calm=true)(S:fB X.N N k sc X.env.scope)(hi:PI X tg iter wi)(hg:∀cl C s H fp,PG (g9 X N sc cl C s H fp) tg g)(ht:∀cl C s H fp,PF (g9 X N sc cl C s H fp) ifs tt)
  (he:∀cl C s H fp,PE (g9 X N sc cl C s H fp) elt te)(hs:∀x,zax iter X.env x=pure x:=by intro _;rfl):PE X (.ListComp elt [⟨tg,iter,ifs,0⟩] sc pos) (xt k wi g tt te):=by
 intro pins s Y H Q I h;obtain⟨cl,hclos,h1,h2⟩:=mf I S;rw[eval_ListComp];refine zbt (use:=none) rfl hs hclos S.kind S.names (bG (hi pins s Y H _ I h) λv s1 q1=>bG q1 λitv s2 q2=>?_);obtain⟨it,fp,tn,J,H2,rfl,I2,T,st2,f2,B⟩:=q2;refine mZ (RR:=λacc C=>compPost (zak X.prog X.w) X.A X.xe none (EP X pins Y Q) acc C) hc S h1 h2 I2 T st2 f2 B (λC=>hg cl C s2 H2 fp) (λC=>ht cl C s2 H2 fp) (λC=>he cl C s2 H2 fp) ?_;intro D C s' H' ys I' hC hn hm q;obtain⟨m,hm⟩:=hm;exact⟨m,hm,λh' sb=>⟨.ref D,_,I2.letGo I' hC hn sb,rfl,q⟩⟩
theorem Ef{i:Nat}{x:Str}{spos:Pos}(hc:X.calm=true)(S:fB X.N N k sc X.env.scope)(hN:X.N.Nodup)(hx:X.N[i]?=some x)(hl:X.env.scope.names.lookup x=some .local)
  (hsw:zaJ (.ListComp elt [⟨tg,iter,ifs,0⟩] sc pos) (some (.Name x px)) spos.line X.env=pure true)(hi:PI X tg iter wi)(hg:∀cl C s H fp,PG (g9 X N sc cl C s H fp) tg g)(ht:∀cl C s H fp,PF (g9 X N sc cl C s H fp) ifs tt)
  (he:∀cl C s H fp,PE (g9 X N sc cl C s H fp) elt te)(hs:∀x,zax iter X.env x=pure x:=by intro _;rfl):PS X (.Assign [.Name x px] (.ListComp elt [⟨tg,iter,ifs,0⟩] sc pos) spos) (Ck (xt k wi g tt te) (Ce i)):=by
 intro pins s Y H D0 I h;obtain⟨cl,hclos,h1,h2⟩:=mf I S;rw[exec_Assign_Name_used _ _ _ _ hsw];refine zaf (zbs (zaf ?_));show zaj _ X.A (do let _ <- comprehension (.ListComp elt [⟨tg,iter,ifs,0⟩] sc pos) sc X.env _ (newList []) false (eval iter X.env) (some (assign (.Name x px) X.env))) _ _ s;refine zaf (bG (zbt (use:=some (assign (.Name x px) X.env)) (Q:=λ_ s'=>SP X pins D0 .next s') rfl hs hclos S.kind S.names
  (bG (hi pins s Y H _ I h) λv s1 q1=>bG q1 λitv s2 q2=>?_)) λ_ s' hq=>zag (zag hq))
 obtain⟨it,fp,tn,J,H2,rfl,I2,T,st2,f2,B⟩:=q2;refine mZ (RR:=λacc C=>compPost (zak X.prog X.w) X.A X.xe (some (assign (.Name x px) X.env)) (λ_ s'=>SP X pins D0 .next s') acc C) hc S h1 h2 I2 T st2 f2 B (λC=>hg cl C s2 H2 fp) (λC=>ht cl C s2 H2 fp) (λC=>he cl C s2 H2 fp) ?_;intro D C s' H' ys I' hC hn hm q;obtain⟨m,hm⟩:=hm;show zaj _ X.A (assign (.Name x px) X.env (.ref D)) _ _ _;refine zb2 (oA I' hN hx (.inl hl) (v:=.ref D) rfl (λs'' I'' ch=>?_) (.inr hl));obtain⟨a,sb,ha⟩:=ch;refine⟨m,hm.sameBut sb ?_,λh' sb'=>⟨_,_,I2.letGo I'' hC hn sb',q⟩⟩;rintro rfl;rcases ha with z|z
 .exact absurd (SN I2.lt (by rw[<-z];exact hC)) (TN _)
 .obtain⟨v,q⟩:=I2.cell x _ z;exact absurd (SN q.lt hC) (TN _)
end
theorem uZ{gs:List za4}{sc:Scope}{x:Str}{line:Nat}(h1:env.blockKind=.function)(h2:env.kindOf x=some .local)(h3:(px.line==pos.line)=true)
  (h4:(sc.names.any λp=>p.1==x&&(p.2==.local || p.2==.cell))=false):zaJ (.ListComp elt gs sc pos) (some (.Name x px)) line env=pure true:=by
 unfold zaJ;show (pure (env.blockKind==.function&&env.kindOf x==some .local&&px.line==pos.line&&!(sc.names.any λp=>p.1==x&&(p.2==.local || p.2==.cell))):Sem Bool)=pure true;rw[h1,h2,h3,h4];rfl
variable{ss:List Str}
section
variable{X:Cx}{tg:Expr}
theorem Inv.jb{Y:St}{a:Addr}(I:Inv X pins Y H s)(hf:∀b o,s.heap.get? b=some o->b≠a):H a=none:=by
 cases e:H a with
 |none=>rfl
 |some u=>obtain⟨ob,z⟩:=(I.hok a u e).is;exact absurd rfl (hf a ob z)
theorem Inv.wA{Y:St}{a:Addr}{t':Nat}(I:Inv X pins Y H s)(k:∀b u,s.heap.get? b=some u->h'.get? b=some u)(hf:∀b o,s.heap.get? b=some o->b≠a)
  (new:bV X.prog X.w (upd H a o) h' a o):Inv X pins Y (upd H a o) { s with heap:=h',toks:=t' }:=by
 have hn:=I.jb hf;refine I.un ⟨λb u e _ _ _=>k b u e,λb u e _ _ _=>⟨u.slots,k b u e⟩,λb u e n _=>by rw[az (hf b u e)];exact n,λb u e _=>⟨u,k b u e⟩,λb xs e=>by rw[az (aG e hn)];exact e,λb u v e=>by rw[az (aG e hn)];exact e,
  λb ps e=>⟨#[],by rw[az (aG e hn),e];simp⟩⟩ λb u e=>?_
 by_cases hb:b=a
 .subst hb;rw[bg] at e;cases e;exact new
 .rw[az hb] at e;exact(I.hok b u e).gy (λc v _ q=>k c v q) (λc q=>by rw[az (aG q hn)];exact q) λc xs q=>by rw[az (aG q hn)];exact q
theorem nG:∀{us:List Value},Vals (ss.map V.str) us->StrsAre us ss:=by
 induction ss with
 |nil=>intro us r;rw[Vp] at r;cases r;exact .nil
 |cons n ns m=>
  intro us r;cases r with
  |cons g k=>obtain⟨t,e⟩:=g;subst e;exact .cons n t (m k)
theorem fY:∀{ss:List Str}{us:List Value},StrsAre us ss->Vals (ss.map V.str) us
 |_,_,.nil=>.nil
 |_,_,.cons y t r=>.cons ⟨t,rfl⟩ (fY r)
def kW(K:SD):List V->Hp->VK->Prop:=λvs H Q=>∃a ss,vs=[.ref a]/\(eI K H a (ss.map V.str)\/∃kvs,H a=some (.dK kvs)/\kvs.map (·.1)=ss.map TU)/\ss.length<64 /\
 ∀r x,H r=none->x.Perm ss->sortedS x=true->Q (.ref r) (upd H r (.lst (x.map V.str)))
theorem iH:64<=sizeLine:=by rw[zav];decide
theorem oh{P:Program}{vs:List (Key×Value)}{acc:Array Value}(e:vs.map (·.1)=ss.map TU)
  (h:ItemsOf (λi v=>∃k x,vs[i]?=some (k,x)/\(aC P w).is k v=true) acc vs.length):StrsAre acc.toList ss:=by
 obtain⟨hs,hi⟩:=h;have hl:ss.length=vs.length:=by have:=zcy Wi e;simpa using this.symm
 have key:∀(j:Nat)(v:Value),acc.toList[j]?=some v->∃(x:Str)(t:Tok),ss[j]?=some x/\v=Yz x t:=λj v c=>by
  obtain⟨k,x,hx,hk⟩:=hi j v (by rw[<-TB];exact c);have hk:gI k v=true:=hk;have F:(vs.map (·.1))[j]?=some k:=by rw[SQ,hx];rfl
  rw[e,SQ] at F;cases Y:ss[j]? with
  |none=>rw[Y] at F;cases F
  |some z=>
   rw[Y] at F;have N:k=TU z:=(Ta F).symm;subst N;rcases aR hk with ⟨i,t,q,_⟩|⟨y,t,q,rfl⟩
   .cases q
   .cases q;exact⟨z,t,rfl,rfl⟩
 have H:acc.toList.length=ss.length:=by rw[Ti,hs,hl]
 clear hs hi e hl;generalize acc.toList=l at key H;induction l generalizing ss with
 |nil=>
  cases ss with
  |nil=>exact .nil
  |cons a b=>cases H
 |cons v l m=>
  cases ss with
  |nil=>cases H
  |cons z ss=>obtain⟨x,t,hx,rfl⟩:=key 0 v rfl;have hx:z=x:=Ta hx;subst hx;exact .cons z t (m (λj u f=>key (j+1) u f) (by simpa using H))
theorem qI(hc:X.calm=true):bX X (.builtin "sorted") (kW X.K):=by
 intro pins s Y H vs us Q I C h;obtain⟨a,ss,rfl,n,A,q⟩:=h;obtain⟨u,rfl,S⟩:=C.one;cases S;rcases n with n|⟨kvs,hd,Z⟩
 .obtain⟨B,r,p,hz⟩:=I.list n;have R:=nG r;have v:B.length=ss.length:=by have:=r.length;simpa using this.symm
  refine sorted_strs p.isList R XV λout x d U g=>?_;obtain⟨e,he⟩:=sortedAll_at s.heap B out;refine⟨.ref _,_,I.laid (o:=.lst (x.map V.str)) (λb o z=>sortedAll_old z) (Vn _) ⟨?_,out.toList,e,fY d,by simpa using he⟩,rfl,q _ x (I.hok.fresh (Vn _)) U g⟩;rw[SE,U.length_eq];exact Tn (UM A) iH
 .obtain⟨hz,lo,vs,t,w⟩:=HL I.hok hd;obtain⟨ep,J⟩:=w.dictAt;have E:vs.map (·.1)=ss.map TU:=by rw[<-t.keys];exact Z
  have v:vs.length=ss.length:=by have:=zcy Wi E;simpa using this
  refine UL zbP zbE zbF (zbG _) ?_;refine zaf (zag ?_);refine zaf (zcf (kdl_dict lo) (I.ok.hd hc) J (by have:=iH;lia) λh' tk acc hk i=>?_);have R:=oh E i;have D:acc.toList.length=ss.length:=by rw[Ti,i.1,v]
  refine zaf (zbd ?_ (by have:=iH;lia));have y:(h'.push (za6 "list" acc.toList.toArray 0)).get? h'.objs.size=some (za6 "list" acc.toList.toArray 0):=S6 _ rfl;refine zaf (zau (zar slot_list_sort ⟨_,y,rfl⟩ entry_list_sort (list_sort_treeK strKind_oneLt y R.keysOf (λP T rest e=>keyKind_strs (by rw[<-e];exact R)) XV λN hp hs=>⟨_,rfl,?_⟩) (zbm _)));obtain⟨x,b1,b2,L⟩:=sorted_out_str R hp hs;obtain⟨e,he⟩:=zbu y;have hf:=λb o z=>S8 (SV (hk b o z));refine zag ⟨_,rfl,.ref _,_,I.wA (o:=.lst (x.map V.str)) (λb o z=>?_) hf ⟨?_,((arrOf N).map (·.2)).toList,e,fY b1,?_⟩,rfl,q _ x (I.jb hf) b2 L⟩
  .rw[zbn (hf b o z) (by rw[za5];exact TH (SV (hk b o z)))];exact SI _ (hk b o z)
  .rw[SE,b2.length_eq];exact Tn (UM A) iH
  .rw[XQ];exact he
def Q5:V->Option Int->Option Int->Hp->VK->Prop:=λx lo hi H Q=>∃z,x=.str z/\z.length<=sizeLine/\Q (.str (Vo z lo hi)) H
theorem rE{o:Option Int}(p:IsPart v o):∃l:Option (Int×Tok),v=partValue l/\l.map (·.1)=o:=by
 cases p with
 |none=>exact⟨none,rfl,rfl⟩
 |int i t=>exact⟨some (i,t),rfl,rfl⟩
theorem LN:fU X Q5:=by intro pins s Y H x v N y lo hi sl Q I o hs pl S h;obtain⟨z,rfl,hz,q⟩:=h;obtain⟨t,rfl⟩:=o;obtain⟨l,rfl,rfl⟩:=rE pl;obtain⟨u,rfl,rfl⟩:=rE S;refine⟨"str",_,F.slot_str_getitem.lookup,zbY _ _ _,wpAny_getItem_str_slice (st:=none) hs rfl ?_⟩;exact post_val_or_str ⟨Tn (XR z _ _) hz,λt' k=>⟨.str _,H,I.tok _,⟨t',rfl⟩,q⟩⟩
noncomputable def iG(ss:List Str):Nat:=(ss.map (λz=>z.length)).sum
theorem iC:∀{us:List Value}{ss:List Str},StrsAre us ss->∃l:List (Str×Tok),us=strValues l/\l.map (·.1)=ss
 |_,_,.nil=>⟨[],rfl,rfl⟩
 |_,_,.cons y t r=>by obtain⟨l,D,F⟩:=iC r;exact⟨(y,t)::l,by rw[D];rfl,by rw[S4,F]⟩
end
section
variable{X:Cx}{pins:List (Addr×Obj)}{Y:St}{H:Hp}{s:Shared}{d:Addr}{ob:Obj}{kvs:List (Key×V)}
theorem Inv.swap{o':HO}(I:Inv X pins Y H s)(e:H d=some o)(r:∀xs,o≠.tup xs)(Q:∀y,o≠.own y)(K:∀ps,o≠.tbl ps)(B:∀u v,X.H₀ d≠some (.frz u v))(new:bV X.prog X.w (upd H d o') s.heap d o'):Inv X pins Y (upd H d o') s:=by
 have nd:∀b,H b=none->b≠d:=λb hb z=>by rw[z,e] at hb;cases hb
 refine⟨I.ok,I.os,I.bare,⟨I.base.keep,I.base.slot,λb u q n hx=>?_,I.base.there,λb xs q=>?_,λb u v q=>?_,λb ps q=>?_⟩,I.loc,I.cell,?_,λx c q=>?_,λp hp=>?_,λb u q=>?_,I.len⟩
 .have:=I.base.free b u q n hx;rw[az (nd b this)];exact this
 .have:=I.base.tups b xs q;rw[az (λz=>by rw[z,e] at this;exact r _ (Ta this))];exact this
 .have:=I.base.frzs b u v q;rw[az (λz=>by rw[z] at q;exact B _ _ q)];exact this
 .obtain⟨more,this⟩:=I.base.tbls b ps q;exact⟨more,by rw[az (λz=>by rw[z,e] at this;exact K _ (Ta this))];exact this⟩
 .rw[az (nd _ I.free)];exact I.free
 .have:=I.freeC x c q;rw[az (nd _ this)];exact this
 .obtain⟨i,E,F⟩:=I.pin p hp;exact⟨i,by rw[az (nd _ E)];exact E,F⟩
 .by_cases hb:b=d
  .subst hb;rw[bg] at q;cases q;exact new
  .rw[az hb] at q;refine(I.hok b u q).gy (λ_ _ _ z=>z) (λc z=>?_) λc xs z=>?_
   .rw[az (λy=>by rw[y,e] at z;exact Q _ (Ta z))];exact z
   .rw[az (λy=>by rw[y,e] at z;exact r _ (Ta z))];exact z
end
section
variable{X:Cx}{tg:Expr}
def NR(K:SD)(b:TE):TI:=λY H R=>b Y H λx X=>∃a,x=.ref a/\(((∃xs,eI K X a xs)/\R (Ru K a) X)\/((∃xs,eU K X a xs)/\R (RE K a) X))
theorem Fn{l:Expr}{r:TE}(hl:PE X l r):PI X tg l (NR X.K r):=by
 intro pins s Y H R I h;refine bG (hl pins s Y H _ I h) λv s1 ⟨x,f,j,g,i⟩=>?_;rcases i with ⟨a,e,⟨⟨xs,n⟩,q⟩|⟨⟨xs,n⟩,q⟩⟩
 .subst e;cases g;obtain⟨B,C,p,hz⟩:=j.list n;refine zb6 p.isList ?_;refine⟨s1.heap.objs.size,[s1.heap.objs.size],_,_,f,rfl,j.kept λb o e=>SI _ e,yp a _,⟨_,S6 _ rfl,rfl,rfl⟩,λb hb=>?_,q⟩;have e:b=s1.heap.objs.size:=by simpa using hb
  subst e;exact j.y0 (SO _) (j.hok.fresh (SO _))
 .subst e;cases g;obtain⟨B,C,p,hz⟩:=j.tuple n;refine wpAny_pyIter_tuple (p) ?_;refine⟨s1.heap.objs.size,[s1.heap.objs.size],_,_,f,rfl,j.kept λb o e=>SI _ e,vy a _,⟨_,S6 _ rfl,rfl,rfl⟩,λb hb=>?_,q⟩;have e:b=s1.heap.objs.size:=by simpa using hb
  subst e;exact j.y0 (SO _) (j.hok.fresh (SO _))
theorem range_all{bs:List Bool}{tr:Nat->Bool}(h:∀i b,bs[i]?=some b->tr i=b):(Tc bs.length).all tr=bs.all id:=by
 have:(Tc bs.length).map tr=bs:=by
  apply Uc;intro i;rw[SQ];by_cases hi:i<bs.length
  .rw[UQ hi,SG hi,YB,h i _ (SG hi)]
  .rw[Tx (by simpa using hi),Tx (by simpa using hi)];rfl
 calc (Tc bs.length).all tr=((Tc bs.length).map tr).all id:=by rw[Zn];rfl
  _=bs.all id:=by rw[this]
end
end L2
namespace W
variable{q:Int}
theorem gP(p:Int)(h:q<0):q<p.fmod q/\p.fmod q<=0:=by
 rw[Int.fmod_eq_emod];have h2:=Int.emod_lt_of_neg p h;by_cases d:q ∣ p
 .rw[zcu (Zm d),Int.emod_eq_zero_of_dvd d];omega
 .rw[zcv (by intro z;rcases z with z|z;omega;exact d z)];omega
theorem sT(p:Int)(h:q≠0):(p.fmod q).natAbs<q.natAbs:=by
 rcases Wv h with z|z
 .have:=gP p z;lia
 .have h1:=Ww p z;have h2:=Vs p z;lia
theorem lP(p q:Int):TZ q (p.fmod q)=TZ p q:=by
 have h:p.fmod q=p-p.fdiv q*q:=by rw[Int.fmod_def,WC]
 rw[h,Int.gcd_sub_mul_right_right,XT]
noncomputable def cd(x y:Int):Int:=if y<0 then -(TZ x y:Int) else (TZ x y:Int)
variable{p:Int}
theorem Gp(h:q≠0)(z:p.fmod q=0):q=cd p q:=by
 have e:=lP p q;rw[z,YC] at e
 delta cd
 split<;>lia
theorem Fo(h:q≠0)(z:p.fmod q≠0):cd q (p.fmod q)=cd p q:=by
 delta cd
 rw[lP]
 rcases Wv h with g|g
 .have:=gP p g
  rw[zcu XV,zcu g]
 .have h2:=Vs p g
  rw[zcv XV,zcv XV]
theorem sQ(x y:Int):cd x y ∣ x:=by
 delta cd;split
 .exact(ZJ).mpr (WJ x y)
 .exact WJ x y
theorem pU(x y:Int):cd x y ∣ y:=by
 delta cd;split
 .exact(ZJ).mpr (VW x y)
 .exact VW x y
theorem xN{x y:Int}(h:y≠0):cd x y≠0:=by
 have:=U0 x h
 delta cd;split<;>lia
theorem Bk(x y:Int):(cd x y).natAbs=TZ x y:=by delta cd;split<;>lia
theorem Pn{x y:Int}(h:y≠0):(cd x y).natAbs<=y.natAbs:=by rw[Bk];have h1:=Int.natCast_dvd_natCast.mp (Int.dvd_natAbs.mpr (VW x y));exact Nat.le_of_dvd XV h1
noncomputable abbrev Num:=Int×Int
def gB(t b:Int):Num:=(t.fdiv (cd t b),b.fdiv (cd t b))
noncomputable def Mq(t b:Int):Num:=if b<0 then ((-t).fdiv (TZ (-t) (-b)),(-b).fdiv (TZ (-t) (-b))) else (t.fdiv (TZ t b),b.fdiv (TZ t b))
theorem jy{t g:Int}(J:g≠0)(d:g ∣ t):(-t).fdiv g=t.fdiv (-g):=by
 obtain⟨k,rfl⟩:=d;have D:-(g*k)=g*(-k):=by rw[Int.mul_neg]
 have l:g*k=(-g)*(-k):=by rw[Int.neg_mul_neg]
 rw[D,Vk _ J,l,Vk _ XV]
theorem GK{t:Int}(h:b≠0):Mq t b=gB t b:=by
 delta Mq gB cd
 by_cases z:b<0
 .rw[zcu z,zcu z,Int.gcd_neg,ZK]
  have H:=U0 t h
  rw[jy XV (WJ t b),jy XV (VW t b)]
 .rw[zcv z,zcv z]
open L2
def Ok(q:Num):Prop:=0<q.2/\TZ q.1 q.2=1
theorem kQ{t:Int}(h:b≠0):cd t b*(gB t b).1=t/\cd t b*(gB t b).2=b:=by
 have B:=xN (x:=t) h;obtain⟨k,hk⟩:=sQ t b;obtain⟨m,v⟩:=pU t b;have D:t.fdiv (cd t b)=k:=by have:=Vk k B;rwa[<-hk] at this
 have l:b.fdiv (cd t b)=m:=by have:=Vk m B;rwa[<-v] at this
 exact⟨by show cd t b*t.fdiv (cd t b)=t;rw[D];exact hk.symm,by show cd t b*b.fdiv (cd t b)=b;rw[l];exact v.symm⟩
theorem Gr{t:Int}(h:b≠0):(0<b->0<cd t b)/\(b<0->cd t b<0):=by
 have:=U0 t h
 delta cd
 constructor
 .intro z;rw[zcv XV];lia
 .intro z;rw[zcu z];lia
theorem wV{t:Int}(h:b≠0):0<(gB t b).2:=by
 obtain⟨_,e⟩:=kQ (t:=t) h;obtain⟨s1,s2⟩:=Gr (t:=t) h;rcases Wv h with z|z
 .have c:=s2 z;rcases Zw 0 (gB t b).2 with q|q
  .exact q
  .have:=Int.mul_nonneg_of_nonpos_of_nonpos (WD c) q;lia
 .have c:=s1 z;rcases Zw 0 (gB t b).2 with q|q
  .exact q
  .have:=Int.mul_nonpos_of_nonneg_of_nonpos (WD c) q;lia
theorem BI{t:Int}(h:b≠0):Ok (gB t b):=by
 refine⟨wV h,?_⟩;obtain⟨D,l⟩:=kQ h;have g:TZ (cd t b*(gB t b).1) (cd t b*(gB t b).2)=(cd t b).natAbs*TZ (gB t b).1 (gB t b).2:=Int.gcd_mul_left _ _ _;rw[D,l,Bk] at g;have p:=U0 t h;have:TZ t b*1=TZ t b*TZ (gB t b).1 (gB t b).2:=by rw[Nat.mul_one];exact g
 exact(Nat.eq_of_mul_eq_mul_left p this).symm
theorem Ok.neg{q:Num}(h:Ok q):Ok (-q.1,q.2):=⟨h.1,by show TZ (-q.1) q.2=1;rw[ZK];exact h.2⟩
variable{c:Int}
theorem nD{x:Int}(h:c≠0):x.natAbs<=(c*x).natAbs:=by rw[Xe];exact Nat.le_mul_of_pos_left _ XV
theorem C8{t:Int}{m n:Nat}(h:b≠0)(h1:Bd m t)(h2:Bd n b):Bd m (gB t b).1/\Bd n (gB t b).2:=by obtain⟨D,l⟩:=kQ h;have d:=nD (x:=(gB t b).1) (xN (x:=t) h);have U:=nD (x:=(gB t b).2) (xN (x:=t) h);rw[D] at d;rw[l] at U;exact⟨T4 d h1,T4 U h2⟩
structure NB(n:Nat)(q:Num):Prop where
 ok:Ok q
 b1:Bd n q.1
 b2:Bd n q.2
theorem NB.mono{m n:Nat}{q:Num}(h:NB m q)(k:m<=n):NB n q:=⟨h.ok,h.b1.mono k,h.b2.mono k⟩
theorem NB.nz{n:Nat}{q:Num}(h:NB n q):q.2≠0:=by have:=h.ok.1;lia
theorem NB.gB{t b:Int}{n:Nat}(h:b≠0)(h1:Bd n t)(h2:Bd n b):NB n (gB t b):=⟨BI h,(C8 h h1 h2).1,(C8 h h1 h2).2⟩
def eC(x y:Num):Num:=gB (x.1*y.2+y.1*x.2) (x.2*y.2)
def cS(x y:Num):Num:=gB (x.1*y.2-y.1*x.2) (x.2*y.2)
def iT(x y:Num):Num:=gB (x.1*y.1) (x.2*y.2)
theorem Bc(x y:Num):eC x (-y.1,y.2)=cS x y:=by
 delta eC cS
 rw[Int.neg_mul,YA]
theorem NB.neg{n:Nat}{y:Num}(h:NB n y):NB n (-y.1,y.2):=⟨h.ok.neg,h.b1.neg,h.b2⟩
theorem NB.zero{n:Nat}:NB (n+1) (0,1):=⟨⟨by decide,by decide⟩,SN W1 (UE W1 (Y6 1 n)),SN (by decide:1<2^1) (UE W1 (Y6 1 n))⟩
noncomputable def nv(x:Num):Rat:=VM x.1 x.2
theorem qB{t:Int}(h:b≠0):nv (gB t b)=VM t b:=by
 obtain⟨D,l⟩:=kQ h;have p:=wV (t:=t) h
 delta nv
 rw[Xz XV h];generalize (gB t b).1=k at D ⊢;generalize (gB t b).2=m at l p ⊢;rw[<-D];rw[show k*b=k*(cd t b*m) from by rw[l]];rw[Int.mul_left_comm,Int.mul_assoc]
theorem DC{x y:Num}(h:Ok x)(k:Ok y):nv (eC x y)=nv x+nv y:=by
 have h1:=h.1;have Y:=k.1
 delta eC
 rw[qB (TY XV XV)];exact(X8 _ _ XV XV).symm
theorem eS{x y:Num}(h:Ok x)(k:Ok y):nv (cS x y)=nv x-nv y:=by
 have h1:=h.1;have Y:=k.1
 delta cS
 rw[qB (TY XV XV)];exact(Rat.divInt_sub_divInt _ _ XV XV).symm
theorem Kq{x y:Num}(h:Ok x)(k:Ok y):nv (iT x y)=nv x*nv y:=by
 have h1:=h.1;have Y:=k.1
 delta iT
 rw[qB (TY XV XV)];exact(X9 _ _).symm
theorem OG{a:Int}(h:a ∣ b*c)(g:TZ a b=1):a ∣ c:=by
 have h1:a.natAbs ∣ b.natAbs*c.natAbs:=by rw[<-Xe];exact Yb.mpr h
 exact Yb.mp (Nat.Coprime.dvd_of_dvd_mul_left (g) h1)
theorem Hr{x y:Num}(h:Ok x)(k:Ok y)(e:nv x=nv y):x=y:=by
 have h1:=h.1;have Y:=k.1
 delta nv at e
 rw[Xz XV XV] at e;have Z:=OG (⟨y.1,by rw[e,WC]⟩) (by rw[XT];exact h.2);have b:=OG (⟨x.1,by rw[<-e,WC]⟩) (by rw[XT];exact k.2);have l:=Int.dvd_antisymm (by exact WD ‹_›) (by exact WD ‹_›) Z b;rw[l] at e;have D:=Int.eq_of_mul_eq_mul_right XV e;exact Prod.ext D l
theorem BN{x y:Num}(h:Ok x)(k:Ok y):x.1*y.2<y.1*x.2↔nv x<nv y:=by
 have h1:=h.1;have Y:=k.1;have hx:(x.2:Rat)≠0:=by intro z;have:=Y7.mp (show ((x.2:Int):Rat)=((0:Int):Rat) from z);lia
 have hy:(y.2:Rat)≠0:=by intro z;have:=Y7.mp (show ((y.2:Int):Rat)=((0:Int):Rat) from z);lia
 have ex:nv x*(x.2:Rat)=x.1:=by delta nv;rw[YL];grind
 have O:nv y*(y.2:Rat)=y.1:=by delta nv;rw[YL];grind
 have e:(0:Rat)<(x.2:Rat):=by have:=Wa.mpr h1;simpa using this
 have p:(0:Rat)<(y.2:Rat):=by have:=Wa.mpr Y;simpa using this
 have u:=Rat.mul_pos e p;rw[<-Wa,Y8,Y8,<-ex,<-O];rw[show nv x*(x.2:Rat)*(y.2:Rat)=nv x*((x.2:Rat)*(y.2:Rat)) by grind,show nv y*(y.2:Rat)*(x.2:Rat)=nv y*((x.2:Rat)*(y.2:Rat)) by grind];exact Rat.mul_lt_mul_right u
theorem hZ:nv (0,1)=0:=by decide +kernel
theorem wK:Ok (0,1):=⟨by decide,by decide⟩
section
variable{x y z:Num}(hx:Ok x)(hy:Ok y)(hz:Ok z)
noncomputable def D1(x y:Num):Bool:=decide (x.1*y.2<y.1*x.2)
include hx hy in
theorem g7:D1 x y=true↔nv x<nv y:=by unfold D1;rw[decide_eq_true_eq];exact BN hx hy
include hx hy hz in
end
end W
set_option maxHeartbeats 1000000
namespace W
open L2 PySem
theorem NB.yE{m n:Nat}{x y:Num}(h:NB m x)(k:NB n y):NB (m+n+1) (eC x y):=
 .gB (TY h.nz k.nz) (((h.b1.mul k.b2).add ((k.b1.mul h.b2).mono (n:=m+n) XV)).mono XV) ((h.b2.mul k.b2).mono XV)
abbrev Pr:=Str×Num
def MF(ps:List Pr)(n:Str):Num:=ps.foldl (λacc p=>if p.1=n then eC acc p.2 else acc) (0,1)
end W
namespace M
open PySem L2
inductive A where
 |non|bl(b:Bool)|int(i:Int)|str(x:Str)|tup(xs:List A)|lst(xs:List A)|dic(kvs:List (Key×A))|exc(c:Str)|obj(c:Str)(fs:List (Str×A))|dit(kvs:List (List Key×A))|opq
structure Kx where
 K:SD
 mg:Str->Option Value
 P:Program
 w:zam
def rB:List (List Key×Addr×V)->List (List Key×Addr×Value)->Prop:=Paired λx y=>x.1=y.1/\x.2.1=y.2.1/\RelV x.2.2 y.2.2
def dX(P:Program)(w:zam)(p:Addr)(xs:List (List Key×Addr×V)):HO:=.dU λh=>xs.length<=sizeLine/\(p==zap)=false/\∃ys,rB xs ys /\
 ∃o es ep,h.get? p=some o/\o.ExactDict/\o.data=.dict es ep/\es.toList=ys.map (zbk (zaq (aC P w)))/\(ys.map (·.1)).Nodup
mutual
inductive RA(k:Kx)(G:Hp):V->A->Prop
 |non:RA k G .non .non
 |bl(b:Bool):RA k G (.bl b) (.bl b)
 |int(i:Int):RA k G (.int i) (.int i)
 |str(x:Str):RA k G (.str x) (.str x)
 |tup{p:Addr}{vs:List V}{as:List A}(e:eU k.K G p vs)(r:br k G vs as):RA k G (.ref p) (.tup as)
 |lst{p:Addr}{vs:List V}{as:List A}(e:eI k.K G p vs)(r:br k G vs as):RA k G (.ref p) (.lst as)
 |dic{p:Addr}{vs:List (Key×V)}{as:List (Key×A)}(e:Rd G p (.dK vs))(r:fz k G vs as):RA k G (.ref p) (.dic as)
 |exc{p C:Addr}{c:Str}(e:G p=some (Qf p C))(m:k.mg c=some (.ref C)):RA k G (.ref p) (.exc c)
 |obj{p C dx:Addr}{c:Str}{vs:List (Str×V)}{fs:List (Str×A)}(e:G p=some (.ins C dx vs))(m:k.mg c=some (.ref C))(r:nW k G vs fs):RA k G (.ref p) (.obj c fs)
 |dit{p:Addr}{vs:List (List Key×Addr×V)}{as:List (List Key×A)}(e:Rd G p (dX k.P k.w p vs))(r:fH k G vs as):RA k G (.ref p) (.dit as)
 |opq{p:Addr}:RA k G (.ref p) .opq
inductive br(k:Kx)(G:Hp):List V->List A->Prop
 |nil:br k G [] []
 |cons{v:V}{a:A}{vs:List V}{as:List A}(h:RA k G v a)(r:br k G vs as):br k G (v::vs) (a::as)
inductive nW(k:Kx)(G:Hp):List (Str×V)->List (Str×A)->Prop
 |nil:nW k G [] []
 |cons{y:Str}{v:V}{a:A}{vs:List (Str×V)}{as:List (Str×A)}(h:RA k G v a)(r:nW k G vs as):nW k G ((y,v)::vs) ((y,a)::as)
inductive fH(k:Kx)(G:Hp):List (List Key×Addr×V)->List (List Key×A)->Prop
 |nil:fH k G [] []
 |cons{y:List Key}{b:Addr}{v:V}{a:A}{vs:List (List Key×Addr×V)}{as:List (List Key×A)}(e:eU k.K G b (y.map kV))(h:RA k G v a)(r:fH k G vs as):fH k G ((y,b,v)::vs) ((y,a)::as)
inductive fz(k:Kx)(G:Hp):List (Key×V)->List (Key×A)->Prop
 |nil:fz k G [] []
 |cons{y:Key}{v:V}{a:A}{vs:List (Key×V)}{as:List (Key×A)}(h:RA k G v a)(r:fz k G vs as):fz k G ((y,v)::vs) ((y,a)::as)
end
noncomputable def qX:HO->Option HO
 | .dK kvs=>some (.dK kvs)
 | .frz _ (.dK kvs)=>some (.dK kvs)
 | .dU φ=>some (.dU φ)
 | .frz _ (.dU φ)=>some (.dU φ)
 |_=>none
def Oq(o o':HO):Prop:=o'=o\/∃d,qX o=some d/\qX o'=some d
variable{G:Hp}
theorem cW{b:Addr}{o d:HO}(h:G b=some o)(e:qX o=some d):Rd G b d:=by
 cases o with
 |dK=>cases e;exact .inl h
 |dU=>cases e;exact .inl h
 |frz b o=>
  cases o with
  |dK=>cases e;exact .inr ⟨_,h⟩
  |dU=>cases e;exact .inr ⟨_,h⟩
  |_=>exact cu e
 |_=>exact cu e
variable{kvs:List (Key×V)}
theorem Dj{b:Addr}(h:Rd G b (.dK kvs)):∃o,G b=some o/\qX o=some (.dK kvs):=by
 rcases h with h|⟨o,h⟩
 .exact⟨_,h,rfl⟩
 .exact⟨_,h,rfl⟩
variable{φ:Heap->Prop}
theorem Dv{b:Addr}(h:Rd G b (.dU φ)):∃o,G b=some o/\qX o=some (.dU φ):=by
 rcases h with h|⟨o,h⟩
 .exact⟨_,h,rfl⟩
 .exact⟨_,h,rfl⟩
def Sq(G G':Hp):Prop:=∀b o,G b=some o->∃o',G' b=some o'/\Oq o o'
variable{G':Hp}
theorem Sq.of(h:P4 G G'):Sq G G':=λb o e=>⟨o,h b o e,.inl rfl⟩
theorem Sq.refl(G:Hp):Sq G G:=λb o e=>⟨o,e,.inl rfl⟩
theorem Sq.keep(h:Sq G G'){b:Addr}{o:HO}(e:G b=some o)(n:qX o=none):G' b=some o:=by
 obtain⟨o',h1,h2⟩:=h b o e;rcases h2 with rfl|⟨kvs,h3,_⟩
 .exact h1
 .rw[n] at h3;cases h3
theorem Sq.Ry(h:Sq G G'){b:Addr}{o d:HO}(e:G b=some o)(k:qX o=some d):Rd G' b d:=by
 obtain⟨o',h1,h2⟩:=h b o e;rcases h2 with rfl|⟨x,h3,h4⟩
 .exact cW h1 k
 .rw[k] at h3;cases h3;exact cW h1 h4
theorem Sq.QV(h:Sq G G'){b:Addr}(r:Rd G b (.dK kvs)):Rd G' b (.dK kvs):=by obtain⟨o,e,d⟩:=Dj r;exact h.Ry e d
theorem Sq.Qe(h:Sq G G'){b:Addr}(r:Rd G b (.dU φ)):Rd G' b (.dU φ):=by obtain⟨o,e,d⟩:=Dv r;exact h.Ry e d
variable{p:Addr}{vs:List V}
theorem dk{K:SD}(h:Sq G G')(q:eU K G p vs):eU K G' p vs:=q.imp (λr=>by
 rcases r with r|⟨o,r⟩
 .exact .inl (h.keep r rfl)
 .exact .inr ⟨o,h.keep r rfl⟩) id
theorem f9{K:SD}(h:Sq G G')(q:eI K G p vs):eI K G' p vs:=q.imp (λr=>by
 rcases r with r|⟨o,r⟩
 .exact .inl (h.keep r rfl)
 .exact .inr ⟨o,h.keep r rfl⟩) id
variable{v:V}
section
variable{k:Kx}{G G':Hp}
mutual
theorem RA.sm(s:Sq G G'):∀{v:V}{a:A},RA k G v a->RA k G' v a
 |_,_,.non=>.non
 |_,_,.bl b=>.bl b
 |_,_,.int i=>.int i
 |_,_,.str x=>.str x
 |_,_,.tup e r=>.tup (dk s e) (br.sm s r)
 |_,_,.lst e r=>.lst (f9 s e) (br.sm s r)
 |_,_,.dic e r=>.dic (s.QV e) (fz.sm s r)
 |_,_,.exc e m=>.exc (s.keep e rfl) m
 |_,_,.obj e m r=>.obj (s.keep e rfl) m (nW.sm s r)
 |_,_,.dit e r=>.dit (s.Qe e) (fH.sm s r)
 |_,_,.opq=>.opq
theorem nW.sm(s:Sq G G'):∀{vs:List (Str×V)}{as:List (Str×A)},nW k G vs as->nW k G' vs as
 |_,_,.nil=>.nil
 |_,_,.cons h r=>.cons (RA.sm s h) (nW.sm s r)
theorem br.sm(s:Sq G G'):∀{vs:List V}{as:List A},br k G vs as->br k G' vs as
 |_,_,.nil=>.nil
 |_,_,.cons h r=>.cons (RA.sm s h) (br.sm s r)
theorem fH.sm(s:Sq G G'):∀{vs:List (List Key×Addr×V)}{as:List (List Key×A)},fH k G vs as->fH k G' vs as
 |_,_,.nil=>.nil
 |_,_,.cons e h r=>.cons (dk s e) (RA.sm s h) (fH.sm s r)
theorem fz.sm(s:Sq G G'):∀{vs:List (Key×V)}{as:List (Key×A)},fz k G vs as->fz k G' vs as
 |_,_,.nil=>.nil
 |_,_,.cons h r=>.cons (RA.sm s h) (fz.sm s r)
end
theorem br.len:∀{vs:List V}{as:List A},br k G vs as->vs.length=as.length
 |_,_,.nil=>rfl
 |_,_,.cons _ r=>by rw[S5,S5,r.len]
theorem br.at:∀{vs:List V}{as:List A}{i:Nat}{v:V},br k G vs as->vs[i]?=some v->∃a,as[i]?=some a/\RA k G v a
 |_,_,_,_,.nil,e=>by simp at e
 |_,_,0,_,.cons h _,e=>by cases e;exact⟨_,rfl,h⟩
 |_,_,i+1,_,.cons _ r,e=>r.at e
theorem br.ta:∀{vs:List V}{as:List A}{i:Nat}{a:A},br k G vs as->as[i]?=some a->∃v,vs[i]?=some v/\RA k G v a
 |_,_,_,_,.nil,e=>by simp at e
 |_,_,0,_,.cons h _,e=>by cases e;exact⟨_,rfl,h⟩
 |_,_,i+1,_,.cons _ r,e=>r.ta e
theorem br.app:∀{vs us:List V}{as bs:List A},br k G vs as->br k G us bs->br k G (vs++us) (as++bs)
 |_,_,_,_,.nil,s=>s
 |_,_,_,_,.cons h r,s=>.cons h (r.app s)
theorem br.snoc{as:List A}{a:A}(r:br k G vs as)(h:RA k G v a):br k G (vs++[v]) (as++[a]):=r.app (.cons h .nil)
theorem br.rev:∀{vs:List V}{as:List A},br k G vs as->br k G vs.reverse as.reverse
 |_,_,.nil=>.nil
 |_,_,.cons h r=>by rw[VT,VT];exact r.rev.snoc h
theorem br.take:∀{vs:List V}{as:List A}(n:Nat),br k G vs as->br k G (vs.take n) (as.take n)
 |_,_,0,_=>.nil
 |_,_,_+1,.nil=>.nil
 |_,_,n+1,.cons h r=>.cons h (r.take n)
theorem br.drop:∀{vs:List V}{as:List A}(n:Nat),br k G vs as->br k G (vs.drop n) (as.drop n)
 |_,_,0,r=>r
 |_,_,_+1,.nil=>.nil
 |_,_,n+1,.cons _ r=>r.drop n
theorem br.set{v:V}{a:A}(h:RA k G v a):∀{vs:List V}{as:List A}(i:Nat),br k G vs as->br k G (vs.set i v) (as.set i a)
 |_,_,_,.nil=>.nil
 |_,_,0,.cons _ r=>.cons h r
 |_,_,i+1,.cons q r=>.cons q (r.set h i)
theorem br.strs:∀{vs:List V}{ss:List Str},br k G vs (ss.map A.str)->vs=ss.map V.str
 |_,[],.nil=>rfl
 |_,_::ss,.cons h r=>by cases h;rw[r.strs];rfl
theorem br.ofStrs:∀(ss:List Str),br k G (ss.map V.str) (ss.map A.str)
 |[]=>.nil
 |s::ss=>.cons (.str s) (br.ofStrs ss)
noncomputable def l9{α:Type}(as:List (Key×α))(y:Key):Option α:=(as.find? λs=>decide (s.1=y)).map (·.2)
noncomputable def rT{α:Type}(as:List (Key×α))(y:Key)(a:α):List (Key×α):=
 if (as.any λs=>decide (s.1=y))=true then as.map λs=>if s.1=y then (s.1,a) else s else as++[(y,a)]
theorem fz.len:∀{vs:List (Key×V)}{as:List (Key×A)},fz k G vs as->vs.length=as.length
 |_,_,.nil=>rfl
 |_,_,.cons _ r=>by rw[S5,S5,r.len]
theorem fz.keys:∀{vs:List (Key×V)}{as:List (Key×A)},fz k G vs as->vs.map (·.1)=as.map (·.1)
 |_,_,.nil=>rfl
 |_,_,.cons _ r=>by rw[S4,S4,r.keys]
theorem fz.app:∀{vs us:List (Key×V)}{as bs:List (Key×A)},fz k G vs as->fz k G us bs->fz k G (vs++us) (as++bs)
 |_,_,_,_,.nil,s=>s
 |_,_,_,_,.cons h r,s=>.cons h (r.app s)
theorem fz.get:∀{vs:List (Key×V)}{as:List (Key×A)}(y:Key),fz k G vs as->(∃v a,fQ vs y=some v/\l9 as y=some a/\RA k G v a)\/(fQ vs y=none/\l9 as y=none)
 |_,_,y,.nil=>.inr ⟨rfl,rfl⟩
 |_,_,y,.cons (y:=z) (v:=v) (a:=a) h r=>by
  delta fQ l9
  by_cases c:z=y
  .left;exact⟨v,a,by simp[Tf,c],by simp[Tf,c],h⟩
  .have:=fz.get y r
   unfold fQ l9 at this
   simpa[Tf,c] using this
theorem fz.any:∀{vs:List (Key×V)}{as:List (Key×A)}(y:Key),fz k G vs as->(vs.any λs=>decide (s.1=y))=(as.any λs=>decide (s.1=y))
 |_,_,y,.nil=>rfl
 |_,_,y,.cons h r=>by rw[Up,Up,fz.any y r]
theorem fz.uw{v:V}{a:A}(y:Key)(h:RA k G v a):∀{vs:List (Key×V)}{as:List (Key×A)},fz k G vs as->fz k G (vs.map λs=>if s.1=y then (s.1,v) else s) (as.map λs=>if s.1=y then (s.1,a) else s)
 |_,_,.nil=>.nil
 |_,_,.cons (y:=z) q r=>by
  rw[S4,S4];by_cases c:z=y
  .simp only[c,if_true];exact .cons h (fz.uw y h r)
  .simp only[c,if_false];exact .cons q (fz.uw y h r)
theorem fz.put{vs:List (Key×V)}{as:List (Key×A)}{a:A}(y:Key)(r:fz k G vs as)(h:RA k G v a):fz k G (putK vs y v) (rT as y a):=by
 delta putK rT
 rw[r.any y]
 split
 .exact fz.uw y h r
 .exact r.app (.cons h .nil)
end
noncomputable def cut(H:Hp)(L:List Addr):Hp:=λa=>if a∈L then none else H a
variable{H:Hp}{L:List Addr}
theorem A8{a:Addr}(h:a∈L):cut H L a=none:=zcu h
theorem qK{a:Addr}(h:a∉L):cut H L a=H a:=zcv h
theorem A5(H:Hp)(L:List Addr):Sq (cut H L) H:=Sq.of λb o e=>by
 delta cut at e
 split at e
 .cases e
 .exact e
variable{L':List Addr}
theorem Dg(h:∀a,a∈L'->a∈L):Sq (cut H L) (cut H L'):=Sq.of λb o e=>by
 by_cases c:b∈L
 .rw[A8 c] at e;cases e
 .rw[qK c] at e;rw[qK λz=>c (h b z)];exact e
inductive LO where
 |lst(xs:List A)|dic(kvs:List (Key×A))|obj(c:Str)(fs:List (Str×A))|dit(kvs:List (List Key×A))|nob(c:Str)(fs:List (Str×A))(ls:List (Str×List A))
def LO.a:LO->A
 | .lst xs=>.lst xs
 | .dic kvs=>.dic kvs
 | .obj c fs=>.obj c fs
 | .dit kvs=>.dit kvs
 | .nob c fs ls=>.obj c (fs++ls.map λp=>(p.1,.lst p.2))
def LO.rd:LO->Option A
 | .lst xs=>some (.lst xs)
 | .dic kvs=>some (.dic kvs)
 | .obj c fs=>some (.obj c fs)
 | .dit kvs=>some (.dit kvs)
 | .nob _ _ _=>none
inductive Sl where
 |un|fr(a:A)|lv(o:LO)|pv(o:LO)|cf(a:A)
inductive t6(k:Kx)(G H:Hp):List (Str×V)->List (Str×List A)->List Addr->Prop
 |nil:t6 k G H [] [] []
 |cons{y:Str}{a:Addr}{us:List V}{xs:List A}{ws:List (Str×V)}{ls:List (Str×List A)}{q:List Addr}(e:H a=some (.lst us))(r:br k G us xs)(t:t6 k G H ws ls q):t6 k G H ((y,.ref a)::ws) ((y,xs)::ls) (a::q)
inductive LR(k:Kx)(G H:Hp)(p:Addr):LO->List Addr->Prop
 |lst{vs:List V}{as:List A}(e:H p=some (.lst vs))(r:br k G vs as):LR k G H p (.lst as) []
 |dic{vs:List (Key×V)}{as:List (Key×A)}(e:H p=some (.dK vs))(r:fz k G vs as):LR k G H p (.dic as) []
 |obj{C dx:Addr}{c:Str}{vs:List (Str×V)}{fs:List (Str×A)}(e:H p=some (.ins C dx vs))(m:k.mg c=some (.ref C))(r:nW k G vs fs):LR k G H p (.obj c fs) []
 |dit{vs:List (List Key×Addr×V)}{as:List (List Key×A)}(e:H p=some (dX k.P k.w p vs))(r:fH k G vs as):LR k G H p (.dit as) []
 |nob{C dx:Addr}{c:Str}{vs ws:List (Str×V)}{fs:List (Str×A)}{ls:List (Str×List A)}{q:List Addr}(e:H p=some (.ins C dx (vs++ws)))(m:k.mg c=some (.ref C))(r:nW k G vs fs)(l:t6 k G H ws ls q):LR k G H p (.nob c fs ls) q
inductive fU(k:Kx)(G H:Hp):Option V->Sl->List Addr->Prop
 |un(x:Option V):fU k G H x .un []
 |fr{v:V}{a:A}(h:RA k G v a):fU k G H (some v) (.fr a) []
 |lv{p:Addr}{o:LO}{q:List Addr}(h:LR k G H p o q):fU k G H (some (.ref p)) (.lv o) (p::q)
 |pv{p:Addr}{o:LO}{q:List Addr}(h:LR k G H p o q):fU k G H (some (.ref p)) (.pv o) (p::q)
 |cf{v:V}{a:A}(h:RA k G v a):fU k G H (some v) (.cf a) []
inductive aA(k:Kx)(G H:Hp):St->List Sl->List Addr->Prop
 |nil:aA k G H [] [] []
 |cons{x:Option V}{s:Sl}{Y:St}{Z:List Sl}{L L':List Addr}(h:fU k G H x s L)(r:aA k G H Y Z L'):aA k G H (x::Y) (s::Z) (L++L')
variable{ws:List (Str×V)}{q:List Addr}
section
variable{k:Kx}{G G' H H':Hp}{L:List Addr}
theorem t6.is{ls:List (Str×List A)}(h:t6 k G H ws ls q):∀a∈q,∃u,H a=some u:=by
 induction h with
 |nil=>intro a d;cases d
 |cons e r t m=>intro b hb;rcases SR.mp hb with rfl|hb;exact⟨_,e⟩;exact m b hb
theorem t6.sm(s:Sq G G'){ws:List (Str×V)}{ls:List (Str×List A)}{q:List Addr}(h:t6 k G H ws ls q):(∀a∈q,∀u,H a=some u->H' a=some u)->t6 k G' H' ws ls q:=by
 induction h with
 |nil=>intro _;exact .nil
 |cons e r t m=>intro k;exact .cons (k _ SH _ e) (r.sm s) (m λb hb=>k b (SK _ hb))
theorem t6.a(s:Sq G G'){ws:List (Str×V)}{ls:List (Str×List A)}{q:List Addr}(h:t6 k G H ws ls q):(∀a∈q,∀u,H a=some u->G' a=some u)->nW k G' ws (ls.map λp=>(p.1,A.lst p.2)):=by
 induction h with
 |nil=>intro _;exact .nil
 |cons e r t m=>intro k;exact .cons (.lst (.inl (.inl (k _ SH _ e))) (r.sm s)) (m λb hb=>k b (SK _ hb))
theorem nW.app{vs:List (Str×V)}{as bs:List (Str×A)}(h:nW k G vs as)(h':nW k G ws bs):nW k G (vs++ws) (as++bs):=by
 induction vs generalizing as with
 |nil=>cases h;exact h'
 |cons v vs m=>cases h with|cons q r=>exact .cons q (m r)
theorem LR.is{p:Addr}{o:LO}{q:List Addr}(h:LR k G H p o q):∀a∈p::q,∃u,H a=some u:=by
 intro a d;rcases SR.mp d with rfl|d
 .cases h with|lst e _=>exact⟨_,e⟩|dic e _=>exact⟨_,e⟩|obj e _ _=>exact⟨_,e⟩|dit e _=>exact⟨_,e⟩|nob e _ _ _=>exact⟨_,e⟩
 .cases h with|lst e _=>cases d|dic e _=>cases d|obj e _ _=>cases d|dit e _=>cases d|nob _ _ _ l=>exact l.is a d
theorem LR.sm(s:Sq G G'){p:Addr}{o:LO}{q:List Addr}(e:∀a∈p::q,∀u,H a=some u->H' a=some u)(h:LR k G H p o q):LR k G' H' p o q:=by
 have I:=e p SH;cases h with
 |lst q r=>exact .lst (I _ q) (r.sm s)
 |dic q r=>exact .dic (I _ q) (r.sm s)
 |obj q m r=>exact .obj (I _ q) m (r.sm s)
 |dit q r=>exact .dit (I _ q) (r.sm s)
 |nob q m r l=>exact .nob (I _ q) m (r.sm s) (l.sm s λa d=>e a (SK _ d))
theorem fU.is{x:Option V}{t:Sl}(h:fU k G H x t L):∀p∈L,∃u,H p=some u:=by
 cases h with
 |un=>intro p hp;cases hp
 |fr=>intro p hp;cases hp
 |lv h=>exact h.is
 |pv h=>exact h.is
 |cf=>intro p hp;cases hp
theorem fU.sm(s:Sq G G'){x:Option V}{t:Sl}(e:∀p∈L,∀u,H p=some u->H' p=some u)(h:fU k G H x t L):fU k G' H' x t L:=by
 cases h with
 |un=>exact .un _
 |fr h=>exact .fr (h.sm s)
 |lv h=>exact .lv (h.sm s e)
 |pv h=>exact .pv (h.sm s e)
 |cf h=>exact .cf (h.sm s)
theorem aA.is:∀{Y:St}{Z:List Sl}{L:List Addr},aA k G H Y Z L->∀p∈L,∃u,H p=some u
 |_,_,_,.nil,p,hp=>by cases hp
 |_,_,_,.cons h r,p,hp=>(SY.mp hp).elim (h.is p) (r.is p)
theorem aA.sm(s:Sq G G'):∀{Y:St}{Z:List Sl}{L:List Addr},(∀p∈L,∀u,H p=some u->H' p=some u)->aA k G H Y Z L->aA k G' H' Y Z L
 |_,_,_,_,.nil=>.nil
 |_,_,_,e,.cons h r=>.cons (h.sm s λp hp=>e p (S7 _ hp)) (r.sm s λp hp=>e p (SJ _ hp))
theorem aA.len:∀{Y:St}{Z:List Sl}{L:List Addr},aA k G H Y Z L->Y.length=Z.length
 |_,_,_,.nil=>rfl
 |_,_,_,.cons _ r=>by rw[S5,S5,r.len]
theorem aA.at:∀{Y:St}{Z:List Sl}{L:List Addr}{i:Nat}{s:Sl},aA k G H Y Z L->Z[i]?=some s->
  ∃x a L2 b,Y[i]?=some x/\fU k G H x s L2/\L=a++L2++b/\∀{G' H':Hp}{y:Option V}{t:Sl}{L':List Addr},Sq G G'->(∀p∈a++b,∀u,H p=some u->H' p=some u)->fU k G' H' y t L'->aA k G' H' (Y.set i y) (Z.set i t) (a++L'++b)
 |_,_,_,_,_,.nil,e=>by simp at e
 |_,_,_,0,_,.cons (x:=x) (L:=L) (L':=L') h r,e=>by cases e;refine⟨x,[],L,L',rfl,h,by simp,λsm e q=>?_⟩;simp only[List.set_cons_zero,YW];exact .cons q (r.sm sm (by simpa using e))
 |_,_,_,i+1,_,.cons (L:=L) h r,e=>by obtain⟨x,a,L2,b,D,l,N,v⟩:=aA.at (i:=i) r e;refine⟨x,L++a,L2,b,D,l,by rw[N];simp,λsm e q=>?_⟩;simp only[List.set_cons_succ];have:=aA.cons (h.sm sm λp hp=>e p (by simp[hp])) (v sm (λp hp=>e p (by rcases SY.mp hp with z|z<;>simp[z])) q);simpa[SW] using this
theorem aA.app:∀{Y τ:St}{Z θ:List Sl}{L L':List Addr},aA k G H Y Z L->aA k G H τ θ L'->aA k G H (Y++τ) (Z++θ) (L++L')
 |_,_,_,_,_,_,.nil,s=>s
 |_,_,_,_,_,_,.cons h r,s=>by have:=aA.cons h (r.app s);simpa[SW] using this
theorem aA.split:∀{Y τ:St}{Z θ:List Sl}{L:List Addr},Y.length=Z.length->aA k G H (Y++τ) (Z++θ) L->∃a L2,L=a++L2/\aA k G H Y Z a/\aA k G H τ θ L2
 |[],_,[],_,L,_,h=>⟨[],L,rfl,.nil,h⟩
 |x::Y,τ,s::Z,θ,_,e,.cons (L:=L) h r=>by obtain⟨a,L2,D,g,p⟩:=aA.split (by simpa using e) r;exact⟨L++a,L2,by rw[D];simp,.cons h g,p⟩
 |_::_,_,[],_,_,e,_=>by simp at e
 |[],_,_::_,_,_,e,_=>by simp at e
theorem aA.lp:∀{vs:List V}{as:List A},br k G vs as->aA k G H (vs.map some) (as.map Sl.fr) []
 |_,_,.nil=>.nil
 |_,_,.cons h r=>aA.cons (.fr h) (aA.lp r)
theorem aA.vQ:∀{vs:List V}{as:List A}{L:List Addr},aA k G H (vs.map some) (as.map Sl.fr) L->L=[]/\br k G vs as
 |[],[],_,.nil=>⟨rfl,.nil⟩
 |v::vs,a::as,_,.cons h r=>by
  cases h with
  |fr h=>obtain⟨e,q⟩:=aA.vQ r;exact⟨by rw[e];rfl,.cons h q⟩
end
structure Cn extends Kx where
 σ0:St
 H0:Hp
 Lp:List Addr
 Hd:List Addr
 Wk:List (Addr×HO)
def Cn.g(c:Cn)(H:Hp)(L:List Addr):Hp:=cut H (L++c.Hd)
structure Fr(c:Cn)(H:Hp):Prop where
 st:∀b o,c.H0 b=some o->∃u,H b=some u/\(b∉c.Lp->(∀w,(b,w)∉c.Wk)->u=o)
 pk:∀p∈c.Wk,H p.1=some p.2/\(∃ob d,p.2=.frz ob d)/\p.1∉c.Hd
variable{c:Cn}
theorem Fr.new{o:HO}(f:Fr c H)(h:H p=none):Fr c (upd H p o):=⟨λb u e=>by
 obtain⟨w,h1,h2⟩:=f.st b u e;exact⟨w,by rw[az (aG h1 h)];exact h1,h2⟩,λq n=>by
 obtain⟨h1,h2⟩:=f.pk q n;exact⟨by rw[az (aG h1 h)];exact h1,h2⟩⟩
theorem Fr.fresh(f:Fr c H)(h:H p=none):c.H0 p=none:=by
 cases e:c.H0 p with
 |none=>rfl
 |some o=>obtain⟨u,h1,_⟩:=f.st p o e;rw[h] at h1;cases h1
noncomputable def cst:Sl->Bool
 | .pv _=>true
 | .cf _=>true
 |_=>false
def fj(σ0 Y:St)(Z:List Sl):Prop:=∀(i:Nat)(s:Sl),Z[i]?=some s->cst s=true->Y[i]?=σ0[i]?
structure dz(c:Cn)(Y:St)(H:Hp)(Z:List Sl)(τ:St)(θ:List Sl)(L:List Addr):Prop where
 nd:L.Nodup
 rel:aA c.toKx (c.g H L) H (τ++Y) (θ++Z) L
 own:∀p∈L,p∈c.Lp\/c.H0 p=none
 fr:Fr c H
 kp:fj c.σ0 Y Z
 lt:τ.length=θ.length
 hd:∀p∈c.Hd,(∃u,c.H0 p=some u)/\p∉c.Lp
theorem g_same(c:Cn)(H:Hp)(L:List Addr):Sq (c.g H L) H:=A5 _ _
theorem dg(h:∀a,a∈L'->a∈L):Sq (c.g H L) (c.g H L'):=Dg λa d=>by
 rcases SY.mp d with z|z
 .exact S7 _ (h a z)
 .exact SJ _ z
theorem ip{a:Addr}(h:a∈L\/a∈c.Hd):c.g H L a=none:=A8 (by simpa using h)
theorem bJ{a:Addr}(h:a∉L)(h':a∉c.Hd):c.g H L a=H a:=qK (by simp[h,h'])
variable{Z θ:List Sl}
theorem dz.Nx{Y:St}{τ:St}(b:dz c Y H Z τ θ L)(h:p∈L):p∉c.Hd:=λz=>by
 obtain⟨⟨u,e⟩,n⟩:=b.hd p z;rcases b.own p h with y|y
 .exact n y
 .rw[y] at e;cases e
theorem dz.P6{Y:St}{τ:St}(b:dz c Y H Z τ θ L)(h:H p=none):p∉c.Hd:=λz=>by obtain⟨⟨u,e⟩,n⟩:=b.hd p z;rw[b.fr.fresh h] at e;cases e
def Bd(c:Cn)(Y:St)(H:Hp)(Z:List Sl)(τ:St)(θ:List Sl):Prop:=∃L,dz c Y H Z τ θ L
variable{s:Sl}{u:HO}{o o':LO}{i:Nat}{α:Type}
section
variable{c:Cn}{Y:St}{H:Hp}{Z:List Sl}{τ:St}{θ:List Sl}
theorem Bd.iG(b:Bd c Y H Z τ θ):Y.length=Z.length:=by obtain⟨L,b⟩:=b;have:=b.rel.len;rw[S3,S3,b.lt] at this;lia
theorem Bd.push{a:A}(b:Bd c Y H Z τ θ)(h:∀G,RA c.toKx G v a):Bd c Y H Z (some v::τ) (.fr a::θ):=by obtain⟨L,b⟩:=b;exact⟨L,b.nd,aA.cons (L:=[]) (.fr (h _)) b.rel,b.own,b.fr,b.kp,by simp[b.lt],b.hd⟩
theorem Bd.pop{x:Option V}(b:Bd c Y H Z (x::τ) (s::θ)):Bd c Y H Z τ θ:=by
 obtain⟨L,b⟩:=b;obtain⟨nd,rel,own,fr,kp,lt,z⟩:=b;cases rel with
 |cons h r=>rename_i u L2;exact⟨L2,(Td.mp nd).2.1,r.sm (dg λa d=>SJ _ d) (λ_ _ _ e=>e),λp hp=>own p (SJ _ hp),fr,kp,by simpa using lt,z⟩
theorem Bd.vh:∀{xs:St}{ss:List Sl},xs.length=ss.length->Bd c Y H Z (xs++τ) (ss++θ)->Bd c Y H Z τ θ
 |[],[],_,b=>b
 |x::xs,s::ss,e,b=>Bd.vh (by simpa using e) (Bd.pop b)
 |[],_::_,e,_=>by simp at e
 |_::_,[],e,_=>by simp at e
theorem Bd.lp{as:List A}(b:Bd c Y H Z (vs.map some++τ) (as.map Sl.fr++θ))(e:vs.length=as.length):∃L,dz c Y H Z τ θ L/\br c.toKx (c.g H L) vs as:=by obtain⟨L,b⟩:=b;have r:=b.rel;rw[SW,SW] at r;obtain⟨a,L2,D,x,k⟩:=aA.split (by simp[e]) r;obtain⟨z,Q⟩:=aA.vQ x;subst z;have D:L=L2:=D;subst D;exact⟨L,⟨b.nd,k,b.own,b.fr,b.kp,by have:=b.lt;simp at this;lia,b.hd⟩,Q⟩
theorem dz.push{a:A}(b:dz c Y H Z τ θ L)(h:RA c.toKx (c.g H L) v a):Bd c Y H Z (some v::τ) (.fr a::θ):=
 ⟨L,b.nd,aA.cons (.fr h) b.rel,b.own,b.fr,b.kp,by simp[b.lt],b.hd⟩
theorem dz.new{L:List Addr}{p:Addr}{o:HO}(b:dz c Y H Z τ θ L)(h:H p=none):dz c Y (upd H p o) Z τ θ L/\Sq (c.g H L) (c.g (upd H p o) L)/\p∉L:=by
 have hp:p∉L:=λz=>by obtain⟨u,e⟩:=b.rel.is p z;rw[h] at e;cases e
 have sm:Sq (c.g H L) (c.g (upd H p o) L):=Sq.of λa u e=>by
  by_cases z:a∈L\/a∈c.Hd
  .rw[ip z] at e;cases e
  .rw[bJ (λy=>z (.inl y)) (λy=>z (.inr y))] at e;rw[bJ (λy=>z (.inl y)) (λy=>z (.inr y)),az (aG e h)];exact e
 exact⟨⟨b.nd,b.rel.sm sm (λq n u e=>by rw[az (aG e h)];exact e),b.own,b.fr.new h,b.kp,b.lt,b.hd⟩,sm,hp⟩
theorem Bd.Mo{as:List A}(b:Bd c Y H Z (vs.map some++τ) (as.map Sl.fr++θ))(e:vs.length=as.length)(h:H p=none)(ws:List V)(bs:List A)(t:∀G,br c.toKx G vs as->br c.toKx G ws bs):
  Bd c Y (upd H p (.tup ws)) Z (some (.ref p)::τ) (.fr (.tup bs)::θ):=by
 obtain⟨L,bl,Q⟩:=b.lp e;obtain⟨b2,sm,hp⟩:=bl.new (o:=.tup ws) h;exact b2.push (.tup (.inl (.inl (by rw[bJ hp (bl.P6 h)];exact bg))) (t _ (Q.sm sm)))
theorem dz.gO(b:dz c Y H Z τ θ L)(h:H p=none)(m:∀G H',Sq (c.g H L) G->H' p=some u->LR c.toKx G H' p o []):Bd c Y (upd H p u) Z (some (.ref p)::τ) (.lv o::θ):=by
 have hp:p∉L:=λz=>by obtain⟨u,e⟩:=b.rel.is p z;rw[h] at e;cases e
 have sm:Sq (c.g H L) (c.g (upd H p u) (p::L)):=Sq.of λa w e=>by
  by_cases z:a∈L\/a∈c.Hd
  .rw[ip z] at e;cases e
  .rw[bJ (λy=>z (.inl y)) (λy=>z (.inr y))] at e;have r:=aG e h;rw[bJ (λy=>by rcases SR.mp y with y|y;exact r y;exact z (.inl y)) (λy=>z (.inr y)),az r];exact e
 refine⟨p::L,Tz.mpr ⟨hp,b.nd⟩,aA.cons (L:=[p]) (.lv (m _ _ sm bg)) (b.rel.sm sm (λq n w e=>by rw[az (aG e h)];exact e)),λq n=>?_,b.fr.new h,b.kp,by simp[b.lt],b.hd⟩;rcases SR.mp n with z|z
 .subst z;exact .inr (b.fr.fresh h)
 .exact b.own q z
theorem Bd.AN{as:List A}(b:Bd c Y H Z (vs.map some++τ) (as.map Sl.fr++θ))(e:vs.length=as.length)(h:H p=none)(ws:List V)(bs:List A)(t:∀G,br c.toKx G vs as->br c.toKx G ws bs):
  Bd c Y (upd H p (.lst ws)) Z (some (.ref p)::τ) (.lv (.lst bs)::θ):=by
 obtain⟨L,bl,Q⟩:=b.lp e;exact bl.gO h λG H' sm q=>.lst q (t _ (Q.sm sm))
theorem LR.a{k:Kx}{G H:Hp}{p:Addr}{o:LO}{q:List Addr}{a:A}(h:LR k G H p o q)(sm:Sq G H)(Z:o.rd=some a):RA k H (.ref p) a:=by
 cases h with
 |lst e r=>cases Z;exact .lst (.inl (.inl e)) (r.sm sm)
 |dic e r=>cases Z;exact .dic (.inl e) (r.sm sm)
 |obj e m r=>cases Z;exact .obj e m (r.sm sm)
 |dit e r=>cases Z;exact .dit (.inl e) (r.sm sm)
 |nob=>cases Z
theorem LR.a'{k:Kx}(h:LR k G H p o q)(sm:Sq G G')(e:∀a∈p::q,∀u,H a=some u->G' a=some u):RA k G' (.ref p) o.a:=by
 have I:=e p SH;cases h with
 |lst q r=>exact .lst (.inl (.inl (I _ q))) (r.sm sm)
 |dic q r=>exact .dic (.inl (I _ q)) (r.sm sm)
 |obj q m r=>exact .obj (I _ q) m (r.sm sm)
 |dit q r=>exact .dit (.inl (I _ q)) (r.sm sm)
 |nob q m r l=>exact .obj (I _ q) m ((r.sm sm).app (l.a sm λa d=>e a (SK _ d)))
def Sl.a:Sl->Option A
 | .fr a=>some a
 | .lv o=>o.rd
 | .pv o=>o.rd
 | .cf a=>some a
 | .un=>none
theorem fU.read{k:Kx}{x:Option V}{a:A}(h:fU k G H x s L)(sm:Sq G H)(e:s.a=some a):∃v,x=some v/\RA k H v a:=by
 cases h with
 |un=>cases e
 |fr h=>cases e;exact⟨_,rfl,h.sm sm⟩
 |lv h=>exact⟨_,rfl,h.a sm e⟩
 |pv h=>exact⟨_,rfl,h.a sm e⟩
 |cf h=>cases e;exact⟨_,rfl,h.sm sm⟩
theorem fj.set{σ0 Y:St}{Z:List Sl}{i:Nat}{t:Sl}{y:Option V}(k:fj σ0 Y Z)(hi:i<Z.length)(e:cst t=false):fj σ0 (Y.set i y) (Z.set i t):=λj o q w=>by
 by_cases z:j=i
 .subst z;rw[Tt hi] at q;cases q;rw[e] at w;cases w
 .rw[TL (Uu z)] at q ⊢;exact k j o q w
theorem fj.DA{σ0 Y:St}{t:Sl}(k:fj σ0 Y Z)(h:cst t=true->∃s,Z[i]?=some s/\cst s=true):fj σ0 Y (Z.set i t):=λj o q w=>by
 by_cases z:j=i
 .subst z;by_cases hi:j<Z.length
  .rw[Tt hi] at q;cases q;obtain⟨o',e,y⟩:=h w;exact k j o' e y
  .rw[Tx (by simp;exact U8.mp ‹_›)] at q;cases q
 .rw[TL (Uu z)] at q;exact k j o q w
theorem Bd.slot{a:A}(b:Bd c Y H Z τ θ)(e:Z[i]?=some s)(z:s.a=some a):∃v,Y[i]?=some (some v)/\RA c.toKx H v a:=by obtain⟨L,b⟩:=b;obtain⟨u,L2,D,g,k⟩:=aA.split b.lt b.rel;obtain⟨x,_,_,_,hx,hs,_⟩:=k.at e;obtain⟨v,rfl,h⟩:=hs.read (g_same _ _ _) z;exact⟨v,hx,h⟩
theorem Bd.Hn(b:Bd c Y H Z τ θ)(e:Z[i]?=some (.lv o)\/Z[i]?=some (.pv o)):∃p,Y[i]?=some (some (.ref p)):=by
 obtain⟨L,b⟩:=b;obtain⟨a,L2,D,g,k⟩:=aA.split b.lt b.rel;rcases e with e|e
 .obtain⟨x,_,_,_,hx,hs,_⟩:=k.at e;cases hs;exact⟨_,hx⟩
 .obtain⟨x,_,_,_,hx,hs,_⟩:=k.at e;cases hs;exact⟨_,hx⟩
theorem Bd.load{a:A}(b:Bd c Y H Z τ θ)(e:Z[i]?=some (.fr a)):∃v,Y[i]?=some (some v)/\Bd c Y H Z (some v::τ) (.fr a::θ):=by
 obtain⟨L,b⟩:=b;obtain⟨u,L2,D,g,k⟩:=aA.split b.lt b.rel;obtain⟨x,_,_,_,hx,hs,_⟩:=k.at e;cases hs with
 |fr h=>exact⟨_,hx,b.push h⟩
theorem Bd.xK{a:A}(b:Bd c Y H Z τ θ)(e:Z[i]?=some (.cf a)):∃v,Y[i]?=some (some v)/\Bd c Y H Z (some v::τ) (.fr a::θ):=by
 obtain⟨L,b⟩:=b;obtain⟨u,L2,D,g,k⟩:=aA.split b.lt b.rel;obtain⟨x,_,_,_,hx,hs,_⟩:=k.at e;cases hs with
 |cf h=>exact⟨_,hx,b.push h⟩
theorem t6.nf{k:Kx}{ls:List (Str×List A)}(h:t6 k G H ws ls q):∀a∈q,∀ob w,H a≠some (.frz ob w):=by
 induction h with
 |nil=>intro a d;cases d
 |cons e r t m=>intro b hb ob w z;rcases SR.mp hb with rfl|hb;rw[e] at z;cases z;exact m b hb ob w z
theorem LR.nf{k:Kx}{G H:Hp}{p:Addr}{o:LO}{q:List Addr}(h:LR k G H p o q):∀a∈p::q,∀ob w,H a≠some (.frz ob w):=by
 intro a d ob w z;rcases SR.mp d with rfl|d
 .cases h with|lst e _=>rw[e] at z;cases z|dic e _=>rw[e] at z;cases z|obj e _ _=>rw[e] at z;cases z|dit e _=>rw[e] at z;cases z|nob e _ _ _=>rw[e] at z;cases z
 .cases h with|lst e _=>cases d|dic e _=>cases d|obj e _ _=>cases d|dit e _=>cases d|nob _ _ _ l=>exact l.nf a d ob w z
theorem pO{A B C:List α}(n:(A++B++C).Nodup):(A++C).Nodup/\∀a∈B,a∉A++C:=by
 obtain⟨r,Q,K⟩:=Td.mp n;obtain⟨H,L,e⟩:=Td.mp r;refine⟨Td.mpr ⟨H,Q,λa d b hb=>K a (S7 _ d) b hb⟩,λa d z=>?_⟩;rcases SY.mp z with z|z
 .exact e a z a d rfl
 .exact K a (SJ _ d) a z rfl
theorem set_same{Y:St}{v:Option V}(hx:Y[i]?=some v):Y.set i v=Y:=by
 apply Uc;intro j;by_cases z:j=i
 .subst z;rw[Tt (SF.mp hx).1,hx]
 .rw[TL (Uu z)]
theorem Bd.qk(b:Bd c Y H Z τ θ)(e:Z[i]?=some (.lv o)):Bd c Y H (Z.set i (.fr o.a)) τ θ:=by
 obtain⟨L,b⟩:=b;obtain⟨A,L2,D,r,k⟩:=aA.split b.lt b.rel;obtain⟨x,M1,E,v,hx,hs,l,ins⟩:=k.at e;cases hs with
 |lv h=>
  rename_i p q;have nd:=b.nd;have O:L=(A++M1)++(p::q)++v:=by rw[D,l];simp
  rw[O] at nd;obtain⟨nd2,hp⟩:=pO nd;have sub:∀a,a∈A++M1++v->a∈L:=λa d=>by rw[O];simp only[SY,SR] at d ⊢;rcases d with (z|z)|z<;>simp[z]
  have sm:Sq (c.g H L) (c.g H (A++M1++v)):=dg sub;have w:=ins (y:=some (.ref p)) (t:=.fr o.a) (L':=[]) sm (λ_ _ _ e=>e) (.fr (h.a' sm λa d u e=>by rw[bJ (hp a d) (b.Nx (by rw[O];exact S7 _ (SJ _ d)))];exact e));rw[set_same hx] at w;refine⟨A++M1++v,nd2,?_,λq n=>b.own q (sub q n),b.fr,b.kp.DA (λz=>by cases z),b.lt,b.hd⟩;have:=(r.sm sm (λ_ _ _ e=>e)).app w;simpa[SW] using this
theorem dz.Rf{t:Sl}(b:dz c Y H Z τ θ L)(e:Z[i]?=some s)(es:s=.lv o/\t=.lv o'\/s=.pv o/\t=.pv o')
  : ∃p q,Y[i]?=some (some (.ref p))/\LR c.toKx (c.g H L) H p o q/\(p::q).Nodup/\∀a∈p::q,(∀H',H' a=some u->(∀b∈p::q,b≠a->H' b=H b)->LR c.toKx (c.g H L) H' p o' q)->Bd c Y (upd H a u) (Z.set i t) τ θ:=by
 obtain⟨I,L2,D,Q,k⟩:=aA.split b.lt b.rel;obtain⟨x,M1,R,J,hx,hs,l,ins⟩:=k.at e;have key:∀p q,x=some (.ref p)->R=p::q->LR c.toKx (c.g H L) H p o q->(∀G H',LR c.toKx G H' p o' q->fU c.toKx G H' (some (.ref p)) t (p::q))->(cst t=true->∃s,Z[i]?=some s/\cst s=true)->
   ∃p q,Y[i]?=some (some (.ref p))/\LR c.toKx (c.g H L) H p o q/\(p::q).Nodup/\∀a∈p::q,(∀H',H' a=some u->(∀b∈p::q,b≠a->H' b=H b)->LR c.toKx (c.g H L) H' p o' q)->Bd c Y (upd H a u) (Z.set i t) τ θ:=by
  intro p q ex em m mk pk;subst ex em;have nd:=b.nd;have O:L=(I++M1)++(p::q)++J:=by rw[D,l];simp
  rw[O] at nd;have P:(p::q).Nodup:=(Td.mp (Td.mp nd).1).2.1;refine⟨p,q,hx,m,P,λa d hn=>?_⟩;obtain⟨_,T⟩:=pO nd;have A:a∈L:=by rw[O];exact S7 _ (SJ _ d)
  have U:c.g (upd H a u) L=c.g H L:=by
   funext r
   by_cases z:r∈L\/r∈c.Hd
   .rw[ip z,ip z]
   .rw[bJ (λy=>z (.inl y)) (λy=>z (.inr y)),bJ (λy=>z (.inl y)) (λy=>z (.inr y)),az λy=>z (.inl (by rw[y];exact A))]
  have v:∀q,q∈I++M1++J->∀w,H q=some w->upd H a u q=some w:=λq n w e=>by rw[az λy=>T a d (by rw[<-y];exact n)];exact e
  have E:=ins (G':=c.g (upd H a u) L) (H':=upd H a u) (y:=some (.ref p)) (t:=t) (L':=p::q) (by rw[U];exact Sq.refl _) (λq n=>v q (by rcases SY.mp n with z|z<;>simp[z])) (mk _ _ (by rw[U];exact hn _ bg λr _ nb=>az nb));rw[set_same hx] at E;refine⟨L,b.nd,?_,b.own,⟨λq w e=>?_,λq n=>?_⟩,b.kp.DA pk,b.lt,b.hd⟩
  .have:=(Q.sm (G':=c.g (upd H a u) L) (H':=upd H a u) (by rw[U];exact Sq.refl _) (λq n=>v q (by simp[n]))).app E;have z:I++(M1++(p::q)++J)=L:=by rw[O];simp
   rw[z] at this;exact this
  .obtain⟨B,h1,h2⟩:=b.fr.st q w e;by_cases z:q=a
   .subst z;refine⟨u,bg,λF=>?_⟩;rcases b.own q A with y|y
    .exact absurd y F
    .rw[y] at e;cases e
   .exact⟨B,by rw[az z];exact h1,h2⟩
  .obtain⟨h1,⟨ob,vs,h2⟩,h3⟩:=b.fr.pk q n;refine⟨?_,⟨ob,vs,h2⟩,h3⟩;rw[az λy=>?_]
   .exact h1
   .rw[y,h2] at h1;exact m.nf a d _ _ h1
 rcases es with ⟨rfl,rfl⟩|⟨rfl,rfl⟩
 .cases hs with
  |lv h=>exact key _ _ rfl rfl h (λ_ _ h=>.lv h) (λz=>by cases z)
 .cases hs with
  |pv h=>exact key _ _ rfl rfl h (λ_ _ h=>.pv h) (λ_=>⟨_,e,rfl⟩)
theorem dz.change{t:Sl}(b:dz c Y H Z τ θ L)(e:Z[i]?=some s)(es:s=.lv o/\t=.lv o'\/s=.pv o/\t=.pv o')
  : ∃p q,Y[i]?=some (some (.ref p))/\LR c.toKx (c.g H L) H p o q/\((∀H',H' p=some u->(∀b∈q,H' b=H b)->LR c.toKx (c.g H L) H' p o' q)->Bd c Y (upd H p u) (Z.set i t) τ θ):=by
 obtain⟨p,q,h1,h2,nd,h3⟩:=b.Rf (u:=u) e es;exact⟨p,q,h1,h2,λk=>h3 p SH λH' E sm=>k H' E λb hb=>sm b (SK _ hb) λz=>(Tz.mp nd).1 (z▸hb)⟩
theorem Bd.store{t:Sl}(b:Bd c Y H Z (some v::τ) (t::θ))(e:Z[i]?=some s)(hs:∀o,s≠.pv o)(ht:cst t=false):Bd c (Y.set i (some v)) H (Z.set i t) τ θ:=by
 obtain⟨L,nd,rel,own,fr,kp,lt,y⟩:=b;have rel:aA c.toKx (c.g H L) H (some v::(τ++Y)) (t::(θ++Z)) L:=rel;cases rel with
 |cons h r=>
  rename_i p L';obtain⟨u,L2,D,Q,k⟩:=aA.split (by simpa using lt) r;obtain⟨x,M1,E,J,hx,A,l,ins⟩:=k.at e;subst D l;have sub:∀a,a∈u++(M1++p++J)->a∈p++(u++(M1++E++J)):=λa d=>by simp at d ⊢;rcases d with z|z|z|z<;>simp[z]
  have sm:Sq (c.g H (p++(u++(M1++E++J)))) (c.g H (u++(M1++p++J))):=dg sub;have hi:i<Z.length:=(SF.mp e).1;refine⟨u++(M1++p++J),?_,?_,λq n=>own q (sub q n),fr,kp.set hi ht,by simpa using lt,y⟩
  .have G:(p++(u++(M1++E++J))).Perm (E++(u++(M1++p++J))):=by rw[Vg];intro a;simp only[Vr];lia
   exact(Td.mp ((G.nodup_iff).mp nd)).2.1
  .exact(Q.sm sm (λ_ _ _ e=>e)).app (ins sm (λ_ _ _ e=>e) (h.sm sm (λ_ _ _ e=>e)))
end
inductive Rr where
 |rf(i:Nat)|fr(a:A)|nw(o:LO)
noncomputable abbrev Mi(α:Type):=List Sl->Option (Except Str α×List Sl)
noncomputable def aT{α β:Type}(m:Mi α)(f:α->Mi β):Mi β:=λZ=>match m Z with
 |some (.ok x,U)=>f x U
 |some (.error e,U)=>some (.error e,U)
 |none=>none
noncomputable def lY{α:Type}(x:α):Mi α:=λZ=>some (.ok x,Z)
noncomputable def bM:Rr->V->St->St
 | .rf _,_,τ=>τ
 | .fr _,v,τ=>some v::τ
 | .nw _,v,τ=>some v::τ
noncomputable def bL:Rr->List Sl->List Sl
 | .rf _,θ=>θ
 | .fr a,θ=>.fr a::θ
 | .nw o,θ=>.lv o::θ
def VR(Y:St):Rr->V->Prop
 | .rf i,v=>Y[i]?=some (some v)
 |_,_=>True
def res(Z:List Sl):Rr->Option A
 | .rf i=>match Z[i]? with
  |some s=>s.a
  |none=>none
 | .fr a=>some a
 | .nw o=>o.rd
def QW(K:Kx)(E:XK)(c:Cn)(Y:St)(Z:List Sl)(τ:St)(θ:List Sl)(Q:VK):Except Str Rr->Prop
 | .ok r=>∀v H,VR Y r v->Bd c Y H Z (bM r v τ) (bL r θ)->Q v H
 | .error x=>∀C H,K.mg x=some (.ref C)->Bd c Y H Z τ θ->E (.ref C) none H
inductive lA(K:Kx)(E:XK)(m:Mi Rr)(Y:St)(H:Hp)(Q:VK):Prop
 |mk(c:Cn)(Z:List Sl)(τ:St)(θ:List Sl)(o:Except Str Rr)(O:List Sl)(h1:c.toKx=K)(h2:Bd c Y H Z τ θ)(h3:m Z=some (o,O))(h4:QW K E c Y O τ θ Q o)
def NF(K:Kx)(E:XK)(c:Cn)(Y:St)(Z:List Sl)(τ:St)(θ:List Sl)(Q:Bool->Hp->Prop):Except Str Bool->Prop
 | .ok b=>∀H,Bd c Y H Z τ θ->Q b H
 | .error x=>∀C H,K.mg x=some (.ref C)->Bd c Y H Z τ θ->E (.ref C) none H
inductive zI(K:Kx)(E:XK)(m:Mi Bool)(Y:St)(H:Hp)(Q:Bool->Hp->Prop):Prop
 |mk(c:Cn)(Z:List Sl)(τ:St)(θ:List Sl)(o:Except Str Bool)(O:List Sl)(h1:c.toKx=K)(h2:Bd c Y H Z τ θ)(h3:m Z=some (o,O))(h4:NF K E c Y O τ θ Q o)
def cg:List Rr->List V->St->St
 |r::rs,v::vs,τ=>cg rs vs (bM r v τ)
 |_,_,τ=>τ
def cq:List Rr->List Sl->List Sl
 |r::rs,θ=>cq rs (bL r θ)
 |[],θ=>θ
def kN(Y:St):List Rr->List V->Prop
 |[],[]=>True
 |r::rs,v::vs=>VR Y r v/\kN Y rs vs
 |_,_=>False
def OF(K:Kx)(E:XK)(c:Cn)(Y:St)(Z:List Sl)(τ:St)(θ:List Sl)(Q:List V->Hp->Prop):Except Str (List Rr)->Prop
 | .ok rs=>∀vs H,kN Y rs vs->Bd c Y H Z (cg rs vs τ) (cq rs θ)->Q vs H
 | .error x=>∀C H,K.mg x=some (.ref C)->Bd c Y H Z τ θ->E (.ref C) none H
inductive RB(K:Kx)(E:XK)(m:Mi (List Rr))(Y:St)(H:Hp)(Q:List V->Hp->Prop):Prop
 |mk(c:Cn)(Z:List Sl)(τ:St)(θ:List Sl)(o:Except Str (List Rr))(O:List Sl)(h1:c.toKx=K)(h2:Bd c Y H Z τ θ)(h3:m Z=some (o,O))(h4:OF K E c Y O τ θ Q o)
noncomputable abbrev kx(X:Cx):Kx:=⟨X.K,X.mg,X.prog,X.w⟩
structure JE(X:Cx)(E:XK)(e:Expr)(m:Mi Rr):Prop where
 p:PE X e (lA (kx X) E m)
structure JT(X:Cx)(E:XK)(e:Expr)(m:Mi Bool):Prop where
 p:PT X e (zI (kx X) E m)
structure JW(X:Cx)(E:XK)(e:Expr)(m:Mi Bool):Prop where
 p:PW X e (zI (kx X) E m)
structure JA(X:Cx)(E:XK)(es:List Expr)(m:Mi (List Rr)):Prop where
 p:PA X es (RB (kx X) E m)
variable{X:Cx}{e:Expr}
theorem PE.weaken{t t':TE}(h:PE X e t)(f:∀Y H Q,t' Y H Q->t Y H Q):PE X e t':=λpins s Y H Q I q=>h pins s Y H Q I (f Y H Q q)
theorem PT.weaken{t t':TT}(h:PT X e t)(f:∀Y H Q,t' Y H Q->t Y H Q):PT X e t':=λpins s Y H Q I q=>h pins s Y H Q I (f Y H Q q)
theorem PW.weaken{t t':TT}(h:PW X e t)(f:∀Y H Q,t' Y H Q->t Y H Q):PW X e t':=λZ pins s Y H Q I q=>h Z pins s Y H Q I (f Y H Q q)
theorem PA.weaken{e:List Expr}{t t':TA}(h:PA X e t)(f:∀Y H Q,t' Y H Q->t Y H Q):PA X e t':=λpos pins s Y H Q I q=>h pos pins s Y H Q I (f Y H Q q)
section
variable{c:Cn}{Y:St}{H:Hp}{Z:List Sl}{τ:St}{θ:List Sl}
theorem Bd.drop{r:Rr}(b:Bd c Y H Z (bM r v τ) (bL r θ)):Bd c Y H Z τ θ:=by
 cases r with
 |rf i=>exact b
 |fr a=>exact Bd.pop b
 |nw o=>exact Bd.pop b
theorem Bd.top{a:A}(b:Bd c Y H Z (some v::τ) (s::θ))(e:s.a=some a):RA c.toKx H v a:=by
 obtain⟨L,nd,rel,_⟩:=b;cases rel with
 |cons h r=>obtain⟨u,z,q⟩:=h.read (g_same _ _ _) e;cases z;exact q
theorem Bd.rd{r:Rr}{a:A}(b:Bd c Y H Z (bM r v τ) (bL r θ))(t:VR Y r v)(e:res Z r=some a):RA c.toKx H v a:=by
 cases r with
 |rf i=>
  delta res at e
  cases es:Z[i]? with
  |none=>simp only[es] at e;cases e
  |some s=>simp only[es] at e;obtain⟨u,h1,h2⟩:=Bd.slot b es e;rw[t] at h1;cases h1;exact h2
 |fr a'=>cases e;exact Bd.top b rfl
 |nw o=>exact Bd.top b e
theorem fU.items{k:Kx}{x:Option V}(h:fU k G H x s L)(sm:Sq G H):
  (∀as,s.a=some (.lst as)->∃p vs,x=some (.ref p)/\eI k.K H p vs/\br k G vs as)/\(∀as,s.a=some (.tup as)->∃p vs,x=some (.ref p)/\eU k.K G p vs/\br k G vs as) /\
  (∀as,s.a=some (.dic as)->∃p vs,x=some (.ref p)/\Rd H p (.dK vs)/\fz k G vs as):=by
 have lo:∀p o q,LR k G H p o q->(∀as,o.rd=some (A.lst as)->∃vs,eI k.K H p vs/\br k G vs as)/\(∀as,o.rd≠some (A.tup as))/\(∀as,o.rd=some (A.dic as)->∃vs,Rd H p (.dK vs)/\fz k G vs as):=by
  intro p o q h;cases h with
  |lst e r=>exact⟨λas z=>by cases z;exact⟨_,.inl (.inl e),r⟩,λas z=>(by cases z),λas z=>(by cases z)⟩
  |dic e r=>exact⟨λas z=>(by cases z),λas z=>(by cases z),λas z=>by cases z;exact⟨_,.inl e,r⟩⟩
  |obj e m r=>exact⟨λas z=>(by cases z),λas z=>(by cases z),λas z=>(by cases z)⟩
  |dit e r=>exact⟨λas z=>(by cases z),λas z=>(by cases z),λas z=>(by cases z)⟩
  |nob e m r l=>exact⟨λas z=>(by cases z),λas z=>(by cases z),λas z=>(by cases z)⟩
 cases h with
 |un=>exact⟨λ_ z=>(by cases z),λ_ z=>(by cases z),λ_ z=>(by cases z)⟩
 |fr h=>
  refine⟨λas z=>?_,λas z=>?_,λas z=>?_⟩
  .cases z;cases h with|lst e r=>exact⟨_,_,rfl,f9 sm e,r⟩
  .cases z;cases h with|tup e r=>exact⟨_,_,rfl,e,r⟩
  .cases z;cases h with|dic e r=>exact⟨_,_,rfl,sm.QV e,r⟩
 |cf h=>
  refine⟨λas z=>?_,λas z=>?_,λas z=>?_⟩
  .cases z;cases h with|lst e r=>exact⟨_,_,rfl,f9 sm e,r⟩
  .cases z;cases h with|tup e r=>exact⟨_,_,rfl,e,r⟩
  .cases z;cases h with|dic e r=>exact⟨_,_,rfl,sm.QV e,r⟩
 |lv h=>
  rename_i p o q;obtain⟨b,t,i⟩:=lo p o q h;refine⟨λas z=>?_,λas z=>absurd z (t as),λas z=>?_⟩
  .obtain⟨vs,h1,h2⟩:=b as z;exact⟨p,vs,rfl,h1,h2⟩
  .obtain⟨vs,h1,h2⟩:=i as z;exact⟨p,vs,rfl,h1,h2⟩
 |pv h=>
  rename_i p o q;obtain⟨b,t,i⟩:=lo p o q h;refine⟨λas z=>?_,λas z=>absurd z (t as),λas z=>?_⟩
  .obtain⟨vs,h1,h2⟩:=b as z;exact⟨p,vs,rfl,h1,h2⟩
  .obtain⟨vs,h1,h2⟩:=i as z;exact⟨p,vs,rfl,h1,h2⟩
def zO(c:Cn)(H:Hp)(L:List Addr)(v:V)(a:A):Prop:=
  (∀as,a=.lst as->∃p vs,v=.ref p/\eI c.K H p vs/\br c.toKx (c.g H L) vs as)/\(∀as,a=.tup as->∃p vs,v=.ref p/\eU c.K (c.g H L) p vs/\br c.toKx (c.g H L) vs as) /\
  (∀as,a=.dic as->∃p vs,v=.ref p/\Rd H p (.dK vs)/\fz c.toKx (c.g H L) vs as)
theorem zO.mono{a:A}(h:zO c H L v a)(s:∀a,a∈L'->a∈L):zO c H L' v a:=by
 obtain⟨h1,h2,h3⟩:=h;refine⟨λas e=>?_,λas e=>?_,λas e=>?_⟩
 .obtain⟨p,vs,i,n,F⟩:=h1 as e;exact⟨p,vs,i,n,F.sm (dg s)⟩
 .obtain⟨p,vs,i,n,F⟩:=h2 as e;exact⟨p,vs,i,dk (dg s) n,F.sm (dg s)⟩
 .obtain⟨p,vs,i,n,F⟩:=h3 as e;exact⟨p,vs,i,n,F.sm (dg s)⟩
theorem zO.of{L2:List Addr}{x:Option V}{a:A}(ex:x=some v)(h:fU c.toKx (c.g H L) H x s L2)(Z:s.a=some a):zO c H L v a:=by
 subst ex;obtain⟨b,t,i⟩:=h.items (g_same _ _ _);refine⟨λas z=>?_,λas z=>?_,λas z=>?_⟩<;>subst z
 .obtain⟨p,vs,q,h1,h2⟩:=b as Z;exact⟨p,vs,Ta q,h1,h2⟩
 .obtain⟨p,vs,q,h1,h2⟩:=t as Z;exact⟨p,vs,Ta q,h1,h2⟩
 .obtain⟨p,vs,q,h1,h2⟩:=i as Z;exact⟨p,vs,Ta q,h1,h2⟩
theorem dz.open{r:Rr}{a:A}{q:List Addr}(b:dz c Y H Z (bM r v τ) (bL r θ) q)(t:VR Y r v)(e:res Z r=some a):∃L,(∀a,a∈L->a∈q)/\dz c Y H Z τ θ L/\zO c H L v a:=by
 have z:∀s,dz c Y H Z (some v::τ) (s::θ) q->s.a=some a->∃L,(∀a,a∈L->a∈q)/\dz c Y H Z τ θ L/\zO c H L v a:=by
  intro s b I;obtain⟨nd,rel,own,fr,kp,lt,y⟩:=b;have rel:aA c.toKx (c.g H q) H (some v::(τ++Y)) (s::(θ++Z)) q:=rel;cases rel with
  |cons h r=>rename_i u L2;have sm:Sq (c.g H (u++L2)) (c.g H L2):=dg λa d=>SJ _ d;exact⟨L2,λa d=>SJ _ d,⟨(Td.mp nd).2.1,r.sm sm (λ_ _ _ e=>e),λp hp=>own p (SJ _ hp),fr,kp,by simpa using lt,y⟩,zO.of rfl (h.sm sm (λ_ _ _ e=>e)) I⟩
 cases r with
 |rf i=>
  unfold res at e;cases es:Z[i]? with
  |none=>simp only[es] at e;cases e
  |some s=>simp only[es] at e;obtain⟨u,L2,D,Q,k⟩:=aA.split b.lt b.rel;obtain⟨x,_,_,_,hx,hs,_⟩:=k.at es;have t:Y[i]?=some (some v):=t;rw[t] at hx;exact⟨q,λ_ h=>h,b,zO.of (Ta hx).symm hs e⟩
 |fr a'=>exact z _ b e
 |nw o=>exact z _ b e
theorem Bd.open{r:Rr}{v:V}{a:A}(b:Bd c Y H Z (bM r v τ) (bL r θ))(t:VR Y r v)(e:res Z r=some a):∃L,dz c Y H Z τ θ L/\zO c H L v a:=by obtain⟨L,b⟩:=b;obtain⟨L',_,h⟩:=b.open t e;exact⟨L',h⟩
theorem Bd.Ap{r P:Rr}{x:V}{a a':A}(b:Bd c Y H Z (bM P x (bM r v τ)) (bL P (bL r θ)))(t:VR Y r v)(h:VR Y P x)(e:res Z r=some a)(k:res Z P=some a'):∃L,dz c Y H Z τ θ L/\zO c H L v a/\zO c H L x a':=by obtain⟨L,b⟩:=b;obtain⟨u,s1,b1,p⟩:=b.open h k;obtain⟨L2,s2,b2,q⟩:=b1.open t e;exact⟨L2,b2,q,p.mono s2⟩
end
variable{pos:Pos}{β:Type}{O:List Sl}{ma mb:Mi Rr}{Q:VK}{r:R2}{op:zbq}{es:List Expr}
section
variable{X:Cx}{E:XK}
noncomputable def ab(i:Nat):Mi Rr:=λZ=>match Z[i]? with
 |some (.fr a)=>some (.ok (.fr a),Z)
 |some (.cf a)=>some (.ok (.fr a),Z)
 |some (.lv _)=>some (.ok (.rf i),Z)
 |some (.pv _)=>some (.ok (.rf i),Z)
 |_=>none
noncomputable def aj(i:Nat):Mi Rr:=λZ=>match Z[i]? with
 |some (.fr a)=>some (.ok (.fr a),Z)
 |some (.cf a)=>some (.ok (.fr a),Z)
 |some (.lv o)=>some (.ok (.fr o.a),Z.set i (.fr o.a))
 |_=>none
noncomputable def mC(a:A):Mi Rr:=λZ=>some (.ok (.fr a),Z)
theorem J7{x:Str}(z:X.N[i]?=some x)(t:pD X.env.scope x)(hd:gA x)(e:sX x):JE X E (.Name x pos) (ab i):=
 ⟨PE.weaken (cG z t hd e) λY H Q h=>by
  obtain⟨c,Z,τ,θ,o,O,A,b,em,q⟩:=h
  delta ab at em
  cases es:Z[i]? with
  |none=>rw[es] at em;cases em
  |some s=>
   cases s with
   |un=>rw[es] at em;cases em
   |fr a=>rw[es] at em;cases em;obtain⟨v,h1,h2⟩:=b.load es;exact⟨v,h1,q v H trivial h2⟩
   |cf a=>rw[es] at em;cases em;obtain⟨v,h1,h2⟩:=b.xK es;exact⟨v,h1,q v H trivial h2⟩
   |lv o=>rw[es] at em;cases em;obtain⟨p,h1⟩:=b.Hn (.inl es);exact⟨_,h1,q _ H h1 b⟩
   | pv o=>rw[es] at em;cases em;obtain⟨p,h1⟩:=b.Hn (.inr es);exact⟨_,h1,q _ H h1 b⟩⟩
theorem E2{x:Str}(z:X.N[i]?=some x)(t:pD X.env.scope x)(hd:gA x)(e:sX x):JE X E (.Name x pos) (aj i):=
 ⟨PE.weaken (cG z t hd e) λY H Q h=>by
  obtain⟨c,Z,τ,θ,o,O,A,b,em,q⟩:=h
  delta aj at em
  cases es:Z[i]? with
  |none=>rw[es] at em;cases em
  |some s=>
   cases s with
   |un=>rw[es] at em;cases em
   |fr a=>rw[es] at em;cases em;obtain⟨v,h1,h2⟩:=b.load es;exact⟨v,h1,q v H trivial h2⟩
   |cf a=>rw[es] at em;cases em;obtain⟨v,h1,h2⟩:=b.xK es;exact⟨v,h1,q v H trivial h2⟩
   |lv o=>rw[es] at em;cases em;have b2:=b.qk es;have hi:=(SF.mp es).1;obtain⟨v,h1,h2⟩:=b2.load (Tt hi);exact⟨v,h1,q v H trivial h2⟩
   | pv o=>rw[es] at em;cases em⟩
theorem C0{a:A}(h:PE X e (tC v))(r:∀G,RA (kx X) G v a):JE X E e (mC a):=⟨PE.weaken h λY H Q h=>by obtain⟨c,Z,τ,θ,o,O,x,b,em,q⟩:=h;cases em;exact q v H trivial (b.push (by rw[x];exact r))⟩
theorem Jl{i j pos}:JE X E (.Constant (.int i) j pos) (mC (.int i)):=C0 Ig λ_=>.int _
theorem Nh{b j pos}:JE X E (.Constant (.bool b) j pos) (mC (.bl b)):=C0 OT λ_=>.bl _
theorem Ky{j pos}:JE X E (.Constant .none j pos) (mC .non):=C0 Kd λ_=>.non
theorem KO{x j pos}:JE X E (.Constant (.str x) j pos) (mC (.str x)):=C0 JB λ_=>.str _
theorem Gj{x:Str}{u:Value}{a:A}(J:Gl X x)(T:X.mg x=some u)(r:RelV v u)(Q:∀G,RA (kx X) G v a)(hd:gA x):JE X E (.Name x pos) (mC a):=C0 (Fp J T r hd) Q
def ay(f:A->A->Option Rr)(ma mb:Mi Rr):Mi Rr:=aT ma λx=>aT mb λy=>λZ=>match res Z x,res Z y with
 |some a,some b=>match f a b with
  |some r=>some (.ok r,Z)
  |none=>none
 |_,_=>none
def gh(K:Kx)(r:R2)(f:A->A->Option Rr):Prop:=∀(c:Cn)(Y:St)(H:Hp)(Z:List Sl)(τ:St)(θ:List Sl)(x y:Rr)(v w:V)(a b:A)(q:Rr)(Q:VK),c.toKx=K->VR Y x v->VR Y y w->
 Bd c Y H Z (bM y w (bM x v τ)) (bL y (bL x θ))->res Z x=some a->res Z y=some b->f a b=some q->(∀u H',VR Y q u->Bd c Y H' Z (bM q u τ) (bL q θ)->Q u H')->r v w H Q
theorem bind_some{m:Mi α}{f:α->Mi β}{o:Except Str β}(h:aT m f Z=some (o,O)):(∃x U,m Z=some (.ok x,U)/\f x U=some (o,O))\/∃e,m Z=some (.error e,O)/\o=.error e:=by
 delta aT at h
 cases e:m Z with
 |none=>rw[e] at h;cases h
 |some p=>
  obtain⟨r,U⟩:=p;cases r with
  |ok x=>rw[e] at h;exact .inl ⟨x,U,rfl,h⟩
  |error x=>rw[e] at h;cases h;exact .inr ⟨x,rfl,rfl⟩
theorem bB{Y:St}{τ:St}{f:Rr->Mi β}{o:Except Str β}(A:c.toKx=kx X)(b:Bd c Y H Z τ θ)(em:aT ma f Z=some (o,O))
  (h1:∀x v U R,VR Y x v->Bd c Y R U (bM x v τ) (bL x θ)->f x U=some (o,O)->Q v R)
  (h2:∀e,o=.error e->∀C H,X.mg e=some (.ref C)->Bd c Y H O τ θ->E (.ref C) none H):lA (kx X) E ma Y H Q:=by
 rcases bind_some em with ⟨x,U,D,l⟩|⟨e,D,l⟩
 .exact⟨c,Z,τ,θ,_,U,A,b,D,λv R t b1=>h1 x v U R t b1 l⟩
 .exact⟨c,Z,τ,θ,_,O,A,b,D,λC R T b1=>h2 e l C R T b1⟩
theorem lW{Y:St}{τ:St}{x:Rr}{o:Except Str β}(h:∀e,o=.error e->∀C H,X.mg e=some (.ref C)->Bd c Y H O τ θ->E (.ref C) none H):
  ∀e,o=.error e->∀C H,X.mg e=some (.ref C)->Bd c Y H O (bM x v τ) (bL x θ)->E (.ref C) none H:=λe p C H T b=>h e p C H T b.drop
theorem bF{Y:St}{τ:St}{o:Except Str Rr}(q:QW (kx X) E c Y O τ θ Q o):∀e,o=.error e->∀C H,X.mg e=some (.ref C)->Bd c Y H O τ θ->E (.ref C) none H:=λe p=>by subst p;exact q
theorem jd{Y:St}{τ:St}{o:Except Str Bool}{Q:Bool->Hp->Prop}(q:NF (kx X) E c Y O τ θ Q o):∀e,o=.error e->∀C H,X.mg e=some (.ref C)->Bd c Y H O τ θ->E (.ref C) none H:=λe p=>by subst p;exact q
theorem Bs{Y:St}{τ:St}{o:Except Str (List Rr)}{Q:List V->Hp->Prop}(q:OF (kx X) E c Y O τ θ Q o):∀e,o=.error e->∀C H,X.mg e=some (.ref C)->Bd c Y H O τ θ->E (.ref C) none H:=λe p=>by subst p;exact q
theorem Gh{f:A->A->Option Rr}{x y:Rr}{o:Except Str Rr}(h:(match res Z x,res Z y with|some a,some b=>(match f a b with|some r=>some ((.ok r:Except Str Rr),Z)|none=>none)|_,_=>none)=some (o,O)):
  ∃a b r,res Z x=some a/\res Z y=some b/\f a b=some r/\o=.ok r/\O=Z:=by
 cases D:res Z x with
 |none=>rw[D] at h;cases h
 |some a=>
  cases l:res Z y with
  |none=>rw[D,l] at h;cases h
  |some b=>
   rw[D,l] at h;cases N:f a b with
   |none=>simp only[N] at h;cases h
   |some r=>simp only[N] at h;cases h;exact⟨a,b,r,rfl,rfl,N,rfl,rfl⟩
theorem eB{f:A->A->Option Rr}(hf:gh (kx X) r f)(Y:St)(H:Hp)(Q:VK)(h:lA (kx X) E (ay f ma mb) Y H Q):Om r (lA (kx X) E ma) (lA (kx X) E mb) Y H Q:=by obtain⟨c,Z,τ,θ,o,O,e,b,em,q⟩:=h;refine bB e b em (λx v U R t b1 s=>?_) (bF q);refine bB e b1 s (λy w Z' V G b2 z=>?_) (lW (bF q));obtain⟨a,d,r,D,l,N,rfl,rfl⟩:=Gh z;exact hf c Y V _ τ θ x y v w a d r Q e t G b2 D l N q
theorem pB{op:zcp}{f:A->A->Option Rr}{a b:Expr}(ho:eG X (za3 op) r)(hf:gh (kx X) r f)(d:JE X E a ma)(hb:JE X E b mb):JE X E (.BinOp a op b pos) (ay f ma mb):=
 ⟨PE.weaken (O2 ho d.p hb.p) (eB hf)⟩
theorem fC{f:A->A->Option Rr}{a b:Expr}(ho:eG X (zaz op) r)(hf:gh (kx X) r f)(d:JE X E a ma)(hb:JE X E b mb)(T:zat op b=false):JE X E (.Compare a [op] [b] pos) (ay f ma mb):=
 ⟨PE.weaken (Eb ho d.p hb.p T) (eB hf)⟩
noncomputable def Sb:Rr->Option Bool
 | .fr (.bl b)=>some b
 |_=>none
def aq(m:Mi Rr):Mi Bool:=aT m λr Z=>match Sb r with
 |some b=>some (.ok b,Z)
 |none=>none
theorem hE{m:Mi Rr}(Y:St)(H:Hp)(Q:Bool->Hp->Prop)(h:zI (kx X) E (aq m) Y H Q):lA (kx X) E m Y H λx H'=>∃k,x=.bl k/\Q k H':=by
 obtain⟨c,Z,τ,θ,o,O,A,b,em,q⟩:=h;refine bB A b em (λx v U f t b1 s=>?_) (jd q);cases x with
 |rf i=>cases s
 |nw o=>cases s
 |fr a=>
  cases a with
  |bl k=>cases s;have r:=Bd.top b1 rfl;cases r;exact⟨k,rfl,q f b1.pop⟩
  |_=>exact cu s
theorem fw{f:A->A->Option Rr}{a b:Expr}(ho:eG X (zaz op) r)(hf:gh (kx X) r f)(d:JE X E a ma)(hb:JE X E b mb)(T:zat op b=false):JT X E (.Compare a [op] [b] pos) (aq (ay f ma mb)):=
 ⟨PT.weaken (D7 ho d.p hb.p T) λY H Q h=>eB hf Y H _ (hE Y H Q h)⟩
theorem Lg{m:Mi Rr}(h:JE X E e m)(he:∀whole,zcc e X.env whole=(do let v <- whole;zci e.pos;holding [v] (truthy v)):=by intro _;rfl):JT X E e (aq m):=
 ⟨PT.weaken (JU h.p he) λY H Q h=>hE Y H Q h⟩
def n9(m n:Mi Bool):Mi Bool:=aT m λb=>if b then n else lY false
def zh(m n:Mi Bool):Mi Bool:=aT m λb=>if b then lY true else n
def i4(m:Mi Bool):Mi Bool:=aT m λb=>lY (!b)
theorem lh{Y:St}{τ:St}{m:Mi Bool}{f:Bool->Mi β}{o:Except Str β}{Q:Bool->Hp->Prop}(A:c.toKx=kx X)(b:Bd c Y H Z τ θ)(em:aT m f Z=some (o,O))
  (h1:∀k U R,Bd c Y R U τ θ->f k U=some (o,O)->Q k R)
  (h2:∀e,o=.error e->∀C H,X.mg e=some (.ref C)->Bd c Y H O τ θ->E (.ref C) none H):zI (kx X) E m Y H Q:=by
 rcases bind_some em with ⟨x,U,D,l⟩|⟨e,D,l⟩
 .exact⟨c,Z,τ,θ,_,U,A,b,D,λR b1=>h1 x U R b1 l⟩
 .exact⟨c,Z,τ,θ,_,O,A,b,D,λC R T b1=>h2 e l C R T b1⟩
theorem Jo{a:Expr}{m:Mi Bool}(h:JT X E a m):JT X E (.UnaryOp .Not a pos) (i4 m):=⟨PT.weaken (Km h.p) λY H Q h=>by obtain⟨c,Z,τ,θ,o,O,A,b,em,q⟩:=h;refine lh A b em (λk U f b1 s=>?_) (jd q);cases s;exact q f b1⟩
theorem Eh{a:Expr}{m:Mi Bool}(h:JT X E a m):JW X E (.BoolOp .And [a] pos) m:=⟨Fu h.p⟩
theorem IU{a:Expr}{m:Mi Bool}(h:JT X E a m):JW X E (.BoolOp .Or [a] pos) m:=⟨Lc h.p⟩
theorem IA{a b:Expr}{rest:List Expr}{m n:Mi Bool}(h:JT X E a m)(h':JW X E (.BoolOp .And (b::rest) pos) n):JW X E (.BoolOp .And (a::b::rest) pos) (n9 m n):=⟨PW.weaken (Ks h.p h'.p) λY H Q h=>by
 obtain⟨c,Z,τ,θ,o,O,A,b,em,q⟩:=h;refine lh A b em (λk U f b1 s=>?_) (jd q);cases k with
 |true=>rw[zcu rfl];exact⟨c,U,τ,θ,o,O,A,b1,s,q⟩
 | false=>rw[zcv W1];cases s;exact q f b1⟩
theorem OK{a b:Expr}{rest:List Expr}{m n:Mi Bool}(h:JT X E a m)(h':JW X E (.BoolOp .Or (b::rest) pos) n):JW X E (.BoolOp .Or (a::b::rest) pos) (zh m n):=⟨PW.weaken (Pw h.p h'.p) λY H Q h=>by
 obtain⟨c,Z,τ,θ,o,O,A,b,em,q⟩:=h;refine lh A b em (λk U f b1 s=>?_) (jd q);cases k with
 |true=>rw[zcu rfl];cases s;exact q f b1
 | false=>rw[zcv W1];exact⟨c,U,τ,θ,o,O,A,b1,s,q⟩⟩
theorem OJ{m:Mi Bool}(h:JW X E e m):JT X E e m:=⟨h.p.pt⟩
def Bx(m n:Mi Rr):Mi Rr:=aT (aq m) λb=>if b then n else mC (.bl false)
def De(m:Mi Rr):Mi Rr:=aT (aq m) λb=>mC (.bl (!b))
theorem wN{Y:St}{τ:St}{m:Mi Rr}{f:Bool->Mi β}{o:Except Str β}{Q:Bool->Hp->Prop}(A:c.toKx=kx X)(b:Bd c Y H Z τ θ)(em:aT (aq m) f Z=some (o,O))
  (h1:∀k U R,Bd c Y R U τ θ->f k U=some (o,O)->Q k R)
  (h2:∀e,o=.error e->∀C H,X.mg e=some (.ref C)->Bd c Y H O τ θ->E (.ref C) none H):lA (kx X) E m Y H λx H'=>∃k,x=.bl k/\Q k H':=
 hE Y H Q (lh A b em h1 h2)
theorem L5{op}{a:Expr}{m:Mi Rr}(h:JE X E a m):JE X E (.BoolOp op [a] pos) m:=⟨KC h.p⟩
theorem KN{a b:Expr}{rest:List Expr}{m n:Mi Rr}(h:JE X E a m)(h':JE X E (.BoolOp .And (b::rest) pos) n):JE X E (.BoolOp .And (a::b::rest) pos) (Bx m n):=⟨PE.weaken (LU h.p h'.p) λY H Q h=>by
 obtain⟨c,Z,τ,θ,o,O,A,b,em,q⟩:=h;refine wN A b em (λk U f b1 s=>?_) (bF q);cases k with
 |true=>rw[zcu rfl];exact⟨c,U,τ,θ,o,O,A,b1,s,q⟩
 | false=>rw[zcv W1];cases s;exact q (.bl false) f trivial (b1.push λ_=>.bl _)⟩
theorem Kk{a:Expr}{m:Mi Rr}(h:JE X E a m):JE X E (.UnaryOp .Not a pos) (De m):=⟨PE.weaken (Li h.p) λY H Q h=>by obtain⟨c,Z,τ,θ,o,O,A,b,em,q⟩:=h;refine wN A b em (λk U f b1 s=>?_) (bF q);cases s;exact q (.bl (!k)) f trivial (b1.push λ_=>.bl _)⟩
def dW:Mi (List Rr):=lY []
def cM(m:Mi Rr)(n:Mi (List Rr)):Mi (List Rr):=aT m λr=>aT n λrs=>lY (r::rs)
theorem vI:JA X E [] dW:=⟨PA.weaken cN λY H Q h=>by obtain⟨c,Z,τ,θ,o,O,A,b,em,q⟩:=h;cases em;exact q [] H trivial b⟩
theorem qP{m:Mi Rr}{n:Mi (List Rr)}(h:JE X E e m)(h':JA X E es n)(hs:zai (e::es) X.env=(false,eval e X.env)::zai es X.env:=by rfl):JA X E (e::es) (cM m n):=⟨PA.weaken (bE h.p h'.p hs) λY H Q h=>by
 obtain⟨c,Z,τ,θ,o,O,ek,b,em,q⟩:=h;refine bB ek b em (λx v U H1 hv b1 em1=>?_) (Bs q);rcases bind_some em1 with ⟨rs,Z',e1,e2⟩|⟨e,e1,e2⟩
 .cases e2;exact⟨c,U,_,_,_,O,ek,b1,e1,λvs H2 hvs b2=>q (v::vs) H2 ⟨hv,hvs⟩ b2⟩
 .subst e2;exact⟨c,U,_,_,_,O,ek,b1,e1,λC H2 hm b2=>q C H2 hm b2.drop⟩⟩
end
variable{ss:List Sl}
section
variable{c:Cn}{Y:St}{H:Hp}{Z:List Sl}{τ:St}{θ:List Sl}
theorem vM{l:List α}{x:α}(h:l[i]?=some x):l.set i x=l:=by
 apply Uc;intro j;by_cases z:j=i
 .subst z;rw[Tt (SF.mp h).1,h]
 .rw[TL (Uu z)]
theorem OE(h:∀a,a∈L↔a∈L'):c.g H L=c.g H L':=by
 funext a
 by_cases z:a∈L\/a∈c.Hd
 .rw[ip z,ip (by rwa[<-h a])]
 .rw[bJ (λy=>z (.inl y)) (λy=>z (.inr y)),bJ (λy=>z (.inl ((h a).mpr y))) (λy=>z (.inr y))]
theorem dz.perm(b:dz c Y H Z τ θ L){J:St}{T:List Sl}(pm:L'.Perm L)(lt:J.length=T.length)(r:aA c.toKx (c.g H L) H (J++Y) (T++O) L')(kp:fj c.σ0 Y O):dz c Y H O J T L':=
 ⟨(pm.nodup_iff).mpr b.nd,by rw[OE (L':=L) λa=>pm.mem_iff];exact r,λp hp=>b.own p (pm.mem_iff.mp hp),b.fr,kp,lt,b.hd⟩
theorem Bd.Ni{xs:St}(e:xs.length=ss.length)(b:Bd c Y H Z (xs++some v::τ) (ss++.lv o::θ)):Bd c Y H Z (xs++some v::τ) (ss++.fr o.a::θ):=by
 obtain⟨L,b⟩:=b;have r:aA c.toKx (c.g H L) H (xs++(some v::(τ++Y))) (ss++(.lv o::(θ++Z))) L:=by have:=b.rel;simpa[SW] using this
 obtain⟨I,L2,D,Q,k⟩:=aA.split e r;cases k with
 |cons h w=>
  rename_i U x;cases h with
  |lv h=>
   rename_i p q;have nd:=b.nd;rw[D,<-SW] at nd;obtain⟨nd2,hp⟩:=pO nd;have sub:∀a,a∈I++x->a∈L:=λa d=>by rw[D];simp at d ⊢;rcases d with z|z<;>simp[z]
   have sm:Sq (c.g H L) (c.g H (I++x)):=dg sub;refine⟨I++x,nd2,?_,λq n=>b.own q (sub q n),b.fr,b.kp,by have:=b.lt;simp at this ⊢;exact id ‹_›,b.hd⟩;have:=(Q.sm sm (λ_ _ _ e=>e)).app (aA.cons (L:=[]) (.fr (h.a' sm λa d u e=>by rw[bJ (hp a d) (b.Nx (by rw[D];exact SJ _ (S7 _ d)))];exact e)) (w.sm sm (λ_ _ _ e=>e)));simpa[SW] using this
theorem Bd.Ew{xs:St}{a:A}(e:xs.length=ss.length)(b:Bd c Y H Z (xs++τ) (ss++θ))(t:Y[i]?=some (some v))(hs:Z[i]?=some (.fr a)):Bd c Y H Z (xs++some v::τ) (ss++.fr a::θ):=by
 obtain⟨L,b⟩:=b;obtain⟨M1,E,_,_,k⟩:=aA.split b.lt b.rel;obtain⟨x,_,_,_,hx,q,_⟩:=k.at hs;rw[t] at hx;cases hx;cases q with
 |fr h=>
  have r:aA c.toKx (c.g H L) H (xs++(τ++Y)) (ss++(θ++Z)) L:=by have:=b.rel;simpa[SW] using this
  obtain⟨u,L2,D,Q,k⟩:=aA.split e r;refine⟨L,b.nd,?_,b.own,b.fr,b.kp,by have:=b.lt;simp at this ⊢;lia,b.hd⟩;have:=Q.app (aA.cons (L:=[]) (.fr h) k);rw[D] at this ⊢;simpa[SW] using this
theorem Ax(u L2 M1 J q:List Addr):(u++(q++(L2++(M1++J)))).Perm (u++(L2++(M1++(q++J)))):=by rw[Vg];intro a;simp only[Vr];lia
theorem Bd.AY{xs:St}(e:xs.length=ss.length)(b:Bd c Y H Z (xs++τ) (ss++θ))(P:Y[i]?=some (some v))(hs:Z[i]?=some s)(hk:s=.lv o\/s=.pv o):
  Bd c Y H (Z.set i .un) (xs++some v::τ) (ss++.lv o::θ):=by
 obtain⟨L,b⟩:=b;have r:aA c.toKx (c.g H L) H (xs++(τ++Y)) (ss++(θ++Z)) L:=by have:=b.rel;simpa[SW] using this
 obtain⟨u,L2,D,Q,k⟩:=aA.split e r;obtain⟨U,N2,l,E,G⟩:=aA.split (by have:=b.lt;simp at this;lia) k;obtain⟨x,M1,R,J,hx,a,N,ins⟩:=G.at hs;rw[P] at hx;cases hx;have fin:∀p q,v=.ref p->R=p::q->LR c.toKx (c.g H L) H p o q->Bd c Y H (Z.set i .un) (xs++some v::τ) (ss++.lv o::θ):=by
  intro p q I em h;subst I em;have w:=ins (y:=some (.ref p)) (t:=.un) (L':=[]) (Sq.refl _) (λ_ _ _ e=>e) (.un _);rw[vM P] at w;have O:=Q.app (aA.cons (fU.lv h) (E.app w));have pm:(u++((p::q)++(U++(M1++[]++J)))).Perm L:=by rw[D,l,N];simpa using Ax u U M1 J (p::q)
  exact⟨_,b.perm pm (by have:=b.lt;simp at this ⊢;lia) (by simpa[SW] using O) (b.kp.DA (λz=>by cases z))⟩
 rcases hk with rfl|rfl
 .cases a with|lv h=>exact fin _ _ rfl rfl h
 .cases a with|pv h=>exact fin _ _ rfl rfl h
theorem Bd.putBack{t:Sl}(b:Bd c Y H Z (some v::τ) (.lv o::θ))(U:Y[i]?=some (some v))(hs:Z[i]?=some .un)(hk:t=.lv o\/(t=.pv o/\Y[i]?=c.σ0[i]?)):Bd c Y H (Z.set i t) τ θ:=by
 obtain⟨L,b⟩:=b;have r:aA c.toKx (c.g H L) H (some v::(τ++Y)) (.lv o::(θ++Z)) L:=b.rel;cases r with
 |cons h r=>
  rename_i B L';obtain⟨u,L2,D,Q,k⟩:=aA.split (by have:=b.lt;simpa using this) r;obtain⟨x,M1,E,J,hx,y,N,ins⟩:=k.at hs;cases y with
  |un=>
   cases h with
   |lv h=>
    rename_i p q;have fin:fU c.toKx (c.g H ((p::q)++L')) H (some (.ref p)) t (p::q)->fj c.σ0 Y (Z.set i t)->Bd c Y H (Z.set i t) τ θ:=λh kp=>by
     have P:=ins (Sq.refl _) (λ_ _ _ e=>e) h;rw[vM U] at P;have pm:(u++(M1++(p::q)++J)).Perm ((p::q)++L'):=by rw[D,N];rw[Vg];intro a;simp only[Vr,List.count_cons,Y9];lia
     exact⟨_,b.perm pm (by have:=b.lt;simpa using this) (Q.app P) kp⟩
    rcases hk with rfl|⟨rfl,hk⟩
    .exact fin (.lv h) (b.kp.DA (λz=>by cases z))
    .refine fin (.pv h) λj o' q w=>?_;by_cases z:j=i
     .subst z;exact hk
     .rw[TL (Uu z)] at q;exact b.kp j o' q w
theorem cy:∀(rs:List Rr)(vs:List V)(τ:St),cg rs vs τ=cg rs vs []++τ
 |[],_,τ=>rfl
 |r::rs,[],τ=>rfl
 |r::rs,v::vs,τ=>by show cg rs vs (bM r v τ)=cg rs vs (bM r v [])++τ;rw[cy rs vs (bM r v τ),cy rs vs (bM r v []),SW];cases r<;>rfl
theorem cv:∀(rs:List Rr)(θ:List Sl),cq rs θ=cq rs []++θ
 |[],θ=>rfl
 |r::rs,θ=>by show cq rs (bL r θ)=cq rs (bL r [])++θ;rw[cv rs (bL r θ),cv rs (bL r []),SW];cases r<;>rfl
theorem kN.len:∀{rs:List Rr}{vs:List V},kN Y rs vs->rs.length=vs.length
 |[],[],_=>rfl
 |_::rs,_::vs,h=>by rw[S5,S5,kN.len h.2]
 |[],_::_,h=>h.elim
 |_::_,[],h=>h.elim
theorem kZ:∀(rs:List Rr)(vs:List V),rs.length=vs.length->(cg rs vs []).length=(cq rs []).length
 |[],[],_=>rfl
 |r::rs,v::vs,h=>by show (cg rs vs (bM r v [])).length=(cq rs (bL r [])).length;rw[cy,cv,S3,S3,kZ rs vs (by simpa using h)];cases r<;>rfl
 |[],_::_,h=>by simp at h
 |_::_,[],h=>by simp at h
noncomputable def bp:Rr->List Sl->Option (A×List Sl)
 | .fr a,Z=>some (a,Z)
 | .nw o,Z=>some (o.a,Z)
 | .rf i,Z=>match Z[i]? with
  |some (.lv o)=>some (o.a,Z.set i (.fr o.a))
  |some (.fr a)=>some (a,Z)
  |_=>none
def eO:List Rr->List Sl->Option (List A×List Sl)
 |[],Z=>some ([],Z)
 |r::rs,Z=>match bp r Z with
  |some (a,U)=>match eO rs U with
   |some (as,Z')=>some (a::as,Z')
   |none=>none
  |none=>none
theorem Bd.bp{r:Rr}{v:V}{a:A}{O:List Sl}{xs:St}{ss:List Sl}(e:xs.length=ss.length)(b:Bd c Y H Z (xs++bM r v τ) (ss++bL r θ))(t:VR Y r v)(h:bp r Z=some (a,O)):Bd c Y H O (xs++some v::τ) (ss++.fr a::θ):=by
 cases r with
 |fr a'=>cases h;exact b
 |nw o=>cases h;exact Bd.Ni e b
 |rf i=>
  delta M.bp at h
  cases es:Z[i]? with
  |none=>simp only[es] at h;cases h
  |some s=>
   cases s with
   |un=>simp only[es] at h;cases h
   |pv o=>simp only[es] at h;cases h
   |cf o=>simp only[es] at h;cases h
   |fr a'=>simp only[es] at h;cases h;exact Bd.Ew e b t es
   |lv o=>simp only[es] at h;cases h;have b2:=Bd.qk b es;exact Bd.Ew e b2 t (Tt (SF.mp es).1)
theorem yU{r:Rr}{rs:List Rr}{as:List A}(h:eO (r::rs) Z=some (as,O)):∃a H U,bp r Z=some (a,U)/\eO rs U=some (H,O)/\as=a::H:=by
 unfold eO at h;cases D:bp r Z with
 |none=>rw[D] at h;cases h
 |some p=>
  obtain⟨a,U⟩:=p;rw[D] at h;cases l:eO rs U with
  |none=>simp only [l] at h; cases h
  |some q=>obtain ⟨H,Z'⟩:=q; simp only [l] at h; cases h; exact ⟨a,H,U,rfl,l,rfl⟩
theorem Bd.eO:∀ {rs:List Rr} {vs:List V} {as:List A} {Z O:List Sl} {τ:St} {θ:List Sl},kN Y rs vs → Bd c Y H Z (cg rs vs τ) (cq rs θ) → eO rs Z = some (as,O) → Bd c Y H O (vs.reverse.map some ++ τ) (as.reverse.map Sl.fr ++ θ) ∧ vs.length = as.length
 |[],[],_,_,_,_,_,_,b,h=>by cases h; exact ⟨b,rfl⟩
 |r :: rs,v :: vs,_,Z,O,τ,θ,hv,b,h=>by obtain⟨a,as,U,D,l,rfl⟩:=yU h;have b:Bd c Y H Z (cg rs vs (bM r v τ)) (cq rs (bL r θ)):=b;rw[cy,cv] at b;have b1:=Bd.bp (kZ rs vs (kN.len hv.2)) b hv.1 D;rw[<-cy rs vs (some v::τ),<-cv rs (.fr a::θ)] at b1;obtain⟨b2,N⟩:=Bd.eO hv.2 b1 l;exact⟨by simpa using b2,by simp[N]⟩
 |[],_::_,_,_,_,_,_,h,_,_=>h.elim
 |_::_,[],_,_,_,_,_,h,_,_=>h.elim
end
section
variable{X:Cx}{E:XK}
theorem wJ{Y:St}{τ:St}{m:Mi (List Rr)}{f:List Rr->Mi β}{o:Except Str β}{Q:List V->Hp->Prop}(A:c.toKx=kx X)(b:Bd c Y H Z τ θ)(em:aT m f Z=some (o,O))
  (h1:∀rs vs U R,kN Y rs vs->Bd c Y R U (cg rs vs τ) (cq rs θ)->f rs U=some (o,O)->Q vs R)
  (h2:∀e,o=.error e->∀C H,X.mg e=some (.ref C)->Bd c Y H O τ θ->E (.ref C) none H):RB (kx X) E m Y H Q:=by
 rcases bind_some em with ⟨x,U,D,l⟩|⟨e,D,l⟩
 .exact⟨c,Z,τ,θ,_,U,A,b,D,λvs R t b1=>h1 x vs U R t b1 l⟩
 .exact⟨c,Z,τ,θ,_,O,A,b,D,λC R T b1=>h2 e l C R T b1⟩
def a8(m:Mi (List Rr)):Mi Rr:=aT m λrs Z=>match eO rs Z with
 |some (as,O)=>if as.length<=1000 then some (.ok (.fr (.tup as)),O) else none
 |none=>none
def bA(m:Mi (List Rr)):Mi Rr:=aT m λrs Z=>match eO rs Z with
 |some (as,O)=>if as.length<=1000 then some (.ok (.nw (.lst as)),O) else none
 |none=>none
theorem ue{k:Kx}{as:List A}:∀G,br k G vs.reverse as.reverse->br k G vs as:=λG h=>by have:=h.rev;simpa using this
theorem s9:1000<=sizeLine:=by rw[zav];decide
theorem KL{m:Mi (List Rr)}{x1 pos}(h:JA X E es m):JE X E (.Tuple es x1 pos) (a8 m):=⟨PE.weaken (LA h.p) λY H Q h=>by
 obtain⟨c,Z,τ,θ,o,O,A,b,em,q⟩:=h;refine wJ A b em (λrs vs U f t b1 s=>?_) (bF q);cases D:eO rs U with
 |none=>rw[D] at s;cases s
 |some p=>
  obtain⟨as,Z'⟩:=p;simp only[D] at s;obtain⟨b2,l⟩:=Bd.eO t b1 D;split at s
  .rename_i hl;cases s;exact⟨by have:=s9;lia,λp hp=>q (.ref p) _ trivial (Bd.Mo b2 (by simp[l]) hp vs as ue)⟩
  .cases s⟩
theorem Il{m:Mi (List Rr)}{pos}(h:JA X E es m):JE X E (.List es pos) (bA m):=⟨PE.weaken (LW h.p) λY H Q h=>by
 obtain⟨c,Z,τ,θ,o,O,A,b,em,q⟩:=h;refine wJ A b em (λrs vs U f t b1 s=>?_) (bF q);cases D:eO rs U with
 |none=>rw[D] at s;cases s
 |some p=>
  obtain⟨as,Z'⟩:=p;simp only[D] at s;obtain⟨b2,l⟩:=Bd.eO t b1 D;split at s
  .rename_i hl;cases s;exact⟨by have:=s9;lia,λp hp=>q (.ref p) _ trivial (Bd.AN b2 (by simp[l]) hp vs as ue)⟩
  .cases s⟩
end
inductive Fl where
 |nx|rt(s:Sl)|bk|ct|ex(c:Str)
noncomputable abbrev Ms:=List Sl->Option (Fl×List Sl)
noncomputable def bf:Nat->List Sl->List Sl
 |0,_=>[]
 |n+1,[]=>.un::bf n []
 |n+1,.pv o::Z=>.pv o::bf n Z
 |n+1,_::Z=>.un::bf n Z
def D4(K:Kx)(n:Nat)(m:Ms):Sp:=λvs H Q E=>vs.length=n/\∃(c:Cn)(Z:List Sl)(f:Fl)(O:List Sl),c.toKx=K/\c.σ0=vs.map some/\c.H0=H/\dz c (vs.map some) H Z [] [] c.Lp/\m Z=some (f,O) /\
  (match f with
   | .rt s=>∀v H',(∀o,s≠.pv o)->Bd c (vs.map some) H' (bf vs.length O) [some v] [s]->Q v H'
   | .ex x=>∀C H',K.mg x=some (.ref C)->Bd c (vs.map some) H' (bf vs.length O) [] []->E (.ref C) none H'
   | _=>False)
section
variable{k:Kx}{G H:Hp}
theorem aA.back:∀{σ0 Y:St}{Z:List Sl}{L:List Addr},aA k G H Y Z L->(∀(i:Nat)(o:LO),Z[i]?=some (.pv o)->i<σ0.length->Y[i]?=σ0[i]?)->∃L',L'.Sublist L/\aA k G H σ0 (bf σ0.length Z) L'
 |[],_,_,_,_,_=>⟨[],List.nil_sublist _,.nil⟩
 |x::σ0,_,_,_,.nil,h=>by obtain⟨L',s,r⟩:=aA.back .nil (λi o e=>by simp at e);exact⟨L',s,aA.cons (.un x) r⟩
 |x::σ0,_,_,_,.cons (x:=y) (s:=s) (Z:=U) (L:=L1) (L':=L2) hs r,h=>by
  obtain⟨L',sl,P⟩:=aA.back r (λi o e hi=>by have:=h (i+1) o e (by simpa using hi);simpa using this);have fin:bf (x::σ0).length (s::U)=.un::bf σ0.length U->∃L',L'.Sublist (L1++L2)/\aA k G H (x::σ0) (bf (x::σ0).length (s::U)) L':=λe=>by rw[e];exact⟨L',sl.trans (VQ _ _),aA.cons (.un x) P⟩
  cases s with
  |un=>exact fin rfl
  |fr a=>exact fin rfl
  |lv o=>exact fin rfl
  |cf o=>exact fin rfl
  |pv o=>
   have e:=h 0 o rfl T1;have e:y=x:=by simpa using e
   subst e;exact⟨L1++L',U1 (UI _) sl,aA.cons hs P⟩
end
variable{as:List Sl}
section
variable{c:Cn}{Y:St}{H:Hp}{Z:List Sl}{τ:St}{θ:List Sl}
theorem Bd.back(b:Bd c Y H Z τ θ):Bd c c.σ0 H (bf c.σ0.length Z) τ θ:=by
 obtain⟨L,b⟩:=b;obtain⟨u,L2,D,Q,k⟩:=aA.split b.lt b.rel;obtain⟨L',sl,r⟩:=k.back (σ0:=c.σ0) (λi o e _=>b.kp i _ e rfl);have h:(u++L').Sublist L:=by rw[D];exact U1 (UI _) sl
 have sm:Sq (c.g H L) (c.g H (u++L')):=dg λa d=>h.subset d;exact⟨u++L',b.nd.sublist h,(Q.app r).sm sm (λ_ _ _ e=>e),λp hp=>b.own p (h.subset hp),b.fr,λi o _ _=>rfl,b.lt,b.hd⟩
noncomputable def take1:Rr->List Sl->Option (Sl×List Sl)
 | .fr a,Z=>some (.fr a,Z)
 | .nw o,Z=>some (.fr o.a,Z)
 | .rf i,Z=>match Z[i]? with
  |some (.lv o)=>some (.lv o,Z.set i .un)
  |some (.pv o)=>some (.lv o,Z.set i .un)
  |some (.fr a)=>some (.fr a,Z)
  |_=>none
def dM:List Rr->List Sl->Option (List Sl×List Sl)
 |[],Z=>some ([],Z)
 |r::rs,Z=>match take1 r Z with
  |some (a,U)=>match dM rs U with
   |some (as,Z')=>some (a::as,Z')
   |none=>none
  |none=>none
noncomputable def t5:Sl->Sl
 | .lv o=>.pv o
 |s=>s
theorem uV{r:Rr}{rs:List Rr}(h:dM (r::rs) Z=some (as,O)):∃a H U,take1 r Z=some (a,U)/\dM rs U=some (H,O)/\as=a::H:=by
 unfold dM at h;cases D:take1 r Z with
 |none=>rw[D] at h;cases h
 |some p=>
  obtain⟨a,U⟩:=p;rw[D] at h;cases l:dM rs U with
  |none=>simp only[l] at h;cases h
  |some q=>obtain⟨H,Z'⟩:=q;simp only[l] at h;cases h;exact⟨a,H,U,rfl,l,rfl⟩
theorem Bd.take1{r:Rr}{v:V}{a:Sl}{O:List Sl}{xs:St}{ss:List Sl}(e:xs.length=ss.length)(b:Bd c Y H Z (xs++bM r v τ) (ss++bL r θ))(t:VR Y r v)(h:take1 r Z=some (a,O)):Bd c Y H O (xs++some v::τ) (ss++a::θ):=by
 cases r with
 |fr a'=>cases h;exact b
 |nw o=>cases h;exact Bd.Ni e b
 |rf i=>
  delta M.take1 at h
  cases es:Z[i]? with
  |none=>simp only[es] at h;cases h
  |some s=>
   cases s with
   |un=>simp only[es] at h;cases h
   |fr a'=>simp only[es] at h;cases h;exact Bd.Ew e b t es
   |lv o=>simp only[es] at h;cases h;exact Bd.AY e b t es (.inl rfl)
   |pv o=>simp only[es] at h;cases h;exact Bd.AY e b t es (.inr rfl)
   |cf o=>simp only[es] at h;cases h
theorem Bd.dM:∀{rs:List Rr}{vs:List V}{as:List Sl}{Z O:List Sl}{τ:St}{θ:List Sl},kN Y rs vs->Bd c Y H Z (cg rs vs τ) (cq rs θ)->dM rs Z=some (as,O)->Bd c Y H O (vs.reverse.map some++τ) (as.reverse++θ)/\vs.length=as.length
 |[],[],_,_,_,_,_,_,b,h=>by cases h;exact⟨b,rfl⟩
 |r::rs,v::vs,_,Z,O,τ,θ,hv,b,h=>by obtain⟨a,as,U,D,l,rfl⟩:=uV h;have b:Bd c Y H Z (cg rs vs (bM r v τ)) (cq rs (bL r θ)):=b;rw[cy,cv] at b;have b1:=Bd.take1 (kZ rs vs (kN.len hv.2)) b hv.1 D;rw[<-cy rs vs (some v::τ),<-cv rs (a::θ)] at b1;obtain⟨b2,N⟩:=Bd.dM hv.2 b1 l;exact⟨by simpa using b2,by simp[N]⟩
 |[],_::_,_,_,_,_,_,h,_,_=>h.elim
 |_::_,[],_,_,_,_,_,h,_,_=>h.elim
noncomputable def rP(X':List Sl):Rr->Sl->List Sl->Option (List Sl)
 | .rf i,s,Z=>match X'[i]?,s,Z[i]? with
  |some (.lv _),.pv o,some .un=>some (Z.set i (.lv o))
  |some (.pv _),.pv o,some .un=>some (Z.set i (.pv o))
  |some (.fr _),_,_=>some Z
  |_,_,_=>none
 |_,_,Z=>some Z
def putL(X':List Sl):List Rr->List Sl->List Sl->Option (List Sl)
 |r::rs,s::ss,Z=>match putL X' rs ss Z with
  |some U=>rP X' r s U
  |none=>none
 |[],[],Z=>some Z
 |_,_,_=>none
end
section
variable{k:Kx}{G H:Hp}
theorem aA.Mc:∀{Y:St}{Z:List Sl}{L:List Addr},aA k G H Y Z L->∃L',L'.Perm L/\aA k G H Y.reverse Z.reverse L'
 |_,_,_,.nil=>⟨[],.refl _,.nil⟩
 |_,_,_,.cons (L:=L1) h r=>by obtain⟨L',pm,P⟩:=aA.Mc r;refine⟨L'++(L1++[]),?_,by rw[VT,VT];exact P.app (aA.cons h .nil)⟩;rw[Ug];exact(pm.append_right L1).trans XU
theorem aA.wH:∀{Y:St}{Z:List Sl}{L:List Addr},aA k G H Y Z L->∀p∈L,∀ob vs,H p=some (.frz ob vs)->False
 |_,_,_,.nil,p,hp,_,_,_=>by cases hp
 |_,_,_,.cons h r,p,hp,ob,vs,e=>by
  rcases SY.mp hp with z|z
  .cases h with
   |un=>cases z
   |fr=>cases z
   |cf=>cases z
   |lv h=>exact h.nf p z _ _ e
   |pv h=>exact h.nf p z _ _ e
  .exact r.wH p z ob vs e
theorem aA.t5:∀{Y:St}{Z:List Sl}{L:List Addr},aA k G H Y Z L->aA k G H Y (Z.map t5) L
 |_,_,_,.nil=>.nil
 |_,_,_,.cons h r=>by
  refine aA.cons ?_ (aA.t5 r);cases h with
  |un=>exact .un _
  |fr h=>exact .fr h
  |cf h=>exact .cf h
  |lv h=>exact .pv h
  |pv h=>exact .pv h
noncomputable def DZ:Sl->Sl
 | .pv o=>.lv o
 |s=>s
theorem aA.DZ:∀{Y:St}{Z:List Sl}{L:List Addr},aA k G H Y Z L->aA k G H Y (Z.map DZ) L
 |_,_,_,.nil=>.nil
 |_,_,_,.cons h r=>by
  refine aA.cons ?_ (aA.DZ r);cases h with
  |un=>exact .un _
  |fr h=>exact .fr h
  |cf h=>exact .cf h
  |lv h=>exact .lv h
  |pv h=>exact .lv h
end
section
variable{c:Cn}{Y:St}{H:Hp}{Z:List Sl}{τ:St}{θ:List Sl}
theorem Bd.enter(e:vs.length=as.length)(b:Bd c Y H Z (vs.reverse.map some++τ) (as.reverse++θ)):
  ∃j:Cn,j.toKx=c.toKx/\j.σ0=vs.map some/\j.H0=H/\dz j (vs.map some) H (as.map t5) [] [] j.Lp /\
   ∀(H':Hp)(O:List Sl)(J:St)(T:List Sl),(∀s∈T,∀o,s≠.pv o)->O.length=vs.length->Bd j (vs.map some) H' O J T->Bd c Y H' Z (vs.reverse.map some++(J++τ)) ((O.map DZ).reverse++(T++θ)):=by
 obtain⟨L,b⟩:=b;have r:aA c.toKx (c.g H L) H (vs.reverse.map some++(τ++Y)) (as.reverse++(θ++Z)) L:=by have:=b.rel;simpa[SW] using this
 obtain⟨La,v,D,r1,k⟩:=aA.split (by simp[e]) r;obtain⟨Lp,pm,E⟩:=r1.Mc;have E:aA c.toKx (c.g H L) H (vs.map some) as Lp:=by simpa[<-YM] using E
 have F:∀a,a∈Lp++(v++c.Hd)↔a∈L++c.Hd:=λa=>by
  rw[D,SY,SY,SY,SY,pm.mem_iff];constructor
  .rintro(h|h|h)
   .exact .inl (.inl h)
   .exact .inl (.inr h)
   .exact .inr h
  .rintro((h|h)|h)
   .exact .inl h
   .exact .inr (.inl h)
   .exact .inr (.inr h)
 have nd:=b.nd;rw[D] at nd;obtain⟨n1,n2,K⟩:=Td.mp nd
 let j:Cn:={ toKx:=c.toKx,σ0:=vs.map some,H0:=H,Lp:=Lp,Hd:=v++c.Hd,Wk:=[] }
 have C:∀X A L2,(∀a,a∈A++(v++c.Hd)↔a∈L2++c.Hd)->j.g X A=c.g X L2:=λX A L2 m=>by
  funext a
  show (if a∈A++(v++c.Hd) then none else X a)=(if a∈L2++c.Hd then none else X a)
  by_cases z:a∈A++(v++c.Hd)
  .rw[zcu z,zcu ((m a).mp z)]
  .rw[zcv z,zcv λy=>z ((m a).mpr y)]
 refine⟨j,rfl,rfl,rfl,⟨(pm.nodup_iff).mpr n1,?_,λp hp=>.inl hp,⟨λq o h=>⟨o,h,λ_ _=>rfl⟩,λq n=>by cases n⟩,λi o _ _=>rfl,rfl,λp hp=>?_⟩,?_⟩
 .show aA c.toKx (j.g H Lp) H (vs.map some) (as.map t5) Lp;rw[C H Lp L F];exact E.t5
 .rcases SY.mp hp with z|z
  .exact⟨k.is p z,λy=>K p (pm.mem_iff.mp y) p z rfl⟩
  .refine⟨?_,λy=>b.Nx (by rw[D];exact S7 _ (pm.mem_iff.mp y)) z⟩;obtain⟨⟨u,h1⟩,h2⟩:=b.hd p z;obtain⟨S,h3,_⟩:=b.fr.st p u h1;exact⟨S,h3⟩
 .intro H' O J T hθ hl x;obtain⟨L',x⟩:=x;obtain⟨V,Ls,e2,q1,q2⟩:=aA.split x.lt x.rel;obtain⟨I,N,q3⟩:=q2.DZ.Mc;have lt':τ.length=θ.length:=by have:=b.lt;simp[e] at this;exact id ‹_›
  obtain⟨Lτ,Lσ,e3,s1,s2⟩:=aA.split lt' k;have G:∀p∈L',p∈Lp\/H p=none:=x.own;have R:∀p,p∈v->∀u,H p=some u->H' p=some u:=λp hp u h=>by obtain⟨S,h1,h2⟩:=x.fr.st p u h;have:p∉Lp:=λy=>K p (pm.mem_iff.mp y) p hp rfl;rw[h1,h2 this (λw t=>by cases t)]
  have P:∀p,p∈L'->p∉v:=λp hp y=>by
   rcases G p hp with z|z
   .exact K p (pm.mem_iff.mp z) p y rfl
   .obtain⟨u,h⟩:=k.is p y;rw[z] at h;cases h
  have U:Sq (c.g H L) (j.g H' L'):=λa u h=>by
   by_cases z:a∈L\/a∈c.Hd
   .rw[ip z] at h;cases h
   .rw[bJ (λy=>z (.inl y)) (λy=>z (.inr y))] at h;have d:a∉Lp:=λy=>z (.inl (by rw[D];exact S7 _ (pm.mem_iff.mp y)));have nr:a∉v:=λy=>z (.inl (by rw[D];exact SJ _ y));obtain⟨S,h1,h2⟩:=x.fr.st a u h;refine⟨S,?_,.inl (h2 d (λw t=>by cases t))⟩;rw[bJ (c:=j) (λy=>?_) (λy=>?_)]
    .exact h1
    .rcases G a y with w|w
     .exact d w
     .rw[w] at h;cases h
    .rcases SY.mp y with w|w
     .exact nr w
     .exact z (.inr w)
  have Q:j.g H' L'=c.g H' (L'++v):=C H' L' (L'++v) λa=>by simp[SY,or_assoc]
  have s3:aA c.toKx (j.g H' L') H' (τ++Y) (θ++Z) v:=k.sm U R;have MF:aA c.toKx (j.g H' L') H' (vs.reverse.map some++(J++τ)++Y) ((O.map DZ).reverse++(T++θ)++Z) (I++(V++v)):=by have:=q3.app (q1.app s3);simpa[SW,<-YM] using this
  have B:(I++(V++v)).Perm (L'++v):=by rw[e2];have:=N.append_right (V++v);refine this.trans ?_;rw[<-SW];exact XU.append_right v
  refine⟨I++(V++v),(B.nodup_iff).mpr (Td.mpr ⟨x.nd,n2,λa ha b2 hb z=>P a ha (by rw[z];exact hb)⟩),?_,λp hp=>?_,⟨λq u h=>?_,λq n=>?_⟩,b.kp,?_,b.hd⟩
  .rw[OE (c:=c) (H:=H') (L':=L'++v) λa=>B.mem_iff,<-Q];exact MF
  .rcases SY.mp (B.mem_iff.mp hp) with z|z
   .rcases G p z with y|y
    .exact b.own p (by rw[D];exact S7 _ (pm.mem_iff.mp y))
    .exact .inr (b.fr.fresh y)
   .exact b.own p (by rw[D];exact SJ _ z)
  .obtain⟨u1,h1,h2⟩:=b.fr.st q u h;obtain⟨l,h3,h4⟩:=x.fr.st q u1 h1;refine⟨l,h3,λf nw=>?_⟩;rw[h4 (λy=>?_) (λw t=>by cases t),h2 f nw];rcases b.own q (by rw[D];exact S7 _ (pm.mem_iff.mp y)) with w|w
   .exact f w
   .rw[w] at h;cases h
  .obtain⟨h1,⟨ob,ws,h2⟩,h3⟩:=b.fr.pk q n;refine⟨?_,⟨ob,ws,h2⟩,h3⟩;obtain⟨l,h4,h5⟩:=x.fr.st q.1 q.2 h1;rw[h4,h5 (λy=>?_) (λw t=>by cases t)];exact E.wH q.1 y ob ws (by rw[h1,h2])
  .have:=x.lt;simp[hl];lia
end
section
variable{c:Cn}{Y:St}{H:Hp}{Z:List Sl}{τ:St}{θ:List Sl}
theorem Bd.rP{X' O:List Sl}{r:Rr}{s:Sl}{v:V}(kp:fj c.σ0 Y X')(t:VR Y r v)(b:Bd c Y H Z (some v::τ) (DZ s::θ))(h:rP X' r s Z=some O):Bd c Y H O τ θ:=by
 cases r with
 |fr a=>cases h;exact b.pop
 |nw o=>cases h;exact b.pop
 |rf i=>
  delta M.rP at h
  dsimp only at h
  cases I:X'[i]? with
  |none=>rw[I] at h;cases h
  |some u=>
   rw[I] at h;cases u with
   |un=>cases h
   |fr a=>cases h;exact b.pop
   |cf a=>cases h
   |lv e=>
    cases s with
    |pv o=>
     cases D:Z[i]? with
     |none=>rw[D] at h;cases h
     |some s1=>
      rw[D] at h;cases s1 with
      |un=>cases h;exact Bd.putBack b t D (.inl rfl)
      |_=>exact cu h
    |_=>exact cu h
   |pv e=>
    cases s with
    |pv o=>
     cases D:Z[i]? with
     |none=>rw[D] at h;cases h
     |some s1=>
      rw[D] at h;cases s1 with
      |un=>cases h;exact Bd.putBack b t D (.inr ⟨rfl,kp i _ I rfl⟩)
      |_=>exact cu h
    |_=>exact cu h
theorem Bd.putL{X':List Sl}(kp:fj c.σ0 Y X'):∀{rs:List Rr}{vs:List V}{ss:List Sl}{Z O:List Sl}{τ:St}{θ:List Sl},kN Y rs vs->Bd c Y H Z (vs.reverse.map some++τ) ((ss.map DZ).reverse++θ)->M.putL X' rs ss Z=some O->Bd c Y H O τ θ
 |[],[],[],_,_,_,_,_,b,h=>by cases h;exact b
 |r::rs,v::vs,s::ss,Z,O,τ,θ,hv,b,h=>by
  unfold M.putL at h;cases e:M.putL X' rs ss Z with
  |none=>rw[e] at h;cases h
  |some U=>
   rw[e] at h;have b1:Bd c Y H Z (vs.reverse.map some++(some v::τ)) ((ss.map DZ).reverse++(DZ s::θ)):=by simpa[SW] using b
   exact Bd.rP kp hv.1 (Bd.putL kp hv.2 b1 e) h
 |[],_::_,_,_,_,_,_,h,_,_=>h.elim
 |_::_,[],_,_,_,_,_,h,_,_=>h.elim
 |[],[],_::_,_,_,_,_,_,_,h=>by cases h
 |_::_,_::_,[],_,_,_,_,_,_,h=>by cases h
theorem bY:∀(n:Nat)(Z:List Sl),(bf n Z).length=n
 |0,_=>rfl
 |n+1,[]=>by show (Sl.un::bf n []).length=_;rw[S5,bY n []]
 |n+1,s::Z=>by cases s<;>(show (_::bf n Z).length=_;rw[S5,bY n Z])
theorem kN.app:∀{rs I:List Rr}{vs us:List V},kN Y rs vs->kN Y I us->kN Y (rs++I) (vs++us)
 |[],_,[],_,_,h=>h
 |_::rs,_,_::vs,_,h1,h2=>⟨h1.1,kN.app h1.2 h2⟩
 |[],_,_::_,_,h,_=>h.elim
 |_::_,_,[],_,h,_=>h.elim
theorem kN.lp:∀{H:List A}{dvs:List V},H.length=dvs.length->kN Y (H.map Rr.fr) dvs
 |[],[],_=>trivial
 |_::H,_::dvs,h=>⟨trivial,kN.lp (by simpa using h)⟩
 |[],_::_,h=>by simp at h
 |_::_,[],h=>by simp at h
theorem mQ:∀{rs:List Rr}{vs:List V}(I:List Rr)(us:List V)(τ:St),rs.length=vs.length->cg (rs++I) (vs++us) τ=cg I us (cg rs vs τ)
 |[],[],_,_,_,_=>rfl
 |r::rs,v::vs,I,us,τ,h=>mQ I us (bM r v τ) (by simpa using h)
 |[],_::_,_,_,_,h=>by simp at h
 |_::_,[],_,_,_,h=>by simp at h
theorem jN:∀(rs I:List Rr)(θ:List Sl),cq (rs++I) θ=cq I (cq rs θ)
 |[],_,_=>rfl
 |r::rs,I,θ=>jN rs I (bL r θ)
theorem Bd.u6:∀{q:List A}{dvs:List V}{τ:St}{θ:List Sl},(∀G,br c.toKx G dvs q)->Bd c Y H Z τ θ->Bd c Y H Z (cg (q.map Rr.fr) dvs τ) (cq (q.map Rr.fr) θ)
 |[],[],_,_,_,b=>b
 |a::q,v::dvs,_,_,h,b=>Bd.u6 (dvs:=dvs) (λG=>by cases h G;assumption) (Bd.push b λG=>by cases h G;assumption)
 |[],_::_,_,_,h,_=>by cases h (λ_=>none)
 |_::_,[],_,_,h,_=>by cases h (λ_=>none)
end
noncomputable def iI:Sl->Option Rr
 | .fr a=>some (.fr a)
 | .lv o=>some (.nw o)
 |_=>none
def xG(f:Ms)(H:List A)(ma:Mi (List Rr)):Mi Rr:=aT ma λrs Z=>match dM (rs++H.map Rr.fr) Z with
 |some (as,U)=>match f (as.map t5) with
  |some (.rt s,T)=>match iI s,putL Z (rs++H.map Rr.fr) (bf as.length T) U with
   |some r,some O=>some (.ok r,O)
   |_,_=>none
  |some (.ex x,T)=>match putL Z (rs++H.map Rr.fr) (bf as.length T) U with
   |some O=>some (.error x,O)
   |none=>none
  |_=>none
 |none=>none
variable{dvs:List V}{t':TS}{mt:Mi Bool}
section
variable{X:Cx}{E:XK}
theorem yM{m:Ms}{n:Nat}{q:List A}(hd:∀G,br (kx X) G dvs q){Y:St}{rs:List Rr}{τ:St}{o:Except Str Rr}(J:c.toKx=kx X)(hn:(vs++dvs).length=n)
  (t:kN Y rs vs)(b:Bd c Y H Z (cg rs vs τ) (cq rs θ)) (em:(match dM (rs++q.map Rr.fr) Z with
 |some (as,U)=>match m (as.map t5) with
  |some (.rt s,T)=>match iI s,putL Z (rs++q.map Rr.fr) (bf as.length T) U with
   |some r,some O=>some (.ok r,O)
   |_,_=>none
  |some (.ex x,T)=>match putL Z (rs++q.map Rr.fr) (bf as.length T) U with
   |some O=>some (.error x,O)
   |none=>none
  |_=>none
 | none=>none)=some (o,O)) (g:∀r,o=.ok r->∀v H',VR Y r v->Bd c Y H' O (bM r v τ) (bL r θ)->Q v H') (V:∀x,o=.error x->∀C H',X.mg x=some (.ref C)->Bd c Y H' O τ θ->E (.ref C) none H'):D4 (kx X) n m (vs++dvs) H Q E:=by
 refine⟨hn,?_⟩;cases D:dM (rs++q.map Rr.fr) Z with
 |none=>rw[D] at em;cases em
 |some p=>
  obtain⟨as,U⟩:=p;rw[D] at em;have ld:=(hd λ_=>none).len.symm;have h:=t.app (kN.lp ld);have b2:Bd c Y H Z (cg (rs++q.map Rr.fr) (vs++dvs) τ) (cq (rs++q.map Rr.fr) θ):=by rw[mQ _ _ _ t.len,jN];exact Bd.u6 (by rw[J];exact hd) b
  obtain⟨j,N⟩:=Bd.dM h b2 D;obtain⟨I,K,R,u,k,P⟩:=Bd.enter N j;have kp:fj c.σ0 Y Z:=by obtain⟨L,b⟩:=b;exact b.kp
  cases B:m (as.map t5) with
  |none=>simp only[B] at em;cases em
  |some p=>
   obtain⟨f,T⟩:=p;simp only[B] at em;refine⟨I,_,f,T,K.trans J,R,u,k,B,?_⟩;cases f with
   |nx=>cases em
   |bk=>cases em
   |ct=>cases em
   |rt s=>
    cases y:iI s with
    |none=>simp only[y] at em;cases em
    |some r=>
     cases e:putL Z (rs++q.map Rr.fr) (bf as.length T) U with
     |none=>simp only[y,e] at em;cases em
     |some Z'=>
      simp only[y,e] at em;cases em;intro v H' hs F;have w:=P H' _ _ _ (λs' i o z=>by rw[SU.mp i] at z;exact hs o z) (bY _ _) F;rw[N] at w;have S:=Bd.putL kp h w e;cases s with
      |fr a=>cases y;exact g _ rfl v H' trivial S
      |lv o=>cases y;exact g _ rfl v H' trivial S
      |_=>exact cu y
   |ex x=>
    cases e:putL Z (rs++q.map Rr.fr) (bf as.length T) U with
    |none=>simp only[e] at em;cases em
    |some Z'=>simp only[e] at em;cases em;intro C H' d F;have w:=P H' _ _ _ (λs' i=>by cases i) (bY _ _) F;rw[N] at w;exact V x rfl C H' d (Bd.putL kp h w e)
theorem Gx{CX:tL}{k n:Nat}{f:Addr}{fd:zaB}{ps:List Str}{m:Ms}{das:List A}{ds:List Value}{x:Str}{p:Pos}{ma:Mi (List Rr)}(F:fE X.prog X.w X.K X.mg X.base CX k f fd ps (D4 (kx X) n m))(hr:eJ k X.A)(hg:Gl X x)
  (hm:X.mg x=some (.ref f))(hk:UA X.K (.ref f)=true)(hb:Binds X.K fd ps ds)(hd:Vals dvs ds)(hda:∀G,br (kx X) G dvs das)(hx:Passes CX X E)(ha:JA X E (e::es) ma)(hn:∀Z rs O,ma Z=some (.ok rs,O)->rs.length+das.length=n)(hdb:gA x)
  (he:zai (e::es) X.env=(false,eval e X.env)::zai es X.env:=by rfl)(hpl:(zaG pos (zai es X.env)).any (·.1)=false:=by rfl):JE X E (.Call (.Name x p) (e::es) [] pos) (xG m das ma):=
 ⟨PE.weaken (wW F hr hg hm hk hb hd hx ha.p hdb he hpl) λY H Q h=>by
  obtain⟨c,Z,τ,θ,o,O,ek,b,em,q⟩:=h;rcases bind_some em with ⟨rs,U,e1,e2⟩|⟨e,e1,e2⟩
  .refine⟨c,Z,τ,θ,_,U,ek,b,e1,λvs H1 hv b1=>?_⟩;refine yM hda ek ?_ hv b1 e2 (λr hr v H' hv b=>by subst hr;exact q v H' hv b) (λx hx=>by subst hx;exact q);rw[S3,<-hv.len,<-hn Z rs U e1,(hda λ_=>none).len]
  .subst e2;exact⟨c,Z,τ,θ,_,O,ek,b,e1,λC H1 hm b1=>q C H1 hm b1⟩⟩
theorem ur:∀Z rs O,dW Z=some (.ok rs,O)->rs.length=0:=λZ rs O h=>by cases h;rfl
theorem qy{m:Mi Rr}{ma:Mi (List Rr)}{n:Nat}(h:∀Z rs O,ma Z=some (.ok rs,O)->rs.length=n):∀Z rs O,cM m ma Z=some (.ok rs,O)->rs.length=n+1:=λZ rs O e=>by
 rcases bind_some e with ⟨r,U,D,l⟩|⟨_,_,l⟩
 .rcases bind_some l with ⟨b,Z',N,v⟩|⟨_,_,v⟩
  .cases v;rw[S5,h _ _ _ N]
  .cases v
 .cases l
theorem BP{ma:Mi (List Rr)}{n d N:Nat}(h:∀Z rs O,ma Z=some (.ok rs,O)->rs.length=n)(e:n+d=N):∀Z rs O,ma Z=some (.ok rs,O)->rs.length+d=N:=λZ rs O q=>by rw[h Z rs O q];exact e
def yH(K:Kx)(E:XK)(c:Cn)(Z:List Sl)(τ:St)(θ:List A)(D:Ends):Fl->Prop
 | .nx=>∀Y H,Bd c Y H Z τ (θ.map Sl.fr)->D.nx Y H
 | .rt s=>∀v Y H,(∀o,s≠.pv o)->Bd c Y H Z (some v::τ) (s::θ.map Sl.fr)->D.rt v H
 | .bk=>∀Y H,Bd c Y H Z τ (θ.map Sl.fr)->D.bk Y H
 | .ct=>∀Y H,Bd c Y H Z τ (θ.map Sl.fr)->D.ct Y H
 | .ex x=>∀C Y H,K.mg x=some (.ref C)->Bd c Y H Z τ (θ.map Sl.fr)->E (.ref C) none H
inductive Q8(K:Kx)(E:XK)(m:Ms)(D:Ends)(Y:St)(H:Hp):Prop
 |mk(c:Cn)(Z:List Sl)(τ:St)(θ:List A)(f:Fl)(O:List Sl)(h1:c.toKx=K)(h2:Bd c Y H Z τ (θ.map Sl.fr))(h3:m Z=some (f,O))(h4:yH K E c O τ θ D f)
structure JS(X:Cx)(E:XK)(s:Stmt)(m:Ms):Prop where
 p:PS X s (Q8 (kx X) E m)
structure om(X:Cx)(E:XK)(s:List Stmt)(m:Ms):Prop where
 p:nU X s (Q8 (kx X) E m)
theorem PS.weaken{e:Stmt}{t:TS}(h:PS X e t)(f:∀D Y H,t' D Y H->t D Y H):PS X e t':=λpins s Y H D I q=>h pins s Y H D I (f D Y H q)
theorem nU.weaken{e:List Stmt}{t:TS}(h:nU X e t)(f:∀D Y H,t' D Y H->t D Y H):nU X e t':=λpins s Y H D I q=>h pins s Y H D I (f D Y H q)
noncomputable def bw:Ms:=λZ=>some (.nx,Z)
noncomputable def av(m n:Ms):Ms:=λZ=>match m Z with
 |some (.nx,U)=>n U
 |r=>r
theorem Fe:om X E [] bw:=⟨nU.weaken Gf λD Y H h=>by obtain⟨c,Z,τ,θ,f,O,A,b,em,q⟩:=h;cases em;exact q Y H b⟩
theorem F0{s:Stmt}{m:Ms}(h:JS X E s m):om X E [s] m:=⟨Gw h.p⟩
theorem Be{s:Stmt}{r:List Stmt}{m n:Ms}(h:JS X E s m)(h':om X E r n):om X E (s::r) (av m n):=⟨nU.weaken (Aq h.p h'.p) λD Y H h=>by
 obtain⟨c,Z,τ,θ,f,O,A,b,em,q⟩:=h
 delta av at em
 cases e:m Z with
 |none=>rw[e] at em;cases em
 |some p=>
  obtain⟨F,U⟩:=p;rw[e] at em;refine⟨c,Z,τ,θ,F,U,A,b,e,?_⟩;cases F with
  |nx=>exact λY' H' L=>⟨c,U,τ,θ,f,O,A,L,em,q⟩
  |rt s=>cases em;exact q
  |bk=>cases em;exact q
  |ct=>cases em;exact q
  | ex x=>cases em;exact q⟩
noncomputable def cF{α:Type}(m:Mi α)(f:α->Ms):Ms:=λZ=>match m Z with
 |some (.ok x,U)=>f x U
 |some (.error e,U)=>some (.ex e,U)
 |none=>none
theorem cI{m:Mi α}{f:α->Ms}{o:Fl}(h:cF m f Z=some (o,O)):(∃x U,m Z=some (.ok x,U)/\f x U=some (o,O))\/∃e,m Z=some (.error e,O)/\o=.ex e:=by
 delta cF at h
 cases e:m Z with
 |none=>rw[e] at h;cases h
 |some p=>
  obtain⟨r,U⟩:=p;cases r with
  |ok x=>rw[e] at h;exact .inl ⟨x,U,rfl,h⟩
  |error x=>rw[e] at h;cases h;exact .inr ⟨x,rfl,rfl⟩
theorem eZ{Y:St}{τ:St}{θ:List A}{m:Mi Rr}{f:Rr->Ms}{o:Fl}{D:Ends}(J:c.toKx=kx X)(b:Bd c Y H Z τ (θ.map Sl.fr))(em:cF m f Z=some (o,O))(q:yH (kx X) E c O τ θ D o)
  (h1:∀x v U R,VR Y x v->Bd c Y R U (bM x v τ) (bL x (θ.map Sl.fr))->f x U=some (o,O)->Q v R):lA (kx X) E m Y H Q:=by
 rcases cI em with ⟨x,U,r,l⟩|⟨e,r,l⟩
 .exact⟨c,Z,τ,_,_,U,J,b,r,λv R t b1=>h1 x v U R t b1 l⟩
 .subst l;exact⟨c,Z,τ,_,_,O,J,b,r,λC R T b1=>q C Y R T b1⟩
theorem Fc{Y:St}{τ:St}{θ:List A}{m:Mi Bool}{f:Bool->Ms}{o:Fl}{Q:Bool->Hp->Prop}{D:Ends}(J:c.toKx=kx X)(b:Bd c Y H Z τ (θ.map Sl.fr))(em:cF m f Z=some (o,O))(q:yH (kx X) E c O τ θ D o)
  (h1:∀k U R,Bd c Y R U τ (θ.map Sl.fr)->f k U=some (o,O)->Q k R):zI (kx X) E m Y H Q:=by
 rcases cI em with ⟨x,U,r,l⟩|⟨e,r,l⟩
 .exact⟨c,Z,τ,_,_,U,J,b,r,λR b1=>h1 x U R b1 l⟩
 .subst l;exact⟨c,Z,τ,_,_,O,J,b,r,λC R T b1=>q C Y R T b1⟩
def fm(m:Mi Rr):Ms:=cF m λ_ Z=>some (.nx,Z)
theorem F2{m:Mi Rr}(h:JE X E e m)(hs:zaJ e none pos.line X.env=pure false:=by rfl):JS X E (.Expr e pos) (fm m):=⟨PS.weaken (GD h.p hs) λD Y H h=>by obtain⟨c,Z,τ,θ,f,O,ek,b,em,q⟩:=h;refine eZ ek b em q λx v U H1 hv b1 em1=>?_;cases em1;exact q Y H1 b1.drop⟩
def iA(t:Mi Bool)(m n:Ms):Ms:=cF t λb=>if b then m else n
theorem Ob{t:Expr}{a b:List Stmt}{m n:Ms}(ht:JT X E t mt)(d:om X E a m)(hb:om X E b n):JS X E (.If t a b pos) (iA mt m n):=⟨PS.weaken (NQ ht.p d.p hb.p) λD Y H h=>by
 obtain⟨c,Z,τ,θ,f,O,A,b,em,q⟩:=h;refine Fc A b em q λk U R b1 s=>?_;cases k with
 |true=>rw[zcu rfl];exact⟨c,U,τ,θ,f,O,A,b1,s,q⟩
 | false=>rw[zcv W1];exact⟨c,U,τ,θ,f,O,A,b1,s,q⟩⟩
noncomputable def L7:Rr->List Sl->Option (Sl×List Sl)
 | .fr a,Z=>some (.fr a,Z)
 | .nw o,Z=>some (.lv o,Z)
 | .rf i,Z=>match Z[i]? with
  |some (.lv o)=>some (.lv o,Z.set i .un)
  |_=>none
def bc(m:Mi Rr):Ms:=cF m λr Z=>match L7 r Z with
 |some (s,O)=>some (.rt s,O)
 |none=>none
theorem Mr{m:Mi Rr}(h:JE X E e m):JS X E (.Return (some e) pos) (bc m):=⟨PS.weaken (LZ h.p) λD Y H h=>by
 obtain⟨c,Z,τ,θ,f,O,A,b,em,q⟩:=h;refine eZ A b em q λx v U R t b1 L=>?_;cases x with
 |fr a=>cases L;exact q v Y R (λo z=>by cases z) b1
 |nw o=>cases L;exact q v Y R (λo z=>by cases z) b1
 |rf i=>
  delta L7 at L
  cases es:U[i]? with
  |none=>simp only[es] at L;cases L
  |some s=>
   cases s with
   |lv o=>simp only[es] at L;cases L;exact q v Y R (λo z=>by cases z) (Bd.AY (xs:=[]) (ss:=[]) rfl b1 t es (.inl rfl))
   | _=>simp only[es] at L;cases L⟩
noncomputable def Hf:Ms:=λZ=>some (.rt (.fr .non),Z)
theorem E8:JS X E (.Return none pos) Hf:=⟨PS.weaken FL λD Y H h=>by obtain⟨c,Z,τ,θ,f,O,A,b,em,q⟩:=h;cases em;exact q .non Y H (λo z=>by cases z) (b.push λ_=>.non)⟩
def zP:Rr->List Sl->Option (Sl×List Sl)
 | .fr a,Z=>some (.fr a,Z)
 | .nw o,Z=>some (.lv o,Z)
 | .rf i,Z=>match bp (.rf i) Z with
  |some (a,O)=>some (.fr a,O)
  |none=>none
noncomputable def put(i:Nat)(s:Sl)(Z:List Sl):Option (List Sl):=match Z[i]? with
 |some (.pv _)=>none
 |some _=>some (Z.set i s)
 |none=>none
theorem Bd.put{c:Cn}{Y:St}{H:Hp}{Z O:List Sl}{τ:St}{θ:List Sl}{i:Nat}{v:V}{t:Sl}(b:Bd c Y H Z (some v::τ) (t::θ))(ht:cst t=false)(h:put i t Z=some O):Bd c (Y.set i (some v)) H O τ θ:=by
 delta M.put at h
 cases es:Z[i]? with
 |none=>rw[es] at h;cases h
 |some s=>
  cases s with
  |pv o=>rw[es] at h;cases h
  |un=>rw[es] at h;cases h;exact b.store es (λo z=>by cases z) ht
  |fr a=>rw[es] at h;cases h;exact b.store es (λo z=>by cases z) ht
  |lv o=>rw[es] at h;cases h;exact b.store es (λo z=>by cases z) ht
  |cf o=>rw[es] at h;cases h;exact b.store es (λo z=>by cases z) ht
theorem Bd.zP{c:Cn}{Y:St}{H:Hp}{Z O:List Sl}{τ:St}{θ:List Sl}{r:Rr}{v:V}{t:Sl}(U:VR Y r v)(b:Bd c Y H Z (bM r v τ) (bL r θ))(h:zP r Z=some (t,O)):Bd c Y H O (some v::τ) (t::θ)/\cst t=false:=by
 cases r with
 |fr a=>cases h;exact⟨b,rfl⟩
 |nw o=>cases h;exact⟨b,rfl⟩
 |rf i=>
  delta M.zP at h
  cases e:M.bp (.rf i) Z with
  |none=>simp only[e] at h;cases h
  |some p=>simp only[e] at h;cases h;exact⟨Bd.bp (xs:=[]) (ss:=[]) rfl b U e,rfl⟩
def aD(i:Nat)(m:Mi Rr):Ms:=cF m λr Z=>match zP r Z with
 |some (t,U)=>match put i t U with
  |some Z'=>some (.nx,Z')
  |none=>none
 |none=>none
theorem uo{x:Str}{m:Mi Rr}{pos':Pos}(hN:X.N.Nodup)(hi:X.N[i]?=some x)(hx:Loc X.env.scope x)(he:JE X E e m)(hs:zaJ e (some (.Name x pos')) pos.line X.env=pure false:=by rfl)
  (hf:X.fn x=true\/X.env.scope.names.lookup x=some .local:=by first|exact .inl rfl|exact .inr rfl|assumption):JS X E (.Assign [.Name x pos'] e pos) (aD i m):=⟨PS.weaken (Kf hN hi hx he.p hs hf) λD Y H h=>by
 obtain⟨c,Z,τ,θ,f,O,ek,b,em,q⟩:=h;refine eZ ek b em q λr v U H1 hv b1 em1=>?_;cases e1:zP r U with
 |none=>rw[e1] at em1;cases em1
 |some p=>
  obtain⟨t,Z'⟩:=p;rw[e1] at em1;obtain⟨b2,ht⟩:=Bd.zP hv b1 e1;cases e2:put i t Z' with
  |none=>simp only[e2] at em1;cases em1
  | some V'=>simp only[e2] at em1;cases em1;exact q _ H1 (Bd.put b2 ht e2)⟩
noncomputable def bH(loc:Nat)(m:Ms):Ms:=λZ=>match m (Z++Th loc .un) with
 |some (.nx,O)=>some (.rt (.fr .non),O)
 |some (.rt s,O)=>some (.rt s,O)
 |some (.ex x,O)=>some (.ex x,O)
 |_=>none
theorem lU{k:Kx}{G H:Hp}:∀n,aA k G H (Th n none) (Th n Sl.un) []
 |0=>.nil
 |n+1=>aA.cons (.un _) (lU n)
theorem dz.start{c:Cn}{vs:List V}{H:Hp}{Z:List Sl}(N:List Str)(b:dz c (vs.map some) H Z [] [] c.Lp)(e:c.σ0=vs.map some):Bd c (start N vs) H (Z++Th (N.length-vs.length) .un) [] []:=by
 have hl:vs.length=Z.length:=by have:=b.rel.len;simpa using this
 refine⟨c.Lp,b.nd,?_,b.own,b.fr,λi o h w=>?_,rfl,b.hd⟩
 .have:=b.rel.app (lU (N.length-vs.length));simpa[L2.start] using this
 .have hi:i<Z.length:=by
   by_cases z:i<Z.length
   .exact z
   .rw[Ur (by exact U8.mp ‹_›)] at h;have:=SS h;have:=Xo this;subst this;cases w
  delta L2.start
  rw[Uv (by simp;lia),e]
end
variable{r':R2}{K:Kx}
section
variable{X:Cx}{E:XK}
theorem eG.or'{f:Value->Value->Sem Value}(h:eG X f r)(h':eG X f r'):eG X f (λx y H Q=>r x y H Q\/r' x y H Q):=by
 intro pins s Y H x y v u Q I o K q;rcases q with q|q
 .exact h pins s Y H x y v u Q I o K q
 .exact h' pins s Y H x y v u Q I o K q
theorem bX.or'{f:Value}{r r':List V->Hp->VK->Prop}(h:bX X f r)(h':bX X f r'):bX X f (λxs H Q=>r xs H Q\/r' xs H Q):=by
 intro pins s Y H xs us Q I o q;rcases q with q|q
 .exact h pins s Y H xs us Q I o q
 .exact h' pins s Y H xs us Q I o q
noncomputable def bP(f g:A->A->Option Rr):A->A->Option Rr:=λa b=>match f a b with
 |some r=>some r
 |none=>g a b
theorem gh.or{f g:A->A->Option Rr}(h:gh K r f)(h':gh K r' g):gh K (λx y H Q=>r x y H Q\/r' x y H Q) (bP f g):=by
 intro c Y H Z τ θ x y v w a b q Q J t G i D l N k
 delta bP at N
 cases e:f a b with
 |some z=>rw[e] at N;cases N;exact .inl (h c Y H Z τ θ x y v w a b _ Q J t G i D l e k)
 |none=>rw[e] at N;exact .inr (h' c Y H Z τ θ x y v w a b _ Q J t G i D l N k)
theorem Ka{f g:A->A->Option Rr}{Y:St}(h:lA (kx X) E (ay (bP f g) ma mb) Y H Q):lA (kx X) E (ay f ma mb) Y H Q\/lA (kx X) E (ay g ma mb) Y H Q:=by
 obtain⟨c,Z,τ,θ,o,O,J,b,em,q⟩:=h;have key:ay f ma mb Z=some (o,O)\/ay g ma mb Z=some (o,O):=by
  unfold ay aT at em ⊢;cases D:ma Z with
  |none=>simp only[D] at em;cases em
  |some p=>
   obtain⟨x,U⟩:=p;cases x with
   |error e=>simp only[D] at em ⊢;exact .inl em
   |ok x=>
    simp only[D] at em ⊢;cases l:mb U with
    |none=>simp only[l] at em;cases em
    |some p=>
     obtain⟨y,Z'⟩:=p;cases y with
     |error e=>simp only[l] at em ⊢;exact .inl em
     |ok y=>
      simp only[l] at em ⊢;cases N:res Z' x with
      |none=>simp only[N] at em;cases em
      |some a=>
       cases v:res Z' y with
       |none=>simp only[N,v] at em;cases em
       |some d=>
        simp only[N,v] at em ⊢;unfold bP at em;cases r:f a d with
        |some z=>simp only[r] at em ⊢;exact .inl em
        |none=>simp only[r] at em;exact .inr em
 exact key.imp (λk=>⟨c,Z,τ,θ,o,O,J,b,k,q⟩) (λk=>⟨c,Z,τ,θ,o,O,J,b,k,q⟩)
theorem hY{f g:A->A->Option Rr}(h:JE X E e (ay f ma mb))(h':JE X E e (ay g ma mb)):JE X E e (ay (bP f g) ma mb):=
 ⟨λpins s Y H Q I q=>(Ka q).elim (λq=>h.p pins s Y H Q I q) (λq=>h'.p pins s Y H Q I q)⟩
theorem By{f g:A->A->Option Rr}{Y:St}{Q:Bool->Hp->Prop}(h:zI (kx X) E (aq (ay (bP f g) ma mb)) Y H Q):zI (kx X) E (aq (ay f ma mb)) Y H Q\/zI (kx X) E (aq (ay g ma mb)) Y H Q:=by
 obtain⟨c,Z,τ,θ,o,O,J,b,em,q⟩:=h;have key:aq (ay f ma mb) Z=some (o,O)\/aq (ay g ma mb) Z=some (o,O):=by
  delta aq ay aT at em ⊢
  cases D:ma Z with
  |none=>rw[D] at em;cases em
  |some p=>
   obtain⟨x,U⟩:=p;cases x with
   |error e=>simp only[D] at em ⊢;exact .inl em
   |ok x=>
    simp only[D] at em ⊢;cases l:mb U with
    |none=>rw[l] at em;cases em
    |some p=>
     obtain⟨y,Z'⟩:=p;cases y with
     |error e=>simp only[l] at em ⊢;exact .inl em
     |ok y=>
      simp only[l] at em ⊢;cases N:res Z' x with
      |none=>rw[N] at em;cases em
      |some a=>
       cases v:res Z' y with
       |none=>rw[N,v] at em;cases em
       |some d=>
        simp only[N,v] at em ⊢
        delta bP at em
        cases r:f a d with
        |some z=>simp only[r] at em ⊢;exact .inl em
        |none=>rw[r] at em;exact .inr em
 exact key.imp (λk=>⟨c,Z,τ,θ,o,O,J,b,k,q⟩) (λk=>⟨c,Z,τ,θ,o,O,J,b,k,q⟩)
theorem jR{f g:A->A->Option Rr}(h:JT X E e (aq (ay f ma mb)))(h':JT X E e (aq (ay g ma mb))):JT X E e (aq (ay (bP f g) ma mb)):=
 ⟨λpins s Y H Q I q=>(By q).elim (λq=>h.p pins s Y H Q I q) (λq=>h'.p pins s Y H Q I q)⟩
theorem gh.scalar{f:A->A->Option Rr}(h:∀H v w a b q,RA K H v a->RA K H w b->f a b=some q->∃u d,q=.fr d/\(∀G,RA K G u d)/\∀Q:VK,Q u H->r v w H Q):gh K r f:=by intro c Y H Z τ θ x y v w a b q Q J t z i D l N k;have p:=Bd.rd i z l;have g:=Bd.rd i.drop t D;rw[J] at g p;obtain⟨u,d,rfl,C,n⟩:=h H v w a b q g p N;exact n Q (k u H trivial (Bd.push i.drop.drop (by rw[J];exact C)))
noncomputable def fits(n:Nat)(i:Int):Bool:=decide (i.natAbs<2^n)
theorem qp{n:Nat}{i:Int}(h:fits n i=true):L2.Bd n i:=show i.natAbs<2^n from zcA h
theorem fk{n m:Nat}{i:Int}(h:L2.Bd m i)(k:m<=n):fits n i=true:=zcx (h.mono k)
noncomputable def nN(f:Int->Int->Option Rr):A->A->Option Rr
 | .int i,.int j=>f i j
 |_,_=>none
theorem cE{f:Int->Int->Option Rr}{a b:A}{q:Rr}(h:nN f a b=some q):∃i j,a=.int i/\b=.int j/\f i j=some q:=by
 cases a with
 |int=>cases b with
  |int=>exact⟨_,_,rfl,rfl,h⟩
  |_=>exact cu h
 |_=>exact cu h
noncomputable def MA(f:Str->Str->Option Rr):A->A->Option Rr
 | .str i,.str j=>f i j
 |_,_=>none
theorem C7{f:Str->Str->Option Rr}{a b:A}{q:Rr}(h:MA f a b=some q):∃i j,a=.str i/\b=.str j/\f i j=some q:=by
 cases a with
 |str=>cases b with
  |str=>exact⟨_,_,rfl,rfl,h⟩
  |_=>exact cu h
 |_=>exact cu h
def BQ:A->A->Option Rr:=nN λi j=>some (.fr (.int (i+j)))
def iM:A->A->Option Rr:=nN λi j=>some (.fr (.int (i-j)))
def xm:A->A->Option Rr:=nN λi j=>if fits 20000 i&&fits 20000 j then some (.fr (.int (i*j))) else none
def jA:A->A->Option Rr:=nN λi j=>if j != 0&&fits 9000 j then some (.fr (.int (i.fdiv j))) else none
def iX:A->A->Option Rr:=nN λi j=>if j != 0 then some (.fr (.int (i.fmod j))) else none
def il:A->A->Option Rr:=nN λi j=>if 0<=j/\j<=1000000/\i.natAbs<2^64 then some (.fr (.int (i^j.toNat))) else none
def ou:A->A->Option Rr:=nN λi j=>some (.fr (.bl (decide (i<j))))
def MO:A->A->Option Rr:=nN λi j=>some (.fr (.bl (decide (j<=i))))
theorem Eo:gh K (D3 λi j=>.int (i+j)) BQ:=.scalar λH v w a b q g p h=>by
 replace h:=cE h
 obtain⟨i,j,rfl,rfl,h⟩:=h
 cases g;cases p;cases h
 exact⟨_,_,rfl,λ_=>.int _,λQ k=>⟨_,_,rfl,rfl,k⟩⟩
theorem Mx:gh K (D3 λi j=>.int (i-j)) iM:=.scalar λH v w a b q g p h=>by
 replace h:=cE h
 obtain⟨i,j,rfl,rfl,h⟩:=h
 cases g;cases p;cases h
 exact⟨_,_,rfl,λ_=>.int _,λQ k=>⟨_,_,rfl,rfl,k⟩⟩
theorem GA:gh K (rI zcs λi j=>.int (i*j)) xm:=.scalar λH v w a b q g p h=>by
 replace h:=cE h
 obtain⟨i,j,rfl,rfl,h⟩:=h
 cases g;cases p
 split at h
 .rename_i hc
  rw[SA] at hc
  cases h
  exact⟨_,_,rfl,λ_=>.int _,λQ k=>⟨_,_,rfl,rfl,(qp hc.1).Na (qp hc.2) W1,k⟩⟩
 .cases h
theorem Jr:gh K (rI Rw λi j=>.int (i.fdiv j)) jA:=.scalar λH v w a b q g p h=>by
 replace h:=cE h
 obtain⟨i,j,rfl,rfl,h⟩:=h
 cases g;cases p
 split at h
 .rename_i hc
  rw[SA] at hc
  cases h
  exact⟨_,_,rfl,λ_=>.int _,λQ k=>⟨_,_,rfl,rfl,⟨by simpa using hc.1,qp hc.2⟩,k⟩⟩
 .cases h
theorem Mj:gh K (rI (λ_ j=>j≠0) λi j=>.int (i.fmod j)) iX:=.scalar λH v w a b q g p h=>by
 replace h:=cE h
 obtain⟨i,j,rfl,rfl,h⟩:=h
 cases g;cases p
 split at h
 .rename_i hc
  cases h
  exact⟨_,_,rfl,λ_=>.int _,λQ k=>⟨_,_,rfl,rfl,by simpa using hc,k⟩⟩
 .cases h
theorem JH:gh K (rI Ol λi j=>.int (i^j.toNat)) il:=.scalar λH v w a b q g p h=>by
 replace h:=cE h
 obtain⟨i,j,rfl,rfl,h⟩:=h
 cases g;cases p
 split at h
 .rename_i hc
  cases h
  exact⟨_,_,rfl,λ_=>.int _,λQ k=>⟨_,_,rfl,rfl,hc,k⟩⟩
 .cases h
theorem Ha:gh K (D3 λi j=>.bl (decide (i<j))) ou:=.scalar λH v w a b q g p h=>by
 replace h:=cE h
 obtain⟨i,j,rfl,rfl,h⟩:=h
 cases g;cases p;cases h
 exact⟨_,_,rfl,λ_=>.bl _,λQ k=>⟨_,_,rfl,rfl,k⟩⟩
theorem G9:gh K (D3 λi j=>.bl (decide (j<=i))) MO:=.scalar λH v w a b q g p h=>by
 replace h:=cE h
 obtain⟨i,j,rfl,rfl,h⟩:=h
 cases g;cases p;cases h
 exact⟨_,_,rfl,λ_=>.bl _,λQ k=>⟨_,_,rfl,rfl,k⟩⟩
mutual
noncomputable def toD:A->Option D
 | .non=>some .non
 | .bl b=>some (.bl b)
 | .int i=>some (.int i)
 | .str x=>some (.str x)
 | .tup xs=>match fV xs with
  |some ds=>some (.tup ds)
  |none=>none
 | .lst xs=>match fV xs with
  |some ds=>some (.lst ds)
  |none=>none
 | .dic _=>none
 | .exc _=>none
 | .obj _ _=>none
 | .dit _=>none
 | .opq=>none
noncomputable def fV:List A->Option (List D)
 |[]=>some []
 |a::as=>match toD a,fV as with
  |some d,some ds=>some (d::ds)
  |_,_=>none
end
mutual
theorem dY{K:Kx}{H:Hp}:∀{v:V}{a:A}{d:D},RA K H v a->toD a=some d->Den K.K H v d
 |_,_,_,.non,h=>by rw[toD] at h;cases h;exact .non
 |_,_,_,.bl b,h=>by rw[toD] at h;cases h;exact .bl _
 |_,_,_,.int i,h=>by rw[toD] at h;cases h;exact .int _
 |_,_,_,.str x,h=>by rw[toD] at h;cases h;exact .str _
 |_,_,_,.tup (as:=as) e r,h=>by
  rw[toD] at h;cases q:fV as with
  |none=>simp only[q] at h;cases h
  |some ds=>simp only[q] at h;cases h;exact .tup e (lE r q)
 |_,_,_,.lst (as:=as) e r,h=>by
  rw[toD] at h;cases q:fV as with
  |none=>simp only[q] at h;cases h
  |some ds=>simp only[q] at h;cases h;exact .lst e (lE r q)
 |_,_,_,.dic e r,h=>by rw[toD] at h;cases h
 |_,_,_,.exc e m,h=>by rw[toD] at h;cases h
 |_,_,_,.obj e m r,h=>by rw[toD] at h;cases h
 |_,_,_,.dit e r,h=>by rw[toD] at h;cases h
 |_,_,_,.opq,h=>by rw[toD] at h;cases h
theorem lE{K:Kx}{H:Hp}:∀{vs:List V}{as:List A}{ds:List D},br K H vs as->fV as=some ds->eV K.K H vs ds
 |_,_,_,.nil,h=>by rw[fV] at h;cases h;exact .nil
 |_,_,_,.cons (a:=a) (as:=as) q r,h=>by
  rw[fV] at h;cases c:toD a with
  |none=>simp only[c] at h;cases h
  |some d=>
   cases l:fV as with
   |none=>simp only[c,l] at h;cases h
   |some ds=>simp only[c,l] at h;cases h;exact .cons (dY q c) (lE r l)
end
def jL(a b:A):Option Bool:=match toD a,toD b with
 |some d,some e=>if D.depth d<=40 then some (D.eq d e) else none
 |_,_=>none
def fI(a b:A):Option Rr:=match jL a b with
 |some k=>some (.fr (.bl k))
 |none=>none
def fM(a b:A):Option Rr:=match jL a b with
 |some k=>some (.fr (.bl (!k)))
 |none=>none
theorem gN{a b:A}{k:Bool}(h:jL a b=some k):∃d e,toD a=some d/\toD b=some e/\D.depth d<=40/\k=D.eq d e:=by
 delta jL at h
 cases c:toD a with
 |none=>rw[c] at h;cases h
 |some d=>
  cases l:toD b with
  |none=>rw[c,l] at h;cases h
  |some e=>
   simp only[c,l] at h;split at h
   .rename_i hd;cases h;exact⟨d,e,rfl,rfl,hd,rfl⟩
   .cases h
theorem os_eq:gh K (Pl K.K) fI:=.scalar λH v w a b q g p h=>by
 delta fI at h
 cases e:jL a b with
 |none=>rw[e] at h;cases h
 |some k=>rw[e] at h;cases h;obtain⟨d,d',h1,h2,h3,rfl⟩:=gN e;exact⟨_,_,rfl,λ_=>.bl _,λQ k=>⟨d,d',dY g h1,dY p h2,h3,k⟩⟩
theorem wt:gh K (NU K.K) fM:=.scalar λH v w a b q g p h=>by
 delta fM at h
 cases e:jL a b with
 |none=>rw[e] at h;cases h
 |some k=>rw[e] at h;cases h;obtain⟨d,d',h1,h2,h3,rfl⟩:=gN e;exact⟨_,_,rfl,λ_=>.bl _,λQ k=>⟨d,d',dY g h1,dY p h2,h3,k⟩⟩
def CF:A->A->Option Rr:=MA λx y=>if x.length+y.length<=100000 then some (.fr (.str (x++y))) else none
theorem mF:100000<=sizeLine:=by rw[zav];decide
theorem Em:gh K (λx y H Q=>∃i j,x=.str i/\y=.str j/\i.length+j.length<=sizeLine/\Q (.str (i++j)) H) CF:=.scalar λH v w a b q g p h=>by
 replace h:=C7 h
 obtain⟨i,j,rfl,rfl,h⟩:=h
 cases g;cases p
 split at h
 .rename_i hc
  cases h
  exact⟨_,_,rfl,λ_=>.str _,λQ k=>⟨_,_,rfl,rfl,Tn hc mF,k⟩⟩
 .cases h
noncomputable def HU:R2:=λx y H Q=>∃z n,x=.str z/\y=.int n/\MulOk z n/\Q (.str (Txt.mul z n)) H
theorem D6:eG X (za3 .Mult) HU:=by intro pins s Y H x y v u Q I o K h;obtain⟨z,n,rfl,rfl,hok,q⟩:=h;obtain⟨t,rfl⟩:=o;obtain⟨t',rfl⟩:=K;exact SB.mul hok λb k=>⟨.str _,H,I.tok _,⟨b,rfl⟩,q⟩
noncomputable def Cp:A->A->Option Rr
 | .str z,.int n=>if 1<=n/\n<=1000/\z.length<=1000 then some (.fr (.str (Txt.mul z n))) else none
 |_,_=>none
theorem Gu:gh K HU Cp:=.scalar λH v w a b q g p h=>by
 cases a<;>first|exact cu h|(cases b<;>first|exact cu h|skip)
 cases g;cases p;rename_i z n
 delta Cp at h
 simp only at h;split at h
 .rename_i hc;cases h;refine⟨_,_,rfl,λ_=>.str _,λQ k=>⟨_,_,rfl,rfl,⟨?_,λ_ _ Y=>?_,λ_ _=>?_⟩,k⟩⟩
  .rw[Bool.or_eq_false_iff];exact⟨zcw XV,zcw XV⟩
  .have h1:n*(z.length:Int)<=1000*1000:=Int.mul_le_mul hc.2.1 XV XV W1;have h2:(z.length:Int)<=(2^63-1) / n:=by rw[Int.le_ediv_iff_mul_le XV];rw[WC];exact PJ
   lia
  .delta V5
   refine zcw ?_;have h1:z.length*n.toNat<=1000*1000:=Wn hc.2.2 XV;have:=zav;lia
 .cases h
end
variable{w:V}{id:String}
section
variable{X:Cx}{E:XK}
def ub:A->A->Option Rr
 | .lst xs,.int i=>match gz xs i with
  |some a=>some (.fr a)
  |none=>none
 | .tup xs,.int i=>match gz xs i with
  |some a=>some (.fr a)
  |none=>none
 | .str z,.int i=>if z.length<=100000 then match gz z.cps.toList i with
  |some c=>some (.fr (.str ⟨#[c]⟩))
  |none=>none else none
 |_,_=>none
theorem br.gz{k:Kx}{G:Hp}{vs:List V}{as:List A}{i:Int}{a:A}(r:br k G vs as)(h:gz as i=some a):∃v,gz vs i=some v/\RA k G v a:=by
 delta L2.gz at h ⊢
 rw[r.len]
 cases e:tU as.length i with
 |none=>rw[e] at h;cases h
 |some j=>rw[e] at h;obtain⟨v,h1,h2⟩:=r.ta h;exact⟨v,h1,h2⟩
theorem Nm:gh K (RD K.K) ub:=by
 intro c Y H Z τ θ x y v w a b q Q A t G h D l N k;subst A;have O:=Bd.rd h G l;obtain⟨L,bl,U,B⟩:=Bd.Ap h t G D l;have g:=Bd.rd h.drop t D;cases a<;>first|exact cu N|(cases b<;>first|exact cu N|skip)
 .rename_i z i;cases g;cases O
  delta ub at N
  simp only at N;split at N
  .rename_i hz;cases e:gz z.cps.toList i with
   |none=>rw[e] at N;cases N
   |some ch=>rw[e] at N;cases N;exact .inr (.inr ⟨z,i,ch,rfl,rfl,Tn hz mF,e,k _ H trivial (Bd.push ⟨L,bl⟩ λ_=>.str _)⟩)
  .cases N
 .rename_i xs i;cases O
  delta ub at N
  cases e:gz xs i with
  |none=>simp only[e] at N;cases N
  |some d=>simp only[e] at N;cases N;obtain⟨p,vs,rfl,s1,r⟩:=U.2.1 xs rfl;obtain⟨u,h1,h2⟩:=r.gz e;exact .inr (.inl ⟨p,vs,i,u,rfl,rfl,dk (g_same _ _ _) s1,h1,k u H trivial (bl.push h2)⟩)
 .rename_i xs i;cases O
  delta ub at N
  cases e:gz xs i with
  |none=>simp only[e] at N;cases N
  |some d=>simp only[e] at N;cases N;obtain⟨p,vs,rfl,s1,r⟩:=U.1 xs rfl;obtain⟨u,h1,h2⟩:=r.gz e;exact .inl ⟨p,vs,i,u,rfl,rfl,s1,h1,k u H trivial (bl.push h2)⟩
theorem Mf{a b:Expr}(d:JE X E a ma)(hb:JE X E b mb)(hs:k9 b):JE X E (.Subscript a b pos) (ay ub ma mb):=
 ⟨PE.weaken (Pf Iz d.p hb.p hs) (eB Nm)⟩
noncomputable def j6:A->Option Key
 | .int i=>some (.inl i)
 | .str x=>some (.inr x)
 |_=>none
theorem pR{b:A}{y:Key}(r:RA K H w b)(h:j6 b=some y):w=kV y:=by cases r<;>first|(cases h;rfl)|exact cu h
def gH:A->A->Option Rr
 | .dic kvs,b=>match j6 b with
  |some y=>match l9 kvs y with
   |some a=>some (.fr a)
   |none=>none
  |none=>none
 |_,_=>none
theorem GU:gh K (λx y H Q=>∃a v,x=.ref a/\vD H a y (some v)/\Q v H) gH:=by
 intro c Y H Z τ θ x y v w a b q Q A U t i D l N k;have h:=Bd.rd i t l;obtain⟨L,bl,z,B⟩:=Bd.Ap i U t D l;cases a<;>first|exact cu N|skip
 rename_i kvs
 delta gH at N
 cases O:j6 b with
 |none=>simp only[O] at N;cases N
 |some e=>
  simp only[O] at N;obtain⟨p,vs,rfl,s1,r⟩:=z.2.2 kvs rfl;rcases r.get e with ⟨u,a,h1,h2,h3⟩|⟨h1,h2⟩
  .rw[h2] at N;cases N;exact⟨p,u,rfl,.inl ⟨vs,e,s1,pR h O,h1.symm⟩,k u H trivial (bl.push h3)⟩
  .rw[h2] at N;cases N
theorem En{a b:Expr}(f:X.A.units+1<cLine)(d:JE X E a ma)(hb:JE X E b mb)(hs:uX b):JE X E (.Subscript a b pos) (ay gH ma mb):=
 ⟨PE.weaken (FE f d.p hb.p hs) (eB GU)⟩
theorem M9{a b:Expr}(f:X.A.units+1<cLine)(d:JE X E a ma)(hb:JE X E b mb)(hs:k9 b)(i:uX b):JE X E (.Subscript a b pos) (ay (bP ub gH) ma mb):=hY (Mf d hb hs) (En f d hb i)
noncomputable def wu:A->Bool
 | .non=>true
 | .bl _=>true
 | .int _=>true
 | .str _=>true
 |_=>false
noncomputable def yz:A->V
 | .non=>.non
 | .bl b=>.bl b
 | .int i=>.int i
 | .str x=>.str x
 |_=>.non
theorem Df{b:A}(r:RA K H w b)(h:wu b=true):w=yz b/\gF w=true:=by cases r<;>first|exact⟨rfl,rfl⟩|exact kU h
theorem wF{K:Kx}{H:Hp}:∀{vs:List V}{as:List A},br K H vs as->as.all wu=true->vs=as.map yz/\vs.all gF=true
 |_,_,.nil,_=>⟨rfl,rfl⟩
 |_,_,.cons h r,e=>by rw[T5,SA] at e;obtain⟨h1,h2⟩:=Df h e.1;obtain⟨h3,h4⟩:=wF r e.2;exact⟨by rw[h1,h3];rfl,by rw[T5,h2,h4];rfl⟩
def P2(neg:Bool)(x:A)(xs:List A):Option Rr:=if wu x&&xs.all wu then some (.fr (.bl (if neg then !PU (yz x) (xs.map yz) else PU (yz x) (xs.map yz)))) else none
def nZ(neg:Bool):A->A->Option Rr
 |x,.lst xs=>P2 neg x xs
 |x,.tup xs=>P2 neg x xs
 |_,_=>none
theorem Cb{neg:Bool}:gh K (Qu K.K neg) (nZ neg):=.scalar λH v w a b q g O h=>by
 have key:∀(xs:List A)(vs:List V)(p:Addr),br K H vs xs->(eI K.K H p vs\/eU K.K H p vs)->P2 neg a xs=some q->∃u d,q=.fr d/\(∀G,RA K G u d)/\∀Q:VK,Q u H->Qu K.K neg v (.ref p) H Q:=by
  intro xs vs p Y sq h
  delta P2 at h
  split at h
  .rename_i hc;rw[SA] at hc;cases h;obtain⟨rfl,h2⟩:=Df g hc.1;obtain⟨rfl,h4⟩:=wF Y hc.2;exact⟨_,_,rfl,λ_=>.bl _,λQ k=>⟨p,_,rfl,sq,h2,h4,k⟩⟩
  .cases h
 cases b<;>first|exact cu h|skip
 .cases O with|tup e r=>exact key _ _ _ r (.inr e) h
 .cases O with|lst e r=>exact key _ _ _ r (.inl e) h
def jr(neg:Bool):A->A->Option Rr
 |x,.dic kvs=>match j6 x with
  |some y=>some (.fr (.bl (if neg then !(l9 kvs y).isSome else (l9 kvs y).isSome)))
  |none=>none
 |_,_=>none
theorem wO:gh K (λy x H Q=>∃a o,x=.ref a/\vD H a y o/\Q (.bl (!o.isSome)) H) (jr true):=.scalar λH v w a b q g p h=>by
 cases b<;>first|exact cu h|skip
 cases p with
 |dic e r=>
  delta jr at h
  cases O:j6 a with
  |none=>simp only[O] at h;cases h
  |some y=>
   simp only[O] at h;cases h;refine⟨_,_,rfl,λ_=>.bl _,λQ k=>⟨_,_,rfl,.inl ⟨_,y,e,pR g O,rfl⟩,?_⟩⟩;rcases r.get y with ⟨u,a,h1,h2,h3⟩|⟨h1,h2⟩
   .rw[h1];rw[h2] at k;exact k
   .rw[h1];rw[h2] at k;exact k
theorem EK{a b:Expr}(f:X.A.units+1<cLine)(d:JE X E a ma)(hb:JE X E b mb)(T:zat .NotIn b=false):JE X E (.Compare a [.NotIn] [b] pos) (ay (jr true) ma mb):=
 ⟨PE.weaken (Jt (pe f d.p hb.p) T) (eB wO)⟩
theorem GF{a b:Expr}(f:X.A.units+1<cLine)(d:JE X E a ma)(hb:JE X E b mb)(T:zat .NotIn b=false):JT X E (.Compare a [.NotIn] [b] pos) (aq (ay (jr true) ma mb)):=
 ⟨PT.weaken (IH (pe f d.p hb.p) T) λY H Q h=>eB wO Y H _ (hE Y H Q h)⟩
theorem LL{a b:Expr}(f:X.A.units+1<cLine)(d:JE X E a ma)(hb:JE X E b mb)(T:zat .NotIn b=false):JE X E (.Compare a [.NotIn] [b] pos) (ay (bP (nZ true) (jr true)) ma mb):=hY (fC jm Cb d hb T) (EK f d hb T)
theorem Ji{a b:Expr}(f:X.A.units+1<cLine)(d:JE X E a ma)(hb:JE X E b mb)(T:zat .NotIn b=false):JT X E (.Compare a [.NotIn] [b] pos) (aq (ay (bP (nZ true) (jr true)) ma mb)):=jR (fw jm Cb d hb T) (GF f d hb T)
noncomputable def uk:A->Bool
 | .non=>true
 |_=>false
def Kn(neg:Bool):A->A->Option Rr
 |a,.non=>some (.fr (.bl (if neg then !uk a else uk a)))
 |_,_=>none
theorem F3{a:A}(r:RA K H v a):decide (v=.non)=uk a:=by cases r<;>rfl
theorem Ib:gh K (λx y H Q=>y=.non/\Q (.bl (decide (x=.non))) H) (Kn false):=.scalar λH v w a b q g p h=>by
 cases b<;>first|exact cu h|skip
 cases p;cases h;exact⟨_,_,rfl,λ_=>.bl _,λQ k=>⟨rfl,by rw[F3 g];exact k⟩⟩
def Hz(f:A->Option Rr)(m:Mi Rr):Mi Rr:=aT m λx Z=>match res Z x with
 |some a=>match f a with
  |some r=>some (.ok r,Z)
  |none=>none
 |none=>none
def nA(K:Kx)(r:V->Hp->VK->Prop)(f:A->Option Rr):Prop:=∀(c:Cn)(Y:St)(H:Hp)(Z:List Sl)(τ:St)(θ:List Sl)(x:Rr)(v:V)(a:A)(q:Rr)(Q:VK),c.toKx=K->VR Y x v->
 Bd c Y H Z (bM x v τ) (bL x θ)->res Z x=some a->f a=some q->(∀u H',VR Y q u->Bd c Y H' Z (bM q u τ) (bL q θ)->Q u H')->r v H Q
theorem qx{f:A->Option Rr}{x:Rr}{o:Except Str Rr}(h:(match res Z x with|some a=>(match f a with|some r=>some ((.ok r:Except Str Rr),Z)|none=>none)|none=>none)=some (o,O)):∃a r,res Z x=some a/\f a=some r/\o=.ok r/\O=Z:=by
 cases D:res Z x with
 |none=>rw[D] at h;cases h
 |some a=>
  rw[D] at h;cases N:f a with
  |none=>simp only[N] at h;cases h
  |some r=>simp only[N] at h;cases h;exact⟨a,r,rfl,N,rfl,rfl⟩
theorem jx{r:V->Hp->VK->Prop}{f:A->Option Rr}{m:Mi Rr}(hf:nA (kx X) r f)(Y:St)(H:Hp)(Q:VK)(h:lA (kx X) E (Hz f m) Y H Q):lA (kx X) E m Y H λv H'=>r v H' Q:=by obtain⟨c,Z,τ,θ,o,O,J,b,em,q⟩:=h;refine bB J b em (λx v U R t b1 s=>?_) (bF q);obtain⟨a,r,D,N,rfl,rfl⟩:=qx s;exact hf c Y R _ τ θ x v a r Q J t b1 D N q
theorem nA.scalar{r:V->Hp->VK->Prop}{f:A->Option Rr}(h:∀H v a q,RA K H v a->f a=some q->∃u d,q=.fr d/\(∀G,RA K G u d)/\∀Q:VK,Q u H->r v H Q):nA K r f:=by intro c Y H Z τ θ x v a q Q J t i D N k;have g:=Bd.rd i t D;rw[J] at g;obtain⟨u,d,rfl,C,n⟩:=h H v a q g N;exact n Q (k u H trivial (Bd.push i.drop (by rw[J];exact C)))
noncomputable def CA:A->Option Rr
 | .int i=>some (.fr (.int (-i)))
 |_=>none
theorem Ko{a:Expr}{m:Mi Rr}(h:JE X E a m):JE X E (.UnaryOp .USub a pos) (Hz CA m):=⟨PE.weaken (O7 LF h.p) (jx (.scalar λH v a q g h=>by
 cases a<;>first|exact cu h|skip
 cases g;cases h;exact⟨_,_,rfl,λ_=>.int _,λQ k=>⟨_,rfl,k⟩⟩))⟩
def dw(f:A->Option Rr)(m:Mi Rr):Mi Rr:=Hz f m
def Ed(f:A->A->Option Rr)(m n:Mi Rr):Mi Rr:=ay f m n
theorem v8{r:List V->Hp->VK->Prop}{f:A->Option Rr}{x:Str}{p:Pos}{m:Mi Rr}(hc:bX X (.builtin id) r)(hf:nA (kx X) (λv=>r [v]) f)(hg:Gl X x)(hm:X.mg x=none)(hv:zal x=some (.builtin id))(ha:JE X E e m)(hn:x ≠ "__name__")
  (hdb:gA x)(hs:zai [e] X.env=(false,eval e X.env)::zai [] X.env:=by rfl)(hp:(zaG pos (zai [] X.env)).any (·.1)=false:=by rfl):JE X E (.Call (.Name x p) [e] [] pos) (dw f m):=
 ⟨PE.weaken (gG hc hg hm hv (bE ha.p cN hs) hn hdb hs hp) λY H Q h=>jx hf Y H Q h⟩
theorem wR{T:String}{r:List V->Hp->VK->Prop}{f:A->Option Rr}{x:Str}{p:Pos}{m:Mi Rr}(hc:bX X (.type T) r)(hf:nA (kx X) (λv=>r [v]) f)(hg:Gl X x)(hm:X.mg x=none)(hv:zal x=some (.type T))(ha:JE X E e m)(hn:x ≠ "__name__")
  (hdb:gA x)(hs:zai [e] X.env=(false,eval e X.env)::zai [] X.env:=by rfl)(hp:(zaG pos (zai [] X.env)).any (·.1)=false:=by rfl):JE X E (.Call (.Name x p) [e] [] pos) (dw f m):=
 ⟨PE.weaken (yA hc hg hm hv (bE ha.p cN hs) hn hdb hs hp) λY H Q h=>jx hf Y H Q h⟩
theorem Hj{r:List V->Hp->VK->Prop}{f:A->A->Option Rr}{x:Str}{p:Pos}{e1 e2:Expr}{m n:Mi Rr}(hc:bX X (.builtin id) r)(hf:gh (kx X) (λv w=>r [v,w]) f)(hg:Gl X x)(hm:X.mg x=none)(hv:zal x=some (.builtin id))(h1:JE X E e1 m)(h2:JE X E e2 n)(hn:x ≠ "__name__")
  (hdb:gA x)(hs:zai [e1,e2] X.env=(false,eval e1 X.env)::zai [e2] X.env:=by rfl)(hs2:zai [e2] X.env=(false,eval e2 X.env)::zai [] X.env:=by rfl)(hp:(zaG pos (zai [e2] X.env)).any (·.1)=false:=by rfl):JE X E (.Call (.Name x p) [e1,e2] [] pos) (Ed f m n):=
 ⟨PE.weaken (gG hc hg hm hv (bE h1.p (bE h2.p cN hs2) hs) hn hdb hs hp) λY H Q h=>eB hf Y H Q h⟩
noncomputable def eX:A->Option Rr
 | .str z=>if z.length<=100000 then some (.fr (.int z.length)) else none
 | .lst xs=>some (.fr (.int xs.length))
 | .tup xs=>some (.fr (.int xs.length))
 |_=>none
theorem J2:nA K (λv H Q=>∃x n,[v]=[x]/\Oe K.K x H n/\Q (.int n) H) eX:=.scalar λH v a q g h=>by
 cases a<;>first|exact cu h|skip
 .cases g
  delta eX at h
  simp only at h;split at h
  .rename_i hz;cases h;exact⟨_,_,rfl,λ_=>.int _,λQ k=>⟨_,_,rfl,⟨Tn hz mF,rfl⟩,k⟩⟩
  .cases h
 .cases g with
  |tup e r=>cases h;exact⟨_,_,rfl,λ_=>.int _,λQ k=>⟨_,_,rfl,.inr ⟨_,e,rfl⟩,by rw[r.len];exact k⟩⟩
 .cases g with
  |lst e r=>cases h;exact⟨_,_,rfl,λ_=>.int _,λQ k=>⟨_,_,rfl,.inl ⟨_,e,rfl⟩,by rw[r.len];exact k⟩⟩
noncomputable def sD:A->Option Rr
 | .int i=>some (.fr (.int (if i<0 then -i else i)))
 |_=>none
theorem Iq:nA K (λv H Q=>∃i,[v]=[V.int i]/\Q (.int (if i<0 then -i else i)) H) sD:=.scalar λH v a q g h=>by
 cases a<;>first|exact cu h|skip
 cases g;cases h;exact⟨_,_,rfl,λ_=>.int _,λQ k=>⟨_,rfl,k⟩⟩
def Ea:A->A->Option Rr:=nN λi j=>some (.fr (.int (if j > i then j else i)))
def Ey:A->A->Option Rr:=nN λi j=>some (.fr (.int (if j<i then j else i)))
theorem LX:gh K (λv w H Q=>∃i j,[v,w]=[V.int i,V.int j]/\Q (.int (if j > i then j else i)) H) Ea:=.scalar λH v w a b q g p h=>by
 replace h:=cE h
 obtain⟨i,j,rfl,rfl,h⟩:=h
 cases g;cases p;cases h
 exact⟨_,_,rfl,λ_=>.int _,λQ k=>⟨_,_,rfl,k⟩⟩
theorem Ik:gh K (λv w H Q=>∃i j,[v,w]=[V.int i,V.int j]/\Q (.int (if j<i then j else i)) H) Ey:=.scalar λH v w a b q g p h=>by
 replace h:=cE h
 obtain⟨i,j,rfl,rfl,h⟩:=h
 cases g;cases p;cases h
 exact⟨_,_,rfl,λ_=>.int _,λQ k=>⟨_,_,rfl,k⟩⟩
noncomputable def yI:A->Option Rr
 | .int i=>some (.fr (.int i))
 | .bl k=>some (.fr (.int (if k then 1 else 0)))
 |_=>none
theorem Jc:nA K (λv H Q=>(∃i,[v]=[V.int i]/\Q (.int i) H)\/∃k,[v]=[V.bl k]/\Q (.int (if k then 1 else 0)) H) yI:=.scalar λH v a q g h=>by
 cases a<;>first|exact cu h|skip
 .cases g;cases h;exact⟨_,_,rfl,λ_=>.int _,λQ k=>.inr ⟨_,rfl,k⟩⟩
 .cases g;cases h;exact⟨_,_,rfl,λ_=>.int _,λQ k=>.inl ⟨_,rfl,k⟩⟩
noncomputable def K8:A->Option (List A)
 | .lst xs=>some xs
 | .tup xs=>some xs
 |_=>none
def xY(a:A):Option Rr:=match K8 a with
 |some xs=>some (.nw (.lst xs))
 |none=>none
def jZ(a:A):Option Rr:=match K8 a with
 |some xs=>some (.fr (.tup xs))
 |none=>none
theorem EI:nA K (λv H Q=>∃p ys,[v]=[V.ref p]/\(eI K.K H p ys\/eU K.K H p ys)/\∀l,H l=none->Q (.ref l) (upd H l (.lst ys))) xY:=by
 intro c Y H Z τ θ x v a q Q A t i D N k;subst A;obtain⟨L,bl,z⟩:=Bd.open i t D;cases a<;>first|exact cu N|skip
 .rename_i xs;cases N;obtain⟨p,vs,rfl,s1,r⟩:=z.2.1 xs rfl;exact⟨p,vs,rfl,.inr (dk (g_same _ _ _) s1),λl hl=>k _ _ trivial (bl.gO hl λG H' sm q=>.lst q (r.sm sm))⟩
 .rename_i xs;cases N;obtain⟨p,vs,rfl,s1,r⟩:=z.1 xs rfl;exact⟨p,vs,rfl,.inl s1,λl hl=>k _ _ trivial (bl.gO hl λG H' sm q=>.lst q (r.sm sm))⟩
theorem A4:nA K (λv H Q=>∃p ys,[v]=[V.ref p]/\((eI K.K H p ys/\∀l,H l=none->Q (.ref l) (upd H l (.tup ys)))\/(eU K.K H p ys/\Q (.ref p) H))) jZ:=by
 intro c Y H Z τ θ x v a q Q A t i D N k;subst A;obtain⟨L,bl,z⟩:=Bd.open i t D;cases a<;>first|exact cu N|skip
 .rename_i xs;cases N;obtain⟨p,vs,rfl,s1,r⟩:=z.2.1 xs rfl;exact⟨p,vs,rfl,.inr ⟨dk (g_same _ _ _) s1,k _ _ trivial (bl.push (.tup s1 r))⟩⟩
 .rename_i xs;cases N;obtain⟨p,vs,rfl,s1,r⟩:=z.1 xs rfl;refine⟨p,vs,rfl,.inl ⟨s1,λl hl=>?_⟩⟩;obtain⟨b2,sm,np⟩:=bl.new hl;exact k _ _ trivial (b2.push (.tup (.inl (.inl (by rw[bJ np (bl.P6 hl)];exact bg))) (r.sm sm)))
end
section
variable{c:Cn}{Y:St}{H:Hp}{Z:List Sl}{τ:St}{θ:List Sl}
theorem Bd.vP{x:Option V}{xs:St}(e:xs.length=ss.length)(b:Bd c Y H Z (x::(xs++τ)) (s::(ss++θ))):Bd c Y H Z (x::τ) (s::θ):=by
 obtain⟨L,b⟩:=b;have r:aA c.toKx (c.g H L) H (x::(xs++(τ++Y))) (s::(ss++(θ++Z))) L:=by have:=b.rel;simpa[SW] using this
 cases r with
 |cons h r=>rename_i q L';obtain⟨u,L2,D,Q,k⟩:=aA.split e r;subst D;have sl:(q++L2).Sublist (q++(u++L2)):=U1 (UI _) (VQ _ _);have sm:Sq (c.g H (q++(u++L2))) (c.g H (q++L2)):=dg λa d=>sl.subset d;exact⟨q++L2,b.nd.sublist sl,aA.cons (h.sm sm (λ_ _ _ e=>e)) (k.sm sm (λ_ _ _ e=>e)),λp hp=>b.own p (sl.subset hp),b.fr,b.kp,by have:=b.lt;simp at this ⊢;lia,b.hd⟩
theorem Bd.Q2{ys:St}(b:Bd c (Y++ys) H Z τ θ):Bd c Y H (Z.take Y.length) τ θ:=by
 have hl:=b.iG;rw[S3] at hl;obtain⟨L,b⟩:=b;have r:aA c.toKx (c.g H L) H ((τ++Y)++ys) ((θ++Z.take Y.length)++Z.drop Y.length) L:=by have:=b.rel;rw[SW,SW,Ue];exact this
 obtain⟨u,L2,D,Q,k⟩:=aA.split (by simp[b.lt];lia) r;subst D;have sm:Sq (c.g H (u++L2)) (c.g H u):=dg λa d=>S7 _ d;refine⟨u,(Td.mp b.nd).1,Q.sm sm (λ_ _ _ e=>e),λp hp=>b.own p (S7 _ hp),b.fr,λi o h w=>?_,b.lt,b.hd⟩;have hi:i<(Z.take Y.length).length:=(SF.mp h).1;rw[UH] at hi;have h':Z[i]?=some o:=by rw[List.getElem?_take] at h;split at h;exact h;cases h
 have:=b.kp i o h' w;rwa[Uv XV] at this
theorem Bd.Al{n:Nat}(b:Bd c Y H Z τ θ):Bd c (Y++Th n none) H (Z++Th n .un) τ θ:=by
 have hl:=b.iG;obtain⟨L,b⟩:=b;refine⟨L,b.nd,?_,b.own,b.fr,λi o h w=>?_,b.lt,b.hd⟩
 .have:=b.rel.app (lU (k:=c.toKx) (G:=c.g H L) (H:=H) n);simpa[SW] using this
 .by_cases z:i<Z.length
  .rw[Uv z] at h;rw[Uv XV];exact b.kp i o h w
  .rw[Ur (by exact U8.mp ‹_›)] at h;have:=Xo (SS h);subst this;cases w
end
noncomputable abbrev Mg:=A->List Sl->Option (List Sl)
noncomputable abbrev D2:=List A->List Sl->Option (List Sl)
inductive MI(K:Kx)(lo:Nat)(G:Mg)(v:V)(Y:St)(H:Hp)(Q:St->Hp->Prop):Prop
 |mk(c:Cn)(Z:List Sl)(τ:St)(θ:List Sl)(a:A)(O:List Sl)(h1:c.toKx=K)(h2:Bd c Y H Z (some v::τ) (.fr a::θ))(h3:G a Z=some O)(h4:∀Y' H',Y'.take lo=Y.take lo->Y'.length=Y.length->Bd c Y' H' O τ θ->Q Y' H')
inductive Rb(K:Kx)(lo:Nat)(G:D2)(vs:List V)(Y:St)(H:Hp)(Q:St->Hp->Prop):Prop
 |mk(c:Cn)(Z:List Sl)(τ:St)(θ:List Sl)(as:List A)(O:List Sl)(h1:c.toKx=K)(h2:vs.length=as.length)(h3:Bd c Y H Z (vs.map some++τ) (as.map Sl.fr++θ))(h4:G as Z=some O)(h5:∀Y' H',Y'.take lo=Y.take lo->Y'.length=Y.length->Bd c Y' H' O τ θ->Q Y' H')
structure JG(X:Cx)(lo:Nat)(tg:Expr)(G:Mg):Prop where
 p:PG X tg (MI (kx X) lo G)
structure Ng(X:Cx)(lo:Nat)(tg:List Expr)(G:D2):Prop where
 p:JY X tg (Rb (kx X) lo G)
def aF(i:Nat):Mg:=λa Z=>put i (.fr a) Z
noncomputable def d5:D2:=λas Z=>match as with
 |[]=>some Z
 |_=>none
noncomputable def aH(g:Mg)(gs:D2):D2:=λas Z=>match as with
 |a::as=>match g a Z with
  |some U=>gs as U
  |none=>none
 |[]=>none
noncomputable def dH(n:Nat)(gs:D2):Mg:=λa Z=>match a with
 | .tup as=>if as.length=n then gs as Z else none
 |_=>none
variable{gs:D2}{tg iter:Expr}{body:List Stmt}
section
variable{X:Cx}{E:XK}{lo:Nat}
theorem Fi{x:Str}(hN:X.N.Nodup)(hi:X.N[i]?=some x)(hx:Loc X.env.scope x)(hl:lo<=i)(hf:X.fn x=true\/X.env.scope.names.lookup x=some .local:=by first|exact .inl rfl|exact .inr rfl|assumption):JG X lo (.Name x pos) (aF i):=⟨λpins s Y H v u Q I r h=>by refine F9 hN hi hx hf pins s Y H v u Q I r ?_;obtain⟨c,Z,τ,θ,a,O,ek,b,em,q⟩:=h;exact q _ H (by rw[List.take_set_of_le hl]) T1 (Bd.put b rfl em)⟩
theorem EL:Ng X lo [] d5:=⟨λpins s Y H v u Q I r h=>by
 refine FP pins s Y H v u Q I r ?_;obtain⟨c,Z,τ,θ,as,O,A,hl,b,em,q⟩:=h;cases as with
 |nil=>cases em;cases v with|nil=>exact⟨rfl,q Y H rfl rfl b⟩|cons _ _=>simp at hl
 | cons _ _=>cases em⟩
theorem Aj{g:Mg}(h1:JG X lo e g)(h2:Ng X lo es gs)(hp:∀{t:TG}{u:FW},PG X e t->JY X es u->JY X (e::es) (G6 t u)):Ng X lo (e::es) (aH g gs):=⟨λpins s Y H v u Q I r h=>by
 refine hp h1.p h2.p pins s Y H v u Q I r ?_;obtain⟨c,Z,τ,θ,as,O,A,hl,b,em,q⟩:=h;cases as with
 |nil=>cases em
 |cons a as=>
  cases v with
  |nil=>simp at hl
  |cons v vs=>
   delta aH at em
   simp only at em
   cases D:g a Z with
   |none=>rw[D] at em;cases em
   | some U=>rw[D] at em;refine⟨v,vs,rfl,c,Z,_,_,a,U,A,b,D,λY' H' x y b1=>⟨c,U,τ,θ,as,O,A,by simpa using hl,b1,em,λP V L w b2=>q P V (L.trans x) (w.trans y) b2⟩⟩⟩
theorem LQ{k n:Nat}(hc:X.calm=true)(h:Ng X lo es gs)(hn:(zaE es X.env).length=n:=by rfl)(hst:(zaE es X.env).findIdx? (·.1)=none:=by rfl):JG X lo (.Tuple es k pos) (dH n gs):=⟨λpins s Y H v u Q I r h'=>by
 refine Kv hc h.p hn hst pins s Y H v u Q I r ?_;obtain⟨c,Z,τ,θ,a,O,ek,b,em,q⟩:=h';cases a<;>first|exact cu em|skip
 rename_i as
 delta dH at em
 simp only at em;split at em
 .rename_i hl;obtain⟨L,bl,i1⟩:=Bd.open (r:=.fr (.tup as)) b trivial rfl;obtain⟨p,vs,rfl,s1,rr⟩:=i1.2.1 as rfl;have:c.K=X.K:=by have:=zcy Kx.K ek;exact this
  refine⟨p,vs,rfl,by rw[<-this];exact dk (g_same _ _ _) s1,by rw[rr.len];exact hl,c,Z,τ,θ,as,O,ek,rr.len,?_,em,q⟩;obtain⟨nd,rel,own,fr,kp,lt,hdd⟩:=bl;exact⟨L,nd,by have:=(aA.lp (H:=H) rr).app rel;simpa[SW] using this,own,fr,kp,by simp[lt,rr.len],hdd⟩
 .cases em⟩
def Pz(K:Kx)(J:It)(T:St)(S:List A)(as:List A):Prop:=∀(c:Cn)(Y:St)(H:Hp)(Z:List Sl)(F:St)(D:List Sl)(τ:St)(θ:List Sl)(i:Nat),c.toKx=K->F.length=D.length->Bd c Y H Z (F++(T++τ)) (D++(S.map Sl.fr++θ))->
 (as.length<=i->J.stop i H)/\∀a,as[i]?=some a->J.go i H/\∀x H',J.yld i H x H'->Bd c Y H' Z (some x::(F++(T++τ))) (.fr a::(D++(S.map Sl.fr++θ)))
def Nf(K:Kx)(E:XK)(c:Cn)(Y:St)(Z:List Sl)(τ:St)(θ:List Sl)(R:It->Hp->Prop):Except Str (List A)->Prop
 | .ok as=>∀J H T S,T.length=S.length->Pz K J T S as->Bd c Y H Z (T++τ) (S.map Sl.fr++θ)->R J H
 | .error x=>∀C H,K.mg x=some (.ref C)->Bd c Y H Z τ θ->E (.ref C) none H
inductive Rq(K:Kx)(E:XK)(m:Mi (List A))(Y:St)(H:Hp)(R:It->Hp->Prop):Prop
 |mk(c:Cn)(Z:List Sl)(τ:St)(θ:List Sl)(o:Except Str (List A))(O:List Sl)(h1:c.toKx=K)(h2:Bd c Y H Z τ θ)(h3:m Z=some (o,O))(h4:Nf K E c Y O τ θ R o)
structure JI(X:Cx)(E:XK)(tg iter:Expr)(m:Mi (List A)):Prop where
 p:PI X tg iter (Rq (kx X) E m)
theorem mD{Y:St}{τ:St}{o:Except Str (List A)}{R:It->Hp->Prop}(q:Nf (kx X) E c Y O τ θ R o):∀e,o=.error e->∀C H,X.mg e=some (.ref C)->Bd c Y H O τ θ->E (.ref C) none H:=λe p=>by subst p;exact q
def L8:A->Option (List A)
 |a=>K8 a
def cC(m:Mi Rr):Mi (List A):=aT m λr Z=>match bp r Z with
 |some (a,O)=>match L8 a with
  |some as=>some (.ok as,O)
  |none=>none
 |none=>none
theorem Bd.mid{Y:St}{τ:St}{xs:St}{a:A}(e:xs.length=ss.length)(b:Bd c Y H Z (xs++(some v::τ)) (ss++(.fr a::θ))):∃L,dz c Y H Z (xs++(some v::τ)) (ss++(.fr a::θ)) L/\RA c.toKx (c.g H L) v a:=by
 obtain⟨L,b⟩:=b;have r:aA c.toKx (c.g H L) H (xs++(some v::(τ++Y))) (ss++(.fr a::(θ++Z))) L:=by have:=b.rel;simpa[SW] using this
 obtain⟨u,L2,D,Q,k⟩:=aA.split e r;cases k with
 |cons h w=>cases h with|fr h=>exact⟨L,b,h⟩
theorem KD{l:Expr}{m:Mi Rr}(hl:JE X E l m):JI X E tg l (cC m):=⟨λpins s Y H R I h=>by
 refine Fn hl.p pins s Y H R I ?_;obtain⟨c,Z,τ,θ,o,O,A,b,em,q⟩:=h;refine bB A b em (λx v U f t b1 e=>?_) (mD q);cases r:bp x U with
 |none=>rw[r] at e;cases e
 |some p=>
  obtain⟨a,Z'⟩:=p;rw[r] at e;have b2:=Bd.bp (xs:=[]) (ss:=[]) rfl b1 t r;cases G:L8 a with
  |none=>simp only[G] at e;cases e
  |some as=>
   simp only[G] at e;cases e;have n:c.K=X.K:=zcy Kx.K A;cases a<;>first|exact cu G|skip
   .cases G;have rt:=Bd.top b2 (a:=.tup as) rfl;cases rt with
    |tup S C=>
     rename_i p vs;refine⟨p,rfl,.inr ⟨⟨vs,by rw[<-n];exact S⟩,q _ f [some (.ref p)] [.tup as] rfl (λj Y' H' O F D J T i w B V=>?_) b2⟩⟩;have z:j.K=X.K:=zcy Kx.K w;obtain⟨L,bl,h⟩:=Bd.mid B V;cases h with
     |tup N P=>
      rename_i us;have sq:eU X.K H' p us:=by rw[<-z];exact dk (g_same _ _ _) N
      refine⟨λhi=>⟨us,sq,by rw[P.len];exact hi⟩,λa d=>?_⟩;obtain⟨u,h1,h2⟩:=P.ta d;refine⟨⟨us,u,sq,h1⟩,λx Q y=>?_⟩;obtain⟨rfl,y⟩:=y;have:=y us sq;rw[h1] at this;cases this;exact bl.push h2
   .cases G;have rt:=Bd.top b2 (a:=.lst as) rfl;cases rt with
    |lst S C=>
     rename_i p vs;refine⟨p,rfl,.inl ⟨⟨vs,by rw[<-n];exact S⟩,q _ f [some (.ref p)] [.lst as] rfl (λj Y' H' O F D J T i w B V=>?_) b2⟩⟩;have z:j.K=X.K:=zcy Kx.K w;obtain⟨L,bl,h⟩:=Bd.mid B V;cases h with
     |lst N P=>
      rename_i us;have sq:eI X.K H' p us:=by rw[<-z];exact f9 (g_same _ _ _) N
      refine⟨λhi=>⟨us,sq,by rw[P.len];exact hi⟩,λa d=>?_⟩;obtain⟨u,h1,h2⟩:=P.ta d;refine⟨⟨us,u,sq,h1⟩,λx Q y=>?_⟩;obtain⟨rfl,y⟩:=y;have:=y us sq;rw[h1] at this;cases this;exact bl.push h2⟩
noncomputable def dZ(lo:Int)(n:Nat):List A:=(Tc n).map λi=>.int (lo+(i:Nat))
theorem IM{lo:Int}{n:Nat}:Pz K (P1 lo n) [] [] (dZ lo n):=λc Y H Z F D τ θ i A B b=>by
 have hl:(dZ lo n).length=n:=by simp[dZ]
 refine⟨λh=>by rw[hl] at h;exact h,λa d=>?_⟩;have hi:i<n:=by rw[<-hl];exact(SF.mp d).1
 refine⟨hi,λx H' y=>?_⟩;obtain⟨rfl,rfl⟩:=y;have:a=.int (lo+i):=by unfold dZ at d;rw[SQ,UQ hi] at d;exact(Ta d).symm
 subst this;exact b.push λ_=>.int _
def eR(m:Mi Rr):Mi (List A):=aT m λr Z=>match res Z r with
 |some (.int j)=>if -(2^60)<=j/\j<2^60 then some (.ok (dZ 0 j.toNat),Z) else none
 |_=>none
theorem GR{a:Expr}{m:Mi Rr}{p:Pos}(hg:Gl X "range")(hm:X.mg "range" = none)(ha:JE X E a m)(hs:zai [a] X.env=[(false,eval a X.env)]:=by rfl)(hs':zai [a] X.env=(false,eval a X.env)::zai [] X.env:=by rfl):JI X E tg (.Call (.Name "range" p) [a] [] pos) (eR m):=⟨λpins s Y H R I h=>by
 refine zc hg hm (bE ha.p cN hs') hs pins s Y H R I ?_;obtain⟨c,Z,τ,θ,o,O,ek,b,em,q⟩:=h;refine bB ek b em (λx v U H1 hv b1 em1=>?_) (mD q);cases e1:res U x with
 |none=>rw[e1] at em1;cases em1
 |some a=>
  have r1:=Bd.rd b1 hv e1;rw[e1] at em1;cases a<;>first|exact cu em1|skip
  rename_i j;simp only at em1;split at em1
  .rename_i hj;cases em1;cases r1;exact⟨j,rfl,by lia,by lia,q _ H1 [] [] rfl IM b1.drop⟩
  .cases em1⟩
noncomputable def forL(G:Mg)(b:Ms):List A->Ms
 |[],Z=>some (.nx,Z)
 |a::as,Z=>match G a Z with
  |none=>none
  |some U=>match b U with
   |some (.nx,Z')=>forL G b as Z'
   |some (.ct,Z')=>forL G b as Z'
   |some (.bk,Z')=>some (.nx,Z')
   |r=>r
def cA(m:Mi (List A))(G:Mg)(b:Ms):Ms:=cF m λas Z=>forL G b as Z
theorem Kj{m:Mi (List A)}{G:Mg}{mb:Ms}(hp:zbi (zak X.prog X.w) X.A X.env X.xe)(hc:X.calm=true)(hi:JI X E tg iter m)(hg:JG X 0 tg G)(hb:om X E body mb)
  (hs:∀x,zax iter X.env x=pure x:=by intro _;rfl):JS X E (.For tg iter body [] pos) (cA m G mb):=⟨PS.weaken (u7 hp hc hi.p hg.p hb.p hs) λD Y H h=>by
 obtain⟨c,Z,τ,θ,f,O,ek,b,em,q⟩:=h;rcases cI em with ⟨as,U,e1,e2⟩|⟨e,e1,e2⟩
 .refine⟨c,Z,τ,_,_,U,ek,b,e1,λJ H1 T S li it b1=>?_⟩;refine⟨λi m Y' H'=>m=as.length-i/\i<=as.length/\∃R,Bd c Y' H' R (T++τ) (S.map Sl.fr++θ.map Sl.fr)/\forL G mb (as.drop i) R=some (f,O),⟨_,rfl,Tu _,U,b1,by simpa using e2⟩,?_⟩;rintro i m Y' H' ⟨rfl,hi,R,bi,ei⟩;obtain⟨i1,i2⟩:=it c Y' H' R [] [] τ (θ.map Sl.fr) i ek rfl bi;by_cases hlt:i<as.length
  .have hd:as.drop i=as[i]::as.drop (i+1):=TJ hlt;rw[hd] at ei;obtain⟨go,yl⟩:=i2 as[i] (by simp[hlt]);refine .inr ⟨go,λP H2=>∃Z',Bd c P H2 Z' (T++τ) (S.map Sl.fr++θ.map Sl.fr)/\forL G mb (as.drop (i+1)) Z'=some (f,O),λP H2 ⟨Z',q1,q2⟩=>⟨as.length-(i+1),by lia,rfl,hlt,Z',q1,q2⟩,λx H2 y=>?_⟩;have b2:=yl x H2 y;unfold forL at ei;cases eg:G as[i] R with
   |none=>rw[eg] at ei;cases ei
   |some Z'=>
    rw[eg] at ei;refine⟨c,R,_,_,as[i],Z',ek,b2,eg,λV H3 _ _ b3=>?_⟩;cases eb:mb Z' with
    |none=>simp only[eb] at ei;cases ei
    |some p=>
     obtain⟨f1,V'⟩:=p;simp only[eb] at ei;refine⟨c,Z',T++τ,S++θ,f1,V',ek,by rw[S9];exact b3,eb,?_⟩;cases f1 with
     |nx=>intro Q H4 b4;rw[S9] at b4;exact⟨V',b4,ei⟩
     |ct=>intro Q H4 b4;rw[S9] at b4;exact⟨V',b4,ei⟩
     |bk=>cases ei;intro Q H4 b4;rw[S9] at b4;exact q Q H4 (Bd.vh (by simp[li]) b4)
     |rt s=>cases ei;intro v Q H4 hs b4;rw[S9] at b4;exact q v Q H4 hs (Bd.vP (by simp[li]) b4)
     |ex x=>cases ei;intro C Q H4 hm b4;rw[S9] at b4;exact q C Q H4 hm (Bd.vh (by simp[li]) b4)
  .have e:i=as.length:=by lia
   subst e;rw[Vc] at ei;cases ei;exact .inl ⟨i1 (SO _),q Y' H' (Bd.vh (by simp[li]) bi)⟩
 .subst e2;exact⟨c,Z,τ,_,_,O,ek,b,e1,λC H1 hm b1=>q C Y H1 hm b1⟩⟩
noncomputable def fA(t:Mi Bool)(b:Ms):Nat->Ms
 |0,_=>none
 |n+1,Z=>match t Z with
  |some (.ok true,U)=>match b U with
   |some (.nx,Z')=>fA t b n Z'
   |some (.ct,Z')=>fA t b n Z'
   |some (.bk,Z')=>some (.nx,Z')
   |r=>r
  |some (.ok false,U)=>some (.nx,U)
  |some (.error e,U)=>some (.ex e,U)
  |none=>none
def jY(n:Nat)(t:Mi Bool)(b:Ms):Ms:=fA t b n
theorem Bq{n:Nat}{t:Expr}{mb:Ms}(hp:zbi (zak X.prog X.w) X.A X.env X.xe)(ht:JT X E t mt)(hb:om X E body mb):JS X E (.While t body [] pos) (jY n mt mb):=⟨PS.weaken (Dh hp ht.p hb.p) λD Y H h=>by
 obtain⟨c,Z,τ,θ,f,O,J,b,em,q⟩:=h;refine⟨λm Y' H'=>∃R,Bd c Y' H' R τ (θ.map Sl.fr)/\fA mt mb m R=some (f,O),⟨n,Z,b,em⟩,?_⟩;rintro m Y' H' ⟨R,S,a⟩;cases m with
 |zero=>cases a
 |succ m=>
  unfold fA at a;cases z:mt R with
  |none=>rw[z] at a;cases a
  |some p=>
   obtain⟨o,U⟩:=p;refine⟨c,R,τ,_,o,U,J,S,z,?_⟩;cases o with
   |error e=>rw[z] at a;cases a;exact λC F T b1=>q C Y' F T b1
   |ok k=>
    intro F b1;cases k with
    |false=>rw[z] at a;cases a;rw[zcv W1];exact q Y' F b1
    |true=>
     rw[z] at a;rw[zcu rfl];refine⟨λP V=>∃Z',Bd c P V Z' τ (θ.map Sl.fr)/\fA mt mb m Z'=some (f,O),λP V w=>⟨m,UU _,w⟩,?_⟩;cases l:mb U with
     |none=>simp only[l] at a;cases a
     |some p=>
      obtain⟨G,V'⟩:=p;simp only[l] at a;refine⟨c,U,τ,θ,G,V',J,b1,l,?_⟩;cases G with
      |nx=>exact λQ L y=>⟨V',y,a⟩
      |ct=>exact λQ L y=>⟨V',y,a⟩
      |bk=>cases a;exact λQ L y=>q Q L y
      |rt s=>cases a;exact λv Q L hs y=>q v Q L hs y
      | ex x=>cases a;exact λC Q L T y=>q C Q L T y⟩
end
theorem eE(r:Rr)(v:V)(t:St)(u:List Sl):bM r v t=bM r v []++t/\bL r u=bL r []++u/\(bM r v []).length=(bL r []).length:=by cases r<;>exact⟨rfl,rfl,rfl⟩
theorem vE:100000<sizeLine:=by rw[zav];decide
def cD(G:Mg)(t:Mi Bool)(e:Mi Rr):List A->List A->List Sl->Option (List A×List Sl)
 |[],acc,Z=>some (acc,Z)
 |a::as,acc,Z=>match G a Z with
  |none=>none
  |some U=>match t U with
   |some (.ok true,Z')=>match e Z' with
    |some (.ok r,V')=>match bp r V' with
     |some (d,N)=>cD G t e as (acc++[d]) N
     |none=>none
    |_=>none
   |some (.ok false,Z')=>cD G t e as acc Z'
   |_=>none
inductive OX(G:Mg)(t:Mi Bool)(e:Mi Rr)(a:A)(as acc:List A)(Z:List Sl)(r:List A×List Sl):Prop
 |skip{U Z':List Sl}(g:G a Z=some U)(k:t U=some (.ok false,Z'))(q:cD G t e as acc Z'=some r)
 |take{d:A}{u:Rr}{U Z' V' N:List Sl}(g:G a Z=some U)(k:t U=some (.ok true,Z'))(m:e Z'=some (.ok u,V'))(f:bp u V'=some (d,N))(q:cD G t e as (acc++[d]) N=some r)
theorem yX{G:Mg}{t:Mi Bool}{e:Mi Rr}{a:A}{as acc:List A}{r:List A×List Sl}(h:cD G t e (a::as) acc Z=some r):OX G t e a as acc Z r:=by
 unfold cD at h;split at h
 .cases h
 .rename_i U H;split at h
  .rename_i Z' z;split at h
   .rename_i u V' p;split at h
    .rename_i d N b;exact .take H z p b h
    .cases h
   .cases h
  .rename_i Z' z;exact .skip H z h
  .cases h
def cB:Mi Bool:=lY true
def c9(n:Nat)(H:Mi (List A))(G:Mg)(t:Mi Bool)(e:Mi Rr):Mi Rr:=aT H λas Z=>if as.length<=100000 then match cD G t e as [] (Z++Th n .un) with
 |some (ys,O)=>some (.ok (.nw (.lst ys)),O.take Z.length)
 |none=>none else none
structure JF(X:Cx)(E:XK)(ifs:List Expr)(m:Mi Bool):Prop where
 p:PF X ifs (zI (kx X) E m)
variable{me mk:Mi Rr}{lo:Nat}{N:List Str}{elt ek:Expr}{ifs:List Expr}{px p1:Pos}
section
variable{X:Cx}{E:XK}
theorem IP:JF X E [] cB:=⟨λpins s Y H Q I h=>by refine KQ pins s Y H Q I ?_;obtain⟨c,Z,τ,θ,o,O,ek,b,em,q⟩:=h;cases em;exact q H b⟩
theorem Ip{t:Expr}{m:Mi Bool}(h:JT X E t m):JF X E [t] m:=⟨JQ h.p⟩
noncomputable abbrev rq:XK:=λ_ _ _=>False
theorem jQ{n:Nat}{G:Mg}{Y τ T:St}{u:Hp}{U Z':List Sl}{S as ys:List A}{J:It}(t:Y.length=lo)(ek:c.toKx=kx X)(li:T.length=S.length)
  (it:∀Y H Z F D i,F.length=D.length->Bd c Y H Z (F++(T++τ)) (D++(S.map Sl.fr++θ))->(as.length<=i->J.stop i H)/\∀a,as[i]?=some a->J.go i H/\∀x H',J.yld i H x H'->Bd c Y H' Z (some x::(F++(T++τ))) (.fr a::(D++(S.map Sl.fr++θ))))
  (b1:Bd c Y u U (T++τ) (S.map Sl.fr++θ))(C:as.length<=100000)(ec:cD G mt me as [] (U++Th n .un)=some (ys,Z'))(q:QW (kx X) E c Y (Z'.take U.length) τ θ Q (.ok (.nw (.lst ys)))):
  zY J (MI (kx X) lo G) (zI (kx X) rq mt) (lA (kx X) rq me) Q (Y++Th n none) u:=by
 have z:=b1.iG;refine⟨λi m Y' vs H'=>m=as.length-i/\i<=as.length/\Y'.take lo=Y/\∃R acc,vs.length=acc.length/\acc.length<=i/\Bd c Y' H' R (vs.reverse.map some++(T++τ)) (acc.reverse.map Sl.fr++(S.map Sl.fr++θ))/\cD G mt me (as.drop i) acc R=some (ys,Z'),
  ⟨_,rfl,Tu _,by rw[<-t,List.take_left],_,[],rfl,Tu _,b1.Al,by simpa using ec⟩,?_⟩
 rintro i m Y' vs H' ⟨rfl,hi,I,R,acc,lv,la,g,h⟩;refine⟨by have:=mF;lia,?_⟩;obtain⟨i1,i2⟩:=it Y' H' R (vs.reverse.map some) (acc.reverse.map Sl.fr) i (by simp[lv]) g;by_cases w:i<as.length
 .have hd:=TJ w;rw[hd] at h;obtain⟨go,yl⟩:=i2 as[i] (by simp[w]);refine .inr ⟨go,λP O j=>P.take lo=Y/\∃V' b,O.length=b.length/\b.length<=i+1/\Bd c P j V' (O.reverse.map some++(T++τ)) (b.reverse.map Sl.fr++(S.map Sl.fr++θ))/\cD G mt me (as.drop (i+1)) b V'=some (ys,Z'),
   λP O j ⟨q0,V',b,q1,q2,q3,q4⟩=>⟨as.length-(i+1),by lia,rfl,w,q0,V',b,q1,q2,q3,q4⟩,λx j y=>?_⟩
  have b2:=yl x j y;have fin:∀{V' N:List Sl}{k:Bool},G as[i] R=some V'->mt V'=some (.ok k,N)->(∀V L,V.take lo=Y->Bd c V L N (vs.reverse.map some++(T++τ)) (acc.reverse.map Sl.fr++(S.map Sl.fr++θ))->if k=true then lA (kx X) rq me V L λv o=>V.take lo=Y/\∃V' b,(vs++[v]).length=b.length/\b.length<=i+1/\Bd c V o V' ((vs++[v]).reverse.map some++(T++τ)) (b.reverse.map Sl.fr++(S.map Sl.fr++θ))/\cD G mt me (as.drop (i+1)) b V'=some (ys,Z') else V.take lo=Y/\∃V' b,vs.length=b.length/\b.length<=i+1/\Bd c V L V' (vs.reverse.map some++(T++τ)) (b.reverse.map Sl.fr++(S.map Sl.fr++θ))/\cD G mt me (as.drop (i+1)) b V'=some (ys,Z'))->MI (kx X) lo G x Y' j λV d=>zI (kx X) rq mt V d λk L=>if k=true then lA (kx X) rq me V L λv o=>V.take lo=Y/\∃V' b,(vs++[v]).length=b.length/\b.length<=i+1/\Bd c V o V' ((vs++[v]).reverse.map some++(T++τ)) (b.reverse.map Sl.fr++(S.map Sl.fr++θ))/\cD G mt me (as.drop (i+1)) b V'=some (ys,Z') else V.take lo=Y/\∃V' b,vs.length=b.length/\b.length<=i+1/\Bd c V L V' (vs.reverse.map some++(T++τ)) (b.reverse.map Sl.fr++(S.map Sl.fr++θ))/\cD G mt me (as.drop (i+1)) b V'=some (ys,Z'):=
   λr B f=>⟨c,R,_,_,as[i],_,ek,b2,r,λV d s l3 b3=>⟨c,_,_,_,.ok _,_,ek,b3,B,λL K=>f V L (s.trans I) K⟩⟩
  cases yX h with
  |skip r B h=>exact fin r B λV L s K=>⟨s,_,acc,lv,by exact UN ‹_›,K,h⟩
  |take r B ee ef h=>exact fin r B λV L s K=>⟨c,_,_,_,_,_,ek,K,ee,λv o hv b5=>⟨s,_,_,by simp[lv],by simp;exact id ‹_›,by simpa using Bd.bp (xs:=[]) (ss:=[]) rfl b5 hv ef,h⟩⟩
 .have e:i=as.length:=by lia
  subst e;rw[Vc] at h;cases h;refine .inl ⟨i1 (SO _),λp hp=>?_⟩;have b7:=Bd.AN g (by simp[lv]) hp vs ys ue;have l:=Bd.vP (by simp[li]) b7;have es:Y'=Y++Y'.drop lo:=by rw[<-I];exact(Ue _ _).symm
  rw[es] at l;have b9:=l.Q2;rw[z] at b9;exact q _ _ trivial b9
theorem ox{n:Nat}{y:Mi (List A)}{G:Mg}(Y:St)(H:Hp)(Q:VK)(t:Y.length=lo)(h:lA (kx X) E (c9 n y G mt me) Y H Q):
  xt n (Rq (kx X) E y) (MI (kx X) lo G) (zI (kx X) rq mt) (lA (kx X) rq me) Y H Q:=by
 obtain⟨c,Z,τ,θ,o,O,ek,b,em,q⟩:=h;rcases bind_some em with ⟨as,U,r,a⟩|⟨e,r,a⟩
 .refine⟨c,Z,τ,θ,_,U,ek,b,r,λJ f T S L it b1=>?_⟩;split at a
  .rename_i x;cases v:cD G mt me as [] (U++Th n .un) with
   |none=>rw[v] at a;cases a
   |some p=>rw[v] at a;cases a;exact jQ t ek L (λY H Z F D i l b=>it c Y H Z F D τ θ i ek l b) b1 x v q
  .cases a
 .subst a;exact⟨c,Z,τ,θ,_,O,ek,b,r,λC f m b1=>q C f m b1⟩
theorem EG{k:Nat}{sc:Scope}{mi:Mi (List A)}{G:Mg}(hc:X.calm=true)(S:fB X.N N k sc X.env.scope)(hlo:X.N.length=lo)(hi:JI X E tg iter mi)
  (hg:∀cl C s H fp,JG (g9 X N sc cl C s H fp) lo tg G)(ht:∀cl C s H fp,JF (g9 X N sc cl C s H fp) rq ifs mt)(he:∀cl C s H fp,JE (g9 X N sc cl C s H fp) rq elt me)(hs:∀x,zax iter X.env x=pure x:=by intro _;rfl):
  JE X E (.ListComp elt [⟨tg,iter,ifs,0⟩] sc pos) (c9 k mi G mt me):=
 ⟨λpins s Y H Q I h=>vY hc S hi.p (λcl C s H fp=>(hg cl C s H fp).p) (λcl C s H fp=>(ht cl C s H fp).p) (λcl C s H fp=>(he cl C s H fp).p) hs pins s Y H Q I (ox Y H Q (I.len.trans hlo) h)⟩
theorem FJ{x:Str}{spos:Pos}{k:Nat}{sc:Scope}{mi:Mi (List A)}{G:Mg}(hc:X.calm=true)(S:fB X.N N k sc X.env.scope)(hlo:X.N.length=lo)(hN:X.N.Nodup)(hx:X.N[i]?=some x)
  (hl:X.env.scope.names.lookup x=some .local)(hsw:zaJ (.ListComp elt [⟨tg,iter,ifs,0⟩] sc pos) (some (.Name x px)) spos.line X.env=pure true)(hi:JI X E tg iter mi)
  (hg:∀cl C s H fp,JG (g9 X N sc cl C s H fp) lo tg G)(ht:∀cl C s H fp,JF (g9 X N sc cl C s H fp) rq ifs mt)(he:∀cl C s H fp,JE (g9 X N sc cl C s H fp) rq elt me)(hs:∀x,zax iter X.env x=pure x:=by intro _;rfl):
  JS X E (.Assign [.Name x px] (.ListComp elt [⟨tg,iter,ifs,0⟩] sc pos) spos) (aD i (c9 k mi G mt me)):=
 ⟨λpins s Y H D I h=>Ef hc S hN hx hl hsw hi.p (λcl C s H fp=>(hg cl C s H fp).p) (λcl C s H fp=>(ht cl C s H fp).p) (λcl C s H fp=>(he cl C s H fp).p) hs pins s Y H D I (by
  obtain⟨c,Z,τ,θ,f,O,ek,b,em,q⟩:=h;refine ox Y H _ (I.len.trans hlo) (eZ ek b em q λr v U H1 hv b1 em1=>?_);cases e1:zP r U with
  |none=>rw[e1] at em1;cases em1
  |some p=>
   obtain⟨t,Z'⟩:=p;rw[e1] at em1;obtain⟨b2,ht⟩:=Bd.zP hv b1 e1;cases e2:put i t Z' with
   |none=>simp only[e2] at em1;cases em1
   | some V'=>simp only[e2] at em1;cases em1;exact q _ H1 (Bd.put b2 ht e2))⟩
noncomputable def aO(Z:List Sl)(i:Nat):Option LO:=match Z[i]? with
 |some (.lv o)=>some o
 |some (.pv o)=>some o
 |_=>none
noncomputable def setAt(Z:List Sl)(i:Nat)(o:LO):List Sl:=match Z[i]? with
 |some (.pv _)=>Z.set i (.pv o)
 |_=>Z.set i (.lv o)
theorem dz.live{Y:St}{τ:St}(b:dz c Y H Z τ θ L)(h:aO Z i=some o)(o':LO)(u:HO):
  ∃p q,Y[i]?=some (some (.ref p))/\LR c.toKx (c.g H L) H p o q/\((∀H',H' p=some u->LR c.toKx (c.g H L) H' p o' q)->Bd c Y (upd H p u) (setAt Z i o') τ θ):=by
 delta aO at h
 delta setAt
 cases es:Z[i]? with
 |none=>rw[es] at h;cases h
 |some s=>
  cases s with
  |un=>rw[es] at h;cases h
  |cf _=>rw[es] at h;cases h
  |fr a=>rw[es] at h;cases h
  |lv x=>rw[es] at h;cases h;obtain⟨p,q,h1,h2,h3⟩:=b.change es (.inl ⟨rfl,rfl⟩);exact⟨p,q,h1,h2,λk=>h3 λH' e _=>k H' e⟩
  |pv x=>rw[es] at h;cases h;obtain⟨p,q,h1,h2,h3⟩:=b.change es (.inr ⟨rfl,rfl⟩);exact⟨p,q,h1,h2,λk=>h3 λH' e _=>k H' e⟩
theorem Bd.um{Y:St}{τ:St}{a:A}(b:Bd c Y H Z (some v::τ) (.fr a::θ)):∃L,dz c Y H Z τ θ L/\RA c.toKx (c.g H L) v a:=by obtain⟨L,bl,r⟩:=Bd.lp (vs:=[v]) (as:=[a]) b rfl;cases r with|cons h _=>exact⟨L,bl,h⟩
def cR(i:Nat)(m:Mi Rr):Mi Rr:=aT m λr Z=>match bp r Z with
 |some (a,U)=>match aO U i with
  |some (.lst xs)=>if xs.length<=16000000 then some (.ok (.fr .non),setAt U i (.lst (xs++[a]))) else none
  |_=>none
 |none=>none
theorem fJ{Y:St}{τ:St}{xs:List A}(b:Bd c Y H Z τ θ)(h:aO Z i=some (.lst xs)):∃p vs,Y[i]?=some (some (.ref p))/\H p=some (.lst vs):=by obtain⟨L,b⟩:=b;obtain⟨p,_,h1,h2,a⟩:=b.live h (.lst xs) (.lst []);cases h2 with|lst e r=>exact⟨p,_,h1,e⟩
def KU(Z:List Sl)(i:Nat):Bool:=match aO Z i with
 |some (.lst _)=>true
 |_=>false
def fK(i:Nat)(m:Mi Rr):Mi Rr:=λZ=>if KU Z i then m Z else none
theorem jh(h:KU Z i=true):∃xs,aO Z i=some (.lst xs):=by
 delta KU at h
 cases e:aO Z i with
 |none=>rw[e] at h;cases h
 |some o=>cases o with
  |lst xs=>exact⟨xs,rfl⟩
  |dic _=>rw[e] at h;cases h
  |dit _=>rw[e] at h;cases h
  |obj _ _=>rw[e] at h;cases h
  |nob _ _ _=>rw[e] at h;cases h
theorem yf{x:Str}{apos cpos:Pos}{m:Mi Rr}(hN:X.N[i]?=some x)(hv:pD X.env.scope x)(hd:gA x)(hcd:sX x)(he:JE X E e m)
  (hbase:zaI (.Name x px) "append" X.env (eval (.Name x px) X.env)=eval (.Name x px) X.env:=by rfl)
  (hfew:((zaG cpos (zai [e] X.env)).all (λx=>!x.1)&&(zbO cpos (zbf [] X.env)).all (λx=>x.1.isSome)&&decide (([e]:List Expr).length+([]:List za1).length+(if ([]:List za1).isEmpty then 0 else 1)<30))=true:=by rfl)
  (hline:(apos.endLine==cpos.line)=true:=by rfl)(hs:zai [e] X.env=(false,eval e X.env)::zai [] X.env:=by rfl)(hplain:(zaG cpos (zai [] X.env)).any (·.1)=false:=by rfl):
  JE X E (.Call (.Attribute (.Name x px) "append" apos) [e] [] cpos) (fK i (cR i m)):=
 ⟨PE.weaken (xb Vh PySem.F.slot_list_append PySem.F.type_list_append zA (cG hN hv hd hcd) (bE he.p cN hs) hbase hfew hline hs hplain) λY H Q h=>by
  obtain⟨c,Z,τ,θ,o,O,ek,b,em,q⟩:=h
  delta fK at em
  split at em
  .rename_i hl;obtain⟨xs0,hl⟩:=jh hl;obtain⟨p,vs,hp,hH⟩:=fJ b hl;refine⟨_,hp,.inl ⟨rfl,vs,.inl (.inl hH)⟩,?_⟩;refine bB ek b em (λr v U H1 hv b1 em1=>?_) (bF q);cases e1:bp r U with
   |none=>rw[e1] at em1;cases em1
   |some pr=>
    obtain⟨a,Z'⟩:=pr;rw[e1] at em1;have b2:=Bd.bp (xs:=[]) (ss:=[]) rfl b1 hv e1;cases e2:aO Z' i with
    |none=>simp only[e2] at em1;cases em1
    |some lo=>
     cases lo with
     |dic _=>simp only[e2] at em1;cases em1
     |dit _=>simp only[e2] at em1;cases em1
     |obj _ _=>simp only[e2] at em1;cases em1
     |nob _ _ _=>simp only[e2] at em1;cases em1
     |lst xs=>
      simp only[e2] at em1;split at em1
      .rename_i hx;cases em1;obtain⟨L,bl,ra⟩:=Bd.um b2;obtain⟨p',_,h1,h2,h3⟩:=bl.live e2 (.lst (xs++[a])) (.lst ((match H1 p with|some (.lst ws)=>ws|_=>[])++[v]));rw[hp] at h1;cases h1;cases h2 with
       |lst e rr=>rename_i ws;rw[e] at h3;refine⟨p,ws,v,rfl,rfl,e,by have:=rr.len;have:=zav;lia,q _ _ trivial (Bd.push (h3 λH' hh=>.lst hh (rr.snoc ra)) λ_=>.non)⟩
      .cases em1
  .cases em⟩
def mO(i:Nat)(mk m:Mi Rr):Ms:=cF m λr X'=>if KU X' i then cF mk (λY=>λZ=>match bp r Z with
 |some (a,U)=>match res U Y,aO U i with
  |some (.int k),some (.lst xs)=>match tU xs.length k with
   |some j=>some (.nx,setAt U i (.lst (xs.set j a)))
   |none=>none
  |_,_=>none
 | none=>none) X' else none
theorem CQ{x:Str}{m:Mi Rr}(u:X.N[i]?=some x)(t:pD X.env.scope x)(hd:gA x)(P:sX x)(hk:JE X E ek mk)(he:JE X E e m)
  (hp:∀{to K T:TE},PE X (.Name x px) to->PE X ek K->PE X e T->PS X (.Assign [.Subscript (.Name x px) ek p1] e pos) (Ck T (N5 to K Hs))):JS X E (.Assign [.Subscript (.Name x px) ek p1] e pos) (mO i mk m):=
 ⟨PS.weaken (hp (cG u t hd P) hk.p he.p) λD Y H h=>by
  obtain⟨c,Z,τ,θ,f,O,ek,b,em,q⟩:=h;refine eZ ek b em q λr v U H1 t b1 s=>?_;split at s
  .rename_i hl;obtain⟨J,hl⟩:=jh hl;obtain⟨p,vs,hp,hH⟩:=fJ b1 hl;refine⟨_,hp,?_⟩;rcases cI s with ⟨G,Z',S,l⟩|⟨ee,S,l⟩
   .refine⟨c,U,_,_,_,Z',ek,b1,S,λw V Q b2=>?_⟩;cases z:bp r Z' with
    |none=>rw[z] at l;cases l
    |some R=>
     obtain⟨a,V'⟩:=R;rw[z] at l;have n:Bd c Y V V' (bM G w (some v::τ)) (bL G (.fr a::θ.map Sl.fr)):=by obtain⟨A,g,d⟩:=eE G w (bM r v τ) (bL r (θ.map Sl.fr));obtain⟨g4,g5,_⟩:=eE G w (some v::τ) (.fr a::θ.map Sl.fr);rw[g4,g5];rw[A,g] at b2;exact Bd.bp d b2 t z
     cases y:res V' G with
     |none=>simp only[y] at l;cases l
     |some ak=>
      cases ak<;>first|(simp only[y] at l;cases l;done)|skip
      rename_i k;have I:=Bd.rd n Q y;cases I;cases F:aO V' i with
      |none=>simp only[y,F] at l;cases l
      |some lo=>
       cases lo with
       |dic _=>simp only[y,F] at l;cases l
       |dit _=>simp only[y,F] at l;cases l
       |obj _ _=>simp only[y,F] at l;cases l
       |nob _ _ _=>simp only[y,F] at l;cases l
       |lst xs=>
        simp only[y,F] at l;cases B:tU xs.length k with
        |none=>rw[B] at l;cases l
        |some j=>
         rw[B] at l;cases l;obtain⟨L,bl,ra⟩:=Bd.um n.drop;obtain⟨p',_,h1,h2,h3⟩:=bl.live F (.lst (xs.set j a)) (.lst ((match V p with|some (.lst ws)=>ws|_=>[]).set j v));rw[hp] at h1;cases h1;cases h2 with
         |lst e o=>rename_i ws;rw[e] at h3;exact⟨p,ws,k,j,rfl,rfl,e,by rw[o.len];exact B,q Y _ (h3 λH' hh=>.lst hh (o.set ra j))⟩
   .subst l;exact⟨c,U,_,_,_,O,ek,b1,S,λC V hm b2=>q C Y V hm b2.drop⟩
  .cases s⟩
def C9(Z:List Sl)(i:Nat):Bool:=match aO Z i with
 |some (.dic _)=>true
 |_=>false
theorem yT(h:C9 Z i=true):∃xs,aO Z i=some (.dic xs):=by
 delta C9 at h
 cases e:aO Z i with
 |none=>rw[e] at h;cases h
 |some o=>cases o with
  |dic xs=>exact⟨xs,rfl⟩
  |lst _=>rw[e] at h;cases h
  |dit _=>rw[e] at h;cases h
  |obj _ _=>rw[e] at h;cases h
  |nob _ _ _=>rw[e] at h;cases h
theorem Ba{Y:St}{τ:St}{xs:List (Key×A)}(b:Bd c Y H Z τ θ)(h:aO Z i=some (.dic xs)):∃p vs,Y[i]?=some (some (.ref p))/\H p=some (.dK vs):=by obtain⟨L,b⟩:=b;obtain⟨p,_,h1,h2,a⟩:=b.live h (.dic xs) (.lst []);cases h2 with|dic e r=>exact⟨p,_,h1,e⟩
def nF(i:Nat)(mk m:Mi Rr):Ms:=cF m λr X'=>if C9 X' i then cF mk (λY=>λZ=>match bp r Z with
 |some (a,U)=>match res U Y,aO U i with
  |some ka,some (.dic kvs)=>match j6 ka with
   |some y=>if kvs.length<=100000 then some (.nx,setAt U i (.dic (rT kvs y a))) else none
   |none=>none
  |_,_=>none
 | none=>none) X' else none
theorem E6{x:Str}{m:Mi Rr}(hu:X.A.units+1<cLine)(hN:X.N[i]?=some x)(hv:pD X.env.scope x)(hd:gA x)(hcd:sX x)(hk:JE X E ek mk)(he:JE X E e m)
  (hs:zaJ e (some (.Subscript (.Name x px) ek p1)) pos.line X.env=pure false:=by rfl):JS X E (.Assign [.Subscript (.Name x px) ek p1] e pos) (nF i mk m):=
 ⟨PS.weaken (Ff hu (cG hN hv hd hcd) hk.p he.p hs) λD Y H h=>by
  obtain⟨c,Z,τ,θ,f,O,ek,b,em,q⟩:=h;refine eZ ek b em q λr v U H1 hv b1 em1=>?_;split at em1
  .rename_i hl;obtain⟨xs0,hl⟩:=yT hl;obtain⟨p,vs,hp,hH⟩:=Ba b1 hl;refine⟨_,hp,?_⟩;rcases cI em1 with ⟨rk,Z',e1,e2⟩|⟨ee,e1,e2⟩
   .refine⟨c,U,_,_,_,Z',ek,b1,e1,λw H2 hw b2=>?_⟩;cases ef:bp r Z' with
    |none=>rw[ef] at e2;cases e2
    |some pr=>
     obtain⟨a,V'⟩:=pr;rw[ef] at e2;have b3:Bd c Y H2 V' (bM rk w (some v::τ)) (bL rk (.fr a::θ.map Sl.fr)):=by obtain⟨g1,g2,g3⟩:=eE rk w (bM r v τ) (bL r (θ.map Sl.fr));obtain⟨g4,g5,_⟩:=eE rk w (some v::τ) (.fr a::θ.map Sl.fr);rw[g4,g5];rw[g1,g2] at b2;exact Bd.bp g3 b2 hv ef
     cases er:res V' rk with
     |none=>simp only[er] at e2;cases e2
     |some ka=>
      have rk':=Bd.rd b3 hw er;cases el:aO V' i with
      |none=>simp only[er,el] at e2;cases e2
      |some lo=>
       cases lo with
       |lst _=>simp only[er,el] at e2;cases e2
       |dit _=>simp only[er,el] at e2;cases e2
       |obj _ _=>simp only[er,el] at e2;cases e2
       |nob _ _ _=>simp only[er,el] at e2;cases e2
       |dic kvs=>
        simp only[er,el] at e2;cases ej:j6 ka with
        |none=>rw[ej] at e2;cases e2
        |some y=>
         simp only[ej] at e2;split at e2
         .rename_i h100;cases e2;obtain⟨L,bl,ra⟩:=Bd.um b3.drop;obtain⟨p',_,h1,h2,h3⟩:=bl.live el (.dic (rT kvs y a)) (.dK (putK (match H2 p with|some (.dK ws)=>ws|_=>[]) y v));rw[hp] at h1;cases h1;cases h2 with
          |dic e rr=>rename_i ws;rw[e] at h3;exact⟨p,_,rfl,.inl ⟨ws,y,e,pR rk' ej,by have:=rr.len;have:=vE;lia,rfl⟩,q Y _ (h3 λH' hh=>.dic hh (rr.put y ra))⟩
         .cases e2
   .subst e2;exact⟨c,U,_,_,_,O,ek,b1,e1,λC H2 hm b2=>q C Y H2 hm b2.drop⟩
  .cases em1⟩
noncomputable def rW:Mi Rr:=λZ=>some (.ok (.nw (.dic [])),Z)
theorem GG{pos}:JE X E (.Dict [] [] pos) rW:=⟨PE.weaken Cw λY H Q h=>by obtain⟨c,Z,τ,θ,o,O,ek,b,em,q⟩:=h;cases em;intro p hp;obtain⟨L,bl⟩:=b;exact q _ _ trivial (bl.gO hp λG H' sm e=>.dic e .nil)⟩
end
variable{ob:Obj}{d:Addr}{dc:HO}
section
variable{X:Cx}{E:XK}
noncomputable def Jw:Key->A
 | .inl i=>.int i
 | .inr x=>.str x
theorem PS.or{st:Stmt}{t:TS}(h:PS X st t)(h':PS X st t'):PS X st (λD Y H=>t D Y H\/t' D Y H):=λpins s Y H D I q=>q.elim (h pins s Y H D I) (h' pins s Y H D I)
section
variable{c:Cn}{Y:St}{H:Hp}{Z:List Sl}{τ:St}{θ:List Sl}
structure Dc(d:HO):Prop where
 a:qX d=some d
 b:∀ob,qX (.frz ob d)=some d
theorem Dc.dU(φ:Heap->Prop):Dc (.dU φ):=⟨rfl,λ_=>rfl⟩
theorem Dc.ne{d:HO}(K:Dc d){w:HO}(e:d=.frz ob w):False:=by have h:=K.a;rw[e] at h;cases w<;>first|(cases h;done)|skip
theorem Bd.HS(K:Dc dc)(b:dz c Y H Z τ θ L)(hd:H d=some dc)(r:d∉L)(Q:d∉c.Hd):
  Bd { c with Wk:=(d,.frz ob dc)::c.Wk } Y (upd H d (.frz ob dc)) Z τ θ:=by
 have sm:Sq (c.g H L) (c.g (upd H d (.frz ob dc)) L):=λa u e=>by
  by_cases z:a∈L\/a∈c.Hd
  .rw[ip z] at e;cases e
  .rw[bJ (λy=>z (.inl y)) (λy=>z (.inr y))] at e;rw[bJ (λy=>z (.inl y)) (λy=>z (.inr y))];by_cases y:a=d
   .subst y;rw[hd] at e;cases e;exact⟨_,bg,.inr ⟨dc,K.a,K.b _⟩⟩
   .rw[az y];exact⟨u,e,.inl rfl⟩
 refine⟨L,b.nd,?_,b.own,⟨λq u e=>?_,λq n=>?_⟩,b.kp,b.lt,b.hd⟩
 .exact b.rel.sm sm λq n u e=>by rw[az λy=>r (by rw[<-y];exact n)];exact e
 .obtain⟨S,h1,h2⟩:=b.fr.st q u e;by_cases y:q=d
  .subst y;exact⟨_,bg,λ_ nw=>absurd SH (nw _)⟩
  .exact⟨S,by rw[az y];exact h1,λnp nw=>h2 np λw t=>nw w (SK _ t)⟩
 .rcases SR.mp n with z|z
  .subst z;exact⟨bg,⟨ob,dc,rfl⟩,Q⟩
  .obtain⟨h1,⟨h,v,h2⟩,h3⟩:=b.fr.pk q z;refine⟨?_,⟨h,v,h2⟩,h3⟩;rw[az λy=>?_]
   .exact h1
   .rw[y,hd,h2] at h1;exact K.ne (Ta h1)
theorem Bd.nI(K:Dc dc)(b:Bd { c with Wk:=(d,.frz ob dc)::c.Wk } Y H Z τ θ)(nw:∀w,(d,w)∉c.Wk)(p:∀o,c.H0 d=some o->d∉c.Lp->o=dc):H d=some (.frz ob dc)/\Bd c Y (upd H d dc) Z τ θ:=by
 obtain⟨L,b⟩:=b;obtain⟨hd,_,Q⟩:=b.fr.pk _ SH;have hd:H d=some (.frz ob dc):=hd;have Q:d∉c.Hd:=Q;have r:d∉L:=λz=>b.rel.wH d z ob dc hd;have sm:Sq (c.g H L) (c.g (upd H d dc) L):=λa u e=>by
  by_cases z:a∈L\/a∈c.Hd
  .rw[ip z] at e;cases e
  .rw[bJ (λy=>z (.inl y)) (λy=>z (.inr y))] at e;rw[bJ (λy=>z (.inl y)) (λy=>z (.inr y))];by_cases y:a=d
   .subst y;rw[hd] at e;cases e;exact⟨_,bg,.inr ⟨dc,K.b _,K.a⟩⟩
   .rw[az y];exact⟨u,e,.inl rfl⟩
 refine⟨hd,L,b.nd,?_,b.own,⟨λq u e=>?_,λq n=>?_⟩,b.kp,b.lt,b.hd⟩
 .have rel:aA c.toKx (c.g H L) H (τ++Y) (θ++Z) L:=b.rel;exact rel.sm sm λq n u e=>by rw[az λy=>r (by rw[<-y];exact n)];exact e
 .obtain⟨S,h1,h2⟩:=b.fr.st q u e;by_cases y:q=d
  .subst y;exact⟨_,bg,λnp _=>(p u e np).symm⟩
  .refine⟨S,by rw[az y];exact h1,λnp x=>h2 np λw t=>?_⟩;rcases SR.mp t with z|z
   .cases z;exact y rfl
   .exact x w z
 .obtain⟨h1,⟨h,v,h2⟩,h3⟩:=b.fr.pk q (SK _ n);refine⟨?_,⟨h,v,h2⟩,h3⟩;rw[az λy=>?_]
  .exact h1
  .exact nw q.2 (by rw[<-y];exact n)
theorem Bd.Pq(K:Dc dc)(b:dz c Y H Z τ θ L)(hd:H d=some (.frz ob dc))(Q:d∉c.Hd):Bd { c with Wk:=(d,.frz ob dc)::c.Wk } Y H Z τ θ:=by
 refine⟨L,b.nd,b.rel,b.own,⟨λq u e=>?_,λq n=>?_⟩,b.kp,b.lt,b.hd⟩
 .obtain⟨S,h1,h2⟩:=b.fr.st q u e;exact⟨S,h1,λnp nw=>h2 np λw t=>nw w (SK _ t)⟩
 .rcases SR.mp n with z|z
  .subst z;exact⟨hd,⟨ob,dc,rfl⟩,Q⟩
  .exact b.fr.pk q z
theorem Bd.lO(K:Dc dc)(b:Bd { c with Wk:=(d,.frz ob dc)::c.Wk } Y H Z τ θ)(p:∀o,c.H0 d=some o->d∉c.Lp->(∀w,(d,w)∉c.Wk)->o=.frz ob dc):Bd c Y H Z τ θ:=by
 obtain⟨L,b⟩:=b;obtain⟨hd,_,Q⟩:=b.fr.pk _ SH;refine⟨L,b.nd,b.rel,b.own,⟨λq u e=>?_,λq n=>b.fr.pk q (SK _ n)⟩,b.kp,b.lt,b.hd⟩;obtain⟨S,h1,h2⟩:=b.fr.st q u e;by_cases y:q=d
 .subst y;exact⟨_,hd,λnp nw=>(p u e np nw).symm⟩
 .refine⟨S,h1,λnp x=>h2 np λw t=>?_⟩;rcases SR.mp t with z|z
  .cases z;exact y rfl
  .exact x w z
end
end
noncomputable def nL(a b:Str):Bool:=!XI b.cps.toList a.cps.toList
def iW(l:List Str):List Str:=l.mergeSort nL
theorem pY(a b:Str):nL a b=decide (¬ b.cps.toList<a.cps.toList):=by delta nL;rw[ZL,decide_not]
theorem pC(a b c:Str)(h1:nL a b=true)(h2:nL b c=true):nL a c=true:=by rw[pY,decide_eq_true_eq] at *;intro h;exact(ZM.negTrans c.cps.toList b.cps.toList a.cps.toList (zcx h)).elim (λh=>h2 (zcA h)) (λh=>h1 (zcA h))
theorem yu(a b:Str):(nL a b || nL b a)=true:=by
 rw[Uh,pY,pY,decide_eq_true_eq,decide_eq_true_eq];by_cases h:b.cps.toList<a.cps.toList
 .exact .inr (List.lt_asymm h)
 .exact .inl h
theorem BY{a b:Str}(h1:nL a b=true)(h2:nL b a=true):a=b:=by rw[pY,decide_eq_true_eq] at *;have:a.cps.toList=b.cps.toList:=YN (Zx.mp h1) (Zx.mp h2);rw[ZN];exact V1.mp this
theorem eM(l:List Str):(iW l).Perm l:=Yl l nL
theorem Cm(l:List Str):(iW l).Pairwise (λa b=>nL a b=true):=XA pC yu l
theorem vL{ss:List Str}(h:VX ss=true):ss.Pairwise (λa b=>nL a b=true):=by
 have key:∀(l:List Str)(p:Str),WR p l=true->(∀q∈l,nL p q=true)/\l.Pairwise (λa b=>nL a b=true):=by
  intro l;induction l with
  |nil=>intro p _;exact⟨λq n=>(by cases n),.nil⟩
  |cons q l m=>
   intro p hp;have hp:(!XI q.cps.toList p.cps.toList&&WR q l)=true:=hp;rw[SA] at hp;obtain⟨Z,B⟩:=m q hp.2;refine⟨λr Y=>?_,Yt.mpr ⟨Z,B⟩⟩;rcases SR.mp Y with z|z
   .subst z;exact hp.1
   .exact pC p q r hp.1 (Z r z)
 cases ss with
 |nil=>exact .nil
 |cons p l=>obtain⟨Z,B⟩:=key l p h;exact Yt.mpr ⟨Z,B⟩
theorem lT{ss l:List Str}(h:VX ss=true)(pm:ss.Perm l):ss=iW l:=
 (pm.trans (eM l).symm).eq_of_pairwise (λa b _ _ h1 h2=>BY h1 h2) (vL h) (Cm l)
noncomputable def gv:List A->Option (List Str)
 |[]=>some []
 | .str x::r=>match gv r with
  |some ss=>some (x::ss)
  |none=>none
 |_=>none
theorem j3:∀{as:List A}{ss:List Str},gv as=some ss->as=ss.map A.str
 |[],_,h=>by cases h;rfl
 | .str x::r,_,h=>by
  unfold gv at h;cases e:gv r with
  |none=>rw[e] at h;cases h
  |some ss=>rw[e] at h;cases h;rw[j3 e];rfl
 | .non::_,_,h=>by cases h
 | .bl _::_,_,h=>by cases h
 | .int _::_,_,h=>by cases h
 | .tup _::_,_,h=>by cases h
 | .lst _::_,_,h=>by cases h
 | .dic _::_,_,h=>by cases h
 | .exc _::_,_,h=>by cases h
theorem l0(ss:List Str):gv (ss.map A.str)=some ss:=by
 induction ss with
 |nil=>rfl
 |cons s ss m=>rw[S4,gv,m]
noncomputable def strKeys:List (Key×A)->Option (List Str)
 |[]=>some []
 |(.inr x,_)::r=>match strKeys r with
  |some ss=>some (x::ss)
  |none=>none
 |_=>none
theorem kn:∀{as:List (Key×A)}{ss:List Str},strKeys as=some ss->as.map (·.1)=ss.map TU
 |[],_,h=>by cases h;rfl
 |(.inr x,a)::r,_,h=>by
  unfold strKeys at h;cases e:strKeys r with
  |none=>rw[e] at h;cases h
  |some ss=>rw[e] at h;cases h;rw[S4,kn e];rfl
 |(.inl _,_)::_,_,h=>by cases h
section
variable{X:Cx}{E:XK}
def bW:A->Option Rr
 | .lst xs=>match gv xs with
  |some ss=>if ss.length<64 then some (.nw (.lst ((iW ss).map A.str))) else none
  |none=>none
 |_=>none
theorem uu:nA K (λv=>kW K.K [v]) bW:=by
 intro c Y H Z τ θ x v a q Q ek t i D N k;subst ek;obtain⟨L,bl,z⟩:=Bd.open i t D;cases a<;>first|exact cu N|skip
 rename_i xs
 delta bW at N
 cases es:gv xs with
 |none=>simp only[es] at N;cases N
 |some ss=>
  simp only[es] at N;split at N
  .rename_i A;cases N;obtain⟨p,vs,rfl,s1,o⟩:=z.1 xs rfl;rw[j3 es] at o;rw[o.strs] at s1;refine⟨p,ss,rfl,.inl s1,A,λr e m pm b=>?_⟩;rw[lT b pm];exact k _ _ trivial (bl.gO m λG H' sm q=>.lst q (br.ofStrs _))
  .cases N
def jB:List V->Hp->VK->Prop:=λxs H Q=>∃(a:Addr)(kvs:List (Key×V))(ss:List Str),xs=[.ref a]/\Rd H a (.dK kvs)/\kvs.map (·.1)=ss.map TU/\ss.length<64/\∀r x,H r=none->x.Perm ss->VX x=true->Q (.ref r) (upd H r (.lst (x.map V.str)))
open PySem.Spec PyProof.Rows PySem.W in
theorem qW(hc:X.calm=true):bX X (.builtin "sorted") jB:=by
 intro pins s Y H vs us Q I C h;obtain⟨a,kvs,ss,rfl,hd,ek,c,q⟩:=h;obtain⟨u,rfl,S⟩:=C.one;cases S;obtain⟨hz,lo,vs,t,Z⟩:=L2.cW I.hok hd;obtain⟨ep,J⟩:=Z.dictAt;have E:vs.map (·.1)=ss.map TU:=by rw[<-t.keys];exact ek
 have v:vs.length=ss.length:=by have:=zcy Wi E;simpa using this
 refine UL zbP zbE zbF (zbG _) ?_;unfold Builtin.«sorted»;refine zaf (m:=checkCount "sorted" 1 1 _) (zag ?_);refine zaf (zcf (A:=X.A.in1) (kdl_dict (knd:=aC X.prog X.w) (kvs:=vs) (ep:=ep) lo) (I.ok.hd hc) J (by have:=L2.iH;lia) λh' tk acc hk i=>?_);have R:=L2.oh E i;have D:acc.toList.length=ss.length:=by rw[Ti,i.1,v]
 refine zaf (zbd ?_ (by have:=L2.iH;lia));have y:(h'.push (za6 "list" acc.toList.toArray 0)).get? h'.objs.size=some (za6 "list" acc.toList.toArray 0):=S6 _ rfl;refine zaf (zau (zar slot_list_sort ⟨_,y,rfl⟩ entry_list_sort (list_sort_treeK strKind_oneLt y R.keysOf (λP T rest e=>keyKind_strs (by rw[<-e];exact R)) XV λN hp hs=>⟨_,rfl,?_⟩) (zbm _)));obtain⟨x,b1,b2,L⟩:=sorted_out_str R hp hs;obtain⟨e,he⟩:=zbu (vs:=acc.toList) (n:=0) (out:=(arrOf N).map (·.2)) y;have hf:∀b o,s.heap.get? b=some o->b≠h'.objs.size:=λb o z=>S8 (SV (hk b o z));refine zag ⟨_,rfl,.ref _,_,I.wA (t':=tk) (a:=h'.objs.size) (o:=.lst (x.map V.str)) (λb o z=>?_) hf ⟨?_,((arrOf N).map (·.2)).toList,e,L2.fY b1,?_⟩,rfl,q _ x (I.jb hf) b2 L⟩
 .rw[zbn (hf b o z) (by rw[za5];exact TH (SV (hk b o z)))];exact SI _ (hk b o z)
 .rw[SE,b2.length_eq];exact Tn (UM c) L2.iH
 .rw[XQ];exact he
def cn:A->Option Rr
 | .dic kvs=>match strKeys kvs with
  |some ss=>if ss.length<64 then some (.nw (.lst ((iW ss).map A.str))) else none
  |none=>none
 |_=>none
theorem uM:nA K (λv=>jB [v]) cn:=by
 intro c Y H Z τ θ x v a q Q ek t i D N k;obtain⟨L,bl,z⟩:=Bd.open i t D;cases a<;>first|exact cu N|skip
 rename_i kvs
 delta cn at N
 cases es:strKeys kvs with
 |none=>simp only[es] at N;cases N
 |some ss=>
  simp only[es] at N;split at N
  .rename_i A;cases N;obtain⟨p,vs,rfl,s1,o⟩:=z.2.2 kvs rfl;refine⟨p,vs,ss,rfl,s1,by rw[o.keys,kn es],A,λr e m pm b=>?_⟩;rw[lT b pm];exact k _ _ trivial (bl.gO m λG H' sm q=>.lst q (br.ofStrs _))
  .cases N
noncomputable def zL(f g:A->Option Rr):A->Option Rr:=λa=>match f a with
 |some r=>some r
 |none=>g a
theorem nA.or{r r':V->Hp->VK->Prop}{f g:A->Option Rr}(h:nA K r f)(h':nA K r' g):nA K (λv H Q=>r v H Q\/r' v H Q) (zL f g):=by
 intro c Y H Z τ θ x v a q Q ek t i D N k
 delta zL at N
 cases e:f a with
 |some z=>rw[e] at N;cases N;exact .inl (h c Y H Z τ θ x v a _ Q ek t i D e k)
 |none=>rw[e] at N;exact .inr (h' c Y H Z τ θ x v a _ Q ek t i D N k)
theorem qA(hc:X.calm=true):bX X (.builtin "sorted") (λxs H Q=>kW X.K xs H Q\/jB xs H Q):=bX.or' (qI hc) (qW hc)
theorem ze:nA K (λv H Q=>kW K.K [v] H Q\/jB [v] H Q) (zL bW cn):=uu.or uM
open PySem.Spec PyProof.Rows PySem.W in
def AG:List V->Hp->VK->Prop:=λvs H Q=>∃(a:Addr)(kvs:List (Key×V)),vs=[.ref a]/\Rd H a (.dK kvs)/\∀r,H r=none->Q (.ref r) (upd H r (.dK kvs))
theorem vw:bX X (.type "dict") AG:=by intro pins s Y H vs us Q I C h;obtain⟨a,kvs,rfl,hd,q⟩:=h;obtain⟨u,rfl,S⟩:=C.one;cases S;exact Dk I hd λp s' hp w=>⟨.ref p,_,w,rfl,q p hp⟩
noncomputable def pT:A->Option Rr
 | .dic kvs=>some (.nw (.dic kvs))
 |_=>none
theorem Ak:nA K (λv=>AG [v]) pT:=by
 intro c Y H Z τ θ x v a q Q ek t i D N k;obtain⟨L,bl,z⟩:=Bd.open i t D;cases a<;>first|exact cu N|skip
 rename_i kvs;cases N;obtain⟨p,vs,rfl,s1,o⟩:=z.2.2 kvs rfl;exact⟨p,vs,rfl,s1,λr m=>k _ _ trivial (bl.gO m λG H' sm q=>.dic q (o.sm sm))⟩
end
end M
namespace L2
open PySem PySem.Spec PyProof.Rows
end L2
namespace M
open PySem L2
variable{c:Cn}{H:Hp}{Z θ:List Sl}
theorem dz.OP{Y:St}{τ:St}{L:List Addr}{v w:V}{a b:A}(bl:dz c Y H Z τ θ L)(h1:RA c.toKx (c.g H L) v a)(h2:RA c.toKx (c.g H L) w b):Bd c Y H Z (some v::some w::τ) (.fr a::.fr b::θ):=
 ⟨L,bl.nd,aA.cons (.fr h1) (aA.cons (.fr h2) bl.rel),bl.own,bl.fr,bl.kp,by simp[bl.lt],bl.hd⟩
variable{mo:Mi Rr}{K:Kx}{e:Expr}{apos cpos p2 pos:Pos}{O:List Sl}{Q:Option Int->Hp->Prop}{i j:Nat}
section
variable{X:Cx}{E:XK}
def vc(K:SD):V->List V->Hp->VK->Prop:=λx vs H Q=>∃(c:Str)(l:Addr)(ss:List Str),x=.str c/\vs=[.ref l]/\eI K H l (ss.map V.str)/\iG ss+ss.length*c.length<=100000/\Q (.str (Uz c ss)) H
theorem mV(c:Str):∀(ss:List Str)(n:Nat),ss.foldl (λ(a:Nat)(z:Str)=>a+z.length+c.length) n=n+iG ss+ss.length*c.length
 |[],n=>by simp[iG]
 |z::ss,n=>by rw[WS,mV c ss];have e:iG (z::ss)=z.length+iG ss:=rfl;rw[e,S5,VY,ZO];lia
open PySem.Spec PyProof.Rows PySem.W in
theorem Cg:QR X "str.join" (vc X.K):=by
 intro pins s Y H x vs v us Q I o C h;obtain⟨c,l,ss,rfl,rfl,n,hl,q⟩:=h;obtain⟨t,rfl⟩:=o;obtain⟨u,rfl,S⟩:=C.one;cases S;obtain⟨B,r,p,hz⟩:=I.list n;obtain⟨ps,rfl,G⟩:=L2.iC (L2.nG r);have U:=vE;have Z:V5 ((ps.map (·.1)).toArray.foldl (·+·.length+c.length) 0)=false:=by
  have e:(ps.map (·.1)).toArray.foldl (λ(a:Nat)(z:Str)=>a+z.length+c.length) 0=iG ss+ss.length*c.length:=by rw[List.foldl_toArray,mV,G,Vt]
  unfold V5;rw[e];exact zcw XV
 refine zbB F.slot_str_join (zbY _ _ _) F.entry_str_join (F.args_str_join_2 _ _) (meets_str_join_list c t l ps Z) ⟨p.isList,?_⟩;have J:(Uz c ss).length<=iG ss+ss.length*c.length:=by rw[size_glued];have:(ss.length-1)*c.length<=ss.length*c.length:=UO _ (Nat.sub_le _ _);have e:iG ss=(ss.map (·.length)).sum:=rfl;lia
 have key:∀(z:Str)(t':Tok)(k:Nat),z=Uz c ss->EP X pins Y Q (.str z t') { s with toks:=k }:=λz t' k e=>⟨.str z,H,I.tok _,⟨t',rfl⟩,by rw[e];exact q⟩
 have fin:(Made.str (Uz c (ps.map (·.1)))).post (λv s'=>EP X pins Y Q v s') s:=⟨by rw[G];lia,key _ _ _ (by rw[G])⟩
 cases ps with
 |nil=>exact fin
 |cons a ps=>
  cases ps with
  |nil=>subst G;exact key a.1 a.2 s.toks rfl
  |cons b ps=>exact fin
def Sy(f:Str->Option Rr)(mo:Mi Rr):Mi Rr:=aT mo λx Z=>match x with
 | .fr (.str z)=>match f z with
  |some r=>some (.ok r,Z)
  |none=>none
 |_=>none
def MS(f:Str->A->Option Rr)(mo m:Mi Rr):Mi Rr:=aT mo λx X'=>match x with
 | .fr (.str z)=>aT m (λy Z=>match res Z y with
  |some a=>match f z a with
   |some r=>some (.ok r,Z)
   |none=>none
  | none=>none) X'
 |_=>none
theorem EE{r:V->List V->Hp->VK->Prop}{f:Str->A->Option Rr}{m:Mi Rr}(hf:∀z,nA (kx X) (λw=>r (.str z) [w]) (f z))(Y:St)(H:Hp)(Q:VK)(h:lA (kx X) E (MS f mo m) Y H Q):
  lA (kx X) E mo Y H λx R=>PZ X.K "str" x R/\lA (kx X) E m Y R λy S=>r x [y] S Q:=by
 obtain⟨c,Z,τ,θ,o,O,J,b,em,q⟩:=h;refine bB J b em (λx v U R P b1 s=>?_) (bF q);cases x with
 |rf i=>cases s
 |nw o=>cases s
 |fr a=>
  cases a<;>first|exact cu s|skip
  rename_i z;have g:=Bd.top b1 rfl;cases g;refine⟨rfl,?_⟩;refine bB J b1.pop s (λy w Z' S t b2 e=>?_) (bF q);obtain⟨a,r,D,N,rfl,rfl⟩:=qx e;exact hf z c Y S _ τ θ y w a r Q J t b2 D N q
def jI(c:Str):A->Option Rr
 | .lst xs=>match gv xs with
  |some ss=>if iG ss+ss.length*c.length<=100000 then some (.fr (.str (Uz c ss))) else none
  |none=>none
 |_=>none
theorem EW(c:Str):nA K (λw=>vc K.K (.str c) [w]) (jI c):=.scalar λH v a q g h=>by
 cases a<;>first|exact cu h|skip
 rename_i xs
 delta jI at h
 cases es:gv xs with
 |none=>simp only[es] at h;cases h
 |some ss=>
  simp only[es] at h;split at h
  .rename_i hl;cases h;cases g with
   |lst e r=>rw[j3 es] at r;rw[r.strs] at e;exact⟨_,_,rfl,λ_=>.str _,λQ k=>⟨c,_,ss,rfl,rfl,e,hl,k⟩⟩
  .cases h
theorem Ft{o:Expr}{m:Mi Rr}(ho:JE X E o mo)(he:JE X E e m)(hp:∀{to I:TE},PE X o to->PE X e I->PE X (.Call (.Attribute o "join" apos) [e] [] cpos) (RM X.K "str" (vc X.K) to (HI I NC))):
  JE X E (.Call (.Attribute o "join" apos) [e] [] cpos) (MS jI mo m):=⟨PE.weaken (hp ho.p he.p) λY H Q h=>EE EW Y H Q h⟩
def kT:Mi (Option Int):=lY none
def iE(m:Mi Rr):Mi (Option Int):=aT m λr Z=>match res Z r with
 |some (.int i)=>some (.ok (some i),Z)
 |_=>none
def NW(K:Kx)(E:XK)(c:Cn)(Y:St)(Z:List Sl)(τ:St)(θ:List Sl)(Q:Option Int->Hp->Prop):Except Str (Option Int)->Prop
 | .ok i=>∀H,Bd c Y H Z τ θ->Q i H
 | .error x=>∀C H,K.mg x=some (.ref C)->Bd c Y H Z τ θ->E (.ref C) none H
inductive RC(K:Kx)(E:XK)(m:Mi (Option Int))(Y:St)(H:Hp)(Q:Option Int->Hp->Prop):Prop
 |mk(c:Cn)(Z:List Sl)(τ:St)(θ:List Sl)(o:Except Str (Option Int))(O:List Sl)(h1:c.toKx=K)(h2:Bd c Y H Z τ θ)(h3:m Z=some (o,O))(h4:NW K E c Y O τ θ Q o)
structure JP(X:Cx)(E:XK)(e:Option Expr)(m:Mi (Option Int)):Prop where
 p:PO X e (RC (kx X) E m)
theorem PO.weaken{e:Option Expr}{t t':TO}(h:PO X e t)(f:∀Y H Q,t' Y H Q->t Y H Q):PO X e t':=λpins s Y H Q I q=>h pins s Y H Q I (f Y H Q q)
theorem DL{Y:St}{τ:St}{o:Except Str (Option Int)}(q:NW (kx X) E c Y O τ θ Q o):∀e,o=.error e->∀C H,X.mg e=some (.ref C)->Bd c Y H O τ θ->E (.ref C) none H:=λe p=>by subst p;exact q
theorem GO:JP X E none kT:=⟨PO.weaken Gv λY H Q h=>by obtain⟨c,Z,τ,θ,o,O,A,b,em,q⟩:=h;cases em;exact q H b⟩
theorem FA{m:Mi Rr}(h:JE X E e m):JP X E (some e) (iE m):=⟨PO.weaken (FV h.p) λY H Q h=>by
 obtain⟨c,Z,τ,θ,o,O,A,b,em,q⟩:=h;refine bB A b em (λx v U f t b1 s=>?_) (DL q);cases D:res U x with
 |none=>rw[D] at s;cases s
 |some a=>
  have g:=Bd.rd b1 t D;cases a<;>first|(rw[D] at s;cases s;done)|skip
  rw[D] at s;cases s;cases g;exact⟨_,rfl,q f b1.drop⟩⟩
noncomputable def Qk(a:A)(lo hi:Option Int):Option Rr:=match a with
 | .str z=>if z.length<=100000 then some (.fr (.str (Vo z lo hi))) else none
 |_=>none
def JC(m:Mi Rr)(H q:Mi (Option Int)):Mi Rr:=aT m λx=>aT H λlo=>aT q λhi=>λZ=>match res Z x with
 |some a=>match Qk a lo hi with
  |some r=>some (.ok r,Z)
  |none=>none
 |none=>none
theorem wY{Y:St}{τ:St}{β:Type}{m:Mi (Option Int)}{f:Option Int->Mi β}{o:Except Str β}(A:c.toKx=kx X)(b:Bd c Y H Z τ θ)(em:aT m f Z=some (o,O))
  (h1:∀k U R,Bd c Y R U τ θ->f k U=some (o,O)->Q k R)
  (h2:∀e,o=.error e->∀C H,X.mg e=some (.ref C)->Bd c Y H O τ θ->E (.ref C) none H):RC (kx X) E m Y H Q:=by
 rcases bind_some em with ⟨x,U,D,l⟩|⟨e,D,l⟩
 .exact⟨c,Z,τ,θ,_,U,A,b,D,λR b1=>h1 x U R b1 l⟩
 .exact⟨c,Z,τ,θ,_,O,A,b,D,λC R T b1=>h2 e l C R T b1⟩
theorem M4{lo hi:Option Expr}{m:Mi Rr}{F G:Mi (Option Int)}(h:JE X E e m)(hl:JP X E lo F)(P:JP X E hi G):JE X E (.Subscript e (.Slice lo hi none p2) pos) (JC m F G):=
 ⟨PE.weaken (Ct LN h.p hl.p P.p) λY H Q h=>by
  obtain⟨c,Z,τ,θ,o,O,A,b,em,q⟩:=h;refine bB A b em (λx v U f t b1 s=>?_) (bF q);refine wY A b1 s (λl Z' V b2 y=>?_) (lW (bF q));refine wY A b2 y (λu V' d j w=>?_) (lW (bF q));obtain⟨a,r,D,N,rfl,rfl⟩:=qx w;have n:c.K=X.K:=zcy Kx.K A;obtain⟨L,bl,I⟩:=Bd.open j t D;have g:=Bd.rd j t D;cases a<;>first|exact cu N|skip
  .rename_i z
   delta Qk at N
   simp only at N;split at N
   .rename_i hz;cases N;cases g;exact⟨z,rfl,Tn hz mF,q _ d trivial (Bd.push ⟨L,bl⟩ λ_=>.str _)⟩
   .cases N⟩
noncomputable def RT(f g:Mg):Mg:=λa Z=>match f a Z with
 |some r=>some r
 |none=>g a Z
def sI(m:Mi Rr)(G:Mg):Ms:=cF m λr Z=>match bp r Z with
 |some (a,U)=>match G a U with
  |some Z'=>some (.nx,Z')
  |none=>none
 |none=>none
theorem K9{tg:Expr}{m:Mi Rr}{G:Mg}(he:JE X E e m)(hg:JG X 0 tg G)(hs:zbb [tg] e pos.line X.env=pure false:=by rfl)(hw:za2 [tg] e X.env=pure none:=by rfl)
  (hp:∀{te:TE}{g:TG},PE X e te->PG X tg g->PS X (.Assign [tg] e pos) (Ck te g)):JS X E (.Assign [tg] e pos) (sI m G):=⟨PS.weaken (hp he.p hg.p) λD Y H h=>by
 obtain⟨c,Z,τ,θ,f,O,ek,b,em,q⟩:=h;refine eZ ek b em q λr v U H1 hv b1 em1=>?_;cases e1:bp r U with
 |none=>rw[e1] at em1;cases em1
 |some p=>
  obtain⟨a,Z'⟩:=p;rw[e1] at em1;have b2:=Bd.bp (xs:=[]) (ss:=[]) rfl b1 hv e1;cases e2:G a Z' with
  |none=>simp only[e2] at em1;cases em1
  | some V'=>simp only[e2] at em1;cases em1;exact⟨c,Z',τ,_,a,O,ek,b2,e2,λY' H' _ _ b3=>q Y' H' b3⟩⟩
def Ek(i j:Nat)(rs:List Rr)(Z:List Sl):Option (Fl×List Sl):=match eO rs Z with
 |some ([a,b],U)=>match put i (.fr a) U with
  |some Z'=>match put j (.fr b) Z' with
   |some V'=>some (.nx,V')
   |none=>none
  |none=>none
 |_=>none
theorem yx{rs:List Rr}{f:Fl}(h:Ek i j rs Z=some (f,O)):∃a d Z' V',eO rs Z=some ([a,d],Z')/\put i (.fr a) Z'=some V'/\put j (.fr d) V'=some O/\f=.nx:=by
 delta Ek at h
 cases b:eO rs Z with
 |none=>rw[b] at h;cases h
 |some p=>
  rw[b] at h;obtain⟨as,Z'⟩:=p
  match as,h with
  |[a,d],h=>
   dsimp only at h;cases t:put i (.fr a) Z' with
   |none=>rw[t] at h;cases h
   |some V'=>
    rw[t] at h;dsimp only at h;cases v:put j (.fr d) V' with
    |none=>rw[v] at h;cases h
    |some N=>rw[v] at h;cases h;exact⟨a,d,Z',V',rfl,t,v,rfl⟩
theorem Fx{α:Type}{l:List α}(h:l.length=2):∃a b,l=[a,b]:=match l,h with
 |[a,b],_=>⟨a,b,rfl⟩
def DE(i j:Nat)(m:Mi (List Rr)):Ms:=cF m (Ek i j)
theorem IJ{s:Stmt}{es:List Expr}{m:Mi (List Rr)}(x:JA X E es m)(y:i≠j)(hp:∀{ta:TA},PA X es ta->PS X s (MT i j ta)):JS X E s (DE i j m):=⟨PS.weaken (hp x.p) λD Y H h=>by
 obtain⟨c,Z,τ,θ,f,O,A,b,em,q⟩:=h;rcases cI em with ⟨rs,U,r,l⟩|⟨e,r,l⟩
 .refine⟨c,Z,τ,_,_,U,A,b,r,λvs R t b1=>?_⟩;obtain⟨a,d,Z',V',z,N,B,rfl⟩:=yx l;obtain⟨b2,F⟩:=Bd.eO t b1 z;obtain⟨v,w,rfl⟩:=Fx F;refine⟨v,w,rfl,q _ R ?_⟩;have n:Bd c Y R Z' (some w::some v::τ) (.fr d::.fr a::θ.map Sl.fr):=by simpa using b2
  obtain⟨L,bl,Q⟩:=Bd.lp (vs:=[w,v]) (as:=[d,a]) n rfl;cases Q with|cons h1 Q=>cases Q with|cons h2 _=>
  exact Bd.put (Bd.put (dz.OP bl h2 h1) rfl N) rfl B
 .subst l;exact⟨c,Z,τ,_,_,O,A,b,r,λC R T b1=>q C Y R T b1⟩⟩
end
section
variable{X:Cx}{E:XK}{a b:Expr}{ma mb:Mi Rr}{pos:Pos}
abbrev bR:=bP xm Cp
theorem IV(d:JE X E a ma)(hb:JE X E b mb):JE X E (.BinOp a .Sub b pos) (ay iM ma mb):=pB JX Mx d hb
theorem LY(d:JE X E a ma)(hb:JE X E b mb):JE X E (.BinOp a .Mult b pos) (ay bR ma mb):=pB (eG.or' Fs D6) (GA.or Gu) d hb
theorem J4(d:JE X E a ma)(hb:JE X E b mb):JE X E (.BinOp a .FloorDiv b pos) (ay jA ma mb):=pB BL Jr d hb
theorem Ku(d:JE X E a ma)(hb:JE X E b mb):JE X E (.BinOp a .Mod b pos) (ay iX ma mb):=pB Ee Mj d hb
theorem Ju(d:JE X E a ma)(hb:JE X E b mb):JE X E (.BinOp a .Pow b pos) (ay il ma mb):=pB Jv JH d hb
theorem NH(f:X.A.units+64<cLine)(d:JE X E a ma)(hb:JE X E b mb):JE X E (.Compare a [.Eq] [b] pos) (ay fI ma mb):=fC (p4 f) os_eq d hb (cU _)
theorem M0(f:X.A.units+64<cLine)(d:JE X E a ma)(hb:JE X E b mb):JE X E (.Compare a [.NotEq] [b] pos) (ay fM ma mb):=fC (rh f) wt d hb (cU _)
theorem Nv(d:JE X E a ma)(hb:JE X E b mb):JE X E (.Compare a [.Lt] [b] pos) (ay ou ma mb):=fC Hb Ha d hb (cU _)
theorem OR(d:JE X E a ma)(hb:JE X E b mb):JE X E (.Compare a [.GtE] [b] pos) (ay MO ma mb):=fC Ht G9 d hb (cU _)
theorem Px(d:JE X E a ma)(hb:JE X E b mb):JE X E (.Compare a [.Is] [b] pos) (ay (Kn false) ma mb):=fC CK Ib d hb (cU _)
theorem Og(f:X.A.units+64<cLine)(d:JE X E a ma)(hb:JE X E b mb):JT X E (.Compare a [.Eq] [b] pos) (aq (ay fI ma mb)):=fw (p4 f) os_eq d hb (cU _)
theorem Ov(f:X.A.units+64<cLine)(d:JE X E a ma)(hb:JE X E b mb):JT X E (.Compare a [.NotEq] [b] pos) (aq (ay fM ma mb)):=fw (rh f) wt d hb (cU _)
theorem O6(d:JE X E a ma)(hb:JE X E b mb):JT X E (.Compare a [.Lt] [b] pos) (aq (ay ou ma mb)):=fw Hb Ha d hb (cU _)
theorem Nb(d:JE X E a ma)(hb:JE X E b mb):JT X E (.Compare a [.GtE] [b] pos) (aq (ay MO ma mb)):=fw Ht G9 d hb (cU _)
theorem Ph(d:JE X E a ma)(hb:JE X E b mb):JT X E (.Compare a [.Is] [b] pos) (aq (ay (Kn false) ma mb)):=fw CK Ib d hb (cU _)
end
noncomputable def JK:Nat:=2^10000
noncomputable def Ar(K:SD):Sp:=λvs H Q _=>∃(p:Addr)(ns:List Int),vs=[.ref p]/\eI K H p (ns.map V.int)/\ns.length<=63/\∀H',Q (.bl true) H'
theorem xy{k:Kx}{G:Hp}:∀(ns:List Int),br k G (ns.map V.int) (ns.map A.int)
 |[]=>.nil
 |n::ns=>.cons (.int n) (xy ns)
theorem Kl{P:Program}{w:zam}{K:SD}{mg:Str->Option Value}{base:Heap}{CX:tL}{k:Nat}{f:Addr}{fd:zaB}{ps:List Str}{m:Ms}(F:fE P w K mg base CX k f fd ps (D4 ⟨K,mg,P,w⟩ 1 m))
  (h:∀ns:List Int,ns.length<=63->∃Z,m [.fr (.lst (ns.map A.int))]=some (.rt (.fr (.bl true)),Z)):fE P w K mg base CX k f fd ps (Ar K):=
 F.imp λvs H Q E q=>by
  obtain⟨p,ns,rfl,hs,hl,q⟩:=q;obtain⟨Z,e⟩:=h ns hl
  let c:Cn:={ K:=K,mg:=mg,P:=P,w:=w,σ0:=[some (.ref p)],H0:=H,Lp:=[],Hd:=[],Wk:=[] }
  refine⟨rfl,c,_,_,Z,rfl,rfl,rfl,⟨.nil,aA.cons (.fr (.lst (f9 (Sq.of λb o e=>?_) hs) (xy ns))) .nil,λp hp=>(by cases hp),⟨λb o e=>⟨o,e,λ_ _=>rfl⟩,λq n=>(by cases n)⟩,λi o _ _=>rfl,rfl,λq n=>(by cases n)⟩,e,λv H' _ b=>?_⟩
  .rw[bJ (λz=>by cases z) (λz=>by cases z)];exact e
  .have r:=Bd.top b rfl;cases r;exact q H'
def qH(m:Mi Rr):Mi Rr:=aT m λr Z=>match bp r Z with
 |some (a,O)=>some (.ok (.fr a),O)
 |none=>none
variable{X:Cx}
theorem HJ{E:XK}{m:Mi Rr}(he:JE X E e m):JE X E e (qH m):=⟨PE.weaken he.p λY H Q h=>by
 obtain⟨c,Z,τ,θ,o,O,A,b,em,q⟩:=h;refine bB A b em (λx v U f t b1 s=>?_) (bF q);cases D:bp x U with
 |none=>rw[D] at s;cases s
 | some p=>rw[D] at s;cases s;exact q v f trivial (Bd.bp (xs:=[]) (ss:=[]) rfl b1 t D)⟩
section
variable{X:Cx}{E:XK}
inductive Ty where|bool|int|str|tuple|list|dict
 deriving DecidableEq
noncomputable def Ty.n:Ty->String
 | .bool=> "bool" | .int=> "int" | .str=> "str" | .tuple=> "tuple" | .list=> "list" | .dict=> "dict"
noncomputable def Qm(T:Ty):A->Option Bool
 | .non=>some false
 | .bl _=>some (T=.bool || T=.int)
 | .int _=>some (T=.int)
 | .str _=>some (T=.str)
 | .tup _=>some (T=.tuple)
 | .lst _=>some (T=.list)
 | .dic _=>some (T=.dict)
 |_=>none
def yh(T:Ty)(a:A):Option Rr:=match Qm T a with
 |some k=>some (.fr (.bl k))
 |none=>none
theorem JZ(K:SD)(T:Ty):Uo K (.type "NoneType") (.type T.n)=some false:=by cases T<;>kernel_rfl
theorem Fh(K:SD)(T:Ty):Uo K (.type "bool") (.type T.n)=some (T=.bool || T=.int:Bool):=by cases T<;>kernel_rfl
theorem IX(K:SD)(T:Ty):Uo K (.type "int") (.type T.n)=some (T=.int:Bool):=by cases T<;>kernel_rfl
theorem Lu(K:SD)(T:Ty):Uo K (.type "str") (.type T.n)=some (T=.str:Bool):=by cases T<;>kernel_rfl
theorem IL(K:SD)(T:Ty):Uo K (.type "tuple") (.type T.n)=some (T=.tuple:Bool):=by cases T<;>kernel_rfl
theorem Jp(K:SD)(T:Ty):Uo K (.type "list") (.type T.n)=some (T=.list:Bool):=by cases T<;>kernel_rfl
theorem Di(K:SD)(T:Ty):Uo K (.type "dict") (.type T.n)=some (T=.dict:Bool):=by cases T<;>kernel_rfl
theorem IE(T:Ty):nA K (λv H Q=>∃x c t b,[v,V.ty T.n]=[x,c]/\IS K.K H x t/\rG c=true/\Uo K.K t (Ac c)=some b/\Q (.bl b) H) (yh T):=.scalar λH v a q g h=>by
 cases a<;>first|exact cu h|skip
 .cases g;cases h;exact⟨_,_,rfl,λ_=>.bl _,λQ k=>⟨_,_,_,_,rfl,.of .non,rfl,JZ _ T,k⟩⟩
 .cases g;cases h;exact⟨_,_,rfl,λ_=>.bl _,λQ k=>⟨_,_,_,_,rfl,.of (.bl _),rfl,Fh _ T,k⟩⟩
 .cases g;cases h;exact⟨_,_,rfl,λ_=>.bl _,λQ k=>⟨_,_,_,_,rfl,.of (.int _),rfl,IX _ T,k⟩⟩
 .cases g;cases h;exact⟨_,_,rfl,λ_=>.bl _,λQ k=>⟨_,_,_,_,rfl,.of (.str _),rfl,Lu _ T,k⟩⟩
 .cases g with
  |tup e r=>cases h;exact⟨_,_,rfl,λ_=>.bl _,λQ k=>⟨_,_,_,_,rfl,.tup e,rfl,IL _ T,k⟩⟩
 .cases g with
  |lst e r=>cases h;exact⟨_,_,rfl,λ_=>.bl _,λQ k=>⟨_,_,_,_,rfl,.lst e,rfl,Jp _ T,k⟩⟩
 .cases g with
  |dic e r=>cases h;exact⟨_,_,rfl,λ_=>.bl _,λQ k=>⟨_,_,_,_,rfl,.dic e,rfl,Di _ T,k⟩⟩
theorem JN{x y:Str}{p:Pos}{m:Mi Rr}(T:Ty)(hg:Gl X x)(hm:X.mg x=none)(hv:zal x=some (.builtin "isinstance"))(hg2:Gl X y)(hm2:X.mg y=none)(hv2:zal y=some (.type T.n))(ha:JE X E e m)(hn:x ≠ "__name__")
  (hdb:gA x)(hn2:y ≠ "__name__")(hdb2:gA y)(hs:zai [e,.Name y p2] X.env=(false,eval e X.env)::zai [.Name y p2] X.env:=by rfl)(hs2:zai [.Name y p2] X.env=(false,eval (.Name y p2) X.env)::zai [] X.env:=by rfl)(hp:(zaG pos (zai [.Name y p2] X.env)).any (·.1)=false:=by rfl):JE X E (.Call (.Name x p) [e,.Name y p2] [] pos) (dw (yh T) m):=
 ⟨PE.weaken (gG Av hg hm hv (bE ha.p (bE (ya hg2 hm2 hv2 (v:=.ty T.n) rfl hn2 hdb2) cN hs2) hs) hn hdb hs hp) λY H Q h=>jx (IE T) Y H Q h⟩
end
section
variable{X:Cx}{E:XK}
def Cd(K:SD):R2:=λx y H Q=>∃a b xs ys,x=.ref a/\y=.ref b/\eI K H a xs/\eI K H b ys/\xs.length+ys.length<=sizeLine/\∀p,H p=none->Q (.ref p) (upd H p (.lst (xs++ys)))
theorem A1:eG X (za3 .Add) (Cd X.K):=by
 intro pins s Y H x y v u Q I o C h;obtain⟨a,b,xs,ys,rfl,rfl,d,hb,hz,q⟩:=h;cases o;cases C;obtain⟨B,g,G,_⟩:=I.list d;obtain⟨Z,k,p2,_⟩:=I.list hb;obtain⟨⟨P,V,i,w⟩,r,D,E,L,O⟩:=id G;obtain⟨⟨S,T,J,t⟩,j,l,U,c,e⟩:=id p2;subst E O U e L c;have m:=g.length;have R:=k.length;refine concat_meets ⟨_,D,rfl⟩ ⟨_,l,rfl⟩ noFill_list_add seq_list_add PySem.F.slot_list_add PySem.F.entry_list_add (PySem.F.args_list_add_2 _ _) (ZP a b _ _ r j _ _ w t (by rw[SM,SM];lia)) ⟨D,l,?_⟩;have z:B.toArray++Z.toArray=(B++Z).toArray:=by simp
 rw[z];exact⟨.ref _,_,I.QZ (g.append k) (by rw[S3];lia),rfl,q _ I.fresh⟩
noncomputable def xJ:A->A->Option Rr
 | .lst xs,.lst ys=>if xs.length+ys.length<=100000 then some (.nw (.lst (xs++ys))) else none
 |_,_=>none
theorem D8:gh K (Cd K.K) xJ:=by
 intro c Y H Z τ θ x y v w a b q Q A t z i D l N k;cases a<;>first|exact cu N|(cases b<;>first|exact cu N|skip)
 rename_i xs ys
 delta xJ at N
 simp only at N;split at N
 .rename_i hc;cases N;obtain⟨L,bl,U,B⟩:=Bd.Ap i t z D l;obtain⟨e,h,rfl,s1,g⟩:=U.1 xs rfl;obtain⟨p2,O,rfl,s2,E⟩:=B.1 ys rfl;have F:=g.len;have j:=E.len;subst A;exact⟨e,p2,h,O,rfl,rfl,s1,s2,by have:=mF;lia,λp hp=>k _ _ trivial (bl.gO hp λG H' sm q=>.lst q ((g.app E).sm sm))⟩
 .cases N
abbrev aW:=bP BQ (bP CF xJ)
theorem Ep{a b:Expr}{H mb:Mi Rr}(d:JE X E a H)(hb:JE X E b mb):JE X E (.BinOp a .Add b pos) (ay aW H mb):=pB (eG.or' LM (eG.or' vB A1)) (Eo.or (Em.or D8)) d hb
end
section
variable{X:Cx}{E:XK}
def Qi(i:Nat):Mi Rr:=λZ=>match aO Z i with
 |some (.lst _)=>some (.ok (.fr .non),setAt Z i (.lst []))
 |_=>none
theorem br.dropLast{K:Kx}{G:Hp}:∀{vs:List V}{as:List A},br K G vs as->br K G vs.dropLast as.dropLast
 |_,_,.nil=>.nil
 |_,_,.cons h .nil=>.nil
 |_,_,.cons h (.cons h2 r)=>.cons h (br.dropLast (.cons h2 r))
def qO(i:Nat):Mi Rr:=λZ=>match aO Z i with
 |some (.lst xs)=>match xs[xs.length-1]? with
  |some a=>some (.ok (.fr a),setAt Z i (.lst xs.dropLast))
  |none=>none
 |_=>none
theorem J8{x:Str}{px:Pos}(hN:X.N[i]?=some x)(hv:pD X.env.scope x)(hd:gA x)(hcd:sX x)
  (hbase:zaI (.Name x px) "pop" X.env (eval (.Name x px) X.env)=eval (.Name x px) X.env:=by rfl)(hline:(apos.endLine==cpos.line)=true:=by rfl):
  JE X E (.Call (.Attribute (.Name x px) "pop" apos) [] [] cpos) (qO i):=
 ⟨PE.weaken (Mm Vh Xp Xq Ja (cG hN hv hd hcd) hbase hline) λY H Q h=>by
  obtain⟨c,Z,τ,θ,o,O,ek,b,em,q⟩:=h
  delta qO at em
  cases e2:aO Z i with
  |none=>rw[e2] at em;cases em
  |some lo=>
   cases lo with
   |dic _=>rw[e2] at em;cases em
   |dit _=>rw[e2] at em;cases em
   |obj _ _=>rw[e2] at em;cases em
   |nob _ _ _=>rw[e2] at em;cases em
   |lst xs=>
    rw[e2] at em;cases e3:xs[xs.length-1]? with
    |none=>simp only[e3] at em;cases em
    |some a=>
     simp only[e3] at em;cases em;obtain⟨p,vs,hp,hH⟩:=fJ b e2;obtain⟨L,bl⟩:=b;obtain⟨p',_,h1,h2,h3⟩:=bl.live e2 (.lst xs) (.lst []);rw[hp] at h1;cases h1;cases h2 with
     |lst e rr=>
      rw[hH] at e;cases e;obtain⟨v,g1,g2⟩:=rr.ta e3;obtain⟨L1,bl1⟩:=bl.push g2;obtain⟨p2,_,k1,k2,k3⟩:=bl1.live e2 (.lst xs.dropLast) (.lst vs.dropLast);rw[hp] at k1;cases k1;cases k2 with
      | lst e' rr'=>rw[hH] at e';cases e';refine⟨_,hp,.inl ⟨rfl,vs,.inl (.inl hH)⟩,?_⟩;exact⟨p,vs,v,rfl,rfl,hH,by rw[rr.len];exact g1,q _ _ trivial (k3 λH' hh=>.lst hh rr'.dropLast)⟩⟩
end
section
variable{X:Cx}{E:XK}
def Sx(Z:List Sl)(i:Nat):Bool:=match aO Z i with
 |some (.dic _)=>true
 |_=>false
end
inductive gX(K:SD)(H:Hp)(kb:List (Key×V)):List (Key×V)->Bool->Prop
 |nil:gX K H kb [] true
 |miss{k:Key}{v:V}{r:List (Key×V)}(h:fQ kb k=none):gX K H kb ((k,v)::r) false
 |hit{k:Key}{v y:V}{r:List (Key×V)}{d e:D}{b:Bool}(h:fQ kb k=some y)(hd:Den K H v d)(he:Den K H y e)(dp:D.depth d<=40)(t:gX K H kb r b):gX K H kb ((k,v)::r) (D.eq d e&&b)
def gW(kb:List (Key×A)):List (Key×A)->Option Bool
 |[]=>some true
 |(k,a)::r=>match l9 kb k with
  |none=>some false
  |some b=>match jL a b,gW kb r with
   |some e,some t=>some (e&&t)
   |_,_=>none
theorem k6{K:Kx}{H:Hp}{Y:List (Key×V)}{kb:List (Key×A)}(b:fz K H Y kb):∀{Z:List (Key×V)}{v:List (Key×A)}{r:Bool},fz K H Z v->gW kb v=some r->gX K.K H Y Z r
 |_,_,_,.nil,h=>by cases h;exact .nil
 |_,_,_,.cons (y:=y) (a:=a) (as:=as) h0 r0,h=>by
  unfold gW at h;rcases b.get y with ⟨x,a',q,g,L⟩|⟨q,g⟩
  .rw[g] at h;cases D:jL a a' with
   |none=>simp only[D] at h;cases h
   |some e=>
    cases l:gW kb as with
    |none=>simp only[D,l] at h;cases h
    |some t=>simp only[D,l] at h;cases h;obtain⟨d,f,i,n,F,rfl⟩:=gN D;exact .hit q (dY h0 i) (dY L n) F (k6 b r0 l)
  .rw[g] at h;cases h;exact .miss q
section
variable{X:Cx}{E:XK}
noncomputable def xo(K:SD):R2:=λx y H Q=>∃a b v kb r,x=.ref a/\y=.ref b/\Rd H a (.dK v)/\Rd H b (.dK kb)/\gX K H kb v r/\Q (.bl (!(v.length==kb.length&&r))) H
noncomputable def vW(K:SD):R2:=λx y H Q=>∃a b v kb r,x=.ref a/\y=.ref b/\Rd H a (.dK v)/\Rd H b (.dK kb)/\gX K H kb v r/\Q (.bl (v.length==kb.length&&r)) H
theorem uO{pins:List (Addr×Obj)}{Y:St}{s:Shared}{A:zan}(I:Inv X pins Y H s)(f:A.units+40<cLine){kb:List (Key×V)}{c:List (Key×Value)}(E:KV kb c){L:List (Key×V)}{r:Bool}(h:gX X.K H kb L r):∀{Z:List (Key×Value)},KV L Z->PySem.W.KeqHits A s c Z r:=by
 induction h with
 |nil=>intro Z q;cases q;exact .nil
 |@miss k v r h=>
  intro Z q;cases q with
  |@cons _ p _ ps B C=>obtain⟨k',x⟩:=p;obtain⟨e,U⟩:=B;subst e;exact .miss (jv.none_of (by rw[<-h];exact E.val k))
 |@hit k v y r d e b h hd he dp t m=>
  intro Z q;cases q with
  |@cons _ p _ ps B C=>obtain⟨k',x⟩:=p;obtain⟨e,U⟩:=B;subst e;obtain⟨w,G,a⟩:=jv.some_of (by rw[<-h];exact E.val k);exact .hit G (dR I 40 f dp hd he U a) (m C)
theorem pE(f:X.A.units+64<cLine):eG X (zaz .NotEq) (xo X.K):=by intro pins s Y H x y v u Q I o C h;obtain⟨a,b,L,kb,r,rfl,rfl,Z,O,c,q⟩:=h;cases o;cases C;obtain⟨e,w,E,g,V⟩:=L2.cW I.hok Z;obtain⟨U,t,F,k,T⟩:=L2.cW I.hok O;refine PySem.W.keq_ne w t V T XV (λ_=>uO I (by show X.A.in1.units+40<cLine;rw[show X.A.in1.units=X.A.units+1 from rfl];lia) k c g) ?_;rw[<-g.length,<-k.length];exact⟨.bl _,H,I,rfl,q⟩
theorem oq(f:X.A.units+64<cLine):eG X (zaz .Eq) (vW X.K):=by intro pins s Y H x y v u Q I o C h;obtain⟨a,b,L,kb,r,rfl,rfl,Z,O,c,q⟩:=h;cases o;cases C;obtain⟨e,w,E,g,V⟩:=L2.cW I.hok Z;obtain⟨U,t,F,k,T⟩:=L2.cW I.hok O;refine YD w t V T XV (λ_=>uO I (by show X.A.in1.units+40<cLine;rw[show X.A.in1.units=X.A.units+1 from rfl];lia) k c g) ?_;rw[<-g.length,<-k.length];exact⟨.bl _,H,I,rfl,q⟩
def qC(v kb:List (Key×A)):Option Bool:=match gW kb v with
 |some r=>some (v.length==kb.length&&r)
 |none=>none
def jk:A->A->Option Rr
 | .dic ka,.dic kb=>match qC ka kb with
  |some r=>some (.fr (.bl r))
  |none=>none
 |_,_=>none
def kD:A->A->Option Rr
 | .dic ka,.dic kb=>match qC ka kb with
  |some r=>some (.fr (.bl (!r)))
  |none=>none
 |_,_=>none
theorem oK:gh K (xo K.K) kD:=.scalar λH v w a b q g p h=>by
 cases a<;>first|exact cu h|(cases b<;>first|exact cu h|skip)
 rename_i L kb
 delta kD qC at h
 cases e:gW kb L with
 |none=>simp only[e] at h;cases h
 |some r=>
  simp only[e] at h;cases h;cases g with
  |dic D Y=>
   cases p with
   |dic l R=>exact⟨_,_,rfl,λ_=>.bl _,λQ k=>⟨_,_,_,_,_,rfl,rfl,D,l,k6 R Y e,by rw[Y.len,R.len];exact k⟩⟩
theorem oV:gh K (vW K.K) jk:=.scalar λH v w a b q g p h=>by
 cases a<;>first|exact cu h|(cases b<;>first|exact cu h|skip)
 rename_i L kb
 delta jk qC at h
 cases e:gW kb L with
 |none=>simp only[e] at h;cases h
 |some r=>
  simp only[e] at h;cases h;cases g with
  |dic D Y=>
   cases p with
   |dic l R=>exact⟨_,_,rfl,λ_=>.bl _,λQ k=>⟨_,_,_,_,_,rfl,rfl,D,l,k6 R Y e,by rw[Y.len,R.len];exact k⟩⟩
variable{a b:Expr}{ma mb:Mi Rr}{pos:Pos}
end
end M
set_option maxHeartbeats 4000000
set_option maxHeartbeats 1000000
namespace M
open PySem L2
noncomputable def Hx(i j:Str):Bool:=!(VF j i 0 j.length 1).isEmpty
def uy(neg:Bool):A->A->Option Rr
 | .str i,.str j=>some (.fr (.bl (if neg then !(Hx i j) else Hx i j)))
 |_,_=>none
section
variable{X:Cx}{E:XK}{a b:Expr}{ma mb:Mi Rr}{pos:Pos}
theorem xi{K:Kx}:gh K (λx y H Q=>∃i j,x=.str i/\y=.str j/\Q (.bl (!(!(VF j i 0 j.length 1).isEmpty))) H) (uy true):=.scalar λH v w a b q g p h=>by
 cases a<;>first|exact cu h|skip
 cases b<;>first|exact cu h|skip
 cases g;cases p;cases h;exact⟨_,_,rfl,λ_=>.bl _,λQ k=>⟨_,_,rfl,rfl,k⟩⟩
theorem Gg(f:X.A.units+1<cLine)(d:JE X E a ma)(hb:JE X E b mb)(T:zat .NotIn b=false):JE X E (.Compare a [.NotIn] [b] pos) (ay (bP (bP (nZ true) (jr true)) (uy true)) ma mb):=hY (LL f d hb T) (fC iV xi d hb T)
theorem FH(f:X.A.units+1<cLine)(d:JE X E a ma)(hb:JE X E b mb)(T:zat .NotIn b=false):JT X E (.Compare a [.NotIn] [b] pos) (aq (ay (bP (bP (nZ true) (jr true)) (uy true)) ma mb)):=jR (Ji f d hb T) (fw iV xi d hb T)
end
def Lq(G G':Hp):Prop:=∀a u,G a=some u->(∀ws,u≠.lst ws)->G' a=some u
theorem qw(l:Addr)(xs:Array Value)(n:Nat)(b:Addr)(ys:Array Value)(Q:Nat)(T:Option Addr)(H:Array (Option Value))(B:¬ (!xs.isEmpty&&VC (xs.size+ys.size))=true)(h1:xs.size<=sizeLine)(h2:xs.size+ys.size<=sizeLine+1):
  Meets (Builtin.«list.extend» ⟨[.ref l,.ref b],[]⟩) (λ_ R s=>s.heap.get? l=some { cls:=.type "list",data:=.seq xs n }/\s.heap.get? b=some { cls:=.type "list",dict:=T,data:=.seq ys Q,slots:=H }/\R (.ok (.ret WW)) { s with heap:=s.heap.update l (UZ λx=>x++ys),toks:=s.toks }):=
 .of_wp λprog w A R s h=>by
  obtain⟨hl,hb,h⟩:=h
  wp_walk using (zbI hl rfl),WT hl,WT hb
  exact⟨_,rfl,h⟩
variable{i:Nat}{px apos cpos:Pos}{e:Expr}
section
variable{X:Cx}{E:XK}
def DS(K:SD):V->List V->Hp->VK->Prop:=λx vs H Q=>∃l b xs zs,x=.ref l/\vs=[.ref b]/\H l=some (.lst xs)/\eI K H b zs/\xs.length+zs.length<=sizeLine/\Q .non (upd H l (.lst (xs++zs)))
theorem vp:PN X "list.extend" (DS X.K):=by
 intro pins s Y H x vs v us Q I o C h;obtain⟨l,b,xs,zs,rfl,rfl,p,O,hz,q⟩:=h;cases o;obtain⟨u,rfl,S⟩:=C.one;cases S;obtain⟨z,B,n,r,hl,e⟩:=I.EY p;obtain⟨Z,k,T,_⟩:=I.list O;obtain⟨⟨E,P,L,t⟩,j,G,U,c,y⟩:=id T;subst U y c;have R:=k.length;have hsz:B.toArray.size+Z.toArray.size<=sizeLine:=by rw[SM,SM];lia
 have a:¬ (!B.toArray.isEmpty&&VC (B.toArray.size+Z.toArray.size))=true:=by rw[Cv hsz,Vq];exact To
 refine zbB WY ⟨_,e,rfl⟩ PySem.F.entry_list_extend (PySem.F.args_list_extend_2 _ _)
  (qw l B.toArray n b Z.toArray j _ _ a (by rw[SM];lia) T6) ⟨e,G,?_⟩
 refine⟨.non,_,I.E5 p e T1 (r.append k) ?_,rfl,q⟩;rw[S3];exact fL
def lC(i:Nat)(m:Mi Rr):Mi Rr:=aT m λr Z=>match bp r Z with
 |some (.lst zs,U)=>match aO U i with
  |some (.lst xs)=>if xs.length+zs.length<=100000 then some (.ok (.fr .non),setAt U i (.lst (xs++zs))) else none
  |_=>none
 |_=>none
theorem yq{x:Str}{m:Mi Rr}(hN:X.N[i]?=some x)(hv:pD X.env.scope x)(hd:gA x)(hcd:sX x)(he:JE X E e m)
  (hbase:zaI (.Name x px) "extend" X.env (eval (.Name x px) X.env)=eval (.Name x px) X.env:=by rfl)
  (hfew:((zaG cpos (zai [e] X.env)).all (λx=>!x.1)&&(zbO cpos (zbf [] X.env)).all (λx=>x.1.isSome)&&decide (([e]:List Expr).length+([]:List za1).length+(if ([]:List za1).isEmpty then 0 else 1)<30))=true:=by rfl)
  (hline:(apos.endLine==cpos.line)=true:=by rfl)(hs:zai [e] X.env=(false,eval e X.env)::zai [] X.env:=by rfl)(hplain:(zaG cpos (zai [] X.env)).any (·.1)=false:=by rfl):
  JE X E (.Call (.Attribute (.Name x px) "extend" apos) [e] [] cpos) (fK i (lC i m)):=
 ⟨PE.weaken (xb Vh WY PySem.F.type_list_extend vp (cG hN hv hd hcd) (bE he.p cN hs) hbase hfew hline hs hplain) λY H Q h=>by
  obtain⟨c,Z,τ,θ,o,O,ek,b,em,q⟩:=h
  delta fK at em
  split at em
  .rename_i hl;obtain⟨xs0,hl⟩:=jh hl;obtain⟨p,vs,hp,hH⟩:=fJ b hl;refine⟨_,hp,.inl ⟨rfl,vs,.inl (.inl hH)⟩,?_⟩;refine bB ek b em (λr v U H1 hv b1 em1=>?_) (bF q);cases e1:bp r U with
   |none=>rw[e1] at em1;cases em1
   |some pr=>
    obtain⟨a,Z'⟩:=pr;rw[e1] at em1;have b2:=Bd.bp (xs:=[]) (ss:=[]) rfl b1 hv e1;cases a<;>first|(simp only at em1;cases em1;done)|skip
    rename_i zs;cases e2:aO Z' i with
    |none=>simp only[e2] at em1;cases em1
    |some lo=>
     cases lo with
     |dic _=>simp only[e2] at em1;cases em1
     |dit _=>simp only[e2] at em1;cases em1
     |obj _ _=>simp only[e2] at em1;cases em1
     |nob _ _ _=>simp only[e2] at em1;cases em1
     |lst xs=>
      simp only[e2] at em1;split at em1
      .rename_i hx;cases em1;obtain⟨L,bl,ra⟩:=Bd.um b2;cases ra with
       |lst se sr=>
       rename_i pb us;obtain⟨p',_,h1,h2,h3⟩:=bl.live e2 (.lst (xs++zs)) (.lst ((match H1 p with|some (.lst ws)=>ws|_=>[])++us));rw[hp] at h1;cases h1;cases h2 with
       |lst e rr=>rename_i ws;rw[e] at h3;have eK:c.K=X.K:=zcy Kx.K ek;have n1:=rr.len;have n2:=sr.len;refine⟨p,pb,ws,us,rfl,rfl,e,by rw[<-eK];exact f9 (g_same _ _ _) se,by have:=vE;lia,q _ _ trivial (Bd.push (h3 λH' hh=>.lst hh (rr.app sr)) λ_=>.non)⟩
      .cases em1
  .cases em⟩
def jM(i:Nat)(m:Mi Rr):Mi Rr:=fK i (aT m λr Z=>match res Z r,aO Z i with
 | some (.int k),some (.lst xs)=>if -(2^60)<=k/\k<2^60 then (match zbj k xs.length with
  |some j=>match xs[j]? with
   |some a=>some (.ok (.fr a),setAt Z i (.lst (xs.eraseIdx j)))
   |none=>none
  | none=>none) else none
 | _,_=>none)
theorem br.erase{K:Kx}{G:Hp}:∀{vs:List V}{as:List A}(j:Nat),br K G vs as->br K G (vs.eraseIdx j) (as.eraseIdx j)
 |_,_,_,.nil=>.nil
 |_,_,0,.cons h r=>r
 |_,_,j+1,.cons h r=>.cons h (r.erase j)
theorem DT{x:Str}{m:Mi Rr}(hN:X.N[i]?=some x)(hv:pD X.env.scope x)(hd:gA x)(hcd:sX x)(he:JE X E e m)
  (hbase:zaI (.Name x px) "pop" X.env (eval (.Name x px) X.env)=eval (.Name x px) X.env:=by rfl)
  (hfew:((zaG cpos (zai [e] X.env)).all (λx=>!x.1)&&(zbO cpos (zbf [] X.env)).all (λx=>x.1.isSome)&&decide (([e]:List Expr).length+([]:List za1).length+(if ([]:List za1).isEmpty then 0 else 1)<30))=true:=by rfl)
  (hline:(apos.endLine==cpos.line)=true:=by rfl)(hs:zai [e] X.env=(false,eval e X.env)::zai [] X.env:=by rfl)(hplain:(zaG cpos (zai [] X.env)).any (·.1)=false:=by rfl):
  JE X E (.Call (.Attribute (.Name x px) "pop" apos) [e] [] cpos) (jM i m):=
 ⟨PE.weaken (xb Vh Xp Xq CO (cG hN hv hd hcd) (bE he.p cN hs) hbase hfew hline hs hplain) λY H Q h=>by
  obtain⟨c,Z,τ,θ,o,O,ek,b,em,q⟩:=h
  delta jM fK at em
  split at em
  .rename_i hl;obtain⟨xs0,hl⟩:=jh hl;obtain⟨p,vs,hp,hH⟩:=fJ b hl;refine⟨_,hp,.inl ⟨rfl,vs,.inl (.inl hH)⟩,?_⟩;refine bB ek b em (λr v U H1 hv b1 em1=>?_) (bF q);cases e1:res U r with
   |none=>rw[e1] at em1;cases em1
   |some a=>
    cases a<;>first|(rw[e1] at em1;cases em1;done)|skip
    rename_i k;rw[e1] at em1;have rv:=Bd.rd b1 hv e1;cases rv;cases e2:aO U i with
    |none=>rw[e2] at em1;cases em1
    |some lo=>
     cases lo with
     |dic _=>rw[e2] at em1;cases em1
     |dit _=>rw[e2] at em1;cases em1
     |obj _ _=>rw[e2] at em1;cases em1
     |nob _ _ _=>rw[e2] at em1;cases em1
     |lst xs=>
      simp only[e2] at em1;split at em1
      .rename_i hk;cases e3:zbj k xs.length with
       |none=>rw[e3] at em1;cases em1
       |some j=>
        rw[e3] at em1;cases e4:xs[j]? with
        |none=>simp only[e4] at em1;cases em1
        |some a=>
         simp only[e4] at em1;cases em1;have b2:=Bd.drop b1;obtain⟨p0,ws,hp0,hH1⟩:=fJ b2 e2;rw[hp] at hp0;cases hp0;obtain⟨L,bl⟩:=b2;obtain⟨p',_,h1,h2,h3⟩:=bl.live e2 (.lst xs) (.lst []);rw[hp] at h1;cases h1;cases h2 with
         |lst e rr=>
          rw[hH1] at e;cases e;obtain⟨u,g1,g2⟩:=rr.ta e4;obtain⟨L1,bl1⟩:=bl.push g2;obtain⟨p2,_,k1,k2,k3⟩:=bl1.live e2 (.lst (xs.eraseIdx j)) (.lst (ws.eraseIdx j));rw[hp] at k1;cases k1;cases k2 with
          |lst e' rr'=>rw[hH1] at e';cases e';exact⟨p,ws,k,j,u,rfl,rfl,hH1,by lia,by lia,by rw[rr.len];exact e3,g1,q _ _ trivial (k3 λH' hh=>.lst hh (rr'.erase j))⟩
      .cases em1
  .cases em⟩
end
end M
set_option maxHeartbeats 4000000
set_option maxHeartbeats 1000000
namespace M
open PySem L2
def Ql:Option Sl->Bool
 |some s=>cst s
 |none=>false
def fW(i:Nat)(X' Z:List Sl):Bool:=(Tc Z.length).all λj=>j==i || !(Ql Z[j]?) || Ql X'[j]?
end M
set_option maxHeartbeats 4000000
set_option maxHeartbeats 1000000
namespace M
open PySem L2
variable{c:Cn}{U:List Sl}
section
variable{X:Cx}{E:XK}
theorem rV{J:It}{G:Mg}{mb:Ms}{T τ:St}{S θ:List A}{as:List A}{f:Fl}{O:List Sl}{D:Ends}(I:c.toKx=kx X)(b:T.length=S.length)
  (it:∀Y H Z i,Bd c Y H Z (T++τ) (S.map Sl.fr++θ.map Sl.fr)->(as.length<=i->J.stop i H)/\∀a,as[i]?=some a->J.go i H/\∀x H',J.yld i H x H'->Bd c Y H' Z (some x::(T++τ)) (.fr a::(S.map Sl.fr++θ.map Sl.fr)))
  (q:yH (kx X) E c O τ θ D f){Y:St}{F:Hp}(b1:Bd c Y F U (T++τ) (S.map Sl.fr++θ.map Sl.fr))(l:forL G mb as U=some (f,O)):P7 J (MI (kx X) 0 G) (Q8 (kx X) E mb) D Y F:=by
 refine⟨λi m Y' H'=>m=as.length-i/\i<=as.length/\∃R,Bd c Y' H' R (T++τ) (S.map Sl.fr++θ.map Sl.fr)/\forL G mb (as.drop i) R=some (f,O),⟨_,rfl,Tu _,U,b1,by simpa using l⟩,?_⟩;rintro i m Y' H' ⟨rfl,hi,R,g,h⟩;obtain⟨z,B⟩:=it Y' H' R i g;by_cases w:i<as.length
 .have hd:as.drop i=as[i]::as.drop (i+1):=TJ w;rw[hd] at h;obtain⟨go,u⟩:=B as[i] (by simp[w]);refine .inr ⟨go,λP j=>∃Z',Bd c P j Z' (T++τ) (S.map Sl.fr++θ.map Sl.fr)/\forL G mb (as.drop (i+1)) Z'=some (f,O),λP j ⟨Z',k,n⟩=>⟨as.length-(i+1),by lia,rfl,w,Z',k,n⟩,λx j y=>?_⟩;have b2:=u x j y;unfold forL at h;revert h;cases o:G as[i] R with
  |none=>intro h;cases h
  |some Z'=>
   intro h;dsimp only at h;refine⟨c,R,_,_,as[i],Z',I,b2,o,λV H3 _ _ N=>?_⟩;revert h;cases d:mb Z' with
   |none=>intro h;cases h
   |some p=>
    obtain⟨r,V'⟩:=p;intro h;refine⟨c,Z',T++τ,S++θ,r,V',I,by rw[S9];exact N,d,?_⟩;cases r with
    |nx=>intro Q L K;rw[S9] at K;exact⟨V',K,h⟩
    |ct=>intro Q L K;rw[S9] at K;exact⟨V',K,h⟩
    |bk=>cases h;intro Q L K;rw[S9] at K;exact q Q L (Bd.vh (by simp[b]) K)
    |rt s=>cases h;intro v Q L hs K;rw[S9] at K;exact q v Q L hs (Bd.vP (by simp[b]) K)
    |ex x=>cases h;intro C Q L t K;rw[S9] at K;exact q C Q L t (Bd.vh (by simp[b]) K)
 .have e:i=as.length:=by lia
  subst e;rw[Vc] at h;cases h;exact .inl ⟨z (SO _),q Y' H' (Bd.vh (by simp[b]) g)⟩
theorem Bd.Pk{Y:St}{H:Hp}{Z:List Sl}{τ:St}{θ:List Sl}{j:Nat}{a:A}(b:Bd c Y H Z τ θ)(I:aj j Z=some (.ok (.fr a),U)):Bd c Y H U τ θ/\(U[j]?=some (.fr a)\/U[j]?=some (.cf a)):=by
 delta aj at I
 revert I
 cases es:Z[j]? with
 |none=>intro I;cases I
 |some s=>
  cases s with
  |un=>intro I;cases I
  |cf _=>intro I;cases I;exact⟨b,.inr es⟩
  |pv o=>intro I;cases I
  |fr a=>intro I;cases I;exact⟨b,.inl es⟩
  |lv o=>intro I;cases I;exact⟨b.qk es,.inl (by rw[Tt (SF.mp es).1])⟩
theorem Kw{k:Kx}{G:Hp}(y:Key):RA k G (kV y) (Jw y):=by cases y with|inl i=>exact .int i|inr x=>exact .str x
end
end M
set_option maxHeartbeats 4000000
namespace L2
open PySem PySem.Spec PyProof.Rows PySem.W
section
variable{prog:Program}{w:zam}{A:zan}{E:Value->Shared->Prop}{s:Shared}
theorem set_same{a:Addr}{h h':Heap}{S:Key->Bool}{n:Nat}(x:h.SetOf (aC prog w) a S n)(e:∀o,h.get? a=some o->h'.get? a=some o):h'.SetOf (aC prog w) a S n:=let ⟨o,es,ep,t,ho,r⟩:=x;⟨o,es,ep,t,e _ ho,r⟩
end
end L2
set_option maxHeartbeats 1000000
namespace L2
open PySem PySem.Spec PyProof.Rows PySem.W PySem.SeqAt PySem.MeetsSeq PySem.MeetsSeq2 PySem.MeetsSeq3
def Ej(prog:Program)(w:zam)(A:zan)(s:Shared)(x y:Value)(r:Bool):Prop:=∀(E:Value->Shared->Prop)(Q:Bool->Shared->Prop),Q r s->zaj (zak prog w) A (eqBool x y) Q E s
noncomputable abbrev PR(R:Option Addr)(b:Array Value)(n:Nat)(sl:Array (Option Value)):Obj:={ cls:=.type "list",dict:=R,data:=.seq b n,slots:=sl }
variable{prog:Program}{w:zam}{us vs:Array Value}
theorem Ae{l b:Addr}{n m:Nat}{Z de:Option Addr}{sl sm:Array (Option Value)}(hsz:us.size=vs.size)(e:Nat->Bool)(k:Nat):
  ∀i:Nat,us.size-i=k->MeetsIn prog w (Builtin.«list.__eq__.loop» ⟨[.ref l,.ref b,zaL i,zaL 3],[]⟩)
   (λA R s=>s.heap.get? l=some (PR Z us n sl)/\s.heap.get? b=some (PR de vs m sm)/\(∀j (h1:j<us.size) (h2:j<vs.size),Ej prog w A.in1 s us[j] vs[j] (e j))/\R (.ok (.ret (.bool (!((Tc us.size).drop i).all e)))) s):=by
 induction k with
 |zero=>
  intro i hk A R s h;obtain⟨gl,q,he,h⟩:=h
  wp_walk using zaC gl,zaC q
  rw[show us[((i:Nat):Int).toNat]?=none by simp;lia,show vs[((i:Nat):Int).toNat]?=none by simp;lia];rw[show (Tc us.size).drop i=[] by simp;lia] at h
  wp_walk using zaC gl,zaC q
  show R (.ok (.ret (.bool (us.size != vs.size)))) _;rw[hsz];simpa using h
 |succ k v=>
  intro i hk A R s h;obtain⟨hp,g,d,tk,os⟩:=s;obtain⟨gl,q,he,h⟩:=h
  wp_walk using zaC gl,zaC q
  have H:i<us.size:=by lia
  have a:i<vs.size:=by lia
  have Y:us[((i:Nat):Int).toNat]?=some us[i]:=by simp[H]
  have y:vs[((i:Nat):Int).toNat]?=some vs[i]:=by simp[a]
  rw[show (Tc us.size).drop i=i::(Tc us.size).drop (i+1) by simp[TJ,H],T5] at h;rw[Y,y];refine zaf (he i H a _ _ ?_);cases x:e i with
  |true=>
   rw[x] at h
   wp_walk
   rw[show ((i:Int)+1)=((i+1:Nat):Int) by push_cast;rfl];refine⟨zaY plain_eq_loop _,zaK entry_eq_loop ?_⟩;rw[We plain_eq_loop _];exact v (i+1) XV A R _ ⟨gl,q,he,by simpa using h⟩
  |false=>
   rw[x] at h
   wp_walk using zaC gl,zaC q
   rw[Y,y]
   wp_walk
   simpa using h
theorem zd{A:zan}{E:Value->Shared->Prop}{s:Shared}{l b:Addr}{Q:Value->Shared->Prop}{e:Nat->Bool}(hl:s.heap.IsList l us)(hb:s.heap.IsList b vs)(hsz:us.size=vs.size)(f:A.units<cLine)
  (he:∀j (h1:j<us.size) (h2:j<vs.size),Ej prog w A.in1 s us[j] vs[j] (e j))(h:Q (.bool (!(Tc us.size).all e)) s):zaj (zak prog w) A (richCompare .NotEq (.ref l) (.ref b)) Q E s:=by
 obtain⟨⟨P,Z,a,sl⟩,ho,hc,n,hd⟩:=id hl;obtain⟨⟨Y,de,x,sm⟩,q,U,m,y⟩:=id hb;subst hc hd U y;have r:s.TypeIs (.ref l) "list" := ⟨_,ho,rfl⟩
 have tb:s.TypeIs (.ref b) "list" := ⟨_,q,rfl⟩
 refine zaZ r tb XB (zb7 XB r PySem.F.entry_list_ne (PySem.F.args_list_ne_2 _ _) (S:=λA R s=>s.heap.get? l=some (PR Z us n sl)/\s.heap.get? b=some (PR de vs m sm)/\(∀j (h1:j<us.size) (h2:j<vs.size),Ej prog w A.in1 s us[j] vs[j] (e j))/\R (.ok (.ret (.bool (!(Tc us.size).all e)))) s) ?_ ⟨ho,q,he,(λz=>nomatch z),h⟩) f;intro A R s h;obtain⟨gl,H,he,h⟩:=h;have sub:=AutoSeq1.sub_list_list
 wp_walk using zaC gl,zaC H
 refine⟨zaY plain_eq_loop _,zaK entry_eq_loop ?_⟩;exact Ae hsz e _ 0 rfl A R _ ⟨gl,H,he,by simpa using h⟩
end L2
namespace M
open PySem L2
variable{ka:List (Key×V)}{pins:List (Addr×Obj)}{H:Hp}{s:Shared}{r:Bool}
section
variable{X:Cx}{E:XK}
theorem Br(nd:(ka.map (·.1)).Nodup):∀s∈ka,fQ ka s.1=some s.2:=by
 induction ka with
 |nil=>intro s h;cases h
 |cons p l m=>
  intro s h;rw[S4,Tz] at nd
  delta fQ
  rcases SR.mp h with rfl|h
  .simp
  .have:p.1≠s.1:=λz=>nd.1 (by rw[z];exact List.mem_map_of_mem h);have:=m nd.2 s h;unfold fQ at this;simp_all
theorem zq{Y:St}(I:Inv X pins Y H s){l:List (Key×V)}(h:gX X.K H ka l r)(T:∀q∈l,fQ ka q.1=some q.2):r=true:=by
 induction h with
 |nil=>rfl
 |@miss k v r h=>rw[T (k,v) SH] at h;cases h
 |@hit k v y r d e b h hd he dp t m=>rw[T (k,v) SH] at h;cases h;rw[hd.inj I he,D.jt,m λq a=>T q (SK _ a)];rfl
theorem zo{Y:St}{A:zan}(I:Inv X pins Y H s)(f:A.units+41<cLine){a b:Addr}{kb:List (Key×V)}(Z:Rd H a (.dK ka))(O:Rd H b (.dK kb))(c:gX X.K H kb ka r):Ej X.prog X.w A s (.ref a) (.ref b) (ka.length==kb.length&&r):=by
 obtain⟨v,F,x,g,y⟩:=L2.cW I.hok Z;obtain⟨U,t,G,k,T⟩:=L2.cW I.hok O;by_cases h:a=b
 .subst h;have e:ka=kb:=by obtain⟨o,h1,h2⟩:=Dj Z;obtain⟨o',h3,h4⟩:=Dj O;rw[h1] at h3;cases h3;rw[h2] at h4;cases h4;rfl
  subst e;have nd:(ka.map (·.1)).Nodup:=by rw[g.keys];obtain⟨_,_,_,_,_,_,_,_,q⟩:=y;exact q
  rw[zq I c (Br nd)];rw[beq_self_eq_true,Xr];exact λE Q n=>(XM _:UW A s (.ref a) (.ref a) true) _ _ E Q n
 .intro E Q n;refine zau ?_;refine PySem.wpAny_ite_split (λz=>absurd (by have:=eq_of_beq z;injection this) h) (λ_=>?_);refine zaf ?_;exact YD F t y T XV (λ_=>uO I (by show A.units+1+40<cLine;exact PM) k c g) (by rw[<-g.length,<-k.length];exact zaP n)
theorem range_all(rs:List Bool):(Tc rs.length).all (λj=>rs.getD j true)=rs.all id:=by
 rw[WO,Tq,Tq];constructor
 .intro h x hx;obtain⟨j,U,e⟩:=Wo hx;have:=h j (Ts.mpr U);rw[Us,SG U,e] at this;exact this
 .intro h j U;have U:=Ts.mp U;rw[Us,SG U];exact h _ (TR U)
variable{a b:Expr}{ma mb:Mi Rr}{pos:Pos}
end
end M
set_option maxHeartbeats 4000000
namespace L2
open PySem PySem.Spec PyProof.Rows PySem.W
section
variable{prog:Program}{w:zam}{A:zan}{E:Value->Shared->Prop}{s:Shared}
noncomputable abbrev tP(led:Bool):Obj:={ cls:=.type "set",dict:=none,data:=.set #[] 0 (.fresh 0 0 led) }
end
end L2
set_option maxHeartbeats 1000000
namespace M
open PySem L2
section
variable{X:Cx}{E:XK}
open PySem.Spec PyProof.Rows PySem.W in
end
open PySem.W (KasT kas_asc kas_desc kas_rev kas_tail3 kas_descPart kas_count kas_place kas_bin kas_sort)
open PyProof.Rows (mirror_perm bubble_perm bubble)
section
open PySem.Spec PyProof.Rows PySem.W PySem.Calls
variable{prog:Program}{w:zam}{A:zan}{E:Value->Shared->Prop}{s:Shared}
theorem sC:∀{vs:List Value},vs.length<2->(vs.toArray.zip vs.toArray).map (·.2)=UB ((Tc vs.length).map λi=>vs.getD i .none)
 |[],_=>by simp
 |[_],_=>by simp[Tc,Tc.loop]
 |_::_::_,h=>absurd h T1
end
section
variable{X:Cx}{E:XK}
theorem Vals.pick{vs:List V}{us:List Value}(r:Vals vs us):∀(p:List Nat),Vals (p.map λi=>vs.getD i .non) (p.map λi=>us.getD i .none)
 |[]=>.nil
 | i::p=>.cons (by
   have go:∀{vs:List V}{us:List Value}(i:Nat),Vals vs us->RelV (vs.getD i .non) (us.getD i .none):=by
    intro vs us i r;induction r generalizing i with
    |nil=>exact rfl
    |cons h _ m=>cases i with
     |zero=>exact h
     |succ i=>exact m i
   exact go i r) (Vals.pick r p)
open PySem.Spec PyProof.Rows PySem.W in
theorem br.pick{k:Kx}{G:Hp}{vs:List V}{as:List A}(r:br k G vs as):∀(p:List Nat),br k G (p.map λi=>vs.getD i .non) (p.map λi=>as.getD i .non)
 |[]=>.nil
 | i::p=>.cons (by
   have go:∀{vs:List V}{as:List A}(i:Nat),br k G vs as->RA k G (vs.getD i .non) (as.getD i .non):=by
    intro vs as i r;cases e:vs[i]? with
    |none=>
     have l:as[i]?=none:=by rw[VP] at e ⊢;rw[<-r.len];exact e
     rw[XC,e,XC,l];exact .non
    |some v=>obtain⟨a,h1,h2⟩:=r.at e;rw[XC,e,XC,h1];exact h2
   exact go i r) (br.pick r p)
end
variable{p:Array Nat}{i j:Nat}{α:Type}
section
open PySem PyProof.Rows PySem.W
section
variable{f:Nat->Nat->Bool}{n:Nat}{α β:Type}
def Tw(f:Nat->Nat->Bool)(n:Nat){α:Type}:KasT α->(α->Prop)->Prop
 | .ret a,Q=>Q a
 | .ask i j k,Q=>i<n/\j<n/\Tw f n (k (f i j)) Q
theorem Tw.bind{g:α->KasT β}{P:α->Prop}{Q:β->Prop}(L:∀a,P a->Tw f n (g a) Q):∀{t:KasT α},Tw f n t P->Tw f n (t.bind g) Q
 | .ret a,h=>L a h
 | .ask i j k,h=>⟨h.1,h.2.1,Tw.bind L h.2.2⟩
theorem Tw.mono{P Q:α->Prop}(L:∀a,P a->Q a):∀{t:KasT α},Tw f n t P->Tw f n t Q
 | .ret a,h=>L a h
 | .ask i j k,h=>⟨h.1,h.2.1,Tw.mono L h.2.2⟩
theorem Tw.Rn{H:Nat->Nat->(Bool->Shared->Prop)->Shared->Prop}{s:Shared}{P:α->Prop}{Q:α->Shared->Prop}(L:∀a,P a->Q a s)(hc:∀i j (C:Bool->Shared->Prop),i<n->j<n->C (f i j) s->H i j C s):∀{t:KasT α},Tw f n t P->t.kasWp H Q s
 | .ret a,h=>L a h
 | .ask i j k,h=>hc i j (λb s'=>(k b).kasWp H Q s') h.1 h.2.1 (Tw.Rn L hc h.2.2)
end
variable{f:Nat->Nat->Bool}{n:Nat}{r:Nat->Nat}
structure Od(f:Nat->Nat->Bool)(n:Nat)(r:Nat->Nat):Prop where
 lt:∀i j,i<n->j<n->f i j=decide (r i<r j)
 inj:∀i j,i<n->j<n->r i=r j->i=j
noncomputable def Ra(r:Nat->Nat)(p:Array Nat)(i:Nat):Nat:=r (p.getD i 0)
def Sg(r:Nat->Nat)(p:Array Nat)(m:Nat):Prop:=∀i j,i<j->j<m->Ra r p i<Ra r p j
def Pt(n:Nat)(p:Array Nat):Prop:=p.Perm (UB (Tc n))
theorem Pt.size{p:Array Nat}(h:Pt n p):p.size=n:=by have:=Array.Perm.size_eq h;simpa using this
theorem Pt.lt(h:Pt n p)(hi:i<n):p.getD i 0<n:=by
 have hs:=h.size;have e:p.getD i 0=p[i]' XV:=by simp[Vl,hs,hi]
 rw[e];have:p[i]' XV∈(UB (Tc n)).toList:=(VG.mp h).mem_iff.mp T1;simpa using this
theorem Od.ne(o:Od f n r)(h:Pt n p)(hi:i<n)(U:j<n)(y:i≠j):Ra r p i≠Ra r p j:=λe=>by
 have D:=o.inj _ _ (h.lt hi) (h.lt U) e;have hs:=h.size;have nd:=(VG.mp h).nodup_iff.mpr (by simpa using Vv);have d:p.getD i 0=p.toList[i]'(by simp;lia):=by simp[Vl,hs,hi]
 have q:p.getD j 0=p.toList[j]'(by simp;lia):=by simp[Vl,hs,U]
 rw[d,q] at D;exact y ((V2 nd).mp D)
theorem Sg.snoc{m:Nat}(h:Sg r p m)(h1:1<=m)(he:Ra r p (m-1)<Ra r p m):Sg r p (m+1):=λi j h2 h3=>by
 by_cases e:j=m
 .subst e;by_cases l:i=j-1
  .rw[l];exact he
  .exact UC (h i (j-1) XV XV) he
 .exact h i j h2 XV
theorem Pt.rev(h:Pt n p)(i j:Nat):Pt n (kas_rev p i j):=(mirror_perm _ _ _ _).trans h
theorem Ci(U:j<=p.size){k:Nat}(hk:k<j):(kas_rev p 0 j).getD k 0=p.getD (j-1-k) 0:=by
 rw[Tg,Tg]
 delta kas_rev
 rw[getElem?_mirror_all U,zcu ⟨Tu _,hk⟩,Vt]
theorem DD{d:Nat}(hs:i<p.size)(hd:d<=i)(k:Nat):(bubble p i d).getD k 0=if k=i-d then p.getD i 0 else if i-d<k/\k<=i then p.getD (k-1) 0 else p.getD k 0:=by
 simp only[Tg];rw[getElem?_bubble hs d hd];split
 .rfl
 .split<;>rfl
theorem mI(o:Od f n r){k:Bool->KasT α}{Q:α->Prop}(hp:Pt n p)(hi:i<n)(U:j<n)(y:i≠j)(h1:Ra r p i<Ra r p j->Tw f n (k true) Q)(h2:Ra r p j<Ra r p i->Tw f n (k false) Q):Tw f n (.ask (p.getD i 0) (p.getD j 0) k) Q:=by
 refine⟨hp.lt hi,hp.lt U,?_⟩;rw[o.lt _ _ (hp.lt hi) (hp.lt U)];by_cases h:Ra r p i<Ra r p j
 .rw[zcx (p:=r (p.getD i 0)<r (p.getD j 0)) h];exact h1 h
 .rw[zcw (p:=r (p.getD i 0)<r (p.getD j 0)) h];exact h2 (by have:=o.ne hp hi U y;lia)
theorem vz(o:Od f n r){p:Array Nat}(hp:Pt n p):∀u m,m+u<=n->1<=m->Sg r p m->Tw f n (kas_asc p u m) λx=>m<=x/\x<=m+u/\Sg r p x/\(x<m+u->Ra r p x<Ra r p (x-1))
 |0,m,_,_,s=>⟨SO _,SO _,s,λz=>absurd z (TN _)⟩
 |u+1,m,hm,h1,s=>mI o hp XV XV XV (λz=>⟨SO _,by lia,s,λ_=>z⟩) λz=>(vz o hp u (m+1) XV (by exact UN ‹_›) (s.snoc h1 z)).mono λx h=>⟨by lia,by lia,h.2.2.1,λy=>h.2.2.2 XV⟩
def Ds(r:Nat->Nat)(p:Array Nat)(m:Nat):Prop:=∀i j,i<j->j<m->Ra r p j<Ra r p i
theorem xH(o:Od f n r){p:Array Nat}(hp:Pt n p):∀u m,m+u<=n->1<=m->Ds r p m->Tw f n (kas_desc u p m 0) λx=>x.1=p/\x.2.2=0/\m<=x.2.1/\x.2.1<=m+u/\Ds r p x.2.1
 |0,m,_,_,s=>⟨rfl,rfl,SO _,SO _,s⟩
 | u+1,m,hm,h1,s=>mI o hp XV XV XV (λz=>(xH o hp u (m+1) XV (by exact UN ‹_›) λi j h2 h3=>by
   by_cases e:j=m
   .subst e;by_cases l:i=j-1
    .rw[l];exact z
    .exact UC z (s i (j-1) XV XV)
   .exact s i j h2 XV).mono λx h=>⟨h.1,h.2.1,by lia,by lia,h.2.2.2.2⟩) λz=>mI o hp XV XV XV (λ_=>⟨rfl,rfl,SO _,Vw _ _,s⟩) λy=>absurd y XV
theorem Cu(o:Od f n r)(hp:Pt n p)(hn:1<=n):Tw f n (kas_count n p) λx=>1<=x.1/\x.1<=n/\Pt n x.2/\Sg r x.2 x.1:=by
 refine Tw.bind (λm h=>?_) (vz o hp (n-1) 1 XV (SO 1) λi j h1 h2=>by lia);obtain⟨h1,h2,h3,h4⟩:=h;by_cases e:m=n
 .subst e;rw[zcu (beq_self_eq_true m)];exact⟨h1,SO _,hp,h3⟩
 .rw[zcv (by simpa using e)];by_cases D:m > 1
  .rw[zcu D];exact mI o hp XV XV XV (λ_=>⟨h1,by lia,hp,h3⟩) λy=>absurd (h3 0 (m-1) XV XV) XV
  .rw[zcv D];obtain rfl:m=1:=by lia
   have h4:=h4 XV;refine Tw.bind (λx h=>?_) (xH o hp (n-(1+1)) (1+1) XV (by exact UN ‹_›) λi j h5 H=>by
    obtain rfl:i=0:=by lia
    obtain rfl:j=1:=by lia
    exact h4)
   obtain⟨a,m,q⟩:=x;obtain⟨rfl,l,h5,H,b⟩:=h;dsimp only at l h5 H b ⊢;subst l;have hz:=hp.size;refine Tw.bind (λx h=>?_) (vz o (hp.rev 0 m) (n-m) m XV XV λi j E Y=>by
    delta Ra
    rw[Ci XV (by exact UC ‹_› ‹_›),Ci XV Y]
    exact b _ _ XV XV)
   exact⟨by show 1<=x;lia,by show x<=n;lia,hp.rev 0 m,h.2.2.1⟩
theorem my(o:Od f n r){p:Array Nat}{k:Nat}(hp:Pt n p)(hk:k<n)(s:Sg r p k):∀u l h,l<=h->h<=k->h-l<=u->(∀a,a<l->Ra r p a<Ra r p k)->(∀a,h<=a->a<k->Ra r p k<Ra r p a)->Tw f n (kas_place p k u l h) λx=>x<=k/\(∀a,a<x->Ra r p a<Ra r p k)/\∀a,x<=a->a<k->Ra r p k<Ra r p a
 |0,l,h,h1,h2,h3,h4,h5=>by
  obtain rfl:l=h:=by lia
  exact⟨h2,h4,h5⟩
 |u+1,l,h,h1,h2,h3,h4,h5=>by
  unfold kas_place;by_cases c:l≥h
  .rw[zcu c];obtain rfl:l=h:=by lia
   exact⟨h2,h4,h5⟩
  .rw[zcv c];refine mI o hp hk XV XV (λz=>my o hp hk s u l ((l+h) / 2) XV XV XV h4 λa F q=>?_) λz=>my o hp hk s u ((l+h) / 2+1) h XV h2 XV (λa F=>?_) h5
   .by_cases e:a=(l+h) / 2
    .rw[e];exact z
    .exact UC z (s _ _ XV q)
   .by_cases e:a=(l+h) / 2
    .rw[e];exact z
    .exact UC (s _ _ XV XV) z
theorem zT(o:Od f n r):∀u p k,k+u=n->Pt n p->Sg r p k->Tw f n (kas_bin u p k) λq=>Pt n q/\Sg r q n
 |0,p,k,hk,hp,s=>by
  obtain rfl:k=n:=by lia
  exact⟨hp,s⟩
 |u+1,p,k,hk,hp,s=>by
  have hz:=hp.size;refine Tw.bind (λl h=>?_) (my o hp XV s k 0 k (Tu _) (SO _) XV (λa z=>absurd z (T8 a)) λa v U=>by lia);obtain⟨h1,h2,h3⟩:=h;refine zT o u _ (k+1) XV ((bubble_perm _ _ _).trans hp) λa b c d=>?_
  delta Ra
  rw[DD XV XV,DD XV XV,show k-(k-l)=l by lia];by_cases P:a=l
  .rw[zcu P,zcv XV,zcu XV];exact h3 (b-1) XV XV
  .rw[zcv P];by_cases Y:b=l
   .rw[zcv XV,zcu Y];exact h2 a XV
   .rw[zcv Y];by_cases H:l<a/\a<=k
    .rw[zcu H,zcu XV];exact s _ _ XV XV
    .rw[zcv H];by_cases e:l<b/\b<=k
     .rw[zcu e];exact s _ _ XV XV
     .rw[zcv e];exact s _ _ c XV
theorem E4(o:Od f n r)(hn:1<=n):Tw f n (kas_sort n) λq=>Pt n q/\Sg r q n:=by
 refine Tw.bind (λx h=>?_) (Cu o (Array.Perm.refl _) hn);obtain⟨h1,h2,h3,h4⟩:=h;rw[show max x.1 1=x.1 by lia];by_cases c:x.1<n
 .rw[zcu c];exact zT o _ _ _ XV h3 h4
 .rw[zcv c];obtain e:x.1=n:=by lia
  rw[e] at h4;exact⟨h3,h4⟩
end
structure Sk{α:Type}(lt:α->α->Bool):Prop where
 irr:∀a,lt a a=false
 tr:∀a b c,lt a b=true->lt b c=true->lt a c=true
 tri:∀a b,lt a b=false->lt b a=false->a=b
noncomputable def Qp:Key->Key->Bool
 | .inl a,.inl b=>decide (a<b)
 | .inr a,.inr b=>decide (a.cps.toList<b.cps.toList)
 | .inl _,.inr _=>true
 | .inr _,.inl _=>false
def i5:List Key->List Key->Bool
 |[],[]=>false
 |[],_::_=>true
 |_::_,[]=>false
 |a::r,b::q=>if a=b then i5 r q else Qp a b
theorem qG:Sk Qp:=by
 refine⟨λa=>?_,λa b c h1 h2=>?_,λa b h1 h2=>?_⟩
 .cases a with
  |inl a=>exact zcw (Int.lt_irrefl _)
  |inr a=>exact zcw (List.lt_irrefl _)
 .cases a with
  |inl a=>cases b with
   |inl b=>cases c with
    |inl c=>exact zcx (Int.lt_trans (zcA h1) (zcA h2))
    |inr c=>rfl
   |inr b=>cases c with
    |inl c=>cases h2
    |inr c=>rfl
  |inr a=>cases b with
   |inl b=>cases h1
   |inr b=>cases c with
    |inl c=>cases h2
    |inr c=>exact zcx (List.lt_trans (zcA h1) (zcA h2))
 .cases a with
  |inl a=>cases b with
   |inl b=>have h1:=of_decide_eq_false h1;have h2:=of_decide_eq_false h2;exact zcy VE XV
   |inr b=>cases h1
  |inr a=>cases b with
   |inl b=>cases h2
   |inr b=>have h1:=of_decide_eq_false h1;have h2:=of_decide_eq_false h2;have:a.cps.toList=b.cps.toList:=YN h2 h1;exact zcy TU (zcy Str.mk (V1.mp this))
theorem dI(a:Key)(r q:List Key):i5 (a::r) (a::q)=i5 r q:=by rw[i5,zcu rfl]
theorem bT{a b:Key}(r q:List Key)(h:a≠b):i5 (a::r) (b::q)=Qp a b:=by rw[i5,zcv h]
theorem jo:∀a,i5 a a=false
 |[]=>rfl
 |a::r=>by rw[dI];exact jo r
theorem kY:∀a b,i5 a b=false->i5 b a=false->a=b
 |[],[],_,_=>rfl
 |[],_::_,h,_=>nomatch h
 |_::_,[],_,h=>nomatch h
 |a::r,b::q,h1,h2=>by
  by_cases e:a=b
  .subst e;rw[dI] at h1 h2;rw[kY r q h1 h2]
  .rw[bT _ _ e] at h1;rw[bT _ _ (Uu e)] at h2;exact absurd (qG.tri a b h1 h2) e
theorem md:∀a b c,i5 a b=true->i5 b c=true->i5 a c=true
 |[],[],_,h,_=>nomatch h
 |[],_::_,[],_,h=>nomatch h
 |[],_::_,_::_,_,_=>rfl
 |_::_,[],_,h,_=>nomatch h
 |_::_,_::_,[],_,h=>nomatch h
 |a::r,b::q,c::p,h1,h2=>by
  by_cases D:a=b
  .subst D;rw[dI] at h1;by_cases l:a=c
   .subst l;rw[dI] at h2 ⊢;exact md r q p h1 h2
   .rw[bT _ _ l] at h2 ⊢;exact h2
  .rw[bT _ _ D] at h1;by_cases l:b=c
   .subst l;rw[bT _ _ D];exact h1
   .rw[bT _ _ l] at h2;have h3:=qG.tr a b c h1 h2;by_cases N:a=c
    .subst N;rw[qG.irr] at h3;cases h3
    .rw[bT _ _ N];exact h3
def bt(ks:List (List Key)):List Nat:=(Tc ks.length).mergeSort λi j=>!i5 (ks.getD j []) (ks.getD i [])
theorem bz(ks:List (List Key)):(bt ks).Perm (Tc ks.length):=Yl _ _
theorem sE(ks:List (List Key)):(bt ks).Nodup:=(bz ks).nodup_iff.mpr Vv
theorem tK(ks:List (List Key)):(bt ks).Pairwise λi j=>i5 (ks.getD j []) (ks.getD i [])=false:=by
 have:=XA (le:=λi j=>!i5 (ks.getD j []) (ks.getD i [])) (λa b c h1 h2=>?_) (λa b=>?_) (Tc ks.length)
 .exact this.imp λh=>by simpa using h
 .rw[Te] at h1 h2 ⊢;cases h:i5 (ks.getD c []) (ks.getD a []) with
  |false=>rfl
  |true=>
   cases h3:i5 (ks.getD a []) (ks.getD b []) with
   |true=>rw[md _ _ _ h h3] at h2;cases h2
   |false=>rw[kY _ _ h1 h3] at h2;rw[h] at h2;cases h2
 .cases h:i5 (ks.getD b []) (ks.getD a []) with
  |false=>simp
  |true=>
   cases h3:i5 (ks.getD a []) (ks.getD b []) with
   |false=>simp
   |true=>have:=md _ _ _ h h3;rw[jo] at this;cases this
variable{ks:List (List Key)}
theorem CH(nd:ks.Nodup):Od (λi j=>i5 (ks.getD i []) (ks.getD j [])) ks.length λi=>(bt ks).idxOf i:=by
 have mem:∀i,i<ks.length->i∈bt ks:=λi hi=>(bz ks).mem_iff.mpr (Ts.mpr hi);have lt:∀i j,i<ks.length->j<ks.length->(bt ks).idxOf i<(bt ks).idxOf j->i5 (ks.getD i []) (ks.getD j [])=true:=λi j hi U h=>by
  have h1:=Ve.mp (tK ks) _ _ (U4 (mem i hi)) (U4 (mem j U)) h;rw[VI,VI] at h1;cases h2:i5 (ks.getD i []) (ks.getD j []) with
  |true=>rfl
  |false=>
   have e:=kY _ _ h2 h1;have D:ks[i]=ks[j]:=by simpa[hi,U] using e
   have:=(V2 nd).mp D;subst this;lia
 have inj:∀i j,i<ks.length->j<ks.length->(bt ks).idxOf i=(bt ks).idxOf j->i=j:=λi j hi U h=>by
  have h1:=VI (U4 (mem i hi));have h2:=VI (U4 (mem j U));rw[<-h1,<-h2]
  congr 1
 refine⟨λi j hi U=>?_,inj⟩;by_cases h:(bt ks).idxOf i<(bt ks).idxOf j
 .rw[zcx h];exact lt i j hi U h
 .rw[zcw h];by_cases e:(bt ks).idxOf i=(bt ks).idxOf j
  .rw[inj i j hi U e];exact jo _
  .cases h2:i5 (ks.getD i []) (ks.getD j []) with
   |false=>rfl
   |true=>have h3:=lt j i U hi XV;have:=md _ _ _ h2 h3;rw[jo] at this;cases this
variable{vs:List Value}
section
open PySem.Spec PyProof.Rows PySem.W PySem.Calls
variable{prog:Program}{w:zam}{A:zan}{E:Value->Shared->Prop}{s:Shared}
theorem yi(nd:ks.Nodup)(h2:2<=ks.length)(c:ks.length<64){κ:SortKind}{it:Array Keyed}(hc:∀i j (C:Bool->Shared->Prop),i<ks.length->j<ks.length->C (i5 (ks.getD i []) (ks.getD j [])) s->kas_cmp prog w A κ it i j C s):
  kasC (zak prog w) A E sortRuns' (λ_ st s'=>arrOf st=(bt ks).toArray.map (kas_item it)/\failedOf st=none/\s'=s) (kas_st κ it (UB (Tc ks.length))) s:=by
 refine kas_runs h2 c (G:=λp s'=>p=(bt ks).toArray/\s'=s) (λp st s' _ d hf J=>⟨by rw[d,J.1],hf,J.2⟩) (Tw.Rn (λp h=>⟨?_,rfl⟩) hc (E4 (CH nd) XV));obtain⟨hp,hs⟩:=h;have hz:=hp.size;apply V1.mp;refine WK (le:=λi j=>(bt ks).idxOf i<(bt ks).idxOf j) (λa b _ _ h1 h2=>by lia) ?_ ?_ ((VG.mp hp).trans (bz ks).symm)
 .refine Ve.mpr λi j hi U y=>?_;have Y:j<p.size:=by simpa using U
  have:=hs i j y XV;unfold Ra at this;have q:i<p.size:=by exact UC ‹_› ‹_›
  rw[show p.getD i 0=p.toList[i] by simp[Vl,q],show p.getD j 0=p.toList[j] by simp[Vl,Y]] at this;exact this
 .show (bt ks).Pairwise _;refine Ve.mpr λi j hi U y=>?_;rw[(sE ks).idxOf_getElem,(sE ks).idxOf_getElem];exact y
theorem vF{l m:List Nat}(h:m.length<2)(p:l.Perm m):l=m:=by
 match m,h with
 |[],_=>exact p.eq_nil
 |[x],_=>exact List.perm_singleton.mp p
theorem oy{xs:List Value}{k:List Key}(h:ItemsAre (aC prog w) k xs):xs.length=k.length:=h.length.symm
def B8(k:List Key):Prop:=∀e∈k,∃i,e=VE i
def tJ(k:List Key):Prop:=∀e∈k,∃x,e=TU x
def MX(ks:List (List Key)):Prop:=(∀k∈ks,k≠[]/\B8 k)\/∀k∈ks,k≠[]/\tJ k
inductive fF(prog:Program)(w:zam)(h:Heap):List Value->List (List Key)->Prop
 |nil:fF prog w h [] []
 |cons{b:Addr}{o:Obj}{n:Nat}{xs:List Value}{k:List Key}{vs:List Value}{ks:List (List Key)}(ho:h.get? b=some o)(hc:o.cls=.type "tuple")(hd:o.data=.seq xs.toArray n)(hi:ItemsAre (aC prog w) k xs)(r:fF prog w h vs ks):fF prog w h (.ref b::vs) (k::ks)
theorem fF.len{h:Heap}:∀{vs:List Value}{ks:List (List Key)},fF prog w h vs ks->ks.length=vs.length
 |_,_,.nil=>rfl
 |_,_,.cons _ _ _ _ r=>zcy (·+1) r.len
theorem fF.keep{h h':Heap}(k:∀b o,h.get? b=some o->o.cls=.type "tuple" -> h'.get? b=some o):∀{vs:List Value}{ks:List (List Key)},fF prog w h vs ks->fF prog w h' vs ks
 |_,_,.nil=>.nil
 |_,_,.cons ho hc hd hi r=>.cons (k _ _ ho hc) hc hd hi (r.keep k)
theorem fF.at{h:Heap}:∀{vs:List Value}{ks:List (List Key)}(i:Nat),fF prog w h vs ks->i<ks.length->∃b o n xs,vs.getD i .none=.ref b/\h.get? b=some o/\o.data=.seq (UB xs) n/\ItemsAre (aC prog w) (ks.getD i []) xs
 |_,_,_,.nil,h=>absurd h (T8 _)
 |_,_,0,.cons ho hc hd hi r,_=>⟨_,_,_,_,rfl,ho,hd,hi⟩
 |_,_,i+1,.cons ho hc hd hi r,h=>r.at i (XW h)
theorem fF.RK{h:Heap}:∀{vs:List Value}{ks:List (List Key)},fF prog w h vs ks->(∀k∈ks,k≠[])->∃fs,KatTups h vs fs/\fs.length=vs.length/\∀v∈fs,∃k∈ks,∃e∈k,gI e v=true
 |_,_,.nil,_=>⟨[],.nil,rfl,λ_ h=>nomatch h⟩
 |_,_,.cons ho hc hd hi r,hn=>by
  obtain⟨fs,h1,h2,h3⟩:=r.RK λk hk=>hn k (SK _ hk);cases hi with
  |nil=>exact absurd rfl (hn _ SH)
  |@cons e v H a t hi=>
   refine⟨v::fs,.cons ho hc hd rfl h1,zcy (·+1) h2,λx b=>?_⟩;rcases SR.mp b with rfl|b
   .exact⟨_,SH,e,SH,t⟩
   .obtain⟨k,Y,R⟩:=h3 x b;exact⟨k,SK _ Y,R⟩
theorem xU{m:Int}{v:Value}(h:(aC prog w).is (VE m) v=true):∃t,v=.int m t:=by
 rcases aR (show gI (VE m) v=true from h) with ⟨_,t,D,l⟩|⟨_,_,D,_⟩
 .cases D;exact⟨t,l⟩
 .cases D
theorem w8{m:Str}{v:Value}(h:(aC prog w).is (TU m) v=true):∃t,v=.str m t:=by
 rcases aR (show gI (TU m) v=true from h) with ⟨_,_,D,_⟩|⟨_,t,D,l⟩
 .cases D
 .cases D;exact⟨t,l⟩
theorem wM{C:Bool->Shared->Prop}:∀{xs ys:List Value}{a b:List Key}(i:Nat),ItemsAre (aC prog w) a xs->ItemsAre (aC prog w) b ys->(B8 a/\B8 b\/tJ a/\tJ b)->∀{fin:Bool},fin=decide (a.length<b.length)->C (i5 a b) s->KatLex prog w A true fin C (xs.zip ys) i s
 |_,_,_,_,_,.nil,.nil,_,_,e,h=>by subst e;exact h
 |_,_,_,_,_,.nil,.cons _ _,_,_,e,h=>by subst e;exact h
 |_,_,_,_,_,.cons _ _,.nil,_,_,e,h=>by subst e;exact h
 |_,_,_,_,i,.cons (k:=x) (ks:=a) hx p,.cons (k:=y) (ks:=b) hy q,ha,_,e,h=>by
  have O:B8 a/\B8 b\/tJ a/\tJ b:=by
   rcases ha with ⟨h1,h2⟩|⟨h1,h2⟩
   .exact .inl ⟨λe he=>h1 e (SK _ he),λe he=>h2 e (SK _ he)⟩
   .exact .inr ⟨λe he=>h1 e (SK _ he),λe he=>h2 e (SK _ he)⟩
  refine kat_cons ((aC prog w).eqBool hx hy ?_);by_cases H:x=y
  .rw[zcx H];refine kat_yes (wM (i+1) p q O (by rw[e,S5,S5];simp) ?_);subst H;rw[dI] at h;exact h
  .rw[zcw H];rw[bT _ _ H] at h;refine kat_no ?_;rcases ha with ⟨h1,h2⟩|⟨h1,h2⟩
   .obtain⟨m,rfl⟩:=h1 x SH;obtain⟨n,rfl⟩:=h2 y SH;obtain⟨t,rfl⟩:=xU hx;obtain⟨u,rfl⟩:=xU hy;cases hb:(true&&i==0) with
    |true=>exact oneLt_int h
    |false=>exact kat_one _ _ (lt_int h)
   .obtain⟨m,rfl⟩:=h1 x SH;obtain⟨n,rfl⟩:=h2 y SH;obtain⟨t,rfl⟩:=w8 hx;obtain⟨u,rfl⟩:=w8 hy;cases hb:(true&&i==0) with
    |true=>exact oneLt_str h
    |false=>exact kat_one _ _ (lt_str h)
theorem zX(T:fF prog w s.heap vs ks)(hm:MX ks)(i j:Nat)(C:Bool->Shared->Prop)(hi:i<ks.length)(U:j<ks.length)(h:C (i5 (ks.getD i []) (ks.getD j [])) s):kas_cmp prog w A (tuples' true) (vs.toArray.zip vs.toArray) i j C s:=by
 have e:kas_cmp prog w A (tuples' true) (vs.toArray.zip vs.toArray) i j C s=kas_ask prog w A (tuples' true) vs i j C s:=by rw[kas_ask_eq];rfl
 rw[e]
 delta kas_ask
 obtain⟨b,o,k,xs,D,h1,h2,h3⟩:=T.at i hi;obtain⟨r,o',k',ys,a,H,Y,q⟩:=T.at j U;rw[D,a];have mem:∀i,i<ks.length->ks.getD i []∈ks:=λi hi=>by rw[show ks.getD i []=ks[i] by simp[hi]];exact TR hi
 refine kat_lt h1 h2 H Y (wM 0 h3 q ?_ ?_ h)
 .rcases hm with hm|hm
  .exact .inl ⟨(hm _ (mem i hi)).2,(hm _ (mem j U)).2⟩
  .exact .inr ⟨(hm _ (mem i hi)).2,(hm _ (mem j U)).2⟩
 .rw[SM,SM,oy h3,oy q]
theorem NV(p:List Nat):(p.toArray.map (kas_item (vs.toArray.zip vs.toArray))).map (·.2)=UB (p.map λi=>vs.getD i .none):=by
 rw[Array.map_map];rw[List.map_toArray]
 congr 1
 apply UR;intro i _;show (kas_item (vs.toArray.zip vs.toArray) i).2=_;rw[kat_item rfl]
theorem oS{a:Addr}{n:Nat}{P:ZQ->Shared->Prop}(ho:s.heap.get? a=some (za6 "list" vs.toArray n))(T:fF prog w s.heap vs ks)(hm:MX ks)(nd:ks.Nodup)(hz:vs.length<64)
  (h:P (.done (.ret .none)) { s with heap:=sortedHeap s.heap a vs (UB ((bt ks).map λi=>vs.getD i .none)) }):zaj (zak prog w) A (Builtin.«list.sort» ⟨[.ref a],[]⟩) P E s:=by
 rw[list_sort_plain];have hl:=T.len;have L:((bt ks).map λi=>vs.getD i .none).length=vs.length:=by rw[SE,(bz ks).length_eq,Ud,hl]
 have O:a<s.heap.objs.size:=SV ho;have hz:vs.length<=sizeLine:=by rw[zav];exact Qx
 refine zaf (listItems_at ho rfl ?_);refine zaf (zbU ho rfl ?_ (by rw[SM];exact hz) (Tu _));obtain⟨D,H⟩:∃D,(s.heap.update a (UZ λ_=>#[])).get? a=some (za6 "list" #[] D):=⟨_,get?_update_seq ho (λ_=>#[])⟩
 refine zaf (zcg H rfl ?_);refine zaf (wpAny_newTuple ?_ (by show vs.length<=_;exact hz));refine zaf (zbd ?_ (Tu _));refine zau ?_;generalize G:((s.heap.update a (UZ λ_=>#[])).push (za6 "tuple" vs.toArray 0)).push (za6 "list" #[] 0)=h6;have q:h6.get? a=some (za6 "list" #[] D):=by rw[<-G,YE _ _ _ (by rw[za5,YO];exact S8 (TH O)),YE _ _ _ (by rw[YO];exact S8 O)];exact H
 have X:fF prog w h6 vs ks:=T.keep λb o e c=>by
  rw[<-G];refine SI _ (SI _ ?_);rw[Heap.get?_update_ne _ _ _ _ λz=>?_]
  .exact e
  .subst z;rw[ho] at e;cases e;exact absurd (show Vi "list" = Vi "tuple" from c) W1
 have h:P (.done (.ret .none)) { s with heap:=h6.update a (UZ λ_=>UB ((bt ks).map λi=>vs.getD i .none)) }:=by rw[<-G];exact h
 by_cases h2:vs.toArray.size<2
 .rw[zcu h2,zcu h2];refine zaf (zag ?_);refine zaf (zag ?_);refine zaf (zcg q rfl ?_);refine zaf (zbU q rfl ?_ (hsz2:=by rw[WZ];show (pairsOf vs).size<=_;rw[pairsOf_size];exact Qx));simp only[bne_self_eq_false,Ui,if_false];have e:(arrOf (Zo general' (vs.toArray.zip vs.toArray) #[] 7 none)).map (·.2)=UB ((bt ks).map λi=>vs.getD i .none):=by rw[SM] at h2;have S:bt ks=Tc ks.length:=vF (by rw[Ud];lia) (bz ks);rw[S,hl];exact sC h2
  rw[<-e] at h;exact zag h
 .rw[zcv h2,zcv h2];rw[SM] at h2;have I:∀k∈ks,k≠[]:=λk hk=>by
   rcases hm with hm|hm
   .exact(hm k hk).1
   .exact(hm k hk).1
  obtain⟨fs,Y,V,u⟩:=X.RK I;have kind:∀Q:SortKind->Shared->Prop,Q (tuples' true) { s with heap:=h6 }->zaj (zak prog w) A (keyKind' vs.toArray) Q E { s with heap:=h6 }:=λQ L=>by
   rcases hm with hm|hm
   .refine kat_kind (T:=.type "int") Y XV (λv t=>?_) rfl L;obtain⟨k,d,e,U,g⟩:=u v t;obtain⟨i,rfl⟩:=(hm k d).2 e U;rcases aR g with ⟨_,_,_,rfl⟩|⟨_,_,z,_⟩
    .exact .now
    .cases z
   .refine kat_kind (T:=.type "str") Y XV (λv t=>?_) rfl L;obtain⟨k,d,e,U,g⟩:=u v t;obtain⟨i,rfl⟩:=(hm k d).2 e U;rcases aR g with ⟨_,_,z,_⟩|⟨_,_,_,rfl⟩
    .cases z
    .exact .now
  refine zaf (kind _ ?_);have R:=yi (E:=E) nd XV XV (κ:=tuples' true) (it:=vs.toArray.zip vs.toArray) (s:={ s with heap:=h6 }) (A:=A) λi j C hi Z hc=>zX X hm i j C hi Z hc;have K:kas_st (tuples' true) (vs.toArray.zip vs.toArray) (UB (Tc ks.length))=Zo (tuples' true) (vs.toArray.zip vs.toArray) #[] 7 none:=by
   delta kas_st
   have:=kas_range (vs.toArray.zip vs.toArray)
   rw[show (vs.toArray.zip vs.toArray).size=ks.length by rw[hl];simp] at this
   rw[this]
  rw[K] at R;refine zaf (zaN R ?_ λ_ _ e=>e);rintro⟨⟨⟩,N⟩ s' ⟨hp,hf,rfl⟩;have x:(arrOf N).map (·.2)=UB ((bt ks).map λi=>vs.getD i .none):=by rw[hp];exact NV _
  refine zaf (zcg q rfl ?_);refine zaf (zbU q rfl ?_ (hsz2:=by rw[x,SM,L];exact Qx));rw[hf];simp only[bne_self_eq_false,Ui,if_false];rw[x];exact zag h
end
variable{h h':Heap}
section
open PySem.Spec PyProof.Rows PySem.W PySem.Calls
variable{prog:Program}{w:zam}{A:zan}{E:Value->Shared->Prop}{s:Shared}{d it:Addr}{es:Array za9}{ep i:Nat}
def ja(h:Heap)(d:Addr)(es:Array za9)(ep:Nat):Prop:=∃o,h.get? d=some o/\o.ExactDict/\o.data=.dict es ep
theorem ja.ty(x:ja s.heap d es ep):s.TypeIs (.ref d) "dict" := let ⟨o,ho,hc,_⟩:=x;⟨o,ho,hc.1⟩
theorem ja.lt(x:ja h d es ep):d<h.objs.size:=let ⟨_,ho,_⟩:=x;SV ho
theorem ja.to(x:ja h d es ep)(e:∀o,h.get? d=some o->h'.get? d=some o):ja h' d es ep:=let ⟨o,ho,r⟩:=x;⟨o,e _ ho,r⟩
theorem mL{Q:Value->Shared->Prop}(hd:(d==zap)=false)(T:ja s.heap d es ep)
  (U:Q (.ref s.heap.objs.size) { s with heap:=s.heap.push { cls:=.type "dict_keyiterator",data:=.fields #[.ref d,.int 0 0,.int es.size 0,.int ep 0] } }):zaj (zak prog w) A (zco (.ref d)) Q E s:=by
 have hT:=T.ty;obtain⟨o,ho,hc,h⟩:=T;refine zbr hT Zg (zar Zg hT F.entry_dict_iter ?_ (F.args_dict_iter_1 _));refine zaf ?_;refine zaf (zbK hT ?_);refine zag ?_;show zaj _ _ (VS d >>= _) _ _ s
 delta VS
 rw[zcv (by rw[hd];exact To)];refine zaf (zag (zaf (zay ho h (zaf (zaV ho h ?_)))));refine zaf (zaF (zag ⟨_,rfl, "dict_keyiterator",_,⟨_,S6 _ rfl,rfl⟩,T3.lookup,?_⟩));simpa[zaL] using U
theorem tm{Q:Option Value->Shared->Prop}(hit:s.heap.IsKeyIter it d i es.size ep)(T:ja s.heap d es ep)(a:i<es.size)
  (U:∀h',h'.IsKeyIter it d (i+1) es.size ep->U9 it s.heap h'->Q (some es[i].key) { s with heap:=h' }):zaj (zak prog w) A (zbW (.ref it)) Q E s:=by
 obtain⟨o,ho,hc,hd⟩:=id hit;obtain⟨od,b,e,y⟩:=T;refine zaf (zbe (zaD hit.typeIs T3
  (zar T3 hit.typeIs VD ?_ (Vz _))))
 refine zaf (zag (zaf (zaf ?_)));refine zaf (zaw hit.typeIs (zag (zaf (za7 ho hd ?_))));refine zaf (zag (zaf (zay b y ?_)));rw[zcv T1];refine zaf (zag (zaf (zaV b y ?_)));rw[zcv T1];refine zag ?_;simp only[show ¬ ((i:Int)<0) from by lia,if_false,Ut,Tp a];refine zaf ?_;refine zaf (zaw hit.typeIs (zag (zaf (zbL hit.typeIs ?_))));show zaj _ _ (setField (.ref it) 1 (zaL ((i:Int)+1)) >>= _) _ _ s;refine zaf (zaA ho hd T1 ?_);have h:(s.heap.update it (UD (·.setIfInBounds 1 (zaL ((i:Int)+1))))).IsKeyIter it d (i+1) es.size ep:=
  ⟨_,Ux _ ho (Yc (VN hd _)),(YQ ..).trans hc,by rw[VN hd];simp[zaL]⟩
 refine zaf (zau (zaf (zbL h.typeIs ?_)));exact zag (zag ⟨_,rfl,zag (U _ h (Uj ..))⟩)
theorem EU{Q:Option Value->Shared->Prop}(c:A.handled=none)(hit:s.heap.IsKeyIter it d es.size es.size ep)(T:ja s.heap d es ep)(U:∀h',Zy it s.heap h'->Q none { s with heap:=h' }):zaj (zak prog w) A (zbW (.ref it)) Q E s:=by
 obtain⟨o,ho,hc,hd⟩:=id hit;obtain⟨od,b,e,y⟩:=T;refine zaf (zbe (zaD hit.typeIs T3
  (zar T3 hit.typeIs VD ?_ (Vz _))))
 refine zaf (zag (zaf (zaf ?_)));refine zaf (zaw hit.typeIs (zag (zaf (za7 ho hd ?_))));refine zaf (zag (zaf (zay b y ?_)));rw[zcv T1];refine zaf (zag (zaf (zaV b y ?_)));rw[zcv T1];refine zag ?_;simp only[show ¬ ((es.size:Int)<0) from by lia,if_false,Ut,UX (SO es.size)];refine zaf ?_;refine zaf (zaw hit.typeIs (zag ?_));show zaj _ _ (setField (.ref it) 0 .none >>= _) _ _ s;refine zaf (zaA ho hd T1 ?_);refine zaf ?_;refine zaf (m:=za0 _ _) (zaQ (by first|rfl|(rw[za0];rfl)) ?_);refine zaF ?_ (by size_fits);refine zaf (zbV ?_);rw[show A.in1.handled=none from c];refine zaf (zag (zch ?_));refine zaf (zaR ⟨_,S6 _ rfl,rfl⟩ zbQ ?_);exact zag (U _ (((Uj ..).extBut.push _).push _))
theorem GN(lo:(d==zap)=false):KdlSrc prog w "dict" d d es.size (λi v=>∃e,es[i]?=some e/\v=e.key) (λh=>ja h d es ep) where
 type:=λ_ T=>T.ty
 there:=λ_ T=>⟨T.lt,T.lt⟩
 keep:=λ_ _ T hk=>T.to λo e=>hk d (.inl rfl) o e
 notList:=by decide
 notTuple:=by decide
 hint:=λ_ _ _ _ T n=>kdl_hint_dict T.ty n
 iter:=λA s c T=>⟨_,λi h=>h.IsKeyIter s.heap.objs.size d i es.size ep/\ja h d es ep,(λ_ _ n=>mL lo T n),{
  sub:=λb hb=>by simp at hb;simp[hb]
  frame:=λ_ _ _ st hk=>⟨st.1.at λo e=>hk _ T1 o e,st.2.to λo e=>hk d T1 o e⟩
  item:=λi s' Q E hi st U=>tm st.1 st.2 hi λh' q a=>U _ h' s'.toks ⟨es[i],by simp[hi],rfl⟩ ⟨q,st.2.to λo e=>a.extBut d o (S8 T.lt) e⟩ λb o hb e=>a.extBut b o (λh=>hb (by simp[h])) e
  done:=λs' Q E st U=>EU c st.1 st.2 λh' H=>U h' s'.toks λb o hb e=>H b o (λh=>hb (by simp[h])) e
  self:=λ_ _ _ _ st U=>zbR st.1 U },⟨⟨_,S6 _ rfl,rfl,rfl⟩,T.to λo e=>SI _ e⟩⟩
end
variable{w:zam}{xs:List (List Key×Addr×V)}{ys:List (List Key×Addr×Value)}{v:V}{u:Value}{β:Type}{pos:Pos}{td:TE}
section
variable{X:Cx}{E:XK}{pins:List (Addr×Obj)}{Y:St}{H:Hp}{s:Shared}{a b:Addr}
theorem B3{P:Program}{a:Addr}(z:xs.length<=sizeLine)(lo:(a==zap)=false)(r:rB xs ys)
  (d:∃o es ep,h.get? a=some o/\o.ExactDict/\o.data=.dict es ep/\es.toList=ys.map (zbk (zaq (aC P w)))/\(ys.map (·.1)).Nodup):bV P w H h a (dX P w a xs):=by
 obtain⟨o,es,ep,h1,h2⟩:=d;refine⟨⟨z,lo,ys,r,o,es,ep,h1,h2⟩,⟨o,h1⟩,?_⟩;rintro q g ⟨z,lo,ys,r,o,es,ep,h1,h2⟩ k;exact⟨z,lo,ys,r,o,es,ep,k o h1,h2⟩
theorem mJ{ks:List Key}(I:Inv X pins Y H s)(e:eU X.K H b (ks.map kV)):(zaq (aC X.prog X.w)).is s.heap ks b:=by obtain⟨B,r,⟨o,h1,h2,n,h3⟩,_⟩:=I.tuple e;exact⟨o,B.toArray,n,h1,h2,h3,by simpa using hW r⟩
theorem rB.keys(r:rB xs ys):ys.map (λy=>(y.1,y.2.1))=xs.map λx=>(x.1,x.2.1):=by
 induction r with
 |nil=>rfl
 |cons h _ m=>rw[S4,S4,m,h.1,h.2.1]
theorem HW(I:Inv X pins Y H s)(e:H a=some (dX X.prog X.w a xs))(hk:∀x∈xs,eU X.K H x.2.1 (x.1.map kV)):xs.length<=sizeLine/\(a==zap)=false /\
  ∃ys,rB xs ys/\s.heap.DictOfH (zaq (aC X.prog X.w)) a ys:=by
 obtain⟨⟨z,lo,ys,r,o,es,ep,h1,h2,h3,h4,h5⟩,_⟩:=(I.hok a _ e)
 refine⟨z,lo,ys,r,o,es,ep,h1,h2,h3,h4,λy hy=>?_,h5⟩;have m:(y.1,y.2.1)∈xs.map λx=>(x.1,x.2.1):=by rw[<-r.keys];exact Tj.mpr ⟨y,hy,rfl⟩
 obtain⟨x,hx,e⟩:=Tj.mp m;have:=mJ I (hk x hx);rw[(VJ e).1,(VJ e).2] at this;exact this
noncomputable def p7{β:Type}(xs:List (List Key×Addr×β))(k:List Key)(b:Addr)(v:β):List (List Key×Addr×β):=if (xs.any λx=>decide (x.1=k))=true then xs.map λx=>if x.1=k then (x.1,x.2.1,v) else x else xs++[(k,b,v)]
theorem rB.put(r:rB xs ys)(k:List Key)(C:RelV v u):rB (p7 xs k b v) (storedH ys k b u):=by
 have e:(xs.any λx=>decide (x.1=k))=(zaU ys k).isSome:=by
  induction r with
  |nil=>rfl
  |@cons p q ps I h t m=>
   rw[Up,m];by_cases z:p.1=k
   .have T:=h.1.symm.trans z;simp[zaU,Tf,z,T]
   .have T:¬ q.1=k:=λy=>z (h.1.trans y);simp[zaU,Tf,z,T]
 delta p7 storedH
 rw[e];by_cases q:(zaU ys k).isSome=true
 .rw[zcu q,zcu q];clear e q;induction r with
  |nil=>exact .nil
  |@cons p q ps I h t m=>
   rw[S4,S4];refine .cons ?_ m
   delta putAt
   by_cases z:p.1=k
   .rw[zcu z,zcu (h.1.symm.trans z)];exact⟨h.1,h.2.1,C⟩
   .rw[zcv z,zcv (λy=>z (h.1.trans y))];exact h
 .rw[zcv q,zcv q];exact XH r ⟨rfl,rfl,C⟩
theorem Dz(xs:List (List Key×Addr×β))(k:List Key)(b:Addr)(v:β):(p7 xs k b v).length<=xs.length+1:=by
 delta p7
 split
 .rw[SE];lia
 .simp
def HB(X:Cx)(H:Hp)(a:Addr)(y v:V)(H':Hp):Prop:=∃xs k b,H a=some (dX X.prog X.w a xs)/\(∀x∈xs,eU X.K H x.2.1 (x.1.map kV))/\y=.ref b/\eU X.K H b (k.map kV)/\xs.length<sizeLine/\H'=upd H a (dX X.prog X.w a (p7 xs k b v))
theorem LH{A:zan}{E:Value->Shared->Prop}{y:V}{r:Value}{H':Hp}{Q:Unit->Shared->Prop}(f:A.units+1<cLine)(I:Inv X pins Y H s)(g:HB X H a y v H')(K:RelV y u)(C:RelV v r)(h:∀s',Inv X pins Y H' s'->Q () s'):
  zaj (zak X.prog X.w) A (zcj (.ref a) u r) Q E s:=by
 obtain⟨xs,k,b,e,hk,rfl,l,hl,rfl⟩:=g;cases (K);obtain⟨z,hd,ys,rel,R⟩:=HW I e hk;have hz:ys.length<=sizeLine:=by rw[<-Um rel];exact z
 have D:(p7 xs k b v).length<=sizeLine:=by have:=Dz xs k b v;lia
 refine zb0 (zaH f) (mJ I l) R λh' J hs=>h _ ?_;obtain⟨q,es,ep,n,h2,h3,h4,_,h5⟩:=J;exact kS I (by rw[e];exact V6) hs ⟨q,n⟩ (B3 D hd (rel.put k C) ⟨q,es,ep,n,h2,h3,h4,h5⟩)
theorem L6:PE X (.Dict [] [] pos) (λ_ H Q=>∀p,H p=none->Q (.ref p) (upd H p (dX X.prog X.w p []))):=λpins s Y H Q I h=>
 wpAny_Dict_empty ⟨.ref s.heap.objs.size,_,I.laid (λ_ _ q=>SI _ q) (SO _)
  (B3 (Tu _) (beq_eq_false_iff_ne.mpr (Uu (S8 I.big))) .nil ⟨_,#[],0,S6 _ rfl,⟨rfl,rfl,rfl⟩,rfl,rfl,U7⟩),rfl,h _ (I.hok.fresh (SO _))⟩
noncomputable def JJ(X:Cx)(td ty q:TE):TS:=λD Y H=>q Y H λv f=>td Y f λx V=>ty Y V λy u=>∃a L,x=.ref a/\HB X u a y v L/\D.nx Y L
theorem Bz{o i value:Expr}{b:Pos}{ty q:TE}(f:X.A.units+1<cLine)(ho:PE X o td)(hi:PE X i ty)(t:PE X value q)(hs:zaJ value (some (.Subscript o i b)) pos.line X.env=pure false):
  PS X (.Assign [.Subscript o i b] value pos) (JJ X td ty q):=by
 intro pins s Y H D I h;refine zbC (bG (t pins s Y H _ I h) λr s1 ⟨v,R,e,C,E⟩=>bG (ho pins s1 Y R _ e E) λu s2 ⟨x,V,j,Q,n⟩=>bG (hi pins s2 Y V _ j n) λB O ⟨y,d,G,K,a,L,ex,g,F⟩=>?_) hs;subst ex;obtain rfl:u=Tv a:=Q;exact LH f G g K C λP w=>⟨Y,L,w,F⟩
def Ad(X:Cx):List V->Hp->VK->Prop:=λus H Q=>∃(a:Addr)(xs:List (List Key×Addr×V)),us=[.ref a]/\H a=some (dX X.prog X.w a xs)/\(∀x∈xs,eU X.K H x.2.1 (x.1.map kV))/\(MX (xs.map (·.1))/\xs.length<64) /\
 ∀r,H r=none->Q (.ref r) (upd H r (.lst ((bt (xs.map (·.1))).map λi=>((xs.map λx=>x.2.1).map V.ref).getD i .non)))
theorem qo(I:Inv X pins Y H s):∀{bs:List Addr}{ks:List (List Key)},bs.length=ks.length->(∀(i:Nat)(b:Addr)(k:List Key),bs[i]?=some b->ks[i]?=some k->eU X.K H b (k.map kV))->fF X.prog X.w s.heap (bs.map Tv) ks
 |[],[],_,_=>.nil
 |[],_::_,h,_=>nomatch h
 |_::_,[],h,_=>nomatch h
 |b::bs,k::ks,h,e=>by obtain⟨B,r,⟨o,h1,h2,n,h3⟩,_⟩:=I.tuple (e 0 b k rfl rfl);exact .cons h1 h2 h3 (hW r) (qo I (W4 h) λi b k hb hk=>e (i+1) b k hb hk)
theorem oI:∀bs:List Addr,Vals (bs.map V.ref) (bs.map Tv)
 |[]=>.nil
 |_::bs=>.cons rfl (oI bs)
open PySem.Spec PyProof.Rows PySem.W in
theorem qu(hc:X.calm=true):bX X (.builtin "sorted") (Ad X):=by
 intro pins s Y H vs us Q I C h;obtain⟨a,xs,rfl,hd,tk,⟨d,c⟩,q⟩:=h;obtain⟨u,rfl,S⟩:=C.one;cases S;obtain⟨⟨hz,lo,ys,G,o,es,ep,h1,h2,h3,h4,h5⟩,_⟩:=(show bV X.prog X.w H s.heap a (dX X.prog X.w a xs) from I.hok a _ hd)
 have T:fF X.prog X.w s.heap ((xs.map λx=>x.2.1).map Tv) (xs.map (·.1)):=qo I T1 λi b k hb hk=>by
  rw[SQ] at hb hk;cases z:xs[i]? with
  |none=>rw[z] at hb;cases hb
  |some x=>rw[z] at hb hk;cases hb;cases hk;exact tk x (SS z)
 have hsz:es.size=ys.length:=zaW h4;have O:ys.length=xs.length:=(Um G).symm;have nd:(xs.map (·.1)).Nodup:=by have:=zcy (W5 Prod.fst) G.keys;rw[TM,TM] at this;have e:ys.map (·.1)=xs.map (·.1):=this;rw[<-e];exact h5
 refine UL zbP zbE zbF (zbG _) ?_;unfold Builtin.«sorted»;refine zaf (m:=checkCount "sorted" 1 1 _) (zag ?_);refine zaf (zcf (A:=X.A.in1) (GN (es:=es) (ep:=ep) lo) (I.ok.hd hc) ⟨o,h1,h2,h3⟩ (by rw[hsz,O];exact hz) λh' P acc hk E=>?_);have K:acc.toList=(xs.map λx=>x.2.1).map Tv:=by
  have r:(xs.map λx=>x.2.1)=ys.map λy=>y.2.1:=by have:=zcy (W5 Prod.snd) G.keys;rw[TM,TM] at this;exact this.symm
  rw[r];apply Uc;intro j;rw[SQ,SQ,TB];cases B:acc[j]? with
  |none=>
   have:acc.size<=j:=by simpa using B
   rw[Tx (by rw[<-hsz,<-E.1];exact this)];rfl
  |some v=>
   obtain⟨e,he,rfl⟩:=E.2 j v B;rw[zct h4] at he;cases ex:ys[j]? with
   |none=>rw[ex] at he;cases he
   |some x=>rw[ex] at he;cases he;rfl
 have D:acc.toList.length=xs.length:=by rw[K,SE,SE]
 refine zaf (zbd ?_ (by rw[D];exact hz));have Z:(h'.push (za6 "list" acc.toList.toArray 0)).get? h'.objs.size=some (za6 "list" acc.toList.toArray 0):=S6 _ rfl;have F:fF X.prog X.w (h'.push (za6 "list" acc.toList.toArray 0)) acc.toList (xs.map (·.1)):=by rw[K];exact T.keep λb o e _=>SI _ (hk b o e)
 refine zaf (zau (zar slot_list_sort ⟨_,Z,rfl⟩ entry_list_sort (oS Z F d nd (by rw[D];exact c) ⟨_,rfl,?_⟩) (zbm _)));obtain⟨e,he⟩:=zbu (vs:=acc.toList) (n:=0) (out:=UB ((bt (xs.map (·.1))).map λi=>acc.toList.getD i .none)) Z;have hf:∀b o,s.heap.get? b=some o->b≠h'.objs.size:=λb o z=>S8 (SV (hk b o z));refine zag ⟨_,rfl,.ref _,_,I.wA (t':=P) (a:=h'.objs.size) (o:=.lst ((bt (xs.map (·.1))).map λi=>((xs.map λx=>x.2.1).map V.ref).getD i .non)) (λb o z=>?_) hf ⟨?_,(bt (xs.map (·.1))).map λi=>acc.toList.getD i .none,e,?_,he⟩,rfl,q _ (I.jb hf)⟩
 .rw[zbn (hf b o z) (by rw[za5];exact TH (SV (hk b o z)))];exact SI _ (hk b o z)
 .rw[SE,(bz (xs.map (·.1))).length_eq,Ud,SE];exact hz
 .rw[K];exact Vals.pick (oI _) _
end
def A9:List A->Option (List Key)
 |[]=>some []
 |a::r=>match j6 a,A9 r with
  |some y,some ys=>some (y::ys)
  |_,_=>none
def uP:A->Option (List Key)
 | .tup xs=>A9 xs
 |_=>none
theorem rl{K:Kx}{G:Hp}:∀{vs:List V}{as:List A}{ys:List Key},br K G vs as->A9 as=some ys->vs=ys.map kV
 |_,_,_,.nil,h=>by cases h;rfl
 |_,_,_,.cons (a:=a) (as:=as) q r,h=>by
  unfold A9 at h;cases D:j6 a with
  |none=>rw[D] at h;cases h
  |some y=>cases l:A9 as with
   |none=>rw[D,l] at h;cases h
   |some ys=>rw[D,l] at h;cases h;rw[pR q D,rl r l];rfl
noncomputable def uA(kvs:List (List Key×A))(y:List Key)(a:A):List (List Key×A):=if (kvs.any λx=>decide (x.1=y))=true then kvs.map λx=>if x.1=y then (x.1,a) else x else kvs++[(y,a)]
section
variable{k:Kx}{G:Hp}
theorem fH.len:∀{vs:List (List Key×Addr×V)}{as:List (List Key×A)},fH k G vs as->vs.length=as.length
 |_,_,.nil=>rfl
 |_,_,.cons _ _ r=>zcy (·+1) r.len
theorem fH.any(y:List Key):∀{vs:List (List Key×Addr×V)}{as:List (List Key×A)},fH k G vs as->(vs.any λx=>decide (x.1=y))=as.any λx=>decide (x.1=y)
 |_,_,.nil=>rfl
 |_,_,.cons _ _ r=>by rw[Up,Up,r.any y]
theorem fH.uR{y:List Key}{v:V}{a:A}(h:RA k G v a):∀{vs:List (List Key×Addr×V)}{as:List (List Key×A)},fH k G vs as->fH k G (vs.map λx=>if x.1=y then (x.1,x.2.1,v) else x) (as.map λx=>if x.1=y then (x.1,a) else x)
 |_,_,.nil=>.nil
 |_,_,.cons (y:=z) e q r=>by
  rw[S4,S4];by_cases w:z=y
  .rw[zcu w,zcu w];exact .cons e h (r.uR h)
  .rw[zcv w,zcv w];exact .cons e q (r.uR h)
theorem fH.snoc{y:List Key}{b:Addr}{v:V}{a:A}(e:eU k.K G b (y.map kV))(h:RA k G v a):∀{vs:List (List Key×Addr×V)}{as:List (List Key×A)},fH k G vs as->fH k G (vs++[(y,b,v)]) (as++[(y,a)])
 |_,_,.nil=>.cons e h .nil
 |_,_,.cons e' q r=>.cons e' q (r.snoc e h)
theorem fH.put{y:List Key}{b:Addr}{a:A}(e:eU k.K G b (y.map kV))(h:RA k G v a){vs:List (List Key×Addr×V)}{as:List (List Key×A)}(r:fH k G vs as):fH k G (p7 vs y b v) (uA as y a):=by
 delta p7 uA
 rw[r.any y]
 by_cases q:(as.any λx=>decide (x.1=y))=true
 .rw[zcu q,zcu q];exact r.uR h
 .rw[zcv q,zcv q];exact r.snoc e h
theorem fH.sq:∀{vs:List (List Key×Addr×V)}{as:List (List Key×A)},fH k G vs as->∀x∈vs,eU k.K G x.2.1 (x.1.map kV)
 |_,_,.nil,_,h=>nomatch h
 |_,_,.cons e _ r,x,h=>by
  rcases SR.mp h with rfl|h
  .exact e
  .exact r.sq x h
end
variable{c:Cn}{H:Hp}{Z θ:List Sl}{L:List Addr}
theorem dz.top{Y:St}{τ:St}{a:A}(b:dz c Y H Z (some v::τ) (.fr a::θ) L):dz c Y H Z τ θ L/\RA c.toKx (c.g H L) v a:=by
 obtain⟨nd,rel,own,fr,kp,lt,hd⟩:=b;cases rel with
 |cons h r=>cases h with
  |fr q=>exact⟨⟨nd,r,own,fr,kp,by simpa using lt,hd⟩,q⟩
def Bm(Z:List Sl)(i:Nat):Bool:=match aO Z i with
 |some (.dit _)=>true
 |_=>false
theorem oN(h:Bm Z i=true):∃xs,aO Z i=some (.dit xs):=by
 delta Bm at h
 cases e:aO Z i with
 |none=>rw[e] at h;cases h
 |some o=>cases o with
  |dit xs=>exact⟨xs,rfl⟩
  |nob _ _ _=>rw[e] at h;cases h
  |lst _=>rw[e] at h;cases h
  |dic _=>rw[e] at h;cases h
  |obj _ _=>rw[e] at h;cases h
variable{px p1:Pos}{e:Expr}
section
variable{X:Cx}{E:XK}
noncomputable def gQ:Mi Rr:=λZ=>some (.ok (.nw (.dit [])),Z)
theorem Dp{pos}:JE X E (.Dict [] [] pos) gQ:=⟨PE.weaken L6 λY H Q h=>by obtain⟨c,Z,τ,θ,o,O,A,b,em,q⟩:=h;cases em;intro p hp;obtain⟨L,bl⟩:=b;refine q _ _ trivial (bl.gO hp λG H' sm e=>?_);rw[A];exact .dit e .nil⟩
def c0(i:Nat)(mk m:Mi Rr):Ms:=cF m λr X'=>if Bm X' i then cF mk (λY=>λZ=>match bp r Z with
 |some (a,U)=>match res U Y,aO U i with
  |some ka,some (.dit kvs)=>match uP ka with
   |some y=>if kvs.length<=16000000 then some (.nx,setAt U i (.dit (uA kvs y a))) else none
   |none=>none
  |_,_=>none
 | none=>none) X' else none
theorem EM{x:Str}{ek:Expr}{mk m:Mi Rr}(hu:X.A.units+1<cLine)(hN:X.N[i]?=some x)(hv:pD X.env.scope x)(hd:gA x)(hcd:sX x)(hk:JE X E ek mk)(he:JE X E e m)
  (hs:zaJ e (some (.Subscript (.Name x px) ek p1)) pos.line X.env=pure false:=by rfl):JS X E (.Assign [.Subscript (.Name x px) ek p1] e pos) (c0 i mk m):=
 ⟨PS.weaken (Bz hu (cG hN hv hd hcd) hk.p he.p hs) λD Y H h=>by
  obtain⟨c,Z,τ,θ,f,O,ek,b,em,q⟩:=h;refine eZ ek b em q λr v U H1 hv b1 em1=>?_;split at em1
  .rename_i hl;obtain⟨xs0,hl⟩:=oN hl;obtain⟨p,hp⟩:∃p,Y[i]?=some (some (.ref p)):=by obtain⟨L,bl⟩:=b1;obtain⟨p,_,h1,_⟩:=bl.live hl (.dit xs0) (.lst []);exact⟨p,h1⟩
   refine⟨_,hp,?_⟩;rcases cI em1 with ⟨rk,Z',e1,e2⟩|⟨ee,e1,e2⟩
   .refine⟨c,U,_,_,_,Z',ek,b1,e1,λw H2 hw b2=>?_⟩;cases ef:bp r Z' with
    |none=>rw[ef] at e2;cases e2
    |some pr=>
     obtain⟨a,V'⟩:=pr;rw[ef] at e2;have b3:Bd c Y H2 V' (bM rk w (some v::τ)) (bL rk (.fr a::θ.map Sl.fr)):=by obtain⟨g1,g2,g3⟩:=eE rk w (bM r v τ) (bL r (θ.map Sl.fr));obtain⟨g4,g5,_⟩:=eE rk w (some v::τ) (.fr a::θ.map Sl.fr);rw[g4,g5];rw[g1,g2] at b2;exact Bd.bp g3 b2 hv ef
     cases er:res V' rk with
     |none=>simp only[er] at e2;cases e2
     |some ka=>
      obtain⟨L,bl0,it⟩:=Bd.open b3 hw er;obtain⟨bl,ra⟩:=bl0.top;cases el:aO V' i with
      |none=>simp only[er,el] at e2;cases e2
      |some lo=>
       cases lo with
       |lst _=>simp only[er,el] at e2;cases e2
       |dic _=>simp only[er,el] at e2;cases e2
       |obj _ _=>simp only[er,el] at e2;cases e2
       |nob _ _ _=>simp only[er,el] at e2;cases e2
       |dit kvs=>
        simp only[er,el] at e2;cases ej:uP ka with
        |none=>rw[ej] at e2;cases e2
        |some y=>
         simp only[ej] at e2;split at e2
         .rename_i h100;cases e2;cases ka with
          |tup as=>
           obtain⟨b,vs,rfl,sq,rs⟩:=it.2.1 as rfl;have ev:=rl rs ej;subst ev;obtain⟨p',_,h1,h2,dummy⟩:=bl.live el (.dit kvs) (.lst []);rw[hp] at h1;cases h1;cases h2 with
           |dit e rr=>
            rename_i ws;obtain⟨p',q9,h1,h2,h3⟩:=bl.live el (.dit (uA kvs y a)) (dX c.P c.w p (p7 ws y b v));rw[hp] at h1;cases h1;have e9:q9=[]:=by cases h2;rfl
            subst e9;have eP:=zcy Kx.P ek;have ew:=zcy Kx.w ek;have eK:=zcy Kx.K ek;have rr':=(rr.sm (g_same c H2 L)).sq;have sq':=dk (g_same c H2 L) sq;rw[eK] at rr' sq';rw[eP,ew] at e h3;refine⟨p,_,rfl,⟨ws,y,b,e,rr',rfl,sq',by have:=rr.len;rw[zav];lia,rfl⟩,q Y _ (h3 λH' hh=>?_)⟩;rw[<-eP,<-ew] at hh;exact .dit hh (rr.put sq ra)
          |_=>exact cu ej
         .cases e2
   .subst e2;exact⟨c,U,_,_,_,O,ek,b1,e1,λC H2 hm b2=>q C Y H2 hm b2.drop⟩
  .cases em1⟩
end
noncomputable def zV:Key->Bool
 | .inl _=>true
 | .inr _=>false
def uH(ks:List (List Key)):Bool:=(ks.all λk=>!k.isEmpty&&k.all zV) || ks.all λk=>!k.isEmpty&&k.all λe=>!zV e
theorem E7(h:uH ks=true):MX ks:=by
 delta uH at h
 rw[Uh,Tq,Tq] at h
 rcases h with h|h
 .refine .inl λk hk=>?_
  have:=h k hk
  rw[SA,Tq] at this
  refine⟨λz=>(by rw[z] at this;exact absurd this.1 W1),λe he=>?_⟩
  have:=this.2 e he
  cases e with
  |inl i=>exact⟨i,rfl⟩
  |inr x=>cases this
 .refine .inr λk hk=>?_
  have:=h k hk
  rw[SA,Tq] at this
  refine⟨λz=>(by rw[z] at this;exact absurd this.1 W1),λe he=>?_⟩
  have:=this.2 e he
  cases e with
  |inl i=>cases this
  |inr x=>exact⟨x,rfl⟩
noncomputable def kA:Key->A
 | .inl i=>.int i
 | .inr x=>.str x
def GJ(k:List Key):A:=.tup (k.map kA)
def kg(ks:List (List Key)):List A:=(bt ks).map λj=>(ks.map GJ).getD j .non
def m5(i:Nat):Mi Rr:=λZ=>match aO Z i with
 |some (.dit kvs)=>if (uH (kvs.map (·.1))&&decide (kvs.length<64))=true then some (.ok (.nw (.lst (kg (kvs.map (·.1))))),Z) else none
 |_=>none
section
variable{k:Kx}{G:Hp}
theorem PD:∀e:Key,RA k G (kV e) (kA e)
 | .inl i=>.int i
 | .inr x=>.str x
theorem vO:∀es:List Key,br k G (es.map kV) (es.map kA)
 |[]=>.nil
 |e::es=>.cons (PD e) (vO es)
theorem fH.keys:∀{vs:List (List Key×Addr×V)}{as:List (List Key×A)},fH k G vs as->vs.map (·.1)=as.map (·.1)/\br k G ((vs.map λx=>x.2.1).map V.ref) ((as.map (·.1)).map GJ)
 |_,_,.nil=>⟨rfl,.nil⟩
 |_,_,.cons e q r=>by obtain⟨h1,h2⟩:=r.keys;exact⟨by rw[S4,S4,h1],.cons (.tup e (vO _)) h2⟩
end
section
variable{X:Cx}{E:XK}
theorem CS{y x:Str}{p:Pos}(hc:X.calm=true)(hN:X.N[i]?=some y)(hv:pD X.env.scope y)(hd:gA y)(hcd:sX y)(hg:Gl X x)(hm:X.mg x=none)(hb:zal x=some (.builtin "sorted"))(hn:x ≠ "__name__")
  (hdb:gA x)(hs:zai [.Name y px] X.env=(false,eval (.Name y px) X.env)::zai [] X.env:=by rfl)(hp:(zaG pos (zai [] X.env)).any (·.1)=false:=by rfl):JE X E (.Call (.Name x p) [.Name y px] [] pos) (m5 i):=
 ⟨PE.weaken (gG (qu hc) hg hm hb (bE (cG hN hv hd hcd) cN hs) hn hdb hs hp) λY H Q h=>by
  obtain⟨c,Z,τ,θ,o,O,ek,b,em,q⟩:=h
  delta m5 at em
  cases el:aO Z i with
  |none=>rw[el] at em;cases em
  |some lo=>
   cases lo with
   |lst _=>rw[el] at em;cases em
   |dic _=>rw[el] at em;cases em
   |obj _ _=>rw[el] at em;cases em
   |nob _ _ _=>rw[el] at em;cases em
   |dit kvs=>
    simp only[el] at em;split at em
    .rename_i hne;cases em;rw[SA,decide_eq_true_eq] at hne;obtain⟨L,bl⟩:=b;obtain⟨p,_,h1,h2,dummy⟩:=bl.live el (.dit kvs) (.lst []);cases h2 with
     |dit e rr=>rename_i ws;obtain⟨t1,t2⟩:=rr.keys;have eP:=zcy Kx.P ek;have ew:=zcy Kx.w ek;have eK:=zcy Kx.K ek;have t3:=(rr.sm (g_same c H L)).sq;rw[eK] at t3;rw[eP,ew] at e;refine⟨_,h1,p,ws,rfl,e,t3,⟨by rw[t1];exact E7 hne.1,by have:=zcy Wi t1;rw[SE,SE] at this;lia⟩,λr hr=>q _ _ trivial (bl.gO hr λG H' sm hh=>.lst hh ?_)⟩;rw[t1];exact(t2.sm sm).pick _
    .cases em⟩
end
section
variable{X:Cx}{E:XK}
open PySem.Builtin PyProof.Rows PySem.W in
end
variable{us:List Value}{K:Kx}
section
variable{X:Cx}{E:XK}{pins:List (Addr×Obj)}{Y:St}{H:Hp}{s:Shared}
def OA(K:SD)(neg:Bool):R2:=λx y H Q=>∃p xs d ds,y=.ref p/\eI K H p xs/\Den K H x d/\eV K H xs ds/\(∀e∈ds,D.depth e<=40)/\Q (.bl (if neg then !(ds.any λe=>D.eq e d) else ds.any λe=>D.eq e d)) H
open Classical in
def eW(us:List Value)(ds:List D)(d:D)(w:Value):Bool:=(us.zip ds).any λp=>decide (p.1=w)&&D.eq p.2 d
theorem Bl(I:Inv X pins Y H s){A:zan}{x:V}{d:D}{v:Value}(f:A.units+40<cLine)(hx:Den X.K H x d)(o:RelV x v):∀{xs:List V}{us:List Value}{ds:List D},eV X.K H xs ds->Vals xs us->(∀e∈ds,D.depth e<=40)->
  ∀p∈us.zip ds,UW A s p.1 v (D.eq p.2 d)
 |_,_,_,.nil,.nil,_,u,hm=>nomatch hm
 |_,_,_,.cons h t,.cons r q,hd,u,hm=>by
  rcases SR.mp hm with rfl|hm
  .exact dR I 40 f (hd _ SH) h hx r o
  .exact Bl I f hx o t q (λe he=>hd e (SK _ he)) u hm
theorem O5(I:Inv X pins Y H s){A:zan}{x:V}{d:D}{v:Value}(f:A.units+40<cLine)(hx:Den X.K H x d)(o:RelV x v){xs:List V}{ds:List D}(h:eV X.K H xs ds)(r:Vals xs us)(hd:∀e∈ds,D.depth e<=40):
  ∀u∈us,UW A s u v (eW us ds d u):=by
 intro u T;have z:=Bl I f hx o h r hd;cases l:eW us ds d u with
 |true=>obtain⟨p,hp,n⟩:=US.mp l;rw[SA,decide_eq_true_iff] at n;have:=z p hp;rw[n.1,n.2] at this;exact this
 |false=>
  obtain⟨i,hi,rfl⟩:=Wo T;have hl:us.length=ds.length:=by rw[<-r.length,h.len]
  have hp:(us[i],ds[i]' XV)∈us.zip ds:=by rw[<-YR (h:=by simp;lia)];exact TR _
  have:=z _ hp;have hf:=YF.mp l _ hp;simp only[decide_true,Xs,Bool.not_eq_true] at hf;rw[hf] at this;exact this
theorem IC{ds:List D}{d:D}(hl:us.length=ds.length):us.any (eW us ds d)=ds.any λe=>D.eq e d:=by
 rw[WO,US,US];constructor
 .rintro⟨u,_,h⟩;obtain⟨p,hp,n⟩:=US.mp h;rw[SA] at n;exact⟨p.2,(V8 hp).2,n.2⟩
 .rintro⟨e,he,h⟩;obtain⟨i,hi,rfl⟩:=Wo he;have hp:(us[i]' XV,ds[i])∈us.zip ds:=by rw[<-YR (h:=by simp;lia)];exact TR _
  exact⟨us[i]' XV,TR _,US.mpr ⟨_,hp,by simp[h]⟩⟩
theorem oZ(f:X.A.units+64<cLine):eG X (zaz .NotIn) (OA X.K true):=by intro pins s Y H x y v u Q I o C h;obtain⟨p,xs,d,ds,rfl,n,dx,R,hd,q⟩:=h;cases C;obtain⟨B,r,pl,hz⟩:=I.list n;refine Yi (eW B ds d) pl.isList (λw t=>O5 I (by have:X.A.in1.units=X.A.units+1:=rfl;lia) dx o R r hd w (by simpa using t)) ⟨.bl _,H,I,rfl,?_⟩;rw[show B.toArray.any (eW B ds d)=B.any (eW B ds d) by simp,IC (by rw[<-r.length,R.len])];exact q
def sR(neg:Bool):A->A->Option Rr
 |x,.lst xs=>match toD x,fV xs with
  |some d,some ds=>if (ds.all λe=>decide (D.depth e<=40))=true then some (.fr (.bl (if neg then !(ds.any λe=>D.eq e d) else ds.any λe=>D.eq e d))) else none
  |_,_=>none
 |_,_=>none
theorem zU{neg:Bool}:gh K (OA K.K neg) (sR neg):=.scalar λH v w a b q g p h=>by
 cases b<;>first|exact cu h|skip
 rename_i xs;cases p with
 |lst e r=>
  delta sR at h
  cases D:toD a with
  |none=>simp only[D] at h;cases h
  |some d=>cases l:fV xs with
   |none=>simp only[D,l] at h;cases h
   |some ds=>
    simp only[D,l] at h;split at h
    .rename_i hd;cases h;exact⟨_,_,rfl,λ_=>.bl _,λQ k=>⟨_,_,d,ds,rfl,e,dY g D,lE r l,λe he=>zcA (Tq.mp hd e he),k⟩⟩
    .cases h
variable{a b:Expr}{ma mb:Mi Rr}{pos:Pos}
theorem GC(f:X.A.units+1<cLine)(h2:X.A.units+64<cLine)(d:JE X E a ma)(hb:JE X E b mb)(T:zat .NotIn b=false):JE X E (.Compare a [.NotIn] [b] pos) (ay (bP (bP (bP (nZ true) (jr true)) (uy true)) (sR true)) ma mb):=hY (Gg f d hb T) (fC (oZ h2) zU d hb T)
theorem E9(f:X.A.units+1<cLine)(h2:X.A.units+64<cLine)(d:JE X E a ma)(hb:JE X E b mb)(T:zat .NotIn b=false):JT X E (.Compare a [.NotIn] [b] pos) (aq (ay (bP (bP (bP (nZ true) (jr true)) (uy true)) (sR true)) ma mb)):=jR (FH f d hb T) (fw (oZ h2) zU d hb T)
end
variable{O:List Sl}
section
variable{c:Cn}{Y:St}{H:Hp}{Z:List Sl}{τ:St}{θ:List Sl}
noncomputable def iO:Rr->List Sl->Option (Sl×List Sl)
 | .fr a,Z=>some (.fr a,Z)
 | .nw o,Z=>some (.lv o,Z)
 | .rf i,Z=>match Z[i]? with
  |some (.lv o)=>some (.lv o,Z.set i .un)
  |some (.pv o)=>some (.lv o,Z.set i .un)
  |some (.fr a)=>some (.fr a,Z)
  |_=>none
def dS:List Rr->List Sl->Option (List Sl×List Sl)
 |[],Z=>some ([],Z)
 |r::rs,Z=>match iO r Z with
  |some (a,U)=>match dS rs U with
   |some (as,Z')=>some (a::as,Z')
   |none=>none
  |none=>none
theorem sJ{r:Rr}{rs:List Rr}{as:List Sl}(h:dS (r::rs) Z=some (as,O)):∃a H U,iO r Z=some (a,U)/\dS rs U=some (H,O)/\as=a::H:=by
 unfold dS at h;cases D:iO r Z with
 |none=>rw[D] at h;cases h
 |some p=>
  obtain⟨a,U⟩:=p;rw[D] at h;cases l:dS rs U with
  |none=>simp only[l] at h;cases h
  |some q=>obtain⟨H,Z'⟩:=q;simp only[l] at h;cases h;exact⟨a,H,U,rfl,l,rfl⟩
theorem Bd.iO{r:Rr}{v:V}{a:Sl}{O:List Sl}{xs:St}{ss:List Sl}(e:xs.length=ss.length)(b:Bd c Y H Z (xs++bM r v τ) (ss++bL r θ))(t:VR Y r v)(h:iO r Z=some (a,O)):Bd c Y H O (xs++some v::τ) (ss++a::θ):=by
 cases r with
 |fr a'=>cases h;exact b
 |nw o=>cases h;exact b
 |rf i=>
  delta M.iO at h
  cases es:Z[i]? with
  |none=>simp only[es] at h;cases h
  |some s=>
   cases s with
   |un=>simp only[es] at h;cases h
   |cf _=>simp only[es] at h;cases h
   |fr a'=>simp only[es] at h;cases h;exact Bd.Ew e b t es
   |lv o=>simp only[es] at h;cases h;exact Bd.AY e b t es (.inl rfl)
   |pv o=>simp only[es] at h;cases h;exact Bd.AY e b t es (.inr rfl)
theorem Bd.dS:∀{rs:List Rr}{vs:List V}{as:List Sl}{Z O:List Sl}{τ:St}{θ:List Sl},kN Y rs vs->Bd c Y H Z (cg rs vs τ) (cq rs θ)->dS rs Z=some (as,O)->Bd c Y H O (vs.reverse.map some++τ) (as.reverse++θ)/\vs.length=as.length
 |[],[],_,_,_,_,_,_,b,h=>by cases h;exact⟨b,rfl⟩
 |r::rs,v::vs,_,Z,O,τ,θ,hv,b,h=>by obtain⟨a,as,U,D,l,rfl⟩:=sJ h;have b:Bd c Y H Z (cg rs vs (bM r v τ)) (cq rs (bL r θ)):=b;rw[cy,cv] at b;have b1:=Bd.iO (kZ rs vs (kN.len hv.2)) b hv.1 D;rw[<-cy rs vs (some v::τ),<-cv rs (a::θ)] at b1;obtain⟨b2,N⟩:=Bd.dS hv.2 b1 l;exact⟨by simpa using b2,by simp[N]⟩
 |[],_::_,_,_,_,_,_,h,_,_=>h.elim
 |_::_,[],_,_,_,_,_,h,_,_=>h.elim
end
def qN(f:Ms)(H:List A)(h:Mi (List Rr)):Mi Rr:=aT h λrs Z=>match dS (rs++H.map Rr.fr) Z with
 |some (as,U)=>match f (as.map t5) with
  |some (.rt s,T)=>match iI s,putL Z (rs++H.map Rr.fr) (bf as.length T) U with
   |some r,some O=>some (.ok r,O)
   |_,_=>none
  |some (.ex x,T)=>match putL Z (rs++H.map Rr.fr) (bf as.length T) U with
   |some O=>some (.error x,O)
   |none=>none
  |_=>none
 |none=>none
variable{dvs:List V}
section
variable{X:Cx}{E:XK}
theorem uU{m:Ms}{n:Nat}{q:List A}(hd:∀G,br (kx X) G dvs q){Y:St}{Q:VK}{rs:List Rr}{τ:St}{o:Except Str Rr}{vs:List V}(J:c.toKx=kx X)(hn:(vs++dvs).length=n)
  (t:kN Y rs vs)(b:Bd c Y H Z (cg rs vs τ) (cq rs θ)) (em:(match dS (rs++q.map Rr.fr) Z with
 |some (as,U)=>match m (as.map t5) with
  |some (.rt s,T)=>match iI s,putL Z (rs++q.map Rr.fr) (bf as.length T) U with
   |some r,some O=>some (.ok r,O)
   |_,_=>none
  |some (.ex x,T)=>match putL Z (rs++q.map Rr.fr) (bf as.length T) U with
   |some O=>some (.error x,O)
   |none=>none
  |_=>none
 | none=>none)=some (o,O)) (k:∀r,o=.ok r->∀v H',VR Y r v->Bd c Y H' O (bM r v τ) (bL r θ)->Q v H') (j:∀x,o=.error x->∀C H',X.mg x=some (.ref C)->Bd c Y H' O τ θ->E (.ref C) none H'):D4 (kx X) n m (vs++dvs) H Q E:=by
 refine⟨hn,?_⟩;cases D:dS (rs++q.map Rr.fr) Z with
 |none=>rw[D] at em;cases em
 |some p=>
  obtain⟨as,U⟩:=p;rw[D] at em;have ld:=(hd λ_=>none).len.symm;have h:=t.app (kN.lp ld);have b2:Bd c Y H Z (cg (rs++q.map Rr.fr) (vs++dvs) τ) (cq (rs++q.map Rr.fr) θ):=by rw[mQ _ _ _ t.len,jN];exact Bd.u6 (by rw[J];exact hd) b
  obtain⟨I,N⟩:=Bd.dS h b2 D;obtain⟨u,K,R,g,l,P⟩:=Bd.enter N I;have kp:fj c.σ0 Y Z:=by obtain⟨L,b⟩:=b;exact b.kp
  cases B:m (as.map t5) with
  |none=>simp only[B] at em;cases em
  |some p=>
   obtain⟨f,T⟩:=p;simp only[B] at em;refine⟨u,_,f,T,K.trans J,R,g,l,B,?_⟩;cases f with
   |nx=>cases em
   |bk=>cases em
   |ct=>cases em
   |rt s=>
    cases y:iI s with
    |none=>simp only[y] at em;cases em
    |some r=>
     cases e:putL Z (rs++q.map Rr.fr) (bf as.length T) U with
     |none=>simp only[y,e] at em;cases em
     |some Z'=>
      simp only[y,e] at em;cases em;intro v H' hs F;have w:=P H' _ _ _ (λs' i o z=>by rw[SU.mp i] at z;exact hs o z) (bY _ _) F;rw[N] at w;have S:=Bd.putL kp h w e;cases s with
      |fr a=>cases y;exact k _ rfl v H' trivial S
      |lv o=>cases y;exact k _ rfl v H' trivial S
      |_=>exact cu y
   |ex x=>
    cases e:putL Z (rs++q.map Rr.fr) (bf as.length T) U with
    |none=>simp only[e] at em;cases em
    |some Z'=>simp only[e] at em;cases em;intro C H' d F;have w:=P H' _ _ _ (λs' i=>by cases i) (bY _ _) F;rw[N] at w;exact j x rfl C H' d (Bd.putL kp h w e)
theorem AW{CX:tL}{k n:Nat}{f:Addr}{fd:zaB}{ps:List Str}{m:Ms}{das:List A}{ds:List Value}{x:Str}{p:Pos}{es:List Expr}{ma:Mi (List Rr)}(F:fE X.prog X.w X.K X.mg X.base CX k f fd ps (D4 (kx X) n m))(hr:eJ k X.A)(hg:Gl X x)
  (hm:X.mg x=some (.ref f))(hk:UA X.K (.ref f)=true)(hb:Binds X.K fd ps ds)(hd:Vals dvs ds)(hda:∀G,br (kx X) G dvs das)(hx:Passes CX X E)(ha:JA X E (e::es) ma)(hn:∀Z rs O,ma Z=some (.ok rs,O)->rs.length+das.length=n)(hdb:gA x)
  (he:zai (e::es) X.env=(false,eval e X.env)::zai es X.env:=by rfl)(hpl:(zaG pos (zai es X.env)).any (·.1)=false:=by rfl):JE X E (.Call (.Name x p) (e::es) [] pos) (qN m das ma):=
 ⟨PE.weaken (wW F hr hg hm hk hb hd hx ha.p hdb he hpl) λY H Q h=>by
  obtain⟨c,Z,τ,θ,o,O,ek,b,em,q⟩:=h;rcases bind_some em with ⟨rs,U,e1,e2⟩|⟨e,e1,e2⟩
  .refine⟨c,Z,τ,θ,_,U,ek,b,e1,λvs H1 hv b1=>?_⟩;refine uU hda ek ?_ hv b1 e2 (λr hr v H' hv b=>by subst hr;exact q v H' hv b) (λx hx=>by subst hx;exact q);rw[S3,<-hv.len,<-hn Z rs U e1,(hda λ_=>none).len]
  .subst e2;exact⟨c,Z,τ,θ,_,O,ek,b,e1,λC H1 hm b1=>q C H1 hm b1⟩⟩
end
variable{hs:Nat->Int}{led:Bool}
section
open PySem PyProof.Rows PySem.W
open SetTable in
noncomputable def aw(m:Nat)(p:Probe):Probe:=if p.more > 0 then { p with j:=p.j+1,more:=p.more-1 } else { p with j:=(leap m p.i p.perturb).1,more:=runEnd m (leap m p.i p.perturb).1-(leap m p.i p.perturb).1,i:=(leap m p.i p.perturb).1,perturb:=(leap m p.i p.perturb).2 }
open SetTable in
open SetTable in
def sp(m:Nat)(h:Int):Nat->Probe
 |0=>{ j:=bits h%(m+1),more:=runEnd m (bits h%(m+1))-bits h%(m+1),i:=bits h%(m+1),perturb:=bits h,dummy:=none }
 |n+1=>aw m (sp m h n)
theorem Bi(m:Nat)(p:zah.Probe):(aw m p).dummy=p.dummy:=by delta aw;split<;>rfl
theorem rR(m:Nat)(h:Int):∀n,(sp m h n).dummy=none
 |0=>rfl
 |n+1=>(Bi m _).trans (rR m h n)
open SetTable in
theorem K7(m i:Nat):runEnd m i-i<=9:=by unfold runEnd;split<;>lia
def nl(m:Nat)(h:Int)(N:Nat):Nat:=N+(sp m h N).more+1
structure iz(m:Nat)(h:Int)(N:Nat):Prop where
 i:(sp m h N).i=(sp m h N).j
 mo:(sp m h N).more=Uq m (sp m h N).j-(sp m h N).j
 lt:(sp m h N).j<m+1
theorem iz.run{m:Nat}{h:Int}{N:Nat}(q:iz m h N):∀k,k<=(sp m h N).more->sp m h (N+k)={ sp m h N with j:=(sp m h N).j+k,more:=(sp m h N).more-k }
 |0,_=>rfl
 |k+1,hk=>by
  show aw m (sp m h (N+k))=_;rw[q.run k XV]
  delta aw
  rw[zcu (by show (sp m h N).more-k > 0;lia)]
  congr 1
theorem iz.next{m:Nat}{h:Int}{N:Nat}(q:iz m h N):iz m h (nl m h N)/\nl m h N<=N+10/\(sp m h (nl m h N)).perturb=(sp m h N).perturb / 32/\(sp m h (nl m h N)).j=((sp m h N).j*5+1+(sp m h N).perturb / 32)%(m+1):=by
 have e:sp m h (nl m h N)={ sp m h N with j:=(Ua m (sp m h N).i (sp m h N).perturb).1,more:=Uq m (Ua m (sp m h N).i (sp m h N).perturb).1-(Ua m (sp m h N).i (sp m h N).perturb).1,i:=(Ua m (sp m h N).i (sp m h N).perturb).1,perturb:=(Ua m (sp m h N).i (sp m h N).perturb).2 }:=by
  show aw m (sp m h (N+(sp m h N).more))=_;rw[q.run _ (SO _)]
  delta aw
  rw[zcv (by show ¬ (sp m h N).more-(sp m h N).more > 0;lia)]
 have l:(sp m h (nl m h N)).j=((sp m h N).j*5+1+(sp m h N).perturb / 32)%(m+1):=by rw[e,q.i];rfl
 refine⟨⟨by rw[e],by rw[e],by rw[l];exact Wb _ (by exact Wc _)⟩,?_,by rw[e];rfl,l⟩;have:=K7 m (sp m h N).j;have:=q.mo
 delta nl
 lia
theorem iz.many{m:Nat}{h:Int}{N:Nat}(q:iz m h N):∀k,iz m h (Nat.repeat (nl m h) k N)/\Nat.repeat (nl m h) k N<=N+10*k/\(sp m h (Nat.repeat (nl m h) k N)).perturb=(sp m h N).perturb / 32^k/\((sp m h N).perturb=0->(sp m h (Nat.repeat (nl m h) k N)).j=Nat.repeat (λi=>(5*i+1)%(m+1)) k (sp m h N).j)
 |0=>⟨q,SO _,by simp[Nat.repeat],λ_=>rfl⟩
 |k+1=>by
  obtain⟨d,U,g,b⟩:=q.many k;obtain⟨b1,b2,L,K⟩:=d.next;refine⟨b1,by show nl m h (Nat.repeat (nl m h) k N)<=_;lia,?_,λz=>?_⟩
  .show (sp m h (nl m h (Nat.repeat (nl m h) k N))).perturb=_;rw[L,g,Nat.div_div_eq_div_mul,Nat.pow_succ]
  .show (sp m h (nl m h (Nat.repeat (nl m h) k N))).j=_;rw[K,g,z,b z]
   congr 1
   simp;lia
theorem Qj(m:Nat)(h:Int):iz m h 0:=⟨rfl,rfl,Wb _ (by exact Wc _)⟩
def MB(m:Nat):Prop:=m=7\/m=31
theorem QC:∀i,i<8->∀j,j<8->∃k,k<8/\Nat.repeat (λi=>(5*i+1)%(7+1)) k i=j:=by decide +kernel
theorem O8:∀i,i<32->∀j,j<32->∃k,k<32/\Nat.repeat (λi=>(5*i+1)%(31+1)) k i=j:=by decide +kernel
theorem ES(h:Int):Ul h<2^64:=by
 delta Ul
 lia
theorem tZ{m:Nat}(T:MB m)(h:Int)(U:j<=m):∃k,k<=m+13/\(sp m h (Nat.repeat (nl m h) k 0)).j=j:=by
 obtain⟨d,q,g,b⟩:=(Qj m h).many 13;have z:(sp m h (Nat.repeat (nl m h) 13 0)).perturb=0:=by rw[g];exact Nat.div_eq_of_lt (SN (ES h) W1)
 obtain⟨k,Y,R⟩:∃k,k<m+1/\Nat.repeat (λi=>(5*i+1)%(m+1)) k (sp m h (Nat.repeat (nl m h) 13 0)).j=j:=by
  have:=d.lt;rcases T with rfl|rfl
  .exact QC _ this _ (by exact Ld)
  .exact O8 _ this _ (by exact Ld)
 obtain⟨b1,b2,L,K⟩:=d.many k;refine⟨k+13,by lia,?_⟩;have e:∀k,Nat.repeat (nl m h) (k+13) 0=Nat.repeat (nl m h) k (Nat.repeat (nl m h) 13 0):=by
  intro k;induction k with
  |zero=>rfl
  |succ k v=>show nl m h (Nat.repeat (nl m h) (k+13) 0)=_;rw[v];rfl
 rw[e k];exact(K z).trans R
theorem Kg{m:Nat}(T:MB m)(h:Int)(U:j<=m):∃n,n<10*Ub m/\(sp m h n).j=j:=by
 obtain⟨k,Y,R⟩:=tZ T h U;refine⟨_,?_,R⟩;have:=((Qj m h).many k).2.1
 delta Ub
 lia
def KG(xs:Array Nat):Prop:=∀a b,a<b->b<xs.size->xs.getD a 0<xs.getD b 0
theorem at_getD{xs:Array Nat}{a:Nat}(h:xs[a]?=some j):a<xs.size/\xs.getD a 0=j:=by obtain⟨h1,h2⟩:=UJ.mp h;exact⟨h1,by simp[Vl,h1,h2]⟩
theorem getD_at{xs:Array Nat}{a:Nat}(h:a<xs.size):xs[a]?=some (xs.getD a 0):=by rw[Tp h];simp[Vl,h]
theorem mY{xs:Array Nat}{j:Nat}(m:KG xs):∀fuel lo hi,lo<=hi->hi<=xs.size->hi-lo<=fuel->(∀k,k<lo->xs.getD k 0<j)->(∀k,hi<=k->k<xs.size->j<=xs.getD k 0)->
  Vx xs j fuel lo hi<=xs.size/\(∀k,k<Vx xs j fuel lo hi->xs.getD k 0<j)/\∀k,Vx xs j fuel lo hi<=k->k<xs.size->j<=xs.getD k 0
 |0,lo,hi,h1,h2,h3,h4,h5=>by
  have:hi=lo:=by lia
  subst this;exact⟨h2,h4,h5⟩
 |fuel+1,lo,hi,h1,h2,h3,h4,h5=>by
  unfold Vx;by_cases c:lo<hi
  .rw[zcu c];dsimp only;have e:xs.getD ((lo+hi) / 2) j=xs.getD ((lo+hi) / 2) 0:=by simp[Vl,show (lo+hi) / 2<xs.size by lia]
   rw[e];by_cases d:xs.getD ((lo+hi) / 2) 0<j
   .rw[zcu d];refine mY m fuel _ hi XV h2 XV (λk hk=>?_) h5;by_cases z:k=(lo+hi) / 2
    .rw[z];exact d
    .exact UC (m k _ XV XV) d
   .rw[zcv d];refine mY m fuel lo _ XV XV XV h4 λk hk h=>?_;by_cases z:k=(lo+hi) / 2
    .rw[z];exact U8.mp ‹_›
    .have:=m _ k (by lia:(lo+hi) / 2<k) h;lia
  .rw[zcv c];have:hi=lo:=by lia
   subst this;exact⟨h2,h4,h5⟩
theorem jC{xs:Array Nat}(m:KG xs):TV xs j<=xs.size/\(∀k,k<TV xs j->xs.getD k 0<j)/\∀k,TV xs j<=k->k<xs.size->j<=xs.getD k 0:=
 mY m xs.size 0 xs.size (Tu _) (SO _) XV (λk h=>absurd h (T8 k)) λk h1 h2=>by lia
theorem below_at{xs:Array Nat}{a:Nat}(m:KG xs)(h:xs[a]?=some j):TV xs j=a:=by
 obtain⟨h1,h2,h3⟩:=jC m;obtain⟨h4,h5⟩:=at_getD h;have d:TV xs j<=a:=V4 λz=>by have:=h2 a z;lia
 by_cases e:TV xs j=a
 .exact e
 .have:=h3 (TV xs j) (SO _) (by exact T4 ‹_› ‹_›);have:=m (TV xs j) a (by exact VO ‹_› ‹_›) h4;lia
def Lv(t:zah)(j:Nat):Prop:=∃a:Nat,t.place[a]?=some j
theorem oB{t:zah}{a:Nat}(m:KG t.place)(h:t.place[a]?=some j):t.slot j=.live a:=by
 delta YG
 dsimp only
 rw[below_at m h,h]
 simp
theorem uz{t:zah}(hd:t.dummies=#[])(h:¬ Lv t j):t.slot j=.empty:=by
 delta YG
 rw[zcv (by intro z;exact h ⟨_,eq_of_beq z⟩),zcv]
 delta W6
 rw[hd]
 simp
structure mK(t:zah)(hs:Nat->Int):Prop where
 ms:MB t.mask
 dm:t.dummies=#[]
 ri:KG t.place
 le:∀(a j:Nat),t.place[a]?=some j->j<=t.mask
 rc:∀(a j:Nat),t.place[a]?=some j->∃n,(sp t.mask (hs a) n).j=j/\∀n',n'<n->Lv t (sp t.mask (hs a) n').j
theorem gK{P:Nat->Prop}:∀n,P n->∃e,e<=n/\P e/\∀k,k<e->¬ P k:=by
 intro n;induction n using Nat.strongRecOn with
 |_ n m=>
  intro h;by_cases c:∃k,k<n/\P k
  .obtain⟨k,h1,h2⟩:=c;obtain⟨e,a,b,c⟩:=m k h1 h2;exact⟨e,by lia,b,c⟩
  .exact⟨n,SO _,h,λk hk hp=>c ⟨k,hk,hp⟩⟩
theorem hole{t:zah}(m:KG t.place)(hf:t.place.size<=t.mask):∃j,j<=t.mask/\¬ Lv t j:=by
 apply T7;intro z;have all:∀j,j<=t.mask->∃a:Nat,t.place[a]?=some j/\j<=a:=by
  intro j;induction j with
  |zero=>intro h;obtain⟨a,w⟩:Lv t 0:=T7 λy=>z ⟨0,h,y⟩;exact⟨a,w,Tu _⟩
  |succ j v=>
   intro h;obtain⟨a,w,H⟩:=v XV;obtain⟨b,hb⟩:Lv t (j+1):=T7 λy=>z ⟨_,h,y⟩;refine⟨b,hb,?_⟩;obtain⟨X,U⟩:=at_getD w;obtain⟨b1,b2⟩:=at_getD hb;by_cases c:a<b
   .lia
   .by_cases d:a=b
    .subst d;lia
    .have:=m b a XV X;lia
 obtain⟨a,w,H⟩:=all t.mask (SO _);have:=(at_getD w).1;lia
theorem mK.end{t:zah}(T:mK t hs)(hf:t.place.size<=t.mask)(h:Int):∃e,e<10*Ub t.mask/\¬ Lv t (sp t.mask h e).j/\∀n,n<e->Lv t (sp t.mask h n).j:=by obtain⟨j,h1,h2⟩:=hole T.ri hf;obtain⟨n,r,Q⟩:=Kg T.ms h h1;obtain⟨e,D,l,N⟩:=gK (P:=λn=>¬ Lv t (sp t.mask h n).j) n (by rw[Q];exact h2);exact⟨e,by exact T4 ‹_› ‹_›,l,λn hn=>T7 λz=>N n hn z⟩
section
variable{t:zah}{h:Int}{e:Nat}{hs:Nat->Int}
theorem xw(hd:t.dummies=#[])(m:KG t.place)(he:¬ Lv t (sp t.mask h e).j)(hl:∀n,n<e->Lv t (sp t.mask h n).j):∀fuel n,n<=e->e-n<fuel->
  (V7 t hs h fuel (sp t.mask h n)=some (.empty (sp t.mask h e).j none)/\∀n',n<=n'->n'<e->∀a:Nat,t.place[a]?=some (sp t.mask h n').j->hs a≠h) \/
  ∃n' a,n<=n'/\n'<e/\t.place[a]?=some (sp t.mask h n').j/\hs a=h/\V7 t hs h fuel (sp t.mask h n)=some (.candidate (sp t.mask h n').j a (sp t.mask h (n'+1)))/\∀Q,n<=Q->Q<n'->∀a:Nat,t.place[a]?=some (sp t.mask h Q).j->hs a≠h
 |0,n,h1,h2=>by lia
 |fuel+1,n,h1,h2=>by
  unfold V7;by_cases c:n=e
  .subst c;rw[uz hd he];exact .inl ⟨by rw[rR],λn' a b=>by lia⟩
  .obtain⟨a,w⟩:=hl n (by exact VO ‹_› ‹_›);rw[oB m w];dsimp only;by_cases d:hs a=h
   .rw[zcu (by rw[d];exact beq_self_eq_true _)];exact .inr ⟨n,a,SO _,by exact VO ‹_› ‹_›,w,d,rfl,λQ x y=>by lia⟩
   .rw[zcv (by intro z;exact d (eq_of_beq z))];have E:∀a':Nat,t.place[a']?=some (sp t.mask h n).j->hs a'≠h:=λa' O=>by have:a'=a:=(below_at m O).symm.trans (below_at m w);rw[this];exact d
    rcases xw hd m he hl fuel (n+1) XV XV with ⟨q,g⟩|⟨n',a',q,g,L,X,Z,v⟩
    .refine .inl ⟨q,λn' x y=>?_⟩;by_cases z:n'=n
     .rw[z];exact E
     .exact g n' XV y
    .refine .inr ⟨n',a',by lia,g,L,X,Z,λQ x y=>?_⟩;by_cases z:Q=n
     .rw[z];exact E
     .exact v Q XV y
end
theorem og{xs:Array α}{p:Nat}{x:α}(hp:p<=xs.size)(k:Nat):(TF xs p x)[k]?=if k<p then xs[k]? else if k=p then some x else xs[k-1]?:=by
 delta TF
 rw[Array.getElem?_append]
 have hz:((xs.extract 0 p).push x).size=p+1:=by simp;lia
 by_cases h1:k<p
 .rw[zcu XV,zcu h1,Yd,zcv (by simp;lia)]
  simp[XD]
  lia
 .rw[zcv h1]
  by_cases h2:k=p
  .rw[zcu XV,zcu h2,Yd,zcu (by simp;lia)]
  .rw[zcv XV,zcv h2,XD]
   by_cases h3:k-1<xs.size
   .rw[zcu XV]
    congr 1
    lia
   .rw[zcv XV,UX (by exact U8.mp ‹_›)]
theorem lH{xs:Array α}{p:Nat}{x:α}(hp:p<=xs.size):(TF xs p x).size=xs.size+1:=by
 delta TF
 simp
 lia
theorem vV(m:Nat)(h:Int):∀n,(sp m h n).j+(sp m h n).more<=m
 |0=>by
  show Ul h%(m+1)+(Uq m (Ul h%(m+1))-Ul h%(m+1))<=m;have:Ul h%(m+1)<m+1:=Wb _ (by exact Wc _)
  delta Uq
  split<;>lia
 |n+1=>by
  have v:=vV m h n;show (aw m (sp m h n)).j+(aw m (sp m h n)).more<=m
  delta aw
  split
  .show (sp m h n).j+1+((sp m h n).more-1)<=m;lia
  .have:(Ua m (sp m h n).i (sp m h n).perturb).1<m+1:=Wb _ (by exact Wc _);show (Ua m (sp m h n).i (sp m h n).perturb).1+(Uq m (Ua m (sp m h n).i (sp m h n).perturb).1-(Ua m (sp m h n).i (sp m h n).perturb).1)<=m
   delta Uq
   split<;>lia
noncomputable def PX(hs:Nat->Int)(p:Nat)(h:Int)(k:Nat):Int:=if k<p then hs k else if k=p then h else hs (k-1)
theorem Jm{t t':zah}{h:Int}{e p:Nat}(T:mK t hs)(he:¬ Lv t (sp t.mask h e).j)(hl:∀n,n<e->Lv t (sp t.mask h n).j)(D:t.put (sp t.mask h e).j=(t',p)):mK t' (PX hs p h)/\t'.mask=t.mask/\t'.place.size=t.place.size+1/\t'.led=t.led/\t'.moves=t.moves/\p<=t.place.size/\t'.plain=t.plain:=by
 obtain⟨b1,b2,L⟩:=jC T.ri;have i:W6 t.dummies (sp t.mask h e).j=false:=by delta W6;rw[T.dm];simp
 delta zah.put at D
 rw[i] at D;obtain⟨rfl,rfl⟩:=VJ D;have I:∀k,k<t.place.size->t.place.getD k 0≠(sp t.mask h e).j:=λk hk z=>he ⟨k,by rw[getD_at hk,z]⟩;generalize hp:TV t.place (sp t.mask h e).j=p at *;have E:∀k:Nat,(TF t.place p (sp t.mask h e).j)[k]?=if k<p then t.place[k]? else if k=p then some (sp t.mask h e).j else t.place[k-1]?:=λk=>og b1 k
 have lv:∀j,Lv t j->∃a:Nat,(TF t.place p (sp t.mask h e).j)[a]?=some j:=by
  rintro j ⟨a,d⟩;by_cases c:a<p
  .exact⟨a,by rw[E,zcu c];exact d⟩
  .exact⟨a+1,by rw[E,zcv XV,zcv XV];exact d⟩
 have X:=lH (x:=(sp t.mask h e).j) b1;refine⟨⟨T.ms,T.dm,?_,?_,?_⟩,rfl,X,rfl,rfl,b1,rfl⟩
 .intro a b Q hb;rw[X] at hb;have g:∀k,(TF t.place p (sp t.mask h e).j).getD k 0=if k<p then t.place.getD k 0 else if k=p then (sp t.mask h e).j else t.place.getD (k-1) 0:=λk=>by
   simp only[Tg];rw[E];split
   .rfl
   .split<;>rfl
  rw[g,g];by_cases P:b<p
  .rw[zcu (by exact UC ‹_› ‹_›),zcu P];exact T.ri a b Q (by exact SN ‹_› ‹_›)
  .rw[zcv P];by_cases Y:b=p
   .rw[zcu Y,zcu XV];exact b2 a XV
   .rw[zcv Y];by_cases H:a<p
    .rw[zcu H];exact SN (b2 a H) (L (b-1) XV XV)
    .rw[zcv H];by_cases Z:a=p
     .rw[zcu Z];have:=L (b-1) XV XV;have:=I (b-1) XV;lia
     .rw[zcv Z];exact T.ri _ _ XV XV
 .intro a j d;rw[E] at d;show j<=t.mask;split at d
  .exact T.le a j d
  .split at d
   .cases d;have:=vV t.mask h e;lia
   .exact T.le _ j d
 .intro a j d;rw[E] at d
  delta PX
  split at d
  .next c=>rw[zcu c];obtain⟨n,r,G⟩:=T.rc a j d;exact⟨n,r,λn' hn=>lv _ (G n' hn)⟩
  .next c=>
   rw[zcv c];split at d
   .next Y=>rw[zcu Y];cases d;exact⟨e,rfl,λn' hn=>lv _ (hl n' hn)⟩
   .next Y=>rw[zcv Y];obtain⟨n,r,G⟩:=T.rc _ j d;exact⟨n,r,λn' hn=>lv _ (G n' hn)⟩
noncomputable abbrev Ow:=Array (Option Nat)
def Hc(ow:Ow)(j:Nat):Prop:=∃i,ow[j]?=some (some i)
theorem rX(f:Nat->Nat):∀k N,Nat.repeat f (k+1) N=Nat.repeat f k (f N)
 |0,N=>rfl
 |k+1,N=>by show f (Nat.repeat f (k+1) N)=f (Nat.repeat f k (f N));rw[rX f k N]
theorem xu{m:Nat}{h:Int}{ow:Ow}{e:Nat}(sz:ow.size=m+1)(he:¬ Hc ow (sp m h e).j)(hl:∀n,n<e->Hc ow (sp m h n).j):∀F N,iz m h N->N<=e->(∃k,k<F/\e<=Nat.repeat (nl m h) k N)->Uy m ow F (sp m h N).j (sp m h N).perturb=some (sp m h e).j
 |0,N,_,_,⟨k,hk,_⟩=>absurd hk (T8 k)
 |F+1,N,q,hN,⟨k,hk,a⟩=>by
  unfold Uy;have T:=q.mo;have b:(sp m h N).j<=Uq m (sp m h N).j:=by delta Uq;split<;>lia
  have own:∀k,k<=(sp m h N).more->N+k<e->(!(ow.getD ((sp m h N).j+k) (some 0)).isNone)=true:=λk h1 h2=>by obtain⟨i,hi⟩:=hl (N+k) h2;rw[q.run k h1] at hi;rw[Tg,hi];rfl
  by_cases c:e<=N+(sp m h N).more
  .have D:(sp m h e).j=(sp m h N).j+(e-N):=by have:=q.run (e-N) XV;rw[show N+(e-N)=e by lia] at this;rw[this]
   have hf:(Tc (Uq m (sp m h N).j+1-(sp m h N).j)).find? (λk=>(ow.getD ((sp m h N).j+k) (some 0)).isNone)=some (e-N):=by
    rw[List.find?_range_eq_some];refine⟨?_,Ts.mpr XV,λj U=>own j XV XV⟩;rw[<-D];have hb:(sp m h e).j<ow.size:=by have:=vV m h e;lia
    rw[Tg,Tp hb];cases z:ow[(sp m h e).j] with
    |none=>rfl
    |some i=>exact absurd ⟨i,by rw[Tp hb,z]⟩ he
   rw[hf];rw[D]
  .have hf:(Tc (Uq m (sp m h N).j+1-(sp m h N).j)).find? (λk=>(ow.getD ((sp m h N).j+k) (some 0)).isNone)=none:=by rw[List.find?_range_eq_none];exact λj U=>own j XV XV
   rw[hf];obtain⟨E,V,x,s⟩:=q.next;have l:(Ua m (sp m h N).j (sp m h N).perturb).1=(sp m h (nl m h N)).j:=by rw[s];rfl
   have t:(Ua m (sp m h N).j (sp m h N).perturb).2=(sp m h (nl m h N)).perturb:=by rw[x];rfl
   show Uy m ow F (Ua m (sp m h N).j (sp m h N).perturb).1 (Ua m (sp m h N).j (sp m h N).perturb).2=_;rw[l,t];cases k with
   |zero=>have a:e<=N:=a;lia
   |succ k=>rw[rX] at a;exact xu sz he hl F _ E (by delta nl;lia) ⟨k,by lia,a⟩
structure tO(m:Nat)(hs:Nat->Int)(ow:Ow)(k:Nat):Prop where
 sz:ow.size=m+1
 lt:∀(j i:Nat),ow[j]?=some (some i)->i<k
 inj:∀(j j' i:Nat),ow[j]?=some (some i)->ow[j']?=some (some i)->j=j'
 rc:∀i,i<k->∃n,ow[(sp m (hs i) n).j]?=some (some i)/\∀n',n'<n->Hc ow (sp m (hs i) n').j
variable{ow:Ow}
theorem tO.hole{m k:Nat}(L:tO m hs ow k)(hk:k<=m):∃j,j<=m/\¬ Hc ow j:=by
 apply T7;intro z;have all:∀j,j<=m->ow[j]?=some (some ((ow.getD j none).getD 0)):=λj U=>by obtain⟨i,hi⟩:Hc ow j:=T7 λy=>z ⟨j,U,y⟩;rw[hi,Tg,hi];rfl
 have nd:((Tc (m+1)).map λj=>(ow.getD j none).getD 0).Nodup:=by
  delta ZR
  rw[U5]
  refine VA (λ{a b} d hb Q=>?_) Vv
  intro e
  have h1:=all a (by have:=Ts.mp d;exact U6 ‹_›)
  have h2:=all b (by have:=Ts.mp hb;exact U6 ‹_›)
  rw[<-e] at h2
  exact Q (L.inj a b _ h1 h2)
 have:=nd.length_le_of_subset (l₂:=Tc k) (λx hx=>by obtain⟨j,U,rfl⟩:=Tj.mp hx;exact Ts.mpr (L.lt j _ (all j (by have:=Ts.mp U;exact U6 ‹_›))))
 simp at this;lia
theorem tO.step{m k:Nat}(T:MB m)(L:tO m hs ow k)(hk:k<=m):∃j,Uy m ow (Ub m) (Ul (hs k)%(m+1)) (Ul (hs k))=some j/\tO m hs (ow.setIfInBounds j (some k)) (k+1):=by
 obtain⟨j,h,a⟩:=L.hole hk;obtain⟨q,g,V⟩:=tZ T (hs k) h;obtain⟨e,D,l,N⟩:=gK (P:=λn=>¬ Hc ow (sp m (hs k) n).j) _ (by rw[V];exact a);have N:=λn hn=>T7 λz=>N n hn z;have hf:=xu L.sz l N (Ub m) 0 (Qj m (hs k)) (Tu _) ⟨q,by delta Ub;lia,D⟩;have hb:(sp m (hs k) e).j<ow.size:=by have:=vV m (hs k) e;have:=L.sz;lia
 have E:∀j:Nat,(ow.setIfInBounds (sp m (hs k) e).j (some k))[j]?=if (sp m (hs k) e).j=j then some (some k) else ow[j]?:=λj=>by rw[Array.getElem?_setIfInBounds,zcu hb]
 have own:∀j,Hc ow j->Hc (ow.setIfInBounds (sp m (hs k) e).j (some k)) j:=by
  rintro j ⟨i,hi⟩;refine⟨i,?_⟩;rw[E,zcv]
  .exact hi
  .intro z;exact l ⟨i,by rw[z];exact hi⟩
 refine⟨_,hf,⟨by rw[Array.size_setIfInBounds];exact L.sz,λj i U=>?_,λj j' i U Y=>?_,λi hi=>?_⟩⟩
 .rw[E] at U;split at U
  .cases U;exact UU _
  .have:=L.lt j i U;exact TH ‹_›
 .rw[E] at U Y;split at U
  .next c=>
   cases U;split at Y
   .next c'=>rw[<-c,<-c']
   .exact absurd (L.lt _ _ Y) (TN _)
  .split at Y
   .cases Y;exact absurd (L.lt _ _ U) (TN _)
   .exact L.inj j j' i U Y
 .by_cases c:i=k
  .subst c;exact⟨e,by rw[E,zcu rfl],λn' hn=>own _ (N n' hn)⟩
  .obtain⟨n,r,Q⟩:=L.rc i XV;refine⟨n,?_,λn' hn=>own _ (Q n' hn)⟩;rw[E,zcv]
   .exact r
   .intro z;exact l ⟨i,by rw[z];exact r⟩
theorem tN{m:Nat}(T:MB m){hs:Nat->Int}:∀(l:List Int)(k:Nat)(ow:Ow),tO m hs ow k->(∀i,i<l.length->hs (k+i)=l.getD i 0)->k+l.length<=m+1->∃a,tO m hs a (k+l.length) /\
  l.foldl (init:=some (ow,k)) (λacc h=>do
   let (owner,k) <- acc
   let j <- Uy m owner (Ub m) (Ul h%(m+1)) (Ul h)
   pure (owner.setIfInBounds j (some k),k+1))=some (a,k+l.length)
 |[],k,ow,L,_,_=>⟨ow,L,rfl⟩
 |h::l,k,ow,L,e,hk=>by
  rw[S5] at hk e;obtain⟨j,b,x⟩:=L.step T XV;have I:hs k=h:=e 0 (by exact Wc _);rw[I] at b;obtain⟨a,d,U⟩:=tN T l (k+1) _ x (λi hi=>by have:=e (i+1) XV;rw[show k+1+i=k+(i+1) by lia,this];rfl) XV;rw[show k+1+l.length=k+(h::l).length by rw[S5];lia] at d U;refine⟨a,d,?_⟩;rw[WS];refine Eq.trans ?_ U
  congr 1
  show (do let j <- Uy m ow (Ub m) (Ul h%(m+1)) (Ul h);pure (ow.setIfInBounds j (some k),k+1))=_;rw[b];rfl
theorem Gz{m finger moves:Nat}{plain:Bool}(T:MB m)(c:Array Int)(hk:c.size<=m):∃t' order,YH m finger moves led plain c=some (t',order)/\t'.mask=m/\t'.led=led/\t'.plain=plain/\order.toList.Perm (Tc c.size)/\t'.place.size=order.size/\mK t' (λa=>c.getD (order.getD a 0) 0):=by
 have B:tO m (λi=>c.getD i 0) (Array.replicate (m+1) none) 0:=by
  refine⟨by simp,λj i h=>?_,λj j' i h=>?_,λi h=>absurd h (T8 _)⟩
  .rw[Xf] at h;split at h
   .cases h
   .cases h
  .rw[Xf] at h;split at h
   .cases h
   .cases h
 obtain⟨ow,L,hf⟩:=tN T c.toList 0 _ B (λi hi=>by rw[Vt];simp[Tg,Us]) (by simp;exact UN ‹_›);rw[Vt,Ti] at L hf;have hc:XX m c=some ow:=by
  delta XX
  rw[<-Array.foldl_toList,hf]
  rfl
 generalize O:(Tc (m+1)).filterMap (λj=>Zp (λx=>(j,x)) (ow.getD j none))=live;have w:∀j i,(j,i)∈live↔ow[j]?=some (some i):=by
  intro j i;rw[<-O,Wt];constructor
  .rintro⟨j',Y,e⟩;rw[Tg] at e;cases z:ow[j']? with
   |none=>rw[z] at e;cases e
   |some q=>
    rw[z] at e;cases q with
    |none=>cases e
    |some q=>cases e;exact z
  .intro e;have hb:=(UJ.mp e).1;refine⟨j,Ts.mpr (by rw[<-L.sz];exact hb),?_⟩;rw[Tg,e];rfl
 have X:live.Pairwise λx y=>x.1<y.1:=by
  rw[<-O];refine Zz _ (λa a' Z b hb V G=>?_) (List.pairwise_lt_range);cases z:ow.getD a none with
  |none=>rw[z] at hb;cases hb
  |some q=>
   cases v:ow.getD a' none with
   |none=>rw[v] at G;cases G
   |some E=>rw[z] at hb;rw[v] at G;cases hb;cases G;exact Z
 refine⟨{ mask:=m,place:=(live.map (·.1)).toArray,dummies:=#[],finger:=finger,led:=led,moves:=moves,plain:=plain },(live.map (·.2)).toArray,?_,rfl,rfl,rfl,?_,by simp,?_⟩
 .delta YH
  rw[hc,<-O];rfl
 .show (live.map (·.2)).Perm (Tc c.size);rw[W7 _ Vv]
  .intro i;rw[Ts,Tj];constructor
   .rintro⟨⟨j,H⟩,h1,rfl⟩;exact L.lt j _ ((w j H).mp h1)
   .intro hi;obtain⟨n,r,_⟩:=L.rc i hi;exact⟨(_,i),(w _ _).mpr r,rfl⟩
  .delta ZR
   rw[U5];refine VA (λ{a b} d hb Q e=>?_) X;have h1:=(w a.1 a.2).mp d;have h2:=(w b.1 b.2).mp hb;rw[<-e] at h2;have:=L.inj _ _ _ h1 h2;lia
 .have pl:∀a:Nat,((live.map (·.1)).toArray)[a]?=live[a]?.map (·.1):=λa=>by simp
  refine⟨T,rfl,λa b Q hb=>?_,λa j d=>?_,λa j d=>?_⟩
  .have G:b<live.length:=by simpa using hb
   have h1:=(Ve.mp X) a b (by exact UC ‹_› ‹_›) G Q;simp only[Tg];rw[pl,pl,SG G,SG (by exact UC ‹_› ‹_›)];exact h1
  .have d:=d;rw[pl] at d;cases z:live[a]? with
   |none=>rw[z] at d;cases d
   |some q=>rw[z] at d;cases d;have:=(w q.1 q.2).mp (SS z);have:=(UJ.mp this).1;have:=L.sz;show q.1<=m;lia
  .have d:=d;rw[pl] at d;cases z:live[a]? with
   |none=>rw[z] at d;cases d
   |some q=>
    rw[z] at d;cases d;have I:=(w q.1 q.2).mp (SS z);have D:((live.map (·.2)).toArray).getD a 0=q.2:=by
     rw[Tg];have:((live.map (·.2)).toArray)[a]?=live[a]?.map (·.2):=by simp
     rw[this,z];rfl
    rw[D];obtain⟨n,r,P⟩:=L.rc q.2 (L.lt _ _ I);refine⟨n,L.inj _ _ _ r I,λn' hn=>?_⟩;obtain⟨H,s⟩:=P n' hn;obtain⟨a',u⟩:=Wm ((w _ _).mpr s);exact⟨a',by show ((live.map (·.1)).toArray)[a']?=_;rw[pl,u];rfl⟩
theorem iL{es:Array α}{order:Array Nat}(hp:order.toList.Perm (Tc es.size)):(order.filterMap (es[·]?)).toList.Perm es.toList/\(order.filterMap (es[·]?)).size=es.size/\∀a:Nat,(order.filterMap (es[·]?))[a]?=order[a]?.bind (es[·]?):=by
 have w:∀i∈order.toList,i<es.size:=λi hi=>Ts.mp (hp.mem_iff.mp hi);have gen:∀l:List Nat,(∀i∈l,i<es.size)->(l.filterMap (es[·]?)).length=l.length/\∀a:Nat,(l.filterMap (es[·]?))[a]?=l[a]?.bind (es[·]?):=by
  intro l;induction l with
  |nil=>intro _;exact⟨rfl,λa=>by simp⟩
  |cons i l m=>
   intro h;obtain⟨h1,h2⟩:=m λi hi=>h i (SK _ hi);have hi:=h i SH;rw[Vf,Tp hi];refine⟨by simp[h1],λa=>?_⟩;cases a with
   |zero=>simp[hi]
   |succ a=>simpa using h2 a
 obtain⟨q,g⟩:=gen order.toList w;have e:(order.filterMap (es[·]?)).toList=order.toList.filterMap (es[·]?):=by simp
 have z:order.toList.length=es.size:=by rw[hp.length_eq,Ud]
 refine⟨?_,by rw[<-Ti,e,q,z],λa=>by rw[<-TB,e,g,TB]⟩;rw[e];refine(hp.filterMap _).trans ?_;have:(Tc es.size).filterMap (es[·]?)=es.toList:=by
  apply Uc;intro a;rw[(gen (Tc es.size) λi hi=>Ts.mp hi).2 a];by_cases c:a<es.size
  .rw[UQ c];simp
  .rw[Tx (by simpa using c),Tx (by simpa using c)];rfl
 rw[this]
end
variable{Q:Bool->Shared->Prop}
section
open PySem PyProof.Rows PySem.W
open L2
variable{prog:Program}{w:zam}{A:zan}{E:Value->Shared->Prop}{s:Shared}
abbrev TK(prog:Program)(w:zam):HeapKind prog w (List Key):=zaq (aC prog w)
def MG(k:List Key):Prop:=∃x r,k=TU x::r
noncomputable def zK(es:Array (Int×Value))(i:Nat):Int:=(es[i]?.map (·.1)).getD 0
structure bZ(prog:Program)(w:zam)(h:Heap)(a:Addr)(xs:List (List Key×Addr))(o:Obj)(es:Array (Int×Value))(ep:Nat)(t:zah):Prop where
 ho:h.get? a=some o
 hx:o.ExactSet
 hd:o.data=.set es ep t
 he:es.toList=xs.map λx=>((TK prog w).hash x.1,.ref x.2)
 nd:(xs.map (·.1)).Nodup
 is:∀x∈xs,(TK prog w).is h x.1 x.2/\MG x.1
 tb:mK t (zK es)
 sz:t.place.size=es.size
 fl:t.place.size*5<t.mask*3
 ld:t.led=!w.params.followText "set-order"
 pl:es.size=0\/t.plain=false
noncomputable def kP(xs:List (List Key×Addr))(k:List Key):Bool:=xs.any λx=>decide (x.1=k)
theorem dJ{xs:List (List Key×Addr)}{k:List Key}:kP xs k=true↔∃x∈xs,x.1=k:=by
 delta kP
 rw[US]
 exact⟨λ⟨x,h1,h2⟩=>⟨x,h1,zcA h2⟩,λ⟨x,h1,h2⟩=>⟨x,h1,zcx h2⟩⟩
section
variable{h:Heap}{a b:Addr}{xs:List (List Key×Addr)}{o:Obj}{es:Array (Int×Value)}{ep:Nat}{t:zah}{k:List Key}
theorem bZ.fits(S:bZ prog w h a xs o es ep t):t.fits es.size=true:=by
 delta YI zah.fill
 have:=S.fl
 rw[S.sz,S.tb.dm]
 simp
 have:=S.sz
 lia
theorem bZ.BB(S:bZ prog w h a xs o es ep t)(i:Nat):es[i]?=xs[i]?.map λx=>((TK prog w).hash x.1,Tv x.2):=by rw[<-TB,S.he,SQ]
theorem bZ.len(S:bZ prog w h a xs o es ep t):es.size=xs.length:=by rw[<-Ti,S.he,SE]
theorem lR{n:Nat}(hk:(TK prog w).is s.heap k b)(h:Q false s):zaj (zak prog w) A (za8 (n+1) (.ref b)) Q E s:=by
 obtain⟨o,items,m,ho,hc,hd,hi⟩:=hk;have hT:s.TypeIs (.ref b) "tuple" := ⟨o,ho,hc⟩
 unfold za8;refine zaf (zb8 hT ?_);refine zaf (zag ?_);refine zaf (zbo ho hd ?_);refine zaf ?_;rw[<-Ym];refine zbw _ (λrest r s'=>r.1=none/\s'=s/\∀v∈rest,carriedByValue v=true) _ ?_ ?_ _ _ ⟨rfl,rfl,hi.byValue⟩
 .rintro v rest r s' ⟨Y,rfl,j⟩;have t:=j v SH;have e:za8 n v=pure false:=by
   cases v with
   |ref a=>simp[carriedByValue] at t
   |_=>unfold za8;rfl
  rw[e];exact zag ⟨rfl,rfl,λu x=>j u (SK _ x)⟩
 .rintro⟨g,p⟩ s' ⟨Y,rfl,_⟩;subst Y;exact zag h
theorem ua(hk:(TK prog w).is s.heap k b){l:List Value}(hl:∀y∈l,∃k' c,y=.ref c/\(TK prog w).is s.heap k' c)(h:Q false s):zaj (zak prog w) A (searchCouldBeSeen (.ref b) l) Q E s:=by
 refine zaf ?_;refine zbw _ (λrest r s'=>r.1=none/\s'=s/\∀y∈rest,∃k' c,y=.ref c/\(TK prog w).is s.heap k' c) _ ?_ ?_ _ _ ⟨rfl,rfl,hl⟩
 .rintro y rest ⟨r,u⟩ s' ⟨m,rfl,j⟩;obtain⟨k',c,rfl,e⟩:=j y SH;have a:=λy hy=>j y (SK _ hy);refine zaX (λ_=>zag ⟨rfl,rfl,a⟩) λ_=>?_;refine zaf ((TK prog w).quiet hk ?_);refine zaf ((TK prog w).quiet e ?_);refine zaf (lR hk ?_);refine zaf (lR e ?_);exact zag ⟨rfl,rfl,a⟩
 .rintro⟨g,p⟩ s' ⟨m,rfl,_⟩;subst m;exact zag h
theorem KS{c:Bool}{m:Sem Bool}{u:Sem Unit}{K:Sem α}{Q:α->Shared->Prop}(T:∀Q:Bool->Shared->Prop,Q false s->zaj (zak prog w) A m Q E s)(j:zaj (zak prog w) A K Q E s):zaj (zak prog w) A (if c=true then (m >>= λr=>if r=true then u >>= λ_=>K else K) else K) Q E s:=
 zaX (λ_=>zaf (T _ (by rw[zcv W1];exact j))) λ_=>j
theorem bZ.search(S:bZ prog w s.heap a xs o es ep t)(C:A.units<cLine)(hk:(TK prog w).is s.heap k b){e:Nat}(he:¬ Lv t (sp t.mask ((TK prog w).hash k) e).j)(hl:∀n,n<e->Lv t (sp t.mask ((TK prog w).hash k) n).j)(v:e<10*Ub t.mask){Q:SetFound->Shared->Prop}
  (h:Q (if kP xs k=true then .there none else .free (sp t.mask ((TK prog w).hash k) e).j false) s):∀fuel n G,n<=e->e-n<fuel->G.getD (t.probeStart ((TK prog w).hash k))=sp t.mask ((TK prog w).hash k) n->
   (∀(i:Nat)(x:List Key×Addr),xs[i]?=some x->x.1=k->∀n',n'<n->t.place[i]?≠some (sp t.mask ((TK prog w).hash k) n').j)->
   zaj (zak prog w) A (setSearchFrom a (.ref b) ((TK prog w).hash k) true fuel G) Q E s
 |0,n,G,h1,h2,_,_=>by lia
 |fuel+1,n,G,h1,h2,h3,h4=>by
  refine zaf (zao S.ho S.hd S.fits ?_);dsimp only;have r:t.gaveWay=false:=by
   delta zah.gaveWay
   rcases S.tb.ms with e|e<;>rw[e]<;>rfl
  rw[r];rw[h3];have F:=xw (hs:=zK es) S.tb.dm S.tb.ri he hl (10*Ub t.mask) n h1 XV;rcases F with ⟨J,g⟩|⟨n',i,J,g,L,g4,R,m⟩
  .have H:=J;have N:¬ kP xs k=true:=by
    intro z;obtain⟨x,hx,D⟩:=dJ.mp z;obtain⟨i,hi⟩:=Wm hx;have X:i<t.place.size:=by rw[S.sz,S.len];exact(SF.mp hi).1
    obtain⟨j,U⟩:∃j,t.place[i]?=some j:=⟨_,Tp X⟩
    obtain⟨Z,d,Y⟩:=S.tb.rc i j U;have u:zK es i=(TK prog w).hash k:=by delta zK;rw[S.BB,hi,<-D];rfl
    rw[u] at d Y;have T:Z<e:=YX λz=>by
     by_cases c:e=Z
     .exact he ⟨i,by rw[U,<-d,c]⟩
     .exact he (Y e (by exact VO ‹_› ‹_›))
    have c2:=V4 λz=>h4 i x hi D Z z (by rw[U,d]);exact g Z c2 T i (by rw[U,d]) u
   rw[zcv N] at h;have key:∀f,f=zK es->t.probe f ((TK prog w).hash k) (sp t.mask ((TK prog w).hash k) n)=some (.empty (sp t.mask ((TK prog w).hash k) e).j none):=λf hf=>by rw[hf];exact H
   rw[key _ ?hf]
   case hf=>rfl
   exact zag h
  .have key:∀f,f=zK es->t.probe f ((TK prog w).hash k) (sp t.mask ((TK prog w).hash k) n)=some (.candidate (sp t.mask ((TK prog w).hash k) n').j i (sp t.mask ((TK prog w).hash k) (n'+1))):=λf hf=>by rw[hf];exact R
   rw[key _ ?hf]
   case hf=>rfl
   have X:i<xs.length:=by rw[<-S.len,<-S.sz];exact(UJ.mp L).1
   obtain⟨x,hx⟩:∃x,xs[i]?=some x:=⟨_,SG X⟩
   have hex:es[i]?=some ((TK prog w).hash x.1,Tv x.2):=by rw[S.BB,hx];rfl
   have I:=(S.is x (SS hx)).1;refine KS (λQ hq=>ua hk (λy hy=>?_) hq) ?_
   .obtain⟨p,hp,rfl⟩:=Tj.mp hy;have hp:p∈es.toList:=by have:=XY.mp hp;exact XY.mpr (Array.mem_filter.mp this).1
    rw[S.he] at hp;obtain⟨K,V,rfl⟩:=Tj.mp hp;exact⟨K.1,K.2,rfl,(S.is K V).1⟩
   rw[hex];refine zaf (zau ((TK prog w).eqBool C I hk ?_));refine zaf (zao S.ho S.hd S.fits ?_);by_cases c:x.1=k
   .rw[zcx c];rw[zcu (dJ.mpr ⟨x,SS hx,c⟩)] at h;exact zag h
   .rw[zcw c];have sm:t.sameMemory t.moves t.mask=some true:=by delta zah.sameMemory;rw[zcu (beq_self_eq_true _)]
    rw[sm];dsimp only;rw[zcu rfl,oB S.tb.ri L];dsimp only;rw[hex];refine zaf (wpAny_isSame_ref_self (zaf (zag ?_)));refine bZ.search S C hk he hl v h fuel (n'+1) _ (by exact YK ‹_›) XV rfl λB x2 O l P hn2 z=>?_;by_cases q:P<n
    .exact h4 B x2 O l P q z
    .have u:zK es B=(TK prog w).hash k:=by delta zK;rw[S.BB,O,<-l];rfl
     by_cases q2:P<n'
     .exact m P (by exact U8.mp ‹_›) q2 B z u
     .have:P=n':=by lia
      subst this;have:B=i:=(below_at S.tb.ri z).symm.trans (below_at S.tb.ri L);subst this;rw[hx] at O;cases O;exact c l
end
end
section
open PySem PyProof.Rows PySem.W
open L2
variable{prog:Program}{w:zam}{A:zan}{E:Value->Shared->Prop}{s:Shared}
section
variable{h h':Heap}{a b:Addr}{xs:List (List Key×Addr)}{o:Obj}{es:Array (Int×Value)}{ep:Nat}{t t':zah}{k:List Key}
theorem mK.congr{i:Nat->Int}(T:mK t hs)(e:∀(a j:Nat),t.place[a]?=some j->hs a=i a):mK t i:=
 ⟨T.ms,T.dm,T.ri,T.le,λa j d=>by rw[<-e a j d];exact T.rc a j d⟩
theorem nk(x:(TK prog w).is h k b)(ho:h.get? a=some o)(hd:o.data=.set es ep t)(hs:U9 a h h'):(TK prog w).is h' k b:=by
 obtain⟨o',items,n,z,hc,q,hi⟩:=x;have I:b≠a:=by rintro rfl;obtain rfl:o'=o:=Ta (z.symm.trans ho);rw[hd] at q;exact nomatch q
 exact⟨o',items,n,(hs.2 b I).trans z,hc,q,hi⟩
theorem oe(hk:(TK prog w).is s.heap k b)(hx:MG k)(h:Q false s):zaj (zak prog w) A (hashByValue 8 (.ref b)) Q E s:=by
 obtain⟨o,items,m,ho,hc,hd,hi⟩:=hk;have hT:s.TypeIs (.ref b) "tuple" := ⟨o,ho,hc⟩
 obtain⟨x,r,rfl⟩:=hx;refine zaf (zbH hT F.slot_tuple_hash.lookup ?_);refine zaf (zbo ho hd ?_);refine zaf ?_;show zaj _ _ (forIn items _ _) _ _ s;rw[<-Ym];generalize items.toList=l at hi;cases hi with
 |@cons k v ks vs h1 h2=>
  rcases aR (show gI (TU x) v=true from h1) with ⟨i,t,e,_⟩|⟨y,t,_,rfl⟩
  .cases e
  .rw[WQ];refine zaf ?_;exact zag (zag (zag h))
theorem wD{es':Array (Int×Value)}(ho:h.get? a=some o)(hx:o.ExactSet)(hd:o.data=.set es ep t):(h.update a (Wd es' t')).get? a=some { o with data:=.set es' (ep+1) t' }:=by have:=Ux (Wd es' t') ho (by rw[putSet_of es' t' hd];rfl);rw[putSet_of es' t' hd] at this;exact this
theorem DJ{xs:Array α}{p:Nat}{x:α}:(TF xs p x).toList=xs.toList.take p++x::xs.toList.drop p:=by
 delta TF
 simp[List.extract_eq_take_drop]
 rw[List.take_of_length_le T1]
theorem bZ.new(hl:led=!w.params.followText "set-order")(ho:h.get? a=some o)(hx:o.ExactSet)(hd:o.data=.set #[] 0 (.fresh 0 0 led)):bZ prog w h a [] o #[] 0 (.fresh 0 0 led):=
 ⟨ho,hx,hd,rfl,U7,(λ_ h=>nomatch h),⟨.inl rfl,rfl,λa b h1 h2=>by simp[WH] at h2,λa j h=>by simp[WH] at h,λa j h=>by simp[WH] at h⟩,rfl,by show 0*5<7*3;decide,hl,.inl rfl⟩
theorem bZ.add(S:bZ prog w s.heap a xs o es ep t)(hu:A.units<cLine)(hk:(TK prog w).is s.heap k b)(hx:MG k)(hb:xs.length+1<=18)
  (h:∀h' H o' es' ep' t',U9 a s.heap h'->bZ prog w h' a H o' es' ep' t'->(kP xs k=true/\H=xs\/kP xs k=false/\H.Perm ((k,b)::xs))->Q (!kP xs k) { s with heap:=h' }):
  zaj (zak prog w) A (setAddHashed a (.ref b) ((TK prog w).hash k)) Q E s:=by
 unfold setAddHashed setAddHashedIn;refine zau (zaf (zao S.ho S.hd S.fits ?_));have bs:byScan (.ref b) es=false:=rfl;dsimp only;rw[bs];simp only[Ui,if_false];obtain⟨e,e1,e2,e3⟩:=S.tb.end (by have:=S.fl;lia) ((TK prog w).hash k);have hN:10*Ub t.mask<=1000:=by unfold Ub;rcases S.tb.ms with z|z<;>rw[z]<;>decide
 refine zaf (S.search hu hk e2 e3 e1 ?_ 100000 0 none (Tu _) XV rfl (λ_ _ _ _ n' z=>absurd z (T8 n')));cases n:kP xs k with
 |true=>rw[zcu rfl];rw[n] at h;have:=h s.heap xs o es ep t (ZS _ _) S (.inl ⟨rfl,rfl⟩);exact zag this
 |false=>
  rw[zcv W1];dsimp only;refine zaf (zao S.ho S.hd S.fits ?_);dsimp only;generalize ep0:t.put (sp t.mask ((TK prog w).hash k) e).j=tp;obtain⟨y,p⟩:=tp;obtain⟨K,l,z1,l1,mv1,p1,pl1⟩:=Jm S.tb e2 e3 ep0;dsimp only;have hp:p<=es.size:=by rw[<-S.sz];exact p1
  have F:∀d:zah,d={ y with plain:=false }->zaj (zak prog w) A (storeSet a (TF es p ((TK prog w).hash k,.ref b)) d >>= λ_=>if (!false&&d.tooFull)=true then setRelay a (Yu (es.size+1)) >>= λ_=>pure true else pure true) Q E s:=by
   rintro d rfl;have zs:=lH (x:=((TK prog w).hash k,Tv b)) hp;refine zaf (zb9 S.ho S.hd ?_ (by rw[zs,S.len,zav];exact fL));have J:=wD (t':={ y with plain:=false }) (es':=TF es p ((TK prog w).hash k,.ref b)) S.ho S.hx S.hd;have Y:=Uj s.heap a (Wd (TF es p ((TK prog w).hash k,.ref b)) { y with plain:=false });generalize s.heap.update a (Wd (TF es p ((TK prog w).hash k,.ref b)) { y with plain:=false })=h1 at J Y ⊢;generalize r:TF es p ((TK prog w).hash k,.ref b)=es1 at J zs;have P:es1.toList=(xs.take p++(k,b)::xs.drop p).map λx=>((TK prog w).hash x.1,Tv x.2):=by rw[<-r,DJ,S.he];simp
   have O:(xs.take p++(k,b)::xs.drop p).Perm ((k,b)::xs):=by refine List.perm_middle.trans (List.Perm.cons _ ?_);rw[Ue]
   have hT1:mK { y with plain:=false } (zK es1):=by
    have:mK { y with plain:=false } (PX (zK es) p ((TK prog w).hash k)):=⟨K.ms,K.dm,K.ri,K.le,K.rc⟩
    refine this.congr λi j _=>?_;unfold PX zK;rw[<-r,og hp];split
    .rfl
    .split<;>rfl
   have L:((xs.take p++(k,b)::xs.drop p).map (·.1)).Nodup:=by refine(O.map _).nodup_iff.mpr ?_;rw[S4,Tz];refine⟨λz=>?_,S.nd⟩;obtain⟨x,x1,x2⟩:=Tj.mp z;have:=dJ.mpr ⟨x,x1,x2⟩;rw[n] at this;cases this
   have q:∀x∈xs.take p++(k,b)::xs.drop p,(TK prog w).is h1 x.1 x.2/\MG x.1:=λx V=>by
    rcases SR.mp (O.mem_iff.mp V) with rfl|V
    .exact⟨nk hk S.ho S.hd Y,hx⟩
    .exact⟨nk (S.is x V).1 S.ho S.hd Y,(S.is x V).2⟩
   have X:y.place.size=es1.size:=by rw[z1,zs,S.sz]
   have G:({ y with plain:=false }:zah).fill=es1.size:=by show y.place.size+y.dummies.size=_;rw[K.dm,X];rfl
   have B:=S.fl;have hms:=S.tb.ms;by_cases c:({ y with plain:=false }:zah).tooFull=true
   .rw[c];simp only[Bool.not_false,Xr,if_true];have D:es1.size*5≥t.mask*3:=by have:=zcA c;rw[G] at this;rw[<-l];exact this
    have hlx:=S.len;have hsz:=S.sz;have m7:t.mask=7:=by
     rcases hms with z|z
     .exact z
     .rw[z] at D B;lia
    have C:es.size=4:=by rw[m7] at D B;lia
    rw[C];refine zaf ?_;unfold setRelay;have R:({ y with plain:=false }:zah).fits es1.size=true:=by unfold YI;rw[G];show (y.place.size==es1.size&&decide (es1.size<=y.mask))=true;rw[X,l,m7,zs,C];simp
    refine zaf (zao J rfl R ?_);dsimp only;rw[zcv (by rw[zav];decide)];obtain⟨Z,order,r1,r2,r3,r4,U,r6,r7⟩:=Gz (m:=31) (finger:=y.finger) (moves:=({ y with plain:=false }:zah).movedTo 31) (led:=y.led) (plain:=false) (.inr rfl) (es1.map (·.1)) (by rw[WZ,zs,C];decide);rw[show ({ y with plain:=false }:zah).relaid (es1.map (·.1)) (Yu (4+1))=some (Z,order) from r1];rw[WZ] at U;obtain⟨o1,o2,o3⟩:=iL (es:=es1) U;have re:∀(c:Bool)(u:Sem PUnit),c=false->(if c=true then (u >>= λ_=>pure (order.filterMap (es1[·]?),Z)) else pure (order.filterMap (es1[·]?),Z):Sem (Array (Int×Value)×zah))=pure (order.filterMap (es1[·]?),Z):=λc u hc=>by rw[hc];rfl
    refine zaf (zaQ (a:=(order.filterMap (es1[·]?),Z)) (re ((order.filterMap (es1[·]?)).size != es1.size) _ (by rw[o2];simp)) ?_);dsimp only;refine zb9 J rfl ?_ (by rw[o2,zs,C,zav];decide);have I:=wD (t':=Z) (es':=order.filterMap (es1[·]?)) J S.hx rfl;have v:=Uj h1 a (Wd (order.filterMap (es1[·]?)) Z);dsimp only at I v ⊢;generalize h1.update a (Wd (order.filterMap (es1[·]?)) Z)=h2 at I v ⊢;have T:(xs.take p++(k,b)::xs.drop p).length=es1.size:=by rw[<-Ti,P,SE]
    obtain⟨q1,q2,q3⟩:=iL (es:=(xs.take p++(k,b)::xs.drop p).toArray) (order:=order) (by rw[SM,T];exact U);have hat:∀i:Nat,es1[i]?=(xs.take p++(k,b)::xs.drop p)[i]?.map λx=>((TK prog w).hash x.1,Tv x.2):=λi=>by rw[<-TB,P,SQ]
    have f:(order.filterMap (es1[·]?)).toList=((order.filterMap ((xs.take p++(k,b)::xs.drop p).toArray[·]?)).toList).map λx=>((TK prog w).hash x.1,Tv x.2):=by
     rw[XE,XE,List.map_filterMap]
     congr 1
     funext i
     rw[hat];simp
    have N:(order.filterMap ((xs.take p++(k,b)::xs.drop p).toArray[·]?)).toList.Perm (xs.take p++(k,b)::xs.drop p):=by simpa using q1
    have:=h h2 _ _ _ _ Z (Y.trans v) ⟨I,S.hx,rfl,f,(N.map _).nodup_iff.mpr L,λx V=>⟨nk (q x (N.mem_iff.mp V)).1 J rfl v,(q x (N.mem_iff.mp V)).2⟩,r7.congr λi j hi=>?_,by rw[r6,o2,<-Ti,U.length_eq,Ud],by rw[r6,r2,<-Ti,U.length_eq,Ud,zs,C];decide,by rw[r3,l1];exact S.ld,.inr r4⟩ (.inr ⟨n,N.trans O⟩)
    .rw[n] at this;exact zag this
    .have g:i<order.size:=by rw[<-r6];exact(UJ.mp hi).1
     unfold zK;rw[o3,Tp g];have e1:order.getD i 0=order[i]:=by simp[Vl,g]
     rw[e1,Tg,Array.getElem?_map];rfl
   .rw[U3.mpr c];simp only[Vq,Ui,if_false];have D:es1.size*5<t.mask*3:=by have:=of_decide_eq_false (U3.mpr c);rw[G] at this;rw[<-l];exact YX this
    have:=h h1 _ _ _ _ _ Y ⟨J,S.hx,rfl,P,L,q,hT1,X,by show y.place.size*5<y.mask*3;rw[X,l];exact D,by show y.led=_;rw[l1];exact S.ld,.inr rfl⟩ (.inr ⟨n,O⟩);rw[n] at this;exact zag this
  by_cases cp:y.plain=true
  .rw[cp];simp only[if_true];refine zaf (oe hk hx ?_);simp only[Ui,if_false];exact F _ rfl
  .rw[U3.mpr cp];simp only[Ui,if_false];refine zaf (zag ?_);simp only[if_true];refine F _ ?_;cases y;simp only at cp;rw[U3.mpr cp]
end
end
variable{S:Addr}{o:Obj}{es:Array (Int×Value)}{ep:Nat}
section
open PySem PyProof.Rows PySem.W
open L2 PySem.Spec
def Ln(prog:Program)(w:zam)(h:Heap)(S:Addr)(bs:Nat->Addr)(val:Nat->List Key)(i:Nat):Prop:=∃xs o es ep t,bZ prog w h S xs o es ep t/\(∀k,kP xs k=true↔∃j,j<i/\val j=k)/\∀x∈xs,∃j,j<i/\bs j=x.2
theorem bZ.keep{prog:Program}{xs:List (List Key×Addr)}{t:zah}(T:bZ prog w h S xs o es ep t)(k:∀b o,b=S\/(∃x∈xs,x.2=b)->h.get? b=some o->h'.get? b=some o):bZ prog w h' S xs o es ep t:=
 ⟨k S o (.inl rfl) T.ho,T.hx,T.hd,T.he,T.nd,λx hx=>⟨by obtain⟨o',items,n,z,hc,q,hi⟩:=(T.is x hx).1;exact⟨o',items,n,k _ _ (.inr ⟨x,hx,rfl⟩) z,hc,q,hi⟩,(T.is x hx).2⟩,T.tb,T.sz,T.fl,T.ld,T.pl⟩
section
variable{prog:Program}{w:zam}{A:zan}{R:zcd->Shared->Prop}{I:Addr}{fp wr:List Addr}{G:Array zb1->Array zb1->Prop}{n:Nat}{P:Nat->Value->Prop}{St:Nat->Shared->Prop}
def TupAt(prog:Program)(w:zam)(h:Heap)(bs:Nat->Addr)(val:Nat->List Key)(n:Nat):Prop:=∀i,i<n->(TK prog w).is h (val i) (bs i)
theorem jl{k:List Key}{b:Addr}(x:(TK prog w).is h k b)(e:∀o,h.get? b=some o->h'.get? b=some o):(TK prog w).is h' k b:=by obtain⟨o',items,n,z,r⟩:=x;exact⟨o',items,n,e _ z,r⟩
theorem zH(W:WalksS prog w A.in1 I fp wr G n P St)(S:Addr)(H:S∉fp)(l:A.in1.units<cLine)(bs:Nat->Addr)(val:Nat->List Key)(K:∀i v,P i v->v=.ref (bs i))(E:∀i,i<n->bs i∉S::wr)(Q:∀i,i<n->MG (val i))(D:List (List Key))(hD:D.length<=17)(B:∀i,i<n->val i∈D):
  ∀(m i:Nat)(s:Shared),i+m=n->St i s->TupAt prog w s.heap bs val n->(∃xs o es ep t,bZ prog w s.heap S xs o es ep t/\(∀k,kP xs k=true↔∃j,j<i/\val j=k)/\∀x∈xs,∃j,j<n/\bs j=x.2)->
   (∀s',Moved (S::wr) G s s'->Ln prog w s'.heap S bs val n->R (.ok (.ret .none)) s')->zbc (zak prog w) A (.builtin "set.update.loop" ⟨[.ref S,.ref I],[]⟩) R s:=by
 have C:=λh=>H (W.sub _ h);have more:∀b∈wr,b∈S::wr:=λb h=>.tail _ h;have u:∀{s s':Shared}{xs o es ep t},bZ prog w s.heap S xs o es ep t->(∀x∈xs,∃j,j<n/\bs j=x.2)->Moved wr G s s'->bZ prog w s'.heap S xs o es ep t:=λT hx d=>T.keep λb o hb e=>d.heap b o (by
  rcases hb with rfl|⟨x,h1,rfl⟩
  .exact C
  .obtain⟨j,F,y⟩:=hx x h1;rw[<-y];exact λz=>E j F (more _ z)) e
 intro m;induction m with
 |zero=>
  intro i s hi O hT ⟨xs,o,es,ep,t,T,hk,hx⟩ fin;obtain rfl:i=n:=by lia
  refine zaK VZ ?_;exact zaf (W.done s _ _ O λs' d=>zag (fin s' (d.mono more) ⟨xs,o,es,ep,t,u T hx d,hk,hx⟩))
 |succ m ih=>
  intro i s hi O hT ⟨xs,o,es,ep,t,T,hk,hx⟩ fin;have X:i<n:=by lia
  refine zaK VZ ?_;refine zaf (W.item i s _ _ X O λv s' hP V d=>?_);obtain rfl:=K i v hP;have T':=u T hx d;have Z:=λj q=>jl (hT j q) λo e=>d.heap _ o (λz=>E j q (more _ z)) e;refine zaf (zau ?_);refine zau (zaf ((TK prog w).pyHash l (Z i X) ?_));have J:xs.length+1<=18:=by
   have:=T.nd.length_le_of_subset (l₂:=D) λk p=>by obtain⟨x,h1,h2⟩:=Tj.mp p;obtain⟨j,F,y⟩:=(hk k).mp (dJ.mpr ⟨x,h1,h2⟩);rw[<-y];exact B j (by exact UC ‹_› ‹_›)
   rw[SE] at this;lia
  refine bZ.add T' l (Z i X) (Q i X) J λh' Y o' es' N t' sb T2 r=>?_;have fr:∀b o,b≠S->s'.heap.get? b=some o->h'.get? b=some o:=λb o hb e=>(sb.2 b hb).trans e;refine zag ⟨zaY Zq _,ih (i+1) _ XV (W.frame _ s' _ _ V (Vw _ _) λb hb o e=>fr b o (λz=>H (z▸hb)) e) (λj q=>jl (Z j q) λo e=>fr _ o (λz=>E j q (z▸SH)) e) ⟨Y,o',es',N,t',T2,λk=>?_,λx L=>?_⟩ λs2 f g=>?_⟩
  .rcases r with ⟨h1,rfl⟩|⟨h1,h2⟩
   .rw[hk k];constructor
    .rintro⟨j,F,y⟩;exact⟨j,by exact TH ‹_›,y⟩
    .rintro⟨j,F,y⟩;by_cases c:j=i
     .subst c;obtain⟨j',a1,U⟩:=(hk (val j)).mp h1;exact⟨j',a1,U.trans y⟩
     .exact⟨j,by lia,y⟩
   .have e:kP Y k=true↔val i=k\/kP xs k=true:=by
     rw[dJ,dJ];constructor
     .rintro⟨x,a1,U⟩;rcases SR.mp (h2.mem_iff.mp a1) with rfl|a1
      .exact .inl U
      .exact .inr ⟨x,a1,U⟩
     .rintro(a|⟨x,a1,U⟩)
      .exact⟨(val i,bs i),h2.mem_iff.mpr SH,a⟩
      .exact⟨x,h2.mem_iff.mpr (SK _ a1),U⟩
    rw[e,hk k];constructor
    .rintro(a|⟨j,F,y⟩)
     .exact⟨i,by exact UU _,a⟩
     .exact⟨j,by exact TH ‹_›,y⟩
    .rintro⟨j,F,y⟩;by_cases c:j=i
     .subst c;exact .inl y
     .exact .inr ⟨j,by lia,y⟩
  .rcases r with ⟨h1,rfl⟩|⟨h1,h2⟩
   .exact hx x L
   .rcases SR.mp (h2.mem_iff.mp L) with rfl|a1
    .exact⟨i,X,rfl⟩
    .exact hx x a1
  .refine fin s2 (Moved.trans W.gtrans ((d.mono more).then_heap (Vw _ _) λb o hb e=>?_) f) g;exact fr b o (λz=>hb (z▸SH)) e
end
section
variable{prog:Program}{w:zam}{A:zan}{E:Value->Shared->Prop}{s:Shared}
theorem Gn(a:Value){Q₁:Value->Shared->Prop}
  (h:Q₁ (.ref s.heap.objs.size) { s with heap:=s.heap.push (tP (!w.params.followText "set-order")) }):
  zbc (zak prog w) A (.call (.builtin "set.__new__") ⟨[.type "set",a],[]⟩) (wants Q₁ E) s:=by
 refine codeAny_of_tree ?_;refine zaf (zaQ (PySem.F.newCall_set_1 a) (zag ⟨zaY PySem.F.plain_set_new _,zaK PySem.F.entry_set_new ?_⟩));have b:=sub_set_self
 wp_walk
 refine zba (zag ?_);refine zaf (wpAny_alloc (zag ?_));exact zag h
theorem nR{l:Addr}{items:Array Value}{val:Nat->List Key}{bs:Nat->Addr}{Q:Value->Shared->Prop}(g:A.handled=none)(t:A.units+64<cLine)(hl:s.heap.IsList l items)(hi:∀(i:Nat)(v:Value),items[i]?=some v->v=Tv (bs i))(hT:TupAt prog w s.heap bs val items.size)(S:∀i,i<items.size->MG (val i))(D:List (List Key))(d:D.length<=17)(B:∀i,i<items.size->val i∈D)
  (h:∀(h':Heap)(tk:Nat),Ln prog w h' s.heap.objs.size bs val items.size->(∀b o,b<s.heap.objs.size->s.heap.get? b=some o->h'.get? b=some o)->Q (.ref s.heap.objs.size) { s with heap:=h',toks:=tk }):
  zaj (zak prog w) A (call (.type "set") [.ref l]) Q E s:=by
 obtain⟨c,tl,Y⟩:=Uw.mro;have X:=Uw.made;have L:=Uw.sub;refine wpAny_call (codeAny_of_tree ?_);show zaj _ _ (callAny (.type "set") _) _ _ _;refine zag ⟨Code.quiet_builtin _ UV,zaK PySem.F.entry_type_call ?_⟩;rw[zan.under_plain (weight_type_call_type "set" [.ref l] []) rfl];have h1:=Uw.notType;have h2:=Uw.canCreate;have hct:=PySem.F.typeCall_set_1 (.ref l)
 repeat (any_goals (first|assumption|wp_step))
 refine zaS (Gn (.ref l) (E:=E) (Q₁:=λobj Z=>obj=.ref s.heap.objs.size/\Z={ s with heap:=s.heap.push (tP (!w.params.followText "set-order")) }) ⟨rfl,rfl⟩) λr Z m=>?_;cases r with
 |error e=>exact m
 |ok fl=>
  cases fl with
  |ret obj=>
   obtain⟨rfl,rfl⟩:=m;generalize O:(!w.params.followText "set-order")=led;have C:(s.heap.push (tP led)).get? s.heap.objs.size=some (tP led):=S6 _ rfl;have H:YY { s with heap:=s.heap.push (tP led) } (.ref s.heap.objs.size) "set" := ⟨_,C,rfl⟩
   have hli:=Uw.init.lookup;have hbi:=Uw.init.bind (.ref s.heap.objs.size)
   repeat (any_goals (first|assumption|wp_step))
   refine zaS (codeAny_call_builtin (R:=wants (λr U=>r=.none/\∃h' tk,U={ s with heap:=h',toks:=tk } /\
     Ln prog w h' s.heap.objs.size bs val items.size /\
     (∀b o,b<s.heap.objs.size->s.heap.get? b=some o->h'.get? b=some o)) E) Uw.init.plain PySem.F.entry_set_init (check_set_init_1 H ?_)) λP U a=>?_
   .have lt:l<s.heap.objs.size:=by obtain⟨o,ho,_⟩:=hl;exact SV ho
    have y:(s.heap.push (tP led)).IsList l items:=hl.push _;have hTl:YY { s with heap:=s.heap.push (tP led) } (.ref l) "list" := by obtain⟨o,ho,hc,_⟩:=y;exact⟨o,ho,hc⟩
    have n:=PySem.F.sub_list_set;have N:=PySem.F.sub_list_frozenset;have hne:(Vi "list" == Vi "dict")=false:=by decide
    unfold Builtin.«set.__init__» noKeywords YZ;generalize I:zco=PI
    wp_walk
    subst I;refine zb6 y ?_;refine zaf (wpAny_runValue ?_);have K:A.in1.in1.in1.handled=none:=by simp[g]
    have sz:(s.heap.push (tP led)).objs.size=s.heap.objs.size+1:=Y5 ..;have f:∀i,i<items.size->bs i<s.heap.objs.size:=λi q=>by obtain⟨o,_,_,ho,_⟩:=hT i q;exact SV ho
    refine zH ((Walks.list K _ l (by rw[sz];exact S8 (TH lt)) items).toS) s.heap.objs.size (by rw[sz];simp only[SR,Uk,or_false,not_or];exact⟨S8 (UU _),Vd lt⟩) (T4 (show A.in1.in1.in1.units<=A.units+64 by show A.units+1+1+1<=_;lia) t) bs val hi (λi q=>by rw[sz];simp only[SR,Uk,or_false,not_or];exact⟨S8 (f i q),S8 (TH (f i q))⟩) S D d B items.size 0 _ XV ⟨⟨_,S6 _ rfl,rfl,rfl⟩,y.push _⟩ (λi q=>jl (hT i q) λo e=>SI _ (SI _ e)) ⟨[],_,_,_,_,bZ.new O.symm (SI _ C) ⟨rfl,rfl,rfl⟩ rfl,λk=>⟨λz=>(To z).elim,λ⟨j,hj,_⟩=>absurd hj (T8 j)⟩,λx hx=>nomatch hx⟩ λs' T G=>?_;obtain⟨h',g',d',V,J⟩:=s';obtain rfl:g'=s.gens:=T.gens;obtain rfl:d'=s.drawn:=T.drawn;obtain rfl:J=s.os:=T.os;refine zag (zag ⟨rfl,h',V,rfl,G,λb o hb e=>?_⟩);exact T.heap b o (by rw[sz];simp only[SR,Uk,or_false,not_or];exact⟨S8 hb,S8 (TH hb)⟩) (SI _ (SI _ e))
   .cases P with
    |error e=>exact a
    |ok u=>
     cases u with
     |ret r=>
      obtain⟨rfl,h',tk,rfl,G,p⟩:=a
      repeat (any_goals (first|assumption|wp_step))
      exact h _ _ G p
     |_=>exact a.elim
  |_=>exact m.elim
end
end
section
open PySem PyProof.Rows PySem.W
open L2 PySem.Spec
theorem ie:Slot "set_iterator" "__next__" "set_iterator.__next__" := .of (owner:= "set_iterator") (n:= "__next__") (by rw[typeLookup_type,zbM];kernel_rfl) UV UV UV (by first|exact .inl UV|exact .inr UV) (by rw[zbS];kernel_rfl)
theorem tR:entryFor table "set_iterator.__next__" = some Builtin.«set_iterator.__next__»:=entryFor_of_tree (by kernel_rfl)
theorem we(a:Value):argsOk "set_iterator.__next__" ⟨[a],[]⟩:=by delta argsOk;rw[signature?_of (n:= "__txen__".toList) (by kernel_rfl) (by kernel_rfl:Yn.lookup (Y0 "rotareti_tes".toList.reverse)=some WL)];kernel_rfl
theorem wg:Slot "set_iterator" "__iter__" "set_iterator.__iter__" := .of (owner:= "set_iterator") (n:= "__iter__") (by rw[typeLookup_type,zbM];kernel_rfl) UV UV UV (by first|exact .inl UV|exact .inr UV) (by rw[zbS];kernel_rfl)
theorem nE:entryFor table "set.__iter__" = some Builtin.«frozenset.__iter__»:=entryFor_alias (id':= "frozenset.__iter__") (by kernel_rfl) rfl UV (by kernel_rfl)
end
section
open PySem PyProof.Rows PySem.W
open L2 PySem.Spec
variable{prog:Program}{w:zam}{A:zan}{E:Value->Shared->Prop}{s:Shared}
theorem iP{α:Type}:∀{l:List α}{i:Nat}(h:i<l.length),(l[i]::l.eraseIdx i).Perm l
 |x::l,0,_=>VB _
 |x::l,i+1,h=>by have:=iP (by simpa using h);exact(WE _ _ _).trans (this.cons x)
theorem wp_choose{b:Source}{n:Nat}{Q:Nat->Shared->Prop}(hn:n≠0)(h:∀i d,i<n->Q i { s with drawn:=d }):zaj (zak prog w) A (choose b n) Q E s:=
 λ_ _ _=>⟨hn,h _ _ (Wb _ (Nat.pos_of_ne_zero hn))⟩
theorem wa:∀(n:Nat)(xs:List Nat){s:Shared}{Q:List Nat->Shared->Prop},xs.length=n->(∀d ys,ys.Perm xs->Q ys { s with drawn:=d })->zaj (zak prog w) A (drawOrder n xs) Q E s
 |0,xs,s,Q,hl,h=>by have:xs=[]:=Vy hl;subst this;exact zag (h s.drawn [] (VB _))
 |n+1,[],s,Q,hl,h=>nomatch hl
 |n+1,x::r,s,Q,hl,h=>by refine zaf (wp_choose T1 λi d hi=>?_);rw[SG hi];refine zaf (wa n ((x::r).eraseIdx i) (by rw[VL hi,hl];rfl) λT ys hp=>?_);exact zag (h T _ ((hp.cons _).trans (iP hi)))
theorem oW{α:Type}(next:Nat->Nat):∀(fuel k:Nat)(left:List α)(out:Array α),left.length=fuel->(zaM.go next fuel k left out).toList.Perm (out.toList++left)
 |0,k,left,out,h=>by have:left=[]:=Vy h;subst this;unfold zaM.go;simp
 |fuel+1,k,left,out,h=>by
  unfold zaM.go;have hi:next k%left.length<left.length:=Wb _ XV
  rw[SG hi];refine(oW next fuel (k+1) _ _ (by rw[VL hi,h];rfl)).trans ?_;rw[Array.toList_push,SW];exact W8 _ (iP hi)
theorem mW(next:Nat->Nat)(xs:Array α):(zaM next xs).toList.Perm xs.toList:=by
 have:=oW next xs.size 0 xs.toList #[] T1
 simpa[zaM] using this
def R3(h:Heap)(I S:Addr)(c:Value)(i n ep:Nat):Prop:=∃o,h.get? I=some o/\o.cls=.type "set_iterator" /\ o.data=.fields #[c,.int i 0,.ref S,.int n 0,.int ep 0]
inductive AJ(w:zam)(h:Heap)(S:Addr)(es:Array (Int×Value))(ep:Nat)(t:zah)(ys:List (Int×Value)):Nat->Value->Prop
 |drawn{i:Nat}{T:Addr}{o:Obj}{c:Nat}{od:List Nat}(ht:h.get? T=some o)(hd:o.data=.seq (od.map λ(j:Nat)=>zaL j).toArray c)(hp:od.Perm (Tc es.size))(hy:∀a:Nat,ys[a]?=od[a]?.bind (es[·]?))(hT:T≠S):AJ w h S es ep t ys i (.ref T)
 |text{i:Nat}(hb:w.params.followText "set-order" = true)(hy:ys=(zaM (w.params.setOrder S ep) es).toList):AJ w h S es ep t ys i (.int 0 0)
 |slot{i:Nat}(hb:w.params.followText "set-order" = false)(hn:es.size<=1)(hy:ys=es.toList)(x:Int)(hx:x=if i=0 then 0 else ((t.place.getD 0 0+1:Nat):Int)):AJ w h S es ep t ys i (.int x 0)
def xA(prog:Program)(w:zam)(I S:Addr)(xs:List (List Key×Addr))(ys:List (Int×Value))(fp:List Addr)(i:Nat)(h:Heap):Prop:=
 ∃o es ep t c,bZ prog w h S xs o es ep t/\ys.Perm es.toList/\R3 h I S c i es.size ep/\AJ w h S es ep t ys i c/\S∈fp/\I∈fp/\I≠S/\(∀x∈xs,x.2∈fp/\x.2≠I)/\∀T,c=.ref T->T∈fp/\T≠I
theorem xA.frame{I:Addr}{xs:List (List Key×Addr)}{ys:List (Int×Value)}{fp:List Addr}(x:xA prog w I S xs ys fp i h)(k:∀b∈fp,∀o,h.get? b=some o->h'.get? b=some o):xA prog w I S xs ys fp i h':=by
 obtain⟨o,es,ep,t,c,T,hp,⟨a,z,B,j⟩,M,F,A,G,L,R⟩:=x;refine⟨o,es,ep,t,c,T.keep (λb o hb e=>k b ?_ o e),hp,⟨a,k _ A _ z,B,j⟩,?_,F,A,G,L,R⟩
 .rcases hb with rfl|⟨x,s,rfl⟩
  .exact F
  .exact(L x s).1
 .cases M with
  |drawn ht hd hp hy hT=>exact .drawn (k _ (R _ rfl).1 _ ht) hd hp hy hT
  |text hb hy=>exact .text hb hy
  |slot hb hn hy x hx=>exact .slot hb hn hy x hx
theorem dj(h:Q (w.params.followText "set-order") s):zaj (zak prog w) A setsByText Q E s:=by exact zaf (zba (zag h))
theorem rK{a:Addr}{xs:List (List Key×Addr)}{t:zah}{Q:Nat->Shared->Prop}(S:bZ prog w s.heap a xs o es ep t)(h:Q ep s):zaj (zak prog w) A (setEpoch a) Q E s:=by exact zaf (zao S.ho S.hd S.fits (zag h))
theorem fG{a:Addr}{xs:List (List Key×Addr)}{t:zah}{Q:Array (Int×Value)->Shared->Prop}(S:bZ prog w s.heap a xs o es ep t)(h:Q es s):zaj (zak prog w) A (setEntries a) Q E s:=by exact zaf (zao S.ho S.hd S.fits (zag h))
section
variable{a:Addr}{xs:List (List Key×Addr)}{o:Obj}{es:Array (Int×Value)}{ep:Nat}{t:zah}
theorem bZ.ty(S:bZ prog w s.heap a xs o es ep t):s.TypeIs (.ref a) "set" := ⟨o,S.ho,S.hx.1⟩
theorem bZ.small(S:bZ prog w h a xs o es ep t):es.size<=18:=by have h1:=S.fl;have h2:=S.sz;rcases S.tb.ms with z|z<;>rw[z] at h1<;>lia
theorem Bg{Q:Value->Shared->Prop}(S:bZ prog w s.heap a xs o es ep t)
  (h:∀h1 V I ys,ys.Perm es.toList->(∀b o,s.heap.get? b=some o->h1.get? b=some o)->s.heap.objs.size<=I->(∃fp,(∀b∈fp,b=I\/b=a\/(∃x∈xs,x.2=b)\/s.heap.objs.size<=b)/\xA prog w I a xs ys fp 0 h1)->Q (.ref I) { s with heap:=h1,drawn:=V }):zaj (zak prog w) A (zco (.ref a)) Q E s:=by
 have hT:=S.ty;have O:=SV S.ho;have j:∀x∈xs,x.2<s.heap.objs.size:=λx hx=>by obtain⟨o',_,_,y,_⟩:=(S.is x hx).1;exact SV y
 refine zbr hT Xu (zar Xu hT nE ?_ (PySem.F.args_set_iter_1 _));refine zaf (zaQ rfl ?_);refine zaf (zaf (fG S (zag ?_)));refine zaf (zaf (zao S.ho S.hd S.fits ?_));refine zaf (dj (zag ?_));have fin:∀(c:Value)(B:Heap)(Z:_)(ys:List (Int×Value)),bZ prog w B a xs o es ep t->(∀b o,s.heap.get? b=some o->B.get? b=some o)->s.heap.objs.size<=B.objs.size->ys.Perm es.toList->(∀h1,(∀b o,B.get? b=some o->h1.get? b=some o)->AJ w h1 a es ep t ys 0 c)->(∀T,c=.ref T->s.heap.objs.size<=T/\T<B.objs.size)->
   zaj (zak prog w) A.in1 (setEpoch a >>= λe=>newFields "set_iterator" [c,zaL 0,.ref a,zaL es.size,zaL e] >>= λv=>ret v) (λr s'=>∃v,r=.done (.ret v)/\∃u P,s'.TypeIs v u/\zcq (.type u) "__next__" = pure (some P)/\Q v s') E { s with heap:=B,drawn:=Z }:=by
  intro c B Z ys G X hz hp f i;refine zaf (rK G ?_);refine zaf (zaF (zag ⟨_,rfl, "set_iterator",_,⟨_,S6 _ rfl,rfl⟩,ie.lookup,?_⟩));have Y:∀(ob:Obj) b o,B.get? b=some o->(B.push ob).get? b=some o:=λob b o e=>SI _ e;refine h _ Z B.objs.size ys hp (λb o e=>Y _ b o (X b o e)) hz ⟨B.objs.size::a::((match c with | .ref T=>[T]|_=>[])++xs.map (·.2)),λb hb=>?_,o,es,ep,t,c,G.keep (λb o _ e=>Y _ b o e),hp,⟨_,S6 _ rfl,rfl,by simp[zaL]⟩,f _ (Y _),by simp,by simp,Vd (SN O hz),λx hx=>⟨?_,S8 (SN (j x hx) hz)⟩,λT e=>?_⟩
  .rcases SR.mp hb with rfl|hb
   .exact .inl rfl
   rcases SR.mp hb with rfl|hb
   .exact .inr (.inl rfl)
   rcases SY.mp hb with hb|hb
   .refine .inr (.inr (.inr ?_));cases c with
    |ref T=>rw[SU.mp hb];exact(i T rfl).1
    |_=>exact nomatch hb
   .obtain⟨x,H,K⟩:=Tj.mp hb;exact .inr (.inr (.inl ⟨x,H,K⟩))
  .exact SK _ (SK _ (SJ _ (Tj.mpr ⟨x,hx,rfl⟩)))
  .subst e;exact⟨by simp,S8 (i T rfl).2⟩
 refine zaX (λhc=>?_) λhc=>?_
 .have hc:=hc;refine zaf (wa es.size (Tc es.size) T1 λd ys hp=>?_);refine zaf (wpAny_newTuple ?_ (by rw[SE,hp.length_eq,Ud,zav];exact Tn S.small W1));obtain⟨k,n,q⟩:=iL (by simpa using hp);refine fin (.ref s.heap.objs.size) _ d (ys.toArray.filterMap (es[·]?)).toList (S.keep λb o _ e=>SI _ e) (λb o e=>SI _ e) (by rw[za5];exact Vn _) k (λh1 Y=>.drawn (Y _ _ (S6 _ rfl)) rfl hp (λa=>?_) (Vd O)) λT e=>?_
  .have:=q a;simpa using this
  .cases e;exact⟨SO _,by rw[za5];exact UU _⟩
 .have hc:¬ (!w.params.followText "set-order" && (!t.plain&&decide (es.size > 1)))=true:=hc;by_cases hb:w.params.followText "set-order" = true
  .exact fin (zaL 0) s.heap s.drawn _ S (λ_ _ e=>e) (SO _) (mW (w.params.setOrder a ep) es) (λh1 _=>.text hb rfl) λT e=>nomatch e
  .have hb:=U3.mpr hb;have hn:es.size<=1:=by
    rw[hb] at hc;rcases S.pl with z|z
    .lia
    .rw[z] at hc;simp at hc;exact fL
   exact fin (zaL 0) s.heap s.drawn _ S (λ_ _ e=>e) (SO _) (VB _) (λh1 _=>.slot hb hn rfl 0 rfl) λT e=>nomatch e
end
end
section
open PySem PyProof.Rows PySem.W
open L2 PySem.Spec
variable{prog:Program}{w:zam}{A:zan}{E:Value->Shared->Prop}{s:Shared}
section
variable{I S:Addr}{xs:List (List Key×Addr)}{ys:List (Int×Value)}{fp:List Addr}{i:Nat}
theorem j4{vs:Array Value}{x:Value}(ho:h.get? I=some o)(hd:o.data=.fields vs):(h.update I (UD (·.setIfInBounds j x))).get? I=some (UD (·.setIfInBounds j x) o)/\(UD (·.setIfInBounds j x) o).cls=o.cls/\(UD (·.setIfInBounds j x) o).data=.fields (vs.setIfInBounds j x):=
 ⟨Ux _ ho (Yc (VN hd _)),YQ ..,VN hd _⟩
theorem cx{x:Value}{b:Addr}(hb:b≠I):(h.update I (UD (·.setIfInBounds j x))).get? b=h.get? b:=(Uj ..).2 b hb
theorem qd{P:ZQ->Shared->Prop}{Q:Option Value->Shared->Prop}(c:A.handled=none)(h:∀h',(∀b o,s.heap.get? b=some o->h'.get? b=some o)->Q none { s with heap:=h' }):
  zaj (zak prog w) A.in1 (newExc (.type "StopIteration") [] >>= λv=>raiseNew v) P (λe s'=>zaj (zak prog w) A (isInstance e (.type "StopIteration") >>= λb=>if b=true then pure none else throw e) Q E s') s:=by
 refine zaf ?_;refine zaf (m:=za0 _ _) (zaQ (by first|rfl|(rw[za0];rfl)) ?_);refine zaF ?_ (by size_fits);refine zaf (zbV ?_);rw[show A.in1.handled=none from c];refine zaf (zag (zch ?_));refine zaf (zaR ⟨_,S6 _ rfl,rfl⟩ zbQ ?_);exact zag (h _ λb o e=>SI _ (SI _ e))
theorem xA.item{Q:Option Value->Shared->Prop}(x:xA prog w I S xs ys fp i s.heap)(hi:i<ys.length)
  (U:∀v h',(∃e,ys[i]?=some e/\v=e.2)->xA prog w I S xs ys fp (i+1) h'->(∀b o,b≠I->s.heap.get? b=some o->h'.get? b=some o)->Q (some v) { s with heap:=h' }):zaj (zak prog w) A (zbW (.ref I)) Q E s:=by
 obtain⟨o,es,ep,t,f,T,hp,⟨g,z,B,a⟩,M,r,J,H,L,n⟩:=x;have hT:s.TypeIs (.ref I) "set_iterator" := ⟨g,z,B⟩
 have m:ys.length=es.size:=by rw[hp.length_eq,Ti]
 refine zaf (zbe (zaD hT ie (zar ie hT tR ?_ (we _))));refine zaf (zaQ rfl ?_);refine zaf (za7 z a ?_);refine zaf (fG T ?_);rw[zcv T1];have h:∀{h':Heap},(∀b o,b≠I->s.heap.get? b=some o->h'.get? b=some o)->bZ prog w h' S xs o es ep t:=λk=>T.keep λb o hb e=>k b o (by
  rcases hb with rfl|⟨x,d,rfl⟩
  .exact Uu H
  .exact(L x d).2) e
 cases M with
 |@drawn N o1 c od ht hd y hy K=>
  refine zaf (zbo ht hd ?_);dsimp only;have Z:i<od.length:=by rw[y.length_eq,Ud];lia
  have O:(od.map λ(j:Nat)=>zaL j).toArray[(i:Int).toNat]?=some (zaL od[i]):=by simp[Z]
  rw[O];have X:=Ts.mp (y.mem_iff.mp (TR Z));refine zaf (zaf (zao T.ho T.hd T.fits ?_));dsimp only;rw[zcv T1];rw[Ut,Tp X];refine zag ?_;refine zaf (zaA z a T1 ?_);have R:∀b o,b≠I->s.heap.get? b=some o->(s.heap.update I (UD (·.setIfInBounds 1 (zaL ((i:Int)+1))))).get? b=some o:=λb o hb e=>(cx hb).trans e;obtain⟨F,l,G⟩:=j4 z a;refine zag ⟨_,rfl,zag (U _ _ ⟨es[od[i]],?_,rfl⟩ ⟨o,es,ep,t,.ref N,h R,hp,⟨_,F,l.trans B,by rw[G];simp[zaL]⟩,.drawn (R _ _ (n N rfl).2 ht) hd y hy K,r,J,H,L,n⟩ R)⟩;rw[hy,SG Z];simp[X]
 |text hb hy=>
  have hit:i<(zaM (w.params.setOrder S ep) es).size:=by rw[<-Ti,<-hy];exact hi
  have V:ys[i]?=some (zaM (w.params.setOrder S ep) es)[i]:=by rw[hy,TB,Tp hit]
  refine zaf (zaf (zao T.ho T.hd T.fits ?_));refine zaf (dj ?_);rw[hb];simp only[if_true];rw[zcv T1];refine zaf (zaf (zao T.ho T.hd T.fits ?_));refine zaf (dj ?_);rw[hb];refine zaf (zba (zag ?_));rw[show (zaM (((⟨(zak prog w).prog,(zak prog w).w.params⟩:Setting)).params.setOrder S ep) es)[(i:Int).toNat]?=some (zaM (w.params.setOrder S ep) es)[i] from by show (zaM (w.params.setOrder S ep) es)[(i:Int).toNat]?=_;rw[Ut,Tp hit]]
  refine zag ?_;rw[YB];obtain⟨F,l,G⟩:=j4 z a;refine zaf (zaA z a T1 ?_);obtain⟨q,Y,C⟩:=j4 F G;refine zaf (zaA F G T1 ?_);have R:∀b o,b≠I->s.heap.get? b=some o->((s.heap.update I (UD (·.setIfInBounds 0 (zaL ((0:Int).toNat:Int))))).update I (UD (·.setIfInBounds 1 (zaL ((i:Int)+1))))).get? b=some o:=λb o hb e=>(cx hb).trans ((cx hb).trans e);exact zag ⟨_,rfl,zag (U _ _ ⟨_,V,rfl⟩ ⟨o,es,ep,t,.int 0 0,h R,hp,⟨_,q,Y.trans (l.trans B),by rw[C];simp[zaL]⟩,.text hb hy,r,J,H,L,λT e=>nomatch e⟩ R)⟩
 |slot hb hn hy x hx=>
  have D:i=0:=by lia
  subst D;have hx:x=0:=hx;subst hx;have P:0<es.size:=by lia
  refine zaf (zaf (zao T.ho T.hd T.fits ?_));refine zaf (dj ?_);rw[hb];simp only[Ui,if_false];refine zaX (λhc=>?_) λ_=>?_
  .have hc:(!t.plain&&decide (es.size > 1))=true:=hc;simp at hc;lia
  have re:∀(c:Bool)(u:Sem PUnit),c=false->(if c=true then u else pure ():Sem PUnit)=pure ():=λc u hc=>by rw[hc];rfl
  refine zaf (zaQ (re (!t.led&&!es.isEmpty) _ (by rw[T.ld,hb];rfl)) ?_);have O:=getD_at (by rw[T.sz];exact P);have p:TV t.place (0:Int).toNat=0:=by
   obtain⟨b1,b2,b3⟩:=jC T.tb.ri;by_cases c:TV t.place 0=0
   .exact c
   .exact absurd (b2 0 XV) (T8 _)
  rw[p,O,Tp P];refine zag ?_;obtain⟨F,l,G⟩:=j4 z a;refine zaf (zaA z a T1 ?_);obtain⟨q,Y,C⟩:=j4 F G;refine zaf (zaA F G T1 ?_);have R:∀b o,b≠I->s.heap.get? b=some o->((s.heap.update I (UD (·.setIfInBounds 0 (zaL ((t.place.getD 0 0+1:Nat):Int))))).update I (UD (·.setIfInBounds 1 (zaL (((0:Nat):Int)+1))))).get? b=some o:=λb o hb e=>(cx hb).trans ((cx hb).trans e);exact zag ⟨_,rfl,zag (U _ _ ⟨es[0],by rw[hy,TB,Tp P],rfl⟩ ⟨o,es,ep,t,.int ((t.place.getD 0 0+1:Nat):Int) 0,h R,hp,⟨_,q,Y.trans (l.trans B),by rw[C];simp[zaL]⟩,.slot hb hn hy _ rfl,r,J,H,L,λT e=>nomatch e⟩ R)⟩
theorem xA.done{Q:Option Value->Shared->Prop}(i:A.handled=none)(x:xA prog w I S xs ys fp ys.length s.heap)
  (U:∀h',(∀b o,b≠I->s.heap.get? b=some o->h'.get? b=some o)->Q none { s with heap:=h' }):zaj (zak prog w) A (zbW (.ref I)) Q E s:=by
 obtain⟨o,es,ep,t,f,T,hp,⟨g,z,B,a⟩,M,r,J,H,P,R⟩:=x;have hT:s.TypeIs (.ref I) "set_iterator" := ⟨g,z,B⟩
 have v:ys.length=es.size:=by rw[hp.length_eq,Ti]
 refine zaf (zbe (zaD hT ie (zar ie hT tR ?_ (we _))));refine zaf (zaQ rfl ?_);refine zaf (za7 z a ?_);refine zaf (fG T ?_);rw[zcv T1];cases M with
 |@drawn N V c od ht hd y hy K=>
  refine zaf (zbo ht hd ?_);dsimp only;have O:(od.map λ(j:Nat)=>zaL j).toArray[(ys.length:Int).toNat]?=none:=by simp[y.length_eq,v]
  rw[O];obtain⟨F,l,G⟩:=j4 z a;refine zaf (zaA z a T1 ?_);refine zaf (zaA F G T1 ?_);exact qd i λh' k=>U h' λb o hb e=>k b o ((cx hb).trans ((cx hb).trans e))
 |text hb hy=>
  have hz:(zaM (w.params.setOrder S ep) es).size=ys.length:=by rw[hy,Ti]
  refine zaf (zaf (zao T.ho T.hd T.fits ?_));refine zaf (dj ?_);rw[hb];simp only[if_true];rw[zcv T1];refine zaf (zaf (zao T.ho T.hd T.fits ?_));refine zaf (dj ?_);rw[hb];refine zaf (zba (zag ?_));rw[show (zaM (((⟨(zak prog w).prog,(zak prog w).w.params⟩:Setting)).params.setOrder S ep) es)[(ys.length:Int).toNat]?=none from by show (zaM (w.params.setOrder S ep) es)[(ys.length:Int).toNat]?=_;rw[Ut,UX XV]]
  refine zag ?_;rw[Option.map_none];refine zaf (zaA z a T1 ?_);exact qd i λh' k=>U h' λb o hb e=>k b o ((cx hb).trans e)
 |slot hb hn hy x hx=>
  refine zaf (zaf (zao T.ho T.hd T.fits ?_));refine zaf (dj ?_);rw[hb];simp only[Ui,if_false];refine zaX (λhc=>?_) λ_=>?_
  .have hc:(!t.plain&&decide (es.size > 1))=true:=hc;simp at hc;lia
  have h:∀(c:Bool)(u:Sem PUnit),c=false->(if c=true then u else pure ():Sem PUnit)=pure ():=λc u hc=>by rw[hc];rfl
  refine zaf (zaQ (h (!t.led&&!es.isEmpty) _ (by rw[T.ld,hb];rfl)) ?_);have p:es[TV t.place x.toNat]?=none:=by
   obtain⟨b1,b2,L⟩:=jC T.tb.ri;refine UX (V4 λc=>?_);have Z:=T.sz;have D:ys.length=1:=by lia
   have:=L (TV t.place x.toNat) (SO _) XV;have X:TV t.place x.toNat=0:=by lia
   rw[X] at this;lia
  rw[p];refine zag ?_;refine zaf (zaA z a T1 ?_);exact qd i λh' k=>U h' λb o hb e=>k b o ((cx hb).trans e)
end
end
section
open PySem PyProof.Rows PySem.W
open L2 PySem.Spec
variable{prog:Program}{w:zam}{A:zan}{E:Value->Shared->Prop}{s:Shared}
theorem CD{r:Addr}(hT:s.TypeIs (.ref r) "set")(h:Q false s):zaj (zak prog w) A (ZT (.ref r)) Q E s:=by refine zaf (zbH hT PySem.F.slot_set_len.lookup ?_);generalize e:("set.__len__" : String)=id0;subst e;refine zaf (zaR (b:=true) hT (by rw[zbS];kernel_rfl) ?_);refine zaf (zb8 hT ?_);exact zag h
theorem pM(a:Value):argsOk "set_iterator.__iter__" ⟨[a],[]⟩:=by delta argsOk;rw[signature?_of (n:= "__reti__".toList) (by kernel_rfl) (by kernel_rfl:Yn.lookup (Y0 "rotareti_tes".toList.reverse)=some WL)];kernel_rfl
theorem nP:entryFor table "set_iterator.__iter__" = some Builtin.«dict_keyiterator.__iter__»:=entryFor_alias (id':= "dict_keyiterator.__iter__") (by kernel_rfl) rfl UV (by kernel_rfl)
section
variable{I S:Addr}{xs:List (List Key×Addr)}{ys:List (Int×Value)}{fp:List Addr}{i:Nat}
theorem xA.walks(c:A.handled=none)(j:I∈fp):Walks prog w A I fp [I] ys.length (λi v=>∃e,ys[i]?=some e/\v=e.2) (λi h=>xA prog w I S xs ys fp i h) where
 sub:=λb hb=>by rw[SU.mp hb];exact j
 frame:=λi h h' x k=>x.frame k
 item:=λi s Q E hi st U=>st.item hi λv h' a N k=>U v h' s.toks a N λb o hb e=>k b o (λz=>hb (by rw[z];exact SU.mpr rfl)) e
 done:=λs Q E st U=>st.done c λh' k=>U h' s.toks λb o hb e=>k b o (λz=>hb (by rw[z];exact SU.mpr rfl)) e
 self:=λi s Q E st U=>by
  obtain⟨o,es,ep,t,f,T,hp,⟨g,Z,B,u⟩,_⟩:=st;have hT:s.TypeIs (.ref I) "set_iterator" := ⟨g,Z,B⟩
  refine zbr hT wg (zar wg hT nP ?_ (pM _));exact zag ⟨_,rfl, "set_iterator",_,hT,ie.lookup,U⟩
end
theorem tQ{a:Addr}{xs:List (List Key×Addr)}{t:zah}{R:List Value->Shared->Prop}(hh:A.handled=none)(S:bZ prog w s.heap a xs o es ep t)
  (h:∀(h':Heap)(d:_)(tk:Nat)(acc:List Value),(∀b o,s.heap.get? b=some o->h'.get? b=some o)->acc.Perm (xs.map λx=>Tv x.2)->R acc { s with heap:=h',drawn:=d,toks:=tk }):
  zaj (zak prog w) A (collect (.ref a)) R E s:=by
 have ha:a<s.heap.objs.size:=SV S.ho;have C:∀x∈xs,x.2<s.heap.objs.size:=λx hx=>by obtain⟨o',_,_,L,_⟩:=(S.is x hx).1;exact SV L
 unfold collect;refine zaf (wpAny_runValue (zaK entry_proto_collect' ?_));rw[We PySem.F.plain_proto_collect _];show zaj _ A.in1 (newList [] >>= λl=>again (.builtin "list.__iadd__" ⟨[l,.ref a],[]⟩)) _ _ s;refine zaf (zaF ?_);refine zag ⟨zaY W9 _,zaK entry_list_iadd' ?_⟩;rw[We W9 _];have P:(s.heap.push { cls:=.type "list",data:=.seq ([]:List Value).toArray }).get? s.heap.objs.size=some { cls:=.type "list",data:=.seq #[] }:=S6 _ rfl;show zaj _ A.in1 (Ws (.ref s.heap.objs.size) (.ref a) (.ref s.heap.objs.size)) _ _ _;have Q:bZ prog w (s.heap.push { cls:=.type "list",data:=.seq ([]:List Value).toArray }) a xs o es ep t:=S.keep λb o _ e=>SI _ e;generalize X:s.heap.push { cls:=.type "list",data:=.seq ([]:List Value).toArray }=h1 at P Q;have p:∀b o,s.heap.get? b=some o->h1.get? b=some o:=λb o e=>by rw[<-X];exact SI _ e
 have V:h1.objs.size=s.heap.objs.size+1:=by rw[<-X];exact za5 ..
 unfold Ws;refine zaf (zb8 (T:= "set") (s:={ s with heap:=h1 }) Q.ty ?_);have n1:Wz (.ref s.heap.objs.size) (.ref a)=false:=by simp[Wz,Vd ha]
 have n2:(Vi "set" == Vi "list")=false:=by decide
 have n3:(Vi "set" == Vi "tuple")=false:=by decide
 simp only[n1,n2,n3,Xm,Ui,if_false];refine zaf (Bg (s:={ s with heap:=h1 }) Q λh2 J I ys hp B hI ⟨fp,n,st⟩=>?_);have Y:h1.objs.size<=I:=hI;have H:∀b∈fp,b≠s.heap.objs.size:=λb hb=>by
  have gt:∀b,h1.objs.size<=b->s.heap.objs.size<b:=λb z=>SN (by rw[V];exact UU _) z;rcases n b hb with rfl|rfl|⟨x,m,rfl⟩|z
  .exact Vd (gt _ Y)
  .exact S8 ha
  .exact S8 (C x m)
  .exact Vd (gt _ z)
 have N:I∈fp:=by obtain⟨_,_,_,_,_,_,_,_,_,_,f2,_⟩:=st;exact f2
 have S2:bZ prog w h2 a xs o es ep t:=Q.keep λb o _ e=>B b o e;have u:=B _ _ P;have f:ys.length<=sizeLine:=by rw[hp.length_eq,Ti,zav];exact Tn S.small W1
 have key:∀(h3:Heap)(Z:Nat),xA prog w I a xs ys fp 0 h3->(∀b o,b≠s.heap.objs.size->h2.get? b=some o->h3.get? b=some o)->h3.get? s.heap.objs.size=some { cls:=.type "list",data:=.seq #[] Z }->
   zbc (zak prog w) A (.builtin "list.extend.loop" ⟨[.ref s.heap.objs.size,.ref I,.ref s.heap.objs.size],[]⟩) (λ(q:zcd)(s':Shared)=>∃(h':Heap)(tk:Nat)(c:Array Value)(D:Nat),q=.ok (.ret (.ref s.heap.objs.size))/\s'={ s with heap:=h',drawn:=J,toks:=tk } /\
    (∀b o,s.heap.get? b=some o->h'.get? b=some o)/\h'.get? s.heap.objs.size=some { cls:=.type "list",dict:=none,data:=.seq c D,slots:=#[] }/\ItemsOf (λi v=>∃e,ys[i]?=some e/\v=e.2) c ys.length) { s with heap:=h3,drawn:=J }:=by
  intro h3 Z g k3 hS3;refine codeAny_extend_loopS (xA.walks (A:=A.in1) hh N).toS f s.heap.objs.size (λz=>H _ z rfl) (.ref s.heap.objs.size) ys.length 0 _ #[] Z rfl (Tu _) g hS3 (ItemsOf.nil _) λs' c D hm G O=>?_;refine⟨s'.heap,s'.toks,c,D,rfl,Moved.eq_with hm,λb o e=>?_,G,O⟩;have hb:b<s.heap.objs.size:=SV e;exact hm.heap b o (by simp only[SR,Uk,or_false,not_or];exact⟨S8 hb,S8 (SN (SN hb (by rw[V];exact Vn _)) Y)⟩) (k3 b o (S8 hb) (B b o (p b o e)))
 have out:∀(q:zcd)(s':Shared),(∃(h':Heap)(tk:Nat)(c:Array Value)(D:Nat),q=.ok (.ret (.ref s.heap.objs.size))/\s'={ s with heap:=h',drawn:=J,toks:=tk } /\
    (∀b o,s.heap.get? b=some o->h'.get? b=some o)/\h'.get? s.heap.objs.size=some { cls:=.type "list",dict:=none,data:=.seq c D,slots:=#[] }/\ItemsOf (λi v=>∃e,ys[i]?=some e/\v=e.2) c ys.length)->∃h' tk c D,q=.ok (.ret (.ref s.heap.objs.size))/\s'={ s with heap:=h',drawn:=J,toks:=tk }/\h'.get? s.heap.objs.size=some { cls:=.type "list",dict:=none,data:=.seq c D,slots:=#[] }/\R c.toList { s with heap:=h',drawn:=J,toks:=tk }:=by
  rintro q s' ⟨h',tk,c,D,e1,e2,k,G,O⟩;refine⟨h',tk,c,D,e1,e2,G,h h' J tk c.toList k ?_⟩;have e:c.toList=ys.map (·.2):=by
   apply Uc;intro j;rw[SQ,TB];cases ej:c[j]? with
   |none=>
    have:c.size<=j:=by simpa using ej
    rw[Tx (by rw[<-O.1];exact this)];rfl
   |some v=>obtain⟨e,he,rfl⟩:=O.2 j v ej;rw[he];rfl
  rw[e];refine(hp.map _).trans ?_;rw[S.he,TM];exact VB _
 refine zaf (zau (CD (s:={ s with heap:=h2,drawn:=J }) S2.ty ?_));have go:∀(h3:Heap)(Z:Nat),xA prog w I a xs ys fp 0 h3->(∀b o,b≠s.heap.objs.size->h2.get? b=some o->h3.get? b=some o)->h3.get? s.heap.objs.size=some { cls:=.type "list",data:=.seq #[] Z }->zbc (zak prog w) A (.builtin "list.extend.loop" ⟨[.ref s.heap.objs.size,.ref I,.ref s.heap.objs.size],[]⟩) (λ(q:zcd)(s':Shared)=>∃h' tk c D,q=.ok (.ret (.ref s.heap.objs.size))/\s'={ s with heap:=h',drawn:=J,toks:=tk }/\h'.get? s.heap.objs.size=some { cls:=.type "list",dict:=none,data:=.seq c D,slots:=#[] }/\R c.toList { s with heap:=h',drawn:=J,toks:=tk }) { s with heap:=h3,drawn:=J }:=λh3 Z m x2 x3=>zaS (key h3 Z m x2 x3) out;refine zaX (λ_=>?_) (λ_=>zag ⟨zaY WU _,zaS (go _ _ st (λb o _ e=>e) u) λq U y=>?_⟩)
 .refine zaf (zcn ?_);refine zaf ?_;show zaj _ _ (updateSeq s.heap.objs.size (·.push .none) >>= λ_=>updateSeq s.heap.objs.size (·.pop)) _ _ _;refine zaf (zbI u rfl ?_);have r:=Ux (UZ (·.push WW)) u rfl;refine zbI (hz:=by seq_fits) r rfl ?_;have K:=Ux (UZ (·.pop)) r rfl;refine zag ⟨zaY WU _,zaS (go _ _ ?_ (λb o hb e=>?_) K) λq U y=>?_⟩
  .refine st.frame λb hb o e=>?_;exact(UG _ _ (Uu (H b hb))).trans ((UG _ _ (Uu (H b hb))).trans e)
  .exact(UG _ _ (Uu hb)).trans ((UG _ _ (Uu hb)).trans e)
  .obtain⟨h',tk,c,D,rfl,rfl,G,hR⟩:=y;show zaj _ A (load s.heap.objs.size >>= _) _ _ _;exact zaf (zbX G (zag hR))
 .obtain⟨h',tk,c,D,rfl,rfl,G,hR⟩:=y;show zaj _ A (load s.heap.objs.size >>= _) _ _ _;exact zaf (zbX G (zag hR))
end
def sK(ks:List (List Key)):List (List Key):=(bt ks).map λj=>ks.getD j []
theorem Ao(d:α)(ks:List α):(Tc ks.length).map (λj=>ks.getD j d)=ks:=by
 apply Uc;intro i;rw[SQ];by_cases h:i<ks.length
 .rw[UQ h];simp[h]
 .rw[Tx (by simpa using h),Tx (by simpa using h)];rfl
theorem i6(ks:List (List Key)):(sK ks).Perm ks:=by have:=(bz ks).map λj=>ks.getD j [];rwa[Ao] at this
theorem HV(nd:ks.Nodup):(sK ks).Pairwise λa b=>i5 a b=true:=by
 have h1:(sK ks).Pairwise λa b=>i5 b a=false:=by
  delta sK
  rw[U5]
  exact tK ks
 have h2:=(i6 ks).nodup_iff.mpr nd;refine(h1.and h2).imp λ{a b} h=>?_;cases h3:i5 a b with
 |true=>rfl
 |false=>exact absurd (kY a b h3 h.1) h.2
theorem HA{ls:List (List Key)}(nd:ks.Nodup)(p:ks.Perm ls):sK ks=sK ls:=
 WK (λa b _ _ h1 h2=>by have:=md _ _ _ h1 h2;rw[jo] at this;cases this) (HV nd) (HV (p.nodup_iff.mp nd)) ((i6 ks).trans (p.trans (i6 ls).symm))
theorem qr{f:α->β}{l m:List β}(p:l.Perm m):∀xs:List α,m=xs.map f->∃zs:List α,zs.Perm xs/\l=zs.map f:=by
 induction p with
 |nil=>exact λxs e=>⟨xs,VB _,e⟩
 |cons a p Y=>
  intro xs e;cases xs with
  |nil=>cases e
  |cons x xs=>injection e with e1 e2;obtain⟨zs,v,U⟩:=Y xs e2;exact⟨x::zs,v.cons x,by rw[S4,<-U,e1]⟩
 |swap a b l=>
  intro xs e;cases xs with
  |nil=>cases e
  |cons x xs=>
   cases xs with
   |nil=>cases e
   |cons y xs=>injection e with e1 e2;injection e2 with e2 e3;exact⟨y::x::xs,WE _ _ _,by rw[S4,S4,e1,e2,e3]⟩
 |trans _ _ h w=>intro xs e;obtain⟨zs,v,U⟩:=w xs e;obtain⟨ws,s,A⟩:=h zs U;exact⟨ws,s.trans v,A⟩
noncomputable def nM:List (List Key)->List (List Key)
 |[]=>[]
 |k::r=>if (r.any λx=>decide (x=k))=true then nM r else k::nM r
theorem vT{r:List (List Key)}{k:List Key}:(r.any λx=>decide (x=k))=true↔k∈r:=by rw[US];exact⟨λ⟨x,h1,h2⟩=>zcA h2▸h1,λh=>⟨k,h,zcx rfl⟩⟩
theorem eA{k:List Key}:∀{ks:List (List Key)},k∈nM ks↔k∈ks
 |[]=>Iff.rfl
 |x::r=>by
  unfold nM;split
  .rename_i h;rw[eA,SR];exact⟨.inr,λz=>z.elim (λe=>by rw[e];exact vT.mp h) id⟩
  .rw[SR,SR,eA]
theorem fP:∀ks:List (List Key),(nM ks).Nodup
 |[]=>U7
 |x::r=>by
  unfold nM;split
  .exact fP r
  .rename_i h;exact Tz.mpr ⟨λz=>h (vT.mpr (eA.mp z)),fP r⟩
theorem wm(bs:List Addr):∀l:List Nat,(∀i∈l,i<bs.length)->Vals ((l.map λi=>bs.getD i 0).map V.ref) (l.map λi=>(bs.map Tv).getD i .none)
 |[],_=>.nil
 |i::l,h=>by refine .cons ?_ (wm bs l λj U=>h j (SK _ U));have hi:=h i SH;show (bs.map Tv).getD i .none=Tv (bs.getD i 0);simp[hi]
theorem lL(ks:List (List Key)):kg ks=(sK ks).map GJ:=by
 delta kg sK
 rw[TM]
 apply UR
 intro j U
 have:j<ks.length:=Ts.mp ((bz ks).mem_iff.mp U)
 simp[this]
variable{pins:List (Addr×Obj)}{s:Shared}{p2 q1 q2:Pos}
section
open PySem.Spec PyProof.Rows PySem.W PySem.Calls
variable{X:Cx}{E:XK}
theorem Inv.Sr{Y:L2.St}{d:_}(I:L2.Inv X pins Y H s):L2.Inv X pins Y H { s with drawn:=d }:=⟨I.ok,I.os,I.bare,I.base,I.loc,I.cell,I.free,I.freeC,I.pin,I.hok,I.len⟩
def JV(X:Cx)(H:Hp)(bs:List Addr)(ks:List (List Key)):Prop:=bs.length=ks.length/\∀(i:Nat)(b:Addr)(k:List Key),bs[i]?=some b->ks[i]?=some k->eU X.K H b (k.map kV)
def PK(bs:List Addr)(ks:List (List Key))(cs:List Addr)(ls:List (List Key)):Prop:=cs.length=ls.length/\∀(i:Nat)(c:Addr)(k:List Key),cs[i]?=some c->ls[i]?=some k->∃j:Nat,bs[j]?=some c/\ks[j]?=some k
theorem ux{t:TE}(hc:X.calm=true)(hu:X.A.units+64<cLine)(hg:Gl X "set")(hm:X.mg "set" = none)(g:Gl X "sorted")(hm':X.mg "sorted" = none)(he:PE X e t)(hs:zai [e] X.env=(false,eval e X.env)::zai [] X.env):
  PE X (.Call (.Name "sorted" p1) [.Call (.Name "set" p2) [e] [] q2] [] q1) (λY H Q=>t Y H λv f=>∃a bs ks,v=.ref a/\eI X.K f a (bs.map V.ref)/\JV X f bs ks/\(∀k∈ks,k≠[]/\tJ k)/\(nM ks).length<=17 /\
   ∀r cs,f r=none->PK bs ks cs (sK (nM ks))->Q (.ref r) (upd f r (.lst (cs.map V.ref)))):=by
 intro pins s Y H Q I h;refine zaT (iS I g hm' jW ?_ UV UV);refine Wj ?_ rfl rfl;refine Yh ?_;refine zaT (iS I hg hm Jh ?_ UV UV);refine UT (bG (bE he cN hs q2 pins s Y H (λvs f=>match vs with
  |[v]=>∃a bs ks,v=.ref a/\eI X.K f a (bs.map V.ref)/\JV X f bs ks/\(∀k∈ks,k≠[]/\tJ k)/\(nM ks).length<=17/\∀r cs,f r=none->PK bs ks cs (sK (nM ks))->Q (.ref r) (upd f r (.lst (cs.map V.ref)))
  | _=>False) I h) λus s1 ⟨vs,f,m,r1,q1⟩=>?_) hs rfl
 cases vs with
 |nil=>exact q1.elim
 |cons v0 vs0=>
 cases vs0 with
 |cons _ _=>exact q1.elim
 |nil=>
  obtain⟨u0,rfl,ru0⟩:=r1.one;obtain⟨a,bs,ks,rfl,sq,E,y,hD,q⟩:=q1;obtain rfl:u0=Tv a:=ru0;obtain⟨B,vs,pl,hz⟩:=m.list sq;have J:B.length=bs.length:=by rw[<-vs.length,SE]
  have C:B=bs.map Tv:=by
   apply Uc;intro j;by_cases U:j<bs.length
   .obtain⟨u,hu',ru⟩:=vs.get (i:=j) (x:=V.ref bs[j]) (by simp[U]);obtain rfl:u=Tv bs[j]:=ru;rw[hu'];simp[U]
   .rw[Tx XV,Tx (by rw[SE];exact U8.mp ‹_›)]
  have hsz:B.toArray.size=ks.length:=by rw[SM,J,E.1]
  have key:=λi b k hb hk=>mJ m (E.2 i b k hb hk);have F:∀i,i<ks.length->ks.getD i []∈ks:=λi hi=>by rw[show ks.getD i []=ks[i] by simp[hi]];exact TR hi
  refine nR (val:=λi=>ks.getD i []) (bs:=λi=>bs.getD i 0) (m.ok.hd hc) hu pl.isList (λi v hi=>?_) (λi hi=>?_) (λi hi=>?_) (nM ks) hD (λi hi=>?_) λh' tk SX kp=>?_
  .have hi:B[i]?=some v:=by simpa using hi
   rw[C,SQ] at hi;cases z:bs[i]? with
   |none=>rw[z] at hi;cases hi
   |some b=>rw[z] at hi;cases hi;simp[Us,z]
  .rw[hsz] at hi;have hb:i<bs.length:=by rw[E.1];exact hi
   refine key i _ _ ?_ ?_
   .rw[SG hb];simp[hb]
   .rw[SG hi];simp[hi]
  .rw[hsz] at hi;obtain⟨h1,h2⟩:=y _ (F i hi);cases z:ks.getD i [] with
   |nil=>exact absurd z h1
   |cons e r=>obtain⟨x,rfl⟩:=h2 e (by rw[z];exact SH);exact⟨x,r,rfl⟩
  .rw[hsz] at hi;exact eA.mpr (F i hi)
  refine Yq ?_;have L:=λb o e=>kp b o (SV e) e;have I2:L2.Inv X pins Y f { s1 with heap:=h',toks:=tk }:=m.kept L;obtain⟨xs,o,es,ep,t,S,R,Z⟩:=SX;generalize hs2:({ s1 with heap:=h',toks:=tk }:Shared)=s2 at I2;have S2:bZ X.prog X.w s2.heap s1.heap.objs.size xs o es ep t:=by rw[<-hs2];exact S
  have pk:(xs.map (·.1)).Perm (nM ks):=by
   rw[W7 S.nd (fP _)];intro k;rw[eA,Tj];constructor
   .rintro⟨x,x1,x2⟩;obtain⟨j,P,j2⟩:=(R k).mp (dJ.mpr ⟨x,x1,x2⟩);rw[<-j2];exact F j (by rw[<-hsz];exact P)
   .intro hk;obtain⟨j,U⟩:=Wm hk;exact dJ.mp ((R k).mpr ⟨j,by rw[hsz];exact(SF.mp U).1,by simp[Us,U]⟩)
  have p:∀x∈xs,∃j:Nat,bs[j]?=some x.2/\ks[j]?=some x.1:=λx hx=>by
   obtain⟨j,P,j2⟩:=Z x hx;rw[hsz] at P;have hb:j<bs.length:=by rw[E.1];exact P
   have D:bs[j]?=some x.2:=by rw[<-j2,SG hb];simp[hb]
   have l:ks[j]?=some (ks.getD j []):=by rw[SG P];simp[P]
   have k1:=jl (key j _ _ D l) λo e=>L _ o e;have:=(TK X.prog X.w).inj k1 (S.is x hx).1;exact⟨j,D,by rw[l,this]⟩
  have sqx:∀x∈xs,eU X.K f x.2 (x.1.map kV):=λx hx=>by obtain⟨j,D,l⟩:=p x hx;exact E.2 j _ _ D l
  refine UL zbP zbE zbF (zbG _) ?_;refine zaf (zag ?_);refine zaf (tQ (I2.ok.hd hc) S2 λh3 d3 n acc k3 pa=>?_);obtain⟨zs,G,N⟩:∃zs:List (List Key×Addr),zs.Perm xs/\acc=zs.map λx=>Tv x.2:=qr pa xs rfl;have hlz:zs.length<=18:=by rw[G.length_eq,<-S.len];exact S.small
  have hl2:acc.length<=sizeLine:=by rw[N,SE,zav];exact fL
  have I3:=Inv.Sr (d:=d3) (I2.kept (t':=n) k3);have nz:=(G.map _).nodup_iff.mpr S.nd;have sqz:=λx hx=>sqx x (G.mem_iff.mp hx);have T:fF X.prog X.w h3 acc (zs.map (·.1)):=by
   have:fF X.prog X.w ({ s2 with heap:=h3,drawn:=d3,toks:=n }:Shared).heap ((zs.map (·.2)).map Tv) (zs.map (·.1)):=qo I3 T1 λi b k hb hk=>by
    rw[SQ] at hb hk;cases z:zs[i]? with
    |none=>rw[z] at hb;cases hb
    |some x=>rw[z] at hb hk;cases hb;cases hk;exact sqz x (SS z)
   rw[N];rw[TM] at this;exact this
  have hom:MX (zs.map (·.1)):=.inr λk hk=>by have:k∈(nM ks):=((G.map _).trans pk).mem_iff.mp hk;exact y k (eA.mp this)
  refine zaf (zbd ?_ hl2);have O:(h3.push (za6 "list" acc.toArray 0)).get? h3.objs.size=some (za6 "list" acc.toArray 0):=S6 _ rfl;have T':fF X.prog X.w (h3.push (za6 "list" acc.toArray 0)) acc (zs.map (·.1)):=T.keep λb o e _=>SI _ e;refine zaf (zau (zar slot_list_sort ⟨_,O,rfl⟩ entry_list_sort (oS O T' hom nz (by rw[N,SE];exact Ld) ⟨_,rfl,?_⟩) (zbm _)));obtain⟨e,he⟩:=zbu O;have hf:∀b o,h3.get? b=some o->b≠h3.objs.size:=λb o z=>S8 (SV z);refine zag ⟨_,rfl,.ref _,_,I3.wA (o:=.lst (((bt (zs.map (·.1))).map λi=>(zs.map (·.2)).getD i 0).map V.ref)) (λb o z=>?_) hf ⟨?_,(bt (zs.map (·.1))).map λi=>acc.getD i .none,e,?_,he⟩,rfl,q _ _ (I3.jb hf) ⟨?_,λi c k hc hk=>?_⟩⟩
  .rw[zbn (hf b o z) (by rw[za5];exact TH (SV z))];exact SI _ z
  .rw[SE,SE,(bz _).length_eq,Ud,SE,zav];exact fL
  .have ea:acc=(zs.map (·.2)).map Tv:=by rw[N,TM];rfl
   rw[ea];exact wm _ _ λi hi=>by have:=Ts.mp ((bz _).mem_iff.mp hi);simpa using this
  .rw[SE,<-HA nz ((G.map _).trans pk)]
   delta sK
   rw[SE]
  .rw[<-HA nz ((G.map _).trans pk)] at hk
   delta sK at hk
   rw[SQ] at hc hk;cases z:(bt (zs.map (·.1)))[i]? with
   |none=>rw[z] at hc;cases hc
   |some j=>
    rw[z] at hc hk;cases hc;cases hk;have U:j<zs.length:=by have:=Ts.mp ((bz _).mem_iff.mp (SS z));simpa using this
    have:=p zs[j] (G.mem_iff.mp (TR U));simpa[U] using this
end
section
variable{X:Cx}{E:XK}
def p9:List A->Option (List (List Key))
 |[]=>some []
 |a::r=>match uP a,p9 r with
  |some y,some ys=>some (y::ys)
  |_,_=>none
theorem CY{K:Kx}{G:Hp}:∀{vs:List V}{as:List A}{ks:List (List Key)},br K G vs as->p9 as=some ks->∃bs:List Addr,vs=bs.map V.ref/\bs.length=ks.length/\∀(i:Nat)(b:Addr)(k:List Key),bs[i]?=some b->ks[i]?=some k->eU K.K G b (k.map kV)
 |_,_,_,.nil,h=>by cases h;exact⟨[],rfl,rfl,λi b k hb=>by simp at hb⟩
 |_,_,_,.cons (a:=a) (as:=as) q r,h=>by
  unfold p9 at h;cases D:uP a with
  |none=>rw[D] at h;cases h
  |some y=>cases l:p9 as with
   |none=>rw[D,l] at h;cases h
   |some ys=>
    rw[D,l] at h;cases h;obtain⟨bs,rfl,h1,h2⟩:=CY r l;cases a<;>first|exact cu D|skip
    cases q with
    |@tup p vs H sq rs=>
     have I:=rl rs D;subst I;refine⟨p::bs,rfl,zcy (·+1) h1,λi b k hb hk=>?_⟩;cases i with
     |zero=>cases hb;cases hk;exact sq
     |succ i=>exact h2 i b k hb hk
def pI(m:Mi Rr):Mi Rr:=aT (qH m) λr O=>match r with
 | .fr (.lst as)=>match p9 as with
  |some ks=>if (ks.all (λk=>!k.isEmpty&&k.all λe=>!zV e)&&decide ((nM ks).length<=17))=true then some (.ok (.nw (.lst (kg (nM ks)))),O) else none
  |none=>none
 |_=>none
theorem Hm{K:Kx}{G:Hp}{bs:List Addr}{ks:List (List Key)}(h:∀(i:Nat)(b:Addr)(k:List Key),bs[i]?=some b->ks[i]?=some k->eU K.K G b (k.map kV)):∀{cs:List Addr}{ls:List (List Key)},PK bs ks cs ls->br K G (cs.map V.ref) (ls.map GJ)
 |[],[],_=>.nil
 |[],_::_,p=>nomatch p.1
 |_::_,[],p=>nomatch p.1
 |c::cs,l::ls,p=>by obtain⟨j,F,x⟩:=p.2 0 c l rfl rfl;exact .cons (.tup (h j c l F x) (vO _)) (Hm h ⟨W4 p.1,λi c k hc hk=>p.2 (i+1) c k hc hk⟩)
theorem uc{m:Mi Rr}(Y:St)(H:Hp)(Q:VK)(h:lA (kx X) E (pI m) Y H Q):lA (kx X) E (qH m) Y H λv f=>∃a bs ks,v=.ref a/\eI X.K f a (bs.map V.ref)/\JV X f bs ks/\(∀k∈ks,k≠[]/\tJ k)/\(nM ks).length<=17 /\
   ∀r cs,f r=none->PK bs ks cs (sK (nM ks))->Q (.ref r) (upd f r (.lst (cs.map V.ref))):=by
 obtain⟨c,Z,τ,θ,o,O,A,b,em,q⟩:=h;refine bB A b em (λx v U f t b1 s=>?_) (bF q);split at s
 .rename_i as;cases l:p9 as with
  |none=>rw[l] at s;cases s
  |some ks=>
   simp only[l] at s;split at s
   .rename_i hn;cases s;rw[SA,Tq] at hn;obtain⟨L,bl,w⟩:=Bd.um b1;have n:c.K=X.K:=zcy Kx.K A;cases w with
    |lst e r=>
     rename_i p us;obtain⟨bs,rfl,h1,h2⟩:=CY r l;have sq:=f9 (g_same _ _ _) e;refine⟨p,bs,ks,rfl,by rw[<-n];exact sq,⟨h1,λi b k hb hk=>by rw[<-n];exact dk (g_same _ _ _) (h2 i b k hb hk)⟩,λk hk=>?_,zcA hn.2,λj cs u pk=>?_⟩
     .have:=hn.1 k hk;rw[SA,Tq] at this;refine⟨λz=>(by rw[z] at this;exact absurd this.1 W1),λe he=>?_⟩;have:=this.2 e he;cases e with
      |inl i=>cases this
      |inr x=>exact⟨x,rfl⟩
     .refine q _ _ trivial (bl.gO u λG H' sm P=>.lst P ?_);rw[lL];exact Hm (λi b k hb hk=>dk sm (h2 i b k hb hk)) pk
   .cases s
 .cases s
theorem AQ{m:Mi Rr}(hc:X.calm=true)(f:X.A.units+64<cLine)(J:Gl X "set")(T:X.mg "set" = none)(g:Gl X "sorted")(b:X.mg "sorted" = none)(he:JE X E e m)(hs:zai [e] X.env=(false,eval e X.env)::zai [] X.env):
  JE X E (.Call (.Name "sorted" p1) [.Call (.Name "set" p2) [e] [] q2] [] q1) (pI m):=⟨PE.weaken (ux hc f J T g b (HJ he).p hs) λY H Q h=>uc Y H Q h⟩
end
mutual
noncomputable def pl:A->Bool
 | .tup xs=>Rx xs
 | .lst _=>false
 | .dic _=>false
 | .dit _=>false
 | .obj _ _=>false
 | .exc _=>false
 |_=>true
noncomputable def Rx:List A->Bool
 |[]=>true
 |a::r=>pl a&&Rx r
end
section
variable{k:Kx}{G G' H:Hp}
theorem aA.A2:∀{Y:St}{Z:List Sl}{L:List Addr},(∀{x:Option V}{t:Sl}{L:List Addr}(j:Nat),Z[j]?=some t->fU k G H x t L->fU k G' H x t L)->aA k G H Y Z L->aA k G' H Y Z L
 |_,_,_,_,.nil=>.nil
 |_,_,_,f,.cons h r=>.cons (f 0 rfl h) (aA.A2 (λj U=>f (j+1) (by simpa using U)) r)
theorem aA.Bp:∀{Y:St}{Z:List Sl}{L:List Addr}{j:Nat}{t:Sl},aA k G H Y Z L->Z[j]?=some t->∃x a b L2,Y[j]?=some x/\fU k G H x t b/\L=a++(b++L2) /\
  ∀{G':Hp}{t':Sl}{L':List Addr},(∀{x:Option V}{t:Sl}{L:List Addr}(n:Nat),Z[n]?=some t->n≠j->fU k G H x t L->fU k G' H x t L)->fU k G' H x t' L'->aA k G' H Y (Z.set j t') (a++(L'++L2))
 |_,_,_,j,t,.nil,e=>by simp at e
 |x::Y,u::Z,_,0,t,.cons (L:=La) (L':=Lb) h r,e=>by cases e;refine⟨x,[],La,Lb,rfl,h,rfl,λ{i J q} f h'=>?_⟩;rw[YW];exact .cons h' (aA.A2 (λn hn=>f (n+1) (by simpa using hn) (Y1 n)) r)
 |x::Y,u::Z,_,j+1,t,.cons (L:=La) h r,e=>by obtain⟨y,a,b,L2,h1,h3,h2,h4⟩:=aA.Bp r (by simpa using e);refine⟨y,La++a,b,L2,by simpa using h1,h3,by rw[h2,SW],λf h'=>?_⟩;have:=h4 (λn hn I=>f (n+1) (by simpa using hn) (λz=>I (W4 z))) h';rw[SW];exact .cons (f 0 rfl (Y1 j).symm h) this
end
mutual
def df:A->Bool
 | .tup xs=>t4 xs
 | .lst xs=>t4 xs
 | .dic kvs=>JM kvs
 | .obj _ fs=>J3 fs
 | .dit _=>false
 | .exc _=>false
 |_=>true
def t4:List A->Bool
 |[]=>true
 |a::r=>df a&&t4 r
def J3:List (Str×A)->Bool
 |[]=>true
 |(_,a)::r=>df a&&J3 r
def JM:List (Key×A)->Bool
 |[]=>true
 |(_,a)::r=>df a&&JM r
end
def D5:List (List Key×A)->Bool
 |[]=>true
 |(_,a)::r=>df a&&D5 r
def MY:List (Str×List A)->Bool
 |[]=>true
 |(_,xs)::r=>t4 xs&&MY r
def Rg:LO->Bool
 | .lst xs=>t4 xs
 | .dic kvs=>JM kvs
 | .obj _ fs=>J3 fs
 | .dit kvs=>D5 kvs
 | .nob _ fs ls=>J3 fs&&MY ls
def HQ:Sl->Bool
 | .fr a=>df a
 | .cf a=>df a
 | .lv o=>Rg o
 | .pv o=>Rg o
 | .un=>true
structure Dq(p:Addr)(G G':Hp):Prop where
 ex:∀u,G p=some u->∃f,u=.dU f
 st:∀a u,a≠p->G a=some u->G' a=some u
variable{q:Addr}
section
variable{k:Kx}{G G' H:Hp}{p:Addr}
theorem Dq.at{a:Addr}{u:HO}(s:Dq p G G')(e:G a=some u)(n:∀f,u≠.dU f):G' a=some u:=s.st a u (λz=>by obtain⟨f,h⟩:=s.ex u (z▸e);exact n f h) e
theorem Cs{vs:List V}(s:Dq p G G')(h:eU k.K G q vs):eU k.K G' q vs:=h.imp (λr=>by
 rcases r with r|⟨o,r⟩
 .exact .inl (s.at r λf z=>by cases z)
 .exact .inr ⟨o,s.at r λf z=>by cases z⟩) id
theorem Im{vs:List V}(s:Dq p G G')(h:eI k.K G q vs):eI k.K G' q vs:=h.imp (λr=>by
 rcases r with r|⟨o,r⟩
 .exact .inl (s.at r λf z=>by cases z)
 .exact .inr ⟨o,s.at r λf z=>by cases z⟩) id
theorem Nc{kvs:List (Key×V)}(s:Dq p G G')(r:Rd G q (.dK kvs)):Rd G' q (.dK kvs):=by
 rcases r with r|⟨o,r⟩
 .exact .inl (s.at r λf z=>by cases z)
 .exact .inr ⟨o,s.at r λf z=>by cases z⟩
mutual
theorem RA.df(s:Dq p G G'):∀{v:V}{a:A},RA k G v a->M.df a=true->RA k G' v a
 |_,_,.non,_=>.non
 |_,_,.bl b,_=>.bl b
 |_,_,.int i,_=>.int i
 |_,_,.str x,_=>.str x
 |_,_,.tup e r,h=>.tup (Cs s e) (br.df s r (by rw[M.df] at h;exact h))
 |_,_,.lst e r,h=>.lst (Im s e) (br.df s r (by rw[M.df] at h;exact h))
 |_,_,.dic e r,h=>.dic (Nc s e) (fz.df s r (by rw[M.df] at h;exact h))
 |_,_,.exc e m,h=>by rw[M.df] at h;cases h
 |_,_,.obj e m r,h=>.obj (s.at e λf z=>by cases z) m (nW.df s r (by rw[M.df] at h;exact h))
 |_,_,.dit e r,h=>by rw[M.df] at h;cases h
 |_,_,.opq,_=>.opq
theorem nW.df(s:Dq p G G'):∀{vs:List (Str×V)}{as:List (Str×A)},nW k G vs as->J3 as=true->nW k G' vs as
 |_,_,.nil,_=>.nil
 |_,_,.cons h r,e=>by rw[J3,SA] at e;exact .cons (RA.df s h e.1) (nW.df s r e.2)
theorem br.df(s:Dq p G G'):∀{vs:List V}{as:List A},br k G vs as->t4 as=true->br k G' vs as
 |_,_,.nil,_=>.nil
 |_,_,.cons h r,e=>by rw[t4,SA] at e;exact .cons (RA.df s h e.1) (br.df s r e.2)
theorem fz.df(s:Dq p G G'):∀{vs:List (Key×V)}{as:List (Key×A)},fz k G vs as->JM as=true->fz k G' vs as
 |_,_,.nil,_=>.nil
 |_,_,.cons h r,e=>by rw[JM,SA] at e;exact .cons (RA.df s h e.1) (fz.df s r e.2)
end
theorem fH.df(s:Dq p G G'):∀{vs:List (List Key×Addr×V)}{as:List (List Key×A)},fH k G vs as->D5 as=true->fH k G' vs as
 |_,_,.nil,_=>.nil
 |_,_,.cons e h r,d=>by rw[D5,SA] at d;exact .cons (Cs s e) (RA.df s h d.1) (fH.df s r d.2)
theorem t6.df(s:Dq p G G'){ws:List (Str×V)}{ls:List (Str×List A)}{q:List Addr}(h:t6 k G H ws ls q):MY ls=true->t6 k G' H ws ls q:=by
 induction h with
 |nil=>intro _;exact .nil
 |cons e r t m=>intro d;rw[MY,SA] at d;exact .cons e (r.df s d.1) (m d.2)
theorem LR.df{a:Addr}{o:LO}{q:List Addr}(s:Dq p G G')(h:LR k G H a o q)(e:Rg o=true):LR k G' H a o q:=by
 cases h with
 |lst x r=>exact .lst x (r.df s e)
 |dic x r=>exact .dic x (r.df s e)
 |obj x m r=>exact .obj x m (r.df s e)
 |dit x r=>exact .dit x (r.df s e)
 |nob x m r l=>have e:(J3 _&&MY _)=true:=e;rw[SA] at e;exact .nob x m (r.df s e.1) (l.df s e.2)
theorem fU.df{x:Option V}{t:Sl}{L:List Addr}(s:Dq p G G')(h:fU k G H x t L)(e:HQ t=true):fU k G' H x t L:=by
 cases h with
 |un=>exact .un _
 |fr h=>exact .fr (h.df s e)
 |cf h=>exact .cf (h.df s e)
 |lv h=>exact .lv (h.df s e)
 |pv h=>exact .pv (h.df s e)
end
section
variable{c:Cn}{Y:St}{H:Hp}{Z:List Sl}{τ:St}{θ:List Sl}
theorem yO{X' U:List Sl}{s:Sl}(h:fW i X' U=true)(e:U[j]?=some s)(w:cst s=true)(n:i≠j):∃u,X'[j]?=some u/\cst u=true:=by
 delta fW at h
 rw[Tq] at h
 have k:=h j (Ts.mpr (SF.mp e).1)
 rw[e] at k
 rw[Ql,w,Xv,Xm,Uh,zcz] at k
 rcases k with z|z
 .exact absurd z.symm n
 .cases I:X'[j]? with
  |none=>rw[I] at z;cases z
  |some u=>rw[I] at z;exact⟨u,rfl,z⟩
theorem Bd.bor{kvs:List (List Key×A)}(b:Bd c Y H Z τ θ)(es:Z[i]?=some (.lv (.dit kvs))):
  ∃J:Cn,J.toKx=c.toKx/\Bd J Y H (Z.set i (.cf (.dit kvs))) [] [] /\
   (∀Y' H' U V X G,Bd J Y' H' U V X->U[i]?=some (.cf (.dit G))->(U.set i .un).all HQ=true->D5 G=true->X.all HQ=true->fW i Z U=true->Bd c Y' H' (U.set i (.lv (.dit G))) (V++τ) (X++θ)) /\
   ∀Y' H' U V X t,Bd J Y' H' U V X->U[i]?=some t->fW i Z U=true->Bd c Y' H' (U.set i .un) (V++τ) (X++θ):=by
 obtain⟨L,b⟩:=b;obtain⟨I,L2,e1,r1,r2⟩:=aA.split b.lt b.rel;obtain⟨x,M1,M2,l,hx,hsl,e2,ins⟩:=r2.at es;cases hsl with
 |lv lr=>
  rename_i p q;have eq:q=[]:=by cases lr;rfl
  subst eq;have nd:=b.nd;rw[e1,e2] at nd;obtain⟨n1,n2,n3⟩:=Td.mp nd;obtain⟨m1,m2⟩:=pO n2;have s:∀a,a∈L↔a∈I\/a=p\/a∈M1++l:=λa=>by
   rw[e1,e2];simp only[SY,SU];constructor
   .rintro(h|(h|h)|h)
    .exact .inl h
    .exact .inr (.inr (.inl h))
    .exact .inr (.inl h)
    .exact .inr (.inr (.inr h))
   .rintro(h|h|h|h)
    .exact .inl h
    .exact .inr (.inl (.inr h))
    .exact .inr (.inl (.inl h))
    .exact .inr (.inr h)
  have N:=b.rel.is;have O:∀a∈L,a∉c.Hd:=λa d=>b.Nx d;have np:=m2 p SH;have C:=λd=>n3 p d p (S7 _ (SJ _ SH)) rfl;have D:∀a∈I,a∉M1++l:=λa d hq=>by
   rcases SY.mp hq with z|z
   .exact n3 a d a (S7 _ (S7 _ z)) rfl
   .exact n3 a d a (SJ _ z) rfl
  let J:Cn:={ c with σ0:=Y,H0:=H,Lp:=M1++l,Hd:=I++c.Hd,Wk:=[] }
  have f:∀{H':Hp}{K:List Addr}{a:Addr},a∈K\/a∈I\/a∈c.Hd->J.g H' K a=none:=λ{H' K a} h=>ip (by rcases h with h|h|h;exact .inl h;exact .inr (S7 _ h);exact .inr (SJ _ h));have E:∀{H':Hp}{K:List Addr}{a:Addr},a∉K->a∉I->a∉c.Hd->J.g H' K a=H' a:=λ{H' K a} h1 h2 h3=>bJ h1 (λy=>by rcases SY.mp y with z|z;exact h2 z;exact h3 z);have sm0:Sq (c.g H L) (J.g H (M1++l)):=λa u e=>by
   by_cases z:a∈L\/a∈c.Hd
   .rw[ip z] at e;cases e
   .have m:=λy=>z (.inl y);rw[bJ m (λy=>z (.inr y))] at e;refine⟨u,?_,.inl rfl⟩;rw[E (λy=>m ((s a).mpr (.inr (.inr y)))) (λy=>m ((s a).mpr (.inl y))) (λy=>z (.inr y))];exact e
  have es2:Y.set i (some (.ref p))=Y:=by
   apply Uc;intro j;by_cases Q:i=j
   .subst Q;rw[Tt (SF.mp hx).1,hx]
   .rw[TL Q]
  have pL:=(s p).mpr (.inr (.inl rfl));have ends:∀Y' H' U V X L',dz J Y' H' U V X L'->(∀a u,H a=some u->a∉M1++l->H' a=some u)/\(∀a∈I,a∉L')/\p∉L'/\(∀a,c.H0 a=none\/∃o,c.H0 a=some o)/\Fr c H'/\(∀a∈L',a∈c.Lp\/c.H0 a=none) /\
    ∀K,(∀a,a∈K->a∈I\/a=p\/a∈L')->Sq (c.g H L) (c.g H' K):=by
   intro Y' H' U V X L' S;have gy:∀a u,H a=some u->a∉M1++l->H' a=some u:=λa u e na=>by obtain⟨u',h1,h2⟩:=S.fr.st a u e;rw[h1,h2 na λw hw=>nomatch hw]
   refine⟨gy,λa d y=>S.Nx y (S7 _ d),λy=>?_,λa=>?_,⟨λa o e=>?_,λw hw=>?_⟩,λa w=>?_,λK hK a u e=>?_⟩
   .rcases S.own p y with z|z
    .exact np z
    .obtain⟨u,hu⟩:=N p pL;have z:H p=none:=z;rw[hu] at z;cases z
   .cases e:c.H0 a with
    |none=>exact .inl rfl
    |some o=>exact .inr ⟨o,rfl⟩
   .obtain⟨u,f1,f2⟩:=b.fr.st a o e;obtain⟨u',g1,g2⟩:=S.fr.st a u f1;refine⟨u',g1,λk1 k2=>?_⟩;rw[g2 (λy=>?_) λw hw=>nomatch hw]
    .exact f2 k1 k2
    .rcases b.own a ((s a).mpr (.inr (.inr y))) with v|v
     .exact k1 v
     .rw[e] at v;cases v
   .obtain⟨k1,k2,k3⟩:=b.fr.pk w hw;refine⟨gy _ _ k1 λy=>?_,k2,k3⟩;have hw2:=(s w.1).mpr (.inr (.inr y));obtain⟨ob,vs,k2⟩:=k2;exact b.rel.wH _ hw2 ob vs (by rw[k1,k2])
   .rcases S.own a w with v|v
    .exact b.own a ((s a).mpr (.inr (.inr v)))
    .exact .inr (b.fr.fresh v)
   .by_cases z:a∈L\/a∈c.Hd
    .rw[ip z] at e;cases e
    .have m:=λy=>z (.inl y);rw[bJ m (λy=>z (.inr y))] at e;refine⟨u,?_,.inl rfl⟩;rw[bJ (λy=>?_) (λy=>z (.inr y))]
     .exact gy a u e λy=>m ((s a).mpr (.inr (.inr y)))
     .rcases hK a y with w|w|w
      .exact m ((s a).mpr (.inl w))
      .exact m ((s a).mpr (.inr (.inl w)))
      .rcases S.own a w with v|v
       .exact m ((s a).mpr (.inr (.inr v)))
       .have v:H a=none:=v;rw[e] at v;cases v
  have kpe:∀Y' H' U V X L' t,dz J Y' H' U V X L'->cst t=false->fW i Z U=true->fj c.σ0 Y' (U.set i t):=λY' H' U V X L' t S ht hs j o Q w0=>by
   by_cases hij:i=j
   .subst hij;by_cases hi:i<U.length
    .rw[Tt hi] at Q;cases Q;rw[ht] at w0;cases w0
    .rw[Tx (by simp;exact U8.mp ‹_›)] at Q;cases Q
   .rw[TL hij] at Q;obtain⟨s0,h0,w1⟩:=yO hs Q w0 hij;have k1:=S.kp j o Q w0;rw[k1];exact b.kp j s0 h0 w1
  refine⟨J,rfl,⟨M1++l,m1,?_,λa d=>.inl d,⟨λa o e=>⟨o,e,λ_ _=>rfl⟩,λw hw=>nomatch hw⟩,λj o Q w0=>rfl,rfl,λa d=>?_⟩,?_,?_⟩
  .have i1:=ins sm0 (λ_ _ _ e=>e) (.cf (lr.a' sm0 λa d u e=>by rw[SU.mp d] at e ⊢;rw[E np C (O p pL)];exact e))
   rw[es2,Ug] at i1;exact i1
  .rcases SY.mp d with z|z
   .exact⟨N a ((s a).mpr (.inl z)),D a z⟩
   .obtain⟨⟨u,hu⟩,_⟩:=b.hd a z;obtain⟨u',h1,_⟩:=b.fr.st a u hu;exact⟨⟨u',h1⟩,λy=>O a ((s a).mpr (.inr (.inr y))) z⟩
  .rintro Y' H' U V X G ⟨L',S⟩ T hdf hdk hd1 hps;obtain⟨gy,n1L,R,-,fr',B,sqK⟩:=ends Y' H' U V X L' S;have hσi:Y'[i]?=some (some (.ref p)):=by rw[show Y'[i]?=Y[i]? from S.kp i _ T rfl,hx]
   obtain⟨F,K2,e5,t1,t2⟩:=aA.split S.lt S.rel;obtain⟨y,k,N2,N3,hy,hys,e4,n⟩:=t2.Bp T;rw[hσi] at hy;cases hy;cases hys with
   |cf hra=>
    cases hra with
    |dit e r=>
     rename_i vs';have eL:L'=F++(k++N3):=by rw[e5,e4];simp
     have pm:(F++(I++(k++([p]++N3)))).Perm (I++([p]++L')):=by rw[eL,Vg];simp only[Vr];lia
     have hN:∀a,a∈F++(I++(k++([p]++N3)))↔a∈I\/a=p\/a∈L':=λa=>by rw[pm.mem_iff,SY,SY,SU]
     have hp':H' p=some (dX c.P c.w p vs'):=by
      rcases e with e|⟨ob,e⟩
      .rw[E R C (O p pL)] at e;exact e
      .rw[E R C (O p pL)] at e;cases lr with
       |dit e0 r0=>have h:=gy p _ e0 np;rw[e] at h;cases h
     have dq:Dq p (J.g H' L') (c.g H' (F++(I++(k++([p]++N3))))):=by
      refine⟨λu hu=>?_,λa u na e=>?_⟩
      .rw[E R C (O p pL),hp'] at hu;cases hu;exact⟨_,rfl⟩
      .by_cases z:a∈L'\/a∈I\/a∈c.Hd
       .rw[f z] at e;cases e
       .rw[E (λy=>z (.inl y)) (λy=>z (.inr (.inl y))) (λy=>z (.inr (.inr y)))] at e;rw[bJ (λy=>?_) (λy=>z (.inr (.inr y)))]
        .exact e
        .rcases(hN a).mp y with w|w|w
         .exact z (.inr (.inl w))
         .exact na w
         .exact z (.inl w)
     have MF:aA c.toKx (c.g H' (F++(I++(k++([p]++N3))))) H' Y' (U.set i (.lv (.dit G))) (k++([p]++N3)):=by refine n (λ{x t L} j Q hne h=>h.df dq (Tq.mp hdf t ?_)) (.lv (.dit hp' (r.df dq hdk)));exact SS (by rw[TL (Uu hne)];exact Q:(U.set i .un)[j]?=some t)
     have tem:=t1.A2 λj Q h=>h.df dq (Tq.mp hd1 _ (SS Q));refine⟨F++(I++(k++([p]++N3))),?_,(by rw[SW,SW];exact tem.app ((r1.sm (sqK _ λa d=>(hN a).mp d) (λa d u e=>gy a u e (D a d))).app MF)),λa d=>?_,fr',kpe Y' H' U V X L' _ S rfl hps,(by rw[S3,S3,S.lt,b.lt]),b.hd⟩
     .refine(pm.nodup_iff).mpr (Td.mpr ⟨n1,Td.mpr ⟨by simp,S.nd,λa d b hb z=>R (by rw[<-SU.mp d,z];exact hb)⟩,λa d b hb z=>?_⟩);subst z;rcases SY.mp hb with w|w
      .exact C (by rw[<-SU.mp w];exact d)
      .exact n1L a d w
     .rcases(hN a).mp d with w|w|w
      .exact b.own a ((s a).mpr (.inl w))
      .exact b.own a ((s a).mpr (.inr (.inl w)))
      .exact B a w
  .rintro Y' H' U V X t ⟨L',S⟩ T hps;obtain⟨gy,n1L,R,-,fr',B,sqK⟩:=ends Y' H' U V X L' S;obtain⟨F,K2,e5,t1,t2⟩:=aA.split S.lt S.rel;obtain⟨y,k,N2,N3,hy,hys,e4,n⟩:=t2.Bp T;have eL:∀a,a∈L'↔a∈F\/a∈k\/a∈N2\/a∈N3:=λa=>by rw[e5,e4];simp only[SY]
   have hN:∀a,a∈F++(I++(k++([]++N3)))->a∈I\/a∈L':=λa d=>by
    rw[eL];simp only[SY,Uk,false_or] at d;rcases d with z|z|z|z
    .exact .inr (.inl z)
    .exact .inl z
    .exact .inr (.inr (.inl z))
    .exact .inr (.inr (.inr (.inr z)))
   have sq2:Sq (J.g H' L') (c.g H' (F++(I++(k++([]++N3))))):=λa u e=>by
    by_cases z:a∈L'\/a∈I\/a∈c.Hd
    .rw[f z] at e;cases e
    .rw[E (λy=>z (.inl y)) (λy=>z (.inr (.inl y))) (λy=>z (.inr (.inr y)))] at e;refine⟨u,?_,.inl rfl⟩;rw[bJ (λy=>?_) (λy=>z (.inr (.inr y)))]
     .exact e
     .rcases hN a y with w|w
      .exact z (.inr (.inl w))
      .exact z (.inl w)
   have MF:aA c.toKx (c.g H' (F++(I++(k++([]++N3))))) H' Y' (U.set i .un) (k++([]++N3)):=n (λ{x t L} j Q hne h=>h.sm sq2 (λ_ _ _ e=>e)) (.un _);have tem:aA c.toKx (c.g H' (F++(I++(k++([]++N3))))) H' V X F:=t1.sm sq2 (λ_ _ _ e=>e);refine⟨F++(I++(k++([]++N3))),?_,(by rw[SW,SW];exact tem.app ((r1.sm (sqK _ λa d=>(hN a d).imp id .inr) (λa d u e=>gy a u e (D a d))).app MF)),λa d=>?_,fr',kpe Y' H' U V X L' _ S rfl hps,(by rw[S3,S3,S.lt,b.lt]),b.hd⟩
   .have nd':=S.nd;rw[e5,e4] at nd';have pm:(F++(I++(k++([]++N3)))).Perm (I++(F++(k++N3))):=by rw[Vg];simp only[Vr,Y9];lia
    have sub:(F++(k++N3)).Sublist (F++(k++(N2++N3))):=U1 (UI _) (U1 (UI _) (VQ _ _));refine(pm.nodup_iff).mpr (Td.mpr ⟨n1,nd'.sublist sub,λa d b hb z=>?_⟩);subst z;exact n1L a d (by rw[e5,e4];exact sub.subset hb)
   .rcases hN a d with w|w
    .exact b.own a ((s a).mpr (.inl w))
    .exact B a w
end
theorem Bd.QP{Y:St}{τ:St}{a:A}(b:Bd c Y H Z τ θ)(e:Z[j]?=some (.fr a)):Bd c Y H (Z.set j .un) τ θ:=by
 obtain⟨L,b⟩:=b;obtain⟨u,L2,D,g,k⟩:=aA.split b.lt b.rel;obtain⟨x,M1,E,J,hx,q,l,ins⟩:=k.at e;cases q with
 |fr h=>
  rename_i i;have w:=ins (y:=some i) (Sq.refl _) (λ_ _ _ e=>e) (.un _);rw[vM hx] at w;refine⟨L,b.nd,?_,b.own,b.fr,b.kp.DA (λz=>by cases z),b.lt,b.hd⟩;have:=g.app w;have z:u++(M1++[]++J)=L:=by rw[D,l]
  rw[z] at this;exact this
noncomputable def ck:List Nat->List Sl->List Sl
 |[],Z=>Z
 |j::ds,Z=>match Z[j]? with
  |some (.fr _)=>ck ds (Z.set j .un)
  |_=>ck ds Z
theorem Bd.ck{c:Cn}{Y:St}{H:Hp}{τ:St}{θ:List Sl}:∀(ds:List Nat){Z:List Sl},Bd c Y H Z τ θ->Bd c Y H (M.ck ds Z) τ θ
 |[],Z,b=>b
 |j::ds,Z,b=>by
  unfold M.ck;split
  .rename_i a e;exact Bd.ck ds (b.QP e)
  .exact Bd.ck ds b
def uI(i:Nat)(ds:List Nat)(m:Ms):Ms:=λZ=>match Z[i]? with
 |some (.lv (.dit kvs))=>match m (Z.set i (.cf (.dit kvs))) with
  |some (.nx,U)=>match (ck ds U)[i]? with
   |some (.cf (.dit kvs'))=>if ((ck ds U).set i .un).all HQ&&(D5 kvs'&&fW i Z (ck ds U)) then some (.nx,(ck ds U).set i (.lv (.dit kvs'))) else none
   |_=>none
  |some (.rt s,U)=>match U[i]? with
   |some _=>if fW i Z U then some (.rt s,U.set i .un) else none
   |none=>none
  |some (.ex x,U)=>match U[i]? with
   |some _=>if fW i Z U then some (.ex x,U.set i .un) else none
   |none=>none
  |_=>none
 |_=>none
variable{X:Cx}{E:XK}
theorem FX{ss:List Stmt}{m:Ms}{ds:List Nat}(h:om X E ss m):om X E ss (uI i ds m):=⟨nU.weaken h.p λD Y H h=>by
 obtain⟨c,Z,τ,θ,f,O,A,b,em,q⟩:=h
 delta uI at em
 split at em
 .rename_i kvs es;obtain⟨S,K,R,u,k⟩:=Bd.bor b es;split at em
  .rename_i U r;split at em
   .rename_i G l;split at em
    .rename_i hc;rw[SA,SA] at hc;cases em;exact⟨S,_,[],[],.nx,U,K.trans A,R,r,λY' H' b1=>q Y' H' (u Y' H' _ [] [] G (b1.ck ds) l hc.1 hc.2.1 rfl hc.2.2)⟩
    .cases em
   .cases em
  .rename_i s U r;split at em
   .rename_i t l;split at em
    .rename_i hc;cases em;exact⟨S,_,[],[],.rt s,U,K.trans A,R,r,λv Y' H' hs b1=>q v Y' H' hs (k Y' H' U [some v] [s] t b1 l hc)⟩
    .cases em
   .cases em
  .rename_i x U r;split at em
   .rename_i t l;split at em
    .rename_i hc;cases em;exact⟨S,_,[],[],.ex x,U,K.trans A,R,r,λC Y' H' T b1=>q C Y' H' T (k Y' H' U [] [] t b1 l hc)⟩
    .cases em
   .cases em
  .cases em
 .cases em⟩
theorem oR(env:Env):∀l rest:List Stmt,execs (l++rest) env=(execs l env >>= λf=>match f with | .next=>execs rest env|f=>pure f)
 |[],rest=>by rfl
 |s::l,rest=>by
  show (exec s env >>= _)=((exec s env >>= _) >>= _);rw[bind_assoc]
  congr 1
  funext f
  cases f with
  |next=>exact oR env l rest
  |_=>rw[pure_bind]
theorem Gm{a b:List Stmt}{t u:TS}(h1:nU X a t)(h2:nU X b u):nU X (a++b) (ND t u):=by
 intro pins s Y H D I h;rw[oR];refine zaf (bG (h1 pins s Y H { D with nx:=u D } I h) λf s1 q=>?_);cases f with
 |next=>obtain⟨Y',H',w,q⟩:=q;exact h2 pins s1 Y' H' D w q
 |ret v=>exact zag q
 |brk=>exact zag q
 |cont=>exact zag q
theorem vX{a r:List Stmt}{m n:Ms}(h:om X E a m)(h':om X E r n):om X E (a++r) (av m n):=⟨nU.weaken (Gm h.p h'.p) λD Y H h=>by
 obtain⟨c,Z,τ,θ,f,O,A,b,em,q⟩:=h
 delta av at em
 cases e:m Z with
 |none=>rw[e] at em;cases em
 |some p=>
  obtain⟨F,U⟩:=p;rw[e] at em;refine⟨c,Z,τ,θ,F,U,A,b,e,?_⟩;cases F with
  |nx=>exact λY' H' V=>⟨c,U,τ,θ,f,O,A,V,em,q⟩
  |rt s=>cases em;exact q
  |bk=>cases em;exact q
  |ct=>cases em;exact q
  | ex x=>cases em;exact q⟩
section
variable{c:Cn}{Y:St}{H:Hp}{Z:List Sl}{τ:St}{θ:List Sl}
def MQ(c:Cn)(H:Hp)(L:List Addr)(v:V)(a:A):Prop:=∀as,a=.dit as->∃p vs,v=.ref p/\Rd H p (dX c.P c.w p vs)/\fH c.toKx (c.g H L) vs as
theorem fU.Ki{k:Kx}{G:Hp}{x:Option V}{s:Sl}(h:fU k G H x s L)(sm:Sq G H):∀as,s.a=some (.dit as)->∃p vs,x=some (.ref p)/\Rd H p (dX k.P k.w p vs)/\fH k G vs as:=by
 intro as z;have lo:∀p o q,LR k G H p o q->o.rd=some (.dit as)->∃vs,H p=some (dX k.P k.w p vs)/\fH k G vs as:=by
  intro p o q h z;cases h with
  |lst=>cases z
  |dic=>cases z
  |obj=>cases z
  |nob=>cases z
  |dit e r=>cases z;exact⟨_,e,r⟩
 cases h with
 |un=>cases z
 |fr h=>cases z;cases h with|dit e r=>exact⟨_,_,rfl,sm.Qe e,r⟩
 |cf h=>cases z;cases h with|dit e r=>exact⟨_,_,rfl,sm.Qe e,r⟩
 |lv h=>obtain⟨vs,h1,h2⟩:=lo _ _ _ h z;exact⟨_,vs,rfl,.inl h1,h2⟩
 |pv h=>obtain⟨vs,h1,h2⟩:=lo _ _ _ h z;exact⟨_,vs,rfl,.inl h1,h2⟩
theorem MQ.of{L2:List Addr}{x:Option V}{s:Sl}{a:A}(ex:x=some v)(h:fU c.toKx (c.g H L) H x s L2)(Z:s.a=some a):MQ c H L v a:=by subst ex;intro as z;subst z;obtain⟨p,vs,q,h1,h2⟩:=h.Ki (g_same _ _ _) as Z;exact⟨p,vs,Ta q,h1,h2⟩
theorem dz.oQ{r:Rr}{a:A}{q:List Addr}(b:dz c Y H Z (bM r v τ) (bL r θ) q)(t:VR Y r v)(e:res Z r=some a):∃L,(∀a,a∈L->a∈q)/\dz c Y H Z τ θ L/\MQ c H L v a:=by
 have z:∀s,dz c Y H Z (some v::τ) (s::θ) q->s.a=some a->∃L,(∀a,a∈L->a∈q)/\dz c Y H Z τ θ L/\MQ c H L v a:=by
  intro s b I;obtain⟨nd,rel,own,fr,kp,lt,y⟩:=b;cases rel with
  |cons h r=>rename_i u L2;have sm:Sq (c.g H (u++L2)) (c.g H L2):=dg λa d=>SJ _ d;exact⟨L2,λa d=>SJ _ d,⟨(Td.mp nd).2.1,r.sm sm (λ_ _ _ e=>e),λp hp=>own p (SJ _ hp),fr,kp,by simpa using lt,y⟩,MQ.of rfl (h.sm sm (λ_ _ _ e=>e)) I⟩
 cases r with
 |rf i=>
  delta res at e
  cases es:Z[i]? with
  |none=>simp only[es] at e;cases e
  |some s=>simp only[es] at e;obtain⟨u,L2,D,Q,k⟩:=aA.split b.lt b.rel;obtain⟨x,_,_,_,hx,hs,_⟩:=k.at es;rw[t] at hx;exact⟨q,λ_ h=>h,b,MQ.of (Ta hx).symm hs e⟩
 |fr a'=>exact z _ b e
 |nw o=>exact z _ b e
noncomputable def nX{α:Type}(as:List (List Key×α))(y:List Key):Option α:=(as.find? λx=>decide (x.1=y)).map (·.2)
noncomputable def uW{α:Type}(xs:List (List Key×Addr×α))(y:List Key):Option α:=(xs.find? λx=>decide (x.1=y)).map (·.2.2)
theorem fH.get{k:Kx}{G:Hp}(y:List Key):∀{vs:List (List Key×Addr×V)}{as:List (List Key×A)},fH k G vs as->(∃v a,uW vs y=some v/\nX as y=some a/\RA k G v a)\/(uW vs y=none/\nX as y=none)
 |_,_,.nil=>.inr ⟨rfl,rfl⟩
 |_,_,.cons (y:=z) (v:=v) (a:=a) e h r=>by
  by_cases w:z=y
  .left;exact⟨v,a,by simp[uW,Tf,w],by simp[nX,Tf,w],h⟩
  .have:=fH.get y r;unfold uW nX at this ⊢;simpa[Tf,w] using this
theorem rB.at{xs:List (List Key×Addr×V)}{ys:List (List Key×Addr×Value)}(r:rB xs ys)(y:List Key){v:V}(h:uW xs y=some v):∃p,zaU ys y=some p/\RelV v p.2:=by
 induction r with
 |nil=>cases h
 |@cons p q ps I e t m=>
  by_cases w:p.1=y
  .have Y:=e.1.symm.trans w;have:p.2.2=v:=by simpa[uW,Tf,w] using h
   exact⟨q.2,by simp[zaU,Tf,Y],by rw[<-this];exact e.2.2⟩
  .have Y:¬ q.1=y:=λz=>w (e.1.trans z);have h':uW ps y=some v:=by delta uW at h ⊢;simpa[Tf,w] using h
   obtain⟨u,h1,h2⟩:=m h';exact⟨u,by delta zaU at h1 ⊢;simpa[Tf,Y] using h1,h2⟩
theorem Js{w:V}{b:A}{y:List Key}(r:RA K H w b)(h:uP b=some y):∃q,w=.ref q/\eU K.K H q (y.map kV):=by
 cases r<;>first|exact cu h|skip
 rename_i p vs as e r;exact⟨p,rfl,by rw[<-rl r h];exact e⟩
end
section
variable{X:Cx}{E:XK}
theorem HR{Y:St}{a:Addr}(I:Inv X pins Y H s)(e:Rd H a (dX X.prog X.w a xs))(hk:∀x∈xs,eU X.K H x.2.1 (x.1.map kV)):xs.length<=sizeLine/\(a==zap)=false /\
  ∃ys,rB xs ys/\s.heap.DictOfH (zaq (aC X.prog X.w)) a ys:=by
 obtain⟨⟨z,lo,ys,r,o,es,ep,h1,h2,h3,h4,h5⟩,_⟩:=(e.ok I.hok)
 refine⟨z,lo,ys,r,o,es,ep,h1,h2,h3,h4,λy hy=>?_,h5⟩;have m:(y.1,y.2.1)∈xs.map λx=>(x.1,x.2.1):=by rw[<-r.keys];exact Tj.mpr ⟨y,hy,rfl⟩
 obtain⟨x,hx,e⟩:=Tj.mp m;have:=mJ I (hk x hx);rw[(VJ e).1,(VJ e).2] at this;exact this
def Ie(K:Kx)(x y:V)(H:Hp)(Q:VK):Prop:=∃a v xs k b,x=.ref a/\Rd H a (dX K.P K.w a xs)/\(∀x∈xs,eU K.K H x.2.1 (x.1.map kV))/\y=.ref b/\eU K.K H b (k.map kV)/\uW xs k=some v/\Q v H
theorem CU{o i:Expr}{ty:TE}(C:X.A.units+1<cLine)(ho:PE X o td)(hi:PE X i ty)(hs:uX i):PE X (.Subscript o i pos) (λY H Q=>td Y H λx f=>ty Y f λy V=>Ie (kx X) x y V Q):=by intro pins s Y H Q I h;refine xg WN.lookup hs (bG (ho pins s Y H _ I h) λu s1 ⟨x,f,r,E,q1⟩=>bG (hi pins s1 Y f _ r q1) λB s2 ⟨y,V,j,K,a,v,xs,k,b,ex,e,hk,O,l,t,q2⟩=>?_);subst ex O;obtain rfl:u=Tv a:=E;obtain rfl:B=Tv b:=K;obtain⟨z,hd,ys,rel,R⟩:=HR j e hk;obtain⟨p,hp,w⟩:=rel.at k t;exact⟨R.typeIs,zbZ (zaH C) (mJ j l) R hp ⟨v,V,j.tok _,w,q2⟩⟩
def aS:A->A->Option Rr
 | .dit kvs,b=>match uP b with
  |some y=>match nX kvs y with
   |some a=>some (.fr a)
   |none=>none
  |none=>none
 |_,_=>none
theorem Eg:gh K (Ie K) aS:=by
 intro c Y H Z τ θ x y v w a b q Q A U t i D l N k;subst A;have h:=Bd.rd i t l;obtain⟨L,i⟩:=i;obtain⟨I,s1,b1,_⟩:=i.open t l;obtain⟨L2,s2,b2,B⟩:=b1.oQ U D;cases a<;>first|exact cu N|skip
 rename_i kvs
 delta aS at N
 cases O:uP b with
 |none=>simp only[O] at N;cases N
 |some e=>
  simp only[O] at N;obtain⟨p,vs,rfl,h1,o⟩:=B kvs rfl;obtain⟨s,rfl,sq⟩:=Js h O;rcases o.get e with ⟨u,a,J,g,d⟩|⟨J,g⟩
  .rw[g] at N;cases N;exact⟨p,u,vs,e,s,rfl,h1,λx hx=>dk (g_same _ _ _) (o.sq x hx),rfl,sq,J,k u H trivial (b2.push d)⟩
  .rw[g] at N;cases N
theorem FQ{a b:Expr}{h mb:Mi Rr}(f:X.A.units+1<cLine)(d:JE X E a h)(hb:JE X E b mb)(hs:uX b):JE X E (.Subscript a b pos) (ay aS h mb):=
 ⟨PE.weaken (CU f d.p hb.p hs) (eB Eg)⟩
end
section
open PySem.Spec PyProof.Rows PySem.W PySem.Calls
variable{prog:Program}{w:zam}{A:zan}{E:Value->Shared->Prop}{s:Shared}{d it:Addr}{es:Array za9}{ep i:Nat}
theorem Cr{Q:Option Value->Shared->Prop}(c:A.handled=none)(hi:es.size<=i)(hit:s.heap.IsKeyIter it d i es.size ep)(T:ja s.heap d es ep)(U:∀h',Zy it s.heap h'->Q none { s with heap:=h' }):zaj (zak prog w) A (zbW (.ref it)) Q E s:=by
 obtain⟨o,ho,hc,hd⟩:=id hit;obtain⟨od,b,e,y⟩:=T;refine zaf (zbe (zaD hit.typeIs T3
  (zar T3 hit.typeIs VD ?_ (Vz _))))
 refine zaf (zag (zaf (zaf ?_)));refine zaf (zaw hit.typeIs (zag (zaf (za7 ho hd ?_))));refine zaf (zag (zaf (zay b y ?_)));rw[zcv T1];refine zaf (zag (zaf (zaV b y ?_)));rw[zcv T1];refine zag ?_;simp only[show ¬ ((i:Int)<0) from by lia,if_false,Ut,UX hi];refine zaf ?_;refine zaf (zaw hit.typeIs (zag ?_));show zaj _ _ (setField (.ref it) 0 .none >>= _) _ _ s;refine zaf (zaA ho hd T1 ?_);refine zaf ?_;refine zaf (m:=za0 _ _) (zaQ (by first|rfl|(rw[za0];rfl)) ?_);refine zaF ?_ (by size_fits);refine zaf (zbV ?_);rw[show A.in1.handled=none from c];refine zaf (zag (zch ?_));refine zaf (zaR ⟨_,S6 _ rfl,rfl⟩ zbQ ?_);exact zag (U _ (((Uj ..).extBut.push _).push _))
end
variable{te:TE}
section
open PySem.Spec PyProof.Rows PySem.W
variable{X:Cx}{pins:List (Addr×Obj)}{Y:L2.St}{H:Hp}{s:Shared}{d:Addr}{ob:Obj}{φ:Heap->Prop}
theorem qU(I:Inv X pins Y H s)(e:H d=some (.dU φ)):(∀u v,X.H₀ d≠some (.frz u v))/\∃ob,s.heap.get? d=some ob/\Inv X pins Y (upd H d (.frz ob (.dU φ))) s:=by
 have B:∀u v,X.H₀ d≠some (.frz u v):=λu v z=>by have:=I.base.frzs d u v z;rw[e] at this;cases this
 obtain⟨ob,h⟩:=(I.hok d _ e).is;exact⟨B,ob,h,I.swap e (λ_ z=>by cases z) (λ_ z=>by cases z) (λ_ z=>by cases z) B ⟨h,I.hok d _ e⟩⟩
theorem tq(I:Inv X pins Y H s)(e:H d=some (.frz ob (.dU φ)))(B:∀u v,X.H₀ d≠some (.frz u v)):Inv X pins Y (upd H d (.dU φ)) s:=
 I.swap e (λ_ z=>by cases z) (λ_ z=>by cases z) (λ_ z=>by cases z) B (I.hok d _ e).2
def HP(D:Ends)(d:Addr)(φ:Heap->Prop):Ends where
 nx:=λY H=>(∃ob,H d=some (.frz ob (.dU φ)))/\D.nx Y (upd H d (.dU φ))
 rt:=λv H=>(∃ob,H d=some (.frz ob (.dU φ)))/\D.rt v (upd H d (.dU φ))
 bk:=λY H=>(∃ob,H d=some (.frz ob (.dU φ)))/\D.bk Y (upd H d (.dU φ))
 ct:=λY H=>(∃ob,H d=some (.frz ob (.dU φ)))/\D.ct Y (upd H d (.dU φ))
def Kc(t:TS):TS:=λD Y H=>∃d φ,H d=some (.dU φ)/\t (HP D d φ) Y H
theorem Dx{st:Stmt}{t:TS}(h:PS X st t):PS X st (Kc t):=by
 intro pins s Y H D I G;obtain⟨d,kvs,e,G⟩:=G;have B:=(qU I e).1;refine bG (h pins s Y H _ I G) λf s' q=>?_;cases f with
 |next=>obtain⟨Y',H',w,⟨ob,k⟩,q⟩:=q;exact⟨Y',_,tq w k B,q⟩
 |brk=>obtain⟨Y',H',w,⟨ob,k⟩,q⟩:=q;exact⟨Y',_,tq w k B,q⟩
 |cont=>obtain⟨Y',H',w,⟨ob,k⟩,q⟩:=q;exact⟨Y',_,tq w k B,q⟩
 |ret u=>obtain⟨v,Y',H',w,r,⟨ob,k⟩,q⟩:=q;exact⟨v,Y',_,tq w k B,r,q⟩
def qR(P:Program)(w:zam)(d:Addr)(ob:Obj)(xs:List (List Key×Addr×V)):It:=
 ⟨λi H=>H d=some (.frz ob (dX P w d xs))/\i<xs.length,λi H x H'=>H'=H/\∃p,xs[i]?=some p/\x=.ref p.2.1,λi H=>H d=some (.frz ob (dX P w d xs))/\xs.length<=i⟩
theorem mx{P:Program}{K:SD}{x:Str}{it:Addr}{es:Array za9}(hl:es.size=xs.length)(hk:∀(i:Nat)(p:List Key×Addr×V)(e:za9),xs[i]?=some p->es[i]?=some e->e.key=.ref p.2.1)
  (T:∀h:Heap,h.get? d=some ob->ja h d es ep):Turn P w K (.Name x px) (qR P w d ob xs) [it] it (λi h=>h.IsKeyIter it d i es.size ep) where
 mem:=by simp
 obj:=λi h st b hb=>by rw[SU.mp hb];obtain⟨o,e,c,S⟩:=st;exact⟨o,e,λv z=>by rw[S] at z;cases z⟩
 keep:=λi h h' st k=>by obtain⟨o,e,r⟩:=st;exact⟨o,k it T1 o e,r⟩
 item:=by
  intro X y t A hc i pins s Y H E I hf st J;obtain⟨e,hi⟩:=J;obtain⟨D,F,Z,G,L,R⟩:=hf it T1;have j:=(I.hok d _ e).1;have a:i<es.size:=by lia
  refine tm st (T _ j) a λh' N q=>?_;have m:=I.turned (t':=s.toks) (λb o hb e=>(q.2 b hb).trans e) D F G L R;have u:=hk i xs[i] es[i] (SG hi) (Tp a);exact⟨es[i].key,rfl,zag ⟨.ref (xs[i]).2.1,H,m,u,⟨rfl,xs[i],SG hi,rfl⟩,N,λb hb=>(hf b hb).1⟩⟩
 done:=by intro X y t A hc i pins s Y H E I hf st J;obtain⟨e,hi⟩:=J;obtain⟨D,F,Z,G,L,R⟩:=hf it T1;exact Cr (I.ok.hd hc) XV st (T _ (I.hok d _ e).1) λh' l=>⟨rfl,I.turned (λb o hb e=>l b o hb e) D F G L R⟩
 self:=λ_ _ _ _ _ st h=>zbR st h
def uS(X:Cx)(te:TE):TI:=λY H R=>te Y H λx f=>∃d xs,x=.ref d/\f d=some (dX X.prog X.w d xs)/\∀ob,R (qR X.prog X.w d ob xs) (upd f d (.frz ob (dX X.prog X.w d xs)))
def qq(X:Cx)(te:TE):TI:=λY H R=>te Y H λx f=>∃d xs ob,x=.ref d/\f d=some (.frz ob (dX X.prog X.w d xs))/\R (qR X.prog X.w d ob xs) f
theorem rB.key{xs:List (List Key×Addr×V)}{ys:List (List Key×Addr×Value)}{P:Program}{w:zam}{es:Array za9}(r:rB xs ys)(h4:es.toList=ys.map (zbk (zaq (aC P w)))):es.size=xs.length/\∀(i:Nat)(p:List Key×Addr×V)(e:za9),xs[i]?=some p->es[i]?=some e->e.key=.ref p.2.1:=by
 have hl:=zaW h4;refine⟨by rw[hl,<-Um r],λi p e hp he=>?_⟩;rw[zct h4] at he;cases O:ys[i]? with
 |none=>rw[O] at he;cases he
 |some y=>
  rw[O] at he;cases he;have k:=r.keys;have h1:(xs.map λx=>(x.1,x.2.1))[i]?=some (p.1,p.2.1):=by rw[SQ,hp];rfl
  rw[<-k,SQ,O] at h1;have h2:y.2.1=p.2.1:=zcy Prod.snd (Ta h1);show Tv y.2.1=_;rw[h2]
theorem rL{l:Expr}{x:Str}(hl:PE X l te):L2.PI X (.Name x px) l (uS X te):=by
 intro pins s Y H R I h;refine bG (hl pins s Y H _ I h) λv s1 ⟨y,f,r,g,q1⟩=>?_;obtain⟨d,xs,rfl,hd,q⟩:=q1;cases g;obtain⟨⟨z,lo,ys,G,o,es,ep,h1,h2,h3,h4,h5⟩,_⟩:=(r.hok d _ hd)
 obtain⟨B,ob,j,m⟩:=qU r hd;obtain⟨K,V⟩:=G.key h4;refine mL lo ⟨o,h1,h2,h3⟩ ?_;refine⟨s1.heap.objs.size,[s1.heap.objs.size],_,_,_,rfl,m.kept λb o e=>SI _ e,mx K V (λh e=>?_),⟨_,S6 _ rfl,rfl,rfl⟩,λb hb=>?_,q ob⟩
 .have i:=Ta (j.symm.trans h1);rw[i] at e;exact⟨_,e,h2,h3⟩
 .rw[SU.mp hb];exact m.y0 (SO _) m.fresh
theorem oo{l:Expr}{x:Str}(hl:PE X l te):L2.PI X (.Name x px) l (qq X te):=by
 intro pins s Y H R I h;refine bG (hl pins s Y H _ I h) λv s1 ⟨y,f,j,g,q1⟩=>?_;obtain⟨d,xs,ob,rfl,hd,q⟩:=q1;cases g;obtain⟨a,⟨z,lo,ys,G,o,es,ep,h1,h2,h3,h4,h5⟩,_⟩:=(j.hok d _ hd)
 obtain⟨K,V⟩:=G.key h4;refine mL lo ⟨o,h1,h2,h3⟩ ?_;refine⟨s1.heap.objs.size,[s1.heap.objs.size],_,_,_,rfl,j.kept λb o e=>SI _ e,mx K V (λh e=>?_),⟨_,S6 _ rfl,rfl,rfl⟩,λb hb=>?_,q⟩
 .have i:=Ta (a.symm.trans h1);rw[i] at e;exact⟨_,e,h2,h3⟩
 .rw[SU.mp hb];exact j.y0 (SO _) j.fresh
end
def cO(s:List Key×A):A:=.tup (s.1.map Jw)
section
variable{k:Kx}{G:Hp}
theorem vZ:∀y:List Key,br k G (y.map kV) (y.map Jw)
 |[]=>.nil
 |y::ys=>.cons (Kw y) (vZ ys)
theorem fH.rH:∀{vs:List (List Key×Addr×V)}{as:List (List Key×A)},fH k G vs as->br k G (vs.map λx=>V.ref x.2.1) (as.map cO)
 |_,_,.nil=>.nil
 |_,_,.cons (y:=y) e h r=>.cons (.tup e (vZ y)) r.rH
end
def fo(j:Nat)(G:Mg)(b:Ms):Ms:=λZ=>match aj j Z with
 |some (.ok (.fr (.dit kvs)),U)=>match forL G b (kvs.map cO) U with
  |some (.ex _,_)=>none
  |r=>r
 |_=>none
theorem dz.tE{c:Cn}{Y:St}{H:Hp}{Z:List Sl}{τ:St}{θ:List Sl}{L:List Addr}(b:dz c Y H Z τ θ L):∀{us:List V}{as:List A},br c.toKx (c.g H L) us as->dz c Y H Z (us.map some++τ) (as.map Sl.fr++θ) L
 |_,_,.nil=>b
 |_,_,.cons h r=>
  have b2:=dz.tE b r
  ⟨b2.nd,aA.cons (.fr h) b2.rel,b2.own,b2.fr,b2.kp,by simpa using b2.lt,b2.hd⟩
def tM(P:Program)(w:zam)(p:Addr)(xs:List (List Key×Addr×V)):Heap->Prop:=match dX P w p xs with
 | .dU φ=>φ
 |_=>λ_=>False
variable{py:Pos}{G:Mg}
theorem Gs{y x:Str}{body:List Stmt}{mb:Ms}(hN:X.N[j]?=some y)(hv:pD X.env.scope y)(hd:gA y)(hcd:sX y)(hp:zbi (zak X.prog X.w) X.A X.env X.xe)(hc:X.calm=true)(hg:JG X 0 (.Name x px) G)(hb:om X E body mb)
  (hs:∀z,zax (.Name y py) X.env z=pure z:=by intro _;rfl):JS X E (.For (.Name x px) (.Name y py) body [] pos) (fo j G mb):=
 ⟨PS.weaken (PS.or (Dx (u7 hp hc (rL (cG hN hv hd hcd)) hg.p hb.p hs)) (u7 hp hc (oo (cG hN hv hd hcd)) hg.p hb.p hs)) λD Y H h=>by
  obtain⟨c,Z,τ,θ,f,O,ek,b,em,q⟩:=h
  delta fo at em
  split at em
  .rename_i kvs U ev;have em2:forL G mb (kvs.map cO) U=some (f,O)/\∀x,f≠.ex x:=by
    split at em
    .cases em
    .rename_i r hr;refine⟨em,λx z=>?_⟩;subst z;exact hr x O em
   obtain⟨ef,nex⟩:=em2;obtain⟨b1,es⟩:=Bd.Pk b ev;obtain⟨v,hσ,b2⟩:=es.elim b1.load b1.xK;obtain⟨L,bl,ra⟩:=Bd.um b2;cases ra with
   |dit e r=>
    rename_i d vs;have eP:=zcy Kx.P ek;have ew:=zcy Kx.w ek;rw[eP,ew] at e;obtain⟨o,ho,hdk⟩:=Dv e;have hnot:d∉L/\d∉c.Hd:=by
     constructor
     .intro z;rw[ip (.inl z)] at ho;cases ho
     .intro z;rw[ip (.inr z)] at ho;cases ho
    rw[bJ hnot.1 hnot.2] at ho;have hrd:=cW ho hdk;have len:=r.len;have it:∀(c':Cn)(ob:Obj),(∀Y H Z τ θ,Bd c' Y H Z τ θ->H d=some (.frz ob (dX X.prog X.w d vs)))->∀(Y:St)(H:Hp)(Z:List Sl)(i:Nat),Bd c' Y H Z ((vs.map λx=>V.ref x.2.1).map some++τ) ((kvs.map cO).map Sl.fr++θ.map Sl.fr)->
      ((kvs.map cO).length<=i->(qR X.prog X.w d ob vs).stop i H)/\∀a,(kvs.map cO)[i]?=some a->(qR X.prog X.w d ob vs).go i H/\∀x H',(qR X.prog X.w d ob vs).yld i H x H'->Bd c' Y H' Z (some x::((vs.map λx=>V.ref x.2.1).map some++τ)) (.fr a::((kvs.map cO).map Sl.fr++θ.map Sl.fr)):=by
     intro c' ob hpk Y H Z i bi;have hpin:=hpk _ _ _ _ _ bi;refine⟨λhi=>⟨hpin,by rw[SE] at hi;lia⟩,λa ha=>⟨⟨hpin,?_⟩,λx H' ⟨eH,p,hp,ex⟩=>?_⟩⟩
     .have:=(SF.mp ha).1;rw[SE] at this;lia
     .subst eH ex;obtain⟨L',bl'⟩:=bi;have rel:=bl'.rel;rw[SW,SW] at rel;obtain⟨L1,L2,e1,r1,r2⟩:=aA.split (by simp[len]) rel;obtain⟨z,ra⟩:=aA.vQ r1;obtain⟨a',ha',hra⟩:=ra.at (by rw[SQ,hp];rfl);rw[ha] at ha';cases ha';exact bl'.push hra
    rcases hrd with hd|⟨ob,hd⟩
    .left;refine⟨d,tM X.prog X.w d vs,hd,_,hσ,d,vs,rfl,hd,λob=>?_⟩;have nw:∀w,(d,w)∉c.Wk:=λw hw=>by obtain⟨h1,⟨ob',vs',h2⟩,_⟩:=bl.fr.pk _ hw;rw[hd,h2] at h1;cases h1
     have hH:∀o,c.H0 d=some o->d∉c.Lp->o=dX X.prog X.w d vs:=λo e np=>by obtain⟨u,h1,h2⟩:=bl.fr.st d o e;rw[hd] at h1;cases h1;exact(h2 np nw).symm
     have b3:=Bd.HS (Dc.dU (tM X.prog X.w d vs)) (ob:=ob) (bl.tE r.rH) hd hnot.1 hnot.2;have q2:yH (kx X) E { c with Wk:=(d,.frz ob (dX X.prog X.w d vs))::c.Wk } O τ θ (HP D d (tM X.prog X.w d vs)) f:=by
      cases f with
      |nx=>exact λY' H' b'=>let ⟨h1,h2⟩:=Bd.nI (Dc.dU (tM X.prog X.w d vs)) b' nw hH;⟨⟨ob,h1⟩,q Y' _ h2⟩
      |bk=>exact λY' H' b'=>let ⟨h1,h2⟩:=Bd.nI (Dc.dU (tM X.prog X.w d vs)) b' nw hH;⟨⟨ob,h1⟩,q Y' _ h2⟩
      |ct=>exact λY' H' b'=>let ⟨h1,h2⟩:=Bd.nI (Dc.dU (tM X.prog X.w d vs)) b' nw hH;⟨⟨ob,h1⟩,q Y' _ h2⟩
      |rt s=>exact λv Y' H' hs b'=>let ⟨h1,h2⟩:=Bd.nI (Dc.dU (tM X.prog X.w d vs)) b' nw hH;⟨⟨ob,h1⟩,q v Y' _ hs h2⟩
      |ex x=>exact absurd rfl (nex x)
     exact rV (c:={ c with Wk:=(d,.frz ob (dX X.prog X.w d vs))::c.Wk }) ek (by simp[len]) (it _ ob λY H Z τ θ ⟨L,b⟩=>(b.fr.pk _ SH).1) q2 b3 ef
    .right;refine⟨_,hσ,d,vs,ob,rfl,hd,?_⟩;have hH:∀o,c.H0 d=some o->d∉c.Lp->(∀w,(d,w)∉c.Wk)->o=.frz ob (dX X.prog X.w d vs):=λo e np nw=>by obtain⟨u,h1,h2⟩:=bl.fr.st d o e;rw[hd] at h1;cases h1;exact(h2 np nw).symm
     have b3:=Bd.Pq (Dc.dU (tM X.prog X.w d vs)) (bl.tE r.rH) hd hnot.2;have q2:yH (kx X) E { c with Wk:=(d,.frz ob (dX X.prog X.w d vs))::c.Wk } O τ θ D f:=by
      cases f with
      |nx=>exact λY' H' b'=>q Y' _ (Bd.lO (Dc.dU (tM X.prog X.w d vs)) b' hH)
      |bk=>exact λY' H' b'=>q Y' _ (Bd.lO (Dc.dU (tM X.prog X.w d vs)) b' hH)
      |ct=>exact λY' H' b'=>q Y' _ (Bd.lO (Dc.dU (tM X.prog X.w d vs)) b' hH)
      |rt s=>exact λv Y' H' hs b'=>q v Y' _ hs (Bd.lO (Dc.dU (tM X.prog X.w d vs)) b' hH)
      |ex x=>exact absurd rfl (nex x)
     exact rV (c:={ c with Wk:=(d,.frz ob (dX X.prog X.w d vs))::c.Wk }) ek (by simp[len]) (it _ ob λY H Z τ θ ⟨L,b⟩=>(b.fr.pk _ SH).1) q2 b3 ef
  .cases em⟩
theorem Bd.OB{Y:St}{τ xs:St}{ss:List Sl}{us:List V}{as:List A}{u:V}{a:A}(e:xs.length=ss.length)(l:us.length=as.length)(b:Bd c Y H Z (xs++(us.map some++τ)) (ss++(as.map Sl.fr++θ)))(f:us[i]?=some u)(d:as[i]?=some a):
  Bd c Y H Z (some u::(xs++(us.map some++τ))) (.fr a::(ss++(as.map Sl.fr++θ))):=by
 obtain⟨L,b⟩:=b;have r:aA c.toKx (c.g H L) H (xs++(us.map some++(τ++Y))) (ss++(as.map Sl.fr++(θ++Z))) L:=by have:=b.rel;simpa[SW] using this
 obtain⟨I,L2,D,h,k⟩:=aA.split e r;obtain⟨v,s,F,w,G⟩:=aA.split (by simp[l]) k;obtain⟨z,Q⟩:=aA.vQ w;obtain⟨a',O,x⟩:=Q.at f;rw[d] at O;cases O;exact b.push x
section
variable{X:Cx}{E:XK}
theorem yk{l:Expr}{x:Str}(hl:PE X l te):L2.PI X (.Name x px) l (λY H R=>uS X te Y H R\/qq X te Y H R):=λpins s Y H R I h=>h.elim (rL hl pins s Y H R I) (oo hl pins s Y H R I)
theorem BF{t:TE}(h:PE X e t):PE X e (λY H Q=>∃d φ,H d=some (.dU φ)/\t Y H λv H'=>(∃ob,H' d=some (.frz ob (.dU φ)))/\Q v (upd H' d (.dU φ))):=by intro pins s Y H Q I G;obtain⟨d,vs,e,G⟩:=G;have B:=(qU I e).1;refine bG (h pins s Y H _ I G) λu s' q=>?_;obtain⟨v,H',w,r,⟨ob,k⟩,q⟩:=q;exact⟨v,_,tq w k B,r,q⟩
def gU(n j:Nat)(G:Mg)(t:Mi Bool)(e:Mi Rr):Mi Rr:=λZ=>match aj j Z with
 |some (.ok (.fr (.dit kvs)),U)=>if (kvs.map cO).length<=100000 then match cD G t e (kvs.map cO) [] (U++Th n .un) with
  |some (ys,O)=>some (.ok (.nw (.lst ys)),O.take U.length)
  |none=>none else none
 |_=>none
theorem Ag{N:List Str}{k:Nat}{sc:Scope}{y x:Str}{m:Expr}{ifs:List Expr}{mt:Mi Bool}{f:Mi Rr}{lo:Nat}(hN:X.N[j]?=some y)(t:pD X.env.scope y)(l:gA y)(hcd:sX y)(hc:X.calm=true)(S:fB X.N N k sc X.env.scope)(A:X.N.length=lo)
  (hg:∀cl C s H fp,JG (g9 X N sc cl C s H fp) lo (.Name x px) G)(ht:∀cl C s H fp,JF (g9 X N sc cl C s H fp) rq ifs mt)(he:∀cl C s H fp,JE (g9 X N sc cl C s H fp) rq m f)(hs:∀z,zax (.Name y py) X.env z=pure z):
  JE X E (.ListComp m [⟨.Name x px,.Name y py,ifs,0⟩] sc pos) (gU k j G mt f):=
 ⟨λpins s Y H Q I h=>by
  have pc:PE X (.ListComp m [⟨.Name x px,.Name y py,ifs,0⟩] sc pos) (xt k (λY H R=>uS X (EB j) Y H R\/qq X (EB j) Y H R) (MI (kx X) lo G) (zI (kx X) rq mt) (lA (kx X) rq f)):=vY hc S (yk (cG hN t l hcd)) (λcl C s H fp=>(hg cl C s H fp).p) (λcl C s H fp=>(ht cl C s H fp).p) (λcl C s H fp=>(he cl C s H fp).p) hs;obtain⟨c,Z,τ,θ,o,O,T,b,em,q⟩:=h
  delta gU at em
  revert em;split
  .rename_i kvs U ev;split
   .rename_i J;split
    .rename_i ys Z' ec;intro em;cases em;obtain⟨b1,es⟩:=Bd.Pk b ev;obtain⟨v,B,b2⟩:=es.elim b1.load b1.xK;obtain⟨L,bl,ra⟩:=Bd.um b2;cases ra with
     |dit e r=>
      rename_i d vs;have eP:=zcy Kx.P T;have ew:=zcy Kx.w T;rw[eP,ew] at e;obtain⟨o,ho,hdk⟩:=Dv e;have K:d∉L/\d∉c.Hd:=by
       constructor
       .intro z;rw[ip (.inl z)] at ho;cases ho
       .intro z;rw[ip (.inr z)] at ho;cases ho
      rw[bJ K.1 K.2] at ho;have hrd:=cW ho hdk;have len:=r.len;have it:∀(g:Cn)(ob:Obj),(∀Y H Z τ θ,Bd g Y H Z τ θ->H d=some (.frz ob (dX X.prog X.w d vs)))->∀(Y:St)(H:Hp)(Z:List Sl)(F:St)(D:List Sl)(i:Nat),F.length=D.length->Bd g Y H Z (F++((vs.map λ(x:List Key×Addr×V)=>V.ref x.2.1).map some++τ)) (D++((kvs.map cO).map Sl.fr++θ))->
        ((kvs.map cO).length<=i->(qR X.prog X.w d ob vs).stop i H)/\∀a,(kvs.map cO)[i]?=some a->(qR X.prog X.w d ob vs).go i H/\∀x H',(qR X.prog X.w d ob vs).yld i H x H'->Bd g Y H' Z (some x::(F++((vs.map λ(x:List Key×Addr×V)=>V.ref x.2.1).map some++τ))) (.fr a::(D++((kvs.map cO).map Sl.fr++θ))):=by
       intro g ob hpk Y H Z F D i lx bi;have n:=hpk _ _ _ _ _ bi;refine⟨λhi=>⟨n,by rw[SE] at hi;lia⟩,λa ha=>⟨⟨n,?_⟩,λx H' ⟨eH,p,hp,ex⟩=>?_⟩⟩
       .have:=(SF.mp ha).1;rw[SE] at this;lia
       .subst eH ex;exact Bd.OB lx (by simp[len]) bi (by rw[SQ,hp];rfl) ha
      rcases hrd with hd|⟨ob,hd⟩
      .have nw:∀w,(d,w)∉c.Wk:=λw hw=>by obtain⟨h1,⟨ob',vs',h2⟩,_⟩:=bl.fr.pk _ hw;rw[hd,h2] at h1;cases h1
       have hH:∀o,c.H0 d=some o->d∉c.Lp->o=dX X.prog X.w d vs:=λo e np=>by obtain⟨u,h1,h2⟩:=bl.fr.st d o e;rw[hd] at h1;cases h1;exact(h2 np nw).symm
       refine BF pc pins s Y H Q I ⟨d,tM X.prog X.w d vs,hd,.inl ⟨_,B,d,vs,rfl,hd,λob=>?_⟩⟩;exact jQ (E:=E) (c:={ c with Wk:=(d,.frz ob (dX X.prog X.w d vs))::c.Wk }) (I.len.trans A) T (by simp[len]) (it _ ob λY H Z τ θ ⟨L,b⟩=>(b.fr.pk _ SH).1) (Bd.HS (Dc.dU (tM X.prog X.w d vs)) (bl.tE r.rH) hd K.1 K.2) J ec
        (λv H' t b'=>let ⟨h1,h2⟩:=Bd.nI (Dc.dU (tM X.prog X.w d vs)) b' nw hH;⟨⟨ob,h1⟩,q v _ t h2⟩)
      .have hH:∀o,c.H0 d=some o->d∉c.Lp->(∀w,(d,w)∉c.Wk)->o=.frz ob (dX X.prog X.w d vs):=λo e np nw=>by obtain⟨u,h1,h2⟩:=bl.fr.st d o e;rw[hd] at h1;cases h1;exact(h2 np nw).symm
       refine pc pins s Y H Q I (.inr ⟨_,B,d,vs,ob,rfl,hd,?_⟩);exact jQ (E:=E) (c:={ c with Wk:=(d,.frz ob (dX X.prog X.w d vs))::c.Wk }) (I.len.trans A) T (by simp[len]) (it _ ob λY H Z τ θ ⟨L,b⟩=>(b.fr.pk _ SH).1) (Bd.Pq (Dc.dU (tM X.prog X.w d vs)) (bl.tE r.rH) hd K.2) J ec
        (λv H' t b'=>q v _ t (Bd.lO (Dc.dU (tM X.prog X.w d vs)) b' hH))
    .intro em;cases em
   .intro em;cases em
  .intro em;cases em⟩
end
variable{kb ka:List (List Key×Addr×Value)}{r:Bool}
section
open PySem.Calls PyProof.Rows PyProof.V PySem.Spec PySem.W
variable{prog:Program}{w:zam}{A:zan}{E:Value->Shared->Prop}{s:Shared}
inductive kK(A:zan)(s:Shared)(kb:List (List Key×Addr×Value)):List (List Key×Addr×Value)->Bool->Prop
 |nil:kK A s kb [] true
 |miss{k:List Key}{b:Addr}{v:Value}{r:List (List Key×Addr×Value)}:zaU kb k=none->kK A s kb ((k,b,v)::r) false
 |hit{k:List Key}{b:Addr}{v:Value}{p:Addr×Value}{r:List (List Key×Addr×Value)}{e c:Bool}:zaU kb k=some p->UW A s v p.2 e->kK A s kb r c->kK A s kb ((k,b,v)::r) (e&&c)
theorem kK.inv{k:List Key}{b:Addr}{v:Value}{r:List (List Key×Addr×Value)}{c:Bool}(h:kK A s kb ((k,b,v)::r) c):
  (zaU kb k=none/\c=false)\/∃p e j,zaU kb k=some p/\UW A s v p.2 e/\kK A s kb r j/\c=(e&&j):=by
 cases h with
 |miss hn=>exact .inl ⟨hn,rfl⟩
 |hit hy he m=>exact .inr ⟨_,_,_,hy,he,m,rfl⟩
theorem uQ{k:List Key}{p:Addr×Value}(nd:(kb.map (·.1)).Nodup)(h:kb[j]?=some (k,p)):zaU kb k=some p:=by
 delta zaU
 induction kb generalizing j with
 |nil=>simp at h
 |cons x kb m=>
  rw[S4,Tz] at nd;cases j with
  |zero=>
   have:x=(k,p):=by simpa using h
   simp[Tf,this]
  |succ j=>have nx:¬ x.1=k:=λz=>nd.1 (by rw[z];exact Tj.mpr ⟨(k,p),SS h,rfl⟩);rw[Tf];simp only[nx,decide_false];exact m nd.2 h
theorem vq{k:List Key}(h:∀(j:Nat)(p:Addr×Value),kb[j]?≠some (k,p)):zaU kb k=none:=by
 delta zaU
 rw[List.find?_eq_none.mpr]
 .rfl
 .intro x hx z
  obtain⟨j,U⟩:=Vu.mp hx
  exact h j x.2 (by rw[U,<-zcA z])
theorem oY{nm:String}{a b:Addr}(d:(a==zap)=false)(hb:(b==zap)=false)(l:(zaq (aC prog w)).room A)
  (D:s.heap.DictOfH (zaq (aC prog w)) a ka)(db:s.heap.DictOfH (zaq (aC prog w)) b kb)(V:ka.length=kb.length->kK A s kb ka r)(h:Q (ka.length==kb.length&&r) s):
  zaj (zak prog w) A (WI nm a b) Q E s:=by
 obtain⟨oa,es,ep,S,_,c,K,B,_⟩:=D;obtain⟨ob,es',ep',o,_,y,H,N,G⟩:=db;have X:ka.length=es.size:=(zaW K).symm;have L:kb.length=es'.size:=(zaW H).symm;rw[X,L] at h;unfold WI VS;rw[zcv (show ¬ (a==zap)=true by rw[d];exact To),zcv (show ¬ (b==zap)=true by rw[hb];exact To)];refine zaf (zag (zaf (zag ?_)));refine zaf (zay S c ?_);dsimp only;refine zaf (zay o y ?_);by_cases hsz:es.size=es'.size
 case neg=>
  rw[zcu (by simpa using hsz)];have U:(es.size==es'.size)=false:=by simpa using hsz
  rw[U,VH] at h;exact zaf (zcn (zag h))
 case pos=>
  have h':Q r s:=by simpa[hsz] using h
  have P:=V (by rw[X,L];exact hsz);rw[zcv (by rw[hsz];simp)];refine zaf (zaV S c ?_);refine zaf ?_;rw[Za];simp only[Zb,ZA,Nat.add_sub_cancel,Nat.div_one];refine zbw _
   (λrest q s'=>s'=s/\q=(none,())/\∃i,rest=ZC i (es.size-i)/\i<=es.size/\kK A s kb (ka.drop i) r)
   _ ?_ ?_ _ _ ⟨rfl,rfl,0,by simp,Tu _,P⟩
  .rintro x rest q s' ⟨rfl,rfl,i,m,hi,Y⟩;have C:i<es.size:=by
    rcases ZD i es.size with h|h
    .exact h
    .rw[Nat.sub_eq_zero_of_le h] at m;simp at m
   obtain⟨rfl,Z⟩:x=i/\rest=ZC (i+1) (es.size-(i+1)):=by
    have e:es.size-i=(es.size-(i+1))+1:=by lia
    rw[e,YS] at m;injection m with h1 h2;exact⟨h1,h2⟩
   refine zaf (zay S c ?_);have z:x<ka.length:=by rw[X];exact C
   obtain⟨k,O,v,u⟩:∃k O v,ka[x]=(k,O,v):=⟨_,_,_,rfl⟩
   have F:ka.drop x=(k,O,v)::ka.drop (x+1):=by rw[<-u];exact TJ z
   have J:(zaq (aC prog w)).is s'.heap k O:=by have:=B ka[x] (TR z);rw[u] at this;exact this
   have T:es[x]?=some (zbk (zaq (aC prog w)) (k,O,v)):=by rw[zct K,SG z,u];rfl
   rw[T];rw[F] at Y;show zaj _ _ (holding [Tv O,v] _ >>= _) _ _ _;refine zaf (zau (zaf (wpAny_dictFind_heap l J o y H N G (λI=>?_) (λj p f=>?_))))
   .rcases Y.inv with ⟨_,R⟩|⟨p,_,_,hy,_⟩
    .rw[R] at h';refine zag ?_;show zaj _ _ (if (!false)=true then _ else _) _ _ _;rw[zcu W1];exact zag (zag h')
    .rw[vq I] at hy;exact nomatch hy
   .have hp:=uQ G f;have t:es'[j]?=some (zbk (zaq (aC prog w)) (k,p)):=by rw[zct H,f];rfl
    refine zaf (zay o y ?_);rw[t];rcases Y.inv with ⟨hn,_⟩|⟨p',e,b',hy,he,n,R⟩
    .rw[hp] at hn;exact nomatch hn
    .rw[hp] at hy;cases hy;refine zau (he prog w _ _ ?_);cases e with
     |false=>rw[R,VH] at h';show zaj _ _ (if (!false)=true then _ else _) _ _ _;rw[zcu W1];exact zag (zag h')
     |true=>rw[Xs] at R;rw[<-R] at n;show zaj _ _ (if (!true)=true then _ else _) _ _ _;rw[zcv W1];refine zaf (zaV S c ?_);rw[zcv T1];exact zag ⟨rfl,rfl,x+1,Z,C,n⟩
  .rintro q s' ⟨rfl,rfl,i,m,hi,Y⟩;have g:i=es.size:=by
    rcases ZD i es.size with h|h
    .have e:es.size-i=(es.size-(i+1))+1:=by lia
     rw[e,YS] at m;exact nomatch m
    .exact W0 hi h
   refine zag ?_;rw[g,<-X,Vc] at Y;cases Y;exact h'
end
section
open PySem.Spec PyProof.Rows PySem.W PySem.Calls
variable{prog:Program}{w:zam}{A:zan}{E:Value->Shared->Prop}{s:Shared}
theorem EO{a b:Addr}{Q:Value->Shared->Prop}(d:(a==zap)=false)(hb:(b==zap)=false)(m:(zaq (aC prog w)).room A.in1)
  (Z:s.heap.DictOfH (zaq (aC prog w)) a ka)(O:s.heap.DictOfH (zaq (aC prog w)) b kb)(f:A.units<cLine)(V:ka.length=kb.length->kK A.in1 s kb ka r)(h:Q (.bool (ka.length==kb.length&&r)) s):
  zaj (zak prog w) A (zaz .Eq (.ref a) (.ref b)) Q E s:=by
 refine zaZ (op:=.Eq) Z.typeIs O.typeIs XF (zar XF Z.typeIs PySem.F.entry_dict_eq ?_ (PySem.F.args_dict_eq_2 _ _)) f;refine zaf ?_;refine zag ?_;refine zaf (zaR O.typeIs Xw ?_);refine zaf (zag (zaf (zag ?_)));refine zaf (oY d hb m Z O V ?_);refine zag ⟨_,rfl,?_,?_⟩
 .exact λx=>nomatch x
 .simpa using h
theorem Fv{a b:Addr}{Q:Value->Shared->Prop}(d:(a==zap)=false)(hb:(b==zap)=false)(m:(zaq (aC prog w)).room A.in1)
  (Z:s.heap.DictOfH (zaq (aC prog w)) a ka)(O:s.heap.DictOfH (zaq (aC prog w)) b kb)(f:A.units<cLine)(V:ka.length=kb.length->kK A.in1 s kb ka r)(h:Q (.bool (!(ka.length==kb.length&&r))) s):
  zaj (zak prog w) A (zaz .NotEq (.ref a) (.ref b)) Q E s:=by
 refine zaZ (op:=.NotEq) Z.typeIs O.typeIs XG (zar XG Z.typeIs PySem.F.entry_dict_ne ?_ (PySem.F.args_dict_ne_2 _ _)) f;refine zaf ?_;refine zag ?_;refine zaf (zaR O.typeIs Xw ?_);refine zaf (zag (zaf (zag ?_)));refine zaf (oY d hb m Z O V ?_);refine zag ⟨_,rfl,?_,?_⟩
 .exact λx=>nomatch x
 .simpa using h
end
inductive qV(P:Program)(w:zam)(K:SD)(H:Hp)(a:Addr):List (List Key×Addr×V)->Prop
 |of{xs:List (List Key×Addr×V)}(e:Rd H a (dX P w a xs))(k:∀x∈xs,eU K H x.2.1 (x.1.map kV)):qV P w K H a xs
 |nil(e:Rd H a (.dK [])):qV P w K H a []
section
variable{X:Cx}{E:XK}
theorem qV.dict{Y:St}{a:Addr}(I:Inv X pins Y H s)(h:qV X.prog X.w X.K H a xs):
  xs.length<=sizeLine/\(a==zap)=false/\∃ys,rB xs ys/\s.heap.DictOfH (zaq (aC X.prog X.w)) a ys:=by
 cases h with
 |of e k=>exact HR I e k
 |nil e=>obtain⟨z,lo,vs,t,T⟩:=L2.cW I.hok e;cases t;obtain⟨o,es,ep,ho,hc,x,hk,hp,hn⟩:=T;have F:es.toList=[]:=Vy (by have:=hp.length;simpa using this);exact⟨Tu _,lo,[],.nil,o,es,ep,ho,hc,x,by rw[F];rfl,(λ_ h=>absurd h Uk),U7⟩
inductive kq(K:SD)(H:Hp)(kb:List (List Key×Addr×V)):List (List Key×Addr×V)->Bool->Prop
 |nil:kq K H kb [] true
 |miss{k:List Key}{b:Addr}{v:V}{r:List (List Key×Addr×V)}(h:uW kb k=none):kq K H kb ((k,b,v)::r) false
 |hit{k:List Key}{b:Addr}{v y:V}{r:List (List Key×Addr×V)}{d e:D}{c:Bool}(h:uW kb k=some y)(hd:Den K H v d)(he:Den K H y e)(dp:D.depth d<=40)(t:kq K H kb r c):kq K H kb ((k,b,v)::r) (D.eq d e&&c)
def i8(kb:List (List Key×A)):List (List Key×A)->Option Bool
 |[]=>some true
 |(k,a)::r=>match nX kb k with
  |none=>some false
  |some b=>match jL a b,i8 kb r with
   |some e,some t=>some (e&&t)
   |_,_=>none
theorem l5{K:Kx}{H:Hp}{F:List (List Key×Addr×V)}{kb:List (List Key×A)}(b:fH K H F kb):∀{E:List (List Key×Addr×V)}{ka:List (List Key×A)}{r:Bool},fH K H E ka->i8 kb ka=some r->kq K.K H F E r
 |_,_,_,.nil,h=>by cases h;exact .nil
 |_,_,_,.cons (y:=y) (a:=a) (as:=as) _ h0 r0,h=>by
  unfold i8 at h;rcases b.get y with ⟨v,a',q,g,L⟩|⟨q,g⟩
  .rw[g] at h;cases D:jL a a' with
   |none=>simp only[D] at h;cases h
   |some e=>
    cases l:i8 kb as with
    |none=>simp only[D,l] at h;cases h
    |some t=>simp only[D,l] at h;cases h;obtain⟨d,f,q1,q2,x,rfl⟩:=gN D;exact .hit q (dY h0 q1) (dY L q2) x (l5 b r0 l)
  .rw[g] at h;cases h;exact .miss q
theorem rB.Sm(r:rB xs ys)(y:List Key)(h:uW xs y=none):zaU ys y=none:=by
 induction r with
 |nil=>rfl
 |@cons p q ps I e t m=>
  by_cases w:p.1=y
  .exfalso;simp[uW,Tf,w] at h
  .have Y:¬ q.1=y:=λz=>w (e.1.trans z);have h':uW ps y=none:=by delta uW at h ⊢;simpa[Tf,w] using h
   have:=m h';unfold zaU at this ⊢;simpa[Tf,Y] using this
theorem xQ{Y:St}{A:zan}(I:Inv X pins Y H s)(f:A.units+40<cLine){kb:List (List Key×Addr×V)}{F:List (List Key×Addr×Value)}(x:rB kb F){ka:List (List Key×Addr×V)}(h:kq X.K H kb ka r):
  ∀{E:List (List Key×Addr×Value)},rB ka E->kK A s F E r:=by
 induction h with
 |nil=>intro E q;cases q;exact .nil
 |@miss k b v r h=>
  intro E q;cases q with
  |@cons _ p _ ps B C=>obtain⟨k',S,z⟩:=p;obtain⟨e,_,U⟩:=B;subst e;exact .miss (x.Sm k h)
 |@hit k b v y r d e c h hd he dp t m=>
  intro E q;cases q with
  |@cons _ p _ ps B C=>obtain⟨k',S,z⟩:=p;obtain⟨e,_,U⟩:=B;subst e;obtain⟨w,G,a⟩:=x.at k h;exact .hit G (dR I 40 f dp hd he U a) (m C)
noncomputable def NJ(K:Kx):R2:=λx y H Q=>∃a b ka kb r,x=.ref a/\y=.ref b/\qV K.P K.w K.K H a ka/\qV K.P K.w K.K H b kb/\kq K.K H kb ka r/\Q (.bl (!(ka.length==kb.length&&r))) H
noncomputable def O3(K:Kx):R2:=λx y H Q=>∃a b ka kb r,x=.ref a/\y=.ref b/\qV K.P K.w K.K H a ka/\qV K.P K.w K.K H b kb/\kq K.K H kb ka r/\Q (.bl (ka.length==kb.length&&r)) H
theorem AE(f:X.A.units+64<cLine):eG X (zaz .NotEq) (NJ (kx X)):=by intro pins s Y H x y v u Q I o K h;obtain⟨a,b,ka,kb,r,rfl,rfl,Z,O,c,q⟩:=h;cases o;cases K;obtain⟨e,w,E,g,V⟩:=qV.dict I Z;obtain⟨U,t,F,k,T⟩:=qV.dict I O;refine Fv w t (zaH XV) V T XV (λ_=>xQ I (by show X.A.in1.units+40<cLine;rw[show X.A.in1.units=X.A.units+1 from rfl];lia) k c g) ?_;rw[<-Um g,<-Um k];exact⟨.bl _,H,I,rfl,q⟩
theorem Ah(f:X.A.units+64<cLine):eG X (zaz .Eq) (O3 (kx X)):=by intro pins s Y H x y v u Q I o K h;obtain⟨a,b,ka,kb,r,rfl,rfl,Z,O,c,q⟩:=h;cases o;cases K;obtain⟨e,w,E,g,V⟩:=qV.dict I Z;obtain⟨U,t,F,k,T⟩:=qV.dict I O;refine EO w t (zaH XV) V T XV (λ_=>xQ I (by show X.A.in1.units+40<cLine;rw[show X.A.in1.units=X.A.units+1 from rfl];lia) k c g) ?_;rw[<-Um g,<-Um k];exact⟨.bl _,H,I,rfl,q⟩
noncomputable def sF:A->Option (List (List Key×A))
 | .dit kvs=>some kvs
 | .dic []=>some []
 |_=>none
theorem pW{a:A}{ka:List (List Key×A)}(r:RA K H v a)(h:sF a=some ka):∃p vs,v=.ref p/\qV K.P K.w K.K H p vs/\fH K H vs ka:=by
 cases a<;>first|exact cu h|skip
 .rename_i kvs;cases kvs with
  |cons _ _=>cases h
  |nil=>
   cases h;cases r with
   |dic e r=>cases r;exact⟨_,[],rfl,.nil e,.nil⟩
 .cases h;cases r with
  |dit e r=>exact⟨_,_,rfl,.of e λx hx=>r.sq x hx,r⟩
def rQ(a b:A):Option Bool:=match sF a,sF b with
 |some ka,some kb=>match i8 kb ka with
  |some r=>some (ka.length==kb.length&&r)
  |none=>none
 |_,_=>none
theorem o8{a b:A}{q:Bool}(h:rQ a b=some q):∃ka kb r,sF a=some ka/\sF b=some kb/\i8 kb ka=some r/\q=(ka.length==kb.length&&r):=by
 delta rQ at h
 cases D:sF a with
 |none=>rw[D] at h;cases h
 |some ka=>
  cases l:sF b with
  |none=>rw[D,l] at h;cases h
  |some kb=>
   rw[D,l] at h;dsimp only at h;cases N:i8 kb ka with
   |none=>rw[N] at h;cases h
   |some r=>rw[N] at h;cases h;exact⟨ka,kb,r,rfl,rfl,N,rfl⟩
def iu(a b:A):Option Rr:=match rQ a b with
 |some r=>some (.fr (.bl r))
 |none=>none
def jc(a b:A):Option Rr:=match rQ a b with
 |some r=>some (.fr (.bl (!r)))
 |none=>none
theorem xV:gh K (NJ K) jc:=.scalar λH v w a b q g O h=>by
 delta jc at h
 cases e:rQ a b with
 |none=>rw[e] at h;cases h
 |some z=>rw[e] at h;cases h;obtain⟨ka,kb,r,h1,h2,h3,rfl⟩:=o8 e;obtain⟨p,vs,rfl,V,Y⟩:=pW g h1;obtain⟨i,x,rfl,T,R⟩:=pW O h2;exact⟨_,_,rfl,λ_=>.bl _,λQ k=>⟨_,_,_,_,_,rfl,rfl,V,T,l5 R Y h3,by rw[Y.len,R.len];exact k⟩⟩
theorem xM:gh K (O3 K) iu:=.scalar λH v w a b q g O h=>by
 delta iu at h
 cases e:rQ a b with
 |none=>rw[e] at h;cases h
 |some z=>rw[e] at h;cases h;obtain⟨ka,kb,r,h1,h2,h3,rfl⟩:=o8 e;obtain⟨p,vs,rfl,V,Y⟩:=pW g h1;obtain⟨i,x,rfl,T,R⟩:=pW O h2;exact⟨_,_,rfl,λ_=>.bl _,λQ k=>⟨_,_,_,_,_,rfl,rfl,V,T,l5 R Y h3,by rw[Y.len,R.len];exact k⟩⟩
variable{a b:Expr}{ma mb:Mi Rr}{pos:Pos}
theorem Kh(f:X.A.units+64<cLine)(d:JE X E a ma)(hb:JE X E b mb):JE X E (.Compare a [.Eq] [b] pos) (ay (bP (bP fI jk) iu) ma mb):=fC (eG.or' (eG.or' (p4 f) (oq f)) (Ah f)) ((os_eq.or oV).or xM) d hb (cU _)
theorem Je(f:X.A.units+64<cLine)(d:JE X E a ma)(hb:JE X E b mb):JT X E (.Compare a [.Eq] [b] pos) (aq (ay (bP (bP fI jk) iu) ma mb)):=fw (eG.or' (eG.or' (p4 f) (oq f)) (Ah f)) ((os_eq.or oV).or xM) d hb (cU _)
end
section
open PySem.Spec PyProof.Rows PySem.W PySem.Calls
variable{prog:Program}{w:zam}
theorem vv(d:Addr)(hd:(d==zap)=false):
  MeetsIn prog w (Builtin.«dict.__len__» ⟨[.ref d],[]⟩) (λ_ R s=>∃kvs,s.heap.DictOfH (zaq (aC prog w)) d kvs/\R (.ok (.ret (.int kvs.length s.toks))) { s with toks:=s.toks+1 }):=
 .of_wp λA R s ⟨kvs,T,h⟩=>by obtain⟨o,es,ep,ho,hc,x,he,hk,hn⟩:=T;show zaj _ _ (dictSize d >>= _) _ _ s;refine zaf (zaf (zay ho x (zag ?_)));refine zaf (wpAny_pendingCount_other hd ?_);refine wpAny_ret_mkInt ?_;have:es.size=kvs.length:=zaW he;rw[XZ,this];exact h
theorem uD{A:zan}{E:Value->Shared->Prop}{d:Addr}{kvs:List (List Key×Addr×Value)}{Q:Value->Shared->Prop}(hd:(d==zap)=false)(T:s.heap.DictOfH (zaq (aC prog w)) d kvs)(b:(kvs.length:Int)<2^63)
  (h:Q (.int kvs.length (s.toks+1)) { s with toks:=s.toks+1+1 }):zaj (zak prog w) A (call (.builtin "len") [.ref d]) Q E s:=by
 refine UL kind_len plain_len entry_len (args_len1 _) ?_;refine zaf (m:=callSpecial? (.ref d) (Str.ofString "__len__")) (zaD T.typeIs Zr
  (zb7 Zr T.typeIs F.entry_dict_len (F.args_dict_len_1 _) (vv d hd) ⟨kvs,T,?_⟩))
 show zaj _ _ (if ((kvs.length:Nat):Int)≥2^63 then _ else _) _ _ _;rw[zcv XV];exact zaf (wpAny_mkInt (zag ⟨_,rfl,h⟩))
theorem qZ(d:Addr):
  MeetsIn prog w (Builtin.«dict.clear» ⟨[.ref d],[]⟩) (λ_ R s=>∃kvs,s.heap.DictOfH (zaq (aC prog w)) d kvs/\kvs.length<=sizeLine /\
   ∀h',(∃o es ep,h'.get? d=some o/\o.ExactDict/\o.data=.dict es ep/\es.toList=[])->U9 d s.heap h'->R (.ok (.ret .none)) { s with heap:=h' }):=
 .of_wp λA R s ⟨kvs,T,hsz,h⟩=>by
  obtain⟨o,es,ep,ho,hc,x,he,hk,hn⟩:=id T;have r:es.size<=sizeLine:=by rw[zaW he];exact hsz
  refine zaf ?_;refine zaf (zbK T.typeIs ?_);refine zag ?_;refine zaf (zay ho x ?_);refine zaf ?_;refine zaf (zbX ho (zag ?_));refine zaf (wpAny_updateDictKeys ho x ?_);have G:∃o es ep,(s.heap.update d (Obj.mapDictKeys λ_=>#[])).get? d=some o/\o.ExactDict/\o.data=.dict es ep/\es.toList=[]:=
   ⟨_,#[],ep+1,Ux _ ho (Obj.isFreed_of_dict (Yo x _)),hc.mapDictKeys _,Yo x _,rfl⟩
  split
  .exact zaf (wpAny_letGo (zag ⟨.none,rfl,h _ G (Uj ..)⟩))
  .exact zaf (zag (zag ⟨.none,rfl,h _ G (Uj ..)⟩))
end
variable{apos cpos:Pos}
section
variable{X:Cx}{E:XK}
theorem yj:bX X (.builtin "len") (λxs H Q=>∃a vs,xs=[.ref a]/\qV X.prog X.w X.K H a vs/\Q (.int vs.length) H):=by intro pins s Y H xs us Q I r h;obtain⟨a,vs,rfl,e,q⟩:=h;obtain⟨u,rfl,o⟩:=vals1 r;cases o;obtain⟨z,lo,ys,t,T⟩:=qV.dict I e;have hs:=zav;have hk:=Um t;exact uD lo T XV ⟨.int vs.length,H,I.tok _,⟨_,by rw[hk]⟩,q⟩
noncomputable def xZ:A->Option Rr
 | .dit kvs=>some (.fr (.int kvs.length))
 |_=>none
theorem F7 :nA K (fun v H Q=>∃ a vs,[v] = [V.ref a] ∧ qV K.P K.w K.K H a vs ∧ Q (.int vs.length) H) xZ:=.scalar fun H v a q r1 h=>by
 cases a <;> first | exact cu h | skip
 cases r1 with
 |dit e r=>cases h; exact ⟨_,_,rfl,fun _=>.int _,fun Q k=>⟨_,_,rfl,.of e fun x hx=>r.sq x hx,by rw [r.len]; exact k⟩⟩
theorem zw:bX X (.builtin "isinstance") (λxs H Q=>∃a vs c b,xs=[.ref a,c]/\qV X.prog X.w X.K H a vs/\rG c=true/\Uo X.K (.type "dict") (Ac c)=some b/\Q (.bl b) H):=by intro pins s Y H xs us Q I r h;obtain⟨a,vs,c,b,rfl,ty,hc,hk,q⟩:=h;obtain⟨u,y,rfl,S,A⟩:=vals2 r;rw[xk hc A];cases S;obtain⟨_,_,_,_,o,es,ep,h1,h2,_⟩:=qV.dict I ty;exact Ys X7 I.HY ⟨o,h1,h2.1⟩ hk (λz=>nomatch z) λtk=>⟨.bl b,H,I.tok tk,rfl,q⟩
noncomputable def l8(T:Ty):A->Option Rr
 | .dit _=>some (.fr (.bl (T=.dict)))
 |_=>none
theorem Aw(T:Ty):nA K (λv H Q=>∃a vs c b,[v,V.ty T.n]=[.ref a,c]/\qV K.P K.w K.K H a vs/\rG c=true/\Uo K.K (.type "dict") (Ac c)=some b/\Q (.bl b) H) (l8 T):=.scalar λH v a q g h=>by
 cases a<;>first|exact cu h|skip
 cases g with
 |dit e r=>cases h;exact⟨_,_,rfl,λ_=>.bl _,λQ k=>⟨_,_,_,_,rfl,.of e λx hx=>r.sq x hx,rfl,Di _ T,k⟩⟩
theorem B7{x y:Str}{p:Pos}{m:Mi Rr}(T:Ty)(hg:Gl X x)(hm:X.mg x=none)(hv:zal x=some (.builtin "isinstance"))(hg2:Gl X y)(hm2:X.mg y=none)(hv2:zal y=some (.type T.n))(ha:JE X E e m)(hn:x ≠ "__name__")
  (hdb:gA x)(hn2:y ≠ "__name__")(hdb2:gA y)(hs:zai [e,.Name y p2] X.env=(false,eval e X.env)::zai [.Name y p2] X.env:=by rfl)(hs2:zai [.Name y p2] X.env=(false,eval (.Name y p2) X.env)::zai [] X.env:=by rfl)(hp:(zaG pos (zai [.Name y p2] X.env)).any (·.1)=false:=by rfl):JE X E (.Call (.Name x p) [e,.Name y p2] [] pos) (dw (l8 T) m):=
 ⟨PE.weaken (gG zw hg hm hv (bE ha.p (bE (ya hg2 hm2 hv2 (v:=.ty T.n) rfl hn2 hdb2) cN hs2) hs) hn hdb hs hp) λY H Q h=>jx (Aw T) Y H Q h⟩
theorem zf{o:Expr}(ho:PE X o td)(i:zaI o "clear" X.env (eval o X.env)=eval o X.env)(j:(apos.endLine==cpos.line)=true):
  PE X (.Call (.Attribute o "clear" apos) [] [] cpos) (λY H Q=>td Y H λx f=>∃a xs,x=.ref a/\f a=some (dX X.prog X.w a xs)/\(∀x∈xs,eU X.K f x.2.1 (x.1.map kV))/\Q .non (upd f a (dX X.prog X.w a []))):=by
 intro pins s Y H Q I h;refine zbv i j (bG (ho pins s Y H _ I h) λv s1 ⟨x,f,r,g,a,xs,ex,e,hk,q1⟩=>?_);subst ex;obtain rfl:v=Tv a:=g;obtain⟨z,lo,ys,rel,R⟩:=HW r e hk;have P:=R;obtain⟨o',es,ep,h1,h2,_⟩:=P;refine⟨"dict", "dict.clear",PySem.F.plainAttrs_dict,Xa,PySem.F.type_dict_clear,R.typeIs,λb l=>?_,V3 rfl (X6 ?_)⟩
 .cases l;exact⟨o',h1,h2.2.1⟩
 refine zb7 Xa R.typeIs PySem.F.entry_dict_clear (PySem.F.args_dict_clear_1 _) (qZ a) ⟨ys,R,by rw[<-Um rel];exact z,λh' hn hs=>?_⟩;obtain⟨E,S,c,q,y,L,u⟩:=hn;exact⟨.non,_,kS (t':=s1.toks) r (by rw[e];exact V6) hs ⟨E,q⟩ (B3 (Tu _) lo (ys:=[]) .nil ⟨E,S,c,q,y,L,by rw[u];rfl,U7⟩),rfl,q1⟩
def ly(i:Nat):Mi Rr:=λZ=>if Bm Z i then some (.ok (.fr .non),setAt Z i (.dit [])) else none
theorem zk{x:Str}(hN:X.N[i]?=some x)(hv:pD X.env.scope x)(hd:gA x)(hcd:sX x)
  (hbase:zaI (.Name x px) "clear" X.env (eval (.Name x px) X.env)=eval (.Name x px) X.env:=by rfl)(hline:(apos.endLine==cpos.line)=true:=by rfl):
  JE X E (.Call (.Attribute (.Name x px) "clear" apos) [] [] cpos) (ly i):=
 ⟨PE.weaken (zf (cG hN hv hd hcd) hbase hline) λY H Q h=>by
  obtain⟨c,Z,τ,θ,o,O,ek,b,em,q⟩:=h
  delta ly at em
  split at em
  .rename_i hl;obtain⟨xs0,hl⟩:=oN hl;cases em;obtain⟨L,bl⟩:=b;obtain⟨p,_,h1,_⟩:=bl.live hl (.dit []) (.lst []);obtain⟨p',_,h1',h2,h3⟩:=bl.live hl (.dit []) (dX X.prog X.w p []);rw[h1] at h1';cases h1';have eP:=zcy Kx.P ek;have ew:=zcy Kx.w ek;have eK:c.K=X.K:=zcy Kx.K ek;cases h2 with
   |dit e r=>rename_i vs;rw[eP,ew] at e;refine⟨_,h1,p,vs,rfl,e,λx hx=>?_,q _ _ trivial (Bd.push (h3 λH' hh=>.dit (by rw[eP,ew];exact hh) .nil) λ_=>.non)⟩;rw[<-eK];exact dk (g_same _ _ _) (r.sq x hx)
  .cases em⟩
end
end M
set_option maxHeartbeats 4000000
namespace L2
open PySem PySem.Spec PyProof.Rows PySem.W
structure Mt(h:Heap)(e it l:Addr)(n:Nat):Prop where
 he:∃old,IsEnum h e it ((n:Nat):Int) old
 hi:h.IsListIter it l n
def RF(K:SD)(a:Addr):It:=
  ⟨λi H=>∃xs x,eI K H a xs/\xs[i]?=some x,
   λi H v H'=>∃t x,v=.ref t/\H t=none/\H'=upd H t (.tup [.int i,x])/\∀xs,eI K H a xs->xs[i]?=some x,
   λi H=>∃xs,eI K H a xs/\xs[i]?=none⟩
variable{es:List Expr}{tp:Pos}
theorem zj{P:Program}{w:zam}{K:SD}{kk:Nat}{e it a:Addr}(D:e≠it):
  Turn P w K (.Tuple es kk tp) (RF K a) [e,it] e (λn h=>Mt h e it a n) where
 mem:=by simp
 obj:=λn h Z c hc=>by
  obtain⟨⟨old,he⟩,⟨o,S,_,d1⟩⟩:=Z;simp only[SR,Uk,or_false] at hc;rcases hc with rfl|rfl
  .exact⟨_,he,λv q=>by cases q⟩
  .exact⟨_,S,λv q=>by rw[d1] at q;cases q⟩
 keep:=λn h h' Z k=>by obtain⟨⟨old,he⟩,⟨o,S,g⟩⟩:=Z;exact⟨⟨old,k _ T1 _ he⟩,⟨o,k _ T1 _ S,g⟩⟩
 item:=by
  intro X Q t A hc n pins s Y H E I hf Z J;subst Q t A;obtain⟨xs,x,j,hx⟩:=J;obtain⟨F,C,p,_⟩:=I.list j;obtain⟨u,hu,ru⟩:=C.get hx;obtain⟨⟨old,he⟩,hi⟩:=Z;refine wpAny_pyNext_enum_item he hi p.isList (by simpa using hu) D λh' z1 z2 z3 z4 keep=>?_;refine⟨_,rfl,wpAny_letOwnedTupleGo_enum z1 λh2 G V=>?_⟩;have R:∀c o,c∉[e,it]->s.heap.get? c=some o->h2.get? c=some o:=λc o hc q=>by simp only[SR,Uk,or_false,not_or] at hc;exact V.extBut c o hc.1 (keep c o hc.1 hc.2 q)
  have y:∀c o,s.heap.get? c=some o->c≠s.heap.objs.size:=λc o q=>S8 (SV q);have B:∀c o,H c=some o->c∉[e,it]:=λc o q hc=>by have:=(hf c hc).1;rw[q] at this;cases this
  have hn:=I.fresh;have L:=(y _ _ he).symm;have I2:Inv X pins Y (upd H s.heap.objs.size (.tup [.int n,x])) { s with heap:=h2,gens:=s.gens,drawn:=s.drawn,toks:=s.toks+1 }:=by
   refine I.step (λc hc=>?_) (λc o _ _ hc q _=>R c o hc q) (λc o _ _ hc q _=>⟨o.slots,R c o hc q⟩) (λc o _ q z=>by rw[az (y c o q)];exact z) (λc o hc q=>⟨o,R c o hc q⟩)
    (λc z q=>by rw[az (aG q hn)];exact q) (λc o z q=>by rw[az (aG q hn)];exact q) (λc z q=>⟨#[],by rw[az (aG q hn),q];simp⟩) (λm hm=>?_) (λc o q=>?_) I.bare
   .obtain⟨f0,O,f2,N,U,T⟩:=hf c hc;exact⟨N,O,U,T⟩
   .obtain⟨o,l,q2,ho,r⟩:=hm;exact⟨o,l,q2,R _ o (λhc=>(hf _ hc).2.1 rfl) ho,r⟩
   .by_cases hc:c=s.heap.objs.size
    .subst hc;rw[bg] at q;cases q;refine⟨(show 2<=sizeLine by decide),[.int n s.toks,u],.cons ⟨_,rfl⟩ (.cons ru .nil),?_⟩;exact⟨_,V.extBut _ _ L z3,rfl,_,rfl,rfl⟩
    .rw[az hc] at q;refine(I.hok c o q).gy (λd w hd z=>R d w ?_ z) (λd z=>by rw[az (aG z hn)];exact z) λd z r=>by rw[az (aG r hn)];exact r
     rcases hd with rfl|hd
     .exact B _ _ q
     .exact B _ _ hd
  have f:=λc o hc q=>V.extBut c o hc q;obtain⟨o1,S,g⟩:=z2;obtain⟨oi,ei,_⟩:=id hi;have en:((n+1:Nat):Int)=(n:Int)+1:=by push_cast;rfl
  refine⟨.ref s.heap.objs.size,_,I2,rfl,⟨s.heap.objs.size,x,rfl,hn,rfl,λxs' l=>?_⟩,⟨⟨_,by rw[en];exact G⟩,⟨o1,f _ _ (Uu D) S,g⟩⟩,λc hc=>?_⟩
  .rw[I.l7 l j];exact hx
  .rw[az]
   .exact(hf c hc).1
   .rintro rfl;simp only[SR,Uk,or_false] at hc;rcases hc with q|q
    .rw[<-q] at he;exact y _ _ he rfl
    .rw[<-q] at ei;exact y _ _ ei rfl
 done:=by
  intro X Q t A hc n pins s Y H E I hf Z J;subst Q t A;obtain⟨xs,j,i⟩:=J;obtain⟨F,C,p,_⟩:=I.list j;obtain⟨⟨old,he⟩,hi⟩:=Z;refine wpAny_pyNext_enum_end (I.ok.hd hc) he hi p.isList (by simpa using C.none_of i) λh' eb=>⟨rfl,?_⟩
  obtain⟨f0,O,f2,N,U,T⟩:=hf it T1;exact I.turned (λb o hb q=>eb b o hb q) f0 O N U T
 self:=λ_ _ _ _ _ Z q=>let ⟨_,he⟩:=Z.he;zca he q
def Ox(K:SD)(ta:TA):TI:=λY H R=>ta Y H λvs f=>∃a xs,vs=[.ref a]/\eI K f a xs/\R (RF K a) f
theorem Gy{X:Cx}{e1:Expr}{ta:TA}{p pos:Pos}{kk:Nat}(hg:Gl X "enumerate")(hm:X.mg "enumerate" = none)(ha:PA X [e1] ta)(hs:zai [e1] X.env=[(false,eval e1 X.env)]:=by rfl):
  PI X (.Tuple es kk tp) (.Call (.Name "enumerate" p) [e1] [] pos) (Ox X.K ta):=by
 intro pins s Y H R I h;refine Call_ (iS I hg hm qe (UT (bG (ha pos pins s Y H _ I h) λus s1 ⟨vs,H1,I1,r1,q1⟩=>?_) (by rw[hs];rfl) rfl));obtain⟨a,xs,rfl,qa,q⟩:=q1;obtain⟨u,rfl,r⟩:=r1.one;cases r;obtain⟨its,rv,pa,_⟩:=I1.list qa;refine call_enumerate_list pa.isList λh' z1 z2 z3 keep=>?_;have I2:=I1.kept (t':=s1.toks) keep;refine zca z1 ⟨_,[s1.heap.objs.size+1,s1.heap.objs.size],_,_,H1,rfl,I2,zj (Nat.succ_ne_self _),⟨⟨_,z1⟩,z2⟩,λc hc=>?_,q⟩;have hle:s1.heap.objs.size<=c:=by simp only[SR,Uk,or_false] at hc;rcases hc with rfl|rfl<;>first|exact Vw _ _|exact SO _
 exact I1.y0 hle (I1.hok.fresh hle)
end L2
namespace M
open PySem L2
section
variable{X:Cx}{E:XK}
noncomputable def pf:Nat->List A->List A
 |_,[]=>[]
 |i,a::as=>.tup [.int i,a]::pf (i+1) as
theorem jV:∀(as:List A)(i:Nat),(pf i as).length=as.length
 |[],_=>rfl
 |_::as,i=>by rw[pf,S5,S5,jV as]
theorem mT:∀(as:List A)(i j:Nat)(a:A),(pf i as)[j]?=some a->∃b,as[j]?=some b/\a=.tup [.int (i+j:Nat),b]
 |[],_,_,_,h=>by simp[pf] at h
 |b::as,i,0,a,h=>by cases h;exact⟨b,rfl,rfl⟩
 |b::as,i,j+1,a,h=>by obtain⟨c,h1,h2⟩:=mT as (i+1) j a h;exact⟨c,by rw[List.getElem?_cons_succ];exact h1,by rw[h2,show i+1+j=i+(j+1) by lia]⟩
def B5(h:Mi Rr):Mi (List A):=aT h λx=>λZ=>match eO [x] Z with
 |some ([.lst as],O)=>some (.ok (pf 0 as),O)
 |_=>none
theorem Fm{e1:Expr}{m:Mi Rr}{p pos:Pos}{es:List Expr}{kk:Nat}{tp:Pos}(hg:Gl X "enumerate")(hm:X.mg "enumerate" = none)(h1:JE X E e1 m)(hs:zai [e1] X.env=[(false,eval e1 X.env)]:=by rfl)(hs3:zai [e1] X.env=(false,eval e1 X.env)::zai [] X.env:=by rfl):
  JI X E (.Tuple es kk tp) (.Call (.Name "enumerate" p) [e1] [] pos) (B5 m):=⟨λpins s Y H R I h=>by
 refine Gy hg hm (bE h1.p cN hs3) hs pins s Y H R I ?_;obtain⟨c,Z,τ,θ,o,O,ek,b,em,q⟩:=h;refine bB ek b em (λx v U H1 hv b1 em1=>?_) (mD q);cases ef:eO [x] U with
 |none=>rw[ef] at em1;cases em1
 |some pr=>
  rw[ef] at em1;obtain⟨q1,N⟩:=pr;rcases q1 with _|⟨a1,_|_⟩
  .cases em1
  rotate_left
  .cases a1<;>exact cu em1
  cases a1 with
  |lst as=>
   cases em1;have eK:c.K=X.K:=zcy Kx.K ek;have b3:=(Bd.eO (rs:=[x]) (vs:=[v]) ⟨hv,trivial⟩ b1 ef).1;obtain⟨L0,bl0,v0⟩:=Bd.mid (xs:=[]) (ss:=[]) rfl b3;cases v0 with
   |lst ve vr=>
   rename_i pv ts;refine⟨pv,ts,rfl,by rw[<-eK];exact f9 (g_same _ _ _) ve,q _ H1 [some (.ref pv)] [.lst as] rfl (λc' Y' H' O F D J T i ek' lx b'=>?_) b3⟩;have eK':c'.K=X.K:=zcy Kx.K ek';obtain⟨L,bl,v1⟩:=Bd.mid lx b';cases v1 with
   |lst ve vr=>
   rename_i ts';have sv:eI X.K H' pv ts':=by rw[<-eK'];exact f9 (g_same _ _ _) ve
   refine⟨λhi=>⟨ts',sv,?_⟩,λa ha=>?_⟩
   .rw[jV] at hi;exact Tx (by rw[vr.len];exact hi)
   .obtain⟨b0,za,rfl⟩:=mT as 0 i a ha;obtain⟨t,g1,g2⟩:=vr.ta za;refine⟨⟨ts',t,sv,g1⟩,λx H2 yy=>?_⟩;obtain⟨tt,x',rfl,hn,rfl,hall⟩:=yy;have z1:=hall ts' sv;rw[g1] at z1;cases z1;obtain⟨b2,sm,np⟩:=bl.new hn;rw[Vt];exact b2.push (.tup (.inl (.inl (by rw[bJ np (bl.P6 hn)];exact bg))) ((br.cons (.int _) (.cons g2 .nil)).sm sm))
  | _=>cases em1⟩
end
end M
set_option maxHeartbeats 1000000
namespace M
open PySem L2
variable{r:Bool}{K:Kx}
section
variable{X:Cx}{E:XK}
def PL(K:SD)(H:Hp)(x y:V)(r:Bool):Prop:=(∃a b L kb P,x=.ref a/\y=.ref b/\Rd H a (.dK L)/\Rd H b (.dK kb)/\gX K H kb L P/\r=(L.length==kb.length&&P))\/∃d e,Den K H x d/\Den K H y e/\D.depth d<=40/\r=D.eq d e
inductive qY(K:SD)(H:Hp):List V->List V->List Bool->Prop
 |nil:qY K H [] [] []
 |cons{x y:V}{xs ys:List V}{r:Bool}{rs:List Bool}(h:PL K H x y r)(t:qY K H xs ys rs):qY K H (x::xs) (y::ys) (r::rs)
theorem qY.len{K:SD}{H:Hp}{xs ys:List V}{rs:List Bool}(h:qY K H xs ys rs):xs.length=ys.length/\xs.length=rs.length:=by
 induction h with
 |nil=>exact⟨rfl,rfl⟩
 |cons h t m=>exact⟨zcy (·+1) m.1,zcy (·+1) m.2⟩
theorem qY.at{K:SD}{H:Hp}{xs ys:List V}{rs:List Bool}(h:qY K H xs ys rs):∀{j:Nat}{x y:V},xs[j]?=some x->ys[j]?=some y->PL K H x y (rs.getD j true):=by
 induction h with
 |nil=>intro j x y e;simp at e
 |cons h t m=>
  intro j x y e k;cases j with
  |zero=>cases e;cases k;exact h
  |succ j=>exact m e k
noncomputable def Hw(K:SD):R2:=λx y H Q=>∃a b xs ys rs,x=.ref a/\y=.ref b/\eI K H a xs/\eI K H b ys/\qY K H xs ys rs/\Q (.bl (!rs.all id)) H
theorem xc(l:X.A.units+64<cLine):eG X (zaz .NotEq) (Hw X.K):=by
 intro pins s Y H x y v u Q I o C h;obtain⟨a,b,xs,ys,rs,rfl,rfl,w,hb,c,q⟩:=h;cases o;cases C;obtain⟨us,g,G,_⟩:=I.list w;obtain⟨vs,k,T,_⟩:=I.list hb;obtain⟨m,R⟩:=c.len;have s1:us.toArray.size=rs.length:=by rw[SM,<-g.length,R]
 have s2:vs.toArray.size=rs.length:=by rw[SM,<-k.length,<-m,R]
 refine zd (e:=λj=>rs.getD j true) G.isList T.isList (s1.trans s2.symm) XV (λj h1 h2=>?_) ?_
 .obtain⟨x,ex,o⟩:=g.Gk h1;obtain⟨y,O,C⟩:=k.Gk h2;rcases c.at ex O with ⟨a',r,L,kb,z,rfl,rfl,V,P,t,e⟩|⟨d,f,hd,he,dp,e⟩
  .have o:=o;rw[o,C,e];exact zo I (by show X.A.units+1+41<cLine;lia) V P t
  .rw[e];exact λE Q n=>(dR I 40 (by show X.A.units+1+40<cLine;lia) dp hd he o C) _ _ E Q n
 .rw[s1,range_all];exact⟨.bl _,H,I,rfl,q⟩
noncomputable def D9:A->Option (List (Key×A))
 | .dic ka=>some ka
 |_=>none
def Bo(a b:A):Option Bool:=match D9 a,D9 b with
 |some ka,some kb=>qC ka kb
 |_,_=>jL a b
def vK:List A->List A->Option (List Bool)
 |[],[]=>some []
 |a::as,b::bs=>match Bo a b,vK as bs with
  |some r,some t=>some (r::t)
  |_,_=>none
 |_,_=>none
def jJ:A->A->Option Rr
 | .lst as,.lst bs=>match vK as bs with
  |some rs=>some (.fr (.bl (!rs.all id)))
  |none=>none
 |_,_=>none
theorem zr{L kb:List (Key×A)}(h:qC L kb=some r):∃P,gW kb L=some P/\r=(L.length==kb.length&&P):=by
 delta qC at h
 cases e:gW kb L with
 |none=>rw[e] at h;cases h
 |some P=>rw[e] at h;cases h;exact⟨P,rfl,rfl⟩
theorem LK{G:Hp}{x y:V}{a b:A}(B:RA K G x a)(h1:RA K G y b)(h:Bo a b=some r):PL K.K G x y r:=by
 have v:jL a b=some r->PL K.K G x y r:=λh=>by obtain⟨d,f,i,n,F,rfl⟩:=gN h;exact .inr ⟨d,f,dY B i,dY h1 n,F,rfl⟩
 delta Bo at h
 cases Z:D9 a with
 |none=>rw[Z] at h;exact v h
 |some L=>
  cases l:D9 b with
  |none=>rw[Z,l] at h;exact v h
  |some kb=>
   cases a<;>first|exact cu Z|skip
   cases b<;>first|exact cu l|skip
   cases B with
   |dic s Y=>
    cases h1 with
    |dic T R=>obtain⟨P,e,rfl⟩:=zr h;exact .inl ⟨_,_,_,_,P,rfl,rfl,s,T,k6 R Y e,by rw[Y.len,R.len]⟩
theorem xW{K:Kx}{G:Hp}:∀{xs:List V}{as:List A},br K G xs as->∀{ys:List V}{bs:List A}{rs:List Bool},br K G ys bs->vK as bs=some rs->qY K.K G xs ys rs
 |_,_,.nil,_,_,rs,.nil,h=>by cases h;exact .nil
 |_,_,.nil,_,_,rs,.cons _ _,h=>by cases h
 |_,_,.cons h0 r0,_,_,rs,.nil,h=>by cases h
 |_,_,.cons h0 r0,_,_,rs,.cons h1 r1,h=>by
  unfold vK at h;split at h
  .rename_i r t D l;cases h;exact .cons (LK h0 h1 D) (xW r0 r1 l)
  .cases h
theorem xB:gh K (Hw K.K) jJ:=.scalar λH v w a b q g p h=>by
 cases a<;>first|exact cu h|(cases b<;>first|exact cu h|skip)
 delta jJ at h
 dsimp only at h;split at h
 .rename_i rs e;cases h;cases g with
  |lst D Y=>
   cases p with
   |lst l R=>exact⟨_,_,rfl,λ_=>.bl _,λQ k=>⟨_,_,_,_,rs,rfl,rfl,D,l,xW Y R e,k⟩⟩
 .cases h
variable{a b:Expr}{ma mb:Mi Rr}{pos:Pos}
theorem My(f:X.A.units+64<cLine)(d:JE X E a ma)(hb:JE X E b mb):JE X E (.Compare a [.NotEq] [b] pos) (ay (bP (bP (bP fM kD) jJ) jc) ma mb):=fC (eG.or' (eG.or' (eG.or' (rh f) (pE f)) (xc f)) (AE f)) (((wt.or oK).or xB).or xV) d hb (cU _)
theorem IZ(f:X.A.units+64<cLine)(d:JE X E a ma)(hb:JE X E b mb):JT X E (.Compare a [.NotEq] [b] pos) (aq (ay (bP (bP (bP fM kD) jJ) jc) ma mb)):=fw (eG.or' (eG.or' (eG.or' (rh f) (pE f)) (xc f)) (AE f)) (((wt.or oK).or xB).or xV) d hb (cU _)
end
open PySem L2 W
def fe(f:Ms)(H:List A):List Rr->Mi Rr:=λrs Z=>match dM (rs++H.map Rr.fr) Z with
 |some (as,U)=>match f (as.map t5) with
  |some (.rt s,T)=>match iI s,putL Z (rs++H.map Rr.fr) (bf as.length T) U with
   |some r,some O=>some (.ok r,O)
   |_,_=>none
  |some (.ex x,T)=>match putL Z (rs++H.map Rr.fr) (bf as.length T) U with
   |some O=>some (.error x,O)
   |none=>none
  |_=>none
 |none=>none
def Val(f:Ms)(as:List A)(a:A):Prop:=∃Z,f (as.map Sl.fr)=some (.rt (.fr a),Z)
def i9(f:Ms)(as:List A)(o:LO):Prop:=∃Z,f (as.map Sl.fr)=some (.rt (.lv o),Z)
def bO(f:Ms)(o:LO)(as:List A)(s:Sl)(o':LO):Prop:=∃Z,f (.pv o::as.map Sl.fr)=some (.rt s,.pv o'::Z)
theorem mw(as:List A)(Z:List Sl):dM (as.map Rr.fr) Z=some (as.map Sl.fr,Z):=by
 induction as generalizing Z with
 |nil=>rfl
 |cons a as m=>simp only[S4,dM,take1,m]
theorem uY(as:List A):(as.map Sl.fr).map t5=as.map Sl.fr:=by rw[TM];rfl
theorem lD(X':List Sl):∀(as:List A)(ss:List Sl)(Z:List Sl),as.length=ss.length->putL X' (as.map Rr.fr) ss Z=some Z
 |[],[],Z,_=>rfl
 |a::as,s::ss,Z,h=>by rw[S4,putL,lD X' as ss Z (by simpa using h)];rfl
 |[],_::_,_,h=>by simp at h
 |_::_,[],_,h=>by simp at h
variable{f:Ms}
theorem aB{as:List A}{a:A}(h:Val f as a)(Z:List Sl):fe f [] (as.map Rr.fr) Z=some (.ok (.fr a),Z):=by
 obtain⟨T,h⟩:=h
 delta fe
 rw[Vp,Ug,mw];simp only[uY,h,iI];rw[lD _ _ _ _ (by rw[bY,SE])]
variable{o:LO}
theorem jz{as:List A}(h:i9 f as o)(Z:List Sl):fe f [] (as.map Rr.fr) Z=some (.ok (.nw o),Z):=by
 obtain⟨T,h⟩:=h
 delta fe
 rw[Vp,Ug,mw];simp only[uY,h,iI];rw[lD _ _ _ _ (by rw[bY,SE])]
variable{i:Nat}{Z:List Sl}
theorem GS{as:List A}{o':LO}{s:Sl}{r:Rr}(h:bO f o as s o')(m:iI s=some r)(hl:aO Z i=some o):fe f [] (.rf i::as.map Rr.fr) Z=some (.ok r,setAt Z i o'):=by
 obtain⟨T,h⟩:=h;unfold aO at hl;unfold setAt;have hi:∀s,Z[i]?=some s->(Z.set i Sl.un)[i]?=some .un:=λs e=>Tt (SF.mp e).1;have key:∀(u:Sl)(k:LO->Sl),Z[i]?=some u->take1 (.rf i) Z=some (.lv o,Z.set i .un)->(∀s O,O[i]?=some Sl.un->rP Z (.rf i) (.pv s) O=some (O.set i (k s)))->fe f [] (.rf i::as.map Rr.fr) Z=some (.ok r,Z.set i (k o')):=by
  intro u k es ht hp;unfold fe;rw[Vp,Ug,dM,ht];simp only[mw];have h':f (W5 t5 (Sl.lv o::W5 Sl.fr as))=some (.rt s,.pv o'::T):=by rw[S4,uY];exact h
  rw[h'];simp only[m];have hb:bf (Sl.lv o::W5 Sl.fr as).length (.pv o'::T)=.pv o'::bf as.length T:=by rw[S5,SE];rfl
  rw[hb,putL,lD _ _ _ _ (by rw[bY])];simp only[hp _ _ (hi u es),List.set_set]
 cases es:Z[i]? with
 |none=>simp only[es] at hl;cases hl
 |some t=>
  cases t with
  |un=>simp only[es] at hl;cases hl
  |cf _=>simp only[es] at hl;cases hl
  |fr a=>simp only[es] at hl;cases hl
  |lv x=>simp only[es] at hl;cases hl;refine key _ Sl.lv es (by unfold take1;simp only[es]) λs O e=>?_;unfold rP;simp only[es,e]
  |pv x=>simp only[es] at hl;cases hl;refine key _ Sl.pv es (by unfold take1;simp only[es]) λs O e=>?_;unfold rP;simp only[es,e]
variable{G:Mg}
theorem sG{b:Ms}{as:List A}(P:Nat->List Sl->Prop)(B:P 0 Z)(hs:∀i a Z,as[i]?=some a->P i Z->∃U Z',G a Z=some U/\(b U=some (.nx,Z')\/b U=some (.ct,Z'))/\P (i+1) Z'):
  ∃O,forL G b as Z=some (.nx,O)/\P as.length O:=by
 have key:∀n i Z,as.length-i=n->i<=as.length->P i Z->∃O,forL G b (as.drop i) Z=some (.nx,O)/\P as.length O:=by
  intro n;induction n with
  |zero=>
   intro i Z e hi p;have:i=as.length:=by lia
   subst this;exact⟨Z,by rw[Vc];rfl,p⟩
  |succ n m=>
   intro i Z e hi p;have w:i<as.length:=by lia
   obtain⟨U,Z',h1,h2,h3⟩:=hs i as[i] Z (by simp[w]) p;obtain⟨O,h4,h5⟩:=m (i+1) Z' XV w h3;refine⟨O,?_,h5⟩;rw[TJ w,forL,h1];rcases h2 with h2|h2
   .simp only[h2];exact h4
   .simp only[h2];exact h4
 simpa using key as.length 0 Z T1 (Tu _) B
theorem eF{t:Mi Bool}{e:Mi Rr}{as:List A}(P:Nat->List A->List Sl->Prop)(B:P 0 [] Z)
  (hs:∀i a acc Z,as[i]?=some a->P i acc Z->∃U,G a Z=some U/\((∃Z' r V' d N,t U=some (.ok true,Z')/\e Z'=some (.ok r,V')/\bp r V'=some (d,N)/\P (i+1) (acc++[d]) N)\/∃Z',t U=some (.ok false,Z')/\P (i+1) acc Z')):
  ∃ys O,cD G t e as [] Z=some (ys,O)/\P as.length ys O:=by
 have key:∀n i acc Z,as.length-i=n->i<=as.length->P i acc Z->∃ys O,cD G t e (as.drop i) acc Z=some (ys,O)/\P as.length ys O:=by
  intro n;induction n with
  |zero=>
   intro i acc Z k hi p;have:i=as.length:=by lia
   subst this;exact⟨acc,Z,by rw[Vc];rfl,p⟩
  |succ n m=>
   intro i acc Z k hi p;have w:i<as.length:=by lia
   obtain⟨U,h1,h2⟩:=hs i as[i] acc Z (by simp[w]) p;rw[TJ w,cD,h1];rcases h2 with ⟨Z',r,V',d,N,E,V,F,s⟩|⟨Z',E,V⟩
   .simp only[E,V,F];exact m (i+1) _ N XV w s
   .simp only[E];exact m (i+1) _ Z' XV w V
 simpa using key as.length 0 [] Z T1 (Tu _) B
theorem jX{t:Mi Bool}{b:Ms}(P:Nat->List Sl->Prop)(Q:List Sl->Prop)(hs:∀k Z,P k Z->(∃U,t Z=some (.ok false,U)/\Q U)\/∃U Z' k',t Z=some (.ok true,U)/\(b U=some (.nx,Z')\/b U=some (.ct,Z'))/\k'<k/\P k' Z'):
  ∀{n k:Nat}{Z:List Sl},P k Z->k<n->∃O,fA t b n Z=some (.nx,O)/\Q O:=by
 intro n;induction n with
 |zero=>intro k Z _ h;lia
 |succ n m=>
  intro k Z p hk;rcases hs k Z p with ⟨U,h1,h2⟩|⟨U,Z',k',h1,h2,h3,h4⟩
  .exact⟨U,by rw[fA,h1],h2⟩
  .obtain⟨O,h5,H⟩:=m h4 XV;refine⟨O,?_,H⟩;rw[fA,h1];rcases h2 with h2|h2
   .simp only[h2];exact h5
   .simp only[h2];exact h5
theorem DO{n:Nat}(h:n<2^9500):n<JK:=SN h (by delta JK;exact UE W1 W1)
noncomputable def nm(x:Num):A:=.tup [.int x.1,.int x.2]
theorem Lf(x:Num):toD (nm x)=some (.tup [.int x.1,.int x.2]):=by simp[nm,toD,fV]
theorem Mw(x y:Num):jL (nm x) (nm y)=some (decide (x=y)):=by
 delta jL
 simp only[Lf]
 obtain⟨w,K⟩:=x
 obtain⟨F,q⟩:=y
 show some ((w==F)&&((K==q)&&true))=_
 simp[Wf]
theorem qF(i j:Int):jL (.int i) (.int j)=some (decide (i=j)):=by
 delta jL
 simp only[toD]
 show some (i==j)=_
 simp[Wf]
section
variable{α β:Type}{Z:List Sl}
theorem BZ(i:Nat):ab i Z=(match Z[i]? with|some (.fr a)=>some (.ok (.fr a),Z)|some (.cf a)=>some (.ok (.fr a),Z)|some (.lv _)=>some (.ok (.rf i),Z)|some (.pv _)=>some (.ok (.rf i),Z)|_=>none):=rfl
def gu(f:A->A->Option Rr)(x y:Rr)(Z:List Sl):Option (Except Str Rr×List Sl):=match res Z x,res Z y with
 |some a,some b=>match f a b with
  |some r=>some (.ok r,Z)
  |none=>none
 |_,_=>none
theorem RW(f:A->A->Option Rr)(h mb:Mi Rr):ay f h mb Z=(match h Z with|some (.ok x,U)=>(match mb U with|some (.ok y,Z')=>gu f x y Z'|some (.error e,Z')=>some (.error e,Z')|none=>none)|some (.error e,U)=>some (.error e,U)|none=>none):=by
 delta ay aT gu
 cases h Z with
 |none=>rfl
 |some p=>
  obtain⟨o,U⟩:=p;cases o with
  |error e=>rfl
  |ok x=>
   simp only;cases mb U with
   |none=>rfl
   |some p=>
    obtain⟨o,Z'⟩:=p;cases o with
    |error e=>rfl
    |ok y=>rfl
def Qa(f:A->Option Rr)(x:Rr)(Z:List Sl):Option (Except Str Rr×List Sl):=match res Z x with
 |some a=>match f a with
  |some r=>some (.ok r,Z)
  |none=>none
 |none=>none
def tupK(rs:List Rr)(Z:List Sl):Option (Except Str Rr×List Sl):=match eO rs Z with
 |some (as,O)=>if as.length<=1000 then some (.ok (.fr (.tup as)),O) else none
 |none=>none
def lstK(rs:List Rr)(Z:List Sl):Option (Except Str Rr×List Sl):=match eO rs Z with
 |some (as,O)=>if as.length<=1000 then some (.ok (.nw (.lst as)),O) else none
 |none=>none
theorem H9(m n:Ms):av m n Z=(match m Z with|some (.nx,U)=>n U|r=>r):=rfl
def GL(i:Nat)(r:Rr)(Z:List Sl):Option (Fl×List Sl):=match zP r Z with
 |some (t,U)=>match put i t U with
  |some Z'=>some (.nx,Z')
  |none=>none
 |none=>none
def Qs(r:Rr)(Z:List Sl):Option (Fl×List Sl):=match L7 r Z with
 |some (s,O)=>some (.rt s,O)
 |none=>none
theorem Nj(loc:Nat)(m:Ms):bH loc m Z=(match m (Z++Th loc .un) with|some (.nx,O)=>some (.rt (.fr .non),O)|some (.rt s,O)=>some (.rt s,O)|some (.ex x,O)=>some (.ex x,O)|_=>none):=by
 delta bH
 cases m (Z++Th loc .un) with
 |none=>rfl
 |some p=>obtain⟨f,U⟩:=p;cases f<;>rfl
theorem CM(m:Mi (List A))(G:Mg)(b:Ms):cA m G b Z=(match m Z with|some (.ok as,U)=>forL G b as U|some (.error e,U)=>some (.ex e,U)|none=>none):=by
 delta cA cF
 cases m Z with
 |none=>rfl
 |some p=>
  obtain⟨o,U⟩:=p;cases o with
  |error e=>rfl
  |ok x=>rfl
def Q6(r:Rr)(Z:List Sl):Option (Except Str (List A)×List Sl):=match bp r Z with
 |some (a,O)=>match L8 a with
  |some as=>some (.ok as,O)
  |none=>none
 |none=>none
def mR(r:Rr)(Z:List Sl):Option (Except Str (List A)×List Sl):=match res Z r with
 |some (.int j)=>if -(2^60)<=j/\j<2^60 then some (.ok (dZ 0 j.toNat),Z) else none
 |_=>none
def gZ(n:Nat)(G:Mg)(t:Mi Bool)(e:Mi Rr)(as:List A)(Z:List Sl):Option (Except Str Rr×List Sl):=if as.length<=100000 then match cD G t e as [] (Z++Th n .un) with
 |some (ys,O)=>some (.ok (.nw (.lst ys)),O.take Z.length)
 |none=>none else none
def OZ(G:Mg)(r:Rr)(Z:List Sl):Option (Fl×List Sl):=match bp r Z with
 |some (a,U)=>match G a U with
  |some Z'=>some (.nx,Z')
  |none=>none
 |none=>none
theorem Np(m:Mi Rr)(G:Mg):sI m G Z=(match m Z with|some (.ok x,U)=>OZ G x U|some (.error e,U)=>some (.ex e,U)|none=>none):=by
 delta sI cF
 cases m Z with
 |none=>rfl
 |some p=>
  obtain⟨o,U⟩:=p;cases o with
  |error e=>rfl
  |ok x=>rfl
def Sa(i:Nat)(r:Rr)(Z:List Sl):Option (Except Str Rr×List Sl):=match bp r Z with
 |some (a,U)=>match aO U i with
  |some (.lst xs)=>if xs.length<=16000000 then some (.ok (.fr .non),setAt U i (.lst (xs++[a]))) else none
  |_=>none
 |none=>none
def RP(i:Nat)(r Y:Rr)(Z:List Sl):Option (Fl×List Sl):=match bp r Z with
 |some (a,U)=>match res U Y,aO U i with
  |some (.int k),some (.lst xs)=>match tU xs.length k with
   |some j=>some (.nx,setAt U i (.lst (xs.set j a)))
   |none=>none
  |_,_=>none
 |none=>none
def dK(i:Nat)(r Y:Rr)(Z:List Sl):Option (Fl×List Sl):=match bp r Z with
 |some (a,U)=>match res U Y,aO U i with
  |some ka,some (.dic kvs)=>match j6 ka with
   |some y=>if kvs.length<=100000 then some (.nx,setAt U i (.dic (rT kvs y a))) else none
   |none=>none
  |_,_=>none
 |none=>none
def Se(r:Rr)(Z:List Sl):Option (Except Str Rr×List Sl):=match bp r Z with
 |some (a,O)=>some (.ok (.fr a),O)
 |none=>none
end
section
variable{Z:List Sl}
theorem EF(a b:A):xm a b=(nN λi j=>if fits 20000 i&&fits 20000 j then some (.fr (.int (i*j))) else none) a b:=rfl
theorem Lx(a b:A):jA a b=(nN λi j=>if j != 0&&fits 9000 j then some (.fr (.int (i.fdiv j))) else none) a b:=rfl
end
noncomputable def np:Sl->Bool
 | .pv _=>false
 |_=>true
theorem Oy(i:Nat)(s:Sl)(Z:List Sl):put i s Z=(match Z[i]? with|some t=>if np t=true then some (Z.set i s) else none|none=>none):=by
 delta put
 cases Z[i]? with
 |none=>rfl
 |some t=>cases t<;>rfl
def Wp(m:Ms)(Z:List Sl)(Q:Fl->List Sl->Prop):Prop:=∃f O,m Z=some (f,O)/\Q f O
section
variable{m n b:Ms}{Z U:List Sl}{Q:Fl->List Sl->Prop}
theorem Wp.st(h:m Z=some (.nx,U))(k:Wp n U Q):Wp (av m n) Z Q:=by obtain⟨f,O,e,q⟩:=k;exact⟨f,O,by rw[H9,h];exact e,q⟩
theorem Wp.sq(k:Wp m Z λf U=>f=.nx/\Wp n U Q):Wp (av m n) Z Q:=by obtain⟨f,U,e,rfl,T,Z',l,q⟩:=k;exact⟨T,Z',by rw[H9,e];exact l,q⟩
theorem Wp.en{f:Fl}(h:m Z=some (f,U))(q:Q f U):Wp m Z Q:=⟨_,_,h,q⟩
theorem Wp.mono{H:Fl->List Sl->Prop}(k:Wp m Z Q)(h:∀f U,Q f U->H f U):Wp m Z H:=by obtain⟨f,U,e,q⟩:=k;exact⟨f,U,e,h f U q⟩
theorem Wp.fr{y:Mi (List A)}{as:List A}(P:Nat->List Sl->Prop)(h:y Z=some (.ok as,U))(B:P 0 U)(hs:∀i a Z,as[i]?=some a->P i Z->∃U,G a Z=some U/\Wp b U λf Z'=>(f=.nx\/f=.ct)/\P (i+1) Z')(n:∀O,P as.length O->Q .nx O):Wp (cA y G b) Z Q:=by
 obtain⟨O,h1,h2⟩:=sG P B (λi a Z d p=>by
  obtain⟨U,g,f,Z',e,hf,v⟩:=hs i a Z d p;refine⟨U,Z',g,?_,v⟩;rcases hf with rfl|rfl
  .exact .inl e
  .exact .inr e)
 exact⟨_,O,by rw[CM,h];exact h1,n O h2⟩
theorem Wp.Rv{y:Mi (List A)}(as:List A)(P:List Sl->Prop)(h:y Z=some (.ok as,U))(B:P U)(hs:∀a∈as,∀Z,P Z->∃U,G a Z=some U/\Wp b U λf Z'=>(f=.nx\/f=.ct)/\P Z')(n:∀O,P O->Q .nx O):Wp (cA y G b) Z Q:=
 Wp.fr (λ_=>P) h B (λ_ a Z d p=>hs a (SS d) Z p) n
theorem Wp.df{loc:Nat}(k:Wp m (Z++Th loc .un) λf O=>match f with | .nx=>Q (.rt (.fr .non)) O | .rt s=>Q (.rt s) O | .ex x=>Q (.ex x) O|_=>False):Wp (bH loc m) Z Q:=by
 obtain⟨f,O,e,q⟩:=k
 delta Wp
 rw[Nj,e];cases f with
 |nx=>exact⟨_,_,rfl,q⟩
 |rt s=>exact⟨_,_,rfl,q⟩
 |ex x=>exact⟨_,_,rfl,q⟩
 |bk=>exact q.elim
 |ct=>exact q.elim
theorem Val.of{as:List A}{a:A}(k:Wp f (as.map Sl.fr) λg _=>g=.rt (.fr a)):Val f as a:=by obtain⟨g,O,e,rfl⟩:=k;exact⟨O,e⟩
theorem i9.of{as:List A}(k:Wp f (as.map Sl.fr) λg _=>g=.rt (.lv o)):i9 f as o:=by obtain⟨g,O,e,rfl⟩:=k;exact⟨O,e⟩
theorem bO.of{as:List A}{R:Sl->LO->Prop}(k:Wp f (.pv o::as.map Sl.fr) λg Z=>∃s o' U,g=.rt s/\Z=.pv o'::U/\R s o'):∃s o',bO f o as s o'/\R s o':=by obtain⟨g,O,e,s,o',U,rfl,rfl,r⟩:=k;exact⟨s,o',⟨U,e⟩,r⟩
end
def Dt(n:Nat)(a:A):Prop:=∃d,toD a=some d/\D.depth d<=n
def xp(n:Nat)(as:List A):Prop:=∃ds,fV as=some ds/\D.gq ds<=n
theorem Dt.int{n:Nat}(i:Int):Dt n (.int i):=⟨.int i,by rw[toD],by simp[D.depth]⟩
theorem Dt.str{n:Nat}(x:Str):Dt n (.str x):=⟨.str x,by rw[toD],by simp[D.depth]⟩
theorem xp.nil{n:Nat}:xp n []:=⟨[],by rw[fV],by simp[D.gq]⟩
theorem xp.cons{n:Nat}{a:A}{as:List A}(h:Dt n a)(k:xp n as):xp n (a::as):=by obtain⟨d,h1,h2⟩:=h;obtain⟨ds,h3,h4⟩:=k;exact⟨d::ds,by rw[fV,h1,h3],by rw[D.gq];lia⟩
theorem xp.of{n:Nat}:∀{as:List A},(∀a∈as,Dt n a)->xp n as
 |[],_=>.nil
 |a::as,h=>.cons (h a SH) (xp.of λb hb=>h b (SK _ hb))
theorem Dt.tup{n:Nat}{as:List A}(h:xp n as):Dt (n+1) (.tup as):=by obtain⟨ds,h1,h2⟩:=h;exact⟨.tup ds,by rw[toD,h1],by rw[D.depth];lia⟩
theorem Dt.lst{n:Nat}{as:List A}(h:xp n as):Dt (n+1) (.lst as):=by obtain⟨ds,h1,h2⟩:=h;exact⟨.lst ds,by rw[toD,h1],by rw[D.depth];lia⟩
theorem Dt.nm{n:Nat}(x:Num):Dt (n+1) (nm x):=Dt.tup (.cons (.int _) (.cons (.int _) .nil))
theorem DK{a:A}(h:Dt 40 a):jL a a=some true:=by
 obtain⟨d,h1,h2⟩:=h
 delta jL
 simp only[h1];rw[zcu h2,D.jt]
theorem dA(n:Nat):(dZ 0 n).length=n:=by simp[dZ]
theorem pH{n:Nat}{a:A}(h:(dZ 0 n)[i]?=some a):i<n/\a=.int i:=by
 have hi:=(SF.mp h).1;rw[dA] at hi
 delta dZ at h
 rw[SQ,UQ hi] at h;simp at h;exact⟨hi,h.symm⟩
section
variable{Z:List Sl}
def QN(i:Nat)(r:Rr)(Z:List Sl):Option (Except Str Rr×List Sl):=match bp r Z with
 |some (.lst zs,U)=>match aO U i with
  |some (.lst xs)=>if xs.length+zs.length<=100000 then some (.ok (.fr .non),setAt U i (.lst (xs++zs))) else none
  |_=>none
 |_=>none
end
variable{ms:Mi (List Rr)}
section
variable{α β:Type}{Z X' U Z' V':List Sl}{m n mk:Mi Rr}{t u:Mi Bool}{x y r rk:Rr}
theorem bk{m:Mi α}{f:α->Mi β}{x:α}{q:Option (Except Str β×List Sl)}(h:m Z=some (.ok x,U))(k:f x U=q):aT m f Z=q:=by unfold aT;rw[h];exact k
theorem sk{m:Mi α}{f:α->Ms}{x:α}{q:Option (Fl×List Sl)}(h:m Z=some (.ok x,U))(k:f x U=q):cF m f Z=q:=by unfold cF;rw[h];exact k
theorem ag{H:List A}{rs:List Rr}(h:ms Z=some (.ok rs,U))(c:fe f H rs U=some (.ok r,Z')):xG f H ms Z=some (.ok r,Z'):=bk h c
theorem ae{rs:List Rr}(h:m Z=some (.ok x,U))(k:ms U=some (.ok rs,Z')):cM m ms Z=some (.ok (x::rs),Z'):=bk h (bk k rfl)
theorem af{f:A->A->Option Rr}(h:m Z=some (.ok x,U))(k:n U=some (.ok y,Z'))(o:gu f x y Z'=some (.ok r,V')):ay f m n Z=some (.ok r,V'):=bk h (bk k o)
theorem d6{f:A->Option Rr}(h:m Z=some (.ok x,U))(o:Qa f x U=some (.ok r,Z')):Hz f m Z=some (.ok r,Z'):=bk h o
theorem kB(h:m Z=some (.ok x,U))(o:Se x U=some (.ok r,Z')):qH m Z=some (.ok r,Z'):=bk h o
theorem cH{rs:List Rr}(h:ms Z=some (.ok rs,U))(o:tupK rs U=some (.ok r,Z')):a8 ms Z=some (.ok r,Z'):=bk h o
theorem dr{rs:List Rr}(h:ms Z=some (.ok rs,U))(o:lstK rs U=some (.ok r,Z')):bA ms Z=some (.ok r,Z'):=bk h o
theorem aQ{b:Bool}(h:m Z=some (.ok (.fr (.bl b)),U)):aq m Z=some (.ok b,U):=bk h rfl
theorem nK{b:Bool}(h:t Z=some (.ok b,U)):i4 t Z=some (.ok (!b),U):=bk h rfl
theorem mX{b:Bool}(h:t Z=some (.ok false,U))(k:u U=some (.ok b,Z')):zh t u Z=some (.ok b,Z'):=bk h k
theorem pK(h:t Z=some (.ok false,U)):n9 t u Z=some (.ok false,U):=bk h rfl
theorem hU{b:Bool}(h:t Z=some (.ok true,U))(k:u U=some (.ok b,Z')):n9 t u Z=some (.ok b,Z'):=bk h k
theorem vm(h:m Z=some (.ok r,U))(k:GL i r U=some (.nx,Z')):aD i m Z=some (.nx,Z'):=sk h k
theorem Gi(h:m Z=some (.ok r,X'))(d:C9 X' i=true)(hk:mk X'=some (.ok rk,U))(k:dK i r rk U=some (.nx,Z')):nF i mk m Z=some (.nx,Z'):=sk h ((zcu d).trans (sk hk k))
theorem aN{f:Fl}(h:m Z=some (.ok r,U))(k:Qs r U=some (f,Z')):bc m Z=some (f,Z'):=sk h k
theorem qM(h:m Z=some (.ok r,U)):fm m Z=some (.nx,U):=sk h rfl
theorem Pb{a:Sl}(h:zP r Z=some (a,U))(k:U[i]?=some s)(hn:np s=true):GL i r Z=some (.nx,U.set i a):=by unfold GL;rw[h];dsimp only;rw[Oy,k];dsimp only;rw[zcu hn]
theorem QY{a:A}{L:A}{kvs:List (Key×A)}{q:Key}(h:bp r Z=some (a,U))(h1:res U rk=some L)(h2:aO U i=some (.dic kvs))(h3:j6 L=some q)(hl:kvs.length<=100000):dK i r rk Z=some (.nx,setAt U i (.dic (rT kvs q a))):=by unfold dK;rw[h];dsimp only;rw[h1,h2];dsimp only;rw[h3];dsimp only;rw[zcu hl]
end
end M
namespace W
open PySem L2
noncomputable def DR(o:Obj):Bool:=match o.data with
 | .freed=>false
 |_=>true
def pA:List Nat->List Obj->SD->SD
 |a::as,o::os,K=>pA as os (match DR o with|true=>(a,o)::K|false=>K)
 |_,_,K=>K
def hV(h:Heap):SD:=match h.get? zas with
 |some o=>(zas,o)::pA (Tc h.objs.size) h.objs.toList []
 |none=>[]
theorem pj{o:Obj}{a:Addr}:∀{K:SD},K.lookup a=some o->(a,o)∈K
 |(b,u)::K,e=>by
  rw[TQ] at e;split at e
  .rename_i q;cases e;rw[zcz.mp q];exact SH
  .exact SK _ (pj e)
theorem rM{h:Heap}:∀{as:List Nat}{os:List Obj}{K:SD},(∀(i a:Nat)(o:Obj),as[i]?=some a->os[i]?=some o->h.objs[a]?=some o)->(∀(a:Nat)(o:Obj),(a,o)∈K->h.get? a=some o)->∀a o,(a,o)∈pA as os K->h.get? a=some o
 |[],_,K,_,k=>by delta pA;exact k
 |_::_,[],K,_,k=>by delta pA;exact k
 |a::as,o::os,K,e,k=>by
  unfold pA;refine rM (λi b u h1 h2=>e (i+1) b u h1 h2) ?_;cases c:DR o with
  |false=>exact k
  |true=>
   intro b u m;rcases SR.mp m with m|m
   .cases m
    delta Heap.get?
    rw[e 0 a o rfl rfl];obtain⟨V,T,v,z⟩:=o;cases v<;>first|rfl|cases c
   .exact k b u m
theorem nj(h:Heap):(hV h).In h:=λa o e=>by
 have m:=pj e;unfold hV at m;split at m
 .rename_i o' H;rcases SR.mp m with m|m
  .cases m;exact H
  .refine rM (λi b u h1 h2=>?_) (λ_ _ q=>by cases q) a o m;have hi:=(SF.mp h1).1 |> λq=>by rwa[Ud] at q
   rw[UQ hi] at h1;cases h1;rw[<-TB];exact h2
 .cases m
noncomputable def OY(K:SD)(n:Str):Option (Str×Str×Arguments×zcb×Scope×Addr×List (Str×Addr)×Value×Addr×Bool):=
 match Xg K zas n with
 | some (some (.ref f))=>(match K.lookup f with
  |some ⟨_,_,.func d,_⟩=>some (d.name,d.qualname,d.params,d.body,d.scope,d.globals,d.closure,d.defaults,d.builtins,V9 K d.code n&&UA K (.ref f))
  | _=>none)
 |_=>none
def NY(n:Str)(st:Stmt):Option (Str×Str×Arguments×zcb×Scope×Addr×List (Str×Addr)×Value×Addr×Bool):=some (n,n,dy st,.stmts (cX st),aU st,zas,[],.none,zby,true)
noncomputable def QE(K:SD)(a:Addr)(i j:Int):Bool:=match K.lookup a with
 | some ⟨.type "tuple",none,.seq its _,_⟩=>(match its.toList with
  |[.int x _,.int y _]=>x==i&&y==j
  | _=>false)
 |_=>false
def ML(ds:List (Str×Stmt))(e:SD->Bool)(K:SD):=(ds.map λx=>OY K x.1,e K)
def MP(ds:List (Str×Stmt)):List (Option (Str×Str×Arguments×zcb×Scope×Addr×List (Str×Addr)×Value×Addr×Bool))×Bool:=(ds.map λx=>NY x.1 x.2,true)
def hk(ds:List (Str×Stmt))(b:SD->Bool):Y2 where
 α:=List (Option (Str×Str×Arguments×zcb×Scope×Addr×List (Str×Addr)×Value×Addr×Bool))×Bool
 obs:=λs=>ML ds b (hV s.heap)
 val:=λ_=>MP ds
 says:=λ_ h=>∃K:SD,ML ds b K=MP ds/\K.In h
 of:=λ_ s e=>⟨hV s.heap,e,nj _⟩
 keeps:=λ_ _ _ ⟨K,e,i⟩ k=>⟨K,e,i.keeps k⟩
noncomputable def M7(p:Program):List Stmt:=p.main.body.filter λs=>match s with | .FunctionDef n ..=>n==("law" : Str)|_=>false
noncomputable def NZ:Stmt->List Str
 | .FunctionDef n ..=>[n]
 | .ClassDef n ..=>[n]
 | .Assign [.Name n _] _ _=>[n]
 |_=>[]
def OM(p:Program):Program:={ p with main:={ p.main with body:=M7 p } }
def xh(p:Program):List Str:=(p.main.body.flatMap NZ).filter λn=>n != ("law" : Str)
open PySem PySem.W PyProof.Rows
noncomputable abbrev Hq:=ZU
noncomputable abbrev vo:=ZV
noncomputable abbrev MV:=ZW
noncomputable abbrev DX:=ZX
noncomputable abbrev Ia:=ZY
noncomputable abbrev HX:=ZZ
noncomputable abbrev BX:=Z0
theorem CB:denote=Hq:=Z1
theorem ph:zbx=vo:=Z2
theorem G0:stepOk=MV:=Z3
theorem zC:stepT=DX:=Z4
theorem CN:importEnds=Ia:=Z5
theorem zR:fenceModules?=HX:=Z6
theorem ye:openSeen=BX:=Z7
def BV(p:Program)(w:zam)(Z:Nat)(h:Option Value):Nat->zcl->Thread->Option zcl
 |0,_,_=>none
 |m+1,s,t=>match through t with
  |true=>some s
  |false=>match MV Z h t with
   |false=>none
   |true=>match DX (Hq vo) p w s t with
    |some (s',t')=>BV p w Z h m s' t'
    |none=>none
theorem wQ{p:Program}{w:zam}{Z:Nat}{h:Option Value}:∀{m:Nat}{s s2:zcl}{t:Thread},BV p w Z h m s t=some s2->topRun zbx p w Z h m s.abs t=some s2.abs
 |0,_,_,_,e=>by cases e
 |m+1,s,s2,t,e=>by
  unfold BV at e;rw[<-G0,<-zC,<-CB,<-ph] at e;unfold topRun;cases z:through t with
  |true=>rw[z] at e;cases e;rfl
  |false=>
   rw[z] at e;cases i:stepOk Z h t with
   |false=>rw[i] at e;cases e
   |true=>
    rw[i] at e;cases es:stepT (denote zbx) p w s t with
    |none=>rw[es] at e;cases e
    |some q=>rw[es] at e;rw[stepT_spec es];exact wQ e
noncomputable def MN:List Obj->Nat->BT->Option BT
 |[],_,t=>some t
 |o::os,n,t=>match ((t.ins n o).get n).isSome with
  |true=>MN os (n+1) (t.ins n o)
  |false=>none
theorem AM(l:Life):∀{os:List Obj}{n:Nat}{t t':BT},MN os n t=some t'->absHeap t' (n+os.length) l=⟨(absHeap t n l).objs++os.toArray,l⟩
 |[],n,t,t',e=>by cases e;rfl
 |o::os,n,t,t',e=>by
  unfold MN at e;cases H:((t.ins n o).get n).isSome with
  |false=>rw[H] at e;cases e
  |true=>
   rw[H] at e;have i:=AM l e;rw[absHeap_ins H] at i;have F:n+1+os.length=n+(o::os).length:=by rw[S5];lia
   rw[<-F,i];show Heap.mk (((absHeap t n l).objs.push o)++os.toArray) l=_;simp
theorem A6{h:Heap}{t:BT}(e:MN h.objs.toList 0 .nil=some t):absHeap t h.objs.size h.life=h:=by have i:=AM h.life e;rw[Vt,Ti] at i;rw[i];obtain⟨objs,l⟩:=h;show Heap.mk (#[]++objs.toList.toArray) l=_;simp
def Ii(p:Program)(w:zam)(N:Nat)(s₀:Shared):Option Shared:=match s₀.heap.isNs zas&&s₀.gens.size==0 with
 |true=>match MN s₀.heap.objs.toList 0 .nil with
  |some t=>(BV p w s₀.heap.objs.size (s₀.heap.nsMap zas "__annotations__") N ⟨t,s₀.heap.objs.size,s₀.heap.life,s₀.gens,s₀.drawn,s₀.toks,s₀.os⟩ (topStub p)).bind λq=>match staticsOk (importedModules p.main.body) s₀.heap q.abs.heap&&namesBound p q.abs.heap&&gensDone q.abs&&laidKept s₀.heap q.abs.heap with
   |true=>some q.abs
   |false=>none
  |none=>none
 |false=>none
variable{p:Program}{w:zam}{N:Nat}{s:Shared}
theorem ER{s₀:Shared}(e:Ii p w N s₀=some s):topFrom zbx p w N s₀=some s:=by
 delta Ii at e
 delta topFrom
 cases D:s₀.heap.isNs zas&&s₀.gens.size==0 with
 |false=>rw[D] at e;cases e
 |true=>
  rw[D] at e;cases l:MN s₀.heap.objs.toList 0 .nil with
  |none=>rw[l] at e;cases e
  |some t=>
   rw[l] at e;simp only at e;cases b:BV p w s₀.heap.objs.size (s₀.heap.nsMap zas "__annotations__") N ⟨t,s₀.heap.objs.size,s₀.heap.life,s₀.gens,s₀.drawn,s₀.toks,s₀.os⟩ (topStub p) with
   |none=>rw[b] at e;cases e
   |some q=>
    rw[b] at e;have k:=wQ b;have I:Zc ⟨t,s₀.heap.objs.size,s₀.heap.life,s₀.gens,s₀.drawn,s₀.toks,s₀.os⟩=s₀:=by
     delta Zc
     rw[A6 l]
    rw[I] at k;rw[k];exact e
def oQ(p:Program)(w:zam)(N:Nat):Option Shared:=((Ia vo (opening p) w N (start (opening p)).1 (start (opening p)).2).bind (HX p)).bind (Ii p w N)
theorem Ab(e:oQ p w N=some s):openEnds zbx p w N=some s:=by
 delta oQ at e
 delta openEnds fencedOpening
 rw[<-CN,<-ph,<-zR] at e
 cases D:(importEnds zbx (opening p) w N (start (opening p)).1 (start (opening p)).2).bind (fenceModules? p) with
 |none=>rw[D] at e;cases e
 |some u=>rw[D] at e;exact ER e
theorem Dn{q:Program}{loose:List Str}{Xt:Shared->Bool}{α:Type}{Yf:Shared->α}{Ya:zam->α}
  (h:∀w,Zp (λs=>(BX q loose (importedModules p.main.body) Xt true s,Yf s)) (oQ p w N)=some (openGood q loose,Ya w)):LeftO p q loose Xt Yf Ya N:=λw=>by
 have h:=h w;rw[<-ye] at h;cases e:oQ p w N with
 |none=>rw[e] at h;cases h
 |some s=>rw[e] at h;rw[Ab e];exact h
end W
namespace L2
open PySem PySem.Spec PyProof.Rows
section
variable{P:Program}{w:zam}{K:SD}{mg:Str->Option Value}{base:Heap}{dV:Value}
theorem qL.R5{CX:tL}{x qual:Str}{st:Stmt}{f:Addr}{fd:zaB}{N ps:List Str}{k:Nat}{sp:Sp}(F:qL K x qual st f fd dV)(S:ji N ps (aU st))(len:∀vs H Q E,sp vs H Q E->vs.length=ps.length)
  (h:∀(cdv:Value)(A:zan)(outer:List Env)(s:Shared)(H:Hp)(vs:List V)(Q:VK)(E:XK),eJ k (A.deeper (zbN qual (aU st) s.heap.objs.size f cdv))->sp vs H Q E->
   ∃t,nU (vG CX P w K mg base N qual (aU st) f cdv A outer s H E) (cX st) t/\t { nx:=λ_ H'=>Q .non H',rt:=Q } (start N vs) H):fE P w K mg base CX (k+1) f fd ps sp:=by
 obtain⟨oc,od,kV,doc,pm,an,cdv,ct,osl,rfl,B,e⟩:=F.ex;exact Pc B e S len λA outer s H vs Q E m y=>h cdv A outer s H vs Q E m y
end
end L2
namespace M
open PySem L2
section
variable{X:Cx}{E:XK}
theorem FR{CX:tL}{P:Program}{w:zam}{K:SD}{mg:Str->Option Value}{base:Heap}{dV:Value}{x qual:Str}{st:Stmt}{f:Addr}{fd:zaB}{N ps:List Str}{k:Nat}{m:Ms}(F:qL K x qual st f fd dV)(S:ji N ps (aU st))
  (hb:∀(cdv:Value)(A:zan)(outer:List Env)(s:Shared)(H:Hp)(E:XK),eJ k (A.deeper (Z8 qual (aU st) s.heap.objs.size f cdv))->
   om (vG CX P w K mg base N qual (aU st) f cdv A outer s H E) E (cX st) m):fE P w K mg base CX (k+1) f fd ps (D4 ⟨K,mg,P,w⟩ ps.length (bH (N.length-ps.length) m)):=
 F.R5 S (λvs H Q E h=>h.1) λcdv A outer s H vs Q E Y h=>by
  obtain⟨hn,c,Z,f,O,u,I,D,b,em,q⟩:=h;refine⟨_,(hb cdv A outer s H E Y).p,?_⟩;have bs:=b.start N I;rw[hn] at bs
  delta bH at em
  cases e:m (Z++Th (N.length-ps.length) .un) with
  |none=>rw[e] at em;cases em
  |some p=>
   obtain⟨G,U⟩:=p;rw[e] at em;refine⟨c,_,[],[],G,U,u,bs,e,?_⟩;have bk:∀{Y':St}{H':Hp}{J:St}{T:List Sl},Bd c Y' H' U J T->Bd c (vs.map some) H' (bf vs.length U) J T:=λr=>by have:=r.back;rw[I,SE] at this;exact this
   cases G with
   |nx=>cases em;exact λY' H' r=>q .non H' (λo z=>by cases z) ((bk r).push λ_=>.non)
   |rt s=>cases em;exact λv Y' H' hs r=>q v H' hs (bk r)
   |ex x=>cases em;exact λC Y' H' d r=>q C H' d (bk r)
   |bk=>cases em
   |ct=>cases em
noncomputable def zJ:tL:=λ_ _ _ _ _ _=>False
noncomputable def HZ:Ms:=λ_=>none
theorem FG{s:Stmt}:JS X E s HZ:=⟨λpins s Y H D I h=>by obtain⟨c,Z,τ,θ,f,O,A,b,em,q⟩:=h;cases em⟩
end
end M
namespace W
open PySem L2
theorem zt{CX:tL}{l:Yv}{n k:Nat}{q:Program}{loose:List Str}{XP:(Str->Option Value)->Heap->Prop}{YP:zam->Heap->Prop}{d:DefRec}{x:Str}{sp:SD->Sp}
  (hn:l.most=some n)(j:n<=sizeLine)(N:d.params.defaults=[])(m:eJ k zbD)
  (F:∀(w:zam)(mg:Str->Option Value)(p:Addr)(h:Heap),YP w h->h.Ns zas mg->mg d.name=some (.ref p)->
   ∃K:SD,K.In h/\∃fd:zaB,(∀(s:Shared)(u:Value),zbz s fd ⟨[u],[]⟩ [(x,u)])/\∀base:Heap,K.In base->base.Ns zas mg->fE l.prog w K mg base CX k p fd [x] (sp K))
  (hx:∀l H s e s',CX l H s (λ_ _ _=>False) e s'->False) (y:∀(K:SD)(H:Hp)(a:Addr)(ns:List Int),ns.length<=n->Ly H->eI K H a (ns.map V.int)->sp K [.ref a] H (λv _=>v=.bl true) λ_ _ _=>False):
  YT q loose XP YP l.row.toRowW d [] (λf vs=>Yk f vs):=by
 refine Att.rZ hn N λw s₀ Z mg mb p o pm cd doc a vs ns G Y ho hd c Q L X J C=>?_;obtain⟨K,S,fd,hb,E⟩:=F w mg p _ Y G.T.g Q;exact DQ S G.T.g G.T.b G.T.builtins G.T.nolimit C L X (Tn J j) m E hb (λH i R=>y K H a ns J i R) λH e s' z=>hx _ _ _ _ _ z
end W
namespace M
open PySem L2
structure FI where
 n:Nat
 m:Ms
 mu:List Bool
 df:List A
 hf:Bool
structure Tb where
 fns:List (Str×FI)
 cst:List (Str×A)
 exs:List Str
 kit:List (Str×List (Str×Bool))
 exm:List (Str×List Str)
 fld:List (Str×List Str)
 ini:List (Str×FI)
 mts:List (Str×Str×FI)
structure Sc where
 N:List Str
 nm:List (Str×NameKind)
 di:List Str
 ca:List Str
 hd:Bool
 lv:List Str
 tp:Bool:=false
noncomputable def MK(s:Sc):Sc:={ s with tp:=false }
noncomputable def ao{α β:Type}(x:Option α)(f:α->Option β):Option β:=match x with
 |some a=>f a
 |none=>none
noncomputable def cY{α:Type}(b:Bool)(x:Option α):Option α:=match b with
 |true=>x
 |false=>none
variable{α:Type}
theorem aa{β:Type}{x:Option α}{f:α->Option β}{y:β}(h:ao x f=some y):∃a,x=some a/\f a=some y:=by
 cases x with
 |none=>cases h
 |some a=>exact⟨a,rfl,h⟩
theorem au{b:Bool}{x:Option α}{y:α}(h:cY b x=some y):b=true/\x=some y:=by
 cases b with
 |false=>cases h
 |true=>exact⟨rfl,h⟩
def rC(s:Sc)(x:Str)(k:NameKind):Bool:=s.nm.lookup x==some k
def FD(s:Sc)(x:Str):Bool:=rC s x .local || rC s x .cell || rC s x .free
def uG(s:Sc)(x:Str):Bool:=rC s x .local || rC s x .cell
noncomputable def okN(x:Str):Bool:=!(x==("__debug__" : Str))&&!(x==("__classdict__" : Str))
def sA(s:Sc)(x:Str):Bool:=rC s x .globalImplicit&&okN x
def tU(x:Str):List Str->Nat->Option Nat
 |[],_=>none
 |y::ys,i=>if x==y then some i else tU x ys (i+1)
theorem ni{x:Str}:∀{N:List Str}{k i:Nat},tU x N k=some i->∃j,i=k+j/\N[j]?=some x
 |[],_,_,h=>by cases h
 |y::ys,k,i,h=>by
  unfold tU at h;split at h
  .rename_i e;cases h;exact⟨0,rfl,by rw[zcz.mp e];rfl⟩
  .obtain⟨j,D,l⟩:=ni h;exact⟨j+1,by lia,by simpa using l⟩
def slot(s:Sc)(x:Str):Option Nat:=cY (FD s x&&okN x) (tU x s.N 0)
def gx(s:Sc)(x:Str):Option Nat:=cY (uG s x&&okN x) (tU x s.N 0)
noncomputable def EV:List Str:=["len", "isinstance", "abs", "max", "min", "int", "bool", "str", "tuple", "list", "dict", "range", "ValueError", "sorted", "all", "zip", "set", "sum", "enumerate", "any", "reversed"]
def mU(P:Program)(w:zam)(K:SD)(mg:Str->Option Value)(fd:zaB)(ps:List Str)(df:List A):Prop:=∀j,j<=df.length->∃ds dvs,Binds K fd ps ds/\Vals dvs ds/\∀G,br ⟨K,mg,P,w⟩ G dvs (df.drop j)
def CZ(fi:FI)(n:Nat):List A:=fi.df.drop (fi.df.length-(fi.n-n))
variable{w:zam}{K:SD}{mg:Str->Option Value}{fd:zaB}{ps:List Str}
theorem mU.of{P:Program}{fi:FI}(h:mU P w K mg fd ps fi.df)(n:Nat):∃ds dvs,Binds K fd ps ds/\Vals dvs ds/\∀G,br ⟨K,mg,P,w⟩ G dvs (CZ fi n):=h _ (Nat.sub_le _ _)
noncomputable def Ny(tb:Tb)(f:Str):List Str:=(tb.fld.filter λp=>p.2.contains f).map (·.1)
structure Gd(tb:Tb)(k:Nat)(P:Program)(w:zam)(K:SD)(mg:Str->Option Value)(base:Heap):Prop where
 fn:∀x f,tb.fns.lookup x=some f->∃a fd ps,fE P w K mg base zJ k a fd ps (D4 ⟨K,mg,P,w⟩ f.n f.m)/\mg x=some (.ref a)/\UA K (.ref a)=true/\mU P w K mg fd ps f.df
 cs:∀x a,tb.cst.lookup x=some a->∃v u,mg x=some u/\RelV v u/\∀G,RA ⟨K,mg,P,w⟩ G v a
 bl:∀x∈EV,mg x=none
 fl:∀f c C,(Ny tb f).contains c=true->mg c=some (.ref C)->MR K C/\Lz K C f
 im:∀c f,tb.ini.lookup c=some f->∃C a fd ps j,j+1<=k/\fE P w K mg base zJ j a fd ps (D4 ⟨K,mg,P,w⟩ f.n f.m)/\mg c=some (.ref C)/\Mk K C a/\mU P w K mg fd ps f.df
 mt:∀m c f,(m,c,f)∈tb.mts->∃C a fd ps,fE P w K mg base zJ k a fd ps (D4 ⟨K,mg,P,w⟩ f.n f.m)/\mg c=some (.ref C)/\MR K C/\Meth K C m a/\mU P w K mg fd ps f.df
structure Sit(tb:Tb)(k:Nat)(X:Cx)(E:XK)(s:Sc):Prop where
 n:X.N=s.N
 nd:s.N.Nodup
 gl:∀x,s.nm.lookup x=some .globalImplicit->Gl X x
 vs:∀x,FD s x=true->pD X.env.scope x
 lo:∀x,uG s x=true->Loc X.env.scope x
 lc:∀x,s.nm.lookup x=some .local->X.env.scope.names.lookup x=some .local
 ce:∀x,s.nm.lookup x=some .cell->X.env.scope.names.lookup x=some .cell
 fx:∀x,uG s x=true->X.fn x=true\/X.env.scope.names.lookup x=some .local
 cm:s.hd=false->X.calm=true
 rm:s.hd=false->eJ k X.A
 ps:s.hd=false->Passes zJ X E
 gd:Gd tb k X.prog X.w X.K X.mg X.base
section
variable{tb:Tb}{k:Nat}{X:Cx}{E:XK}{s:Sc}
theorem qm{x:Str}(h:okN x=true):gA x/\sX x:=by
 delta okN at h
 rw[SA] at h
 exact⟨by simpa using h.1,by simpa using h.2⟩
theorem Sit.slot(S:Sit tb k X E s){x:Str}{i:Nat}(h:M.slot s x=some i):X.N[i]?=some x/\pD X.env.scope x/\gA x/\sX x:=by
 obtain⟨h1,h2⟩:=au h;rw[SA] at h1;obtain⟨j,D,l⟩:=ni h2;obtain rfl:i=j:=by lia
 exact⟨by rw[S.n];exact l,S.vs x h1.1,(qm h1.2).1,(qm h1.2).2⟩
theorem Sit.gx(S:Sit tb k X E s){x:Str}{i:Nat}(h:M.gx s x=some i):X.N[i]?=some x/\Loc X.env.scope x/\gA x/\(X.fn x=true\/X.env.scope.names.lookup x=some .local):=by
 obtain⟨h1,h2⟩:=au h;rw[SA] at h1;obtain⟨j,D,l⟩:=ni h2;obtain rfl:i=j:=by lia
 exact⟨by rw[S.n];exact l,S.lo x h1.1,(qm h1.2).1,S.fx x h1.1⟩
theorem Sit.glob(S:Sit tb k X E s){x:Str}(h:sA s x=true):Gl X x/\gA x:=by
 delta sA rC at h
 rw[SA,zcz] at h
 exact⟨S.gl x h.1,(qm h.2).1⟩
end
noncomputable def notStar:Expr->Bool
 | .Starred _ _=>false
 |_=>true
variable{e:Expr}
theorem aJ(h:notStar e=true)(es:List Expr)(env:Env):zai (e::es) env=(false,eval e env)::zai es env:=by cases e<;>first|rfl|cases h
theorem nc{env:Env}{pos:Pos}:∀{es:List Expr},es.all notStar=true->(zaG pos (zai es env)).any (·.1)=false
 |[],_=>rfl
 |e::es,h=>by rw[T5,SA] at h;rw[aJ h.1];show (false || (zaG pos (zai es env)).any (·.1))=false;rw[nc h.2];rfl
noncomputable def jw:Expr->Bool
 | .ListComp _ _ _ _=>false
 | .SetComp _ _ _ _=>false
 | .DictComp _ _ _ _ _=>false
 |_=>true
theorem hJ(h:jw e=true)(t:Option Expr)(l:Nat)(env:Env):zaJ e t l env=pure false:=by cases e<;>first|rfl|cases h
noncomputable def mP:Expr->Bool
 | .Set _ _ _=>false
 |_=>true
theorem fX(h:mP e=true)(env:Env)(x:Value):zax e env x=pure x:=by cases e<;>first|exact rfl|cases h
noncomputable def plainT:Expr->Bool
 | .UnaryOp _ _ _=>false
 | .BoolOp _ _ _=>false
 | .IfExp _ _ _ _=>false
 | .Compare _ _ _ _=>false
 |_=>true
theorem vd(h:plainT e=true)(env:Env):∀I,zcc e env I=(do let v <- I;zci e.pos;holding [v] (truthy v)):=by intro I;cases e<;>first|rfl|cases h
noncomputable def dE:Expr->Bool
 | .Slice _ _ _ _=>false
 |_=>true
theorem vi(h:dE e=true):k9 e:=by intro o i;cases e<;>first|rfl|cases h
theorem wy(h:dE e=true):uX e:=by intro o i;cases e<;>first|rfl|cases h
variable{op:zbq}
theorem sS(h:mP e=true):zat op e=false:=by cases e<;>first|rfl|cases h
theorem wc{env:Env}:∀es:List Expr,(zaE es env).length=es.length
 |[]=>rfl
 |e::es=>by cases e<;>(show (_::zaE es env).length=_;rw[S5,S5,wc es])
theorem r9{env:Env}:∀es:List Expr,es.all notStar=true->(zaE es env).findIdx? (·.1)=none
 |[],_=>rfl
 |e::es,h=>by
  rw[T5,SA] at h;have m:=r9 (env:=env) es h.2;have D:zaE (e::es) env=(false,assign e env)::zaE es env:=by cases e<;>first|rfl|cases h.1
  rw[D,List.findIdx?_cons];simp[m]
variable{env:Env}
theorem Bf{es:List Expr}(h:notStar e=true):(zaE (e::es) env).map (·.2)=assign e env::(zaE es env).map (·.2):=by cases e<;>first|rfl|cases h
variable{q:Mi Rr}{pos p:Pos}{f:Str}
section
variable{tb:Tb}{k:Nat}{X:Cx}{E:XK}{s:Sc}
def BS(F:Expr->Option (Mi Rr)):List Expr->Option (Mi (List Rr))
 |[]=>some dW
 |e::es=>cY (notStar e) (ao (F e) λm=>ao (BS F es) λn=>some (cM m n))
def Jy(F G:Expr->Option (Mi Rr)):List Expr->List Bool->Option (Mi (List Rr))
 |[],_=>some dW
 |e::es,b::bs=>cY (notStar e) (ao (match b with|true=>F e|false=>G e) λm=>ao (Jy F G es bs) λn=>some (cM m n))
 |_::_,[]=>none
def NL(m:Mi (List Rr))(n:Nat):Prop:=∀Z rs O,m Z=some (.ok rs,O)->rs.length=n
theorem kX{F:Expr->Option (Mi Rr)}(h:∀e m,F e=some m->JE X E e m):∀{es:List Expr}{m:Mi (List Rr)},BS F es=some m->JA X E es m/\NL m es.length/\es.all notStar=true
 |[],m,e=>by cases e;exact⟨vI,ur,rfl⟩
 |a::es,m,e=>by obtain⟨h1,e⟩:=au e;obtain⟨H,D,e⟩:=aa e;obtain⟨L,l,e⟩:=aa e;cases e;obtain⟨z,B,j⟩:=kX h l;exact⟨qP (h _ _ D) z (aJ h1 _ _),qy B,by rw[T5,h1,j];rfl⟩
theorem wq{F G:Expr->Option (Mi Rr)}(h:∀e m,F e=some m->JE X E e m)(g:∀e m,G e=some m->JE X E e m):∀{es:List Expr}{bs:List Bool}{m:Mi (List Rr)},Jy F G es bs=some m->JA X E es m/\NL m es.length/\es.all notStar=true
 |[],_,m,e=>by cases e;exact⟨vI,ur,rfl⟩
 |_::_,[],m,e=>by cases e
 |a::es,b::bs,m,e=>by
  obtain⟨h1,e⟩:=au e;obtain⟨H,D,e⟩:=aa e;obtain⟨L,l,e⟩:=aa e;cases e;obtain⟨z,B,j⟩:=wq h g l;refine⟨qP ?_ z (aJ h1 _ _),qy B,by rw[T5,h1,j];rfl⟩;cases b
  .exact g _ _ D
  .exact h _ _ D
def Qz(op:BoolOp)(F:Expr->Option (Mi Rr)):List Expr->Option (Mi Rr)
 |[]=>none
 |[a]=>F a
 |a::b::r=>ao (F a) λm=>ao (Qz op F (b::r)) λn=>(match op with | .And=>some (Bx m n) | .Or=>none)
theorem AZ{op:BoolOp}{F:Expr->Option (Mi Rr)}{pos:Pos}(h:∀e m,F e=some m->JE X E e m):∀{es:List Expr}{m:Mi Rr},Qz op F es=some m->JE X E (.BoolOp op es pos) m
 |[],m,e=>by cases e
 |[a],m,e=>L5 (h _ _ e)
 |a::b::r,m,e=>by
  obtain⟨H,D,e⟩:=aa e;obtain⟨L,l,e⟩:=aa e;have i:=AZ (pos:=pos) h l;cases op
  .cases e;exact KN (h _ _ D) i
  .cases e
def Qh(op:BoolOp)(F:Expr->Option (Mi Bool)):List Expr->Option (Mi Bool)
 |[]=>none
 |[a]=>F a
 |a::b::r=>ao (F a) λm=>ao (Qh op F (b::r)) λn=>some (match op with | .And=>n9 m n | .Or=>zh m n)
theorem CJ{op:BoolOp}{F:Expr->Option (Mi Bool)}{pos:Pos}(h:∀e m,F e=some m->JT X E e m):∀{es:List Expr}{m:Mi Bool},Qh op F es=some m->JW X E (.BoolOp op es pos) m
 |[],m,e=>by cases e
 |[a],m,e=>by cases op;exact Eh (h _ _ e);exact IU (h _ _ e)
 |a::b::r,m,e=>by
  obtain⟨H,D,e⟩:=aa e;obtain⟨L,l,e⟩:=aa e;have i:=CJ (pos:=pos) h l;cases op
  .cases e;exact IA (h _ _ D) i
  .cases e;exact OK (h _ _ D) i
noncomputable def Of(s:Sc):Expr->Bool
 | .Name x _=>s.di.contains x
 |_=>false
def Oo(s:Sc):Expr->Bool
 | .List es _=>es.all (Of s)
 |_=>false
def kC(s:Sc):Expr->Bool
 | .Name x _=>s.di.contains x
 | .Subscript o _ _=>Oo s o
 | .Dict _ _ _=>true
 | .List es _=>es.any (Of s)
 | .Call _ _ _ _=>true
 |_=>false
def Rp(s:Sc)(op:zbq)(a b:Expr)(m n:Mi Rr):Option (Mi Rr):=match op with
 | .Eq=>cY (!s.hd) (some (ay (match kC s a&&kC s b with|true=>bP (bP fI jk) iu|false=>fI) m n))
 | .NotEq=>cY (!s.hd) (some (ay (match kC s a&&kC s b with|true=>bP (bP (bP fM kD) jJ) jc|false=>fM) m n))
 | .Lt=>some (ay ou m n)
 | .LtE=>none
 | .GtE=>some (ay MO m n)
 | .Is=>some (ay (Kn false) m n)
 | .NotIn=>cY (!s.hd&&mP b) (some (ay (bP (bP (bP (nZ true) (jr true)) (uy true)) (sR true)) m n))
 |_=>none
theorem IG(S:Sit tb k X E s){a b:Expr}{m n:Mi Rr}(h:Rp s op a b m n=some q)(d:JE X E a m)(hb:JE X E b n):JE X E (.Compare a [op] [b] pos) q/\JT X E (.Compare a [op] [b] pos) (aq q):=by
 cases op
 case Eq=>
  obtain⟨h1,h⟩:=au h;have f:=(S.rm (by simpa using h1)).units;cases e:kC s a&&kC s b<;>rw[e] at h<;>cases h
  .exact⟨NH f d hb,Og f d hb⟩
  .exact⟨Kh f d hb,Je f d hb⟩
 case NotEq=>
  obtain⟨h1,h⟩:=au h;have f:=(S.rm (by simpa using h1)).units;cases e:kC s a&&kC s b<;>rw[e] at h<;>cases h
  .exact⟨M0 f d hb,Ov f d hb⟩
  .exact⟨My f d hb,IZ f d hb⟩
 case Lt=>cases h;exact⟨Nv d hb,O6 d hb⟩
 case LtE=>cases h
 case Gt=>cases h
 case GtE=>cases h;exact⟨OR d hb,Nb d hb⟩
 case Is=>cases h;exact⟨Px d hb,Ph d hb⟩
 case IsNot=>cases h
 case In=>cases h
 case NotIn=>obtain⟨h1,h⟩:=au h;rw[SA] at h1;have f:=rF (S.rm (by simpa using h1.1));cases h;exact⟨GC f (S.rm (by simpa using h1.1)).units d hb (sS h1.2),E9 f (S.rm (by simpa using h1.1)).units d hb (sS h1.2)⟩
def P5(f:Str):Option (A->Option Rr):=
 if f==("len" : Str) then some eX else if f==("abs" : Str) then some sD else if f==("int" : Str) then some yI else if f==("tuple" : Str) then some jZ else
 if f==("list" : Str) then some xY else if f==("sorted" : Str) then some (zL bW cn) else if f==("dict" : Str) then some pT else
 none
theorem bu(S:Sit tb k X E s){x:Str}(h:EV.contains x=true):X.mg x=none:=S.gd.bl x (Wg.mp h)
theorem Mn(S:Sit tb k X E s){g:A->Option Rr}{a:Expr}{m:Mi Rr}(h:P5 f=some g)(J:sA s f=true)(c:s.hd=false)(hs:notStar a=true)(d:JE X E a m):JE X E (.Call (.Name f p) [a] [] pos) (dw g m):=by
 obtain⟨q,y⟩:=S.glob J;have hc:=S.cm c;have h1:=aJ hs [] X.env;have h2:(zaG pos (zai [] X.env)).any (·.1)=false:=rfl
 delta P5 at h
 split at h
 .rename_i z;rw[zcz] at z;subst z;cases h;exact v8 Cz J2 q (bu S UV) AU d UV y h1 h2
 split at h
 .rename_i z;rw[zcz] at z;subst z;cases h;exact v8 BG Iq q (bu S UV) IK d UV y h1 h2
 split at h
 .rename_i z;rw[zcz] at z;subst z;cases h;exact wR yd Jc q (bu S UV) Bn d UV y h1 h2
 split at h
 .rename_i z;rw[zcz] at z;subst z;cases h;exact wR n8 A4 q (bu S UV) so d UV y h1 h2
 split at h
 .rename_i z;rw[zcz] at z;subst z;cases h;exact wR qh EI q (bu S UV) wb d UV y h1 h2
 split at h
 .rename_i z;rw[zcz] at z;subst z;cases h;exact v8 (qA hc) ze q (bu S UV) jW d UV y h1 h2
 split at h
 .rename_i z;rw[zcz] at z;subst z;cases h;exact wR vw Ak q (bu S UV) qj d UV y h1 h2
 .cases h
def ON(f:Str):Option (A->A->Option Rr):=if f==("max" : Str) then some Ea else if f==("min" : Str) then some Ey else none
theorem B0(S:Sit tb k X E s){g:A->A->Option Rr}{a b:Expr}{m n:Mi Rr}(h:ON f=some g)(J:sA s f=true)(c:s.hd=false)(hs:notStar a=true)(i:notStar b=true)(d:JE X E a m)(hb:JE X E b n):JE X E (.Call (.Name f p) [a,b] [] pos) (Ed g m n):=by
 obtain⟨q,y⟩:=S.glob J;have hc:=S.cm c;have h1:=aJ hs [b] X.env;have h3:=aJ i [] X.env;have h2:(zaG pos (zai [b] X.env)).any (·.1)=false:=nc (by rw[T5,i];rfl)
 delta ON at h
 split at h
 .rename_i z;rw[zcz] at z;subst z;cases h;exact Hj (yQ hc) LX q (bu S UV) LB d hb UV y h1 h3 h2
 split at h
 .rename_i z;rw[zcz] at z;subst z;cases h;exact Hj (yJ hc) Ik q (bu S UV) IW d hb UV y h1 h3 h2
 .cases h
noncomputable def QJ(x:Str):Option Ty:=if x==("int" : Str) then some .int else if x==("bool" : Str) then some .bool else if x==("str" : Str) then some .str else if x==("tuple" : Str) then some .tuple else if x==("list" : Str) then some .list else if x==("dict" : Str) then some .dict else none
theorem Lm{x:Str}{T:Ty}(h:QJ x=some T):zal x=some (.type T.n)/\EV.contains x=true/\x ≠ "__name__" := by
 delta QJ at h
 split at h
 .rename_i z;rw[zcz] at z;subst z;cases h;exact⟨Bn,by decide +kernel,by decide +kernel⟩
 split at h
 .rename_i z;rw[zcz] at z;subst z;cases h;exact⟨G5,by decide +kernel,by decide +kernel⟩
 split at h
 .rename_i z;rw[zcz] at z;subst z;cases h;exact⟨J0,by decide +kernel,by decide +kernel⟩
 split at h
 .rename_i z;rw[zcz] at z;subst z;cases h;exact⟨so,by decide +kernel,by decide +kernel⟩
 split at h
 .rename_i z;rw[zcz] at z;subst z;cases h;exact⟨wb,by decide +kernel,by decide +kernel⟩
 split at h
 .rename_i z;rw[zcz] at z;subst z;cases h;exact⟨qj,by decide +kernel,by decide +kernel⟩
 .cases h
end
structure Tr where
 E:Sc->Expr->Option (Mi Rr)
 T:Sc->Expr->Option (Mi Bool)
 I:Sc->Expr->Expr->Option (Mi (List A))
structure bQ(tb:Tb)(k:Nat)(r:Tr):Prop where
 E:∀{X E s e m},Sit tb k X E s->r.E s e=some m->JE X E e m
 T:∀{X E s e m},Sit tb k X E s->r.T s e=some m->JT X E e m
 I:∀{X E s tg e m},Sit tb k X E s->r.I s tg e=some m->JI X E tg e m
def Co(s:Sc)(lo:Nat):Nat->Expr->Option Mg
 |0,_=>none
 |d+1,.Name x _=>ao (gx s x) λi=>cY (Xb lo i) (some (aF i))
 |d+1,.Tuple es _ _=>cY (!s.hd) (ao (trGs (Co s lo d) es) λgs=>some (dH es.length gs))
 |_+1,_=>none
where trGs (F:Expr->Option Mg):List Expr->Option D2
 |[]=>some d5
 |e::es=>cY (notStar e) (ao (F e) λg=>ao (trGs F es) λgs=>some (aH g gs))
variable{r:Tr}{tg:Expr}
section
variable{tb:Tb}{k:Nat}{X:Cx}{E:XK}{s:Sc}
theorem xC{lo:Nat}{F:Expr->Option Mg}(h:∀e g,F e=some g->JG X lo e g):∀{es:List Expr}{gs:D2},Co.trGs F es=some gs->Ng X lo es gs/\es.all notStar=true
 |[],gs,e=>by cases e;exact⟨EL,rfl⟩
 |a::es,gs,e=>by obtain⟨h1,e⟩:=au e;obtain⟨g,D,e⟩:=aa e;obtain⟨b,l,e⟩:=aa e;cases e;obtain⟨z,B⟩:=xC h l;exact⟨Aj (h _ _ D) z (λx y=>Cf x y (Bf h1)),by rw[T5,h1,B];rfl⟩
theorem jP(S:Sit tb k X E s){lo:Nat}:∀{d:Nat}{e:Expr}{g:Mg},Co s lo d e=some g->JG X lo e g
 |0,e,g,h=>by cases h
 |d+1,e,g,h=>by
  cases e with
  |Name x p=>obtain⟨i,D,h⟩:=aa h;obtain⟨h1,h⟩:=au h;cases h;obtain⟨a,U,o,b⟩:=S.gx D;exact Fi (by rw[S.n];exact S.nd) a U (Wh h1) b
  |Tuple es p q=>obtain⟨B,h⟩:=au h;obtain⟨gs,D,h⟩:=aa h;cases h;obtain⟨z,v⟩:=xC (λe g h=>jP S h) D;have hc:=S.cm (by simpa using B);exact LQ hc z (wc _) (r9 _ v)
  |_=>exact cu h
noncomputable def Jf:Expr->Bool
 | .Tuple _ _ _=>true
 |_=>false
noncomputable def Ro:Expr->Bool
 | .Name _ _=>true
 |_=>false
def Le(r:Tr)(s:Sc)(tg:Expr):Expr->Option (Mi (List A))
 | .Call (.Name f p) [a] [] pos=>match f==("range" : Str) with
  |true=>cY (sA s f&&notStar a) (ao (r.E s a) λm=>some (eR m))
  |false=>ao (r.E s (.Call (.Name f p) [a] [] pos)) λm=>some (cC m)
 |e=>ao (r.E s e) λm=>some (cC m)
theorem FZ(R:bQ tb k r)(S:Sit tb k X E s){m:Mi (List A)}(h:Le r s tg e=some m):JI X E tg e m:=by
 have o:∀{e:Expr}{m:Mi (List A)},(ao (r.E s e) λm=>some (cC m))=some m->JI X E tg e m:=λh=>by obtain⟨H,D,h⟩:=aa h;cases h;exact KD (R.E S D)
 cases e with
 |Call f as ks pos=>
  cases f with
  |Name f p=>
   cases as with
   |nil=>exact o h
   |cons a as=>
    cases as with
    |cons=>exact o h
    |nil=>
     cases ks with
     |cons=>exact o h
     |nil=>
      delta Le at h
      dsimp only at h
      split at h
      .rename_i z;rw[zcz] at z;subst z
       obtain⟨h1,h⟩:=au h
       rw[SA] at h1
       obtain⟨H,D,h⟩:=aa h
       cases h
       exact GR (S.glob h1.1).1 (bu S UV) (R.E S D) (aJ h1.2 _ _) (aJ h1.2 _ _)
      .exact o h
  |_=>exact o h
 |_=>exact o h
noncomputable def nY{α:Type}(a b:Option α):Option α:=match a with
 |some x=>some x
 |none=>b
theorem aY{a b:Option α}{x:α}(h:nY a b=some x):a=some x\/b=some x:=by
 cases a with
 |none=>exact .inr h
 |some y=>exact .inl h
def QO(r:Tr)(s:Sc)(tg e:Expr):Option (Mi (List A)):=nY (r.I s tg e) (Le r s tg e)
theorem BW(R:bQ tb k r)(S:Sit tb k X E s){m:Mi (List A)}(h:QO r s tg e=some m):JI X E tg e m:=by
 rcases aY h with h|h
 .exact R.I S h
 .exact FZ R S h
noncomputable def Q4:Nat->Expr->List Str
 |0,_=>[]
 |_+1,.Name x _=>[x]
 |d+1,.Tuple es _ _=>es.flatMap (Q4 d)
 |_+1,_=>[]
noncomputable def Pp(N own:List Str):List Str:=N.map (λn=>if own.contains n then n++(" (of the def)" : Str) else n)++own
def sj(s:Sc)(N:List Str)(own:Nat)(sc:Scope):Bool:=
 sc.kind==.function&&sc.names.all (λy=>y.2 != .cell)&&sc.names.all (λy=>y.2 != .local || sc.names.lookup y.1==some .local)&&N.length==s.N.length+own&&decide N.Nodup &&
 ((N.take s.N.length).zip s.N).all (λp=>p.1==p.2 || sc.names.lookup p.1==none)&&(N.take s.N.length).all (λn=>sc.names.lookup n != some .local)&&sc.names.all (λy=>y.2 != .free || s.nm.lookup y.1==some .cell)
def uB(s:Sc)(N:List Str)(sc:Scope):Sc:={ N:=N,nm:=sc.names,di:=s.di,ca:=[],hd:=false,lv:=s.lv }
end
variable{N:List Str}{own:Nat}{elt:Expr}{gs:List za4}{args:List Expr}
section
variable{tb:Tb}{k:Nat}{X:Cx}{E:XK}{s:Sc}
theorem dD{α:Type}{x:Str}{v:α}:∀{l:List (Str×α)},l.lookup x=some v->(x,v)∈l
 |(y,u)::l,h=>by
  rw[TQ] at h;split at h
  .rename_i e;cases h;rw[zcz.mp e];exact SH
  .exact SK _ (dD h)
theorem Sit.comp(S:Sit tb k X E s){sc:Scope}(h:sj s N own sc=true)(c:s.hd=false):
  fB X.N N own sc X.env.scope/\∀cl C u H fp,Sit tb k (g9 X N sc cl C u H fp) rq (uB s N sc):=by
 delta sj at h
 simp only[SA,zcz,decide_eq_true_eq,Tq,Uh,bne_iff_ne,ne_eq] at h
 obtain⟨⟨⟨⟨⟨⟨⟨h1,h2⟩,h3⟩,h4⟩,h5⟩,a⟩,b⟩,v⟩:=h
 refine⟨⟨h1,h2,λy hy e=>?_,by rw[S.n];exact h4,h5,by rw[S.n];exact a,by rw[S.n];exact b,λy hy e=>?_⟩,λcl C u H fp=>?_⟩
 .rcases h3 y hy with z|z
  .exact absurd e z
  .exact z
 .rcases v y hy with z|z
  .exact absurd e z
  .exact .inl (S.ce _ z)
 .have loc:∀x,uG (uB s N sc) x=true->sc.names.lookup x=some .local:=λx hx=>by
   delta uG rC uB at hx
   simp only[Uh,zcz] at hx
   rcases hx with z|z
   .exact z
   .exact absurd rfl (h2 _ (dD z))
  refine⟨rfl,h5,λx hx=>CL hx,λx hx=>?_,λx hx=>.inl (g8 (loc x hx)),λx hx=>g8 hx,λx hx=>absurd rfl (h2 _ (dD hx)),λx hx=>.inr (g8 (loc x hx)),λ_=>S.cm c,λ_=>S.rm c,λ_=>(λ_ _ _ _ _ _ _ x=>x.elim),S.gd⟩
  unfold FD rC uB at hx
  simp only[Uh,zcz] at hx
  rcases hx with (z|z)|z
  .exact .inl (g8 z)
  .exact absurd rfl (h2 _ (dD z))
  .exact rJ z
def Es(r:Tr)(s:Sc):List Expr->Option (Mi Bool)
 |[]=>some cB
 |[t]=>r.T s t
 |_=>none
def p5(r:Tr)(s:Sc)(elt:Expr)(gs:List za4)(sc:Scope):Option (Mi Rr):=match gs with
 |[g]=>
  let own:=Q4 9 g.target
  let N:=Pp s.N own
  let s':=uB s N sc
  cY (!s.hd&&g.is_async==0&&mP g.iter&&sj s N own.length sc) (ao (QO r s g.target g.iter) λy=>ao (Co s' s.N.length 9 g.target) λG=>ao (Es r s' g.ifs) λmt=>ao (r.E s' elt) λf=>some (c9 own.length y G mt f))
 |_=>none
theorem xF(R:bQ tb k r)(S:Sit tb k X E s){ifs:List Expr}{m:Mi Bool}(h:Es r s ifs=some m):JF X E ifs m:=by
 delta Es at h
 split at h
 .cases h;exact IP
 .exact Ip (R.T S h)
 .cases h
theorem ot(R:bQ tb k r)(S:Sit tb k X E s){sc:Scope}{m:Mi Rr}(h:p5 r s elt gs sc=some m):
  s.hd=false/\∃N own tg iter ifs y G mt f,gs=[⟨tg,iter,ifs,0⟩]/\m=c9 own y G mt f/\fB X.N N own sc X.env.scope/\JI X E tg iter y/\(∀cl C u H fp,JG (g9 X N sc cl C u H fp) X.N.length tg G) /\
   (∀cl C u H fp,JF (g9 X N sc cl C u H fp) rq ifs mt)/\(∀cl C u H fp,JE (g9 X N sc cl C u H fp) rq elt f)/\∀x,zax iter X.env x=pure x:=by
 delta p5 at h
 split at h
 .rename_i g
  obtain⟨tg,iter,ifs,Y⟩:=g
  obtain⟨B,h⟩:=au h
  simp only[SA,zcz,Te] at B
  obtain⟨⟨⟨h1,rfl⟩,h3⟩,h4⟩:=B
  obtain⟨y,D,h⟩:=aa h
  obtain⟨G,l,h⟩:=aa h
  obtain⟨mt,t,h⟩:=aa h
  obtain⟨f,v,h⟩:=aa h
  cases h
  obtain⟨a,e⟩:=S.comp h4 h1
  exact⟨h1,_,_,tg,iter,ifs,y,G,mt,f,rfl,rfl,a,BW R S D,λcl C u H fp=>by rw[S.n];exact jP (e cl C u H fp) l,λcl C u H fp=>xF R (e cl C u H fp) t,λcl C u H fp=>R.E (e cl C u H fp) v,fX h3 _⟩
 .cases h
def Q1(F:Expr->Option (Mi Rr)):Option Expr->Option (Mi (Option Int))
 |none=>some kT
 |some e=>ao (F e) λm=>some (iE m)
theorem DP{F:Expr->Option (Mi Rr)}(h:∀e m,F e=some m->JE X E e m){o:Option Expr}{m:Mi (Option Int)}(e:Q1 F o=some m):JP X E o m:=by
 cases o with
 |none=>cases e;exact GO
 |some a=>obtain⟨H,D,e⟩:=aa e;cases e;exact FA (h _ _ D)
def Hl(r:Tr)(s:Sc)(a:Expr):Expr->Option (Mi Rr)
 | .Slice lo hi none _=>ao (r.E s a) λm=>ao (Q1 (r.E s) lo) λH=>ao (Q1 (r.E s) hi) λq=>some (JC m H q)
 |b=>cY (dE b&&!s.hd) (ao (r.E s a) λm=>ao (r.E s b) λn=>some (ay (bP ub gH) m n))
theorem B9(R:bQ tb k r)(S:Sit tb k X E s){a b:Expr}{m:Mi Rr}(h:Hl r s a b=some m):JE X E (.Subscript a b pos) m:=by
 have o:∀{b:Expr},cY (dE b&&!s.hd) (ao (r.E s a) λm=>ao (r.E s b) λn=>some (ay (bP ub gH) m n))=some m->JE X E (.Subscript a b pos) m:=λh=>by obtain⟨B,h⟩:=au h;rw[SA,Te] at B;obtain⟨H,D,h⟩:=aa h;obtain⟨L,l,h⟩:=aa h;cases h;exact M9 (rF (S.rm B.2)) (R.E S D) (R.E S l) (vi B.1) (wy B.1)
 cases b with
 |Slice lo hi st=>
  cases st with
  |none=>obtain⟨H,D,h⟩:=aa h;obtain⟨L,l,h⟩:=aa h;obtain⟨e,N,h⟩:=aa h;cases h;exact M4 (R.E S D) (DP (λ_ _=>R.E S) l) (DP (λ_ _=>R.E S) N)
  |some=>exact o h
 |_=>exact o h
noncomputable def Sn(f:Str):Bool:=match f.cps[0]? with
 |some c=>Xb 65 c&&Xb c 90
 |none=>false
def IQ:Expr->Bool
 | .ListComp _ _ _ _=>true
 | .List _ _=>true
 | .Dict _ _ _=>true
 | .BinOp _ .Add _ _=>true
 | .Subscript _ (.Slice _ _ _ _) _=>true
 | .Call (.Name f _) _ _ _=>f==("list" : Str) || f==("sorted" : Str) || f==("dict" : Str) || Sn f
 | .Call (.Attribute _ _ _) _ _ _=>true
 |_=>false
def Rj(r:Tr)(s:Sc)(e:Expr):Option (Mi Rr):=match e with
 | .Name x _=>match s.lv.contains x with
  |true=>r.E s e
  |false=>match slot s x with
   |some i=>some (aj i)
   |none=>r.E s e
 |e=>match IQ e with
  |true=>ao (r.E s e) λm=>some (qH m)
  |false=>r.E s e
theorem J1(R:bQ tb k r)(S:Sit tb k X E s){m:Mi Rr}(h:Rj r s e=some m):JE X E e m:=by
 delta Rj at h
 split at h
 .split at h
  .exact R.E S h
  split at h
  .rename_i D;cases h
   obtain⟨d,U,g,b⟩:=S.slot D
   exact E2 d U g b
  .exact R.E S h
 .split at h
  .obtain⟨H,D,h⟩:=aa h
   cases h;exact HJ (R.E S D)
  .exact R.E S h
def LV(tb:Tb)(r:Tr)(s:Sc)(fi:FI)(args:List Expr):Option (Mi (List Rr)):=cY (args.length+(CZ fi args.length).length==fi.n) (Jy (r.E s) (Rj r s) args fi.mu)
def HE(tb:Tb)(r:Tr)(s:Sc)(a:Expr)(x:Str):Option (Mi Rr):=match QJ x with
 |some T=>ao (r.E s a) λm=>some (dw (yh T) m)
 |none=>none
def Bt(tb:Tb)(r:Tr)(s:Sc)(f:Str)(args:List Expr):Option (Mi Rr):=cY (sA s f) (match tb.fns.lookup f with
 |some fi=>match args with
  |[]=>none
  |a::as=>match s.hd with
   |true=>none
   |false=>ao (LV tb r s fi (a::as)) λm=>some (xG fi.m (CZ fi (a::as).length) m)
 |none=>match args with
  |[a]=>cY (notStar a&&!s.hd) (ao (P5 f) λg=>ao (r.E s a) λm=>some (dw g m))
  |[a,.Name x p]=>match f==("isinstance" : Str) with
   |true=>cY (notStar a&&sA s x) (HE tb r s a x)
   |false=>cY (notStar a&&!s.hd) (ao (ON f) λg=>ao (r.E s a) λm=>ao (r.E s (.Name x p)) λn=>some (Ed g m n))
  |[a,b]=>cY (notStar a&&notStar b&&!s.hd) (ao (ON f) λg=>ao (r.E s a) λm=>ao (r.E s b) λn=>some (Ed g m n))
  | _=>none)
theorem yt(R:bQ tb k r)(S:Sit tb k X E s){m:Mi Rr}(h:Bt tb r s f args=some m):JE X E (.Call (.Name f p) args [] pos) m:=by
 have h':=au h;clear h;obtain⟨J,h⟩:=h';split at h
 .rename_i fi i;split at h
  .cases h
  .rename_i a as;split at h
   .cases h
   rename_i c;obtain⟨C,D,h⟩:=aa h;cases h;obtain⟨h1,D⟩:=au D;obtain⟨U,q,u⟩:=wq (λ_ _=>R.E S) (λ_ _=>J1 R S) D;obtain⟨G,fd,ps,F,d,hk,hb⟩:=S.gd.fn f fi i;obtain⟨ds,dvs,v,Z,j⟩:=hb.of (a::as).length;have e:=u;rw[T5,SA] at e;exact Gx F (S.rm c) (S.glob J).1 d hk v Z j (S.ps c) U (BP q (by rw[zcz] at h1;exact h1)) (S.glob J).2 (aJ e.1 _ _) (nc e.2)
 .have o:∀{a b:Expr},(cY (notStar a&&notStar b&&!s.hd) (ao (ON f) λg=>ao (r.E s a) λm=>ao (r.E s b) λn=>some (Ed g m n)))=some m->JE X E (.Call (.Name f p) [a,b] [] pos) m:=λh=>by obtain⟨B,h⟩:=au h;simp only[SA,Te] at B;obtain⟨g,D,h⟩:=aa h;obtain⟨H,l,h⟩:=aa h;obtain⟨L,N,h⟩:=aa h;cases h;exact B0 S D J B.2 B.1.1 B.1.2 (R.E S l) (R.E S N)
  rcases args with _|⟨a,_|⟨b,_|_⟩⟩
  .cases h
  .obtain⟨B,h⟩:=au h;rw[SA,Te] at B;obtain⟨g,D,h⟩:=aa h;obtain⟨H,l,h⟩:=aa h;cases h;exact Mn S D J B.2 B.1 (R.E S l)
  rotate_left
  .cases b<;>exact cu h
  cases b with
  |Name x O=>
   dsimp only at h;split at h
   .rename_i z;rw[zcz] at z;subst z;obtain⟨B,h⟩:=au h;rw[SA] at B;obtain⟨A,y⟩:=S.glob J;obtain⟨w,P⟩:=S.glob B.2
    delta HE at h
    split at h
    .rename_i T Q;obtain⟨H,l,h⟩:=aa h;cases h;obtain⟨I,K,Y⟩:=Lm Q;exact JN T A (bu S UV) iB w (bu S K) I (R.E S l) UV y Y P (aJ B.1 _ _)
    .cases h
   .obtain⟨B,h⟩:=au h;rw[SA,Te] at B;obtain⟨g,D,h⟩:=aa h;obtain⟨H,l,h⟩:=aa h;obtain⟨L,N,h⟩:=aa h;cases h;exact B0 S D J B.2 B.1 rfl (R.E S l) (R.E S N)
  |_=>exact o h
end
variable{o:Expr}{apos cpos:Pos}
section
variable{tb:Tb}{k:Nat}{X:Cx}{E:XK}{s:Sc}
noncomputable def G7(o:Expr):Bool:=match o with
 | .Call f args kw _=>match f with
  | .Name _ _=>!(args.isEmpty&&kw.isEmpty)
  |_=>true
 |_=>true
theorem k7(h:G7 o=true)(m:Str)(env:Env)(w:Sem Value):zaI o m env w=w:=by
 cases o with
 |Call f args e p=>cases f with
  |Name _ _=>cases args with
   |cons _ _=>rfl
   |nil=>cases e with
    |cons _ _=>rfl
    |nil=>cases h
  |_=>rfl
 |_=>rfl
theorem FK(h:notStar e=true)(cpos:Pos)(env:Env):((zaG cpos (zai [e] env)).all (λx=>!x.1)&&(zbO cpos (zbf [] env)).all (λx=>x.1.isSome)&&decide (([e]:List Expr).length+([]:List za1).length+(if ([]:List za1).isEmpty then 0 else 1)<30))=true:=by rw[aJ h];rfl
def IT(e:Expr):Option (Expr×Str×Pos×Pos):=match e with
 | .Call f args kw cpos=>match f with
  | .Attribute o m apos=>cY (args.isEmpty&&kw.isEmpty) (some (o,m,apos,cpos))
  |_=>none
 |_=>none
theorem yG{m:Str}(h:IT e=some (o,m,apos,cpos)):e=.Call (.Attribute o m apos) [] [] cpos:=by
 delta IT at h
 split at h
 .rename_i f args s c
  split at h
  .obtain⟨B,h⟩:=au h
   rw[SA,T9,T9] at B
   cases h
   rw[B.1,B.2]
  .cases h
 .cases h
def El(e:Expr):Option (Expr×Str×Pos×Expr×Pos):=match e with
 | .Call f args kw cpos=>match f with
  | .Attribute o m apos=>match args with
   |[a]=>cY (kw.isEmpty&&notStar a) (some (o,m,apos,a,cpos))
   |_=>none
  |_=>none
 |_=>none
theorem oP{a:Expr}{m:Str}(h:El e=some (o,m,apos,a,cpos)):e=.Call (.Attribute o m apos) [a] [] cpos/\notStar a=true:=by
 delta El at h
 split at h
 .rename_i f args s c
  split at h
  .split at h
   .obtain⟨B,h⟩:=au h
    rw[SA,T9] at B
    cases h
    rw[B.1]
    exact⟨rfl,B.2⟩
   .cases h
  .cases h
 .cases h
def sY(e:Expr):Option (Str×Pos×Expr×Pos):=match e with
 | .Call f args kw cpos=>match f with
  | .Name x p=>match args with
   |[a]=>cY (kw.isEmpty&&notStar a) (some (x,p,a,cpos))
   |_=>none
  |_=>none
 |_=>none
theorem eD{a:Expr}{x:Str}(h:sY e=some (x,p,a,cpos)):e=.Call (.Name x p) [a] [] cpos/\notStar a=true:=by
 delta sY at h
 split at h
 .rename_i f args s c
  split at h
  .split at h
   .obtain⟨B,h⟩:=au h
    rw[SA,T9] at B
    cases h
    rw[B.1]
    exact⟨rfl,B.2⟩
   .cases h
  .cases h
 .cases h
noncomputable def rz(e:Expr):Option (Str×Pos):=match e with
 | .Name x p=>some (x,p)
 |_=>none
theorem bK{x:Str}(h:rz e=some (x,p)):e=.Name x p:=by
 delta rz at h
 split at h
 .cases h;rfl
 .cases h
def Jg(e:Expr):Option (Str×Pos×Expr×Expr×Pos):=match e with
 | .Call f args kw cpos=>match f with
  | .Name x p=>match args with
   |[a,b]=>cY (kw.isEmpty&&notStar a&&notStar b) (some (x,p,a,b,cpos))
   |_=>none
  |_=>none
 |_=>none
theorem yN{a b:Expr}{x:Str}(h:Jg e=some (x,p,a,b,cpos)):e=.Call (.Name x p) [a,b] [] cpos/\notStar a=true/\notStar b=true:=by
 delta Jg at h
 split at h
 .rename_i f args s c
  split at h
  .split at h
   .obtain⟨B,h⟩:=au h
    rw[SA,SA,T9] at B
    cases h
    rw[B.1.1]
    exact⟨rfl,B.1.2,B.2⟩
   .cases h
  .cases h
 .cases h
noncomputable def Qd:Expr->Bool
 | .Call _ _ _ _=>true
 |_=>false
def tj(tb:Tb)(r:Tr)(s:Sc)(e:Expr):Option (Mi Rr):=ao (sY e) λ(f,_,a,_)=>cY (sA s f&&!s.hd&&Qd a) (ao (tb.fns.lookup f) λfi=>cY (fi.mu==[true]&&1+(CZ fi 1).length==fi.n) (ao (r.E s a) λm=>some (qN fi.m (CZ fi 1) (cM m dW))))
theorem sZ(R:bQ tb k r)(S:Sit tb k X E s)(h:tj tb r s e=some q):JE X E e q:=by obtain⟨⟨f,p,a,cpos⟩,h1,g⟩:=aa h;obtain⟨rfl,hs⟩:=eD h1;obtain⟨h2,g⟩:=au g;simp only[SA,Te] at h2;obtain⟨⟨J,c⟩,_⟩:=h2;obtain⟨fi,b,g⟩:=aa g;obtain⟨h3,g⟩:=au g;rw[SA,zcz (a:=1+_)] at h3;obtain⟨m,D,g⟩:=aa g;cases g;obtain⟨G,fd,ps,F,T,hk,hb⟩:=S.gd.fn f fi b;obtain⟨ds,dvs,v,Z,j⟩:=hb.of 1;exact AW F (S.rm c) (S.glob J).1 T hk v Z j (S.ps c) (qP (R.E S D) vI (aJ hs _ _)) (BP (qy ur) h3.2) (S.glob J).2 (aJ hs _ _) rfl
def xx(_:Tb)(r:Tr)(s:Sc)(e:Expr):Option (Mi Rr):=ao (sY e) λ(f,_,a,_)=>cY (f==("sorted" : Str)&&sA s f&&!s.hd) (ao (rz a) λ(x,_)=>cY (s.di.contains x&&s.lv.contains x) (ao (slot s x) λi=>some (m5 i)))
theorem uJ(R:bQ tb k r)(S:Sit tb k X E s)(h:xx tb r s e=some q):JE X E e q:=by obtain⟨⟨f,p,a,pos⟩,h1,g⟩:=aa h;clear h;obtain⟨rfl,hs⟩:=eD h1;obtain⟨h2,h⟩:=au g;rw[SA,SA,zcz,Te] at h2;obtain⟨⟨rfl,J⟩,c⟩:=h2;obtain⟨⟨x,O⟩,h3,y⟩:=aa h;obtain rfl:=bK h3;obtain⟨_,h⟩:=au y;obtain⟨i,D,h⟩:=aa h;cases h;obtain⟨d,U,o,b⟩:=S.slot D;exact CS (S.cm c) d U o b (S.glob J).1 (bu S UV) jW UV (S.glob J).2 (aJ hs _ _) rfl
def oE(_:Tb)(r:Tr)(s:Sc)(e:Expr):Option (Mi Rr):=ao (El e) λ(o,m,apos,a,cpos)=>cY (m==("extend" : Str)&&apos.endLine==cpos.line) (ao (rz o) λ(x,_)=>ao (slot s x) λi=>ao (r.E s a) λn=>some (fK i (lC i n)))
theorem pJ(R:bQ tb k r)(S:Sit tb k X E s)(h:oE tb r s e=some q):JE X E e q:=by obtain⟨⟨o,m,apos,a,cpos⟩,h1,g⟩:=aa h;obtain⟨rfl,hs⟩:=oP h1;obtain⟨h2,h⟩:=au g;rw[SA,zcz] at h2;obtain⟨⟨x,O⟩,h3,y⟩:=aa h;obtain rfl:=bK h3;obtain⟨i,D,h⟩:=aa y;obtain⟨n,l,h⟩:=aa h;obtain⟨d,U,b,v⟩:=S.slot D;cases h;obtain⟨rfl,hl⟩:=h2;exact yq d U b v (R.E S l) rfl (FK hs _ _) hl (aJ hs _ _) rfl
def rN(_:Tb)(r:Tr)(s:Sc)(e:Expr):Option (Mi Rr):=ao (El e) λ(o,m,apos,a,cpos)=>cY (m==("pop" : Str)&&apos.endLine==cpos.line) (ao (rz o) λ(x,_)=>ao (slot s x) λi=>ao (r.E s a) λn=>some (jM i n))
theorem rD(R:bQ tb k r)(S:Sit tb k X E s)(h:rN tb r s e=some q):JE X E e q:=by obtain⟨⟨o,m,apos,a,cpos⟩,h1,g⟩:=aa h;obtain⟨rfl,hs⟩:=oP h1;obtain⟨h2,h⟩:=au g;rw[SA,zcz] at h2;obtain⟨⟨x,O⟩,h3,y⟩:=aa h;obtain rfl:=bK h3;obtain⟨i,D,h⟩:=aa y;obtain⟨n,l,h⟩:=aa h;obtain⟨d,U,b,v⟩:=S.slot D;cases h;obtain⟨rfl,hl⟩:=h2;exact DT d U b v (R.E S l) rfl (FK hs _ _) hl (aJ hs _ _) rfl
def xr(_:Tb)(r:Tr)(s:Sc)(e:Expr):Option (Mi Rr):=ao (sY e) λ(f,_,a,_)=>cY (f==("sorted" : Str)&&sA s f&&!s.hd) (ao (sY a) λ(g,_,b,_)=>cY (g==("set" : Str)&&sA s g) (ao (r.E s b) λm=>some (pI m)))
theorem ud(R:bQ tb k r)(S:Sit tb k X E s)(h:xr tb r s e=some q):JE X E e q:=by obtain⟨⟨f,p,a,pos⟩,h1,g⟩:=aa h;clear h;obtain⟨rfl,hs⟩:=eD h1;obtain⟨h2,h⟩:=au g;rw[SA,SA,zcz,Te] at h2;obtain⟨⟨rfl,J⟩,c⟩:=h2;obtain⟨⟨T,o,b,z⟩,h3,y⟩:=aa h;clear h;obtain⟨rfl,x⟩:=eD h3;obtain⟨h4,h⟩:=au y;rw[SA,zcz] at h4;obtain⟨rfl,I⟩:=h4;obtain⟨m,D,h⟩:=aa h;cases h;exact AQ (S.cm c) (S.rm c).units (S.glob I).1 (bu S UV) (S.glob J).1 (bu S UV) (R.E S D) (aJ x _ _)
noncomputable def MH(s:Sc)(x:Str):Bool:=s.di.contains x&&s.lv.contains x
noncomputable def ID(e:Expr):Option (Expr×Expr):=match e with
 | .Subscript a b _=>some (a,b)
 |_=>none
theorem yY{a b:Expr}(h:ID e=some (a,b)):∃p,e=.Subscript a b p:=by
 delta ID at h
 split at h
 .cases h;exact⟨_,rfl⟩
 .cases h
noncomputable def Ma(e:Expr):Option (Expr×za4×Scope):=match e with
 | .ListComp elt gs sc _=>match gs with
  |[g]=>some (elt,g,sc)
  |_=>none
 |_=>none
theorem zy{g:za4}{sc:Scope}(h:Ma e=some (elt,g,sc)):∃pos,e=.ListComp elt [g] sc pos:=by
 delta Ma at h
 split at h
 .split at h
  .cases h;exact⟨_,rfl⟩
  .cases h
 .cases h
theorem Sit.MZ(S:Sit tb k X E s){sc:Scope}{a:Nat}{G:Mg}(h:sj s N own sc=true)(c:s.hd=false)(e:Co (uB s N sc) s.N.length a tg=some G):
  ∀cl C u H fp,JG (g9 X N sc cl C u H fp) X.N.length tg G:=λcl C u H fp=>by rw[S.n];exact jP ((S.comp h c).2 cl C u H fp) e
def AR(r:Tr)(s:Sc)(e:Expr):Option (Mi Rr):=ao (ID e) λ(o,i)=>ao (rz o) λ(x,_)=>cY (MH s x&&dE i&&!s.hd) (ao (r.E s o) λm=>ao (r.E s i) λn=>some (ay aS m n))
theorem yW(R:bQ tb k r)(S:Sit tb k X E s)(h:AR r s e=some q):JE X E e q:=by obtain⟨⟨o,i⟩,h1,g⟩:=aa h;obtain⟨p,rfl⟩:=yY h1;obtain⟨⟨x,O⟩,_,g⟩:=aa g;obtain⟨h2,g⟩:=au g;simp only[SA,Te] at h2;obtain⟨m,D,g⟩:=aa g;obtain⟨n,l,g⟩:=aa g;cases g;exact FQ (rF (S.rm h2.2)) (R.E S D) (R.E S l) (wy h2.1.2)
def DG(r:Tr)(s:Sc)(e:Expr):Option (Mi Rr):=ao (sY e) λ(f,_,a,_)=>ao (rz a) λ(x,_)=>cY (f==("len" : Str)&&MH s x&&sA s f&&!s.hd) (ao (r.E s a) λn=>some (dw xZ n))
theorem zu(R:bQ tb k r)(S:Sit tb k X E s)(h:DG r s e=some q):JE X E e q:=by obtain⟨⟨f,p,a,cpos⟩,h1,g⟩:=aa h;obtain⟨rfl,hs⟩:=eD h1;obtain⟨⟨x,O⟩,h3,g⟩:=aa g;obtain⟨h2,g⟩:=au g;simp only[SA,zcz,Te] at h2;obtain⟨n,l,g⟩:=aa g;cases g;obtain⟨⟨⟨rfl,_⟩,J⟩,c⟩:=h2;exact v8 yj F7 (S.glob J).1 (bu S UV) AU (R.E S l) UV (S.glob J).2 (aJ hs _ _) rfl
def BH(r:Tr)(s:Sc)(e:Expr):Option (Mi Rr):=ao (Jg e) λ(f,_,a,b,_)=>ao (rz a) λ(x,_)=>ao (rz b) λ(y,_)=>cY (f==("isinstance" : Str)&&y==("dict" : Str)&&MH s x&&sA s f&&sA s y) (ao (r.E s a) λn=>some (dw (l8 .dict) n))
theorem zF(R:bQ tb k r)(S:Sit tb k X E s)(h:BH r s e=some q):JE X E e q:=by obtain⟨⟨f,p,a,b,cpos⟩,h1,g⟩:=aa h;obtain⟨rfl,hs,_⟩:=yN h1;obtain⟨⟨x,O⟩,h3,g⟩:=aa g;obtain⟨⟨y,z⟩,h4,g⟩:=aa g;obtain rfl:=bK h4;obtain⟨h2,g⟩:=au g;simp only[SA,zcz] at h2;obtain⟨n,l,g⟩:=aa g;cases g;obtain⟨⟨⟨⟨rfl,rfl⟩,_⟩,J⟩,I⟩:=h2;exact B7 .dict (S.glob J).1 (bu S UV) iB (S.glob I).1 (bu S UV) qj (R.E S l) UV (S.glob J).2 UV (S.glob I).2 (aJ hs _ _)
def BA(s:Sc)(e:Expr):Option (Mi Rr):=ao (IT e) λ(o,m,apos,cpos)=>ao (rz o) λ(x,_)=>cY (m==("clear" : Str)&&MH s x&&apos.endLine==cpos.line) (ao (slot s x) λi=>some (ly i))
theorem yZ(S:Sit tb k X E s)(h:BA s e=some q):JE X E e q:=by obtain⟨⟨o,m,apos,cpos⟩,h1,g⟩:=aa h;obtain rfl:=yG h1;obtain⟨⟨x,O⟩,h3,g⟩:=aa g;obtain rfl:=bK h3;obtain⟨h2,g⟩:=au g;simp only[SA] at h2;obtain⟨i,D,g⟩:=aa g;cases g;obtain⟨d,U,b,v⟩:=S.slot D;have T:=h2.1.1;rw[zcz] at T;subst T;exact zk d U b v rfl h2.2
def zS(r:Tr)(s:Sc)(e:Expr):Option (Mi Rr):=ao (Ma e) λ(elt,g,sc)=>ao (rz g.iter) λ(x,_)=>ao (rz g.target) λ_=>
   let own:=Q4 9 g.target
   let N:=Pp s.N own
   let s':=uB s N sc
   cY (MH s x&&!s.hd&&g.is_async==0&&sj s N own.length sc) (ao (slot s x) λj=>ao (Co s' s.N.length 9 g.target) λG=>ao (Es r s' g.ifs) λmt=>ao (r.E s' elt) λf=>some (gU own.length j G mt f))
theorem zG(R:bQ tb k r)(S:Sit tb k X E s)(h:zS r s e=some q):JE X E e q:=by obtain⟨⟨elt,g,sc⟩,h1,z⟩:=aa h;obtain⟨pos,rfl⟩:=zy h1;obtain⟨tg,iter,ifs,Y⟩:=g;obtain⟨⟨x,O⟩,h2,w⟩:=aa z;obtain rfl:=bK h2;obtain⟨⟨y,p⟩,h3,z⟩:=aa w;obtain rfl:=bK h3;obtain⟨h4,w⟩:=au z;rw[SA,SA,SA,Te,zcz] at h4;obtain⟨⟨⟨_,c⟩,rfl⟩,h4⟩:=h4;obtain⟨j,D,z⟩:=aa w;obtain⟨G,l,w⟩:=aa z;obtain⟨mt,N,z⟩:=aa w;obtain⟨f,v,w⟩:=aa z;cases w;have a:=(S.comp h4 c).2;obtain⟨d,U,b,i⟩:=S.slot D;exact Ag d U b i (S.cm c) (S.comp h4 c).1 rfl (S.MZ h4 c l) (λcl C u H fp=>xF R (a cl C u H fp) N) (λcl C u H fp=>R.E (a cl C u H fp) v) (fX rfl _)
def v9(_:Tb)(r:Tr)(s:Sc)(e:Expr):Option (Mi Rr):=nY (AR r s e) (nY (DG r s e) (nY (BH r s e) (nY (BA s e) (zS r s e))))
theorem vn(R:bQ tb k r)(S:Sit tb k X E s)(h:v9 tb r s e=some q):JE X E e q:=by
 rcases aY h with h|h
 .exact yW R S h
 rcases aY h with h|h
 .exact zu R S h
 rcases aY h with h|h
 .exact zF R S h
 rcases aY h with h|h
 .exact yZ S h
 .exact zG R S h
def xl(_:Tb)(r:Tr)(s:Sc)(tg e:Expr):Option (Mi (List A)):=ao (sY e) λ(f,_,a,_)=>cY (f==("enumerate" : Str)&&sA s f&&Jf tg) (ao (r.E s a) λn=>some (B5 n))
theorem uE(R:bQ tb k r)(S:Sit tb k X E s){q:Mi (List A)}(h:xl tb r s tg e=some q):JI X E tg e q:=by
 obtain⟨⟨f,p,a,cpos⟩,h1,g⟩:=aa h;obtain⟨rfl,hs⟩:=eD h1;obtain⟨h2,g⟩:=au g;simp only[SA,zcz] at h2;obtain⟨n,l,g⟩:=aa g;cases g;obtain⟨⟨rfl,J⟩,ht⟩:=h2;cases tg<;>first|exact kU ht|skip
 exact Fm (S.glob J).1 (bu S UV) (R.E S l) (aJ hs _ _) (aJ hs _ _)
def xP(tb:Tb)(r:Tr)(s:Sc)(e:Expr):Option (Mi Rr):=nY (tj tb r s e) (nY (xx tb r s e) (nY (xr tb r s e) (nY (v9 tb r s e) (none))))
theorem PH(R:bQ tb k r)(S:Sit tb k X E s){m:Mi Rr}(h:xP tb r s e=some m):JE X E e m:=by
 rcases aY h with h|h
 .exact sZ R S h
 rcases aY h with h|h
 .exact uJ R S h
 rcases aY h with h|h
 .exact ud R S h
 rcases aY h with h|h
 .exact vn R S h
 cases h
def xE(tb:Tb)(r:Tr)(s:Sc)(e:Expr):Option (Mi Rr):=nY (oE tb r s e) (nY (rN tb r s e) (none))
theorem Nw(R:bQ tb k r)(S:Sit tb k X E s){m:Mi Rr}(h:xE tb r s e=some m):JE X E e m:=by
 rcases aY h with h|h
 .exact pJ R S h
 rcases aY h with h|h
 .exact rD R S h
 cases h
noncomputable def xT(tb:Tb)(r:Tr)(s:Sc)(e:Expr):Option (Mi Bool):=none
theorem O0(R:bQ tb k r)(S:Sit tb k X E s){m:Mi Bool}(h:xT tb r s e=some m):JT X E e m:=by cases h
def xI(tb:Tb)(r:Tr)(s:Sc)(tg e:Expr):Option (Mi (List A)):=nY (xl tb r s tg e) (none)
theorem NO(R:bQ tb k r)(S:Sit tb k X E s){m:Mi (List A)}(h:xI tb r s tg e=some m):JI X E tg e m:=by
 rcases aY h with h|h
 .exact uE R S h
 cases h
end
section
variable{tb:Tb}{k:Nat}{X:Cx}{E:XK}{s:Sc}
def Oz(s:Sc)(o:Expr)(m:Str):Option (Mi Rr):=match o with
 | .Name x _=>ao (slot s x) λi=>if m==("pop" : Str) then some (qO i) else none
 |_=>none
def Pa(r:Tr)(s:Sc)(o:Expr)(m:Str)(e:Expr):Option (Mi Rr):=
 if m==("append" : Str) then (match o with
  | .Name x _=>ao (slot s x) λi=>ao (r.E s e) λn=>some (fK i (cR i n))
  | _=>none)
 else if m==("join" : Str) then ao (r.E s o) λa=>ao (r.E s e) λn=>some (MS jI a n)
 else none
def zQ(tb:Tb)(r:Tr)(s:Sc)(o:Expr)(m:Str)(apos:Pos)(args:List Expr)(cpos:Pos):Option (Mi Rr):=cY (apos.endLine==cpos.line&&G7 o) (match args with
 |[]=>Oz s o m
 |[e]=>cY (notStar e) (Pa r s o m e)
 | _=>none)
theorem zB(R:bQ tb k r)(S:Sit tb k X E s){e:Str}{m:Mi Rr}(h:zQ tb r s o e apos args cpos=some m):JE X E (.Call (.Attribute o e apos) args [] cpos) m:=by
 have h':=au h;obtain⟨B,h⟩:=h';rw[SA] at B;split at h
 .delta Oz at h
  split at h
  .obtain⟨i,D,h⟩:=aa h;obtain⟨d,U,g,b⟩:=S.slot D;split at h
   .rename_i z;rw[zcz] at z;cases h;subst z;exact J8 d U g b rfl B.1
   .cases h
  .cases h
 .have h':=au h;obtain⟨hs,h⟩:=h'
  delta Pa at h
  split at h
  .rename_i z;rw[zcz] at z;split at h
   .obtain⟨i,D,h⟩:=aa h;obtain⟨n,l,h⟩:=aa h;obtain⟨d,U,g,b⟩:=S.slot D;cases h;subst z;exact yf d U g b (R.E S l) rfl (FK hs _ _) B.1 (aJ hs _ _) rfl
   .cases h
  .split at h
   .rename_i z;rw[zcz] at z;obtain⟨a,D,h⟩:=aa h;obtain⟨n,l,h⟩:=aa h;cases h;subst z;exact Ft (R.E S D) (R.E S l) (λx y=>xb PySem.F.plainAttrs_str PySem.F.slot_str_join PySem.F.type_str_join Cg x (bE y cN (aJ hs _ _)) (k7 B.2 _ _ _) (FK hs _ _) B.1 (aJ hs _ _) rfl)
   .cases h
 .cases h
def stK:Const->Option (Mi Rr)
 | .none=>some (mC .non)
 | .bool b=>some (mC (.bl b))
 | .int i=>some (mC (.int i))
 | .str x=>some (mC (.str x))
 |_=>none
def MU(m n:Mi Rr):zcp->Option (Mi Rr)
 | .Add=>some (ay aW m n)
 | .Sub=>some (ay iM m n)
 | .Mult=>some (ay bR m n)
 | .FloorDiv=>some (ay jA m n)
 | .Mod=>some (ay iX m n)
 | .Pow=>some (ay il m n)
 |_=>none
theorem EA{a b:Expr}{m n:Mi Rr}{op:zcp}(h:MU m n op=some q)(d:JE X E a m)(hb:JE X E b n):JE X E (.BinOp a op b pos) q:=by
 cases op<;>first|exact cu h|skip
 .cases h;exact Ep d hb
 .cases h;exact IV d hb
 .cases h;exact LY d hb
 .cases h;exact Ku d hb
 .cases h;exact Ju d hb
 .cases h;exact J4 d hb
def DN(r:Tr)(s:Sc)(a:Expr)(ops:List zbq)(bs:List Expr):Option (Mi Rr):=match ops,bs with
 |[op],[b]=>ao (r.E s a) λm=>ao (r.E s b) λn=>Rp s op a b m n
 |_,_=>none
theorem rY(R:bQ tb k r)(S:Sit tb k X E s){a:Expr}{ops:List zbq}{bs:List Expr}{m:Mi Rr}(h:DN r s a ops bs=some m):JE X E (.Compare a ops bs pos) m/\JT X E (.Compare a ops bs pos) (aq m):=by
 rcases ops with _|⟨op,_|_⟩
 .cases h
 .rcases bs with _|⟨b,_|_⟩
  .cases h
  .obtain⟨H,D,h⟩:=aa h;obtain⟨L,l,h⟩:=aa h;exact IG S h (R.E S D) (R.E S l)
  .cases h
 .cases h
def Am(r:Tr)(s:Sc)(ks:List (Option Expr))(vs:List Expr):Option (Mi Rr):=match ks,vs with
 |[],[]=>some rW
 |_,_=>none
theorem B4(R:bQ tb k r)(S:Sit tb k X E s){ks:List (Option Expr)}{vs:List Expr}{m:Mi Rr}(h:Am r s ks vs=some m):JE X E (.Dict ks vs pos) m:=by
 delta Am at h
 split at h
 .cases h;exact GG
 .cases h
def NT(tb:Tb)(r:Tr)(s:Sc)(f:Expr)(args:List Expr)(e:List za1)(cpos:Pos):Option (Mi Rr):=match e with
 |[]=>match f with
  | .Name f _=>Bt tb r s f args
  | .Attribute o m apos=>zQ tb r s o m apos args cpos
  |_=>none
 |_::_=>none
theorem Fg(R:bQ tb k r)(S:Sit tb k X E s){f:Expr}{e:List za1}{m:Mi Rr}(h:NT tb r s f args e pos=some m):JE X E (.Call f args e pos) m:=by
 cases e with
 |cons=>cases h
 |nil=>
  cases f with
  |Name=>exact yt R S h
  |Attribute=>exact zB R S h
  |_=>exact cu h
def RJ(tb:Tb)(r:Tr)(s:Sc):Expr->Option (Mi Rr)
 | .Name x _=>match slot s x with
  |some i=>some (ab i)
  |none=>ao (tb.cst.lookup x) λa=>cY (sA s x) (some (mC a))
 | .Constant c _ _=>stK c
 | .BinOp a op b _=>ao (r.E s a) λm=>ao (r.E s b) λn=>MU m n op
 | .UnaryOp op a _=>match op with
  | .USub=>ao (r.E s a) λm=>some (Hz CA m)
  | .Not=>ao (r.E s a) λm=>some (De m)
  |_=>none
 | .BoolOp op vs _=>Qz op (r.E s) vs
 | .Compare a ops bs _=>DN r s a ops bs
 | .Tuple es _ _=>ao (BS (r.E s) es) λm=>some (a8 m)
 | .List es _=>ao (BS (r.E s) es) λm=>some (bA m)
 | .Dict ks vs _=>Am r s ks vs
 | .Subscript a b _=>Hl r s a b
 | .Call f args kw cpos=>NT tb r s f args kw cpos
 | .ListComp elt gs sc _=>p5 r s elt gs sc
 |_=>none
theorem Jq(R:bQ tb k r)(S:Sit tb k X E s){m:Mi Rr}(h:RJ tb r s e=some m):JE X E e m:=by
 cases e with
 |Name x _=>
  have h:(match slot s x with
   |some i=>some (ab i)
   | none=>ao (tb.cst.lookup x) λa=>cY (sA s x) (some (mC a)))=some m:=h
  split at h
  .rename_i D;cases h;obtain⟨d,U,g,j⟩:=S.slot D;exact J7 d U g j
  .obtain⟨a,D,h⟩:=aa h;obtain⟨J,h⟩:=au h;cases h;obtain⟨v,u,h1,h2,h3⟩:=S.gd.cs _ _ D;exact Gj (S.glob J).1 h1 h2 h3 (S.glob J).2
 |Constant c _ _=>
  cases c<;>first|exact cu h|skip
  .cases h;exact Ky
  .cases h;exact Nh
  .cases h;exact Jl
  .cases h;exact KO
 |BinOp a op b _=>obtain⟨H,D,h⟩:=aa h;obtain⟨L,l,h⟩:=aa h;exact EA h (R.E S D) (R.E S l)
 |UnaryOp op a _=>
  cases op<;>first|exact cu h|skip
  .obtain⟨H,D,h⟩:=aa h;cases h;exact Kk (R.E S D)
  .obtain⟨H,D,h⟩:=aa h;cases h;exact Ko (R.E S D)
 |BoolOp op vs _=>exact AZ (λ_ _=>R.E S) h
 |Compare a ops bs _=>exact(rY R S h).1
 |Tuple es _ _=>obtain⟨H,D,h⟩:=aa h;cases h;exact KL (kX (λ_ _=>R.E S) D).1
 |List es _=>obtain⟨H,D,h⟩:=aa h;cases h;exact Il (kX (λ_ _=>R.E S) D).1
 |Dict ks vs _=>exact B4 R S h
 |Subscript a b _=>exact B9 R S h
 |Call f args K cpos=>exact Fg R S h
 |ListComp elt gs sc _=>obtain⟨P,N,own,tg,iter,ifs,y,G,mt,I,rfl,rfl,o,w,z,Q,Z,q⟩:=ot R S h;exact EG (S.cm P) o rfl w z Q Z q
 |JoinedStr es _=>cases h
 |_=>exact cu h
def Pm(r:Tr)(s:Sc):Expr->Option (Mi Bool)
 | .Compare a ops bs _=>ao (DN r s a ops bs) λq=>some (aq q)
 | .UnaryOp .Not a _=>ao (r.T s a) λm=>some (i4 m)
 | .BoolOp op vs _=>Qh op (r.T s) vs
 |e=>cY (plainT e) (ao (r.E s e) λm=>some (aq m))
theorem GP(R:bQ tb k r)(S:Sit tb k X E s){m:Mi Bool}(h:Pm r s e=some m):JT X E e m:=by
 have o:∀{e:Expr}{m:Mi Bool},cY (plainT e) (ao (r.E s e) λm=>some (aq m))=some m->JT X E e m:=λh=>by obtain⟨B,h⟩:=au h;obtain⟨H,D,h⟩:=aa h;cases h;exact Lg (R.E S D) (vd B _)
 cases e with
 |Compare=>obtain⟨q,D,h⟩:=aa h;cases h;exact(rY R S D).2
 |UnaryOp op=>
  cases op with
  |Not=>obtain⟨H,D,h⟩:=aa h;cases h;exact Jo (R.T S D)
  |_=>exact o h
 |BoolOp=>exact OJ (CJ (λ_ _=>R.T S) h)
 |_=>exact o h
def tr(tb:Tb):Nat->Tr
 |0=>⟨λ_ _=>none,λ_ _=>none,λ_ _ _=>none⟩
 |n+1=>⟨λs e=>nY (xP tb (tr tb n) s e) (nY (RJ tb (tr tb n) s e) (xE tb (tr tb n) s e)),λs e=>nY (Pm (tr tb n) s e) (xT tb (tr tb n) s e),xI tb (tr tb n)⟩
theorem lV:∀n,bQ tb k (tr tb n)
 |0=>⟨λ_ h=>(by cases h),λ_ h=>(by cases h),λ_ h=>(by cases h)⟩
 | n+1=>⟨λS h=>by
   rcases aY h with h|h
   .exact PH (lV n) S h
   rcases aY h with h|h
   .exact Jq (lV n) S h
   .exact Nw (lV n) S h,λS h=>by
   rcases aY h with h|h
   .exact GP (lV n) S h
   .exact O0 (lV n) S h,λS h=>NO (lV n) S h⟩
end
structure ik(tb:Tb)(k:Nat)(X:Cx)(E:XK)(s:Sc):Prop extends Sit tb k X E s where
 po:s.hd=false->zbi (zak X.prog X.w) X.A X.env X.xe
 st:s.hd=false->X.stack=X.env::X.outer/\X.env.frame=some X.env.locals/\X.ex=[]
 bk:X.env.blockKind=.function
noncomputable def PQ:Expr->Bool
 | .Starred ..=>true
 |_=>false
def Qb(x y:Str)(O p:Pos)(a b:Expr):Bool:=x != y&&O.line==p.line&&notStar a&&notStar b&&!([a,b].all (foldedForSure 8))&&!([a,b].all (constantsAlone 8))
theorem CV{F:α->Option Str}{p q:α}{x y:Str}(h1:F p=some x)(h2:F q=some y):[p,q].filterMap F=[x,y]:=by rw[Xx h1,Xx h2];rfl
theorem GY{F:α->Option Str}{T:List α}{x y:Str}(h1:¬x=y)(h:T.filterMap F=[x,y]):¬((T.filterMap F).length != 2 || (T.filterMap F).eraseDups.length != (T.filterMap F).length)=true:=by rw[h];simp[List.eraseDups_cons,beq_eq_false_iff_ne.mpr h1,beq_eq_false_iff_ne.mpr λz=>h1 (Ye z)]
variable{px py:Pos}{kt:Nat}
theorem Oi{x y:Str}{pt X:Pos}{R:Nat}{a b:Expr}(h:Qb x y px py a b=true)(hx:env.kindOf x=some .local)(hy:env.kindOf y=some .local)(hb:env.blockKind=.function):
  za2 [.Tuple [.Name x px,.Name y py] kt pt] (.Tuple [a,b] R X) env=pure (some [x,y]):=by
 delta Qb at h
 simp only[SA,bne_iff_ne,ne_eq,zcz,Te] at h
 obtain⟨⟨⟨⟨⟨h1,h2⟩,h3⟩,h4⟩,h5⟩,H⟩:=h
 have s1:(([a,b]:List Expr).any fun | .Starred ..=>true|_=>false)=false:=by
  rw[YF];intro e he;have hn:notStar e=true:=by
   rcases SR.mp he with z|z
   .rw[z];exact h3
   .rw[SU.mp z];exact h4
  cases e<;>first|exact kU hn|exact To
 have S:=beq_self_eq_true px.line
 have F:∀(l:Nat),l=px.line->(if (env.kindOf x==some .local&&px.line==l)=true then some x else none)=some x:=λl e=>by rw[hx,e,S];rfl
 have T:∀(l:Nat),l=px.line->(if (env.kindOf y==some .local&&py.line==l)=true then some y else none)=some y:=λl e=>by rw[hy,e,<-h2,S];rfl
 refine(zcv ?_).trans ((zcv ?_).trans ((zcv ?_).trans ((zcv ?_).trans ((zcv ?_).trans (zcy (λn=>pure (some n)) ?_)))))
 .rw[hb];exact To
 .exact λz=>To (s1.symm.trans z)
 .exact GY h1 (CV (F _ rfl) (T _ rfl))
 .exact λz=>To (h5.symm.trans z)
 .exact λz=>To (H.symm.trans z)
 .exact CV (F _ rfl) (T _ rfl)
noncomputable def wU:Expr->Bool
 | .Tuple _ _ _=>false
 |_=>true
theorem lJ(h:wU e=true):za2 [tg] e env=pure none:=by cases tg<;>first|rfl|(cases e<;>first|rfl|cases h)
variable{i:Expr}
theorem vg:za2 [.Subscript o i p] e env=pure none:=by cases e<;>rfl
theorem jU{l:Nat}:zaJ e (some (.Subscript o i p)) l env=pure false:=by cases e<;>rfl
theorem uC{sc:Scope}{x:Str}{l:Nat}(h:env.kindOf x=some .cell):zaJ (.ListComp elt gs sc pos) (some (.Name x px)) l env=pure false:=by show (pure (env.blockKind==.function&&env.kindOf x==some .local&&px.line==pos.line&&!(sc.names.any λp=>p.1==x&&(p.2==.local || p.2==.cell))):Sem Bool)=pure false;rw[h,show (some (NameKind.cell)==some (NameKind.local))=false from rfl,Vq,VH,VH]
theorem sW{t:Expr}(h:jw e=true)(l:Nat)(env:Env):zbb [t] e l env=pure false:=hJ h (some t) l env
theorem AO{l:Nat}:zbb [.Subscript o i p] e l env=pure false:=jU (o:=o) (i:=i) (p:=p) (l:=l) (env:=env)
theorem Fq(h:dE i=true)(v:Value):assign (.Subscript o i p) env v=(do
   let ov <- holding [v] (eval o env)
   let iv <- holding [v,ov] (eval i env)
   zci p
   holding [v,ov,iv] (zcj ov iv v)
   release [v,ov,iv] []):=by cases i<;>first|rfl|cases h
variable{ts:List Expr}{p1:Pos}
section
variable{tb:Tb}{k:Nat}{X:Cx}{E:XK}{s:Sc}
def DH(r:Tr)(s:Sc)(x:Str)(px:Pos)(e:Expr):Option Ms:=ao (gx s x) λi=>match e with
 | .ListComp elt gs sc pos=>match rC s x .local with
  |true=>cY (px.line==pos.line&&!(sc.names.any λp=>p.1==x&&(p.2==.local || p.2==.cell))) (ao (p5 r s elt gs sc) λm=>some (aD i m))
  |false=>ao (r.E s e) λm=>some (aD i m)
 |e=>cY (jw e) (ao (r.E s e) λm=>some (aD i m))
theorem yV(R:bQ tb k r)(S:ik tb k X E s){x:Str}{m:Ms}(h:DH r s x px e=some m):JS X E (.Assign [.Name x px] e pos) m:=by
 obtain⟨i,D,h⟩:=aa h;obtain⟨d,U,o,b⟩:=S.gx D;have u:X.N.Nodup:=by rw[S.n];exact S.nd
 split at h
 .split at h
  .rename_i z;obtain⟨B,h⟩:=au h;rw[SA,Te] at B;obtain⟨H,l,h⟩:=aa h;have hl:=S.lc x (by delta rC at z;simpa using z);obtain⟨c,N,own,tg,iter,ifs,P,G,mt,f,rfl,rfl,a,w,j,Q,Z,q⟩:=ot R S.toSit l;cases h;exact FJ (S.cm c) a rfl u d hl (uZ S.bk hl B.1 B.2) w j Q Z q
  .rename_i z;obtain⟨H,l,h⟩:=aa h;cases h;refine uo u d U (R.E S.toSit l) (uC ?_) b;obtain⟨g,_⟩:=au D;rw[SA,uG,Uh] at g;rcases g.1 with y|y
   .rw[y] at z;cases z
   .exact S.ce x (by delta rC at y;simpa using y)
 .obtain⟨B,h⟩:=au h;obtain⟨H,l,h⟩:=aa h;cases h;exact uo u d U (R.E S.toSit l) (hJ B _ _ _) b
noncomputable def J6(e:Expr):Option (Expr×Expr):=match e with
 | .Tuple es _ _=>match es with
  |[a,b]=>some (a,b)
  |_=>none
 |_=>none
theorem yB{a b:Expr}(h:J6 e=some (a,b)):∃c p,e=.Tuple [a,b] c p:=by
 cases e with
 |Tuple es c p=>match es,h with
  |[a,b],h=>cases h;exact⟨c,p,rfl⟩
 |_=>exact cu h
def Kb(ts:List Expr):Option ((Str×Pos)×Str×Pos):=match ts with
 |[a,b]=>ao (rz a) λp=>ao (rz b) λq=>some (p,q)
 |_=>none
theorem yw{x y:Str}(h:Kb ts=some ((x,px),y,py)):ts=[.Name x px,.Name y py]:=by
 match ts,h with
 |[a,b],h=>obtain⟨p,h1,h⟩:=aa h;obtain⟨q,h2,h⟩:=aa h;cases h;rw[bK h1,bK h2]
def vx(r:Tr)(s:Sc)(ts:List Expr)(e:Expr):Option Ms:=cY (wU e&&jw e) (ao (r.E s e) λm=>ao (Co s 0 9 (.Tuple ts 0 default)) λg=>some (sI m g))
def AB(r:Tr)(s:Sc)(ts:List Expr)(e:Expr):Option Ms:=match Kb ts with
 | some ((x,px),y,py)=>(match J6 e with
  |some (a,b)=>cY (!s.hd&&rC s x .local&&rC s y .local&&okN x&&okN y&&Qb x y px py a b) (ao (gx s x) λi=>ao (gx s y) λj=>cY (i != j) (ao (BS (r.E s) [a,b]) λm=>some (DE i j m)))
  | none=>vx r s ts e)
 |none=>vx r s ts e
theorem Kt{lo d:Nat}{n n':Nat}{i:Pos}{g:Mg}(h:Co s lo d (.Tuple ts n p)=some g):Co s lo d (.Tuple ts n' i)=some g:=by
 cases d with
 |zero=>cases h
 |succ d=>exact h
theorem oH(R:bQ tb k r)(S:ik tb k X E s){pt:Pos}{m:Ms}(h:vx r s ts e=some m):JS X E (.Assign [.Tuple ts kt pt] e pos) m:=by obtain⟨B,h⟩:=au h;rw[SA] at B;obtain⟨H,D,h⟩:=aa h;obtain⟨g,l,h⟩:=aa h;cases h;exact K9 (R.E S.toSit D) (jP S.toSit (Kt l)) (sW B.2 _ _) (lJ B.1) (hp:=λx y=>Ai x y (sW B.2 _ _) (lJ B.1))
theorem Dl(R:bQ tb k r)(S:ik tb k X E s){pt:Pos}{m:Ms}(h:AB r s ts e=some m):JS X E (.Assign [.Tuple ts kt pt] e pos) m:=by
 delta AB at h
 cases g:Kb ts with
 |none=>rw[g] at h;exact oH R S h
 |some p=>
  obtain⟨⟨x,px⟩,y,py⟩:=p;rw[g] at h;cases V:J6 e with
  |none=>rw[V] at h;exact oH R S h
  |some p=>
   rw[V] at h;obtain⟨B,h⟩:=au h;simp only[SA,Te] at B;obtain⟨⟨⟨⟨⟨h1,h2⟩,h3⟩,_⟩,_⟩,h4⟩:=B;obtain⟨i,D,h⟩:=aa h;obtain⟨j,l,h⟩:=aa h;obtain⟨a,h⟩:=au h;obtain⟨C,b,h⟩:=aa h;cases h;obtain rfl:=yw g;obtain⟨c,p,rfl⟩:=yB V;have u:X.N.Nodup:=by rw[S.n];exact S.nd
   have w:=S.lc x (show s.nm.lookup _=_ by delta rC at h2;simpa using h2);have t:=S.lc y (show s.nm.lookup _=_ by delta rC at h3;simpa using h3);have z:i≠j:=by simpa using a
   exact IJ (kX (λ_ _=>R.E S.toSit) b).1 z (λy=>K4 (S.cm h1) u (S.gx D).1 (S.gx l).1 z w t y (Oi h4 w t S.bk))
def OC(r:Tr)(s:Sc)(x:Str)(A e:Expr):Option Ms:=ao (slot s x) λi=>ao (r.E s A) λmk=>ao (r.E s e) λm=>cY (!s.hd&&dE A) (match s.di.contains x with
 |true=>some (nF i mk m)
 | false=>some (mO i mk m))
theorem Ez(R:bQ tb k r)(S:ik tb k X E s){x:Str}{A:Expr}{m:Ms}(h:OC r s x A e=some m):JS X E (.Assign [.Subscript (.Name x px) A p1] e pos) m:=by
 obtain⟨i,D,h⟩:=aa h;obtain⟨mk,l,h⟩:=aa h;obtain⟨H,N,h⟩:=aa h;obtain⟨c,h⟩:=au h;rw[SA,Te] at c;obtain⟨d,U,g,b⟩:=S.slot D;split at h
 .cases h;exact E6 (rF (S.rm c.1)) d U g b (R.E S.toSit l) (R.E S.toSit N) jU
 .cases h;exact CQ d U g b (R.E S.toSit l) (R.E S.toSit N) (λx y z=>Ai z (JL x y set_list (Fq c.2)) AO vg)
def Ic(tb:Tb)(r:Tr)(s:Sc)(t e:Expr):Option Ms:=match t with
 | .Name x px=>DH r s x px e
 | .Tuple ts _ _=>AB r s ts e
 | .Subscript (.Name x _) ek _=>OC r s x ek e
 |_=>none
theorem AX(R:bQ tb k r)(S:ik tb k X E s){t:Expr}{m:Ms}(h:Ic tb r s t e=some m):JS X E (.Assign [t] e pos) m:=by
 cases t with
 |Name=>exact yV R S h
 |Tuple=>exact Dl R S h
 |Subscript a=>
  cases a with
  |Name=>exact Ez R S h
  |_=>exact cu h
 |_=>exact cu h
end
variable{F:Sc->Stmt->Option Ms}
section
variable{tb:Tb}{k:Nat}{X:Cx}{E:XK}{s:Sc}
def kL(F:Stmt->Option Ms):List Stmt->Option Ms
 |[]=>some bw
 |[a]=>F a
 |a::b::r=>ao (F a) λm=>ao (kL F (b::r)) λn=>some (av m n)
theorem fZ{F:Stmt->Option Ms}(h:∀a m,F a=some m->JS X E a m):∀{l:List Stmt}{m:Ms},kL F l=some m->om X E l m
 |[],m,e=>by cases e;exact Fe
 |[a],m,e=>F0 (h _ _ e)
 |a::b::r,m,e=>by obtain⟨H,D,e⟩:=aa e;obtain⟨L,G,e⟩:=aa e;cases e;exact Be (h _ _ D) (fZ h G)
def JO(st:Stmt):Option (Str×Pos×Pos×Pos):=match st with
 | .Assign ts e pos=>match ts with
  |[t]=>ao (rz t) λ(x,px)=>match e with
   | .Dict ks vs p=>match ks,vs with
    |[],[]=>some (x,px,p,pos)
    |_,_=>none
   |_=>none
  |_=>none
 |_=>none
theorem yC{st:Stmt}{x:Str}(h:JO st=some (x,px,p,pos)):st=.Assign [.Name x px] (.Dict [] [] p) pos:=by
 delta JO at h
 split at h
 .split at h
  .obtain⟨⟨y,py⟩,h1,h⟩:=aa h
   dsimp only at h
   split at h
   .split at h
    .cases h;rw[bK h1]
    .cases h
   .cases h
  .cases h
 .cases h
def Mp(st:Stmt):Option (Str×Pos×Expr×Pos×Expr×Pos):=match st with
 | .Assign ts e pos=>match ts with
  |[t]=>match t with
   | .Subscript o i p1=>ao (rz o) λ(x,px)=>some (x,px,i,p1,e,pos)
   |_=>none
  |_=>none
 |_=>none
theorem ym{st:Stmt}{x:Str}(h:Mp st=some (x,px,i,p1,e,pos)):st=.Assign [.Subscript (.Name x px) i p1] e pos:=by
 delta Mp at h
 split at h
 .split at h
  .split at h
   .obtain⟨⟨y,py⟩,h1,h⟩:=aa h
    cases h;rw[bK h1]
   .cases h
  .cases h
 .cases h
def Au(_:Tb)(r:Tr)(s:Sc)(_:Sc->Stmt->Option Ms)(st:Stmt):Option Ms:=nY (ao (JO st) λ(x,_,_,_)=>cY (s.di.contains x&&s.lv.contains x) (ao (gx s x) λi=>some (aD i gQ)))
 (ao (Mp st) λ(x,_,A,_,e,_)=>cY (s.di.contains x&&s.lv.contains x&&(!s.hd&&dE A)) (ao (slot s x) λi=>ao (r.E s A) λmk=>ao (r.E s e) λm=>some (c0 i mk m)))
theorem yR(R:bQ tb k r)(S:ik tb k X E s)(o:∀j,Passes zJ X j->∀a m,F (MK s) a=some m->JS X j a m){st:Stmt}{m:Ms}(h:Au tb r s F st=some m):JS X E st m:=by
 rcases aY h with h|h
 .obtain⟨⟨x,px,p,pos⟩,h1,h⟩:=aa h;obtain rfl:=yC h1;obtain⟨_,h⟩:=au h;obtain⟨i,D,h⟩:=aa h;cases h;obtain⟨d,U,g,b⟩:=S.gx D;exact uo (by rw[S.n];exact S.nd) d U Dp (hJ rfl _ _ _) b
 .obtain⟨⟨x,px,A,p1,e,pos⟩,h1,h⟩:=aa h;obtain rfl:=ym h1;obtain⟨c,h⟩:=au h;simp only[SA,Te] at c;obtain⟨i,D,h⟩:=aa h;obtain⟨mk,l,h⟩:=aa h;obtain⟨H,N,h⟩:=aa h;cases h;obtain⟨d,U,g,b⟩:=S.slot D;exact EM (rF (S.rm c.2.1)) d U g b (R.E S.toSit l) (R.E S.toSit N) jU
def qS(_:Tb)(_:Tr)(s:Sc)(F:Sc->Stmt->Option Ms)(st:Stmt):Option Ms:=match st with
 | .For tg it body els _=>ao (rz it) λ(x,_)=>ao (rz tg) λ_=>cY (MH s x&&!s.hd&&els.isEmpty) (ao (slot s x) λj=>ao (Co s 0 9 tg) λG=>ao (kL (F (MK s)) body) λmb=>some (fo j G mb))
 |_=>none
theorem uN(R:bQ tb k r)(S:ik tb k X E s)(o:∀e,Passes zJ X e->∀a m,F (MK s) a=some m->JS X e a m){st:Stmt}{m:Ms}(h:qS tb r s F st=some m):JS X E st m:=by
 delta qS at h
 split at h
 .rename_i tg it i v pos
  obtain⟨⟨x,px⟩,B,g⟩:=aa h
  clear h
  obtain rfl:=bK B
  obtain⟨⟨y,py⟩,h3,g⟩:=aa g
  obtain rfl:=bK h3
  obtain⟨h1,h⟩:=au g
  simp only[SA,Te,T9] at h1
  obtain⟨⟨_,c⟩,rfl⟩:=h1
  obtain⟨j,D,h⟩:=aa h
  obtain⟨G,l,h⟩:=aa h
  obtain⟨mb,N,hz⟩:=aa h
  cases hz
  obtain⟨d,U,b,z⟩:=S.slot D
  exact Gs d U b z (S.po c) (S.cm c) (jP S.toSit l) (fZ (o E (S.ps c)) N) (fX rfl _)
 .cases h
noncomputable def FN:Ms:=λ_=>none
theorem JD{st:Stmt}:JS X E st FN:=⟨λpins s Y H D I h=>by obtain⟨c,Z,τ,θ,f,O,A,b,em,q⟩:=h;cases em⟩
def uj(_:Tb)(_:Tr)(_:Sc)(_:Sc->Stmt->Option Ms)(st:Stmt):Option Ms:=match st with
 | .Raise _ _ _=>some FN
 |_=>none
theorem zv(R:bQ tb k r)(S:ik tb k X E s)(o:∀e,Passes zJ X e->∀a m,F (MK s) a=some m->JS X e a m){st:Stmt}{m:Ms}(h:uj tb r s F st=some m):JS X E st m:=by
 delta uj at h
 split at h
 .cases h;exact JD
 .cases h
def xS(tb:Tb)(r:Tr)(s:Sc)(F:Sc->Stmt->Option Ms)(st:Stmt):Option Ms:=nY (Au tb r s F st) (nY (qS tb r s F st) (nY (uj tb r s F st) (none)))
theorem N9(R:bQ tb k r)(S:ik tb k X E s)(o:∀x,Passes zJ X x->∀a m,F (MK s) a=some m->JS X x a m){st:Stmt}{m:Ms}(h:xS tb r s F st=some m):JS X E st m:=by
 rcases aY h with h|h
 .exact yR R S o h
 rcases aY h with h|h
 .exact uN R S o h
 rcases aY h with h|h
 .exact zv R S o h
 cases h
end
variable{base:Heap}{dV:Value}
section
variable{tb:Tb}{k:Nat}{X:Cx}{E:XK}{s:Sc}
def HM(r:Tr)(s:Sc)(tg it:Expr)(b:Ms):Option Ms:=cY (mP it) (ao (QO r s tg it) λm=>ao (Co s 0 9 tg) λG=>some (cA m G b))
theorem AD(R:bQ tb k r)(S:ik tb k X E s)(c:s.hd=false){it:Expr}{i:List Stmt}{b m:Ms}(hb:om X E i b)(h:HM r s tg it b=some m):JS X E (.For tg it i [] pos) m:=by obtain⟨B,h⟩:=au h;obtain⟨H,D,h⟩:=aa h;obtain⟨G,l,h⟩:=aa h;cases h;exact Kj (S.po c) (S.cm c) (BW R S.toSit D) (jP S.toSit l) hb (fX B _)
def AS(tb:Tb)(r:Tr)(s:Sc)(ts:List Expr)(e:Expr):Option Ms:=match ts with
 |[t]=>Ic tb r s t e
 |_=>none
def QM(tb:Tb)(r:Tr)(s:Sc)(ex ca:Option Expr):Option Ms:=some HZ
def Ss(tb:Tb)(r:Tr)(s:Sc)(F:Sc->Stmt->Option Ms):Stmt->Option Ms
 | .Assign ts e _=>AS tb r s ts e
 | .Return none _=>some Hf
 | .Return (some e) _=>ao (r.E s e) λm=>some (bc m)
 | .If t a b _=>ao (r.T s t) λmt=>ao (kL (F s) a) λm=>ao (kL (F s) b) λn=>some (iA mt m n)
 | .While t b els _=>cY (!s.hd&&els.isEmpty) (ao (r.T s t) λmt=>ao (kL (F s) b) λm=>some (jY JK mt m))
 | .For tg it b els _=>cY (!s.hd&&els.isEmpty) (ao (kL (F s) b) λm=>HM r s tg it m)
 | .Raise ex ca _=>QM tb r s ex ca
 | .Expr e _=>cY (jw e) (ao (r.E s e) λm=>some (fm m))
 |_=>none
def Fj(tb:Tb)(r:Tr):Nat->Sc->Stmt->Option Ms
 |0,_,_=>none
 |d+1,s,st=>nY (xS tb r s (Fj tb r d) st) (Ss tb r s (Fj tb r d) st)
theorem ik.Pu{e:XK}(S:ik tb k X E s)(h1:Passes zJ X e):ik tb k X e (MK s):=⟨⟨S.n,S.nd,S.gl,S.vs,S.lo,S.lc,S.ce,S.fx,S.cm,S.rm,λ_=>h1,S.gd⟩,S.po,S.st,S.bk⟩
theorem ui{r:Tr}(R:bQ tb k r):∀{d:Nat}{X:Cx}{E:XK}{s:Sc}{st:Stmt}{m:Ms},ik tb k X E s->Fj tb r d s st=some m->JS X E st m
 |0,X,E,s,st,m,S,h=>by cases h
 |d+1,X,E,s,st,m,S,h=>by
  have Y:∀a m,Fj tb r d s a=some m->JS X E a m:=λa m e=>ui R S e;have h':=aY h;clear h;rcases h' with h|h
  .exact N9 R S (λj h1 a m e=>ui R (S.Pu h1) e) h
  cases st with
  |Assign ts e _=>
   have h:AS tb r s ts e=some m:=h
   delta AS at h
   split at h
   .exact AX R S h
   .cases h
  |Return v _=>cases v with
   |none=>cases h;exact E8
   |some e=>obtain⟨H,D,h⟩:=aa h;cases h;exact Mr (R.E S.toSit D)
  |If t a b _=>obtain⟨mt,D,h⟩:=aa h;obtain⟨H,l,h⟩:=aa h;obtain⟨L,N,h⟩:=aa h;cases h;exact Ob (R.T S.toSit D) (fZ Y l) (fZ Y N)
  |While t b x _=>have h':=au h;clear h;obtain⟨B,h⟩:=h';rw[SA,Te,T9] at B;obtain⟨c,rfl⟩:=B;obtain⟨mt,D,h⟩:=aa h;obtain⟨H,l,h⟩:=aa h;cases h;exact Bq (S.po c) (R.T S.toSit D) (fZ Y l)
  |For tg it b x _=>have h':=au h;clear h;obtain⟨B,h⟩:=h';rw[SA,Te,T9] at B;obtain⟨c,rfl⟩:=B;obtain⟨H,l,h⟩:=aa h;exact AD R S c (fZ Y l) h
  |Raise ex ca _=>cases h;exact FG
  |Expr e _=>obtain⟨B,h⟩:=au h;obtain⟨H,D,h⟩:=aa h;cases h;exact F2 (R.E S.toSit D) (hJ B _ _ _)
  |Pass _=>cases h
  |Break _=>cases h
  |Continue _=>cases h
  |_=>exact cu h
structure DI where
 cl:Option Str
 name:Str
 st:Stmt
 N:List Str
 n:Nat
 di:List Str
 mu:List Bool
 df:List A
 lv:List Str
 m:Ms
 ce:List Str:=[]
 tp:Bool:=false
 sp:Bool:=false
 bo:Option (Nat×Nat×Nat×List Nat):=none
def DI.sc(d:DI):Sc:={ N:=d.N,nm:=(aU d.st).names,di:=d.di,ca:=[],hd:=false,lv:=d.lv }
def gE(d:DI):Bool:=(aU d.st).kind==.function&&!(aU d.st).isCoroutine&&!(aU d.st).isGenerator&&decide d.N.Nodup&&Xb d.n d.N.length&&(d.N.take d.n).all (λx=>(aU d.st).names.lookup x==some .local || (aU d.st).names.lookup x==some .cell)&&(aU d.st).names.all (λy=>y.2 != .free)
variable{d:DI}
theorem ig(h:gE d=true):ji d.N (d.N.take d.n) (aU d.st)/\(d.N.take d.n).length=d.n:=by
 delta gE at h
 simp only[SA,zcz,Te,decide_eq_true_eq,Tq,Uh,bne_iff_ne,ne_eq] at h
 obtain⟨⟨⟨⟨⟨⟨h1,h2⟩,h3⟩,h4⟩,h5⟩,H⟩,b⟩:=h
 have hl:(d.N.take d.n).length=d.n:=by rw[UH];have:=Wh h5;lia
 exact⟨⟨h1,h2,h3,h4,by rw[hl],H,b⟩,hl⟩
def DI.M(d:DI):Ms:=bH (d.N.length-d.n) d.m
def DI.fi(d:DI):FI:=⟨d.n,d.M,d.mu,d.df,!d.ce.isEmpty⟩
noncomputable def DI.qual(d:DI):Str:=match d.cl with
 |none=>d.name
 |some c=>c++(("." : Str)++d.name)
def Tb.add(tb:Tb)(d:DI):Tb:=match d.cl with
 |none=>{ tb with fns:=(d.name,d.fi)::tb.fns }
 |some c=>match d.name==("__init__" : Str) with
  |true=>{ tb with ini:=(c,d.fi)::tb.ini }
  |false=>{ tb with mts:=(d.name,c,d.fi)::tb.mts }
noncomputable def mB:Nat:=40
noncomputable def HD:Ms:=λ_=>none
theorem Bb{l:List Stmt}:om X E l HD:=⟨λpins s Y H D I h=>by obtain⟨c,Z,τ,θ,f,O,A,b,em,q⟩:=h;cases em⟩
def ug(tb:Tb)(d:DI):Option Ms:=match d.sp with
 |true=>some HD
 |false=>match d.bo with
  |none=>kL (Fj tb (tr tb mB) mB d.sc) (cX d.st)
  |some (p,q,i,ds)=>ao (kL (Fj tb (tr tb mB) mB d.sc) ((cX d.st).take p)) λa=>ao (kL (Fj tb (tr tb mB) mB d.sc) (((cX d.st).drop p).take q)) λb=>ao (kL (Fj tb (tr tb mB) mB d.sc) (((cX d.st).drop p).drop q)) λc=>some (av a (av (uI i ds b) c))
theorem FC{m:Ms}(h:ug tb d=some m)(S:ik tb k X E d.sc):om X E (cX d.st) m:=by
 delta ug at h
 split at h
 .cases h;exact Bb
 .have ok:∀{l:List Stmt}{m:Ms},kL (Fj tb (tr tb mB) mB d.sc) l=some m->om X E l m:=λh=>fZ (λa m e=>ui (lV mB) S e) h
  split at h
  .exact ok h
  .rename_i p q i ds _
   obtain⟨a,D,h⟩:=aa h
   obtain⟨b,F,h⟩:=aa h
   obtain⟨c,N,h⟩:=aa h
   cases h
   have w:=vX (ok D) (vX (FX (i:=i) (ds:=ds) (ok F)) (ok N))
   rw[Ue,Ue] at w
   exact w
theorem He{P:Program}{f:Addr}{qual:Str}(G:Gd tb k P w K mg base)(F:qL K d.name qual d.st f fd dV)(hs:gE d=true)
  (h:ug tb d=some d.m):fE P w K mg base zJ (k+1) f fd (d.N.take d.n) (D4 ⟨K,mg,P,w⟩ d.n d.M):=by
 obtain⟨S,hl⟩:=ig hs;have key:=FR (CX:=zJ) (P:=P) (w:=w) (mg:=mg) (base:=base) (k:=k) (m:=d.m) F S (λcdv A outer s H E Y=>FC h (?_:ik tb k _ E d.sc))
 .rw[hl] at key;exact key
 .refine⟨⟨rfl,S.nd,λx hx=>hx,λx hx=>?_,λx hx=>?_,λx hx=>hx,λx hx=>hx,λx hx=>.inl rfl,λ_=>rfl,λ_=>Y,λ_ _ _ _ _ _ _ _ x=>x.elim,G⟩,λ_=>zbi.leaving,λ_=>⟨rfl,rfl,rfl⟩,?_⟩
  .unfold FD rC DI.sc at hx;simp only[Uh,zcz] at hx;rcases hx with (z|z)|z
   .exact .inl z
   .exact .inr (.inl z)
   .exact .inr (.inr z)
  .unfold uG rC DI.sc at hx;simp only[Uh,zcz] at hx;exact hx
  .show (if (aU d.st).kind.isAnnotationScope then ScopeKind.function else (aU d.st).kind)=.function;rw[S.kind];rfl
end
theorem uv:∀{us:List Value}{n:Str},us.length=ps.length->n∈ps->((ps.zip us).lookup n).isSome=true:=by
 induction ps with
 |nil=>intro us n _ h;cases h
 |cons p ps m=>
  intro us n hl h;cases us with
  |nil=>cases hl
  |cons u us=>
   rw[Vm,TQ];split
   .rfl
   .rename_i z;rcases SR.mp h with y|y
    .rw[y,beq_self_eq_true] at z;cases z
    .exact m (by simpa using hl) y
theorem mv:∀{us:List Value}{pre:List (Str×Value)},us.length=ps.length->ps.Nodup->(∀n∈ps,pre.lookup n=none)->ps.filterMap (λn=>((pre++ps.zip us).lookup n).map (n,·))=ps.zip us:=by
 induction ps with
 |nil=>intro us pre _ _ _;rfl
 |cons p ps m=>
  intro us pre hl nd hp;cases us with
  |nil=>cases hl
  |cons u us=>
   obtain⟨r,Q⟩:=Tz.mp nd;have D:(pre++(p,u)::ps.zip us).lookup p=some u:=by rw[Yw,hp p SH,TQ,beq_self_eq_true];rfl
   rw[Vm,Vf,D];have:=m (pre:=pre++[(p,u)]) (by simpa using hl) Q (λn hn=>by rw[Yw,hp n (SK _ hn),TQ];have:(n==p)=false:=beq_eq_false_iff_ne.mpr λz=>r (z▸hn);rw[this];rfl)
   simpa[SW] using this
theorem kz{α β:Type}{f:α->β->Sem (ForInStep β)}{g:β->α->β}(h:∀a b,f a b=pure (.yield (g b a))):∀(l:List α)(b:β),(forIn l b f:Sem β)=pure (l.foldl g b)
 |[],_=>rfl
 |a::l,b=>by rw[WQ,h,pure_bind];exact kz h l _
noncomputable def tY(S:List (Str×Value))(x:Str×Value):List (Str×Value):=if (S.lookup x.1).isNone=true then S++[(x.1,x.2)] else S
variable{us:List Value}
theorem p3(h1:fd.params.posonlyargs=[])(h2:fd.params.kwonlyargs=[])(h3:fd.params.vararg=none)(h4:fd.params.kwarg=none)(H:fd.params.args.map (·.arg)=ps)(hl:us.length<=ps.length):
  ∃k,bindArgs fd ⟨us,[]⟩=seqItems? fd.defaults >>= k/\∀(o:Option (Array Value))(ds:List Value),(o.getD #[]).toList.drop ((o.getD #[]).toList.length-ps.length)=ds->
   (ps.take (ps.length-ds.length)).filter (λn=>((ps.zip us).lookup n).isNone)=[]->
   k o=pure ((ps++[]).filterMap λn=>((((ps.drop (ps.length-ds.length)).zip ds).foldl tY (ps.zip us)).lookup n).map (n,·)):=by
 obtain⟨nm,S,R,bo,sc,gl,cl,de,e,r,pm,an,cd,ct,P⟩:=fd;obtain⟨po,h,E,X,x,s,df⟩:=R;obtain rfl:h.map (·.arg)=ps:=H;obtain rfl:po=[]:=h1;obtain rfl:X=[]:=h2;obtain rfl:E=none:=h3;obtain rfl:s=none:=h4;refine⟨_,rfl,λo ds hd T=>?_⟩;subst hd;refine(zcv (λz=>?_)).trans ?_
 .rw[SA,decide_eq_true_eq] at z;exact absurd z.1 (U8.mpr hl)
 refine(zcv (λz=>?_)).trans ?_
 .rw[Te,List.isEmpty_eq_false_iff] at z;exact z T
 refine(zcy (· >>= _) (kz (g:=tY) (λa b=>?_) _ _)).trans ?_
 .delta tY
  by_cases z:(b.lookup a.1).isNone=true
  .rw[zcu z];exact zcu z
  .rw[zcv z];exact zcv z
 .exact rfl
theorem iU(hl:us.length=ps.length):ps.filter (λn=>((ps.zip us).lookup n).isNone)=[]:=by
 rw[UY];intro n hn;have:=uv hl hn;cases e:(ps.zip us).lookup n with
 |none=>rw[e] at this;cases this
 |some v=>exact To
theorem sU(h1:fd.params.posonlyargs=[])(h2:fd.params.kwonlyargs=[])(h3:fd.params.vararg=none)(h4:fd.params.kwarg=none)(h5:fd.defaults=.none)(H:fd.params.args.map (·.arg)=ps)(nd:ps.Nodup)(hl:us.length=ps.length):
  bindArgs fd ⟨us,[]⟩=pure (ps.zip us):=by
 obtain⟨k,D,l⟩:=p3 h1 h2 h3 h4 H (XN hl);rw[D,h5];refine(l none [] Zh (by rw[YU,ZA,TC];exact iU hl)).trans ?_;rw[Ug,List.zip_nil_right];have T:=mv (pre:=[]) hl nd (λn _=>rfl);exact zcy pure T
theorem Du:∀{us:List Value}{z:Str},z∉ps->(ps.zip us).lookup z=none:=by
 induction ps with
 |nil=>intro us z _;rfl
 |cons p ps m=>
  intro us z hz;cases us with
  |nil=>rfl
  |cons u us=>rw[Vm,TQ];have:(z==p)=false:=beq_eq_false_iff_ne.mpr λy=>hz (y▸SH);rw[this];exact m λy=>hz (SK _ y)
variable{qs:List Str}
theorem yP:∀{us:List Value},us.length=ps.length->(ps++qs).zip us=ps.zip us:=by
 induction ps with
 |nil=>intro us h;cases us with
  |nil=>cases qs<;>rfl
  |cons _ _=>cases h
 |cons p ps m=>intro us h;cases us with
  |nil=>cases h
  |cons u us=>rw[List.cons_append,Vm,Vm,m (by simpa using h)]
theorem Af{s:Shared}{z:Str}{X:Addr}{o:Obj}{h:Value}{ep:Nat}(h1:fd.params.posonlyargs=[])(h2:fd.params.kwonlyargs=[])(h3:fd.params.vararg=none)(h4:fd.params.kwarg=none)(h5:fd.defaults=.ref X)(ho:s.heap.get? X=some o)(hs:o.data=.seq #[h] ep)
  (H:fd.params.args.map (·.arg)=qs++[z])(nd:(qs++[z]).Nodup):
  (us.length=(qs++[z]).length->zbz s fd ⟨us,[]⟩ ((qs++[z]).zip us))/\(us.length=qs.length->zbz s fd ⟨us,[]⟩ ((qs++[z]).zip (us++[h]))):=by
 have nz:=λy=>(Td.mp nd).2.2 z y z SH rfl;have r:List.drop (1-(qs++[z]).length) [h]=[h]:=by rw[show 1-(qs++[z]).length=0 by simp];rfl
 have l:(qs++[z]).take ((qs++[z]).length - [h].length)=qs:=by simp
 have N:(qs++[z]).drop ((qs++[z]).length - [h].length)=[z]:=by simp
 refine⟨λhl=>?_,λhl=>?_⟩
 .obtain⟨k,Y,R⟩:=p3 h1 h2 h3 h4 H (XN hl);refine .of_defaults h5 ho hs Y ((R (some #[h]) [h] r ?_).trans ?_)
  .rw[l,UY];exact λn hn=>UY.mp (iU hl) n (S7 _ hn)
  .have G:=UY.mp (iU hl) z (SJ _ SH);rw[N];have v:Z9 tY ((qs++[z]).zip us) ([z].zip [h])=(qs++[z]).zip us:=zcv G;rw[v,Ug];exact zcy pure (mv (pre:=[]) hl nd (λn _=>rfl))
 .obtain⟨k,Y,R⟩:=p3 h1 h2 h3 h4 H (by rw[hl,S3];exact Vw _ _);have hz:(qs++[z]).zip us=qs.zip us:=yP hl;refine .of_defaults h5 ho hs Y ((R (some #[h]) [h] r ?_).trans ?_)
  .rw[l,hz];exact iU hl
  .have D:(us++[h]).length=(qs++[z]).length:=by rw[S3,S3,hl];rfl
   have L:(qs++[z]).zip (us++[h])=qs.zip us++[(z,h)]:=by rw[List.zip_append hl.symm];rfl
   rw[N,hz];have v:Z9 tY (qs.zip us) ([z].zip [h])=qs.zip us++[(z,h)]:=zcu (by rw[Du nz];rfl);rw[v,<-L,Ug];exact zcy pure (mv (pre:=[]) D nd (λn _=>rfl))
mutual
noncomputable def Bv(K:SD):Nat->Value->A->Bool
 |0,_,_=>false
 |n+1,v,a=>match v,a with
  | .none,.non=>true
  | .bool b,.bl c=>b==c
  | .int i _,.int j=>i==j
  | .str x _,.str y=>x==y
  | .ref p,.tup as=>(match K.lookup p with
   |some ⟨.type "tuple",none,.seq its _,_⟩=>Xb its.size 1000&&sd K n its.toList as
   | _=>false)
  |_,_=>false
noncomputable def sd(K:SD):Nat->List Value->List A->Bool
 |0,_,_=>false
 |_+1,[],[]=>true
 |n+1,v::vs,a::as=>Bv K n v a&&sd K n vs as
 |_+1,_,_=>false
end
mutual
theorem pP{P:Program}{w:zam}{K:SD}{mg:Str->Option Value}:∀{n:Nat}{v:Value}{a:A},Bv K n v a=true->∃x,RelV x v/\∀G,RA ⟨K,mg,P,w⟩ G x a
 |0,v,a,h=>by cases h
 |n+1,v,a,h=>by
  cases v with
  |none=>
   cases a with
   |non=>exact⟨.non,rfl,λ_=>.non⟩
   |_=>exact kU h
  |bool b=>
   cases a with
   |bl c=>obtain rfl:=eq_of_beq (show (b==c)=true from h);exact⟨.bl _,rfl,λ_=>.bl _⟩
   |_=>exact kU h
  |int i t=>
   cases a with
   |int j=>obtain rfl:=eq_of_beq (show (i==j)=true from h);exact⟨.int _,⟨_,rfl⟩,λ_=>.int _⟩
   |_=>exact kU h
  |str x t=>
   cases a with
   |str y=>obtain rfl:=eq_of_beq (show (x==y)=true from h);exact⟨.str _,⟨_,rfl⟩,λ_=>.str _⟩
   |_=>exact kU h
  |ref p=>
   cases a with
   |tup as=>
    have h:(match K.lookup p with
     |some ⟨.type "tuple",none,.seq B _,_⟩=>(Xb B.size 1000&&sd K n B.toList as)
     | _=>false)=true:=h
    split at h
    .rename_i B ep sl e;rw[SA] at h;obtain⟨xs,h1,h2⟩:=sL (P:=P) (w:=w) (mg:=mg) h.2;refine⟨.ref _,rfl,λG=>.tup (.inr ⟨_,B,_,e,⟨rfl,rfl⟩,rfl,?_,h1⟩) (h2 G)⟩;have:=Wh h.1;have:=mF;exact fL
    .cases h
   |_=>exact kU h
  |_=>exact kU h
theorem sL{P:Program}{w:zam}{K:SD}{mg:Str->Option Value}:∀{n:Nat}{vs:List Value}{as:List A},sd K n vs as=true->∃xs,Vals xs vs/\∀G,br ⟨K,mg,P,w⟩ G xs as
 |0,vs,as,h=>by cases h
 |_+1,[],[],h=>⟨[],.nil,λ_=>.nil⟩
 |n+1,v::vs,a::as,h=>by have h:(Bv K n v a&&sd K n vs as)=true:=h;rw[SA] at h;obtain⟨x,h1,h2⟩:=pP (P:=P) (w:=w) (mg:=mg) h.1;obtain⟨xs,h3,h4⟩:=sL (P:=P) (w:=w) (mg:=mg) h.2;exact⟨x::xs,.cons h1 h3,λG=>.cons (h2 G) (h4 G)⟩
 |_+1,[],_::_,h=>by cases h
 |_+1,_::_,[],h=>by cases h
end
noncomputable def gV(K:SD)(x:Str):Option Value:=match Xg K zas x with
 |some (some v)=>some v
 |_=>none
variable{h:Heap}
theorem xf(X:K.In h)(G:h.Ns zas mg){x:Str}{v:Value}(e:gV K x=some v):mg x=some v:=by
 delta gV at e
 split at e
 .rename_i q;cases e;exact PySem.W.mg_of X G q
 .cases e
def Pe(K:SD)(p:Str×A):Bool:=match gV K p.1 with
 |some v=>Bv K 20 v p.2
 |none=>false
noncomputable def qE(K:SD)(C:Addr):Bool:=Wu K C Str.empty&&X1 K C&&X4 K C&&U2 K (.ref C) "__setattr__" == some (some (.builtin "object.__setattr__"))
theorem o9{C:Addr}(h:qE K C=true):MR K C:=by
 delta qE at h
 simp only[SA,zcz] at h
 obtain⟨⟨⟨h1,h2⟩,h3⟩,h4⟩:=h
 exact⟨h1,h2,h3,h4⟩
def NS(K:SD)(p:Str×List Str):Bool:=match gV K p.1 with
 |some (.ref C)=>qE K C&&p.2.all λf=>U2 K (.ref C) f==some none
 |_=>false
def HG(tb:Tb)(K:SD):Bool:=tb.fns.isEmpty&&tb.cst.all (Pe K)&&EV.all (λx=>Xg K zas x==some none)&&tb.fld.all (NS K)&&tb.ini.isEmpty&&tb.mts.isEmpty
variable{tb:Tb}
theorem Md{P:Program}(X:K.In h)(G:h.Ns zas mg)(e:HG tb K=true):Gd tb 1 P w K mg base:=by
 delta HG at e
 simp only[SA,T9,Tq,zcz] at e
 obtain⟨⟨⟨⟨⟨D,l⟩,N⟩,s⟩,E⟩,S⟩:=e
 refine⟨λx f q=>(by rw[D] at q;cases q),λx a q=>?_,λx q=>PySem.W.mg_none_of X G (N x q),λf c C q T=>?_,λc f q=>(by rw[E] at q;cases q),λm c f q=>(by rw[S] at q;cases q)⟩
 .have:=l _ (dD q)
  unfold Pe at this
  split at this
  .rename_i v I
   obtain⟨y,F,k⟩:=pP this
   exact⟨y,v,xf X G I,F,k⟩
  .cases this
 .obtain⟨p,i,n⟩:=Tj.mp (Wg.mp q)
  obtain⟨r,z⟩:=WM.mp i
  have t:=s p r
  subst n
  unfold NS at t
  split at t
  .rename_i Q I
   have:=xf X G I
   rw[T] at this
   cases this
   rw[SA,Tq] at t
   have:=t.2 f (Wg.mp z)
   exact⟨o9 t.1,by rw[zcz] at this;exact this⟩
  .cases t
def uq(d:DI):Bool:=(dy d.st).posonlyargs.isEmpty&&(dy d.st).kwonlyargs.isEmpty&&(dy d.st).vararg.isNone&&(dy d.st).kwarg.isNone&&(dy d.st).args.map (·.arg)==d.N.take d.n
def Lo(K:SD)(dV:Value)(a:A):Bool:=match dV with
 | .ref td=>match K.lookup td with
  | some ⟨_,_,.seq its _,_⟩=>(match its.toList with
   |[v]=>Bv K 20 v a
   | _=>false)
  |_=>false
 |_=>false
def yr(K:SD)(dV:Value):List A->Bool
 |[]=>match dV with
  | .none=>true
  |_=>false
 |[a]=>Lo K dV a
 |_=>false
variable{d:DI}
theorem LC{P:Program}{qual:Str}{f:Addr}(h:uq d=true)(hs:gE d=true)(F:qL K d.name qual d.st f fd dV)(hd:yr K dV d.df=true):mU P w K mg fd (d.N.take d.n) d.df:=by
 delta uq at h
 simp only[SA,T9,W2,zcz] at h
 obtain⟨⟨⟨⟨h1,h2⟩,h3⟩,h4⟩,h5⟩:=h
 obtain⟨S,hl⟩:=ig hs
 have nd:=S.nd.sublist (Wy d.n d.N)
 obtain⟨p1,T⟩:fd.params=dy d.st/\fd.defaults=dV:=by obtain⟨oc,od,kV,doc,pm,an,cdv,ct,osl,e,_⟩:=F.ex;rw[e];exact⟨rfl,rfl⟩
 rw[<-p1] at h1 h2 h3 h4 h5
 cases e:d.df with
 |nil=>
  rw[e] at hd;have hd:dV=.none:=by cases dV<;>first|rfl|cases hd
  subst hd
  .intro j U;refine⟨[],[],Binds.all λus C=>sU h1 h2 h3 h4 T h5 nd C,.nil,λ_=>?_⟩;rw[Zh];exact .nil
 |cons a as=>
  cases as with
  |cons _ _=>rw[e] at hd;cases hd
  |nil=>
   rw[e] at hd
   replace hd:Lo K dV a=true:=hd
   delta Lo at hd
   split at hd
   .rename_i r;split at hd
    .rename_i x y B ep sl E;split at hd
     .rename_i v I;obtain⟨Z,g,p⟩:=pP (P:=P) (w:=w) (mg:=mg) hd;have hi:B=#[v]:=by rw[<-V1,I]
      subst hi;have bo:∀(s:Shared)(us:List Value),K.In s.heap->((us.length=(d.N.take d.n).length->zbz s _ ⟨us,[]⟩ ((d.N.take d.n).zip us))/\(us.length+1=(d.N.take d.n).length->zbz s _ ⟨us,[]⟩ ((d.N.take d.n).zip (us++[v])))):=λs us X=>by
       rcases List.eq_nil_or_concat (d.N.take d.n) with z|⟨qs,Q,z⟩
       .rw[z] at h5 ⊢;refine⟨λhl=>?_,λhl=>by cases hl⟩;cases us with
        |cons _ _=>cases hl
        |nil=>obtain⟨k,Y,R⟩:=p3 (us:=[]) h1 h2 h3 h4 h5 (SO 0);exact .of_defaults T (X _ _ E) rfl Y (R (some #[v]) [] rfl rfl)
       .rw[List.concat_eq_append] at z;rw[z] at h5 nd ⊢;have:=Af (us:=us) h1 h2 h3 h4 T (X _ _ E) rfl h5 nd;exact⟨this.1,λq=>this.2 (by simpa using q)⟩
      intro j U;rcases Nat.le_one_iff_eq_zero_or_eq_one.mp U with rfl|rfl
      .exact⟨[v],[Z],λs us X C=>(bo s us X).2 (by simpa using C),.cons g .nil,λG=>.cons (p G) .nil⟩
      .exact⟨[],[],λs us X C=>by rw[Ug] at C ⊢;exact(bo s us X).1 C,.nil,λG=>.nil⟩
     .cases hd
    .cases hd
   .cases hd
def xX:Tb->List DI->List (Option Ms)
 |_,[]=>[]
 |tb,d::ds=>ug tb d::xX (tb.add d) ds
def xO:Tb->List DI->Tb
 |tb,[]=>tb
 |tb,d::ds=>xO (tb.add d) ds
def iQ(K:SD)(mg:Str->Option Value)(d:DI)(f:Addr):Prop:=match d.cl with
 |none=>mg d.name=some (.ref f)
 |some c=>∃C,mg c=some (.ref C)/\MR K C/\Meth K C d.name f/\(d.name=("__init__" : Str)->Mk K C f)
section
variable{P:Program}{w:zam}{K:SD}{mg:Str->Option Value}{base:Heap}
theorem Gd.up{j k:Nat}(G:Gd tb j P w K mg base)(h:j<=k):Gd tb k P w K mg base:=⟨λx f e=>by
 obtain⟨a,fd,ps,F,r⟩:=G.fn x f e;exact⟨a,fd,ps,F.mono h,r⟩,G.cs,G.bl,G.fl,λc f e=>by
 obtain⟨C,a,fd,ps,i,hi,r⟩:=G.im c f e;exact⟨C,a,fd,ps,i,Tn hi h,r⟩,λm c f e=>by
 obtain⟨C,a,fd,ps,F,r⟩:=G.mt m c f e;exact⟨C,a,fd,ps,F.mono h,r⟩⟩
theorem Gd.add{tb:Tb}{k:Nat}(G:Gd tb k P w K mg base){d:DI}{f:Addr}{fd:zaB}{dV:Value}(m:iQ K mg d f)(F:qL K d.name d.qual d.st f fd dV)(hd:yr K dV d.df=true)(hs:gE d=true)(hp:uq d=true)
  (h:ug tb d=some d.m):Gd (tb.add d) (k+2) P w K mg base:=by
 have i:=G.up (show k<=k+2 by lia);have X:=He G F hs h;have a:mU P w K mg fd (d.N.take d.n) d.df:=LC hp hs F hd
 delta Tb.add
 delta iQ at m
 split
 .rename_i hc;rw[hc] at m;refine⟨λx fi e=>?_,i.cs,i.bl,i.fl,i.im,i.mt⟩
  .have e:=e;rw[TQ] at e;cases z:x==d.name with
   |true=>rw[z] at e;cases e;rw[zcz] at z;subst z;exact⟨f,fd,_,X.mono (Vn _),m,F.kp,a⟩
   |false=>rw[z] at e;exact i.fn x fi e
 .rename_i c hc;rw[hc] at m;obtain⟨C,H,L,s,S⟩:=m;split
  .rename_i z;rw[zcz] at z;refine⟨i.fn,i.cs,i.bl,i.fl,λx fi e=>?_,i.mt⟩;rw[TQ] at e;cases y:x==c with
   |true=>rw[y] at e;cases e;rw[zcz] at y;subst y;exact⟨C,f,fd,_,k+1,SO _,X,H,S z,a⟩
   |false=>rw[y] at e;exact i.im x fi e
  .refine⟨i.fn,i.cs,i.bl,i.fl,i.im,λx y fi e=>?_⟩;rcases SR.mp e with e|e
   .cases e;exact⟨C,f,fd,_,X.mono (Vn _),H,L,s,a⟩
   .exact i.mt x y fi e
theorem Gd.all:∀{ds:List DI}{tb:Tb}{k:Nat},Gd tb k P w K mg base->(∀d∈ds,∃f fd dV,iQ K mg d f/\qL K d.name d.qual d.st f fd dV/\yr K dV d.df=true)->ds.all (λd=>gE d&&uq d)=true->xX tb ds=ds.map (λd=>some d.m)->Gd (xO tb ds) (k+2*ds.length) P w K mg base
 |[],tb,k,G,_,_,_=>G
 |d::ds,tb,k,G,hf,hs,ht=>by rw[T5,SA,SA] at hs;obtain⟨x,J⟩:=Yx ht;obtain⟨f,fd,dV,m,F,hd⟩:=hf d SH;have:=Gd.all (G.add m F hd hs.1.1 hs.1.2 x) (λe he=>hf e (SK _ he)) hs.2 J;rw[S5,show k+2*(ds.length+1)=k+2+2*ds.length by lia];exact this
end
noncomputable abbrev An:=Str×Str×Arguments×zcb×Scope×Addr×List (Str×Addr)×Addr×Bool
def Pd(K:SD)(d:DI):Option Addr:=match d.cl with
 |none=>match gV K d.name with
  |some (.ref f)=>some f
  |_=>none
 |some c=>match gV K c with
  |some (.ref C)=>match U2 K (.ref C) d.name with
   |some (some (.ref f))=>some f
   |_=>none
  |_=>none
def RO(K:SD)(d:DI)(f:Addr):Bool:=match d.cl with
 |none=>true
 |some c=>match gV K c with
  |some (.ref C)=>qE K C&&Xc K (.ref f)&&(!(d.name==("__init__" : Str)) || (Yr K C&&UA K (.ref C)))
  |_=>false
def KR(K:SD)(d:DI):Option An:=match Pd K d with
 |some f=>match K.lookup f with
  |some ⟨_,_,.func x,_⟩=>some (x.name,x.qualname,x.params,x.body,x.scope,x.globals,x.closure,x.builtins,V9 K x.code d.qual&&UA K (.ref f)&&yr K x.defaults d.df&&RO K d f)
  |_=>none
 |none=>none
def Me(d:DI):Option An:=some (d.name,d.qual,dy d.st,.stmts (cX d.st),aU d.st,zas,[],zby,true)
theorem GX(X:K.In h)(G:h.Ns zas mg)(e:KR K d=Me d):∃f fd dV,iQ K mg d f/\qL K d.name d.qual d.st f fd dV/\yr K dV d.df=true:=by
 delta KR Me at e
 split at e
 .rename_i f b
  split at e
  .rename_i Z U x o F
   obtain⟨b1,b2,n,r,Q,i,p,l,u,s,E,S,w,j,k⟩:=x
   simp only[Option.some.injEq,Prod.mk.injEq] at e
   obtain⟨rfl,rfl,rfl,rfl,rfl,rfl,rfl,rfl,hb⟩:=e
   simp only[SA] at hb
   obtain⟨⟨⟨q,g⟩,L⟩,P⟩:=hb
   refine⟨f,_,_,?_,⟨⟨_,_,_,_,_,_,_,_,_,rfl,F,q⟩,g⟩,L⟩
   delta iQ
   delta Pd at b
   delta RO at P
   split
   .rename_i hc
    rw[hc] at b
    simp only at b
    split at b
    .rename_i v I;cases b;exact xf X G I
    .cases b
   .rename_i c hc
    rw[hc] at b P
    simp only at b P
    split at b
    .rename_i C I
     rw[I] at P
     simp only[SA,Uh,Te,beq_eq_false_iff_ne] at P
     split at b
     .rename_i v a
      cases b
      refine⟨C,xf X G I,o9 P.1.1,⟨a,P.1.2,g⟩,λz=>?_⟩
      rcases P.2 with y|y
      .exact absurd z y
      .rw[z] at a
       exact⟨y.1,a,P.1.2,y.2⟩
     .cases b
    .cases b
  .cases e
 .cases e
def ML(ds:List DI)(e:SD->Bool)(K:SD):List (Option An)×Bool:=(ds.map (KR K),e K)
def MP(ds:List DI):List (Option An)×Bool:=(ds.map Me,true)
def hk(ds:List DI)(b:SD->Bool):Y2 where
 α:=List (Option An)×Bool
 obs:=λs=>ML ds b (W.hV s.heap)
 val:=λ_=>MP ds
 says:=λ_ h=>∃K:SD,ML ds b K=MP ds/\K.In h
 of:=λ_ s e=>⟨W.hV s.heap,e,W.nj _⟩
 keeps:=λ_ _ _ ⟨K,e,i⟩ k=>⟨K,e,i.keeps k⟩
variable{ds:List DI}
theorem Ex{b:SD->Bool}(X:K.In h)(G:h.Ns zas mg)(e:ML ds b K=MP ds):b K=true/\∀d∈ds,∃f fd dV,iQ K mg d f/\qL K d.name d.qual d.st f fd dV/\yr K dV d.df=true:=by obtain⟨D,l⟩:=VJ e;exact⟨l,λd hd=>GX X G (List.map_eq_map_iff.mp D d hd)⟩
theorem Cc{l:Yv}{q:Program}{loose:List Str}{XP:(Str->Option Value)->Heap->Prop}{d:DefRec}{x:Str}{di:DI}(hn:l.most=some 63)(k:d.params.defaults=[])(I:d.name = "law")
  (hs:(ds++[di]).all (λd=>gE d&&uq d)=true)(ht:xX tb ds=ds.map (λd=>some d.m))(hl:ug (xO tb ds) di=some di.m)(v:di.name = "law")(r:di.cl=none)(y:di.df=[])(hx:di.N.take di.n=[x])(C:eJ (2+2*ds.length) zbD)
  (T:∀ns:List Int,ns.length<=63->∃Z,di.M [.fr (.lst (ns.map A.int))]=some (.rt (.fr (.bl true)),Z)):
  YT q loose XP (hk (ds++[di]) (HG tb)).says l.row.toRowW d [] (λf vs=>Yk f vs):=by
 refine W.zt (CX:=zJ) (x:=x) (sp:=Ar) hn W1 k C (λw mg J h Y G j=>?_) (λ_ _ _ _ _ z=>z) (λ_ _ a ns hl _ R=>⟨a,ns,rfl,R,hl,λ_=>rfl⟩);obtain⟨K,e,p⟩:=Y;obtain⟨D,F⟩:=Ex p G e;refine⟨K,p,?_⟩;rw[List.all_append,SA] at hs;obtain⟨f,fd,dV,H,i,E⟩:=F di (SJ _ SH);rw[y] at E;have E:dV=.none:=by cases dV<;>first|rfl|cases E
 subst E
 delta iQ at H
 rw[I] at j;rw[r] at H;rw[v,j] at H;cases H;have X:=Tq.mp hs.2 di SH;rw[SA] at X;have Q:di.n=1:=by have:=(ig X.1).2;rw[hx] at this;exact this.symm
 refine⟨fd,λs u=>?_,λbase _ _=>?_⟩
 .obtain⟨oc,od,kV,doc,pm,an,cdv,ct,osl,rfl,B,c⟩:=i.ex;obtain⟨S,V⟩:=ig X.1;have hp:=X.2;unfold uq at hp;simp only[SA,T9,W2,zcz] at hp;obtain⟨⟨⟨⟨h1,h2⟩,h3⟩,h4⟩,h5⟩:=hp;have:=sU (fd:=Wr di.name di.qual (dy di.st) (cX di.st) (aU di.st) .none kV doc pm an cdv ct) (us:=[u]) h1 h2 h3 h4 rfl h5 (S.nd.sublist (Wy _ _)) (by rw[hx];rfl);rw[hx] at this;exact .of_eq this
 .have b:=Gd.all (Md (P:=l.prog) (w:=w) (base:=base) p G D) (λd hd=>F d (S7 _ hd)) hs.1 ht;have o:=He b i X.1 hl;rw[hx,Q,show 1+2*ds.length+1=2+2*ds.length by lia] at o;exact Kl o T
end M
set_option maxHeartbeats 4000000
namespace W
open PySem L2 M
noncomputable def top(i:Nat):Stmt:=PySem.Challenge.pw_fitwhatever_k24_least_places.main.body.getD i (.Pass ⟨0,0,0,0⟩)
abbrev mix(m n:Mi Rr):Mi Rr:=ay (bP ub gH) m n
abbrev ax(i:Int):Mi Rr:=mC (.int i)
abbrev P0(b:Bool):A->A->Option Rr:=bP (bP (nZ b) (jr b)) (uy b)
abbrev aI(f:Ms)(m:Mi (List Rr)):Mi Rr:=xG f [] m
abbrev xj(t:Mi Bool):Ms:=iA t (bc (mC (.bl false))) bw
abbrev KY(a:Mi Rr):Mi (List Rr):=cM a dW
abbrev aE(a b:Mi Rr):Mi (List Rr):=cM a (KY b)
abbrev kh(a b c:Mi Rr):Mi (List Rr):=cM a (aE b c)
abbrev vf(a b c d:Mi Rr):Mi (List Rr):=cM a (kh b c d)
def ix:Ms:=av (jY JK (aq (ay fM (ab 1) (ax 0))) (DE 0 1 (aE (ab 1) (ay iX (ab 0) (ab 1))))) (bc (dw sD (ab 0)))
def fq:Ms:=bH 0 ix
def mE:Ms:=av (iA (aq (ay ou (ab 1) (ax 0))) (av (aD 0 (ay iM (ax 0) (ab 0))) (aD 1 (ay iM (ax 0) (ab 1)))) bw) (av (aD 2 (aI fq (aE (aj 0) (aj 1)))) (bc (a8 (aE (ay jA (ab 0) (ab 2)) (ay jA (ab 1) (ab 2))))))
def bI:Ms:=bH 1 mE
def m6:Ms:=bc (aI bI (aE (ay bR (mix (ab 0) (ax 0)) (mix (ab 1) (ax 0))) (ay bR (mix (ab 0) (ax 1)) (mix (ab 1) (ax 1)))))
def bq:Ms:=bH 0 m6
def iq:Ms:=av (aD 2 (bA dW)) (av (cA (cC (ab 0)) (dH 4 (aH (aF 3) (aH (aF 4) (aH (aF 5) (aH (aF 6) d5))))) (av (aD 7 (dw jZ (c9 3 (cC (ab 6)) (dH 3 (aH (aF 8) (aH (aF 9) (aH (aF 10) d5)))) cB (a8 (kh (ab 8) (aI bq (aE (aj 9) (aj 1))) (ab 10)))))) (fm (fK 2 (cR 2 (a8 (vf (ab 3) (aI bq (aE (aj 4) (aj 1))) (aI bq (aE (aj 5) (aj 1))) (ab 7)))))))) (bc (ab 2)))
def ir:Ms:=bH 6 iq
def mr:Ms:=bc (aI bI (aE (qH (ay aW (ay bR (mix (ab 0) (ax 0)) (mix (ab 1) (ax 1))) (ay bR (mix (ab 1) (ax 0)) (mix (ab 0) (ax 1))))) (ay bR (mix (ab 0) (ax 1)) (mix (ab 1) (ax 1)))))
def bx:Ms:=bH 0 mr
def kH:Ms:=av (iA (aq (ay fI (mix (ab 0) (ax 0)) (ax 1))) (av (aD 2 (ay iX (mix (ab 0) (ax 1)) (ab 1))) (av (mO 0 (ax 1) (ay jA (mix (ab 0) (ax 1)) (ab 1))) (bc (ab 2)))) bw) (av (aD 3 (ay aW (mix (ab 0) (ax 2)) (ax 1))) (av (mO 0 (ax 2) (ab 3)) (av (aD 4 (ay iX (ay bR (ay aW (ay aW (mix (ab 0) (ax 1)) (ay bR (ay bR (ax 7919) (ab 3)) (ab 3))) (ab 3)) (ax 48271)) (ax 2305843009213693951))) (bc (ay iX (ay jA (ay iX (ay aW (ay bR (ab 4) (ax 1442695040888963407)) (ax 4321)) (ax 2305843009213693921)) (ax 64)) (ab 1))))))
def ah:Ms:=bH 3 kH
def ku:Ms:=bc (aI bx (aE (aj 0) (a8 (aE (ay iM (ax 0) (mix (ab 1) (ax 0))) (mix (ab 1) (ax 1))))))
def aK:Ms:=bH 0 ku
def kJ:Ms:=av (sI (ab 0) (dH 4 (aH (aF 3) (aH (aF 4) (aH (aF 5) (aH (aF 6) d5)))))) (av (cA (cC (ab 6)) (dH 3 (aH (aF 7) (aH (aF 8) (aH (aF 9) d5)))) (av (iA (n9 (aq (ay fI (ab 7) (ab 1))) (aq (ay fI (ab 9) (mC (.str "fixed"))))) (bc (ab 8)) bw) (av (iA (n9 (aq (ay fI (ab 7) (ab 1))) (aq (ay fI (ab 9) (mC (.str "big"))))) (bc (aI bx (aE (aj 8) (aI aK (aE (aj 2) (aj 4)))))) bw) (iA (aq (ay fI (ab 7) (ab 1))) (bc (aI bx (aE (aj 8) (aI aK (aE (aj 5) (aj 2)))))) bw)))) (bc (mC .non)))
def gJ:Ms:=bH 7 kJ
def iD:Ms:=av (aD 2 rW) (av (cA (cC (ab 1)) (aF 3) (av (aD 4 (ay aW (ax 1) (aI ah (aE (ab 0) (ax 6))))) (av (aD 5 (aI bI (aE (aI ah (aE (ab 0) (qH (ay aW (ab 4) (ax 1))))) (aj 4)))) (av (nF 2 (mix (ab 3) (ax 0)) (aI bx (aE (mix (ab 3) (ax 1)) (aI bq (aE (aj 5) (aI aK (aE (mix (ab 3) (ax 2)) (mix (ab 3) (ax 1))))))))) (cA (cC (mix (ab 3) (ax 3))) (dH 3 (aH (aF 6) (aH (aF 7) (aH (aF 8) d5)))) (av (aD 5 (aI bI (aE (ay iM (aI ah (aE (ab 0) (qH (ay aW (ay bR (ax 2) (ab 4)) (ax 1))))) (ab 4)) (aj 4)))) (nF 2 (ab 6) (aI bq (aE (aj 5) (aI gJ (kh (aj 3) (aj 6) (mix (ab 2) (mix (ab 3) (ax 0)))))))))))))) (bc (ab 2)))
def fD:Ms:=bH 7 iD
def lS:Ms:=av (iA (aq (ay fI (aI ah (aE (ab 0) (ax 8))) (ax 1))) (bc (a8 (aE (ay aW (ax 3) (aI ah (aE (ab 0) (ax 4)))) (ay aW (ax 9) (aI ah (aE (ab 0) (ax 8))))))) bw) (bc (a8 (aE (ay aW (ax 1) (aI ah (aE (ab 0) (ax 4)))) (aI ah (aE (ab 0) (ax 9))))))
def iJ:Ms:=bH 0 lS
def jH:Ms:=av (aD 2 (mC (.str "abcdefghijklmnopqrstuvwxyz"))) (av (aD 3 (MS jI (mC (.str "")) (c9 1 (eR (ax 8)) (aF 7) cB (mix (ab 2) (aI ah (aE (ab 0) (ax 26))))))) (av (aD 4 (ay aW (ax 1) (aI ah (aE (ab 0) (ax 8))))) (av (aD 5 (aI ah (aE (ab 0) (aj 4)))) (av (aD 6 (aI ah (aE (ab 0) (ax 26)))) (bc (c9 1 (eR (ab 1)) (aF 7) cB (ay aW (ay aW (JC (ab 3) kT (iE (ab 5))) (mix (ab 2) (ay iX (ay aW (ab 6) (ay bR (ax 3) (ab 7))) (ax 26)))) (JC (ab 3) (iE (ay aW (ab 5) (ax 1))) (iE (ab 4))))))))))
def gc:Ms:=bH 5 jH
def jE:Ms:=av (aD 2 (bA dW)) (av (cA (cC (aI gc (aE (ab 0) (ax 6)))) (aF 3) (fm (fK 2 (lC 2 (bA (aE (a8 (aE (mC (.str "x")) (ab 3))) (a8 (aE (mC (.str "y")) (ab 3))))))))) (bc (c9 1 (eR (ab 1)) (aF 4) cB (jM 2 (aI ah (aE (ab 0) (dw eX (ab 2))))))))
def gk:Ms:=bH 2 jE
def jg:Ms:=bc (c9 1 (eR (ab 1)) (aF 2) cB (ay aW (mix (bA (vf (mC (.str "s")) (mC (.str "e")) (mC (.str "part.")) (mC (.str "a.b")))) (aI ah (aE (ab 0) (ax 4)))) (mix (mC (.str "abcdefghijkl")) (ab 2))))
def gm:Ms:=bH 0 jg
def kF:Ms:=av (iA (aq (ay fI (ab 1) (ax 4))) (bc (a8 (aE (ay iM (aI ah (aE (ab 0) (qH (ay aW (ay bR (ax 2) (ay il (ax 10) (ax 17))) (ax 1))))) (ay il (ax 10) (ax 17))) (ax 1)))) bw) (av (iA (aq (ay fI (ab 1) (ax 3))) (bc (aI bI (aE (ay iM (aI ah (aE (ab 0) (qH (ay aW (ay bR (ax 2) (ay il (ax 10) (ax 6))) (ax 1))))) (ay il (ax 10) (ax 6))) (qH (ay aW (ax 1) (aI ah (aE (ab 0) (ax 1000)))))))) bw) (av (iA (aq (ay fI (ab 1) (ax 2))) (bc (a8 (aE (ay iM (aI ah (aE (ab 0) (qH (ay aW (ay bR (ax 2) (ay il (ax 10) (ax 15))) (ax 1))))) (ay il (ax 10) (ax 15))) (ax 1)))) bw) (bc (aI bI (aE (ay iM (aI ah (aE (ab 0) (ax 21))) (ax 10)) (mix (bA (cM (ax 1) (vf (ax 1) (ax 2) (ax 3) (ax 6)))) (aI ah (aE (ab 0) (ax 5)))))))))
def dG:Ms:=bH 0 kF
def kG:Ms:=av (aD 2 (aI dG (aE (ab 0) (aj 1)))) (av (iA (aq (ay fI (aI ah (aE (ab 0) (ax 8))) (ax 1))) (bc (a8 (aE (ax 0) (ax 1)))) bw) (bc (a8 (aE (dw sD (mix (ab 2) (ax 0))) (mix (ab 2) (ax 1))))))
def cJ:Ms:=bH 1 kG
def jq:Ms:=av (aD 4 (aI ah (aE (ab 0) (aj 3)))) (av (aD 5 (aI gm (aE (ab 0) (aj 2)))) (av (aD 6 (bA dW)) (av (jY JK (n9 (aq (ay fM (ab 5) (bA dW))) (aq (ay ou (dw eX (ab 6)) (ab 1)))) (av (aD 7 (qO 5)) (av (aD 8 (aI dG (aE (ab 0) (aj 4)))) (av (aD 9 (aI bx (aE (aj 8) (aI cJ (aE (ab 0) (aj 4)))))) (av (aD 10 (bA dW)) (av (cA (eR (mix (bA (cM (ax 0) (cM (ax 0) (vf (ax 1) (ax 1) (ax 2) (ax 3))))) (aI ah (aE (ab 0) (ax 6))))) (aF 11) (iA (aq (ay fM (ab 5) (bA dW))) (av (aD 12 (aI cJ (aE (ab 0) (aj 4)))) (fm (fK 10 (cR 10 (a8 (kh (qO 5) (ab 12) (mix (bA (kh (mC (.str "fixed")) (mC (.str "big")) (mC (.str "small")))) (aI ah (aE (ab 0) (ax 3)))))))))) bw)) (fm (fK 6 (cR 6 (a8 (vf (ab 7) (ab 8) (ab 9) (dw jZ (ab 10))))))))))))) (bc (ab 6)))))
def gf:Ms:=bH 9 jq
def gR:Ms:=av (aD 2 (bA dW)) (av (cA (cC (dw (zL bW cn) (ab 1))) (aF 3) (av (aD 4 (mix (bA (cM (a8 (aE (ax 0) (ax 1))) (cM (a8 (aE (ax 0) (ax 1))) (cM (a8 (aE (ax 1) (ax 1))) (cM (a8 (aE (Hz CA (ax 1)) (ax 1))) (vf (a8 (aE (ax 2) (ax 1))) (a8 (aE (Hz CA (ax 2)) (ax 1))) (a8 (aE (ax 1) (ax 3))) (a8 (aE (Hz CA (ax 5)) (ax 7))))))))) (aI ah (aE (ab 0) (ax 8))))) (iA (aq (ay fM (mix (ab 4) (ax 0)) (ax 0))) (fm (fK 2 (cR 2 (a8 (aE (ab 3) (ab 4)))))) bw))) (bc (dw jZ (ab 2))))
def cL:Ms:=bH 3 gR
def iY:Ms:=bc (aI bI (aE (ay iM (aI ah (aE (ab 0) (ax 21))) (ax 10)) (mix (bA (vf (ax 1) (ax 1) (ax 2) (ax 3))) (aI ah (aE (ab 0) (ax 4))))))
def cP:Ms:=bH 0 iY
def ju:Ms:=av (aD 2 (mix (ab 0) (ax 0))) (av (cA (cC (mix (ab 0) (ax 1))) (dH 2 (aH (aF 3) (aH (aF 4) d5))) (aD 2 (aI bx (aE (aj 2) (aI bq (aE (aj 4) (mix (ab 1) (ab 3)))))))) (bc (ab 2)))
def cw:Ms:=bH 3 ju
def kE:Ms:=av (aD 1 (mix (bA (aE (a8 (aE (ax 1) (ax 1))) (a8 (aE (ay aW (ax 1) (aI ah (aE (ab 0) (ay il (ax 10) (ax 7))))) (ax 1))))) (dw yI (ay fI (aI ah (aE (ab 0) (ax 4))) (ax 1))))) (av (aD 2 (aI ir (aE (aI gf (vf (ab 0) (aI ah (aE (ab 0) (ax 4))) (ax 7) (ax 2))) (aj 1)))) (av (aD 3 (aI fD (aE (ab 0) (aj 2)))) (av (sI (aI iJ (KY (ab 0))) (dH 2 (aH (aF 4) (aH (aF 5) d5)))) (av (aD 6 gQ) (av (cA (cC (aI gk (aE (ab 0) (aj 4)))) (aF 7) (c0 6 (ab 7) (aI bq (aE (aI cP (KY (ab 0))) (aj 1))))) (av (aD 8 (m5 6)) (av (aD 9 (bA dW)) (av (cA (eR (ab 5)) (aF 10) (av (aD 11 (mix (ab 8) (aI ah (aE (ab 0) (aj 4))))) (av (aD 12 (mix (ab 8) (aI ah (aE (ab 0) (aj 4))))) (av (aD 13 (aI cL (aE (ab 0) (qH (dw (zL bW cn) (ab 3)))))) (av (aD 14 (aI bq (aE (aI cP (KY (ab 0))) (aj 1)))) (av (aD 14 (mix (bA (aE (a8 (aE (ax 0) (ax 1))) (a8 (aE (dw sD (mix (ab 14) (ax 0))) (mix (ab 14) (ax 1)))))) (aI ah (aE (ab 0) (ax 2))))) (av (aD 15 (aI aK (aE (aj 14) (aI cw (aE (a8 (aE (a8 (aE (ax 0) (ax 1))) (ab 13))) (aj 3)))))) (fm (fK 9 (cR 9 (a8 (kh (ab 11) (ab 12) (a8 (aE (aI aK (aE (aj 15) (aI aK (aE (ay aS (ab 6) (ab 12)) (ay aS (ab 6) (ab 11)))))) (ab 13))))))))))))))) (bc (a8 (kh (ab 9) (ab 3) (ab 6))))))))))))
def gM:Ms:=bH 15 kE
def lM:Ms:=bc (pI (ay aW (c9 1 (cC (ab 0)) (aF 1) cB (mix (ab 1) (ax 0))) (c9 1 (cC (ab 0)) (aF 1) cB (mix (ab 1) (ax 1)))))
def mG:Ms:=bH 0 lM
def fS:Ms:=av (jY JK (aq (ay fM (ab 1) (ax 0))) (av (aD 2 (ay iX (ab 0) (ab 1))) (av (aD 0 (ab 1)) (aD 1 (ab 2))))) (bc (ab 0))
def fO:Ms:=bH 1 fS
def gL:Ms:=av (aD 2 (aI fO (aE (aj 0) (aj 1)))) (bc (a8 (aE (ay jA (ab 0) (ab 2)) (ay jA (ab 1) (ab 2)))))
def cZ:Ms:=bH 1 gL
def sV:Ms:=av (aD 2 (mix (mix (ab 0) (ax 0)) (ax 0))) (av (aD 3 (mix (mix (ab 0) (ax 0)) (ax 1))) (av (cA (cC (mix (ab 0) (ax 1))) (dH 2 (aH (aF 4) (aH (aF 5) d5))) (av (iA (aq (ay (bP (P0 true) (sR true)) (ab 4) (ab 1))) FN bw) (av (aD 6 (mix (ab 1) (ab 4))) (av (aD 2 (ay aW (ay bR (ay bR (ab 2) (mix (ab 5) (ax 1))) (mix (ab 6) (ax 1))) (ay bR (ay bR (mix (ab 5) (ax 0)) (mix (ab 6) (ax 0))) (ab 3)))) (aD 3 (ay bR (ay bR (ab 3) (mix (ab 5) (ax 1))) (mix (ab 6) (ax 1)))))))) (bc (aI cZ (aE (aj 2) (aj 3))))))
def jF:Ms:=bH 5 sV
def yc:Ms:=bc (aI cZ (aE (ay iM (ay bR (mix (ab 0) (ax 0)) (mix (ab 1) (ax 1))) (ay bR (mix (ab 1) (ax 0)) (mix (ab 0) (ax 1)))) (ay bR (mix (ab 0) (ax 1)) (mix (ab 1) (ax 1)))))
def rj:Ms:=bH 0 yc
def pd:Ms:=bc (ay ou (ay bR (mix (ab 0) (ax 0)) (mix (ab 1) (ax 1))) (ay bR (mix (ab 1) (ax 0)) (mix (ab 0) (ax 1))))
def j7:Ms:=bH 0 pd
def gD:Ms:=av (aD 4 (mC .non)) (av (cA (B5 (ab 0)) (dH 2 (aH (aF 5) (aH (aF 6) d5))) (av (aD 7 (aI rj (aE (ay aS (ab 2) (mix (ab 6) (ax 0))) (mix (ab 1) (ab 5))))) (iA (aq (aI j7 (aE (ay aS (ab 2) (mix (ab 6) (ax 1))) (aj 7)))) (av (c0 2 (mix (ab 6) (ax 1)) (ab 7)) (av (c0 3 (mix (ab 6) (ax 1)) (ab 5)) (aD 4 (mix (ab 6) (ax 1))))) bw))) (bc (ab 4)))
def bh:Ms:=bH 4 gD
def gS:Ms:=av (aD 2 (aI mG (KY (aj 0)))) (av (aD 3 (c9 1 (cC (ab 0)) (aF 9) cB (aI jF (aE (mix (ab 9) (ax 2)) (aj 1))))) (av (aD 4 gQ) (av (aD 5 gQ) (av (cA (cC (ab 2)) (aF 6) (c0 4 (ab 6) (mC (.tup [.int 0,.int 1])))) (av (aD 7 (mC .non)) (av (cA (eR (ay aW (dw eX (ab 2)) (ax 1))) (aF 8) (av (aD 7 (aI bh (vf (aj 0) (aj 3) (ab 4) (ab 5)))) (iA (aq (ay (Kn false) (ab 7) (mC .non))) (bc (ab 4)) bw))) FN))))))
def bN:Ms:=bH 7 gS
def kf:Ms:=av (aD 2 (ax 0)) (av (iA (aq (ay ou (ab 1) (dw eX (ab 0)))) (aD 2 (mix (ab 0) (ab 1))) bw) (bc (bA (kh (dw yI (ay MO (dw sD (ab 2)) (ay il (ax 10) (ax 18)))) (ab 2) (ay bR (ax 17) (ab 1))))))
def kI:Ms:=bH 1 kf
def jD:Ms:=bc (ay ou (ay bR (mix (ab 0) (ax 0)) (mix (ab 1) (ax 1))) (ay bR (mix (ab 1) (ax 0)) (mix (ab 0) (ax 1))))
def aV:Ms:=bH 0 jD
def i7:Ms:=av (aD 2 gQ) (av (cA (cC (ab 0)) (dH 3 (aH (aF 3) (aH (aF 4) (aH (aF 5) d5)))) (av (c0 2 (ab 3) (a8 (aE (ax 0) (ax 1)))) (c0 2 (ab 4) (a8 (aE (ax 0) (ax 1)))))) (av (cA (eR (dw xZ (ab 2))) (aF 6) (cA (cC (ab 0)) (dH 3 (aH (aF 3) (aH (aF 4) (aH (aF 5) d5)))) (av (aD 7 (aI aK (aE (ay aS (ab 2) (ab 3)) (aI cw (aE (aj 5) (aj 1)))))) (iA (aq (aI aV (aE (ay aS (ab 2) (ab 4)) (aj 7)))) (c0 2 (ab 4) (ab 7)) bw)))) (bc (ab 2))))
def ed:Ms:=bH 6 i7
def pF:Ms:=av (xj (zh (i4 (aq (dw (yh Ty.tuple) (ab 0)))) (zh (aq (ay fM (dw eX (ab 0)) (ax 2))) (aq (ay fM (ab 0) (ab 1)))))) (bc (ay (bP (P0 true) (sR true)) (mC (.bl false)) (c9 1 (cC (ab 0)) (aF 2) cB (Bx (dw (yh Ty.int) (ab 2)) (De (dw (yh Ty.bool) (ab 2)))))))
def cK:Ms:=bH 0 pF
def Ay:Ms:=bc (aI cZ (aE (qH (ay aW (ay bR (mix (ab 0) (ax 0)) (mix (ab 1) (ax 1))) (ay bR (mix (ab 1) (ax 0)) (mix (ab 0) (ax 1))))) (ay bR (mix (ab 0) (ax 1)) (mix (ab 1) (ax 1)))))
def Bw:Ms:=bH 0 Ay
def tX:Ms:=bc (aI Bw (aE (aI rj (aE (ay aS (ab 2) (mix (ab 0) (ax 1))) (ay aS (ab 2) (mix (ab 0) (ax 0))))) (aI jF (aE (mix (ab 0) (ax 2)) (aj 1)))))
def gY:Ms:=bH 0 tX
def m9:Ms:=bc (aI bx (aE (aI aK (aE (ay aS (ab 2) (mix (ab 0) (ax 1))) (ay aS (ab 2) (mix (ab 0) (ax 0))))) (aI cw (aE (mix (ab 0) (ax 2)) (aj 1)))))
def eQ:Ms:=bH 0 m9
def jj:Ms:=av (av (aD 3 (aI ed (aE (aj 0) (aj 1)))) (av (aD 4 (bA (aE (dw xY (ab 0)) (dw pT (ab 1))))) (av (aD 5 (aI bN (aE (mix (ab 4) (ax 0)) (mix (ab 4) (ax 1))))) (xj (zh (i4 (aq (dw (l8 Ty.dict) (ab 5)))) (zh (aq (ay (bP (bP (bP fM kD) jJ) jc) (ab 5) (ab 3))) (aq (ay (bP (bP (bP fM kD) jJ) jc) (ab 4) (bA (aE (ab 0) (ab 1))))))))))) (av (uI 5 [0,1,2,6,7,8,9,10,11] (av (fo 5 (aF 6) (xj (i4 (aq (aI cK (aE (ay aS (ab 5) (ab 6)) (ay aS (ab 3) (ab 6)))))))) (av (aD 7 (a8 (aE (ax 0) (ax 1)))) (av (fo 5 (aF 6) (iA (aq (aI aV (aE (ay aS (ab 2) (ab 6)) (aj 7)))) (aD 7 (ay aS (ab 2) (ab 6))) bw)) (av (aD 8 gQ) (av (fo 2 (aF 6) (c0 8 (ab 6) (aI aK (aE (ay aS (ab 2) (ab 6)) (aj 7))))) (av (xj (aq (ay fM (gU 1 5 (aF 12) (aq (aI aV (aE (ay aS (ab 8) (ab 12)) (ay aS (ab 5) (ab 12))))) (ab 12)) (bA dW)))) (cA (cC (ab 0)) (aF 9) (cA (cC (bA (aE (ab 5) (ab 8)))) (aF 10) (av (aD 11 (aI gY (kh (aj 9) (aj 1) (aj 10)))) (xj (zh (i4 (aq (aI cK (aE (aj 11) (aI eQ (kh (aj 9) (aj 1) (aj 10))))))) (aq (ay ou (mix (ab 11) (ax 0)) (ax 0))))))))))))))) (av (fm (ly 5)) (bc (ay (bP (bP fI jk) iu) (aI bN (aE (mix (ab 4) (ax 0)) (mix (ab 4) (ax 1)))) (ab 3)))))
def jf:Ms:=bH 9 jj
def HC:Ms:=av (cA (eR (Ed Ea (ax 1) (Ed Ey (dw eX (ab 0)) (ax 4)))) (aF 1) (av (sI (qN gM [] (KY (aI kI (aE (aj 0) (aj 1))))) (dH 3 (aH (aF 2) (aH (aF 3) (aH (aF 4) d5))))) (xj (i4 (aq (aI jf (kh (aj 2) (aj 3) (aj 4)))))))) (bc (ay (bP (bP fI jk) iu) (aI bN (aE (qH (bA dW)) (qH rW))) rW))
def N7:Ms:=bH 4 HC
def Ij:Tb:={ fns:=[],cst:=[("ZERO",(.tup [(.int 0),(.int 1)]))],exs:=["NoSum"],kit:=[],exm:=[],fld:=[],ini:=[],mts:=[] }
def nS(i:Nat):List Str:=((aU (top i)).names.filter λp=>p.2==.local).map (·.1)
def dF(s:Str)(i n:Nat)(mu:List Bool)(m:Ms):DI:=⟨none,s,top i,nS i,n,[],mu,[],[],m,[],false,false,none⟩
def EJ:List DI:=[
 dF "_law_common" 23 2 [false,false] ix,
 dF "_law_num" 24 2 [false,false] mE,
 dF "_law_mul" 26 2 [false,false] m6,
 ⟨none, "_law_scaled",top 41,["_law_sizes_here", "_law_by", "_law_found", "_law_name", "_law_least_here", "_law_last", "_law_shifts", "_law_more"],2,[],[false,false],[],[],iq,[],false,false,none⟩,
 dF "_law_add" 25 2 [false,false] mr,
 dF "_law_take" 22 2 [true,false] kH,
 dF "_law_less" 27 2 [false,false] ku,
 dF "_law_room" 34 3 [false,false,false] kJ,
 ⟨none, "_law_making",top 35,nS 35,2,["_law_making_here"],[true,false],[],[],iD,[],false,false,none⟩,
 dF "_law_few" 39 1 [true] lS,
 ⟨none, "_law_words",top 37,["_law_well_here", "_law_many", "_law_letters", "_law_base", "_law_long", "_law_spot", "_law_first"],2,[],[true,false],[],[],jH,[],false,false,none⟩,
 ⟨none, "_law_nodes",top 38,["_law_well_here", "_law_many", "_law_left", "_law_word"],2,[],[true,false],[],[],jE,[],false,false,none⟩,
 ⟨none, "_law_names",top 30,["_law_well_here", "_law_many"],2,[],[true,false],[],[],jg,[],false,false,none⟩,
 dF "_law_some" 31 2 [true,false] kF,
 dF "_law_wide" 32 2 [true,false] kG,
 dF "_law_sizes" 33 4 [true,false,false,false] jq,
 dF "_law_factors" 43 2 [true,false] gR,
 dF "_law_small" 40 1 [true] iY,
 dF "_law_value" 42 2 [false,false] ju,
 ⟨none, "_law_case",top 44,nS 44,1,["_law_hidden", "_law_making_here"],[true],[],["_law_hidden"],kE,[],false,false,none⟩,
 dF "nodes_of" 14 1 [false] lM,
 dF "common_divisor" 6 2 [false,false] fS,
 dF "lowest_terms" 7 2 [false,false] gL,
 ⟨none, "sum_at",top 12,nS 12,2,["making"],[false,false],[],[],sV,[],false,false,none⟩,
 dF "minus" 9 2 [false,false] yc,
 dF "is_less" 10 2 [false,false] pd,
 ⟨none, "raise_places",top 18,nS 18,4,["places", "raised_by"],[false,false,true,true],[],["places", "raised_by"],gD,[],false,false,none⟩,
 ⟨none, "least_places",top 17,["gaps", "making", "nodes", "values", "places", "raised_by", "node", "raised", "turn"],2,["places", "raised_by"],[false,false],[],["places", "raised_by"],gS,[],false,false,none⟩,
 dF "_law_well" 21 2 [false,false] kf,
 dF "_law_below" 28 2 [false,false] jD,
 ⟨none, "_law_least",top 45,nS 45,2,["_law_places"],[false,false],[],["_law_places"],i7,[],false,false,none⟩,
 dF "_law_is" 36 2 [false,false] pF,
 dF "plus" 8 2 [false,false] Ay,
 ⟨none, "gap_at",top 16,nS 16,3,["places"],[false,false,false],[],["places"],tX,[],false,false,none⟩,
 ⟨none, "_law_gap",top 46,nS 46,3,["_law_places"],[false,false,false],[],["_law_places"],m9,[],false,false,none⟩,
 ⟨none, "_law_right",top 47,["_law_gaps", "_law_making_here", "_law_hidden", "_law_due", "_law_handed", "_law_found", "_law_node", "_law_least_here", "_law_moved", "_law_gap_here", "_law_places", "_law_told"],3,["_law_found", "_law_due", "_law_hidden", "_law_moved", "_law_handed", "_law_making_here"],[false,false,false],[],["_law_found", "_law_due", "_law_hidden", "_law_moved"],jj,[],false,false,some (4,7,5,[0,1,2,6,7,8,9,10,11])⟩]
def nO:DI:=dF "law" 48 1 [false] HC
theorem Ir:xX Ij EJ=EJ.map (λd=>some d.m):=by kernel_rfl
theorem Iy:ug (xO Ij EJ) nO=some nO.m:=by kernel_rfl
theorem Io:(EJ++[nO]).all (λd=>gE d&&uq d)=true:=by decide +kernel
end W
section
open PySem PySem.W PyProof.Rows L2
set_option maxRecDepth 100000 in
theorem W.hl:LeftO PySem.Challenge.rw_fitwhatever_k24_least_places.row.prog (W.OM PySem.Challenge.pw_fitwhatever_k24_least_places) (W.xh PySem.Challenge.pw_fitwhatever_k24_least_places) (λs=>xlAt (W.OM PySem.Challenge.pw_fitwhatever_k24_least_places) [] s&&recOk PySem.Challenge.rw_fitwhatever_k24_least_places.row.records s) (Hook.obs (M.hk (W.EJ++[W.nO]) (M.HG W.Ij))) (Hook.val (M.hk (W.EJ++[W.nO]) (M.HG W.Ij))) 20000:=W.Dn λw=>by kernel_rfl
set_option maxRecDepth 100000 in
set_option maxHeartbeats 0 in
theorem W.fin(LT:∀ns:List Int,ns.length<=63->∃Z,W.nO.M [.fr (.lst (ns.map M.A.int))]=some (.rt (.fr (.bl true)),Z)):PySem.Challenge.rw_fitwhatever_k24_least_places.Holds:=by
 w_on
 refine holds_law UV λh=>?_
 refine holds_open (q:=W.OM PySem.Challenge.pw_fitwhatever_k24_least_places) (loose:=W.xh PySem.Challenge.pw_fitwhatever_k24_least_places) (Xt:=λs=>xlAt (W.OM PySem.Challenge.pw_fitwhatever_k24_least_places) [] s&&recOk (RowW.records _) s) (XP:=XL (W.OM PySem.Challenge.pw_fitwhatever_k24_least_places) []) (Yf:=Hook.obs (M.hk (W.EJ++[W.nO]) (M.HG W.Ij))) (Ya:=Hook.val (M.hk (W.EJ++[W.nO]) (M.HG W.Ij))) (YP:=Hook.says (M.hk (W.EJ++[W.nO]) (M.HG W.Ij))) (N:=20000) W.hl (Hook.of _) (Hook.keeps _) (λs e=>xl_of s (Yg.mp e).1) XL.keeps (by rfl) (by rfl) (by rfl) (λs e=>recFacts_of (Yg.mp e).2) (by rfl) h UV ⟨rfl,rfl,rfl,rfl,rfl,by decide +kernel⟩ ?hw ?hc
 case hw=>w_witness2
 case hc=>exact M.Cc rfl rfl rfl W.Io W.Ir W.Iy rfl rfl rfl rfl ⟨rfl,by decide,by decide⟩ LT
end
set_option maxHeartbeats 1000000
set_option exponentiation.threshold 100000
namespace W
open PySem L2 M
inductive X2{α β:Type}(p:α->β->Prop):Prop|mk(a:α)(b:β)(h:p a b)
inductive X3{α β γ:Type}(p:α->β->γ->Prop):Prop|mk(a:α)(b:β)(c:γ)(h:p a b c)
inductive X5{α β γ δ ε:Type}(p:α->β->γ->δ->ε->Prop):Prop|mk(a:α)(b:β)(c:γ)(d:δ)(e:ε)(h:p a b c d e)
inductive N3(a b c:Prop):Prop|mk(x:a)(y:b)(z:c)
inductive N4(a b c d:Prop):Prop|mk(x:a)(y:b)(z:c)(w:d)
inductive N6(a b c d e f:Prop):Prop|mk(x:a)(y:b)(z:c)(w:d)(u:e)(v:f)
variable{Z:List Sl}
theorem aM{x:Rr}{xs:List A}{i:Int}{a:A}(h:res Z x=some (.lst xs)\/res Z x=some (.tup xs))(e:gz xs i=some a):gu (bP ub gH) x (.fr (.int i)) Z=some (.ok (.fr a),Z):=by
 delta gu
 rcases h with h|h<;>rw[h]<;>(delta bP ub;dsimp only [res];rw[e])
variable{ss:List Str}
theorem KZ{r:Int}(B:0<=r)(h1:r<ss.length):∃y∈ss,gz (ss.map A.str) r=some (.str y):=by
 obtain⟨j,rfl⟩:∃j:Nat,r=j:=⟨r.toNat,by lia⟩
 have U:j<ss.length:=by lia
 refine⟨ss[j],TR U,?_⟩;exact eY (by rw[SQ,SG U];rfl)
variable{U:List Sl}{Q:Fl->List Sl->Prop}
theorem Wp.sr{m n:Ms}{s:Sl}(h:m Z=some (.rt s,U))(q:Q (.rt s) U):Wp (av m n) Z Q:=⟨_,_,by delta av;rw[h],q⟩
theorem js{t:Mi Bool}{m n:Ms}{r:Option (Fl×List Sl)}(h:t Z=some (.ok true,U))(k:m U=r):iA t m n Z=r:=sk h k
theorem dO{t:Mi Bool}{m n:Ms}{r:Option (Fl×List Sl)}(h:t Z=some (.ok false,U))(k:n U=r):iA t m n Z=r:=sk h k
theorem uh(i j:Int)(Z:List Sl):gu fI (.fr (.int i)) (.fr (.int j)) Z=some (.ok (.fr (.bl (decide (i=j)))),Z):=by simp only[gu,res,fI,qF]
theorem cT{m n:Ms}{r:Option (Fl×List Sl)}(h:m Z=some (.nx,U))(k:n U=r):av m n Z=r:=by delta av;rw[h];exact k
variable{i:Nat}{Z':List Sl}{r:Rr}
theorem JR{m:Mi Rr}{x:Rr}(B:KU Z i=true)(h:m Z=some (.ok x,U))(k:QN i x U=some (.ok r,Z')):fK i (lC i m) Z=some (.ok r,Z'):=by exact(zcu B).trans (bk h k)
theorem LJ{a s:Sl}(h:zP r Z=some (a,U))(k:U[i]?=some s)(hn:np s=true)(e:U.set i a=Z'):GL i r Z=some (.nx,Z'):=by rw[Pb h k hn,e]
variable{G:Mg}{e:Mi Rr}
theorem fh{n:Nat}{y:Mi (List A)}{t:Mi Bool}{as:List A}(h:y Z=some (.ok as,U))(k:gZ n G t e as U=some (.ok r,Z')):c9 n y G t e Z=some (.ok r,Z'):=bk h k
theorem aL{m:Mi Rr}{a s:Sl}(h:m Z=some (.ok r,U))(h1:zP r U=some (a,U))(k:U[i]?=some s)(hn:np s=true)(e:U.set i a=Z'):aD i m Z=some (.nx,Z'):=vm h (LJ h1 k hn e)
theorem mM{m:Mi Rr}{x:Rr}{a:A}{xs:List A}(B:KU Z i=true)(h:m Z=some (.ok x,U))(k:bp x U=some (a,U))(l:aO U i=some (.lst xs))(hl:xs.length<=16000000)(e:setAt U i (.lst (xs++[a]))=Z'):fm (fK i (cR i m)) Z=some (.nx,Z'):=by refine qM (r:=.fr .non) ((zcu B).trans (bk h ?_));rw[k];dsimp only;rw[l];dsimp only;rw[zcu hl,e]
theorem fu{o:Option (Except Str Rr×List Sl)}{f:A->A->Option Rr}{x y:Rr}{a b:A}(h1:res Z x=some a)(h2:res Z y=some b)(k:f a b=some r):gu f x y Z=some (.ok r,Z):=by delta gu;rw[h1,h2];dsimp only;rw[k]
variable{j:Int}
theorem l6{i:Int}{b:Bool}(h:decide (i=j)=b)(Z:List Sl):gu fM (.fr (.int i)) (.fr (.int j)) Z=some (.ok (.fr (.bl (!b))),Z):=by rw[<-h];simp only[gu,res,fM,qF]
theorem qQ{i:Int}{b:Bool}(h:decide (i=j)=b)(Z:List Sl):gu fI (.fr (.int i)) (.fr (.int j)) Z=some (.ok (.fr (.bl b)),Z):=by rw[<-h];exact uh i j Z
theorem iR{i:Int}(h:j≠0)(Z:List Sl):gu iX (.fr (.int i)) (.fr (.int j)) Z=some (.ok (.fr (.int (i.fmod j))),Z):=fu (o:=none) rfl rfl (zcu (by simpa using h))
theorem rg{i:Int}(h:j≠0)(f:fits 9000 j=true)(Z:List Sl):gu jA (.fr (.int i)) (.fr (.int j)) Z=some (.ok (.fr (.int (i.fdiv j))),Z):=fu (o:=none) rfl rfl (zcu (by rw[f];simpa using h))
theorem j8{i:Int}(h:fits 20000 i=true)(k:fits 20000 j=true)(Z:List Sl):gu bR (.fr (.int i)) (.fr (.int j)) Z=some (.ok (.fr (.int (i*j))),Z):=by
 have e:xm (.int i) (.int j)=some (.fr (.int (i*j))):=zcu (by rw[h,k];rfl);refine fu (o:=none) rfl rfl ?_
 delta bR bP
 rw[e]
theorem ft{n m:Nat}{i:Int}(h:L2.Bd n i)(k:n<=m):fits m i=true:=fk h k
theorem iF{f:A->Option Rr}{x:Rr}{a:A}(h:res Z x=some a)(k:f a=some r):Qa f x Z=some (.ok r,Z):=by delta Qa;rw[h];dsimp only;rw[k]
theorem c8{m:Mi Rr}{x:Rr}{as:List A}(h:m Z=some (.ok x,U))(k:Q6 x U=some (.ok as,Z')):cC m Z=some (.ok as,Z'):=bk h k
theorem BU{n:Nat}{t:Mi Bool}{b:Ms}{r:Option (Fl×List Sl)}(h:fA t b n Z=r):jY n t b Z=r:=h
theorem J9{j:Nat}{ms:Mi (List Rr)}{rs:List Rr}{r:Option (Fl×List Sl)}(h:ms Z=some (.ok rs,U))(k:Ek i j rs U=r):DE i j ms Z=r:=sk h k
variable{mk:Mi Rr}{X':List Sl}{rk:Rr}
theorem Hg{m:Mi Rr}{q:Option (Fl×List Sl)}(h:m Z=some (.ok r,X'))(l:KU X' i=true)(hk:mk X'=some (.ok rk,U))(k:RP i r rk U=q):mO i mk m Z=q:=sk h ((zcu l).trans (sk hk k))
theorem Qq{x y:Int}(h:y≠0)(hb:L2.Bd 9000 y):Val fO [.int x,.int y] (.int (cd x y)):=by
 obtain⟨O,h1,q,r,rfl⟩:=jX (t:=aq (ay fM (ab 1) (ax 0))) (b:=av (aD 2 (ay iX (ab 0) (ab 1))) (av (aD 0 (ab 1)) (aD 1 (ab 2))))
  (P:=λk Z=>X3 λp q r=>N4 (Z=[.fr (.int p),.fr (.int q),r]) (k=q.natAbs) (np r=true) ((q=0->p=cd x y)/\(q≠0->cd p q=cd x y)))
  (Q:=λZ=>X2 λq r=>Z=[.fr (.int (cd x y)),q,r]) (by
   rintro k Z ⟨p,q,r,rfl,rfl,m,h1,h2⟩;by_cases z:q=0
   .exact .inl ⟨_,aQ (af rfl rfl (l6 (zcx z) _)),_,_,by rw[<-h1 z]⟩
   .exact .inr ⟨_,[.fr (.int q),.fr (.int (p.fmod q)),.fr (.int (p.fmod q))],_,aQ (af rfl rfl (l6 (zcw z) _)),.inl (cT (aL (af rfl rfl (iR z _)) rfl rfl m rfl) <| cT (aL rfl rfl rfl rfl rfl) (aL rfl rfl rfl rfl rfl)),sT p z,q,p.fmod q,_,rfl,rfl,rfl,λe=>by rw[<-h2 z];exact Gp z e,λe=>by rw[Fo z e];exact h2 z⟩) ⟨x,y,.un,rfl,rfl,rfl,λe=>absurd e h,λ_=>rfl⟩ (DO (SN hb (UE W1 W1)))
 exact Val.of (Wp.df (Wp.st (BU h1) (Wp.en (aN rfl rfl) rfl)))
theorem CI{x y:Int}(hb:L2.Bd 9000 y):Val fq [.int x,.int y] (.int (TZ x y)):=by
 obtain⟨O,h1,q,rfl,J⟩:=jX (t:=aq (ay fM (ab 1) (ax 0))) (b:=DE 0 1 (aE (ab 1) (ay iX (ab 0) (ab 1))))
  (P:=λk Z=>X2 λp q=>N3 (Z=[.fr (.int p),.fr (.int q)]) (k=q.natAbs) (TZ p q=TZ x y))
  (Q:=λZ=>∃p,Z=[.fr (.int p),.fr (.int 0)]/\TZ p 0=TZ x y) (by
   rintro k Z ⟨p,q,rfl,rfl,h1⟩;by_cases z:q=0
   .subst z;exact .inl ⟨_,aQ (af rfl rfl (l6 rfl _)),p,rfl,h1⟩
   .exact .inr ⟨_,[.fr (.int q),.fr (.int (p.fmod q))],_,aQ (af rfl rfl (l6 (zcw z) _)),.inl (J9 (ae rfl (ae (af rfl rfl (iR z _)) rfl)) rfl),sT p z,q,p.fmod q,rfl,rfl,by rw[lP,h1]⟩) ⟨x,y,rfl,rfl,rfl⟩ (DO (SN hb (UE W1 W1)))
 have e:(if q<0 then -q else q)=(TZ x y:Int):=by rw[<-J,YC];split<;>lia
 exact Val.of (Wp.df (Wp.st (BU h1) (Wp.en (aN (d6 rfl (iF (r:=.fr (.int (TZ x y))) rfl (by rw[<-e];rfl))) rfl) rfl)))
theorem vC{t b:Int}(h:b≠0)(hb:L2.Bd 9000 b):Val bI [.int t,.int b] (nm (gB t b)):=by
 rw[<-GK h];have key:∀t b:Int,b≠0->L2.Bd 9000 b->∀Z,Wp (av (aD 2 (aI fq (aE (aj 0) (aj 1)))) (bc (a8 (aE (ay jA (ab 0) (ab 2)) (ay jA (ab 1) (ab 2)))))) (.fr (.int t)::.fr (.int b)::.un::Z) λg _=>g=.rt (.fr (nm (t.fdiv (TZ t b),b.fdiv (TZ t b)))):=λt b h hb Z=>by
  have h1:TZ t b<=b.natAbs:=Int.gcd_le_natAbs_right _ h;have B:(TZ t b:Int)≠0:=by simpa using λz:TZ t b=0=>h (Int.gcd_eq_zero_iff.mp z).2
  have f:=fk (show L2.Bd 9000 (TZ t b:Int) from T4 (by simpa using h1) hb) (SO _);exact Wp.st (aL (ag rfl (aB (CI hb) _)) rfl rfl rfl rfl) (Wp.en (aN (cH (ae (af rfl rfl (rg B f _)) (ae (af rfl rfl (rg B f _)) rfl)) rfl) rfl) rfl)
 have s:∀c,decide (b<0)=c->aq (ay ou (ab 1) (ax 0)) [.fr (.int t),.fr (.int b),.un]=some (.ok c,[.fr (.int t),.fr (.int b),.un]):=by rintro c rfl;rfl
 delta Mq
 by_cases c:b<0
 .rw[zcu c,<-WG,<-WG];exact Val.of (Wp.df (Wp.st (js (s true (zcx c)) (cT (aL rfl rfl rfl rfl rfl) (aL rfl rfl rfl rfl rfl))) (Wp.mono (key (0-t) (0-b) XV (by rw[WG];exact hb.neg) []) λf _ e=>by rw[e])))
 .rw[zcv c];exact Val.of (Wp.df (Wp.st (dO (s false (zcw c)) rfl) (Wp.mono (key t b h hb []) λf _ e=>by rw[e])))
def Wl(n:Int)(o:LO):Prop:=X3 λ(f c t:Int)=>N4 (o=.lst [.int f,.int c,.int t]) (f=0\/f=1) (f=0->c.natAbs<10^18) (0<=t/\t<=n)
variable{o:LO}
theorem Wl.mono{n m:Int}(h:Wl n o)(k:n<=m:=by lia):Wl m o:=by obtain⟨f,c,t,h1,h2,h3,h4,h5⟩:=h;exact⟨f,c,t,h1,h2,h3,h4,by exact Zs ‹_› ‹_›⟩
theorem Fb{i:Int}(h:i.natAbs<2^64):fits 20000 i=true:=fk h W1
theorem Jx{n:Int}{m:Int}(w:Wl n o)(hn:n<2^40)(V:0<m)(H:m<2^64):X2 λr o'=>N4 (bO ah o [.int m] (.fr (.int r)) o') (0<=r) (r<m) (Wl (n+1) o'):=by
 suffices ∃s o',bO ah o [.int m] s o'/\∃r,N4 (s=.fr (.int r)) (0<=r) (r<m) (Wl (n+1) o') by obtain⟨s,o',v,r,rfl,h1,h2,h3⟩:=this;exact⟨r,o',v,h1,h2,h3⟩
 obtain⟨f,c,t,rfl,hf,hc,X,I⟩:=w
 have h:m≠0:=by lia
 refine bO.of (Wp.df ?_)
 have P:∀b,decide (f=1)=b->∀Z,aq (ay fI (mix (ab 0) (ax 0)) (ax 1)) (.pv (.lst [.int f,.int c,.int t])::Z)=some (.ok b,.pv (.lst [.int f,.int c,.int t])::Z):=λb hb Z=>aQ (af (af rfl rfl (aM (.inl rfl) rfl)) rfl (qQ hb _))
 rcases hf with rfl|rfl
 .have hc:=hc rfl
  have b1:=L2.Bd.mul (show (7919*(t+1)).natAbs<2^64 by lia) (show (t+1).natAbs<2^64 by lia)
  have b2:L2.Bd 130 (c+7919*(t+1)*(t+1)+(t+1)):=((L2.Bd.add (show c.natAbs<2^128 by exact PM) b1).add (show (t+1).natAbs<2^128 by lia)).mono W1
  have D:∀i:Int,(i.fmod 2305843009213693951).natAbs<2^64:=λi=>by rw[Xh _ W1];lia
  refine Wp.st (dO (P false rfl _) rfl) ?_
  refine Wp.st (aL (af (af rfl rfl (aM (.inl rfl) rfl)) rfl rfl) rfl rfl rfl rfl) ?_
  refine Wp.st (Hg rfl rfl rfl rfl) ?_
  refine Wp.st (aL (af (af (af (af (af rfl rfl (aM (.inl rfl) rfl)) (af (af rfl rfl (j8 (Fb W1) (Fb XV) _)) rfl (j8 (Fb XV) (Fb XV) _)) rfl) rfl rfl) rfl (j8 (ft b2 W1) (Fb W1) _)) rfl (iR W1 _)) rfl rfl rfl rfl) ?_
  exact Wp.en (aN (af (af (af (af (af rfl rfl (j8 (Fb (D _)) (Fb W1) _)) rfl rfl) rfl (iR W1 _)) rfl (rg W1 (fk (show (64:Int).natAbs<2^64 by decide) W1) _)) rfl (iR h _)) rfl) ⟨_,_,_,rfl,rfl,_,rfl,Vs _ V,Ww _ V,0,c,t+1,rfl,.inl rfl,λ_=>hc,by lia,by lia⟩
 .have x:∀Z,mix (ab 0) (ax 1) (.pv (.lst [.int 1,.int c,.int t])::Z)=some (.ok (.fr (.int c)),.pv (.lst [.int 1,.int c,.int t])::Z):=λZ=>af rfl rfl (aM (.inl rfl) rfl)
  exact Wp.sr (js (P true rfl _) (cT (aL (af (x _) rfl (iR h _)) rfl rfl rfl rfl) <| cT (Hg (af (x _) rfl (rg h (fk (show m.natAbs<2^64 by lia) W1) _)) rfl rfl rfl) (aN rfl rfl))) ⟨_,.lst [.int 1,.int (c.fdiv m),.int t],_,rfl,rfl,_,rfl,Vs c V,Ww c V,1,c.fdiv m,t,rfl,.inr rfl,λz=>by lia,X,by lia⟩
variable{f:Ms}{o':LO}
theorem xR{as:List A}{s:Sl}(h:bO f o as s o')(m:iI s=some r):∀Z,fe f [] (.rf 0::as.map Rr.fr) (.pv o::Z)=some (.ok r,.pv o'::Z):=λZ=>GS h m rfl
theorem tk{n:Int}(m:Int)(w:Wl n o)(hn:n<2^40:=by lia)(m0:0<m:=by first|decide|omega)(m1:m<2^64:=by first|decide|omega):X2 λr o'=>N4 (∀Z,fe ah [] [.rf 0,.fr (.int m)] (.pv o::Z)=some (.ok (.fr (.int r)),.pv o'::Z)) (0<=r) (r<m) (Wl (n+1) o'):=by obtain⟨r,o',h,h1,h2,h3⟩:=Jx w hn m0 m1;exact⟨r,o',xR h rfl,h1,h2,h3⟩
theorem pw(k v:Int)(h:0<=k/\k<=1000000/\(10:Int).natAbs<2^64)(e:(10:Int)^k.toNat=v)(Z:List Sl):ay il (ax 10) (mC (.int k)) Z=some (.ok (.fr (.int v)),Z):=
 af rfl rfl (fu (o:=none) rfl rfl (by rw[<-e];exact zcu h))
theorem KI(ns:List Int)(k:Int)(I:0<=k)(Y:k<=1000):∃o,i9 kI [.lst (ns.map A.int),.int k] o/\Wl 17000 o:=by
 have key:∀c:Int,Wl 17000 (.lst [.int (if decide (1000000000000000000<=(if c<0 then -c else c))=true then 1 else 0),.int c,.int (17*k)]):=λc=>by
  refine⟨_,c,17*k,rfl,?_,λz=>?_,by lia,by lia⟩
  .generalize decide (1000000000000000000<=(if c<0 then -c else c))=d;cases d
   .exact .inl rfl
   .exact .inr rfl
  .by_cases h:1000000000000000000<=(if c<0 then -c else c)
   .simp[h] at z
   .split at h<;>lia
 have fin:∀c:Int,Wp (bc (bA (kh (dw yI (ay MO (dw sD (ab 2)) (ay il (ax 10) (ax 18)))) (ab 2) (ay bR (ax 17) (ab 1))))) [.fr (.lst (ns.map A.int)),.fr (.int k),.fr (.int c)] λg _=>g=.rt (.lv (.lst [.int (if decide (1000000000000000000<=(if c<0 then -c else c))=true then 1 else 0),.int c,.int (17*k)])):=λc=>Wp.en (aN (dr (ae (d6 (af rfl (pw 18 1000000000000000000 W1 W1 _) rfl) rfl) (ae rfl (ae (af rfl rfl (j8 (Fb W1) (Fb XV) _)) rfl))) rfl) rfl) rfl
 have s:∀b,decide (k<((ns.map A.int).length:Int))=b->aq (ay ou (ab 1) (dw eX (ab 0))) [.fr (.lst (ns.map A.int)),.fr (.int k),.fr (.int 0)]=some (.ok b,[.fr (.lst (ns.map A.int)),.fr (.int k),.fr (.int 0)]):=by rintro b rfl;rfl
 by_cases hk:k<((ns.map A.int).length:Int)
 .obtain⟨j,rfl⟩:∃j:Nat,k=j:=⟨k.toNat,by lia⟩
  have U:j<ns.length:=by rw[SE] at hk;lia
  exact⟨_,i9.of (Wp.df (Wp.st rfl (Wp.st (js (s true (zcx hk)) (aL (af rfl rfl (aM (.inl rfl) (eY (by rw[SQ,SG U];rfl)))) rfl rfl rfl rfl)) (Wp.mono (fin ns[j]) λf _ e=>by rw[e])))),key ns[j]⟩
 .exact⟨_,i9.of (Wp.df (Wp.st rfl (Wp.st (dO (s false (zcw hk)) rfl) (Wp.mono (fin 0) λf _ e=>by rw[e])))),key 0⟩
theorem z9{t b:Int}(h:b≠0)(hb:L2.Bd 9000 b):Val cZ [.int t,.int b] (nm (gB t b)):=by
 have k:=aB (Qq (x:=t) h hb);have hc:=xN (x:=t) h;have f:=fk (show L2.Bd 9000 (cd t b) from T4 (Pn h) hb) (SO _);have d:∀(u:Int)(Z:List Sl),gu jA (.fr (.int u)) (.fr (.int (cd t b))) Z=some (.ok (.fr (.int (u.fdiv (cd t b)))),Z):=λu Z=>by
  delta gu
  simp only[res,Lx,M.nN,f,bne_iff_ne,ne_eq,hc,not_false_eq_true,VV,decide_true,if_true]
 exact Val.of (Wp.df (Wp.st (vm (ag rfl (k _)) rfl) (Wp.en (aN (cH (ae (af rfl rfl (d _ _)) (ae (af rfl rfl (d _ _)) rfl)) rfl) rfl) rfl)))
section
variable{x y:Num}{n m:Nat}(hx:NB n x)(hy:NB m y)(h:n+m<=8999:=by first|decide|omega)
include hx hy h
theorem ED:Val Bw [nm x,nm y] (nm (eC x y)):=
 Val.of (Wp.df (Wp.en (aN (ag (ae (kB (af (af rfl rfl (j8 (ft hx.b1 XV) (ft hy.b2 XV) _)) (af rfl rfl (j8 (ft hy.b1 XV) (ft hx.b2 XV) _)) rfl) rfl) (ae (af rfl rfl (j8 (ft hx.b2 XV) (ft hy.b2 XV) _)) rfl)) (aB (z9 (TY hx.nz hy.nz) ((hx.b2.mul hy.b2).mono T6)) _)) rfl) rfl))
theorem tS:Val rj [nm x,nm y] (nm (cS x y)):=
 Val.of (Wp.df (Wp.en (aN (ag (ae (af (af rfl rfl (j8 (ft hx.b1 XV) (ft hy.b2 XV) _)) (af rfl rfl (j8 (ft hy.b1 XV) (ft hx.b2 XV) _)) rfl) (ae (af rfl rfl (j8 (ft hx.b2 XV) (ft hy.b2 XV) _)) rfl)) (aB (z9 (TY hx.nz hy.nz) ((hx.b2.mul hy.b2).mono T6)) _)) rfl) rfl))
theorem f6:Val bx [nm x,nm y] (nm (eC x y)):=
 Val.of (Wp.df (Wp.en (aN (ag (ae (kB (af (af rfl rfl (j8 (ft hx.b1 XV) (ft hy.b2 XV) _)) (af rfl rfl (j8 (ft hy.b1 XV) (ft hx.b2 XV) _)) rfl) rfl) (ae (af rfl rfl (j8 (ft hx.b2 XV) (ft hy.b2 XV) _)) rfl)) (aB (vC (TY hx.nz hy.nz) ((hx.b2.mul hy.b2).mono T6)) _)) rfl) rfl))
theorem fc:Val bq [nm x,nm y] (nm (iT x y)):=
 Val.of (Wp.df (Wp.en (aN (ag (ae (af rfl rfl (j8 (ft hx.b1 XV) (ft hy.b1 XV) _)) (ae (af rfl rfl (j8 (ft hx.b2 XV) (ft hy.b2 XV) _)) rfl)) (aB (vC (TY hx.nz hy.nz) ((hx.b2.mul hy.b2).mono T6)) _)) rfl) rfl))
end
theorem NB.dN{x y:Num}{n m:Nat}(hx:NB n x)(hy:NB m y):NB (n+m+1) (cS x y):=
 NB.gB (TY hx.nz hy.nz) (((hx.b1.mul hy.b2).mono (by lia:n+m<=n+m)).sub ((hy.b1.mul hx.b2).mono (by lia:m+n<=n+m)) |>.mono XV) ((hx.b2.mul hy.b2).mono XV)
theorem NB.mq{x y:Num}{n m:Nat}(hx:NB n x)(hy:NB m y):NB (n+m) (iT x y):=NB.gB (TY hx.nz hy.nz) (hx.b1.mul hy.b1) (hx.b2.mul hy.b2)
section
variable{x y:Num}{n m:Nat}(hx:NB n x)(hy:NB m y)(h:n<=20000)(h':m<=20000)
include hx hy h h'
theorem nJ:Val aV [nm x,nm y] (.bl (D1 x y)):=
 Val.of (Wp.df (Wp.en (aN (af (af rfl rfl (j8 (ft hx.b1 h) (ft hy.b2 h') _)) (af rfl rfl (j8 (ft hy.b1 h') (ft hx.b2 h) _)) rfl) rfl) rfl))
theorem FY:Val j7 [nm x,nm y] (.bl (D1 x y)):=
 Val.of (Wp.df (Wp.en (aN (af (af rfl rfl (j8 (ft hx.b1 h) (ft hy.b2 h') _)) (af rfl rfl (j8 (ft hy.b1 h') (ft hx.b2 h) _)) rfl) rfl) rfl))
end
theorem Dr{x:Sl}{t:Sl}(hi:X'.length=i)(hx:∀o,x≠Sl.pv o):put i t (X'++[x])=some (X'++[t]):=by
 subst hi
 delta put
 rw[Ur (SO _),X0];rw[List.getElem?_cons_zero];have e:(X'++[x]).set X'.length t=X'++[t]:=by rw[List.set_append_right _ _ (SO _),X0];rfl
 cases x with
 |pv o=>exact absurd rfl (hx o)
 |un=>rw[e]
 |fr a=>rw[e]
 |lv o=>rw[e]
 |cf a=>rw[e]
theorem nC{n:Nat}{t:Mi Bool}{as ys:List A}{O:List Sl}(hl:as.length<=100000)(h:cD G t e as [] (Z++Th n .un)=some (ys,O)):gZ n G t e as Z=some (.ok (.nw (.lst ys)),O.take Z.length):=by
 delta gZ
 rw[zcu hl,h]
variable{T:Type}
theorem j5{ts:List T}(k g:T->A)(hi:X'.length=i)(hl:ts.length<=100000)(h:∀t∈ts,∃r,e (X'++[.fr (k t)])=some (.ok r,X'++[.fr (k t)])/\bp r (X'++[.fr (k t)])=some (g t,X'++[.fr (k t)])):
  gZ 1 (aF i) cB e (ts.map k) X'=some (.ok (.nw (.lst (ts.map g))),X'):=by
 obtain⟨ys,O,h1,x,rfl,_,rfl⟩:=eF (G:=aF i) (t:=cB)
  (λj acc Z=>∃x:Sl,N3 (Z=X'++[x]) (∀o,x≠Sl.pv o) (acc=(ts.take j).map g)) ⟨.un,rfl,(λo z=>by cases z),rfl⟩ (by
   rintro j q acc Z n ⟨x,rfl,hx,rfl⟩;rw[SQ] at n;cases Y:ts[j]? with
   |none=>rw[Y] at n;cases n
   | some t=>rw[Y] at n;cases n;obtain⟨r,K,R⟩:=h t (SS Y);refine⟨X'++[Sl.fr (k t)],(show put i (.fr (k t)) (X'++[x])=some (X'++[.fr (k t)]) from Dr hi hx),.inl ⟨_,r,_,g t,_,rfl,K,R,.fr (k t),rfl,(λo z=>by cases z),?_⟩⟩;rw[VU,Y,S9];rfl)
 delta gZ
 rw[zcu (by rw[SE];exact hl)];have D:X'++Th 1 Sl.un=X'++[.un]:=rfl;rw[D,h1];simp
theorem Qg(x:Int):Ok (x,1):=⟨by show (0:Int)<1;decide,by show TZ x 1=1;simp⟩
theorem DB{i:Int}(hi:i.natAbs<2^64)(U:j.natAbs<2^64)(Z:List Sl):gu bR (.fr (.int i)) (.fr (.int j)) Z=some (.ok (.fr (.int (i*j))),Z):=by have F:fits 20000 i=true:=fk hi W1;have T:fits 20000 j=true:=fk U W1;simp only[gu,res,bR,bP,EF,M.nN,F,T,Xr,if_true]
theorem HH{i:Int}(h:i.natAbs<2^64):NB 64 (i,1):=⟨Qg i,h,by show (1:Int).natAbs<2^64;decide⟩
theorem Iu{i:Int}(b:Bool)(hb:decide (i=j)=b)(h:Z[1]?=some (.fr (.int i))):aq (ay fI (ab 1) (mC (.int j))) Z=some (.ok b,Z):=by rw[<-hb];exact aQ (af (by rw[BZ,h]) rfl (uh _ _ _))
theorem pV{t b:Int}(Z:List Sl)(h:b≠0:=by lia)(hb:b.natAbs<2^64:=by lia):fe bI [] [.fr (.int t),.fr (.int b)] Z=some (.ok (.fr (nm (gB t b))),Z):=aB (vC h (SN hb (UE W1 W1))) Z
theorem qf(x:Num):jL (nm x) (nm x)=some true:=by rw[Mw];simp
abbrev Mk:=Str×Num
def xa(p:Mk):A:=.tup [.str p.1,nm p.2]
theorem Et{t:Mi Bool}{ts:List T}(k g:T->A)(c:T->Bool)(hi:X'.length=i)(hl:ts.length<=100000)(h:∀x∈ts,t (X'++[.fr (k x)])=some (.ok (c x),X'++[.fr (k x)])/\(c x=true->∃r,e (X'++[.fr (k x)])=some (.ok r,X'++[.fr (k x)])/\bp r (X'++[.fr (k x)])=some (g x,X'++[.fr (k x)]))):
  gZ 1 (aF i) t e (ts.map k) X'=some (.ok (.nw (.lst ((ts.filter c).map g))),X'):=by
 obtain⟨ys,O,h1,x,rfl,_,rfl⟩:=eF (G:=aF i) (as:=ts.map k)
  (λj acc Z=>∃x:Sl,N3 (Z=X'++[x]) (∀o,x≠Sl.pv o) (acc=((ts.take j).filter c).map g)) ⟨.un,rfl,(λo z=>by cases z),rfl⟩ (by
   rintro j q acc Z n ⟨x,rfl,hx,rfl⟩;rw[SQ] at n;cases Y:ts[j]? with
   |none=>rw[Y] at n;cases n
   |some y=>
    rw[Y] at n;cases n;obtain⟨K,R⟩:=h y (SS Y);refine⟨X'++[Sl.fr (k y)],(show put i (.fr (k y)) (X'++[x])=some (X'++[.fr (k y)]) from Dr hi hx),?_⟩;rw[VU,Y,List.filter_append];cases U:c y with
    |true=>obtain⟨r,u,l⟩:=R U;rw[U] at K;exact .inl ⟨_,r,_,g y,_,K,u,l,.fr (k y),rfl,(λo z=>by cases z),by simp[U]⟩
    | false=>rw[U] at K;exact .inr ⟨_,K,.fr (k y),rfl,(λo z=>by cases z),by simp[U]⟩)
 delta gZ
 rw[zcu (by rw[SE];exact hl)];have D:X'++Th 1 Sl.un=X'++[.un]:=rfl;rw[D,h1];simp
noncomputable def aZ(ks:List Str)(g:Str->A):List (Key×A):=ks.map λn=>(TU n,g n)
theorem mS(ks:List Str)(g:Str->A)(n:Str):l9 (aZ ks g) (.inr n)=if n∈ks then some (g n) else none:=by
 delta l9 aZ
 induction ks with
 |nil=>simp
 |cons k ks m=>
  rw[S4,Tf];by_cases c:k=n
  .subst c;simp
  .have P:decide ((TU k:Key)=TU n)=false:=zcw λz=>c (Wx z);have Y:¬ n=k:=λz=>c z.symm;rw[P];rw[m];simp[Y]
theorem ET(ks:List Str)(g:Str->A)(n:Str):((aZ ks g).any λs=>decide (s.1=TU n))=decide (n∈ks):=by
 delta aZ
 induction ks with
 |nil=>simp
 |cons k ks m=>
  rw[S4,Up,m];by_cases c:k=n
  .subst c;simp
  .have P:decide ((TU k:Key)=TU n)=false:=zcw λz=>c (Wx z);have Y:¬ n=k:=λz=>c z.symm;simp only[P,Xn,SR,Y,false_or]
theorem Dw(ks:List Str)(g:Str->A)(n:Str)(a:A):rT (aZ ks g) (.inr n) a=aZ (if n∈ks then ks else ks++[n]) (λm=>if m=n then a else g m):=by
 delta rT
 rw[ET]
 by_cases c:n∈ks
 .rw[zcu (zcx c),zcu c]
  delta aZ
  rw[TM]
  refine UR λm _=>?_
  show (if (TU m:Key)=TU n then (TU m,a) else (TU m,g m))=(TU m,if m=n then a else g m)
  by_cases z:m=n
  .subst z;simp
  .rw[zcv (λe=>z (Wx e)),zcv z]
 .rw[zcv (by simpa using c),zcv c]
  delta aZ
  rw[S9]
  congr 1
  .refine UR λm T=>?_
   show (TU m,g m)=(TU m,if m=n then a else g m)
   rw[zcv λe:m=n=>c (by rw[<-e];exact T)]
  .simp
theorem sN(ks:List Str)(g:Str->A):strKeys (aZ ks g)=some ks:=by
 delta aZ
 induction ks with
 |nil=>rfl
 |cons k ks m=>
  show (match strKeys (ks.map λn=>(TU n,g n)) with
   |some ss=>some (k::ss)
   | none=>none)=_
  rw[m]
theorem zm(ks:List Str)(g:Str->A):(aZ ks g).length=ks.length:=by delta aZ;rw[SE]
variable{α:Type}
theorem take_snoc{l:List α}{a:α}(h:l[i]?=some a):l.take (i+1)=l.take i++[a]:=by rw[VU,h];rfl
def d9(x:Num)(L:List Mk):A:=.tup [nm x,.tup (L.map xa)]
def Ho(h:Str->Num):List Mk->Rat
 |[]=>0
 |p::L=>nv p.2*nv (h p.1)+Ho h L
theorem sf(h:Str->Num)(L:List Mk)(p:Mk):Ho h (L++[p])=Ho h L+nv p.2*nv (h p.1):=by
 induction L with
 |nil=>show _+0=0+_;grind
 |cons q L m=>show _+Ho h (L++[p])=_+Ho h L+_;rw[m];grind
def nQ(h:Str->Num)(x:Num)(L:List Mk):Num:=L.foldl (λa p=>eC a (iT p.2 (h p.1))) x
theorem sP(h:Str->Num)(x:Num)(L:List Mk)(p:Mk):nQ h x (L++[p])=eC (nQ h x L) (iT p.2 (h p.1)):=by delta nQ;rw[WA];rfl
structure Sv(b c l:Nat)(ks:List Str)(h:Str->Num)(x:Num)(L:List Mk):Prop where
 x:NB b x
 nb:∀p∈L,NB 5 p.2
 inn:∀p∈L,p.1∈ks
 g:∀n∈ks,NB c (h n)
 len:L.length<=l
 lim:b+l*(c+7)<=8000
theorem Sv.take{b c l:Nat}{ks:List Str}{h:Str->Num}{x:Num}{L:List Mk}(s:Sv b c l ks h x L)(i:Nat)(hi:i<=L.length):NB (b+i*(c+7)) (nQ h x (L.take i))/\nv (nQ h x (L.take i))=nv x+Ho h (L.take i):=by
 induction i with
 |zero=>exact⟨by show NB (b+0*_) x;rw[Nat.zero_mul];exact s.x,by show nv x=nv x+0;grind⟩
 |succ i m=>
  have hl:i<L.length:=by lia
  obtain⟨h1,h2⟩:=m (by exact UM ‹_›);have T:=TR hl;have np:=s.nb _ T;have a:=s.g _ (s.inn _ T);rw[take_snoc (SG hl),sP,sf];refine⟨?_,?_⟩
  .rw[VY];exact(h1.yE (np.mq a)).mono XV
  .rw[DC h1.ok (np.mq a).ok,Kq np.ok a.ok,h2];grind
variable{c:Nat}{ks:List Str}{h:Str->Num}{L:List Mk}
theorem Sv.PY{b l:Nat}{x:Num}(s:Sv b c l ks h x L):NB (b+l*(c+7)) (nQ h x L)/\nv (nQ h x L)=nv x+Ho h L:=by have:=s.take L.length (SO _);rw[TC] at this;exact⟨this.1.mono (by have:=UO (c+7) s.len;lia),this.2⟩
abbrev dP(ks:List Str)(h:Str->Num):A:=.dic (aZ ks λn=>nm (h n))
theorem vj{n:Str}(hn:n∈ks){d k:Rr}(h1:res Z d=some (dP ks h))(h2:res Z k=some (.str n)):gu (bP ub gH) d k Z=some (.ok (.fr (nm (h n))),Z):=by
 refine fu (o:=none) h1 h2 ?_
 delta bP ub gH
 dsimp only [j6];rw[mS,zcu hn]
theorem vt{b l:Nat}{x:Num}(s:Sv b c l ks h x L):Val cw [d9 x L,dP ks h] (nm (nQ h x L)):=by
 refine Val.of (Wp.df (Wp.st (aL (af rfl rfl (aM (.inr rfl) rfl)) rfl rfl rfl rfl) ?_));refine Wp.sq (Wp.fr (λi Z=>X2 λ(X S:Sl)=>N3 (Z=[.fr (d9 x L),.fr (dP ks h),.fr (nm (nQ h x (L.take i))),X,S]) (np X=true) (np S=true)) (c8 (af rfl rfl (aM (.inr rfl) rfl)) rfl) ⟨.un,.un,rfl,rfl,rfl⟩ ?_ ?_)
 .rintro i a Z d ⟨X,S,rfl,h3,h4⟩;rw[SQ] at d;cases Y:L[i]? with
  |none=>rw[Y] at d;cases d
  |some p=>
   rw[Y] at d;cases d;have hl:=(SF.mp Y).1;have T:=SS Y;obtain⟨r,_⟩:=s.take i (by exact UM ‹_›);have e:=s.nb _ T;have E:=s.g _ (s.inn _ T);have w:b+i*(c+7)+(c+7)<=8000:=by have:=UO (c+7) (show i+1<=l by have:=s.len;lia);rw[VY] at this;have:=s.lim;lia
   refine⟨[.fr (d9 x L),.fr (dP ks h),.fr (nm (nQ h x (L.take i))),.fr (.str p.1),.fr (nm p.2)],by cases X<;>first|exact kU h3|(cases S<;>first|exact kU h4|rfl),?_⟩;rw[take_snoc Y,sP];exact Wp.en (vm (ag (ae rfl (ae (ag (ae rfl (ae (af rfl rfl (vj (s.inn _ T) rfl rfl)) rfl)) (aB (fc e E) _)) rfl)) (aB (f6 r (e.mq E)) _)) rfl) ⟨.inl rfl,_,_,rfl,rfl,rfl⟩
 .rintro O ⟨X,S,rfl,h3,h4⟩;rw[SE,TC];exact⟨rfl,Wp.en (aN rfl rfl) rfl⟩
theorem uF(t d a b c e:Int)(hd:d≠0)(hb:b≠0)(he:e≠0):VM (t*b*e+a*c*d) (d*b*e)=VM t d+VM a b*VM c e:=by
 rw[X9 _ _,X8 _ _ hd (TY hb he)]
 congr 1<;>grind
theorem Hi{b l:Nat}{x:Num}(s:Sv b c l ks h x L):Val jF [d9 x L,dP ks h] (nm (nQ h x L)):=by
 refine Val.of (Wp.df (Wp.st (U:=[.fr (d9 x L),.fr (dP ks h),.fr (.int x.1),.un,.un,.un,.un]) (aL (af (af rfl rfl (aM (.inr rfl) rfl)) rfl (aM (.inr rfl) rfl)) rfl rfl rfl rfl) (Wp.st (U:=[.fr (d9 x L),.fr (dP ks h),.fr (.int x.1),.fr (.int x.2),.un,.un,.un]) (aL (af (af rfl rfl (aM (.inr rfl) rfl)) rfl (aM (.inr rfl) rfl)) rfl rfl rfl rfl) ?_)));refine Wp.sq (Wp.fr (as:=L.map xa) (λi Z=>X5 λ(t d:Int)(z w j:Sl)=>N6 (Z=[.fr (d9 x L),.fr (dP ks h),.fr (.int t),.fr (.int d),z,w,j]) (d≠0) (L2.Bd (b+i*(c+7)) t/\L2.Bd (b+i*(c+7)) d) (VM t d=nv x+Ho h (L.take i)) (np z=true/\np w=true) (np j=true)) (c8 (af rfl rfl (aM (.inr rfl) rfl)) rfl)
  ⟨x.1,x.2,.un,.un,.un,rfl,s.x.nz,⟨by simpa using s.x.b1,by simpa using s.x.b2⟩,by show nv x=nv x+0;grind,⟨rfl,rfl⟩,rfl⟩ ?_ ?_)
 .rintro i a Z k ⟨t,d,z,w,j,rfl,S,⟨b1,b2⟩,I,⟨h4,h5⟩,H⟩;rw[SQ] at k;cases Y:L[i]? with
  |none=>rw[Y] at k;cases k
  |some p=>
   rw[Y] at k;cases k;have T:=SS Y;have hl:=(SF.mp Y).1;have X:=s.nb _ T;have E:=s.g _ (s.inn _ T);have v:b+i*(c+7)+(c+7)<=8000:=by have:=UO (c+7) (show i+1<=l by have:=s.len;lia);rw[VY] at this;have:=s.lim;lia
   generalize q:b+i*(c+7)=m at b1 b2 v;have em:b+(i+1)*(c+7)=m+(c+7):=by rw[<-q,VY];lia
   have r:L2.Bd (m+5) (t*p.2.2):=b1.mul X.b2;have n:L2.Bd (m+5+c) (t*p.2.2*(h p.1).2):=r.mul E.b2;have F:L2.Bd (5+c) (p.2.1*(h p.1).1):=X.b1.mul E.b1;have P:L2.Bd (5+c+m) (p.2.1*(h p.1).1*d):=F.mul b2;have K:L2.Bd (m+5) (d*p.2.2):=b2.mul X.b2;have Q:L2.Bd (m+5+c) (d*p.2.2*(h p.1).2):=K.mul E.b2;have u:L2.Bd (m+5+c+1) (t*p.2.2*(h p.1).2+p.2.1*(h p.1).1*d):=(L2.Bd.add n (P.mono (show 5+c+m<=m+5+c by lia))).mono XV;refine⟨[.fr (d9 x L),.fr (dP ks h),.fr (.int t),.fr (.int d),.fr (.str p.1),.fr (nm p.2),j],by cases z<;>first|exact kU h4|(cases w<;>first|exact kU h5|rfl),?_⟩;have C:jr true (.str p.1) (dP ks h)=some (.fr (.bl false)):=by
    delta jr
    dsimp only [j6]
    rw[mS,zcu (s.inn _ T)]
    rfl
   have G:∀Z,gu (bP (P0 true) (sR true)) (.fr (.str p.1)) (.fr (dP ks h)) Z=some (.ok (.fr (.bl false)),Z):=λZ=>fu (o:=none) rfl rfl (by
    delta bP P0 bP
    rw[show nZ true (.str p.1) (dP ks h)=none from rfl]
    dsimp only
    rw[C])
   refine Wp.st (dO (aQ (af rfl rfl (G _))) rfl) ?_;refine Wp.st (U:=[.fr (d9 x L),.fr (dP ks h),.fr (.int t),.fr (.int d),.fr (.str p.1),.fr (nm p.2),.fr (nm (h p.1))]) (aL (af rfl rfl (vj (s.inn _ T) rfl rfl)) rfl rfl H rfl) ?_;refine Wp.st (U:=[.fr (d9 x L),.fr (dP ks h),.fr (.int (t*p.2.2*(h p.1).2+p.2.1*(h p.1).1*d)),.fr (.int d),.fr (.str p.1),.fr (nm p.2),.fr (nm (h p.1))])
    (aL (af (af (af rfl (af rfl rfl (aM (.inr rfl) rfl)) (j8 (ft b1 XV) (ft X.b2 W1) _)) (af rfl rfl (aM (.inr rfl) rfl)) (j8 (ft r XV) (ft E.b2 XV) _)) (af (af (af rfl rfl (aM (.inr rfl) rfl)) (af rfl rfl (aM (.inr rfl) rfl)) (j8 (ft X.b1 W1) (ft E.b1 XV) _)) rfl (j8 (ft F XV) (ft b2 XV) _)) rfl) rfl rfl rfl rfl) ?_
   refine Wp.en (U:=[.fr (d9 x L),.fr (dP ks h),.fr (.int (t*p.2.2*(h p.1).2+p.2.1*(h p.1).1*d)),.fr (.int (d*p.2.2*(h p.1).2)),.fr (.str p.1),.fr (nm p.2),.fr (nm (h p.1))])
    (aL (af (af rfl (af rfl rfl (aM (.inr rfl) rfl)) (j8 (ft b2 XV) (ft X.b2 W1) _)) (af rfl rfl (aM (.inr rfl) rfl)) (j8 (ft K XV) (ft E.b2 XV) _)) rfl rfl rfl rfl) ⟨.inl rfl,_,_,_,_,_,rfl,TY (TY S X.nz) E.nz,?_,?_,⟨rfl,rfl⟩,rfl⟩
   .rw[em];exact⟨u.mono XV,Q.mono XV⟩
   .rw[take_snoc Y,sf,uF _ _ _ _ _ _ S X.nz E.nz,I];show _+nv p.2*nv (h p.1)=_
    grind
 .rintro O ⟨t,d,z,w,j,rfl,S,⟨b1,b2⟩,I,⟨h4,h5⟩,H⟩;rw[SE] at b1 b2;rw[SE,TC] at I;have v:=UO (c+7) s.len;have V:=s.lim;have e:gB t d=nQ h x L:=Hr (BI S) s.PY.1.ok (by rw[qB S,I,s.PY.2]);rw[<-e];exact⟨rfl,Wp.en (aN (ag rfl (aB (z9 S (b2.mono XV)) _)) rfl) rfl⟩
noncomputable abbrev Nd:=Str×Str
noncomputable def a9(p:Nd):A:=.tup [.str p.1,.str p.2]
noncomputable def kk(p:Nd):List Key:=[.inr p.1,.inr p.2]
variable{p q:Nd}
theorem qi(h:kk p=kk q):p=q:=by injection h with h1 h;injection h with h2 _;injection h1 with h1;injection h2 with h2;exact Prod.ext h1 h2
def ai(D:List Nd)(g:Nd->A):List (List Key×A):=D.map λp=>(kk p,g p)
theorem jG(D:List Nd)(g:Nd->A):(ai D g).length=D.length:=by delta ai;rw[SE]
theorem tw(D:List Nd)(g:Nd->A)(p:Nd):nX (ai D g) (kk p)=if p∈D then some (g p) else none:=by
 delta nX ai
 induction D with
 |nil=>simp
 |cons q D m=>
  rw[S4,Tf];by_cases c:q=p
  .subst c;simp
  .have P:=zcw λz=>c (qi z);have Y:¬ p=q:=λz=>c z.symm;rw[P];rw[m];simp[Y]
theorem Ga(D:List Nd)(g:Nd->A)(p:Nd):((ai D g).any λx=>decide (x.1=kk p))=decide (p∈D):=by
 delta ai
 induction D with
 |nil=>simp
 |cons q D m=>
  rw[S4,Up,m];by_cases c:q=p
  .subst c;simp
  .have P:=zcw λz=>c (qi z);have Y:¬ p=q:=λz=>c z.symm;simp only[P,Xn,SR,Y,false_or]
noncomputable def fN(D:List Nd)(p:Nd):List Nd:=if p∈D then D else D++[p]
theorem B6(D:List Nd)(g:Nd->A)(p:Nd)(a:A):uA (ai D g) (kk p) a=ai (fN D p) (λq=>if q=p then a else g q):=by
 delta uA fN
 rw[Ga]
 by_cases c:p∈D
 .rw[zcu (zcx c),zcu c]
  delta ai
  rw[TM]
  refine UR λm _=>?_
  show (if kk m=kk p then (kk m,a) else (kk m,g m))=(kk m,if m=p then a else g m)
  by_cases z:m=p
  .subst z;simp
  .rw[zcv (λe=>z (qi e)),zcv z]
 .rw[zcv (by simpa using c),zcv c]
  delta ai
  rw[S9]
  congr 1
  .refine UR λm T=>?_
   show (kk m,g m)=(kk m,if m=p then a else g m)
   rw[zcv λe:m=p=>c (by rw[<-e];exact T)]
  .simp
theorem lF{D:List Nd}:q∈fN D p↔q∈D\/q=p:=by
 delta fN
 split
 .rename_i h
  exact⟨.inl,λz=>z.elim id λe=>e▸h⟩
 .simp
theorem ql{D:List Nd}(h:D.Nodup):(fN D p).Nodup:=by
 delta fN
 split
 .exact h
 .rename_i z
  exact Td.mpr ⟨h,Tz.mpr ⟨by simp,.nil⟩,λa d b hb e=>by rw[SU.mp hb] at e;exact z (e▸d)⟩
theorem vS{D:List Nd}(h:p∈D):fN D p=D:=zcu h
theorem dh{α:Type}[DecidableEq α]:∀{xs ys:List α},xs.Nodup->(∀x∈xs,x∈ys)->xs.length<=ys.length
 |[],_,_,_=>Tu _
 |x::xs,ys,nd,h=>by obtain⟨r,Q⟩:=Tz.mp nd;have hx:=h x (.head _);have m:=dh (ys:=ys.erase x) Q λu f=>(List.mem_erase_of_ne λz=>r (by rw[<-z];exact f)).mpr (h u (SK _ f));rw[List.length_erase_of_mem hx] at m;have:=List.length_pos_of_mem hx;rw[S5];lia
structure Gt where
 u:Nd
 v:Nd
 x:Num
 M:List Mk
def bU(g:Gt):A:=.tup [a9 g.u,a9 g.v,d9 g.x g.M]
noncomputable def up{α:Type}(P:Nd->α)(v:Nd)(y:α):Nd->α:=λq=>if q=v then y else P q
variable{v:Nd}
theorem cb{P:Nd->α}{y:α}:up P v y v=y:=zcu rfl
theorem fR{P:Nd->α}{y:α}(h:q≠v):up P v y q=P q:=zcv h
section
variable(w:Gt->Num)
def low(P:Nd->Num)(g:Gt):Num:=cS (P g.u) (w g)
def rs(P:Nd->Num)(g:Gt):Bool:=D1 (P g.v) (low w P g)
def zD(P:Nd->Num)(g:Gt):Nd->Num:=if rs w P g=true then up P g.v (low w P g) else P
def gC(P:Nd->Num)(gs:List Gt):Nd->Num:=gs.foldl (zD w) P
def iy(s:(Nd->Num)×Option Nd)(g:Gt):(Nd->Num)×Option Nd:=if rs w s.1 g=true then (up s.1 g.v (low w s.1 g),some g.v) else s
theorem wx(gs:List Gt):∀(s:(Nd->Num)×Option Nd),(gs.foldl (iy w) s).1=gC w s.1 gs:=by
 induction gs with
 |nil=>intro s;rfl
 |cons g gs m=>
  intro s;show (gs.foldl (iy w) (iy w s g)).1=gC w (zD w s.1 g) gs;rw[m]
  delta iy zD
  split<;>rfl
theorem BJ(gs:List Gt):∀(s:(Nd->Num)×Option Nd)(v:Nd),s.2=some v->(gs.foldl (iy w) s).2≠none:=by
 induction gs with
 |nil=>intro s v h;show s.2≠none;rw[h];exact Option.some_ne_none v
 |cons g gs m=>
  intro s v h;by_cases c:rs w s.1 g=true
  .exact m _ g.v (by delta iy;rw[zcu c])
  .exact m _ v (by delta iy;rw[zcv c];exact h)
theorem pG(gs:List Gt):∀(P:Nd->Num),(gs.foldl (iy w) (P,none)).2=none->gC w P gs=P/\∀g∈gs,rs w P g=false:=by
 induction gs with
 |nil=>intro P _;exact⟨rfl,λg h=>nomatch h⟩
 |cons g gs m=>
  intro P h;have h:(gs.foldl (iy w) (iy w (P,none) g)).2=none:=h;by_cases c:rs w P g=true
  .exact absurd h (BJ w gs _ g.v (by delta iy;rw[zcu c]))
  .have e:iy w (P,none) g=(P,none):=by delta iy;rw[zcv c]
   rw[e] at h;obtain⟨h1,h2⟩:=m P h;have l:zD w P g=P:=by delta zD;rw[zcv c]
   refine⟨by show gC w (zD w P g) gs=P;rw[l];exact h1,λx hx=>?_⟩;rcases SR.mp hx with rfl|hx
   .simpa using c
   .exact h2 x hx
end
structure Kp(ns:List Nd)(gs:List Gt)(w:Gt->Num)(H:Nd->Num)(B:Nat):Prop where
 nd:ns.Nodup
 u:∀g∈gs,g.u∈ns
 v:∀g∈gs,g.v∈ns
 b:∀g∈gs,NB B (w g)
 k:∀g∈gs,nv (H g.u)-nv (H g.v)<=nv (w g)
structure Lk(ns:List Nd)(H P:Nd->Num)(B:Nat)(u:Nd)(l:List Nd):Prop where
 nd:l.Nodup
 sub:∀x∈l,x∈ns
 nb:NB (l.length*(B+1)) (P u)
 q:∀x∈l,nv (P u)-nv (H u)<=nv (P x)-nv (H x)
structure Iw(ns:List Nd)(gs:List Gt)(w:Gt->Num)(H:Nd->Num)(B:Nat)(mm:Rat)(r j:Nat)(P:Nd->Num)(L:Nd->List Nd):Prop where
 l:∀u∈ns,Lk ns H P B u (L u)
 e:∀(k:Nat)(g:Gt),gs[k]?=some g->nv (P g.u)-nv (w g)<=nv (P g.v)\/(if k<j then r+1 else r)<=(L g.u).length
 m:∀u∈ns,nv (P u)<=nv (H u)-mm
def Iv(ns:List Nd)(gs:List Gt)(w:Gt->Num)(H:Nd->Num)(B:Nat)(mm:Rat)(r j:Nat)(P:Nd->Num):Prop:=∃L,Iw ns gs w H B mm r j P L
section
variable{ns:List Nd}{gs:List Gt}{w:Gt->Num}{H:Nd->Num}{B:Nat}{mm:Rat}{r j:Nat}{P:Nd->Num}
theorem Iv.nb(i:Iv ns gs w H B mm r j P){u:Nd}(f:u∈ns):NB (ns.length*(B+1)) (P u):=by obtain⟨L,i⟩:=i;have h:=i.l u f;exact h.nb.mono (UO _ (dh h.nd h.sub))
theorem Iv.next(i:Iv ns gs w H B mm r gs.length P):Iv ns gs w H B mm (r+1) 0 P:=by obtain⟨L,i⟩:=i;refine⟨L,i.l,λk g J=>?_,i.m⟩;have:=i.e k g J;rw[zcu (SF.mp J).1] at this;rwa[zcv (T8 k)]
theorem Iv.zero(h:∀u∈ns,mm<=nv (H u)):Iv ns gs w H B mm 1 0 (λ_=>(0,1)):=by
 refine⟨λu=>[u],λu f=>⟨Tz.mpr ⟨by simp,.nil⟩,λx hx=>by rw[SU.mp hx];exact f,by show NB (1*(B+1)) _;rw[ZO];exact NB.zero,λx hx=>by rw[SU.mp hx];grind⟩,λk g J=>.inr (by rw[zcv (T8 k)];exact SO _),λu f=>?_⟩;rw[hZ]
 grind
theorem Iv.step(hk:Kp ns gs w H B){g:Gt}(J:gs[j]?=some g)(i:Iv ns gs w H B mm r j P):(rs w P g=true->r+1<=ns.length)/\Iv ns gs w H B mm r (j+1) (zD w P g):=by
 obtain⟨L,i⟩:=i;have T:=SS J;have f:=hk.u g T;have t:=hk.v g T;have X:=i.l _ f;have lv:=i.l _ t;have nw:=hk.b g T;have G:=hk.k g T;have F:nv (low w P g)=nv (P g.u)-nv (w g):=eS X.nb.ok nw.ok;have C:Ok (low w P g):=(X.nb.dN nw).ok;by_cases c:rs w P g=true
 .have lt:nv (P g.v)<nv (P g.u)-nv (w g):=by rw[<-F];exact(g7 lv.nb.ok C).mp c
  have I:r<=(L g.u).length:=by
   rcases i.e j g J with h|h
   .grind
   .rwa[zcv (TN j)] at h
  have K:g.v∉L g.u:=λz=>by
   have:=X.q _ z
   grind
  have s:(g.v::L g.u).Nodup:=Tz.mpr ⟨K,X.nd⟩;have a:∀x∈g.v::L g.u,x∈ns:=λx hx=>(SR.mp hx).elim (λz=>z▸t) (X.sub x);have o:zD w P g=up P g.v (low w P g):=by delta zD;rw[zcu c]
  have p:∀x,nv (P x)<=nv (up P g.v (low w P g) x):=λx=>by
   by_cases z:x=g.v
   .rw[z,cb,F];grind
   .rw[fR z];grind
  refine⟨λ_=>by have:=dh s a;rw[S5] at this;lia,?_⟩;rw[o];refine⟨up L g.v (g.v::L g.u),λx hx=>?_,λk h S=>?_,λx hx=>?_⟩
  .by_cases z:x=g.v
   .subst z;rw[cb];refine⟨s,a,?_,λy hy=>?_⟩
    .rw[cb,S5,VY];exact(X.nb.dN nw).mono XV
    .rw[cb,F];rcases SR.mp hy with rfl|hy
     .rw[cb,F];grind
     .have:=X.q y hy
      grind
   .rw[fR z];have Z:=i.l x hx;refine⟨Z.nd,Z.sub,by rw[fR z];exact Z.nb,λy hy=>?_⟩;have h1:=Z.q y hy;have h2:=p y;rw[fR z]
    grind
  .by_cases z:h.u=g.v
   .refine .inr ?_;rw[z,cb,S5];split<;>lia
   .rw[fR z,fR z];have h2:=p h.v;by_cases Q:k=j
    .subst Q;rw[J] at S;cases S;left;rw[cb,F];grind
    .rcases i.e k h S with h1|h1
     .left;grind
     .right;by_cases E:k<j
      .rw[zcu E] at h1;rwa[zcu (by exact TH ‹_›)]
      .rw[zcv E] at h1;rwa[zcv XV]
  .by_cases z:x=g.v
   .subst z;have:=i.m _ f;rw[cb,F]
    grind
   .rw[fR z];exact i.m x hx
 .have p:¬ nv (P g.v)<nv (P g.u)-nv (w g):=λz=>c ((g7 lv.nb.ok C).mpr (by rw[F];exact z));have o:zD w P g=P:=by delta zD;rw[zcv c]
  refine⟨λz=>absurd z c,?_⟩;rw[o];refine⟨L,i.l,λk h S=>?_,i.m⟩;by_cases Q:k=j
  .subst Q;rw[J] at S;cases S;left
   grind
  .rcases i.e k h S with h1|h1
   .exact .inl h1
   .right;by_cases E:k<j
    .rw[zcu E] at h1;rwa[zcu (by exact TH ‹_›)]
    .rw[zcv E] at h1;rwa[zcv XV]
end
section
variable{ns:List Nd}{gs:List Gt}{w:Gt->Num}{H:Nd->Num}{B:Nat}{mm:Rat}{r:Nat}{P:Nd->Num}
theorem lX(P:Nd->Num)(l:List Gt)(g:Gt):gC w P (l++[g])=zD w (gC w P l) g:=by delta gC;rw[WA];rfl
theorem rS(s:(Nd->Num)×Option Nd)(l:List Gt)(g:Gt):(l++[g]).foldl (iy w) s=iy w (l.foldl (iy w) s) g:=by rw[WA];rfl
theorem BO(s:(Nd->Num)×Option Nd)(g:Gt):iy w s g=if rs w s.1 g=true then (up s.1 g.v (low w s.1 g),some g.v) else s:=rfl
theorem Aa(P:Nd->Num)(g:Gt):zD w P g=if rs w P g=true then up P g.v (low w P g) else P:=rfl
theorem Iv.pass(hk:Kp ns gs w H B)(a:Iv ns gs w H B mm r 0 P)(i:Nat)(hi:i<=gs.length):Iv ns gs w H B mm r i (gC w P (gs.take i))/\(((gs.take i).foldl (iy w) (P,none)).2≠none->r+1<=ns.length):=by
 induction i with
 |zero=>exact⟨a,λh=>absurd rfl h⟩
 |succ i m=>
  obtain⟨h1,h2⟩:=m XV;have o:=SG (show i<gs.length by lia);obtain⟨s1,s2⟩:=Iv.step hk o h1;rw[take_snoc o,lX,rS];refine⟨s2,λh=>?_⟩;by_cases c:((gs.take i).foldl (iy w) (P,none)).2=none
  .refine s1 ?_;rw[BO,wx] at h;by_cases z:rs w (gC w P (gs.take i)) gs[i]=true
   .exact z
   .rw[zcv z] at h;exact absurd c h
  .exact h2 c
def dB(w:Gt->Num)(gs:List Gt):Nat->Nd->Num
 |0=>λ_=>(0,1)
 |t+1=>gC w (dB w gs t) gs
theorem oX(hk:Kp ns gs w H B)(h:∀u∈ns,mm<=nv (H u)):∀t,Iv ns gs w H B mm (t+1) 0 (dB w gs t)
 |0=>Iv.zero h
 |t+1=>by have:=((oX hk h t).pass hk gs.length (SO _)).1;rw[TC] at this;exact this.next
def qt(w:Gt->Num)(gs:List Gt)(t:Nat):Prop:=(gs.foldl (iy w) (dB w gs t,none)).2=none
theorem Nz(hk:Kp ns gs w H B)(h:∀u∈ns,mm<=nv (H u)){t:Nat}(ht:ns.length<=t+1):qt w gs t:=by
 have:=((oX hk h t).pass hk gs.length (SO _)).2;rw[TC] at this;by_cases c:(gs.foldl (iy w) (dB w gs t,none)).2=none
 .exact c
 .have:=this c;lia
theorem Bj{t:Nat}(h:qt w gs t):gC w (dB w gs t) gs=dB w gs t:=(pG w gs _ h).1
theorem Bu{t:Nat}(h:qt w gs t):∀k,dB w gs (t+k)=dB w gs t
 |0=>rfl
 |k+1=>by show gC w (dB w gs (t+k)) gs=_;rw[Bu h k,Bj h]
theorem gK(p:Nat->Prop):∀n,p n->∃k,k<=n/\p k/\∀i,i<k->¬ p i
 |0,h=>⟨0,SO _,h,λi hi=>absurd hi (T8 i)⟩
 |n+1,h=>by
  by_cases c:∃i,i<n+1/\p i
  .obtain⟨i,hi,hp⟩:=c;by_cases d:∃j,j<=n/\p j/\∀i,i<j->¬ p i
   .obtain⟨j,h1,h2,h3⟩:=d;exact⟨j,by exact UN ‹_›,h2,h3⟩
   .exfalso;have:∀m,m<=n->∀i,i<=m->¬ p i:=by
     intro m;induction m with
     |zero=>intro _ i hi hp;exact d ⟨0,by exact Tu _,by rw[show i=0 by lia] at hp;exact hp,λi hi=>absurd hi (T8 i)⟩
     |succ m v=>
      intro T i hi hp;by_cases e:i<=m
      .exact v XV i e hp
      .exact d ⟨m+1,T,by rw[show i=m+1 by lia] at hp;exact hp,λi hi=>v XV i (by exact U6 ‹_›)⟩
    exact this n (SO _) i (by exact U6 ‹_›) hp
  .exact⟨n+1,SO _,h,λi hi hp=>c ⟨i,hi,hp⟩⟩
theorem Mv{n t:Nat}(L:qt w gs t)(ht:t<=n):dB w gs t=dB w gs n:=by have:=Bu L (n-t);rw[show t+(n-t)=n by lia] at this;exact this.symm
end
theorem yb{b:Ms}{as:List A}{s:Sl}{R:List Sl->Prop}(P:Nat->List Sl->Prop)(j:Nat)(B:P 0 Z)(hs:∀i a Z,i<j->as[i]?=some a->P i Z->∃U Z',G a Z=some U/\b U=some (.nx,Z')/\P (i+1) Z')
  (he:∀a Z,as[j]?=some a->P j Z->∃U Z',G a Z=some U/\b U=some (.rt s,Z')/\R Z')(x:j<as.length):∃O,forL G b as Z=some (.rt s,O)/\R O:=by
 have key:∀n i Z,j-i=n->i<=j->P i Z->∃O,forL G b (as.drop i) Z=some (.rt s,O)/\R O:=by
  intro n;induction n with
  |zero=>
   intro i Z e hi p;have:i=j:=by lia
   subst this;obtain⟨U,Z',l,N,q⟩:=he as[i] Z (SG x) p;rw[TJ x];exact⟨Z',by unfold forL;rw[l];dsimp only;rw[N],q⟩
  |succ n m=>
   intro i Z e hi p;have hl:i<as.length:=by exact T4 ‹_› ‹_›
   obtain⟨U,Z',l,N,v⟩:=hs i as[i] Z XV (SG hl) p;obtain⟨O,h,q⟩:=m (i+1) Z' XV XV v;rw[TJ hl];exact⟨O,by unfold forL;rw[l];dsimp only;rw[N];exact h,q⟩
 have:=key j 0 Z XV (by exact Tu _) B;rwa[List.drop_zero] at this
theorem bC{D:List Nd}{g:Nd->A}(hp:p∈D){x y:Rr}(h1:res Z x=some (.dit (ai D g)))(h2:res Z y=some (a9 p)):gu aS x y Z=some (.ok (.fr (g p)),Z):=by refine fu (o:=none) h1 h2 ?_;show (match nX (ai D g) (kk p) with|some a=>some (Rr.fr a)|none=>none)=_;rw[tw,zcu hp]
theorem ff{m:Mi Rr}{V':List Sl}{a:A}{D:List Nd}{g:Nd->A}(h:m Z=some (.ok r,X'))(d:Bm X' i=true)(hk:mk X'=some (.ok rk,U))(hf:bp r U=some (a,Z'))(Y:res Z' rk=some (a9 p))(hl:aO Z' i=some (.dit (ai D g)))(T:D.length<=16000000)(e:setAt Z' i (.dit (ai (fN D p) (up g p a)))=V'):
  c0 i mk m Z=some (.nx,V'):=by
 refine sk h ((zcu d).trans (sk hk ?_));rw[hf];dsimp only;rw[Y,hl];show (if (ai D g).length<=16000000 then some (Fl.nx,setAt Z' i (.dit (uA (ai D g) (kk p) a))) else none)=_;rw[zcu (by rw[jG];exact T),B6];exact zcy (λx=>some (Fl.nx,x)) e
def MM(o:Option Nd):A:=match o with
 |none=>.non
 |some v=>a9 v
abbrev bb(P:Nd->Num):Nd->A:=λp=>nm (P p)
theorem DU(P:Nd->Num)(v:Nd)(y:Num):up (bb P) v (nm y)=bb (up P v y):=by
 funext q
 by_cases z:q=v
 .subst z;rw[cb];show _=nm (up P q y q);rw[cb]
 .rw[fR z];show _=nm (up P v y q);rw[fR z]
theorem Ec{f:α->A}{l:List α}{x:α}(h:l[i]?=some x):gz (l.map f) (i:Int)=some (f x):=eY (by rw[SQ,h];rfl)
abbrev MC(gs:List Gt)(w:Gt->Num)(D:List Nd)(P:Nd->Num)(R:List Nd)(q:Nd->A)(o:Option Nd)(h j x:Sl):List Sl:=[.fr (.lst (gs.map bU)),.fr (.lst (gs.map λg=>nm (w g))),.pv (.dit (ai D (bb P))),.pv (.dit (ai R q)),.fr (MM o),h,j,x]
section
variable{ns:List Nd}{gs:List Gt}{w:Gt->Num}{H:Nd->Num}{B:Nat}{mm:Rat}{r:Nat}{P:Nd->Num}{D R:List Nd}{q:Nd->A}
theorem Er(hk:Kp ns gs w H B)(F:ns.length*(B+1)<=4000)(h4:B<=4000)(n:ns.length<=100)(J:Iv ns gs w H B mm r 0 P)(d:∀p∈ns,p∈D)(dl:D.length<=100)(S:R.Nodup)(X:∀p∈R,p∈ns):
  ∃x s Z,bh [.fr (.lst (gs.map bU)),.fr (.lst (gs.map λg=>nm (w g))),.pv (.dit (ai D (bb P))),.pv (.dit (ai R q))]=some (.rt (.fr (MM (gs.foldl (iy w) (P,none)).2)),.fr (.lst (gs.map bU))::.fr (.lst (gs.map λg=>nm (w g)))::.pv (.dit (ai D (bb (gC w P gs))))::.pv (.dit (ai x s))::Z)/\x.Nodup/\∀p∈x,p∈ns:=by
 suffices Wp bh [.fr (.lst (gs.map bU)),.fr (.lst (gs.map λg=>nm (w g))),.pv (.dit (ai D (bb P))),.pv (.dit (ai R q))] λg Z=>∃x s O,g=.rt (.fr (MM (gs.foldl (iy w) (P,none)).2))/\Z=.fr (.lst (gs.map bU))::.fr (.lst (gs.map λg=>nm (w g)))::.pv (.dit (ai D (bb (gC w P gs))))::.pv (.dit (ai x s))::O/\x.Nodup/\∀p∈x,p∈ns by obtain⟨_,_,e,x,s,O,rfl,rfl,h⟩:=this;exact⟨x,s,O,e,h⟩
 refine Wp.df (Wp.st rfl (Wp.sq (Wp.fr (λi Z=>∃x s E j k,Z=MC gs w D (gC w P (gs.take i)) x s ((gs.take i).foldl (iy w) (P,none)).2 E j k/\(x.Nodup/\∀p∈x,p∈ns)/\np E=true/\np j=true/\np k=true) rfl ⟨R,q,.un,.un,.un,rfl,⟨S,X⟩,rfl,rfl,rfl⟩ ?_ ?_)))
 .rintro i a Z I ⟨x,s,E,j,k,rfl,⟨S,X⟩,h5,K,C⟩
  obtain⟨b,hb,rfl⟩:=mT _ _ _ _ I
  rw[Vt]
  rw[SQ] at hb
  cases o:gs[i]? with
  |none=>rw[o] at hb;cases hb
  |some g=>
   rw[o] at hb;cases hb;have T:=SS o;have hl:=(SF.mp o).1;obtain⟨y,_⟩:=J.pass hk i (by exact UM ‹_›);have G:=y.nb (hk.u g T);have Q:=y.nb (hk.v g T);have nw:=hk.b g T;have f:=d _ (hk.u g T);have t:=d _ (hk.v g T);have es:((gs.take i).foldl (iy w) (P,none)).1=gC w P (gs.take i):=wx w _ _;refine⟨MC gs w D (gC w P (gs.take i)) x s ((gs.take i).foldl (iy w) (P,none)).2 (.fr (.int i)) (.fr (bU g)) k,by cases E<;>first|exact kU h5|(cases j<;>first|exact kU K|rfl),?_⟩;refine Wp.st (aL (ag (ae (af rfl (af rfl rfl (aM (.inr rfl) rfl)) (bC f rfl rfl)) (ae (af rfl rfl (aM (.inl rfl) (Ec o))) rfl)) (aB (tS G nw) _)) rfl rfl C rfl) ?_;have V:∀c,rs w (gC w P (gs.take i)) g=c->aq (aI j7 (aE (ay aS (ab 2) (mix (ab 6) (ax 1))) (aj 7))) (MC gs w D (gC w P (gs.take i)) x s ((gs.take i).foldl (iy w) (P,none)).2 (.fr (.int i)) (.fr (bU g)) (.fr (nm (low w (gC w P (gs.take i)) g))))=some (.ok c,MC gs w D (gC w P (gs.take i)) x s ((gs.take i).foldl (iy w) (P,none)).2 (.fr (.int i)) (.fr (bU g)) (.fr (nm (low w (gC w P (gs.take i)) g)))):=by rintro c rfl;exact aQ (ag (ae (af rfl (af rfl rfl (aM (.inr rfl) rfl)) (bC t rfl rfl)) (ae rfl rfl)) (aB (FY Q (G.dN nw) T6 XV) _))
   rw[take_snoc o,lX,rS];rw[BO,Aa,es];by_cases c:rs w (gC w P (gs.take i)) g=true
   .rw[zcu c,zcu c];refine Wp.en (U:=MC gs w D (up (gC w P (gs.take i)) g.v (low w (gC w P (gs.take i)) g)) (fN x g.v) (up s g.v (.int i)) (some g.v) (.fr (.int i)) (.fr (bU g)) (.fr (nm (low w (gC w P (gs.take i)) g)))) (js (V true c) ?_) ⟨.inl rfl,_,_,_,_,_,rfl,⟨ql S,λp hp=>(lF.mp hp).elim (X p) λz=>z▸hk.v g T⟩,rfl,rfl,rfl⟩;refine cT (ff rfl rfl (af rfl rfl (aM (.inr rfl) rfl)) rfl rfl rfl T6 rfl) (cT (U:=MC gs w D (up (gC w P (gs.take i)) g.v (low w (gC w P (gs.take i)) g)) (fN x g.v) (up s g.v (.int i)) ((gs.take i).foldl (iy w) (P,none)).2 (.fr (.int i)) (.fr (bU g)) (.fr (nm (low w (gC w P (gs.take i)) g)))) (ff rfl rfl (af rfl rfl (aM (.inr rfl) rfl)) rfl rfl rfl ?_ ?_) (aL (af rfl rfl (aM (.inr rfl) rfl)) rfl rfl rfl rfl))
    .have:=dh S X;lia
    .rw[vS t,DU];rfl
   .rw[zcv c,zcv c];exact Wp.en (dO (V false (by simpa using c)) rfl) ⟨.inl rfl,_,_,_,_,_,rfl,⟨S,X⟩,rfl,rfl,rfl⟩
 .rintro O ⟨x,s,E,j,k,rfl,h,h5,K,C⟩
  rw[jV,SE,TC]
  exact⟨rfl,Wp.en (aN rfl rfl) ⟨x,s,_,rfl,rfl,h⟩⟩
end
theorem wI:∀ps:List Nd,p9 (ps.map a9)=some (ps.map kk)
 |[]=>rfl
 |p::ps=>by rw[S4,p9,wI ps];rfl
theorem BM:∀(l:List (List Key))(L:List Nd),(∀k∈l,k∈L.map kk)->∃N:List Nd,l=N.map kk
 |[],_,_=>⟨[],rfl⟩
 |k::l,L,h=>by obtain⟨p,_,rfl⟩:=Tj.mp (h _ SH);obtain⟨N,rfl⟩:=BM l L λq n=>h q (SK _ n);exact⟨p::N,rfl⟩
theorem p8{L:List Nd}:kk p∈L.map kk↔p∈L:=by rw[Tj];exact⟨λ⟨q,h,e⟩=>qi e▸h,λh=>⟨p,h,rfl⟩⟩
variable{N:List Nd}
theorem Py(h:(N.map kk).Nodup):N.Nodup:=(U5.mp h).imp λh e=>h (by rw[e])
theorem GB(L:List Nd):∃N:List Nd,kg (nM (L.map kk))=N.map a9/\N.Nodup/\∀p,p∈N↔p∈L:=by
 have pm:=i6 (nM (L.map kk));obtain⟨N,e⟩:=BM (sK (nM (L.map kk))) L λk hk=>eA.mp (pm.mem_iff.mp hk);refine⟨N,?_,Py (by rw[<-e];exact pm.nodup_iff.mpr (fP _)),λp=>?_⟩
 .rw[lL,e,TM];rfl
 .rw[<-p8,<-e,pm.mem_iff,eA,p8]
noncomputable def cV(gs:List Gt):List Nd:=(gs.map λg=>g.u)++gs.map λg=>g.v
variable{gs:List Gt}
theorem dQ:p∈cV gs↔∃g∈gs,g.u=p\/g.v=p:=by
 delta cV
 rw[SY,Tj,Tj]
 constructor
 .rintro(⟨g,h,e⟩|⟨g,h,e⟩)
  .exact⟨g,h,.inl e⟩
  .exact⟨g,h,.inr e⟩
 .rintro⟨g,h,e|e⟩
  .exact .inl ⟨g,h,e⟩
  .exact .inr ⟨g,h,e⟩
structure Ke(b c l:Nat)(HN:List Nd)(gs:List Gt)(ks:List Str)(h:Str->Num)(H:Nd->Num)(B:Nat)(mm:Rat):Prop where
 s:∀g∈gs,Sv b c l ks h g.x g.M
 u:∀g∈gs,g.u∈HN
 v:∀g∈gs,g.v∈HN
 b:∀g∈gs,NB B (nQ h g.x g.M)
 k:∀g∈gs,nv (H g.u)-nv (H g.v)<=nv (nQ h g.x g.M)
 n6:HN.length<=6
 g16:gs.length<=16
 B:B<=600
 m:∀u∈HN,mm<=nv (H u)
abbrev wG(h:Str->Num)(g:Gt):Num:=nQ h g.x g.M
section
variable{b c l:Nat}{HN:List Nd}{gs:List Gt}{ks:List Str}{h:Str->Num}{H:Nd->Num}{B:Nat}{mm:Rat}
theorem Ke.ends(e:Ke b c l HN gs ks h H B mm)(hp:p∈cV gs):p∈HN:=by
 obtain⟨g,J,rfl|rfl⟩:=dQ.mp hp
 .exact e.u g J
 .exact e.v g J
theorem Ke.kp(e:Ke b c l HN gs ks h H B mm)(nd:N.Nodup)(z:∀p,p∈N↔p∈cV gs):Kp N gs (wG h) H B/\(∀u∈N,mm<=nv (H u))/\N.length<=6:=
 ⟨⟨nd,λg J=>(z _).mpr (dQ.mpr ⟨g,J,.inl rfl⟩),λg J=>(z _).mpr (dQ.mpr ⟨g,J,.inr rfl⟩),e.b,e.k⟩,λu f=>e.m u (e.ends ((z u).mp f)),Tn (dh nd λp hp=>e.ends ((z p).mp hp)) e.n6⟩
theorem sH(c:Int)(f:Gt->Nd)(hc:∀g:Gt,gz [a9 g.u,a9 g.v,d9 g.x g.M] c=some (a9 (f g)))(hi:X'.length=i)(hl:gs.length<=16):gZ 1 (aF i) cB (mix (ab i) (ax c)) (gs.map bU) X'=some (.ok (.nw (.lst ((gs.map f).map a9))),X'):=by
 have k:=j5 (ts:=gs) (e:=mix (ab i) (ax c)) bU (λg=>a9 (f g)) hi T6 (λg J=>by
  have q:ab i (X'++[.fr (bU g)])=some (.ok (.fr (bU g)),X'++[.fr (bU g)]):=by rw[BZ,Ur XV,hi,X0];rfl
  exact⟨_,af q rfl (aM (.inr rfl) (hc g)),rfl⟩)
 have em:gs.map (λg=>a9 (f g))=(gs.map f).map a9:=by rw[TM];rfl
 rw[em] at k;exact k
theorem u5(e:Ke b c l HN gs ks h H B mm):∃N:List Nd,N3 (i9 mG [.lst (gs.map bU)] (.lst (N.map a9))) N.Nodup (∀p,p∈N↔p∈cV gs):=by
 obtain⟨N,D,nd,z⟩:=GB (cV gs);refine⟨N,?_,nd,z⟩;have Z:ay aW (c9 1 (cC (ab 0)) (aF 1) cB (mix (ab 1) (ax 0))) (c9 1 (cC (ab 0)) (aF 1) cB (mix (ab 1) (ax 1))) [.fr (.lst (gs.map bU))]=some (.ok (.nw (.lst ((cV gs).map a9))),[.fr (.lst (gs.map bU))]):=by
  refine af (fh (c8 rfl rfl) (sH 0 (λg=>g.u) (λg=>rfl) rfl e.g16)) (fh (c8 rfl rfl) (sH 1 (λg=>g.v) (λg=>rfl) rfl e.g16)) (fu (o:=none) rfl rfl ?_);have k:xJ (.lst ((gs.map λg=>g.u).map a9)) (.lst ((gs.map λg=>g.v).map a9))=some (.nw (.lst ((gs.map λg=>g.u).map a9++(gs.map λg=>g.v).map a9))):=zcu (by have:=e.g16;simp only[SE];lia)
  delta cV
  rw[S9,<-k];rfl
 refine i9.of (Wp.df (Wp.en (aN (r:=.nw (.lst (N.map a9))) (U:=[.fr (.lst (gs.map bU))]) (bk (kB Z rfl) ?_) rfl) rfl));show (match p9 ((cV gs).map a9) with
  |some ks=>if (ks.all (λk=>!k.isEmpty&&k.all λe=>!zV e)&&decide ((nM ks).length<=17))=true then some ((V0 (.nw (.lst (kg (nM ks)))):Except Str Rr),[Sl.fr (.lst (gs.map bU))]) else none
  | none=>none)=_
 rw[wI];rw[<-D];refine zcu ?_;rw[SA];refine⟨Tq.mpr λk hk=>?_,zcx ?_⟩
 .obtain⟨p,_,rfl⟩:=Tj.mp hk;rfl
 .have:=dh (fP ((cV gs).map kk)) λk hk=>by obtain⟨p,hp,rfl⟩:=Tj.mp (eA.mp hk);exact Tj.mpr ⟨p,e.ends hp,rfl⟩
  rw[SE] at this;have:=e.n6;lia
theorem DY(i j:Int)(Z:List Sl):gu aW (.fr (.int i)) (.fr (.int j)) Z=some (.ok (.fr (.int (i+j))),Z):=rfl
abbrev nL(gs:List Gt)(ks:List Str)(h:Str->Num)(N:List Nd)(D:List Nd)(P:Nd->Num)(R:List Nd)(q:Nd->A)(j x a:Sl):List Sl:=[.fr (.lst (gs.map bU)),.fr (dP ks h),.fr (.lst (N.map a9)),.fr (.lst (gs.map λg=>nm (wG h g))),.lv (.dit (ai D (bb P))),.lv (.dit (ai R q)),j,x,a]
theorem vR(e:Ke b c l HN gs ks h H B mm):∃N:List Nd,N3 (i9 bN [.lst (gs.map bU),dP ks h] (.dit (ai N (bb (dB (wG h) gs N.length))))) N.Nodup (∀p,p∈N↔p∈cV gs):=by
 obtain⟨N,vN,nd,J⟩:=u5 e;refine⟨N,?_,nd,J⟩;obtain⟨kp,m,n6⟩:=e.kp nd J;have nB:N.length*(B+1)<=4000:=by have:=Wn n6 (show B+1<=601 by have:=e.B;exact Ot);exact fL
 have kc:=j5 (i:=9) (ts:=gs) (X':=[.fr (.lst (gs.map bU)),.fr (dP ks h),.lv (.lst (N.map a9)),.un,.un,.un,.un,.un,.un]) (e:=aI jF (aE (mix (ab 9) (ax 2)) (aj 1))) bU (λg=>nm (wG h g)) rfl (by have:=e.g16;exact fL) (λg hg=>⟨.fr (nm (wG h g)),ag (ae (af rfl rfl (aM (.inr rfl) rfl)) (ae rfl rfl)) (aB (Hi (e.s g hg)) _),rfl⟩);refine i9.of (Wp.df (Wp.st (U:=[.fr (.lst (gs.map bU)),.fr (dP ks h),.lv (.lst (N.map a9)),.un,.un,.un,.un,.un,.un]) (aL (ag (ae rfl rfl) (jz vN _)) rfl rfl rfl rfl) (Wp.st (U:=[.fr (.lst (gs.map bU)),.fr (dP ks h),.lv (.lst (N.map a9)),.lv (.lst (gs.map λg=>nm (wG h g))),.un,.un,.un,.un,.un]) (aL (fh (c8 rfl rfl) kc) rfl rfl rfl rfl) (Wp.st rfl (Wp.st rfl ?_)))));refine Wp.sq (Wp.fr (as:=N.map a9) (λi Z=>∃j,Z=[.fr (.lst (gs.map bU)),.fr (dP ks h),.fr (.lst (N.map a9)),.lv (.lst (gs.map λg=>nm (wG h g))),.lv (.dit (ai (N.take i) (bb λ_=>(0,1)))),.lv (.dit []),j,.un,.un]/\np j=true) (c8 rfl rfl) ⟨.un,rfl,rfl⟩ ?_ ?_)
 .rintro i a Z d ⟨j,rfl,f⟩;rw[SQ] at d;cases Q:N[i]? with
  |none=>rw[Q] at d;cases d
  |some p=>
   rw[Q] at d;cases d;have ea:fN (N.take i) p=N.take (i+1):=by
    delta fN
    rw[take_snoc Q,zcv]
    intro z
    have L:=nd
    rw[<-Ue i N] at L
    refine(Td.mp L).2.2 p z p ?_ rfl
    rw[Vu]
    exact⟨0,by rw[Yy,XZ];exact Q⟩
   refine⟨[.fr (.lst (gs.map bU)),.fr (dP ks h),.fr (.lst (N.map a9)),.lv (.lst (gs.map λg=>nm (wG h g))),.lv (.dit (ai (N.take i) (bb λ_=>(0,1)))),.lv (.dit []),.fr (a9 p),.un,.un],by cases j<;>first|exact kU f|rfl,?_⟩;refine Wp.en (ff (a:=.tup [.int 0,.int 1]) (p:=p) rfl rfl rfl rfl rfl rfl (by rw[UH];lia) rfl) ⟨.inl rfl,.fr (a9 p),?_,rfl⟩;rw[ea];have:up (bb λ_=>((0,1):Num)) p (.tup [.int 0,.int 1])=bb λ_=>(0,1):=by
    funext q
    by_cases z:q=p
    .subst z;rw[cb];rfl
    .rw[fR z]
   rw[this];rfl
 .rintro O ⟨j,rfl,f⟩;rw[SE,TC];refine⟨rfl,Wp.st (U:=[.fr (.lst (gs.map bU)),.fr (dP ks h),.fr (.lst (N.map a9)),.lv (.lst (gs.map λg=>nm (wG h g))),.lv (.dit (ai N (bb λ_=>(0,1)))),.lv (.dit []),j,.fr .non,.un]) rfl ?_⟩;obtain⟨t,tn,n,G⟩:=gK (qt (wG h) gs) N.length (Nz kp m XV);have call:∀(i:Nat)(R:List Nd)(q:Nd->A)(v k X:Sl),(v=.lv (.lst (gs.map λg=>nm (wG h g)))\/v=.fr (.lst (gs.map λg=>nm (wG h g))))->np k=true->(R.Nodup/\∀p∈R,p∈N)->∃S E,aD 7 (aI bh (vf (aj 0) (aj 3) (ab 4) (ab 5))) [.fr (.lst (gs.map bU)),.fr (dP ks h),.fr (.lst (N.map a9)),v,.lv (.dit (ai N (bb (dB (wG h) gs i)))),.lv (.dit (ai R q)),j,k,X] =
    some (.nx,nL gs ks h N N (dB (wG h) gs (i+1)) S E j (.fr (MM (gs.foldl (iy (wG h)) (dB (wG h) gs i,none)).2)) X)/\S.Nodup/\∀p∈S,p∈N:=by
   intro i R q v k X o C K;obtain⟨S,E,T,V,w⟩:=Er (q:=q) (D:=N) kp nB (by have:=e.B;exact fL) T6 (oX kp m i) (λp hp=>hp) T6 K.1 K.2;refine⟨S,E,?_,w⟩;have kr:fe bh [] [.fr (.lst (gs.map bU)),.fr (.lst (gs.map λg=>nm (wG h g))),.rf 4,.rf 5] (nL gs ks h N N (dB (wG h) gs i) R q j k X)=some (.ok (.fr (MM (gs.foldl (iy (wG h)) (dB (wG h) gs i,none)).2)),nL gs ks h N N (dB (wG h) gs (i+1)) S E j k X):=by
    show (match bh [.fr (.lst (gs.map bU)),.fr (.lst (gs.map λg=>nm (wG h g))),.pv (.dit (ai N (bb (dB (wG h) gs i)))),.pv (.dit (ai R q))] with
     | some (.rt s,T)=>(match iI s,putL (nL gs ks h N N (dB (wG h) gs i) R q j k X) [.fr (.lst (gs.map bU)),.fr (.lst (gs.map λg=>nm (wG h g))),.rf 4,.rf 5] (bf 4 T) [.fr (.lst (gs.map bU)),.fr (dP ks h),.fr (.lst (N.map a9)),.fr (.lst (gs.map λg=>nm (wG h g))),.un,.un,j,k,X] with
      |some r,some O=>some ((V0 r:Except Str Rr),O)
      | _,_=>none)
     | some (.ex x,T)=>(match putL (nL gs ks h N N (dB (wG h) gs i) R q j k X) [.fr (.lst (gs.map bU)),.fr (.lst (gs.map λg=>nm (wG h g))),.rf 4,.rf 5] (bf 4 T) [.fr (.lst (gs.map bU)),.fr (dP ks h),.fr (.lst (N.map a9)),.fr (.lst (gs.map λg=>nm (wG h g))),.un,.un,j,k,X] with
      |some O=>some (.error x,O)
      | none=>none)
     | _=>none)=_
    rw[V];rfl
   rcases o with rfl|rfl
   .exact aL (ag rfl kr) rfl rfl C rfl
   .exact aL (ag rfl kr) rfl rfl C rfl
  let P:Nat->List Sl->Prop:=(λi Z=>∃v R q k X,Z=[.fr (.lst (gs.map bU)),.fr (dP ks h),.fr (.lst (N.map a9)),v,.lv (.dit (ai N (bb (dB (wG h) gs i)))),.lv (.dit (ai R q)),j,k,X]/\(v=.lv (.lst (gs.map λg=>nm (wG h g)))\/v=.fr (.lst (gs.map λg=>nm (wG h g))))/\(R.Nodup/\∀p∈R,p∈N)/\np k=true/\np X=true)
  have hs:∀i a Z,i<t->(dZ 0 (N.length+1))[i]?=some a->P i Z->∃U Z',aF 8 a Z=some U/\(av (aD 7 (aI bh (vf (aj 0) (aj 3) (ab 4) (ab 5)))) (iA (aq (ay (Kn false) (ab 7) (mC .non))) (bc (ab 4)) bw)) U=some (.nx,Z')/\P (i+1) Z':=by rintro i a Z hi d ⟨v,R,q,k,X,rfl,o,K,C,I⟩;obtain⟨S,E,Y,w⟩:=call i R q v k (.fr a) o C K;have hn:=G i hi;unfold qt at hn;obtain⟨u,hu⟩:=Option.ne_none_iff_exists'.mp hn;rw[hu] at Y;exact⟨[.fr (.lst (gs.map bU)),.fr (dP ks h),.fr (.lst (N.map a9)),v,.lv (.dit (ai N (bb (dB (wG h) gs i)))),.lv (.dit (ai R q)),j,k,.fr a],nL gs ks h N N (dB (wG h) gs (i+1)) S E j (.fr (MM (some u))) (.fr a),by cases X<;>first|exact kU I|rfl,cT Y (dO rfl rfl),_,S,E,_,_,rfl,.inr rfl,w,rfl,rfl⟩
  have he:∀a Z,(dZ 0 (N.length+1))[t]?=some a->P t Z->∃U Z',aF 8 a Z=some U/\(av (aD 7 (aI bh (vf (aj 0) (aj 3) (ab 4) (ab 5)))) (iA (aq (ay (Kn false) (ab 7) (mC .non))) (bc (ab 4)) bw)) U=some (.rt (.lv (.dit (ai N (bb (dB (wG h) gs N.length))))),Z')/\True:=by rintro a Z d ⟨v,R,q,k,X,rfl,o,K,C,I⟩;obtain⟨S,E,Y,w⟩:=call t R q v k (.fr a) o C K;have hn:(gs.foldl (iy (wG h)) (dB (wG h) gs t,none)).2=none:=n;have ef:dB (wG h) gs (t+1)=dB (wG h) gs N.length:=(Bj n).trans (Mv n tn);rw[hn,ef] at Y;exact⟨[.fr (.lst (gs.map bU)),.fr (dP ks h),.fr (.lst (N.map a9)),v,.lv (.dit (ai N (bb (dB (wG h) gs t)))),.lv (.dit (ai R q)),j,k,.fr a],_,by cases X<;>first|exact kU I|rfl,cT Y (js rfl (aN rfl rfl)),trivial⟩
  obtain⟨O,hf,-⟩:=yb (R:=λ_=>True) (Z:=[.fr (.lst (gs.map bU)),.fr (dP ks h),.fr (.lst (N.map a9)),.lv (.lst (gs.map λg=>nm (wG h g))),.lv (.dit (ai N (bb λ_=>(0,1)))),.lv (.dit []),j,.fr .non,.un]) P t ⟨_,[],λ_=>.non,_,_,rfl,.inl rfl,⟨.nil,λp hp=>nomatch hp⟩,rfl,rfl⟩ hs he (by rw[dA];exact Nat.lt_succ_of_le ‹_›);have V:∀Z,mR (.fr (.int ((N.length:Int)+1))) Z=some (.ok (dZ 0 (N.length+1)),Z):=λZ=>by
   delta mR
   dsimp only [res]
   rw[zcu XV,show ((N.length:Int)+1).toNat=N.length+1 by lia]
  have lk:eX (.lst (N.map a9))=some (.fr (.int (N.length:Int))):=by show some (Rr.fr (.int ((N.map a9).length:Int)))=_;rw[SE]
  generalize F:[Sl.fr (.lst (gs.map bU)),.fr (dP ks h),.fr (.lst (N.map a9)),.lv (.lst (gs.map λg=>nm (wG h g))),.lv (.dit (ai N (bb λ_=>(0,1)))),.lv (.dit []),j,.fr .non,.un]=X' at hf;have e2:ab 2 X'=some (.ok (.fr (.lst (N.map a9))),X'):=by rw[<-F];rfl
  have e4:dw eX (ab 2) X'=some (.ok (.fr (.int (N.length:Int))),X'):=d6 e2 (iF rfl lk);have e5:ay aW (dw eX (ab 2)) (ax 1) X'=some (.ok (.fr (.int ((N.length:Int)+1))),X'):=af e4 (y:=.fr (.int 1)) rfl (DY (N.length:Int) 1 X');have e3:eR (ay aW (dw eX (ab 2)) (ax 1)) X'=some (.ok (dZ 0 (N.length+1)),X'):=bk e5 (V X');refine Wp.sr (U:=O) ((CM _ _ _).trans ?_) rfl;rw[e3];exact hf
end
theorem gT{m:Mi Rr}{as:List A}(h:m Z=some (.ok r,U))(k:mR r U=some (.ok as,Z')):eR m Z=some (.ok as,Z'):=bk h k
theorem v_is(x:Num):Val cK [nm x,nm x] (.bl true):=by
 have D:∀Z,gu fM (.fr (.int 2)) (.fr (.int 2)) Z=some (.ok (.fr (.bl false)),Z):=λZ=>by simp only[gu,res,fM,qF,decide_true,Xv]
 have l:∀Z,gu fM (.fr (nm x)) (.fr (nm x)) Z=some (.ok (.fr (.bl false)),Z):=λZ=>by simp only[gu,res,fM,qf,Xv]
 exact Val.of (Wp.df (Wp.st (dO (mX (nK (b:=true) rfl) (mX (aQ (af rfl rfl (D _))) (aQ (af rfl rfl (l _))))) rfl) (Wp.en rfl rfl)))
abbrev G3(i j k:Nat):Mg:=dH 3 (aH (aF i) (aH (aF j) (aH (aF k) d5)))
abbrev rA(gs:List Gt)(ks:List Str)(h:Str->Num)(D:List Nd)(P:Nd->Num)(X S w j x:Sl):List Sl:=[.fr (.lst (gs.map bU)),.fr (dP ks h),.lv (.dit (ai D (bb P))),X,S,w,j,x]
variable{x3 x4 x5 x6 x7:Sl}
theorem Nq{a b c:Sl}(g:Gt)(h3:np x3=true)(h4:np x4=true)(h5:np x5=true):G3 3 4 5 (bU g) [a,b,c,x3,x4,x5,x6,x7]=some [a,b,c,.fr (a9 g.u),.fr (a9 g.v),.fr (d9 g.x g.M),x6,x7]:=by cases x3<;>first|exact kU h3|(cases x4<;>first|exact kU h4|(cases x5<;>first|exact kU h5|rfl))
theorem xq(p:Nd):up (bb λ_=>((0,1):Num)) p (.tup [.int 0,.int 1])=bb λ_=>(0,1):=by
 funext q
 by_cases z:q=p
 .subst z;rw[cb];rfl
 .rw[fR z]
theorem cQ{x y:Num}{n m:Nat}(hx:NB n x)(hy:NB m y)(h:n<=4000:=by first|decide|omega)(h':m<=4000:=by first|decide|omega):Val aK [nm x,nm y] (nm (cS x y)):=by have k:=f6 hx hy.neg XV;rw[Bc] at k;exact Val.of (Wp.df (Wp.en (aN (ag (by rw[<-WG];rfl) (aB k _)) rfl) rfl))
section
variable{b c l:Nat}{HN:List Nd}{gs:List Gt}{ks:List Str}{h:Str->Num}{H:Nd->Num}{B:Nat}{mm:Rat}
theorem yS{g:Gt}(o:gs[i]?=some g)(p:Nd):p∈cV (gs.take (i+1))↔p∈cV (gs.take i)\/p=g.u\/p=g.v:=by
 rw[take_snoc o,dQ,dQ];constructor
 .rintro⟨x,hx,e⟩;rcases SY.mp hx with z|z
  .exact .inl ⟨x,z,e⟩
  .rw[SU.mp z] at e;exact .inr (e.imp Ye Ye)
 .rintro(⟨x,hx,e⟩|e)
  .exact⟨x,S7 _ hx,e⟩
  .exact⟨g,SJ _ (SU.mpr rfl),e.imp Ye Ye⟩
theorem KH(e:Ke b c l HN gs ks h H B mm):Wp (cA (cC (ab 0)) (G3 3 4 5) (av (c0 2 (ab 3) (a8 (aE (ax 0) (ax 1)))) (c0 2 (ab 4) (a8 (aE (ax 0) (ax 1)))))) [.fr (.lst (gs.map bU)),.fr (dP ks h),.lv (.dit []),.un,.un,.un,.un,.un] λf Z=>f=.nx /\
  ∃D x3 x4 x5,Z=rA gs ks h D (λ_=>(0,1)) x3 x4 x5 .un .un/\(D.Nodup/\∀p,p∈D↔p∈cV gs)/\np x3=true/\np x4=true/\np x5=true:=by
 refine Wp.fr (λi Z=>∃D x3 x4 x5,Z=rA gs ks h D (λ_=>(0,1)) x3 x4 x5 .un .un/\(D.Nodup/\∀p,p∈D↔p∈cV (gs.take i))/\np x3=true/\np x4=true/\np x5=true) (c8 rfl rfl) ⟨[],.un,.un,.un,rfl,⟨.nil,λp=>by rw[dQ];simp⟩,rfl,rfl,rfl⟩ ?_ ?_
 .rintro i a Z d ⟨D,x3,x4,x5,rfl,⟨I,dm⟩,h3,h4,h5⟩;rw[SQ] at d;cases o:gs[i]? with
  |none=>rw[o] at d;cases d
  |some g=>
   rw[o] at d;cases d;have dl:=Tn (dh I λp hp=>by obtain⟨x,hx,z⟩:=dQ.mp ((dm p).mp hp);exact e.ends (dQ.mpr ⟨x,List.mem_of_mem_take hx,z⟩)) e.n6
   refine⟨rA gs ks h D (λ_=>(0,1)) (.fr (a9 g.u)) (.fr (a9 g.v)) (.fr (d9 g.x g.M)) .un .un,Nq g h3 h4 h5,?_⟩;have s1:c0 2 (ab 3) (a8 (aE (ax 0) (ax 1))) (rA gs ks h D (λ_=>(0,1)) (.fr (a9 g.u)) (.fr (a9 g.v)) (.fr (d9 g.x g.M)) .un .un)=some (.nx,rA gs ks h (fN D g.u) (λ_=>(0,1)) (.fr (a9 g.u)) (.fr (a9 g.v)) (.fr (d9 g.x g.M)) .un .un):=ff rfl rfl rfl rfl rfl rfl T6 (by rw[xq];rfl);have t:(fN D g.u).length<=7:=by delta fN;split;exact fL;rw[S3,UK];exact Ot
   have s2:c0 2 (ab 4) (a8 (aE (ax 0) (ax 1))) (rA gs ks h (fN D g.u) (λ_=>(0,1)) (.fr (a9 g.u)) (.fr (a9 g.v)) (.fr (d9 g.x g.M)) .un .un)=some (.nx,rA gs ks h (fN (fN D g.u) g.v) (λ_=>(0,1)) (.fr (a9 g.u)) (.fr (a9 g.v)) (.fr (d9 g.x g.M)) .un .un):=ff rfl rfl rfl rfl rfl rfl T6 (by rw[xq];rfl);refine Wp.en (cT s1 s2) ⟨.inl rfl,_,_,_,_,rfl,⟨ql (ql I),λp=>?_⟩,rfl,rfl,rfl⟩;rw[yS o,lF,lF,dm p,or_assoc]
 .rintro O ⟨D,x3,x4,x5,rfl,T,h3,h4,h5⟩;rw[SE,TC] at T;exact⟨rfl,D,_,_,_,rfl,T,h3,h4,h5⟩
abbrev R8:Ms:=av (aD 7 (aI aK (aE (ay aS (ab 2) (ab 3)) (aI cw (aE (aj 5) (aj 1)))))) (iA (aq (aI aV (aE (ay aS (ab 2) (ab 4)) (aj 7)))) (c0 2 (ab 4) (ab 7)) bw)
theorem IB{D:List Nd}{t:Nat}(e:Ke b c l HN gs ks h H B mm)(w:D.Nodup/\∀p,p∈D↔p∈cV gs)(h3:np x3=true)(h4:np x4=true)(h5:np x5=true)(C:np x7=true):
  Wp (cA (cC (ab 0)) (G3 3 4 5) R8) (rA gs ks h D (dB (wG h) gs t) x3 x4 x5 x6 x7) λf Z=>f=.nx/\∃x3 x4 x5 x7,Z=rA gs ks h D (dB (wG h) gs (t+1)) x3 x4 x5 x6 x7/\np x3=true/\np x4=true/\np x5=true/\np x7=true:=by
 obtain⟨kp,m,n6⟩:=e.kp w.1 w.2;have X:D.length*(B+1)<=3606:=by have:=Wn n6 (show B+1<=601 by have:=e.B;exact Ot);exact fL
 have F:=e.B;refine Wp.fr (λi Z=>∃x3 x4 x5 x7,Z=rA gs ks h D (gC (wG h) (dB (wG h) gs t) (gs.take i)) x3 x4 x5 x6 x7/\np x3=true/\np x4=true/\np x5=true/\np x7=true) (c8 rfl rfl) ⟨x3,x4,x5,x7,rfl,h3,h4,h5,C⟩ ?_ ?_
 .rintro i a Z d ⟨x3,x4,x5,x7,rfl,h3,h4,h5,C⟩;rw[SQ] at d;cases o:gs[i]? with
  |none=>rw[o] at d;cases d
  |some g=>
   rw[o] at d;cases d;have T:=SS o;have hl:=(SF.mp o).1;obtain⟨y,_⟩:=(oX kp m t).pass kp i (by exact UM ‹_›);have G:=y.nb (kp.u g T);have Q:=y.nb (kp.v g T);have nw:=kp.b g T;refine⟨rA gs ks h D (gC (wG h) (dB (wG h) gs t) (gs.take i)) (.fr (a9 g.u)) (.fr (a9 g.v)) (.fr (d9 g.x g.M)) x6 x7,Nq g h3 h4 h5,?_⟩;refine Wp.st (aL (ag (ae (af rfl rfl (bC (kp.u g T) rfl rfl)) (ae (ag (ae rfl (ae rfl rfl)) (aB (vt (e.s g T)) _)) rfl)) (aB (cQ G nw) _)) rfl rfl C rfl) ?_;have P:∀c,rs (wG h) (gC (wG h) (dB (wG h) gs t) (gs.take i)) g=c->aq (aI aV (aE (ay aS (ab 2) (ab 4)) (aj 7))) (rA gs ks h D (gC (wG h) (dB (wG h) gs t) (gs.take i)) (.fr (a9 g.u)) (.fr (a9 g.v)) (.fr (d9 g.x g.M)) x6 (.fr (nm (low (wG h) (gC (wG h) (dB (wG h) gs t) (gs.take i)) g))))=some (.ok c,rA gs ks h D (gC (wG h) (dB (wG h) gs t) (gs.take i)) (.fr (a9 g.u)) (.fr (a9 g.v)) (.fr (d9 g.x g.M)) x6 (.fr (nm (low (wG h) (gC (wG h) (dB (wG h) gs t) (gs.take i)) g)))):=by rintro c rfl;exact aQ (ag (ae (af rfl rfl (bC (kp.v g T) rfl rfl)) (ae rfl rfl)) (aB (nJ Q (G.dN nw) T6 XV) _))
   rw[take_snoc o,lX,Aa];by_cases c:rs (wG h) (gC (wG h) (dB (wG h) gs t) (gs.take i)) g=true
   .rw[zcu c];exact Wp.en (js (P true c) (ff rfl rfl rfl rfl rfl rfl T6 (by rw[vS (kp.v g T),DU];rfl))) ⟨.inl rfl,_,_,_,_,rfl,rfl,rfl,rfl,rfl⟩
   .rw[zcv c];exact Wp.en (dO (P false (by simpa using c)) rfl) ⟨.inl rfl,_,_,_,_,rfl,rfl,rfl,rfl,rfl⟩
 .rintro O ⟨x3,x4,x5,x7,rfl,h3,h4,h5,C⟩;rw[SE,TC];exact⟨rfl,_,_,_,_,rfl,h3,h4,h5,C⟩
theorem A0(e:Ke b c l HN gs ks h H B mm):∃N:List Nd,N3 (i9 ed [.lst (gs.map bU),dP ks h] (.dit (ai N (bb (dB (wG h) gs N.length))))) N.Nodup (∀p,p∈N↔p∈cV gs):=by
 suffices Wp ed ([A.lst (gs.map bU),dP ks h].map Sl.fr) λg _=>∃N:List Nd,g=.rt (.lv (.dit (ai N (bb (dB (wG h) gs N.length)))))/\N.Nodup/\∀p,p∈N↔p∈cV gs by obtain⟨_,_,e,N,rfl,h1,h2⟩:=this;exact⟨N,⟨_,e⟩,h1,h2⟩
 refine Wp.df (Wp.st rfl (Wp.sq ((KH e).mono ?_)))
 rintro f Z ⟨rfl,D,x3,x4,x5,rfl,T,h3,h4,h5⟩
 refine⟨rfl,Wp.sq (Wp.fr (as:=dZ 0 D.length) (λi Z=>∃x3 x4 x5 x6 x7,Z=rA gs ks h D (dB (wG h) gs i) x3 x4 x5 x6 x7/\np x3=true/\np x4=true/\np x5=true/\np x6=true/\np x7=true) (U:=rA gs ks h D (λ_=>(0,1)) x3 x4 x5 .un .un) ?_ ⟨_,_,_,_,_,rfl,h3,h4,h5,rfl,rfl⟩ ?_ ?_)⟩
 .have x:xZ (.dit (ai D (bb λ_=>(0,1))))=some (.fr (.int (D.length:Int))):=by show some (Rr.fr (.int ((ai D _).length:Int)))=_;rw[jG]
  have V:mR (.fr (.int (D.length:Int))) (rA gs ks h D (λ_=>(0,1)) x3 x4 x5 .un .un)=some (.ok (dZ 0 D.length),rA gs ks h D (λ_=>(0,1)) x3 x4 x5 .un .un):=by
   have:=dh T.1 λp hp=>e.ends ((T.2 p).mp hp);have:=e.n6
   delta mR
   dsimp only [res];rw[zcu XV,Ut]
  exact gT (d6 rfl (iF rfl x)) V
 .rintro i a Z d ⟨x3,x4,x5,x6,x7,rfl,h3,h4,h5,n,C⟩
  refine⟨rA gs ks h D (dB (wG h) gs i) x3 x4 x5 (.fr a) x7,by cases x6<;>first|exact kU n|rfl,(IB e T h3 h4 h5 C).mono ?_⟩
  rintro f Z ⟨rfl,s,z,E,S,rfl,h3,h4,h5,C⟩
  exact⟨.inl rfl,_,_,_,_,_,rfl,h3,h4,h5,rfl,C⟩
 .rintro O ⟨x3,x4,x5,x6,x7,rfl,h3,h4,h5,n,C⟩
  rw[dA]
  exact⟨rfl,Wp.en (aN rfl rfl) ⟨D,rfl,T.1,T.2⟩⟩
theorem NG{D:List Nd}{P:Nd->Num}{g:Gt}{n:Nat}(s:Sv b c l ks h g.x g.M)(f:g.u∈D)(t:g.v∈D)(G:NB n (P g.u))(Q:NB n (P g.v))(nw:NB 600 (wG h g))(hn:n<=4000):Val gY [bU g,dP ks h,.dit (ai D (bb P))] (nm (eC (cS (P g.v) (P g.u)) (wG h g))):=
 Val.of (Wp.df (Wp.en (aN (ag (ae (ag (ae (af rfl (af rfl rfl (aM (.inr rfl) rfl)) (bC t rfl rfl)) (ae (af rfl (af rfl rfl (aM (.inr rfl) rfl)) (bC f rfl rfl)) rfl)) (aB (tS Q G) _)) (ae (ag (ae (af rfl rfl (aM (.inr rfl) rfl)) (ae rfl rfl)) (aB (Hi s) _)) rfl)) (aB (ED (Q.dN G) nw) _)) rfl) rfl))
theorem K0{D:List Nd}{P:Nd->Num}{g:Gt}{n:Nat}(s:Sv b c l ks h g.x g.M)(f:g.u∈D)(t:g.v∈D)(G:NB n (P g.u))(Q:NB n (P g.v))(nw:NB 600 (wG h g))(hn:n<=4000):Val eQ [bU g,dP ks h,.dit (ai D (bb P))] (nm (eC (cS (P g.v) (P g.u)) (wG h g))):=
 Val.of (Wp.df (Wp.en (aN (ag (ae (ag (ae (af rfl (af rfl rfl (aM (.inr rfl) rfl)) (bC t rfl rfl)) (ae (af rfl (af rfl rfl (aM (.inr rfl) rfl)) (bC f rfl rfl)) rfl)) (aB (cQ Q G) _)) (ae (ag (ae (af rfl rfl (aM (.inr rfl) rfl)) (ae rfl rfl)) (aB (vt s) _)) rfl)) (aB (f6 (Q.dN G) nw) _)) rfl) rfl))
end
theorem DF:∀L:List Mk,t4 (L.map xa)=true
 |[]=>rfl
 |p::L=>by rw[S4,t4,DF L];rfl
theorem Az:∀gs:List Gt,t4 (gs.map bU)=true
 |[]=>rfl
 |g::gs=>by rw[S4,t4,Az gs,VV];show (true&&(true&&(df (.tup [nm g.x,.tup (g.M.map xa)])&&true)))=true;show (true&&(true&&((true&&(df (.tup (g.M.map xa))&&true))&&true)))=true;rw[df,DF];rfl
theorem Lw(ks:List Str)(h:Str->Num):JM (aZ ks λn=>nm (h n))=true:=by
 delta aZ
 induction ks with
 |nil=>rfl
 |cons k ks m=>rw[S4,JM,m];rfl
theorem kR(D:List Nd)(P:Nd->Num):D5 (ai D (bb P))=true:=by
 delta ai
 induction D with
 |nil=>rfl
 |cons p D m=>rw[S4,D5,m];rfl
theorem su(D:List Nd)(g:Nd->A):(ai D g).map cO=D.map a9:=by delta ai;rw[TM];rfl
theorem A3{D:List Nd}{P:Nd->Num}(h:∀p∈D,p∈N):i8 (ai N (bb P)) (ai D (bb P))=some true:=by
 induction D with
 |nil=>rfl
 |cons p D m=>show (match nX (ai N (bb P)) (kk p) with|none=>some false|some b=>match jL (nm (P p)) b,i8 (ai N (bb P)) (ai D (bb P)) with|some e,some t=>some (e&&t)|_,_=>none)=_;rw[tw,zcu (h p SH),m λq n=>h q (SK _ n)];dsimp only;rw[qf];rfl
theorem A7{D:List Nd}{P:Nd->Num}(I:D.Nodup)(e:N.Nodup)(h:∀p,p∈D↔p∈N):rQ (.dit (ai D (bb P))) (.dit (ai N (bb P)))=some true:=by
 delta rQ sF
 dsimp only
 rw[A3 λp hp=>(h p).mp hp]
 rw[jG,jG,W0 (dh I λp hp=>(h p).mp hp) (dh e λp hp=>(h p).mpr hp)]
 simp
abbrev MJ:=bP (bP (bP fM kD) jJ) jc
abbrev RH:=bP (bP fI jk) iu
theorem DM(k:List (List Key×A))(b:A):jL (.dit k) b=none:=by
 delta jL
 rw[show toD (.dit k)=none by simp[toD]]
theorem LP{D:List Nd}{P:Nd->Num}(I:D.Nodup)(e:N.Nodup)(h:∀p,p∈D↔p∈N){x y:Rr}(h1:res Z x=some (.dit (ai D (bb P))))(h2:res Z y=some (.dit (ai N (bb P)))):gu MJ x y Z=some (.ok (.fr (.bl false)),Z):=by
 refine fu (o:=none) h1 h2 ?_
 delta MJ bP fM jc
 rw[DM,A7 I e h];rfl
theorem Jn{D:List Nd}{P:Nd->Num}(I:D.Nodup)(e:N.Nodup)(h:∀p,p∈D↔p∈N){x y:Rr}(h1:res Z x=some (.dit (ai D (bb P))))(h2:res Z y=some (.dit (ai N (bb P)))):gu RH x y Z=some (.ok (.fr (.bl true)),Z):=by
 refine fu (o:=none) h1 h2 ?_
 delta RH bP fI iu
 rw[DM,A7 I e h];rfl
theorem Hv(p:Nd):Dt 5 (a9 p):=Dt.tup (.cons (.str _) (.cons (.str _) .nil))
theorem Jj(x:Num)(L:List Mk):Dt 5 (d9 x L):=Dt.tup (.cons (Dt.nm x) (.cons (Dt.tup (xp.of λa d=>by obtain⟨p,_,rfl⟩:=Tj.mp d;exact Dt.tup (.cons (.str _) (.cons (Dt.nm _) .nil)))) .nil))
theorem K3(gs:List Gt):Dt 40 (.lst (gs.map bU)):=Dt.lst (xp.of λa d=>by obtain⟨g,J,rfl⟩:=Tj.mp d;obtain⟨V,h1,Y⟩:=Hv g.u;obtain⟨T,h2,R⟩:=Hv g.v;obtain⟨h,h3,e⟩:=Jj g.x g.M;exact Dt.tup (.cons ⟨V,h1,by exact fL⟩ (.cons ⟨T,h2,by exact fL⟩ (.cons ⟨h,h3,by exact fL⟩ .nil))))
theorem CW{ls:List Str}(hs:∀n∈ls,n∈ks):gW (aZ ks λn=>nm (h n)) (aZ ls λn=>nm (h n))=some true:=by
 induction ls with
 |nil=>rfl
 |cons n ls m=>show (match l9 (aZ ks λn=>nm (h n)) (.inr n) with|none=>some false|some b=>match jL (nm (h n)) b,gW (aZ ks λn=>nm (h n)) (aZ ls λn=>nm (h n)) with|some e,some t=>some (e&&t)|_,_=>none)=_;rw[mS,zcu (hs n SH),m λq L=>hs q (SK _ L)];dsimp only;rw[qf];rfl
theorem CG(ks:List Str)(h:Str->Num):qC (aZ ks λn=>nm (h n)) (aZ ks λn=>nm (h n))=some true:=by
 delta qC
 rw[CW λn hn=>hn]
 simp
abbrev lQ(gs:List Gt)(ks:List Str)(h:Str->Num):List A:=[.lst (gs.map bU),dP ks h]
theorem Mh(gs:List Gt)(ks:List Str)(h:Str->Num){x y:Rr}(h1:res Z x=some (.lst (lQ gs ks h)))(h2:res Z y=some (.lst (lQ gs ks h))):gu MJ x y Z=some (.ok (.fr (.bl false)),Z):=by
 refine fu (o:=none) h1 h2 ?_;have I:jL (.lst (lQ gs ks h)) (.lst (lQ gs ks h))=none:=by
  delta jL
  rw[show toD (.lst (lQ gs ks h))=none by simp[toD,fV]]
 have D:jJ (.lst (lQ gs ks h)) (.lst (lQ gs ks h))=some (.fr (.bl false)):=by show (match vK (lQ gs ks h) (lQ gs ks h) with|some rs=>some (Rr.fr (.bl (!rs.all id)))|none=>none)=_;have d:Bo (.lst (gs.map bU)) (.lst (gs.map bU))=some true:=DK (K3 gs);have U:Bo (dP ks h) (dP ks h)=some true:=CG ks h;unfold vK;rw[d];unfold vK;rw[U];rfl
 delta MJ bP fM
 rw[I,D];rfl
variable{ds:List Nat}
theorem Ca{m:Ms}{k k':List (List Key×A)}(es:Z[i]?=some (.lv (.dit k)))(T:m (Z.set i (.cf (.dit k)))=some (.nx,U))(hd:ck ds U=Z')(h2:Z'[i]?=some (.cf (.dit k')))(hc:((Z'.set i .un).all HQ&&(D5 k'&&fW i Z Z'))=true):uI i ds m Z=some (.nx,Z'.set i (.lv (.dit k'))):=by
 delta uI
 rw[es]
 dsimp only
 rw[T]
 dsimp only
 rw[hd,h2]
 exact zcu hc
def uf(s:Sl):Prop:=s=.un\/∃a,s=.fr a
theorem uf.np{s:Sl}(h:uf s):np s=true:=by rcases h with rfl|⟨a,rfl⟩<;>rfl
theorem aP(a:A):uf (.fr a):=.inr ⟨a,rfl⟩
theorem bj:uf .un:=.inl rfl
theorem bD{j:Nat}{x:Sl}(hx:uf x)(h:Z[j]?=some x)(e:Z.set j .un=U)(k:ck ds U=Z'):ck (j::ds) Z=Z':=by
 rcases hx with rfl|⟨a,rfl⟩
 .have l:Z.set j .un=Z:=by
   apply Uc;intro n;by_cases hn:j=n
   .subst hn;rw[Tt (SF.mp h).1,h]
   .rw[TL hn]
  rw[l] at e;subst e;show (match Z[j]? with|some (.fr _)=>ck ds (Z.set j .un)|_=>ck ds Z)=Z';rw[h];exact k
 .show (match Z[j]? with|some (.fr _)=>ck ds (Z.set j .un)|_=>ck ds Z)=Z';rw[h];rw[e];exact k
theorem Gb{j:Nat}(h:Z[j]?=some (.lv o))(k:ck ds Z=Z'):ck (j::ds) Z=Z':=by show (match Z[j]? with|some (.fr _)=>ck ds (Z.set j .un)|_=>ck ds Z)=Z';rw[h];exact k
theorem Wp.tT{j:Nat}{b:Ms}{D:List Nd}{g:Nd->A}(P:Nat->List Sl->Prop)(t:aj j Z=some (.ok (.fr (.dit (ai D g))),Z))(B:P 0 Z)(hs:∀i p Z,D[i]?=some p->P i Z->∃U,G (a9 p) Z=some U/\Wp b U λf Z'=>(f=.nx\/f=.ct)/\P (i+1) Z')(n:∀O,P D.length O->Q .nx O):Wp (fo j G b) Z Q:=by
 obtain⟨O,h1,h2⟩:=sG P B (λi a Z d p=>by
  rw[SQ] at d;cases e:D[i]? with
  |none=>rw[e] at d;cases d
  |some q=>
   rw[e] at d;cases d;obtain⟨U,g,f,Z',e,hf,v⟩:=hs i q Z e p;refine⟨U,Z',g,?_,v⟩;rcases hf with rfl|rfl
   .exact .inl e
   .exact .inr e)
 rw[SE] at h2;refine⟨_,O,?_,n O h2⟩
 delta fo
 rw[t];dsimp only;rw[su,h1]
structure Rt(gs:List Gt)(ks:List Str)(h:Str->Num)(HN:List Nd)(H:Nd->Num)(N N2:List Nd)(F:Nd->Num):Prop where
 nd:N.Nodup
 nd2:N2.Nodup
 eq:∀p,p∈N↔p∈N2
 hn:HN.Nodup
 sub:∀p∈N,p∈HN
 n6:HN.length<=6
 hb:∀p∈HN,NB 100 (H p)
 fb:∀p∈N,NB 3606 (F p)
abbrev bS(gs:List Gt)(ks:List Str)(h:Str->Num)(HN:List Nd)(H:Nd->Num)(N N2:List Nd)(F:Nd->Num)(x6 x7 a x T0 e:Sl):List Sl:=[.fr (.lst (gs.map bU)),.fr (dP ks h),.fr (.dit (ai HN (bb H))),.lv (.dit (ai N2 (bb F))),.lv (.lst (lQ gs ks h)),.cf (.dit (ai N (bb F))),x6,x7,a,x,T0,e]
section
variable{gs:List Gt}{ks:List Str}{h:Str->Num}{HN N N2:List Nd}{H F:Nd->Num}{x6 x7 x8 x9 T0 U':Sl}
theorem Qt(r:Rt gs ks h HN H N N2 F)(n:uf x6):Wp (fo 5 (aF 6) (xj (i4 (aq (aI cK (aE (ay aS (ab 5) (ab 6)) (ay aS (ab 3) (ab 6)))))))) (bS gs ks h HN H N N2 F x6 x7 x8 x9 T0 U') λf Z=>f=.nx/\∃x,Z=bS gs ks h HN H N N2 F x x7 x8 x9 T0 U'/\uf x:=by
 refine Wp.tT (λi Z=>∃x,Z=bS gs ks h HN H N N2 F x x7 x8 x9 T0 U'/\uf x) rfl ⟨x6,rfl,n⟩ ?_ λO hp=>⟨rfl,hp⟩
 rintro i p Z hp ⟨x,rfl,hy⟩;have T:=SS hp;refine⟨bS gs ks h HN H N N2 F (.fr (a9 p)) x7 x8 x9 T0 U',by rcases hy with rfl|⟨a,rfl⟩<;>rfl,?_⟩;exact Wp.en (dO (nK (b:=true) (aQ (ag (ae (af rfl rfl (bC T rfl rfl)) (ae (af rfl rfl (bC ((r.eq p).mp T) rfl rfl)) rfl)) (aB (v_is (F p)) _)))) rfl) ⟨.inl rfl,_,rfl,aP _⟩
theorem Rl(r:Rt gs ks h HN H N N2 F)(E:uf x6):Wp (fo 5 (aF 6) (iA (aq (aI aV (aE (ay aS (ab 2) (ab 6)) (aj 7)))) (aD 7 (ay aS (ab 2) (ab 6))) bw)) (bS gs ks h HN H N N2 F x6 (.fr (nm (0,1))) x8 x9 T0 U') λf Z=>f=.nx/\∃x m,Z=bS gs ks h HN H N N2 F x (.fr (nm m)) x8 x9 T0 U'/\uf x/\NB 100 m/\nv m<=0/\∀p∈N,nv m<=nv (H p):=by
 refine Wp.tT (λi Z=>∃x m,Z=bS gs ks h HN H N N2 F x (.fr (nm m)) x8 x9 T0 U'/\uf x/\NB 100 m/\nv m<=0/\∀p∈N.take i,nv m<=nv (H p)) rfl ⟨x6,(0,1),rfl,E,NB.zero,by rw[hZ];grind,λp hp=>by rw[List.take_zero] at hp;cases hp⟩ ?_ λO hp=>⟨rfl,by rw[TC] at hp;exact hp⟩
 rintro i p Z hp ⟨x,m,rfl,hy,s,V,e⟩;have T:=SS hp;have X:=r.hb p (r.sub p T);refine⟨bS gs ks h HN H N N2 F (.fr (a9 p)) (.fr (nm m)) x8 x9 T0 U',by rcases hy with rfl|⟨a,rfl⟩<;>rfl,?_⟩;have P:∀c,D1 (H p) m=c->aq (aI aV (aE (ay aS (ab 2) (ab 6)) (aj 7))) (bS gs ks h HN H N N2 F (.fr (a9 p)) (.fr (nm m)) x8 x9 T0 U')=some (.ok c,bS gs ks h HN H N N2 F (.fr (a9 p)) (.fr (nm m)) x8 x9 T0 U'):=by rintro c rfl;exact aQ (ag (ae (af rfl rfl (bC (r.sub p T) rfl rfl)) (ae rfl rfl)) (aB (nJ X s W1 W1) _))
 rw[take_snoc hp];by_cases c:D1 (H p) m=true
 .have lt:=(g7 X.ok s.ok).mp c;refine Wp.en (js (P true c) (aL (af rfl rfl (bC (r.sub p T) rfl rfl)) rfl rfl rfl rfl)) ⟨.inl rfl,_,H p,rfl,aP _,X,by grind,λq n=>?_⟩;rcases SY.mp n with z|z
  .have:=e q z;grind
  .rw[SU.mp z];grind
 .have S:=λz=>c ((g7 X.ok s.ok).mpr z);refine Wp.en (dO (P false (by simpa using c)) rfl) ⟨.inl rfl,_,m,rfl,aP _,s,V,λq n=>?_⟩;rcases SY.mp n with z|z
  .exact e q z
  .rw[SU.mp z];grind
abbrev nV(H:Nd->Num)(m:Num):Nd->Num:=λp=>cS (H p) m
theorem oF{L:List Nd}(nd:L.Nodup)(Y:L[i]?=some p):fN (L.take i) p=L.take (i+1):=by
 delta fN
 rw[take_snoc Y,zcv]
 intro z
 have s:=nd
 rw[<-Ue i L] at s
 refine(Td.mp s).2.2 p z p ?_ rfl
 rw[Vu]
 exact⟨0,by rw[Yy,XZ];exact Y⟩
theorem FT(g:Nd->A)(p:Nd):up g p (g p)=g:=by
 funext q
 by_cases z:q=p
 .subst z;rw[cb]
 .rw[fR z]
theorem QF{m:Num}(r:Rt gs ks h HN H N N2 F)(T:NB 100 m)(n:uf x6):Wp (fo 2 (aF 6) (c0 8 (ab 6) (aI aK (aE (ay aS (ab 2) (ab 6)) (aj 7))))) (bS gs ks h HN H N N2 F x6 (.fr (nm m)) (.lv (.dit [])) x9 T0 U') λf Z=>f=.nx/\∃x,Z=bS gs ks h HN H N N2 F x (.fr (nm m)) (.lv (.dit (ai HN (bb (nV H m))))) x9 T0 U'/\uf x:=by
 refine Wp.tT (λi Z=>∃x,Z=bS gs ks h HN H N N2 F x (.fr (nm m)) (.lv (.dit (ai (HN.take i) (bb (nV H m))))) x9 T0 U'/\uf x) rfl ⟨x6,rfl,n⟩ ?_ λO hp=>⟨rfl,by rw[TC] at hp;exact hp⟩
 rintro i p Z hp ⟨x,rfl,hy⟩;have b:=SS hp;have X:=r.hb p b;have n6:=r.n6;refine⟨bS gs ks h HN H N N2 F (.fr (a9 p)) (.fr (nm m)) (.lv (.dit (ai (HN.take i) (bb (nV H m))))) x9 T0 U',by rcases hy with rfl|⟨a,rfl⟩<;>rfl,?_⟩;refine Wp.en (ff (ag (ae (af rfl rfl (bC b rfl rfl)) (ae rfl rfl)) (aB (cQ X T) _)) rfl rfl rfl rfl rfl (by rw[UH];lia) rfl) ⟨.inl rfl,.fr (a9 p),?_,aP _⟩;rw[oF r.hn hp];have e:=FT (bb (nV H m)) p;rw[e];rfl
end
theorem F4{n j:Nat}{t:Mi Bool}{D:List Nd}{g:Nd->A}(a:aj j Z=some (.ok (.fr (.dit (ai D g))),Z)):gU n j G t e Z=gZ n G t e (D.map a9) Z:=by
 delta gU
 rw[a]
 dsimp only
 rw[su]
 rfl
section
variable{gs:List Gt}{ks:List Str}{h:Str->Num}{HN N N2:List Nd}{H F:Nd->Num}{x6 x7 x8 x9 T0 U':Sl}
theorem Qv{m:Num}(r:Rt gs ks h HN H N N2 F)(T:NB 100 m)(a:∀p∈N,nv (F p)<=nv (H p)-nv m):
  xj (aq (ay fM (gU 1 5 (aF 12) (aq (aI aV (aE (ay aS (ab 8) (ab 12)) (ay aS (ab 5) (ab 12))))) (ab 12)) (bA dW))) (bS gs ks h HN H N N2 F x6 x7 (.lv (.dit (ai HN (bb (nV H m))))) x9 T0 U')=some (.nx,bS gs ks h HN H N N2 F x6 x7 (.lv (.dit (ai HN (bb (nV H m))))) x9 T0 U'):=by
 have k:=Et (X':=bS gs ks h HN H N N2 F x6 x7 (.lv (.dit (ai HN (bb (nV H m))))) x9 T0 U') (t:=aq (aI aV (aE (ay aS (ab 8) (ab 12)) (ay aS (ab 5) (ab 12))))) (e:=ab 12) (ts:=N) a9 a9 (λ_=>false) rfl (by have:=dh r.nd r.sub;have:=r.n6;lia) (λp hp=>⟨by
  have X:=r.hb p (r.sub p hp);have nf:=r.fb p hp;have v:=nJ (X.dN T) nf W1 W1;have I:D1 (cS (H p) m) (F p)=false:=by
   cases c:D1 (cS (H p) m) (F p) with
   |false=>rfl
   |true=>
    have:=(g7 (X.dN T).ok nf.ok).mp c;rw[eS X.ok T.ok] at this
    grind
  rw[I] at v;exact aQ (ag (ae (af rfl rfl (bC (r.sub p hp) rfl rfl)) (ae (af rfl rfl (bC hp rfl rfl)) rfl)) (aB v _)),λz=>by cases z⟩)
 rw[show N.filter (λ_=>false)=[] from UY.mpr λ_ _=>To,Vp] at k;refine dO (aQ (af ((F4 rfl).trans k) rfl (fu (o:=none) rfl rfl ?_))) rfl
 delta fM
 rfl
theorem not_neg{x:Num}(h:Ok x)(k:0<=nv x):decide (x.1<0)=false:=by
 refine zcw λz=>?_;have:=(BN h wK).mp (show x.1*1<0*x.2 by lia);rw[hZ] at this
 grind
def m8(HN:List Nd)(M:Nd->Num)(s:Sl):Prop:=s=.lv (.dit (ai HN (bb M)))\/s=.fr (.dit (ai HN (bb M)))
def Gd(h:Str->Num)(g:Gt)(a:A):Prop:=∃D P,a=.dit (ai D (bb P))/\g.u∈D/\g.v∈D/\NB 4000 (P g.u)/\NB 4000 (P g.v)/\0<=nv (P g.v)-nv (P g.u)+nv (wG h g)
theorem Q7{b l:Nat}{g:Gt}{a:A}(s:Sv b c l ks h g.x g.M)(nw:NB 600 (wG h g))(gd:Gd h g a)(q:uf U'):Wp (av (aD 11 (aI gY (kh (aj 9) (aj 1) (aj 10)))) (xj (zh (i4 (aq (aI cK (aE (aj 11) (aI eQ (kh (aj 9) (aj 1) (aj 10))))))) (aq (ay ou (mix (ab 11) (ax 0)) (ax 0)))))) (bS gs ks h HN H N N2 F x6 x7 x8 (.fr (bU g)) (.fr a) U')
  λf Z=>(f=.nx\/f=.ct)/\∃i,Z=bS gs ks h HN H N N2 F x6 x7 x8 (.fr (bU g)) (.fr a) i/\uf i:=by
 obtain⟨D,P,rfl,C,t,G,Q,S⟩:=gd;have ok:=((Q.dN G).yE nw).ok;have z:0<=nv (eC (cS (P g.v) (P g.u)) (wG h g)):=by rw[DC (Q.dN G).ok nw.ok,eS Q.ok G.ok];exact S
 have e:=NG s C t G Q nw (SO _);have Y:=K0 s C t G Q nw (SO _);have k:=not_neg ok z;generalize eC (cS (P g.v) (P g.u)) (wG h g)=T at e Y k;refine Wp.st (aL (ag (ae rfl (ae rfl (ae rfl rfl))) (aB e _)) rfl rfl q.np rfl) ?_;have lt:∀Z,gu ou (.fr (.int T.1)) (.fr (.int 0)) Z=some (.ok (.fr (.bl false)),Z):=λZ=>by show some ((V0 (Rr.fr (.bl (decide (T.1<0)))):Except Str Rr),Z)=_;rw[k]
 exact Wp.en (dO (mX (nK (aQ (ag (ae rfl (ae (ag (ae rfl (ae rfl (ae rfl rfl))) (aB Y _)) rfl)) (aB (v_is T) _)))) (aQ (af (af rfl rfl (aM (.inr rfl) rfl)) rfl (lt _)))) rfl) ⟨.inl rfl,_,rfl,aP _⟩
theorem QQ{b l:Nat}{m:Num}(hs:∀g∈gs,Sv b c l ks h g.x g.M)(nw:∀g∈gs,NB 600 (wG h g))(A:∀g∈gs,Gd h g (.dit (ai N (bb F))))(y:∀g∈gs,Gd h g (.dit (ai HN (bb (nV H m)))))(v:m8 HN (nV H m) x8)(Y:uf x9)(w:uf T0)(s:uf U'):
  Wp (cA (cC (ab 0)) (aF 9) (cA (cC (bA (aE (ab 5) (ab 8)))) (aF 10) (av (aD 11 (aI gY (kh (aj 9) (aj 1) (aj 10)))) (xj (zh (i4 (aq (aI cK (aE (aj 11) (aI eQ (kh (aj 9) (aj 1) (aj 10))))))) (aq (ay ou (mix (ab 11) (ax 0)) (ax 0)))))))) (bS gs ks h HN H N N2 F x6 x7 x8 x9 T0 U')
  λf Z=>f=.nx/\∃z E q i,Z=bS gs ks h HN H N N2 F x6 x7 z E q i/\m8 HN (nV H m) z/\uf E/\uf q/\uf i:=by
 refine Wp.Rv (gs.map bU) (λZ=>∃z E q i,Z=bS gs ks h HN H N N2 F x6 x7 z E q i/\m8 HN (nV H m) z/\uf E/\uf q/\uf i) (c8 rfl rfl) ⟨x8,x9,T0,U',rfl,v,Y,w,s⟩ ?_ λO hp=>⟨rfl,hp⟩
 rintro a d Z ⟨z,E,q,i,rfl,v,Y,w,s⟩;obtain⟨g,J,rfl⟩:=Tj.mp d;refine⟨bS gs ks h HN H N N2 F x6 x7 z (.fr (bU g)) q i,by rcases Y with rfl|⟨a,rfl⟩<;>rfl,?_⟩;refine Wp.Rv [.dit (ai N (bb F)),.dit (ai HN (bb (nV H m)))] (λZ=>∃q i,Z=bS gs ks h HN H N N2 F x6 x7 (.fr (.dit (ai HN (bb (nV H m))))) (.fr (bU g)) q i/\uf q/\uf i) ?_ ⟨q,i,rfl,w,s⟩ ?_ ?_
 .rcases v with rfl|rfl
  .exact c8 (dr (ae rfl (ae rfl rfl)) rfl) rfl
  .exact c8 (dr (ae rfl (ae rfl rfl)) rfl) rfl
 .rintro a d Z ⟨q,i,rfl,w,s⟩;have gd:Gd h g a:=by
   rcases SR.mp d with rfl|d
   .exact A g J
   .rw[SU.mp d];exact y g J
  refine⟨bS gs ks h HN H N N2 F x6 x7 (.fr (.dit (ai HN (bb (nV H m))))) (.fr (bU g)) (.fr a) i,by rcases w with rfl|⟨a,rfl⟩<;>rfl,(Q7 (hs g J) (nw g J) gd s).mono ?_⟩;rintro f Z ⟨hf,e,rfl,s⟩;exact⟨hf,_,_,rfl,aP _,s⟩
 .rintro O ⟨k,e,rfl,w,s⟩;exact⟨.inl rfl,_,_,_,_,rfl,.inr rfl,aP _,w,s⟩
end
section
variable{b c l:Nat}{HN:List Nd}{gs:List Gt}{ks:List Str}{h:Str->Num}{H:Nd->Num}{B:Nat}{mm:Rat}
abbrev R6:Ms:=fo 5 (aF 6) (xj (i4 (aq (aI cK (aE (ay aS (ab 5) (ab 6)) (ay aS (ab 3) (ab 6)))))))
abbrev R9:Ms:=fo 5 (aF 6) (iA (aq (aI aV (aE (ay aS (ab 2) (ab 6)) (aj 7)))) (aD 7 (ay aS (ab 2) (ab 6))) bw)
abbrev RY:Ms:=fo 2 (aF 6) (c0 8 (ab 6) (aI aK (aE (ay aS (ab 2) (ab 6)) (aj 7))))
abbrev RQ:Ms:=xj (aq (ay fM (gU 1 5 (aF 12) (aq (aI aV (aE (ay aS (ab 8) (ab 12)) (ay aS (ab 5) (ab 12))))) (ab 12)) (bA dW)))
abbrev Sw:Ms:=cA (cC (ab 0)) (aF 9) (cA (cC (bA (aE (ab 5) (ab 8)))) (aF 10) (av (aD 11 (aI gY (kh (aj 9) (aj 1) (aj 10)))) (xj (zh (i4 (aq (aI cK (aE (aj 11) (aI eQ (kh (aj 9) (aj 1) (aj 10))))))) (aq (ay ou (mix (ab 11) (ax 0)) (ax 0)))))))
abbrev RG:Ms:=av R6 (av (aD 7 (a8 (aE (ax 0) (ax 1)))) (av R9 (av (aD 8 gQ) (av RY (av RQ Sw)))))
theorem KP(e:Ke b c l HN gs ks h H B mm){N2:List Nd}(nd:N.Nodup)(j:∀p,p∈N↔p∈cV gs)(r:Rt gs ks h HN H N N2 (dB (wG h) gs N.length)):
  Wp RG (bS gs ks h HN H N N2 (dB (wG h) gs N.length) .un .un .un .un .un .un) λf Z=>f=.nx/\∃x m w E a i,Z=bS gs ks h HN H N N2 (dB (wG h) gs N.length) x (.fr (nm m)) w E a i/\uf x/\m8 HN (nV H m) w/\uf E/\uf a/\uf i:=by
 obtain⟨kp,P,n6⟩:=e.kp nd j;refine Wp.sq ((Qt r bj).mono ?_);rintro f Z ⟨rfl,x,rfl,n⟩;refine⟨rfl,Wp.st rfl (Wp.sq ((Rl r n).mono ?_))⟩;rintro f Z ⟨rfl,x,m,rfl,n,T,V,F⟩;refine⟨rfl,Wp.st rfl (Wp.sq ((QF r T n).mono ?_))⟩;rintro f Z ⟨rfl,x,rfl,n⟩;obtain⟨L,o⟩:=oX kp F N.length;have I:qt (wG h) gs N.length:=Nz kp P XV;have O:=e.B;refine⟨rfl,Wp.st (Qv r T o.m) ((QQ e.s (λg J=>(e.b g J).mono O) (λg J=>?_) (λg J=>?_) (.inl rfl) bj bj bj).mono ?_)⟩
 .have fu:=r.fb _ (kp.u g J);have X:=r.fb _ (kp.v g J);have nw:=e.b g J;have q:=(pG (wG h) gs _ I).2 g J;refine⟨N,_,rfl,kp.u g J,kp.v g J,fu.mono W1,X.mono W1,?_⟩;have:¬ nv (dB (wG h) gs N.length g.v)<nv (low (wG h) (dB (wG h) gs N.length) g):=λz=>by
   have:=(g7 X.ok (fu.dN nw).ok).mpr z
   delta rs at q
   rw[show D1 (dB (wG h) gs N.length g.v) (low (wG h) (dB (wG h) gs N.length) g)=true from this] at q;cases q
  rw[show nv (low (wG h) (dB (wG h) gs N.length) g)=nv (dB (wG h) gs N.length g.u)-nv (wG h g) from eS fu.ok nw.ok] at this
  grind
 .have G:=r.hb _ (e.u g J);have Q:=r.hb _ (e.v g J);have k:=e.k g J;refine⟨HN,_,rfl,e.u g J,e.v g J,(G.dN T).mono W1,(Q.dN T).mono W1,?_⟩;rw[eS G.ok T.ok,eS Q.ok T.ok]
  grind
 .rintro f Z ⟨rfl,w,E,a,i,rfl,y,Y,K,S⟩;exact⟨rfl,_,m,_,_,_,_,rfl,n,y,Y,K,S⟩
theorem KJ(gs:List Gt)(ks:List Str)(h:Str->Num):t4 (lQ gs ks h)=true:=by rw[t4,t4,t4,df,df,Az,Lw];rfl
abbrev pQ(gs:List Gt)(ks:List Str)(h:Str->Num)(N N2:List Nd)(F:Nd->Num)(Z a:Sl):List Sl:=[.un,.un,.un,.lv (.dit (ai N2 (bb F))),.lv (.lst (lQ gs ks h)),Z,.un,.un,a,.un,.un,.un]
theorem EH(e:Ke b c l HN gs ks h H B mm)(hn:HN.Nodup)(hb:∀p∈HN,NB 100 (H p)):Val jf [.lst (gs.map bU),dP ks h,.dit (ai HN (bb H))] (.bl true):=by
 obtain⟨N2,Y,nd2,L⟩:=A0 e;obtain⟨N,u,nd,K⟩:=vR e;have q:=λp=>(K p).trans (L p).symm;have len:N2.length=N.length:=W0 (dh nd2 λp hp=>(q p).mpr hp) (dh nd λp hp=>(q p).mp hp);rw[len] at Y;obtain⟨kp,P,n6⟩:=e.kp nd K;have j:N.length*(B+1)<=3606:=by have:=Wn n6 (show B+1<=601 by have:=e.B;exact Ot);exact fL
 have r:Rt gs ks h HN H N N2 (dB (wG h) gs N.length):=⟨nd,nd2,q,hn,λp hp=>e.ends ((K p).mp hp),e.n6,hb,λp hp=>((oX kp P N.length).nb hp).mono j⟩
 have all:=KP e nd K r;generalize dB (wG h) gs N.length=F at u Y r all
 let S0 (x3 x4 x5:Sl):List Sl:=[.fr (.lst (gs.map bU)),.fr (dP ks h),.fr (.dit (ai HN (bb H))),x3,x4,x5,.un,.un,.un,.un,.un,.un]
 have call:∀Z,Z[4]?=some (.lv (.lst (lQ gs ks h)))->aI bN (aE (mix (ab 4) (ax 0)) (mix (ab 4) (ax 1))) Z=some (.ok (.nw (.dit (ai N (bb F)))),Z):=λZ i=>by
  have v:ab 4 Z=some (.ok (.rf 4),Z):=by rw[BZ,i]
  have G:res Z (.rf 4)=some (.lst (lQ gs ks h)):=by show (match Z[4]? with|some s=>s.a|none=>none)=_;rw[i];rfl
  exact ag (ae (af v rfl (aM (.inl G) (a:=.lst (gs.map bU)) rfl)) (ae (af v rfl (aM (.inl G) (a:=dP ks h) rfl)) rfl)) (jz u _)
 have o:aD 3 (aI ed (aE (aj 0) (aj 1))) (S0 .un .un .un)=some (.nx,S0 (.lv (.dit (ai N2 (bb F)))) .un .un):=aL (ag (ae rfl (ae rfl rfl)) (jz Y _)) rfl rfl rfl rfl;have s1:aD 4 (bA (aE (dw xY (ab 0)) (dw pT (ab 1)))) (S0 (.lv (.dit (ai N2 (bb F)))) .un .un)=some (.nx,S0 (.lv (.dit (ai N2 (bb F)))) (.lv (.lst (lQ gs ks h))) .un):=
  aL (dr (ae (d6 rfl (iF (a:=.lst (gs.map bU)) (r:=.nw (.lst (gs.map bU))) rfl rfl)) (ae (d6 rfl (iF (a:=dP ks h) (r:=.nw (.dic (aZ ks λn=>nm (h n)))) rfl rfl)) rfl)) rfl) rfl rfl rfl rfl
 have s2:aD 5 (aI bN (aE (mix (ab 4) (ax 0)) (mix (ab 4) (ax 1)))) (S0 (.lv (.dit (ai N2 (bb F)))) (.lv (.lst (lQ gs ks h))) .un)=some (.nx,S0 (.lv (.dit (ai N2 (bb F)))) (.lv (.lst (lQ gs ks h))) (.lv (.dit (ai N (bb F))))):=aL (call _ rfl) rfl rfl rfl rfl;have O:xj (zh (i4 (aq (dw (l8 Ty.dict) (ab 5)))) (zh (aq (ay MJ (ab 5) (ab 3))) (aq (ay MJ (ab 4) (bA (aE (ab 0) (ab 1))))))) (S0 (.lv (.dit (ai N2 (bb F)))) (.lv (.lst (lQ gs ks h))) (.lv (.dit (ai N (bb F)))))=some (.nx,S0 (.lv (.dit (ai N2 (bb F)))) (.lv (.lst (lQ gs ks h))) (.lv (.dit (ai N (bb F))))):=
  dO (mX (nK (b:=true) (aQ (d6 rfl (iF (a:=.dit (ai N (bb F))) rfl rfl)))) (mX (aQ (af (x:=.rf 5) (y:=.rf 3) rfl rfl (LP nd nd2 q rfl rfl))) (aQ (af (x:=.rf 4) (y:=.nw (.lst (lQ gs ks h))) rfl (dr (ae rfl (ae rfl rfl)) rfl) (Mh gs ks h rfl rfl))))) rfl
 obtain⟨f,U,em,rfl,V,m,A,R,C,Q,rfl,E,I,X,w,S⟩:=all;have bor:∃z,uI 5 [0,1,2,6,7,8,9,10,11] RG (S0 (.lv (.dit (ai N2 (bb F)))) (.lv (.lst (lQ gs ks h))) (.lv (.dit (ai N (bb F)))))=some (.nx,pQ gs ks h N N2 F (.lv (.dit (ai N (bb F)))) z):=by
  have df:∀z:Sl,HQ z=true->((pQ gs ks h N N2 F .un z).all HQ)=true:=λz hz=>by show (true&&(true&&(true&&(D5 (ai N2 (bb F))&&(t4 (lQ gs ks h)&&(true&&(true&&(true&&(HQ z&&(true&&(true&&(true&&true))))))))))))=true;rw[kR,KJ,hz];rfl
  rcases I with rfl|rfl
  .refine⟨.lv (.dit (ai HN (bb (nV H m)))),Ca (k:=ai N (bb F)) (k':=ai N (bb F)) (Z':=pQ gs ks h N N2 F (.cf (.dit (ai N (bb F)))) (.lv (.dit (ai HN (bb (nV H m)))))) rfl em ?_ rfl ?_⟩
   .exact bD (aP _) rfl rfl (bD (aP _) rfl rfl (bD (aP _) rfl rfl (bD E rfl rfl (bD (aP _) rfl rfl (Gb rfl (bD X rfl rfl (bD w rfl rfl (bD S rfl rfl rfl))))))))
   .rw[kR,show (pQ gs ks h N N2 F (.cf (.dit (ai N (bb F)))) (.lv (.dit (ai HN (bb (nV H m)))))).set 5 .un=pQ gs ks h N N2 F .un (.lv (.dit (ai HN (bb (nV H m))))) from rfl,df (.lv (.dit (ai HN (bb (nV H m))))) (kR HN (nV H m))];rfl
  .refine⟨.un,Ca (k:=ai N (bb F)) (k':=ai N (bb F)) (Z':=pQ gs ks h N N2 F (.cf (.dit (ai N (bb F)))) .un) rfl em ?_ rfl ?_⟩
   .exact bD (aP _) rfl rfl (bD (aP _) rfl rfl (bD (aP _) rfl rfl (bD E rfl rfl (bD (aP _) rfl rfl (bD (aP _) rfl rfl (bD X rfl rfl (bD w rfl rfl (bD S rfl rfl rfl))))))))
   .rw[kR,show (pQ gs ks h N N2 F (.cf (.dit (ai N (bb F)))) .un).set 5 .un=pQ gs ks h N N2 F .un .un from rfl,df _ rfl];rfl
 obtain⟨z,bor⟩:=bor;refine Val.of (Wp.df (Wp.st (U:=S0 (.lv (.dit (ai N2 (bb F)))) (.lv (.lst (lQ gs ks h))) (.lv (.dit (ai N (bb F))))) (cT o (cT s1 (cT s2 O))) (Wp.st bor (Wp.st (U:=pQ gs ks h N N2 F (.lv (.dit [])) z) (qM rfl) (Wp.en (aN (af (call _ rfl) (y:=.rf 3) rfl (Jn nd nd2 q rfl rfl)) rfl) rfl)))))
end
theorem pZ{t q:Int}(ht:t.natAbs<=20)(h:1<=q)(i:q<=20):NB 5 (gB t q):=NB.gB XV (show t.natAbs<2^5 by exact Ld) (show q.natAbs<2^5 by lia)
noncomputable def aX(x:Num):Num:=(if x.1<0 then -x.1 else x.1,x.2)
theorem AL{n:Nat}{x:Num}(h:NB n x):NB n (aX x):=by
 delta aX
 by_cases c:x.1<0
 .rw[zcu c];exact h.neg
 .rw[zcv c];exact h
theorem LS{x:Num}(h:Ok x):0<=nv (aX x):=by
 have o:Ok (aX x):=by
  delta aX
  by_cases c:x.1<0
  .rw[zcu c];exact h.neg
  .rw[zcv c];exact h
 by_cases c:nv (aX x)<0
 .have:=(BN o wK).mpr (by rw[hZ];exact c);have h1:0<=(aX x).1:=by show 0<=(if x.1<0 then -x.1 else x.1);split<;>lia
  lia
 .grind
theorem RZ{r:Int}(B:0<=r)(h1:r<4):∃q,gz [A.int 1,.int 1,.int 2,.int 3] r=some (.int q)/\1<=q/\q<=3:=by
 obtain⟨j,rfl⟩:∃j:Nat,r=j:=⟨r.toNat,by lia⟩
 match j,h1 with
 |0,_=>exact⟨1,rfl,by decide,by decide⟩
 |1,_=>exact⟨1,rfl,by decide,by decide⟩
 |2,_=>exact⟨2,rfl,by decide,by decide⟩
 |3,_=>exact⟨3,rfl,by decide,by decide⟩
 |j+4,h=>lia
theorem Sj{r:Int}(B:0<=r)(h1:r<5):∃q,gz [A.int 1,.int 1,.int 2,.int 3,.int 6] r=some (.int q)/\1<=q/\q<=6:=by
 obtain⟨j,rfl⟩:∃j:Nat,r=j:=⟨r.toNat,by lia⟩
 match j,h1 with
 |0,_=>exact⟨1,rfl,by decide,by decide⟩
 |1,_=>exact⟨1,rfl,by decide,by decide⟩
 |2,_=>exact⟨2,rfl,by decide,by decide⟩
 |3,_=>exact⟨3,rfl,by decide,by decide⟩
 |4,_=>exact⟨6,rfl,by decide,by decide⟩
 |j+5,h=>lia
theorem MA(i j:Int)(Z:List Sl):gu iM (.fr (.int i)) (.fr (.int j)) Z=some (.ok (.fr (.int (i-j))),Z):=rfl
theorem wL{n:Int}(w:Wl n o)(hn:n<2^38):X2 λ(x:Num)(o':LO)=>N3 (bO cP o [] (.fr (nm x)) o') (NB 5 x) (Wl (n+2) o'):=by
 obtain⟨r,V,P,d,b1,y⟩:=tk 21 w;obtain⟨p,E,Y,U,b2,A⟩:=tk 4 y;obtain⟨q,eq,h,i⟩:=RZ U b2
 suffices ∃s o',bO cP o [] s o'/\∃x:Num,N3 (s=.fr (nm x)) (NB 5 x) (Wl (n+2) o') by obtain⟨s,o',v,x,rfl,h1,h2⟩:=this;exact⟨x,o',v,h1,h2⟩
 exact bO.of (Wp.df (Wp.en (aN (ag (ae (af (ag rfl (P _)) rfl (MA _ _ _)) (ae (af rfl (ag rfl (Y _)) (aM (.inl rfl) eq)) rfl)) (pV _)) rfl) ⟨_,_,[],rfl,rfl,_,rfl,pZ XV h (by exact PJ),A.mono⟩))
theorem AI{n:Int}(w:Wl n o)(hn:n<2^38)(R:k<2):X2 λ(x:Num)(o':LO)=>N3 (bO dG o [.int k] (.fr (nm x)) o') (NB 5 x) (Wl (n+2) o'):=by
 obtain⟨r,V,P,d,b1,y⟩:=tk 21 w;obtain⟨p,E,Y,U,b2,A⟩:=tk 5 y;obtain⟨q,eq,h,i⟩:=Sj U b2
 suffices ∃s o',bO dG o [.int k] s o'/\∃x:Num,N3 (s=.fr (nm x)) (NB 5 x) (Wl (n+2) o') by obtain⟨s,o',v,x,rfl,h1,h2⟩:=this;exact⟨x,o',v,h1,h2⟩
 refine bO.of (Wp.df ?_);refine Wp.st (dO (Iu false (zcw XV) rfl) rfl) (Wp.st (dO (Iu false (zcw XV) rfl) rfl) (Wp.st (dO (Iu false (zcw XV) rfl) rfl) ?_));exact Wp.en (aN (ag (ae (af (ag rfl (P _)) rfl (MA _ _ _)) (ae (af rfl (ag rfl (Y _)) (aM (.inl rfl) eq)) rfl)) (pV _)) rfl) ⟨_,_,_,rfl,rfl,_,rfl,pZ XV h (by exact PJ),A.mono⟩
theorem zZ{n:Int}(w:Wl n o)(hn:n<2^37)(R:k<2):X2 λ(x:Num)(o':LO)=>N3 (bO cJ o [.int k] (.fr (nm x)) o') (NB 5 x) (Wl (n+3) o'):=by
 obtain⟨x,V,q,nx,y⟩:=AI w (by exact ME) R;obtain⟨r,E,Y,U,b2,A⟩:=tk 8 y
 suffices ∃s o',bO cJ o [.int k] s o'/\∃x:Num,N3 (s=.fr (nm x)) (NB 5 x) (Wl (n+3) o') by obtain⟨s,o',v,x,rfl,h1,h2⟩:=this;exact⟨x,o',v,h1,h2⟩
 refine bO.of (Wp.df (Wp.st (aL (ag (ae rfl (ae rfl rfl)) (xR q rfl _)) rfl rfl rfl rfl) ?_));have P:∀b,decide (r=1)=b->aq (ay fI (aI ah (aE (ab 0) (ax 8))) (ax 1)) [.pv V,.fr (.int k),.fr (nm x)]=some (.ok b,[.pv E,.fr (.int k),.fr (nm x)]):=λb hb=>aQ (af (ag rfl (Y _)) rfl (qQ hb _));by_cases h:r=1
 .exact Wp.sr (js (P true (zcx h)) (aN (cH rfl rfl) rfl)) ⟨_,_,_,rfl,rfl,(0,1),rfl,NB.zero,A.mono⟩
 .exact Wp.st (dO (P false (zcw h)) rfl) (Wp.en (aN (cH (ae (d6 (af rfl rfl (aM (.inr rfl) rfl)) (iF rfl rfl)) (ae (af rfl rfl (aM (.inr rfl) rfl)) rfl)) rfl) rfl) ⟨_,_,_,rfl,rfl,aX x,rfl,(AL nx),A.mono⟩)
theorem Cq{xs:List A}(h:xp 39 xs):jL (.lst xs) (.lst [])=some (decide (xs=[])):=by
 obtain⟨ds,h1,h2⟩:=h
 delta jL
 simp only[toD,h1,fV];rw[zcu (by rw[D.depth];exact Ot)];cases xs with
 |nil=>cases h1;rfl
 |cons a xs=>
  cases ds with
  |nil=>
   rw[fV] at h1;cases r:toD a with
   |none=>rw[r] at h1;cases h1
   |some d=>cases l:fV xs with
    |none=>rw[r,l] at h1;cases h1
    |some ds=>rw[r,l] at h1;cases h1
  |cons d ds=>show some false=_;simp
theorem wj(L:List Str){x y:Rr}(h1:res Z x=some (.lst (L.map A.str)))(h2:res Z y=some (.lst [])):gu fM x y Z=some (.ok (.fr (.bl (!decide (L=[])))),Z):=by
 refine fu (o:=none) h1 h2 ?_
 delta fM
 rw[Cq (xp.of λa d=>by obtain⟨s,_,rfl⟩:=Tj.mp d;exact Dt.str s)]
 have:decide (L.map A.str=[])=decide (L=[]):=by simp
 rw[this]
theorem atS{l:List Str}{r:Int}(B:0<=r)(h1:r<l.length):∃q∈l,gz (l.map A.str) r=some (.str q):=KZ B h1
theorem Al{x y:Str}(h:x.length+y.length<=100000)(Z:List Sl):gu aW (.fr (.str x)) (.fr (.str y)) Z=some (.ok (.fr (.str (x++y))),Z):=by
 have k:CF (.str x) (.str y)=some (.fr (.str (x++y))):=zcu h;refine fu (o:=none) rfl rfl ?_
 delta aW bP
 rw[show BQ (.str x) (.str y)=none from rfl];rw[k]
theorem vk{x:Rr}{z:Str}{i:Int}(h:res Z x=some (.str z))(l:z.length<=100000)(e:gz z.cps.toList i=some c):gu (bP ub gH) x (.fr (.int i)) Z=some (.ok (.fr (.str ⟨#[c]⟩)),Z):=by
 have k:ub (.str z) (.int i)=some (.fr (.str ⟨#[c]⟩)):=(zcu l).trans (by rw[e]);refine fu (o:=none) h rfl ?_
 delta bP
 rw[k]
noncomputable abbrev Q3:List Str:=["s", "e", "part.", "a.b"]
noncomputable abbrev KW:Str:= "abcdefghijkl"
theorem Ih:KW.cps.toList.length=12:=by decide +kernel
theorem OH:(KW.length<=100000)=True:=by rw[eq_iff_iff,iff_true];decide +kernel
theorem Mu:∀s∈Q3,s.length<=5:=by decide +kernel
theorem OU:((KW.cps.toList.take 7).map some).Nodup:=by decide +kernel
theorem EN{n:Int}(w:Wl n o)(hn:n<2^38):X2 λ(ss:List Str)(o':LO)=>N4 (bO gm o [.int 7] (.lv (.lst (ss.map A.str))) o') (ss.length=7) ss.Nodup (Wl (n+7) o'):=by
 obtain⟨ys,O,hc,ss,p,D,K,F,⟨x,N,_⟩,z,-⟩:=eF (G:=aF 2) (t:=cB) (e:=ay aW (mix (bA (vf (mC (.str "s")) (mC (.str "e")) (mC (.str "part.")) (mC (.str "a.b")))) (aI ah (aE (ab 0) (ax 4)))) (mix (mC (.str "abcdefghijkl")) (ab 2))) (as:=dZ 0 7)
  (λi acc Z=>X2 λ(ss:List Str)(p:LO)=>N6 (acc=ss.map A.str) (ss.length=i) (ss.map (λs=>s.cps.toList.getLast?)=(KW.cps.toList.take i).map some) (∃x,Z=[.pv p,.fr (.int 7),x]/\uf x) (Wl (n+i) p) True)
  (Z:=[.pv o,.fr (.int 7),.un]) ⟨[],o,rfl,rfl,rfl,⟨.un,rfl,bj⟩,w.mono T1,trivial⟩ (by
   rintro i a acc Z d ⟨ss,p,rfl,Y,F,⟨x,rfl,hx⟩,z,-⟩;obtain⟨hi,rfl⟩:=pH d;obtain⟨r,S,H,g,L,X⟩:=tk 4 z;obtain⟨q,I,eq⟩:=atS (l:=Q3) g (show r<(Q3.length:Int) from L);have j:=Mu q I;have k:i<KW.cps.toList.length:=by rw[Ih];exact PM
   obtain⟨ch,y,u⟩:∃c,gz KW.cps.toList (i:Int)=some c/\KW.cps.toList[i]?=some c:=⟨_,eY (SG k),SG k⟩
   have D:(⟨#[ch]⟩:Str).length=1:=rfl;refine⟨[.pv p,.fr (.int 7),.fr (.int i)],by rcases hx with rfl|⟨b,rfl⟩<;>rfl,.inl ⟨[.pv p,.fr (.int 7),.fr (.int i)],.fr (.str (q++⟨#[ch]⟩)),[.pv S,.fr (.int 7),.fr (.int i)],.str (q++⟨#[ch]⟩),_,rfl,?_,rfl,ss++[q++⟨#[ch]⟩],S,by rw[S9];rfl,by rw[S3,Y];rfl,?_,⟨_,rfl,aP _⟩,X.mono,trivial⟩⟩
   rotate_left
   .rw[S9,F,take_snoc u,S9];have:(q++(⟨#[ch]⟩:Str)).cps.toList.getLast?=some ch:=by show (q.cps++#[ch]).toList.getLast?=some ch;simp
    show _++[(q++(⟨#[ch]⟩:Str)).cps.toList.getLast?]=_++[_];rw[this]
   exact af (af (dr rfl rfl) (ag rfl (H _)) (aM (.inl rfl) eq)) (af rfl rfl (vk rfl (of_eq_true OH) y)) (Al XV _))
 subst D N;rw[dA] at K z F;have nd:ss.Nodup:=by have:=OU;rw[<-F] at this;exact(U5.mp this).imp λh e=>h (by rw[e])
 suffices ∃s o',bO gm o [.int 7] s o'/\∃ss:List Str,N4 (s=.lv (.lst (ss.map A.str))) (ss.length=7) ss.Nodup (Wl (n+7) o') by obtain⟨s,o',v,ss,rfl,h1,h2,h3⟩:=this;exact⟨ss,o',v,h1,h2,h3⟩
 exact bO.of (Wp.df (Wp.en (U:=[.pv p,.fr (.int 7)]) (aN (fh (gT rfl rfl) (nC (Z:=[.pv o,.fr (.int 7)]) (by rw[dA];decide) hc)) rfl) ⟨_,_,_,rfl,rfl,ss,rfl,K,nd,z.mono⟩))
structure Sf where
 n:Str
 a:Num
 w:Str
structure Sz where
 n:Str
 lo:Num
 hi:Num
 sh:List Sf
def jK(f:Sf):A:=.tup [.str f.n,nm f.a,.str f.w]
def fT(z:Sz):A:=.tup [.str z.n,nm z.lo,nm z.hi,.tup (z.sh.map jK)]
structure zM(b:Nat)(z:Sz):Prop where
 lo:NB b z.lo
 hi:NB b z.hi
 sh:∀f∈z.sh,NB b f.a
 ne:∀f∈z.sh,f.n≠z.n
noncomputable def iK:List Sz->Nat
 |[]=>0
 |z::zs=>1+z.sh.length+iK zs
theorem sy(zs:List Sz)(z:Sz):iK (zs++[z])=iK zs+(1+z.sh.length):=by
 induction zs with
 |nil=>show 1+z.sh.length+0=0+_;lia
 |cons y zs m=>show 1+y.sh.length+iK (zs++[z])=1+y.sh.length+iK zs+_;rw[m];lia
theorem k8:∀zs:List Sz,zs.length<=iK zs
 |[]=>SO _
 |z::zs=>by rw[S5];show _<=1+z.sh.length+iK zs;have:=k8 zs;lia
abbrev iZ(o:LO)(a k:Int)(L:List Str)(zs:List Sz)(x7 X x T0 e h:Sl):List Sl:=[.pv o,.fr (.int a),.fr (.int 7),.fr (.int 2),.fr (.int k),.lv (.lst (L.map A.str)),.lv (.lst (zs.map fT)),x7,X,x,T0,e,h]
variable{s:Str}{zs:List Sz}{x8 x9 T0 U' x12:Sl}
theorem tI{a:Int}{L:List Str}:qO 5 (iZ o a k (L++[s]) zs x7 x8 x9 T0 U' x12)=some (.ok (.fr (.str s)),iZ o a k L zs x7 x8 x9 T0 U' x12):=by show (match ((L++[s]).map A.str)[((L++[s]).map A.str).length-1]? with|some a'=>some ((V0 (Rr.fr a'):Except Str Rr),[Sl.pv o,.fr (.int a),.fr (.int 7),.fr (.int 2),.fr (.int k),.lv (.lst ((L++[s]).map A.str).dropLast),.lv (.lst (zs.map fT)),x7,x8,x9,T0,U',x12])|none=>none)=_;simp
noncomputable abbrev Qn:List Str:=["fixed", "big", "small"]
abbrev RN:Ms:=iA (aq (ay fM (ab 5) (bA dW))) (av (aD 12 (aI cJ (aE (ab 0) (aj 4)))) (fm (fK 10 (cR 10 (a8 (kh (qO 5) (ab 12) (mix (bA (kh (mC (.str "fixed")) (mC (.str "big")) (mC (.str "small")))) (aI ah (aE (ab 0) (ax 3)))))))))) bw
variable{sh:List Sf}
theorem NM{n:Int}{a:Int}{L:List Str}(w:Wl n o)(hn:n<2^37)(R:k<2)(hs:∀f∈sh,NB 5 f.a)(sl:sh.length<=100)(p:np x12=true):Wp RN (iZ o a k L zs x7 x8 x9 (.lv (.lst (sh.map jK))) U' x12) λf Z=>f=.nx /\
  X5 λ(o':LO)(L':List Str)(h:List Sf)(e:Sl)(_:Unit)=>N6 (Z=iZ o' a k L' zs x7 x8 x9 (.lv (.lst (h.map jK))) U' e) (Wl (n+4) o') (∀f∈h,NB 5 f.a) (L'.length+h.length=L.length+sh.length) (h.length<=sh.length+1) (np e=true/\L'.Sublist L/\∀f∈h,f∈sh\/f.n∈L):=by
 have P:∀b,(!decide (L=[]))=b->aq (ay fM (ab 5) (bA dW)) (iZ o a k L zs x7 x8 x9 (.lv (.lst (sh.map jK))) U' x12)=some (.ok b,iZ o a k L zs x7 x8 x9 (.lv (.lst (sh.map jK))) U' x12):=by rintro b rfl;exact aQ (af rfl rfl (wj L rfl rfl))
 by_cases c:L=[]
 .exact Wp.en (dO (P false (by rw[zcx c];rfl)) rfl) ⟨rfl,o,L,sh,x12,(),rfl,w.mono,hs,rfl,by lia,⟨p,UI _,λf hf=>.inl hf⟩⟩
 .obtain⟨M,s,rfl⟩:∃M s,L=M++[s]:=⟨L.dropLast,L.getLast c,(WV c).symm⟩
  obtain⟨x,V,u,nx,y⟩:=zZ w hn R;obtain⟨r,E,Y,U,b2,A⟩:=tk 3 y;obtain⟨q,I,eq⟩:=atS U (show r<(Qn.length:Int) from b2);have l:a8 (kh (qO 5) (ab 12) (mix (bA (kh (mC (.str "fixed")) (mC (.str "big")) (mC (.str "small")))) (aI ah (aE (ab 0) (ax 3))))) (iZ V a k (M++[s]) zs x7 x8 x9 (.lv (.lst (sh.map jK))) U' (.fr (nm x)))=some (.ok (.fr (jK ⟨s,x,q⟩)),iZ E a k M zs x7 x8 x9 (.lv (.lst (sh.map jK))) U' (.fr (nm x))):=cH (ae tI (ae rfl (ae (af (dr rfl rfl) (ag rfl (Y _)) (aM (.inl rfl) eq)) rfl))) rfl;refine Wp.en (js (P true (by rw[zcw c];rfl)) (cT (aL (ag (ae rfl (ae rfl rfl)) (xR u rfl _)) rfl rfl p rfl) (mM (Z':=iZ E a k M zs x7 x8 x9 (.lv (.lst ((sh++[Sf.mk s x q]).map jK))) U' (.fr (nm x))) rfl l rfl rfl (by rw[SE];exact fL) ?_))) ⟨rfl,E,M,sh++[Sf.mk s x q],_,(),rfl,A.mono,λf hf=>?_,by simp;lia,by simp,⟨rfl,List.sublist_append_left _ _,λf hf=>?_⟩⟩
  .rw[S9];rfl
  .rcases SY.mp hf with z|z
   .exact hs f z
   .rw[SU.mp z];exact nx
  .rcases SY.mp hf with z|z
   .exact .inl z
   .rw[SU.mp z];exact .inr T1
theorem R7{r:Int}(B:0<=r)(h1:r<6):∃q:Nat,gz [A.int 0,.int 0,.int 1,.int 1,.int 2,.int 3] r=some (.int q)/\q<=3:=by
 obtain⟨j,rfl⟩:∃j:Nat,r=j:=⟨r.toNat,by lia⟩
 match j,h1 with
 |0,_=>exact⟨0,rfl,by exact Tu _⟩
 |1,_=>exact⟨0,rfl,by exact Tu _⟩
 |2,_=>exact⟨1,rfl,by decide⟩
 |3,_=>exact⟨1,rfl,by decide⟩
 |4,_=>exact⟨2,rfl,by decide⟩
 |5,_=>exact⟨3,rfl,by decide⟩
 |j+6,h=>lia
theorem qv(q:Nat)(n:q<=1000)(Z:List Sl):mR (.fr (.int (q:Int))) Z=some (.ok (dZ 0 q),Z):=by
 delta mR
 dsimp only [res]
 rw[zcu XV,Ut]
abbrev Si:Ms:=av (aD 7 (qO 5)) (av (aD 8 (aI dG (aE (ab 0) (aj 4)))) (av (aD 9 (aI bx (aE (aj 8) (aI cJ (aE (ab 0) (aj 4)))))) (av (aD 10 (bA dW)) (av (cA (eR (mix (bA (cM (ax 0) (cM (ax 0) (vf (ax 1) (ax 1) (ax 2) (ax 3))))) (aI ah (aE (ab 0) (ax 6))))) (aF 11) RN) (fm (fK 6 (cR 6 (a8 (vf (ab 7) (ab 8) (ab 9) (dw jZ (ab 10)))))))))))
theorem EC{n:Int}{a:Int}{M:List Str}(w:Wl n o)(hn:n<2^36)(R:k<2)(zb:∀z∈zs,zM 11 z)(zl:iK zs<=100)(nd:(M++[s]).Nodup)(h:np x7=true/\np x8=true/\np x9=true/\np T0=true/\np U'=true/\np x12=true):
  Wp Si (iZ o a k (M++[s]) zs x7 x8 x9 T0 U' x12) λf Z=>f=.nx/\X5 λ(o':LO)(L':List Str)(z:Sz)(x:Sl×Sl×Sl)(y:Sl×Sl×Sl)=>N6 (Z=iZ o' a k L' (zs++[z]) x.1 x.2.1 x.2.2 y.1 y.2.1 y.2.2) (Wl (n+18) o') (zM 11 z) (L'.length+(1+z.sh.length)=M.length+1) L'.Nodup (np x.1=true/\np x.2.1=true/\np x.2.2=true/\np y.1=true/\np y.2.1=true/\np y.2.2=true):=by
 obtain⟨J,H,Y,X,S,p⟩:=h;obtain⟨lo,o1,N,j,l⟩:=AI w (by exact ME) R;obtain⟨K,G,t,V,A⟩:=zZ l (by exact Pg) R;obtain⟨r,B,m,g,T,d⟩:=tk 6 A;obtain⟨q,eq,q3⟩:=R7 g T;refine Wp.st (aL tI rfl rfl J rfl) ?_;refine Wp.st (aL (ag (ae rfl (ae rfl rfl)) (xR N rfl _)) rfl rfl H rfl) ?_;refine Wp.st (aL (ag (ae rfl (ae (ag (ae rfl (ae rfl rfl)) (xR t rfl _)) rfl)) (aB (f6 j V) _)) rfl rfl Y rfl) ?_;refine Wp.st (aL (dr rfl rfl) rfl rfl X rfl) ?_;refine Wp.sq (Wp.fr (λi Z=>X5 λ(o':LO)(L':List Str)(sh:List Sf)(Q v:Sl)=>N6 (Z=iZ o' a k L' zs (.fr (.str s)) (.fr (nm lo)) (.fr (nm (eC lo K))) (.lv (.lst (sh.map jK))) Q v) (Wl (n+6+4*i) o') (∀f∈sh,NB 5 f.a) (L'.length+sh.length=M.length/\L'.Sublist M/\∀f∈sh,f.n∈M) (sh.length<=i) (np Q=true/\np v=true))
  (gT (af (dr rfl rfl) (ag rfl (m _)) (aM (.inl rfl) eq)) (qv q T6 _)) ⟨B,M,[],U',x12,rfl,d.mono,(λf hf=>nomatch hf),⟨rfl,UI _,λf hf=>nomatch hf⟩,SO _,⟨S,p⟩⟩ ?_ ?_)
 .rintro i z Z hz ⟨o',L',sh,Q,v,rfl,u,hs,⟨hl,b,c⟩,I,⟨S,p⟩⟩;have hi:=(pH hz).1;refine⟨iZ o' a k L' zs (.fr (.str s)) (.fr (nm lo)) (.fr (nm (eC lo K))) (.lv (.lst (sh.map jK))) (.fr z) v,by cases Q<;>first|exact kU S|rfl,(NM u XV R hs XV p).mono ?_⟩;rintro f Z ⟨rfl,G,L2,E,C,_,rfl,A,P,D,s2,⟨p,dN,F⟩⟩;exact⟨.inl rfl,G,L2,E,_,C,rfl,A.mono,P,⟨by lia,dN.trans b,λf hf=>(F f hf).elim (c f) λq=>b.subset q⟩,by lia,⟨rfl,p⟩⟩
 .rintro O ⟨o',L',sh,Q,v,rfl,u,hs,⟨hl,b,c⟩,I,⟨S,p⟩⟩;have L:=Td.mp nd;rw[dA] at u I;have zl2:=k8 zs;refine⟨rfl,Wp.en (U:=iZ o' a k L' (zs++[Sz.mk s lo (eC lo K) sh]) (.fr (.str s)) (.fr (nm lo)) (.fr (nm (eC lo K))) (.lv (.lst (sh.map jK))) Q v) (mM rfl (cH (ae rfl (ae rfl (ae rfl (ae (d6 rfl (iF rfl rfl)) rfl)))) rfl) rfl rfl (by rw[SE];lia) ?_) ⟨rfl,o',L',⟨s,lo,eC lo K,sh⟩,(_,_,_),(_,_,_),rfl,u.mono,⟨j.mono W1,(j.yE V).mono W1,λf hf=>(hs f hf).mono W1,λf hf e=>L.2.2 _ (c f hf) s T1 e⟩,by show L'.length+(1+sh.length)=_;lia,L.1.sublist b,⟨rfl,rfl,rfl,rfl,S,p⟩⟩⟩;have em:(zs++[Sz.mk s lo (eC lo K) sh]).map fT=zs.map fT++[fT ⟨s,lo,eC lo K,sh⟩]:=by rw[S9];rfl
  delta iZ
  rw[em];rfl
theorem Ei{n a:Int}(w:Wl n o)(hn:n<2^35):X2 λ(zs:List Sz)(o':LO)=>N4 (bO gf o [.int a,.int 7,.int 2] (.lv (.lst (zs.map fT))) o') (∀z∈zs,zM 11 z) (iK zs<=7) (Wl (n+134) o'):=by
 obtain⟨k,D,T,a1,b1,l⟩:=tk 2 w;obtain⟨L,G,Y,F,r,A⟩:=EN l (by exact Pg)
 suffices ∃s o',bO gf o [.int a,.int 7,.int 2] s o'/\∃zs:List Sz,N4 (s=.lv (.lst (zs.map fT))) (∀z∈zs,zM 11 z) (iK zs<=7) (Wl (n+134) o') by obtain⟨s,o',v,zs,rfl,h1,h2,h3⟩:=this;exact⟨zs,o',v,h1,h2,h3⟩
 refine bO.of (Wp.df (Wp.st (aL (ag rfl (T _)) rfl rfl rfl rfl) (Wp.st (aL (ag (ae rfl (ae rfl rfl)) (xR Y rfl _)) rfl rfl rfl rfl) (Wp.st (aL (dr rfl rfl) rfl rfl rfl rfl) ?_))));obtain⟨O,V,B,L',zs,x,y,rfl,X,p,K⟩:=jX (t:=n9 (aq (ay fM (ab 5) (bA dW))) (aq (ay ou (dw eX (ab 6)) (ab 1)))) (n:=JK)
  (P:=λm Z=>X5 λ(o':LO)(L':List Str)(zs:List Sz)(x:Sl×Sl×Sl)(y:Sl×Sl×Sl)=>N6 (Z=iZ o' a k L' zs x.1 x.2.1 x.2.2 y.1 y.2.1 y.2.2) (Wl (n+8+18*zs.length) o') (∀z∈zs,zM 11 z) (L'.length+iK zs=7/\L'.Nodup) (m=L'.length) (np x.1=true/\np x.2.1=true/\np x.2.2=true/\np y.1=true/\np y.2.1=true/\np y.2.2=true))
  (Q:=λZ=>X5 λ(o':LO)(L':List Str)(zs:List Sz)(x:Sl×Sl×Sl)(y:Sl×Sl×Sl)=>N4 (Z=iZ o' a k L' zs x.1 x.2.1 x.2.2 y.1 y.2.1 y.2.2) (Wl (n+134) o') (∀z∈zs,zM 11 z) (iK zs<=7)) (by
   rintro m Z ⟨o',L',zs,⟨x7,x8,x9⟩,⟨T0,U',x12⟩,rfl,S,p,⟨K,r⟩,rfl,i⟩;have R:=k8 zs;have I:aq (ay fM (ab 5) (bA dW)) (iZ o' a k L' zs x7 x8 x9 T0 U' x12)=some (.ok (!decide (L'=[])),iZ o' a k L' zs x7 x8 x9 T0 U' x12):=aQ (af rfl rfl (wj L' rfl rfl));have J:aq (ay ou (dw eX (ab 6)) (ab 1)) (iZ o' a k L' zs x7 x8 x9 T0 U' x12)=some (.ok (decide (((zs.map fT).length:Int)<a)),iZ o' a k L' zs x7 x8 x9 T0 U' x12):=rfl;by_cases c:L'=[]
   .have h:aq (ay fM (ab 5) (bA dW)) (iZ o' a k L' zs x7 x8 x9 T0 U' x12)=some (.ok false,iZ o' a k L' zs x7 x8 x9 T0 U' x12):=by rw[I,zcx c];rfl
    exact .inl ⟨_,pK h,o',L',zs,(x7,x8,x9),(T0,U',x12),rfl,S.mono,p,by omega⟩
   .have h:aq (ay fM (ab 5) (bA dW)) (iZ o' a k L' zs x7 x8 x9 T0 U' x12)=some (.ok true,iZ o' a k L' zs x7 x8 x9 T0 U' x12):=by rw[I,zcw c];rfl
    by_cases d:((zs.map fT).length:Int)<a
    .obtain⟨M,s,rfl⟩:∃M s,L'=M++[s]:=⟨L'.dropLast,L'.getLast c,(WV c).symm⟩
     obtain⟨f,Z',H,rfl,B,C,z,N,U,rfl,X,j,hl,E,b⟩:=EC S (by omega) (by exact id ‹_›) p (by omega) r i;rw[S3,UK] at K;have e:aq (ay ou (dw eX (ab 6)) (ab 1)) (iZ o' a k (M++[s]) zs x7 x8 x9 T0 U' x12)=some (.ok true,iZ o' a k (M++[s]) zs x7 x8 x9 T0 U' x12):=by rw[J,zcx d]
     refine .inr ⟨_,_,C.length,hU h e,.inl H,by rw[S3,UK];omega,B,C,zs++[z],N,U,rfl,X.mono (by rw[S3,UK];omega),λu g=>?_,⟨by rw[sy];omega,E⟩,rfl,b⟩;rcases SY.mp g with q|q
     .exact p u q
     .rw[SU.mp q];exact j
    .have e:aq (ay ou (dw eX (ab 6)) (ab 1)) (iZ o' a k L' zs x7 x8 x9 T0 U' x12)=some (.ok false,iZ o' a k L' zs x7 x8 x9 T0 U' x12):=by rw[J,zcw d]
     exact .inl ⟨_,hU h e,o',L',zs,(x7,x8,x9),(T0,U',x12),rfl,S.mono,p,by omega⟩) ⟨G,L,[],(.un,.un,.un),(.un,.un,.un),rfl,A.mono (by simp;exact Su),(λz hz=>nomatch hz),⟨by rw[F];rfl,r⟩,rfl,⟨rfl,rfl,rfl,rfl,rfl,rfl⟩⟩ (by rw[F];decide)
 exact Wp.st (BU V) (Wp.en (aN rfl rfl) ⟨_,_,_,rfl,rfl,zs,rfl,p,K,X⟩)
abbrev G4(i j k l:Nat):Mg:=dH 4 (aH (aF i) (aH (aF j) (aH (aF k) (aH (aF l) d5))))
theorem FU(g:Sf->A)(hl:sh.length<=1000)(s:∀f x y z,uf x->uf y->uf z->G (jK f) (X'++[x,y,z])=some (X'++[.fr (.str f.n),.fr (nm f.a),.fr (.str f.w)]))
  (h:∀f∈sh,∃r,e (X'++[.fr (.str f.n),.fr (nm f.a),.fr (.str f.w)])=some (.ok r,X'++[.fr (.str f.n),.fr (nm f.a),.fr (.str f.w)])/\bp r (X'++[.fr (.str f.n),.fr (nm f.a),.fr (.str f.w)])=some (g f,X'++[.fr (.str f.n),.fr (nm f.a),.fr (.str f.w)])):
  gZ 3 G cB e (sh.map jK) X'=some (.ok (.nw (.lst (sh.map g))),X'):=by
 obtain⟨ys,O,h1,x,y,z,rfl,_,_,_,rfl⟩:=eF (t:=cB) (as:=sh.map jK)
  (λj acc Z=>X3 λ(x y z:Sl)=>N6 (Z=X'++[x,y,z]) (uf x) (uf y) (uf z) (acc=(sh.take j).map g) True) ⟨.un,.un,.un,rfl,bj,bj,bj,rfl,trivial⟩ (by
   rintro j q acc Z L ⟨x,y,z,rfl,hx,hy,hz,rfl,-⟩;rw[SQ] at L;cases Y:sh[j]? with
   |none=>rw[Y] at L;cases L
   | some p=>rw[Y] at L;cases L;obtain⟨r,K,R⟩:=h p (SS Y);refine⟨_,s p x y z hx hy hz,.inl ⟨_,r,_,g p,_,rfl,K,R,_,_,_,rfl,aP _,aP _,aP _,?_,trivial⟩⟩;rw[VU,Y,S9];rfl)
 delta gZ
 rw[zcu (by rw[SE];exact fL)];have D:X'++Th 3 Sl.un=X'++[.un,.un,.un]:=rfl;rw[D,h1];simp
def Mz(y:Num)(f:Sf):Sf:=⟨f.n,iT f.a y,f.w⟩
def kM(y:Num)(z:Sz):Sz:=⟨z.n,iT z.lo y,iT z.hi y,z.sh.map (Mz y)⟩
theorem Sh{b:Nat}{y:Num}{z:Sz}(h:zM b z)(hy:NB c y):zM (b+c) (kM y z):=⟨h.lo.mq hy,h.hi.mq hy,λf hf=>by
 obtain⟨g,J,rfl⟩:=Tj.mp hf;exact(h.sh g J).mq hy,λf hf=>by
 obtain⟨g,J,rfl⟩:=Tj.mp hf;exact h.ne g J⟩
theorem Dy(y:Num):∀zs:List Sz,iK (zs.map (kM y))=iK zs
 |[]=>rfl
 |z::zs=>by show 1+(z.sh.map (Mz y)).length+iK (zs.map (kM y))=1+z.sh.length+iK zs;rw[SE,Dy y zs]
abbrev M6(zs:List Sz)(y:Num)(ws:List Sz)(x3 x4 x5 x6 x7:Sl):List Sl:=[.fr (.lst (zs.map fT)),.fr (nm y),.lv (.lst (ws.map fT)),x3,x4,x5,x6,x7]
theorem O4{a b c:Sl}{r:List Sl}(z:Sz)(h3:uf x3)(h4:uf x4)(h5:uf x5)(H:uf x6):G4 3 4 5 6 (fT z) (a::b::c::x3::x4::x5::x6::r)=some (a::b::c::.fr (.str z.n)::.fr (nm z.lo)::.fr (nm z.hi)::.fr (.tup (z.sh.map jK))::r):=by rcases h3 with rfl|⟨_,rfl⟩<;>rcases h4 with rfl|⟨_,rfl⟩<;>rcases h5 with rfl|⟨_,rfl⟩<;>rcases H with rfl|⟨_,rfl⟩<;>rfl
theorem Cy{b:Nat}{y:Num}(hz:∀z∈zs,zM b z)(hy:NB c y)(hb:b+c<=8999)(K:iK zs<=100):i9 ir [.lst (zs.map fT),nm y] (.lst ((zs.map (kM y)).map fT)):=by
 have R:=k8 zs;refine i9.of (Wp.df (Wp.st rfl (Wp.sq (Wp.fr (λi Z=>∃x3 x4 x5 x6 x7,Z=M6 zs y ((zs.take i).map (kM y)) x3 x4 x5 x6 x7/\uf x3/\uf x4/\uf x5/\uf x6/\uf x7) (c8 rfl rfl) ⟨.un,.un,.un,.un,.un,rfl,bj,bj,bj,bj,bj⟩ ?_ ?_))))
 .rintro i a Z d ⟨x3,x4,x5,x6,x7,rfl,h3,h4,h5,H,C⟩;rw[SQ] at d;cases Y:zs[i]? with
  |none=>rw[Y] at d;cases d
  |some z=>
   rw[Y] at d;cases d;have T:=SS Y;have p:=hz z T;have sl:z.sh.length<=100:=by
    obtain⟨A,B,rfl⟩:=List.append_of_mem T;have:∀A:List Sz,z.sh.length<=iK (A++z::B):=λA=>by
     induction A with
     |nil=>show _<=1+z.sh.length+iK B;lia
     |cons u A m=>show _<=1+u.sh.length+iK (A++z::B);lia
    have:=this A;exact Tn ‹_› ‹_›
   refine⟨M6 zs y ((zs.take i).map (kM y)) (.fr (.str z.n)) (.fr (nm z.lo)) (.fr (nm z.hi)) (.fr (.tup (z.sh.map jK))) x7,O4 z h3 h4 h5 H,?_⟩;have h:=FU (G:=G3 8 9 10) (e:=a8 (kh (ab 8) (aI bq (aE (aj 9) (aj 1))) (ab 10))) (X':=M6 zs y ((zs.take i).map (kM y)) (.fr (.str z.n)) (.fr (nm z.lo)) (.fr (nm z.hi)) (.fr (.tup (z.sh.map jK))) x7) (λf=>jK (Mz y f)) T6
    (λf x y z hx hy hz=>by rcases hx with rfl|⟨_,rfl⟩<;>rcases hy with rfl|⟨_,rfl⟩<;>rcases hz with rfl|⟨_,rfl⟩<;>rfl)
    (λf hf=>⟨.fr (jK (Mz y f)),cH (ae rfl (ae (ag (ae rfl (ae rfl rfl)) (aB (fc (p.sh f hf) hy hb) _)) (ae rfl rfl))) rfl,rfl⟩)
   have em:z.sh.map (λf=>jK (Mz y f))=(z.sh.map (Mz y)).map jK:=by rw[TM];rfl
   rw[em] at h;refine Wp.st (aL (d6 (fh (c8 rfl rfl) h) (iF rfl rfl)) rfl rfl C.np rfl) ?_;refine Wp.en (U:=M6 zs y ((zs.take (i+1)).map (kM y)) (.fr (.str z.n)) (.fr (nm z.lo)) (.fr (nm z.hi)) (.fr (.tup (z.sh.map jK))) (.fr (.tup ((z.sh.map (Mz y)).map jK)))) (mM rfl (cH (ae rfl (ae (ag (ae rfl (ae rfl rfl)) (aB (fc p.lo hy hb) _)) (ae (ag (ae rfl (ae rfl rfl)) (aB (fc p.hi hy hb) _)) (ae rfl rfl)))) rfl) rfl rfl (by rw[SE,SE,UH];lia) ?_) ⟨.inl rfl,_,_,_,_,_,rfl,aP _,aP _,aP _,aP _,aP _⟩;have l:((zs.take (i+1)).map (kM y)).map fT=((zs.take i).map (kM y)).map fT++[fT (kM y z)]:=by rw[take_snoc Y,S9,S9];rfl
   delta M6
   rw[l];rfl
 .rintro O ⟨x3,x4,x5,x6,x7,rfl,h3,h4,h5,H,C⟩;rw[SE,TC];exact⟨rfl,Wp.en (aN rfl rfl) rfl⟩
theorem BK(a b:Str)(Z:List Sl):gu fI (.fr (.str a)) (.fr (.str b)) Z=some (.ok (.fr (.bl (decide (a=b)))),Z):=by
 refine fu (o:=none) rfl rfl ?_
 delta fI jL
 simp only[toD];rw[zcu (by simp[D.depth])];show some (Rr.fr (A.bl (a==b)))=_;simp[Wf]
theorem u4{m:Mi Rr}{x:Rr}{r:Option (Fl×List Sl)}(h:m Z=some (.ok x,U))(k:OZ G x U=r):sI m G Z=r:=by rw[Np,h];exact k
abbrev zN(z:Sz)(s:Str)(v:Num)(x7 x8 x9:Sl):List Sl:=[.fr (fT z),.fr (.str s),.fr (nm v),.fr (.str z.n),.fr (nm z.lo),.fr (nm z.hi),.fr (.tup (z.sh.map jK)),x7,x8,x9]
abbrev QD:Ms:=av (iA (n9 (aq (ay fI (ab 7) (ab 1))) (aq (ay fI (ab 9) (mC (.str "fixed"))))) (bc (ab 8)) bw) (av (iA (n9 (aq (ay fI (ab 7) (ab 1))) (aq (ay fI (ab 9) (mC (.str "big"))))) (bc (aI bx (aE (aj 8) (aI aK (aE (aj 2) (aj 4)))))) bw) (iA (aq (ay fI (ab 7) (ab 1))) (bc (aI bx (aE (aj 8) (aI aK (aE (aj 5) (aj 2)))))) bw))
theorem IY{b:Nat}{z:Sz}{v:Num}(h:zM b z)(P:NB c v)(hb:2*b+c+2<=4000)(X:∃f∈z.sh,f.n=s):∃y,Val gJ [fT z,.str s,nm v] (nm y)/\NB (2*b+c+2) y:=by
 obtain⟨D,q,K⟩:=X;obtain⟨J,B⟩:=Vu.mp q;obtain⟨j,_,⟨f,Q,F⟩,x⟩:=gK (λi=>∃f,z.sh[i]?=some f/\f.n=s) J ⟨D,B,K⟩;have hf:=SS Q;have fb:=h.sh f hf;have u:∀(g:Sf)(b:Bool),decide (g.n=s)=b->aq (ay fI (ab 7) (ab 1)) (zN z s v (.fr (.str g.n)) (.fr (nm g.a)) (.fr (.str g.w)))=some (.ok b,zN z s v (.fr (.str g.n)) (.fr (nm g.a)) (.fr (.str g.w))):=by rintro g b rfl;exact aQ (af rfl rfl (BK _ _ _))
 have k:∀(g:Sf)(t:Str)(b:Bool),decide (g.w=t)=b->aq (ay fI (ab 9) (mC (.str t))) (zN z s v (.fr (.str g.n)) (.fr (nm g.a)) (.fr (.str g.w)))=some (.ok b,zN z s v (.fr (.str g.n)) (.fr (nm g.a)) (.fr (.str g.w))):=by rintro g t b rfl;exact aQ (af rfl rfl (BK _ _ _))
 have S:∀(g:Sf)(x7 x8 x9:Sl),uf x7->uf x8->uf x9->G3 7 8 9 (jK g) (zN z s v x7 x8 x9)=some (zN z s v (.fr (.str g.n)) (.fr (nm g.a)) (.fr (.str g.w))):=by intro g x7 x8 x9 C I Y;rcases C with rfl|⟨_,rfl⟩<;>rcases I with rfl|⟨_,rfl⟩<;>rcases Y with rfl|⟨_,rfl⟩<;>rfl
 have en:∃y,NB (2*b+c+2) y/\QD (zN z s v (.fr (.str f.n)) (.fr (nm f.a)) (.fr (.str f.w)))=some (.rt (.fr (nm y)),zN z s v (.fr (.str f.n)) (.fr (nm f.a)) (.fr (.str f.w))):=by
  have V:=u f true (zcx F);have nx:∀{m n:Ms}{Z:List Sl}{r:Sl},m Z=some (.rt r,Z)->av m n Z=some (.rt r,Z):=λe=>by delta av;rw[e]
  by_cases T:f.w = "fixed"
  .exact⟨f.a,fb.mono XV,nx (js (hU V (k f _ true (zcx T))) (aN rfl rfl))⟩
  .have s1:=dO (m:=bc (ab 8)) (n:=bw) (hU V (k f _ false (zcw T))) rfl;by_cases E:f.w = "big"
   .exact⟨eC f.a (cS v z.lo),(fb.yE (P.dN h.lo)).mono XV,cT s1 (nx (js (hU V (k f _ true (zcx E))) (aN (ag (ae rfl (ae (ag (ae rfl (ae rfl rfl)) (aB (cQ P h.lo) _)) rfl)) (aB (f6 fb (P.dN h.lo)) _)) rfl)))⟩
   .exact⟨eC f.a (cS z.hi v),(fb.yE (h.hi.dN P)).mono XV,cT s1 (cT (dO (hU V (k f _ false (zcw E))) rfl) (js V (aN (ag (ae rfl (ae (ag (ae rfl (ae rfl rfl)) (aB (cQ h.hi P) _)) rfl)) (aB (f6 fb (h.hi.dN P)) _)) rfl)))⟩
 obtain⟨y,G,en⟩:=en;refine⟨y,?_,G⟩;have hs:∀i a Z,i<j->(z.sh.map jK)[i]?=some a->(∃x7 x8 x9,Z=zN z s v x7 x8 x9/\uf x7/\uf x8/\uf x9)->∃U Z',G3 7 8 9 a Z=some U/\QD U=some (.nx,Z')/\∃x7 x8 x9,Z'=zN z s v x7 x8 x9/\uf x7/\uf x8/\uf x9:=by
  rintro i a Z hi d ⟨x7,x8,x9,rfl,C,I,Y⟩;rw[SQ] at d;cases o:z.sh[i]? with
  |none=>rw[o] at d;cases d
  |some g=>rw[o] at d;cases d;have p:=u g false (zcw λe=>x i hi ⟨g,o,e⟩);exact⟨_,_,S g x7 x8 x9 C I Y,cT (dO (pK p) rfl) (cT (dO (pK p) rfl) (dO p rfl)),_,_,_,rfl,aP _,aP _,aP _⟩
 have he:∀a Z,(z.sh.map jK)[j]?=some a->(∃x7 x8 x9,Z=zN z s v x7 x8 x9/\uf x7/\uf x8/\uf x9)->∃U Z',G3 7 8 9 a Z=some U/\QD U=some (.rt (.fr (nm y)),Z')/\True:=by rintro a Z d ⟨x7,x8,x9,rfl,C,I,Y⟩;rw[SQ,Q] at d;cases d;exact⟨_,_,S f x7 x8 x9 C I Y,en,trivial⟩
 obtain⟨O,hl,-⟩:=yb (λ_ Z=>∃x7 x8 x9,Z=zN z s v x7 x8 x9/\uf x7/\uf x8/\uf x9) j ⟨.un,.un,.un,rfl,bj,bj,bj⟩ hs he (by rw[SE];exact(SF.mp Q).1);refine Val.of (Wp.df (Wp.st (u4 rfl rfl) (Wp.sr (U:=O) ((CM _ _ _).trans ?_) rfl)));exact hl
noncomputable def zi(ks:List Str)(s:Str):List Str:=if s∈ks then ks else ks++[s]
noncomputable def Jk(h:Str->Num)(s:Str)(y:Num):Str->Num:=λm=>if m=s then y else h m
theorem AV{y:Num}:Jk h s y s=y:=zcu rfl
theorem nt{m:Str}:m∈zi ks s↔m∈ks\/m=s:=by
 delta zi
 split
 .rename_i h
  exact⟨.inl,λz=>z.elim id λe=>e▸h⟩
 .simp
theorem lK(ks:List Str)(s:Str):(zi ks s).length<=ks.length+1:=by
 delta zi
 split
 .lia
 .simp
theorem Hy{y:Num}(hd:∀n∈ks,NB c (h n))(hy:NB c y):∀n∈zi ks s,NB c (Jk h s y n):=λn hn=>by
 delta Jk
 by_cases z:n=s
 .rw[zcu z];exact hy
 .rw[zcv z];exact hd n ((nt.mp hn).resolve_right z)
theorem CT{m:Mi Rr}{y:Num}(e:m Z=some (.ok (.fr (nm y)),X'))(d:C9 X' i=true)(hk:mk X'=some (.ok (.fr (.str s)),U))(l:aO U i=some (.dic (aZ ks λn=>nm (h n))))(hl:ks.length<=1000)(k:setAt U i (.dic (aZ (zi ks s) λn=>nm (Jk h s y n)))=Z'):nF i mk m Z=some (.nx,Z'):=by
 refine Gi e d hk ?_;rw[QY rfl rfl l rfl (by rw[zm];exact fL),Dw,<-k];have:(λm=>if m=s then nm y else nm (h m))=λn=>nm (Jk h s y n):=by
  funext m
  delta Jk
  by_cases z:m=s
  .rw[zcu z,zcu z]
  .rw[zcv z,zcv z]
 rw[this];rfl
abbrev Jz(o:LO)(zs:List Sz)(ks:List Str)(h:Str->Num)(x3 x4 x5 x6 x7 x8:Sl):List Sl:=[.pv o,.fr (.lst (zs.map fT)),.lv (.dic (aZ ks λn=>nm (h n))),x3,x4,x5,x6,x7,x8]
abbrev RX:Ms:=av (aD 5 (aI bI (aE (ay iM (aI ah (aE (ab 0) (qH (ay aW (ay bR (ax 2) (ab 4)) (ax 1))))) (ab 4)) (aj 4)))) (nF 2 (ab 6) (aI bq (aE (aj 5) (aI gJ (kh (aj 3) (aj 6) (mix (ab 2) (mix (ab 3) (ax 0))))))))
theorem Oc{n:Int}{z:Sz}{p:Int}(w:Wl n o)(hn:n<2^36)(v:zM 75 z)(Q:z.sh.length<=100)(hd:∀m∈ks,NB 400 (h m))(hi:z.n∈ks)(B:NB 232 (h z.n))(P:ks.length+z.sh.length<=300)(c:1<=p)(L:p<=6)(h5:uf x5)(E:uf x6)(C:uf x7)(I:uf x8):
  Wp (cA (cC (mix (ab 3) (ax 3))) (G3 6 7 8) RX) (Jz o zs ks h (.fr (fT z)) (.fr (.int p)) x5 x6 x7 x8) λf Z=>f=.nx/\X5 λ(o':LO)(H:List Str)(h':Str->Num)(a:Sl×Sl)(b:Sl×Sl)=>N6 (Z=Jz o' zs H h' (.fr (fT z)) (.fr (.int p)) a.1 a.2 b.1 b.2) (Wl (n+z.sh.length) o') (∀m∈H,NB 400 (h' m)) (H.length<=ks.length+z.sh.length) (uf a.1/\uf a.2) (uf b.1/\uf b.2):=by
 refine Wp.fr (λi Z=>X5 λ(o':LO)(H:List Str)(h':Str->Num)(a:Sl×Sl)(b:Sl×Sl)=>N6 (Z=Jz o' zs H h' (.fr (fT z)) (.fr (.int p)) a.1 a.2 b.1 b.2) (Wl (n+i) o') (∀m∈H,NB 400 (h' m)) (H.length<=ks.length+i) (z.n∈H/\NB 232 (h' z.n)/\uf a.1/\uf a.2) (uf b.1/\uf b.2)) (c8 (af rfl rfl (aM (.inr rfl) rfl)) rfl) ⟨o,ks,h,(x5,x6),(x7,x8),rfl,w.mono T1,hd,by lia,⟨hi,B,h5,E⟩,⟨C,I⟩⟩ ?_ ?_
 .rintro i a Z d ⟨V,Y,q,⟨S,R⟩,⟨N,U⟩,rfl,l,s,r,⟨x,k,h5,E⟩,⟨C,I⟩⟩;rw[SQ] at d;cases F:z.sh[i]? with
  |none=>rw[F] at d;cases d
  |some f=>
   rw[F] at d;cases d;have hf:=SS F;have g:=(SF.mp F).1;obtain⟨u,j,J,T,b2,A⟩:=tk (2*p+1) l;have ns:=pZ (t:=u-p) XV c (by exact PJ);obtain⟨y,X,G⟩:=IY v k W1 ⟨f,hf,rfl⟩;have ne:=v.ne f hf;have K:Jk q f.n (iT (gB (u-p) p) y) z.n=q z.n:=zcv λe=>ne e.symm;refine⟨Jz V zs Y q (.fr (fT z)) (.fr (.int p)) S (.fr (.str f.n)) (.fr (nm f.a)) (.fr (.str f.w)),by rcases E with rfl|⟨_,rfl⟩<;>rcases C with rfl|⟨_,rfl⟩<;>rcases I with rfl|⟨_,rfl⟩<;>rfl,?_⟩;refine Wp.st (aL (ag (ae (af (ag (ae rfl (ae (kB (af (af rfl rfl (DB W1 XV _)) rfl (DY _ _ _)) rfl) rfl)) (J _)) rfl (MA _ _ _)) (ae rfl rfl)) (pV _)) rfl rfl h5.np rfl) ?_;exact Wp.en (CT (ag (ae rfl (ae (ag (ae rfl (ae rfl (ae (af rfl (af rfl rfl (aM (.inr rfl) rfl)) (vj x rfl rfl)) rfl))) (aB X _)) rfl)) (aB (fc ns G) _)) rfl rfl rfl XV rfl)
    ⟨.inl rfl,j,_,_,(_,_),(_,_),rfl,A.mono,Hy s ((ns.mq G).mono W1),by have:=lK Y f.n;lia,⟨nt.mpr (.inl x),by rw[K];exact k,aP _,aP _⟩,⟨aP _,aP _⟩⟩
 .rintro O ⟨V,Y,q,a,b,rfl,l,s,r,⟨_,_,d⟩,hb⟩;rw[SE] at l r;exact⟨rfl,V,Y,q,a,b,rfl,l,s,r,d,hb⟩
theorem CP{n:Int}(w:Wl n o)(hn:n<2^35)(hz:∀z∈zs,zM 75 z)(zl:iK zs<=7):X3 λ(ks:List Str)(h:Str->Num)(o':LO)=>N4 (bO fD o [.lst (zs.map fT)] (.lv (.dic (aZ ks λn=>nm (h n)))) o') (∀m∈ks,NB 400 (h m)) (ks.length<=7) (Wl (n+21) o'):=by
 suffices ∃s o',bO fD o [.lst (zs.map fT)] s o'/\X2 λ(ks:List Str)(h:Str->Num)=>N4 (s=.lv (.dic (aZ ks λn=>nm (h n)))) (∀m∈ks,NB 400 (h m)) (ks.length<=7) (Wl (n+21) o') by obtain⟨s,o',v,ks,h,rfl,h1,h2,h3⟩:=this;exact⟨ks,h,o',v,h1,h2,h3⟩
 refine bO.of (Wp.df (Wp.st (U:=Jz o zs [] (λ_=>(0,1)) .un .un .un .un .un .un) rfl (Wp.sq (Wp.fr (λi Z=>X5 λ(o':LO)(ks:List Str)(h:Str->Num)(a:Sl×Sl×Sl)(b:Sl×Sl×Sl)=>N6 (Z=Jz o' zs ks h a.1 a.2.1 a.2.2 b.1 b.2.1 b.2.2) (Wl (n+3*iK (zs.take i)) o') (∀m∈ks,NB 400 (h m)) (ks.length<=iK (zs.take i)) (uf a.1/\uf a.2.1/\uf a.2.2) (uf b.1/\uf b.2.1/\uf b.2.2)) (c8 rfl rfl) ⟨o,[],_,(.un,.un,.un),(.un,.un,.un),rfl,w.mono (by simp[iK]),(λm T=>nomatch T),SO _,⟨bj,bj,bj⟩,⟨bj,bj,bj⟩⟩ ?_ ?_))))
 .rintro i a Z d ⟨V,ks,h,⟨y3,e,S⟩,⟨R,N,A⟩,rfl,y,hd,E,⟨h3,h4,h5⟩,⟨H,C,I⟩⟩
  rw[SQ] at d
  cases Y:zs[i]? with
  |none=>rw[Y] at d;cases d
  |some z=>
   rw[Y] at d;cases d;have p:=hz z (SS Y);have ec:iK (zs.take (i+1))=iK (zs.take i)+(1+z.sh.length):=by rw[take_snoc Y,sy]
   have cl:iK (zs.take (i+1))<=7:=by
    have:∀(l r:List Sz),iK l<=iK (l++r):=λl r=>by
     induction l with
     |nil=>exact Tu _
     |cons u l ih=>show 1+u.sh.length+iK l<=1+u.sh.length+iK (l++r);lia
    have:=this (zs.take (i+1)) (zs.drop (i+1));rw[Ue] at this;exact Tn ‹_› ‹_›
   obtain⟨r,o2,J,a2,b2,k⟩:=tk 6 y;obtain⟨u,o3,c,a3,b3,L⟩:=tk (1+r+1) k;have ns:=pZ (t:=u) (q:=1+r) XV XV XV;have nd:=p.hi.dN p.lo;have X:NB 232 (eC z.lo (iT (gB u (1+r)) (cS z.hi z.lo))):=(p.lo.yE (ns.mq nd)).mono W1;refine⟨Jz V zs ks h (.fr (fT z)) e S R N A,by rcases h3 with rfl|⟨_,rfl⟩<;>rfl,?_⟩;refine Wp.st (aL (af rfl (ag rfl (J _)) (DY _ _ _)) rfl rfl h4.np rfl) ?_;refine Wp.st (aL (ag (ae (ag (ae rfl (ae (kB (af rfl rfl (DY _ _ _)) rfl) rfl)) (c _)) (ae rfl rfl)) (pV _)) rfl rfl h5.np rfl) ?_;refine Wp.st (CT (ag (ae (af rfl rfl (aM (.inr rfl) rfl)) (ae (ag (ae rfl (ae (ag (ae (af rfl rfl (aM (.inr rfl) rfl)) (ae (af rfl rfl (aM (.inr rfl) rfl)) rfl)) (aB (cQ p.hi p.lo) _)) rfl)) (aB (fc ns nd) _)) rfl)) (aB (f6 p.lo (ns.mq nd)) _)) rfl (af rfl rfl (aM (.inr rfl) rfl)) rfl XV rfl) ?_;refine(Oc L XV p XV (Hy hd (X.mono W1)) (nt.mpr (.inr rfl)) (by rw[AV];exact X) (by have:=lK ks z.n;lia) XV XV (aP _) H C I).mono ?_;rintro f Z ⟨rfl,j,K,P,⟨Q,F⟩,⟨G,B⟩,rfl,g,x,D,⟨h5,H⟩,⟨C,I⟩⟩;exact⟨.inl rfl,j,K,P,(_,_,Q),(F,G,B),rfl,g.mono,x,by have:=lK ks z.n;lia,⟨aP _,aP _,h5⟩,⟨H,C,I⟩⟩
 .rintro O ⟨V,ks,h,a,b,rfl,y,hd,E,d,hb⟩
  rw[SE,TC] at y E
  exact⟨rfl,Wp.en (aN rfl rfl) ⟨_,_,_,rfl,rfl,ks,h,rfl,hd,by exact Tn ‹_› ‹_›,y.mono⟩⟩
noncomputable abbrev F8:List Num:=[(0,1),(0,1),(1,1),(-1,1),(2,1),(-2,1),(1,3),(-5,7)]
theorem QK:∀q∈F8,NB 5 q:=by
 have:∀q∈F8,(decide (0<q.2)&&decide (TZ q.1 q.2=1)&&decide (q.1.natAbs<2^5)&&decide (q.2.natAbs<2^5))=true:=by decide +kernel
 intro q n;have:=this q n;simp only[SA,decide_eq_true_eq] at this;exact⟨⟨this.1.1.1,this.1.1.2⟩,this.1.2,this.2⟩
theorem RU{r:Int}(B:0<=r)(h1:r<8):∃q∈F8,gz (F8.map nm) r=some (nm q):=by
 obtain⟨j,rfl⟩:∃j:Nat,r=j:=⟨r.toNat,by lia⟩
 have U:j<F8.length:=by show j<8;lia
 exact⟨F8[j],TR U,eY (by rw[SQ,SG U];rfl)⟩
theorem l0(ss:List Str):gv (ss.map A.str)=some ss:=by
 induction ss with
 |nil=>rfl
 |cons s ss m=>rw[S4,gv,m]
theorem yD{n:Int}(w:Wl n o)(hn:n<2^36)(hl:ss.length<=7):X2 λ(M:List Mk)(o':LO)=>N4 (bO cL o [.lst (ss.map A.str)] (.fr (.tup (M.map xa))) o') (∀p∈M,NB 5 p.2/\p.1∈ss) (M.length<=7) (Wl (n+7) o'):=by
 suffices ∃s o',bO cL o [.lst (ss.map A.str)] s o'/\∃M:List Mk,N4 (s=.fr (.tup (M.map xa))) (∀p∈M,NB 5 p.2/\p.1∈ss) (M.length<=7) (Wl (n+7) o') by obtain⟨s,o',v,M,rfl,h1,h2,h3⟩:=this;exact⟨M,o',v,h1,h2,h3⟩
 have sl:=(eM ss).length_eq
 have D:zL bW cn (.lst (ss.map A.str))=some (.nw (.lst ((iW ss).map A.str))):=by
  delta zL bW
  dsimp only
  rw[l0]
  dsimp only
  rw[zcu (by exact Ld)]
 refine bO.of (Wp.df (Wp.st rfl (Wp.sq (Wp.fr (λi Z=>X5 λ(o':LO)(M:List Mk)(x3:Sl)(x4:Sl)(_:Unit)=>N6 (Z=[.pv o',.fr (.lst (ss.map A.str)),.lv (.lst (M.map xa)),x3,x4]) (Wl (n+i) o') (∀p∈M,NB 5 p.2/\p.1∈ss) (M.length<=i) (uf x3) (uf x4)) (c8 (d6 rfl (iF rfl D)) rfl) ⟨o,[],.un,.un,(),rfl,w.mono T1,(λp hp=>nomatch hp),SO _,bj,bj⟩ ?_ ?_))))
 .rintro i a Z d ⟨V,M,x3,x4,_,rfl,y,f,F,h3,h4⟩
  rw[SQ] at d
  cases es:(iW ss)[i]? with
  |none=>rw[es] at d;cases d
  |some s=>
   rw[es] at d;cases d;have g:=(SF.mp es).1;have hs:=(eM ss).mem_iff.mp (SS es);obtain⟨r,E,Y,T,b2,k⟩:=tk 8 y;obtain⟨q,L,eq⟩:=RU T b2;refine⟨[.pv V,.fr (.lst (ss.map A.str)),.lv (.lst (M.map xa)),.fr (.str s),x4],by rcases h3 with rfl|⟨_,rfl⟩<;>rfl,?_⟩;refine Wp.st (aL (af (dr rfl rfl) (ag rfl (Y _)) (aM (.inl rfl) eq)) rfl rfl h4.np rfl) ?_;have P:∀b,(!decide (q.1=0))=b->aq (ay fM (mix (ab 4) (ax 0)) (ax 0)) [.pv E,.fr (.lst (ss.map A.str)),.lv (.lst (M.map xa)),.fr (.str s),.fr (nm q)]=some (.ok b,[.pv E,.fr (.lst (ss.map A.str)),.lv (.lst (M.map xa)),.fr (.str s),.fr (nm q)]):=by rintro b rfl;exact aQ (af (af rfl rfl (aM (.inr rfl) rfl)) rfl (l6 rfl _))
   by_cases c:q.1=0
   .exact Wp.en (dO (P false (by rw[zcx c];rfl)) rfl) ⟨.inl rfl,E,M,_,_,(),rfl,k.mono,f,by exact UN ‹_›,aP _,aP _⟩
   .refine Wp.en (U:=[.pv E,.fr (.lst (ss.map A.str)),.lv (.lst ((M++[(s,q)]).map xa)),.fr (.str s),.fr (nm q)]) (js (P true (by rw[zcw c];rfl)) (mM rfl (cH rfl rfl) rfl rfl (by rw[SE];lia) ?_)) ⟨.inl rfl,E,M++[(s,q)],_,_,(),rfl,k.mono,λp hp=>?_,by rw[S3,UK];lia,aP _,aP _⟩
    .rw[S9];rfl
    .rcases SY.mp hp with z|z
     .exact f p z
     .rw[SU.mp z];exact⟨QK q L,hs⟩
 .rintro O ⟨V,M,x3,x4,_,rfl,y,f,F,h3,h4⟩
  rw[SE,sl] at y F
  exact⟨rfl,Wp.en (aN (d6 rfl (iF rfl rfl)) rfl) ⟨_,_,_,rfl,rfl,M,rfl,f,by exact Tn ‹_› ‹_›,y.mono⟩⟩
theorem M5{F:Str->A->Option Rr}{mo m:Mi Rr}{z:Str}{y:Rr}{a:A}(h:mo Z=some (.ok (.fr (.str z)),X'))(k:m X'=some (.ok y,U))(e:res U y=some a)(f:F z a=some r):MS F mo m Z=some (.ok r,U):=by refine bk h (bk k ?_);rw[e];dsimp only;rw[f]
theorem Hk{m:Mi Rr}{F q:Mi (Option Int)}{x:Rr}{lo hi:Option Int}{z:Str}(h:m Z=some (.ok x,Z))(l:F Z=some (.ok lo,Z))(u:q Z=some (.ok hi,Z))(e:res Z x=some (.str z))(hz:z.length<=100000):JC m F q Z=some (.ok (.fr (.str (Vo z lo hi))),Z):=by have k:Qk (.str z) lo hi=some (.fr (.str (Vo z lo hi))):=zcu hz;refine bk h (bk l (bk u ?_));rw[e];dsimp only;rw[k]
theorem pN{m:Mi Rr}{i:Int}(h:m Z=some (.ok (.fr (.int i)),Z)):iE m Z=some (.ok (some i),Z):=by
 delta iE aT
 rw[h]
 rfl
theorem zg(ss:List Str):(Uz ⟨#[]⟩ ss).cps.toList=ss.flatMap (λs=>s.cps.toList):=by
 cases ss with
 |nil=>rfl
 |cons a r=>
  have:∀(acc:Array Nat),(r.foldl (λacc p=>acc++#[]++p.cps) acc).toList=acc.toList++r.flatMap (λs=>s.cps.toList):=by
   induction r with
   |nil=>intro acc;simp
   |cons p r m=>intro acc;rw[WS,m];simp
  exact this _
theorem GW(x y:Str):(x++y).length=x.length+y.length:=by show (x.cps++y.cps).size=x.cps.size+y.cps.size;simp
theorem Fz(x:Str):x.length=x.cps.toList.length:=by rw[Ti];rfl
theorem Oj{n:Int}(w:Wl n o)(hn:n<2^38):X3 λ(a b:Int)(o':LO)=>N4 (bO iJ o [] (.fr (.tup [.int a,.int b])) o') (1<=a/\a<=6) (0<=b/\b<=16) (Wl (n+3) o'):=by
 obtain⟨r,V,T,d,b1,l⟩:=tk 8 w;obtain⟨p,E,Y,U,b2,A⟩:=tk 4 l
 suffices ∃s o',bO iJ o [] s o'/\X2 λ(a b:Int)=>N4 (s=.fr (.tup [.int a,.int b])) (1<=a/\a<=6) (0<=b/\b<=16) (Wl (n+3) o') by obtain⟨s,o',v,x,y,rfl,h1,h2,h3⟩:=this;exact⟨x,y,o',v,h1,h2,h3⟩
 have P:∀b,decide (r=1)=b->∀Z,aq (ay fI (aI ah (aE (ab 0) (ax 8))) (ax 1)) (.pv o::Z)=some (.ok b,.pv V::Z):=λb hb Z=>aQ (af (ag rfl (T _)) rfl (qQ hb _));refine bO.of (Wp.df ?_);by_cases h:r=1
 .obtain⟨q,B,H,g,L,X⟩:=tk 8 A;exact Wp.sr (js (P true (zcx h) _) (aN (cH (ae (af rfl (ag rfl (Y _)) (DY _ _ _)) (ae (af rfl (ag rfl (H _)) (DY _ _ _)) rfl)) rfl) rfl)) ⟨_,_,_,rfl,rfl,_,_,rfl,by lia,by lia,X.mono⟩
 .obtain⟨q,B,H,g,L,X⟩:=tk 9 A;exact Wp.st (dO (P false (zcw h) _) rfl) (Wp.en (aN (cH (ae (af rfl (ag rfl (Y _)) (DY _ _ _)) (ae (ag rfl (H _)) rfl)) rfl) rfl) ⟨_,_,_,rfl,rfl,_,_,rfl,by lia,by lia,X.mono⟩)
noncomputable abbrev tH:Str:= "abcdefghijklmnopqrstuvwxyz"
theorem Hu:tH.cps.toList.length=26:=by decide +kernel
theorem DV:(tH.length<=100000)=True:=by rw[eq_iff_iff,iff_true];decide +kernel
theorem Jb{r:Int}(B:0<=r)(h1:r<26):∃c,gz tH.cps.toList r=some c:=by
 obtain⟨j,rfl⟩:∃j:Nat,r=j:=⟨r.toNat,by lia⟩
 have U:j<tH.cps.toList.length:=by rw[Hu];lia
 exact⟨_,eY (SG U)⟩
theorem Fw{n:Int}(m:Int)(w:Wl n o)(hn:n<2^38):X2 λ(B:Str)(o':LO)=>N3 (aD 3 (MS jI (mC (.str "")) (c9 1 (eR (ax 8)) (aF 7) cB (mix (ab 2) (aI ah (aE (ab 0) (ax 26)))))) [.pv o,.fr (.int m),.fr (.str tH),.un,.un,.un,.un]=some (.nx,[.pv o',.fr (.int m),.fr (.str tH),.fr (.str B),.un,.un,.un])) (B.length=8) (Wl (n+8) o'):=by
 obtain⟨ys,O,hc,cs,p,D,l,N,h⟩:=eF (G:=aF 7) (t:=cB) (e:=mix (ab 2) (aI ah (aE (ab 0) (ax 26)))) (as:=dZ 0 8)
  (λi acc Z=>X2 λ(cs:List Nat)(p:LO)=>N4 (acc=(cs.map λc=>(⟨#[c]⟩:Str)).map A.str) (cs.length=i) (∃x,Z=[.pv p,.fr (.int m),.fr (.str tH),.un,.un,.un,.un,x]/\∀q,x≠Sl.pv q) (Wl (n+i) p))
  ⟨[],o,rfl,rfl,⟨.un,rfl,λq z=>by cases z⟩,w.mono T1⟩ (by
   rintro i a acc Z d ⟨cs,p,rfl,Y,⟨x,rfl,hx⟩,h⟩;have hi:i<8:=by have:=(SF.mp d).1;simpa[dZ] using this
   obtain⟨E,S,H,g,L,X⟩:=tk 26 h;obtain⟨ch,y⟩:=Jb g L;refine⟨[.pv p,.fr (.int m),.fr (.str tH),.un,.un,.un,.un,.fr a],?_,.inl ⟨_,.fr (.str ⟨#[ch]⟩),[.pv S,.fr (.int m),.fr (.str tH),.un,.un,.un,.un,.fr a],.str ⟨#[ch]⟩,_,rfl,?_,rfl,cs++[ch],S,?_,?_,⟨.fr a,rfl,λq z=>by cases z⟩,X.mono⟩⟩
   .cases x with
    |pv q=>exact absurd rfl (hx q)
    |_=>rfl
   .exact af rfl (ag rfl (H _)) (vk rfl (of_eq_true DV) y)
   .rw[S9,S9];rfl
   .rw[S3,Y];rfl)
 obtain⟨x,N,_⟩:=N;subst D N;have v:(dZ 0 8).length=8:=by simp[dZ]
 rw[v] at l h;have fl:(cs.map λc=>(⟨#[c]⟩:Str)).flatMap (λs=>s.cps.toList)=cs:=by
  rw[List.flatMap_map];induction cs with
  |nil=>rfl
  |cons c cs b=>rw[YJ];simp
 have gl:=zg (cs.map λc=>(⟨#[c]⟩:Str));rw[fl] at gl;refine⟨Uz ⟨#[]⟩ (cs.map λc=>(⟨#[c]⟩:Str)),p,?_,by rw[Fz,gl];exact l,h.mono T1⟩;have r:iG (cs.map λc=>(⟨#[c]⟩:Str))=8:=by
  delta iG
  rw[TM]
  have:(Str.length∘λc=>(⟨#[c]⟩:Str))=λ_=>1:=rfl
  rw[this,List.map_const',List.sum_replicate_nat,l]
 have k:jI "" (.lst ((cs.map λc=>(⟨#[c]⟩:Str)).map A.str))=some (.fr (.str (Uz ⟨#[]⟩ (cs.map λc=>(⟨#[c]⟩:Str))))):=by
  show jI ⟨#[]⟩ _=_
  delta jI
  simp only[l0];rw[zcu (by rw[r];show 8+_*0<=100000;lia)]
 exact aL (M5 rfl (fh (gT rfl rfl) (nC (by rw[dA];decide) hc)) rfl k) rfl rfl rfl rfl
theorem OI:tH.cps.toList.Nodup:=by decide +kernel
theorem Dd(r:Int)(k:Nat):∃c,gz tH.cps.toList ((r+3*(k:Int)).fmod 26)=some c/\tH.cps.toList[((r+3*(k:Int))%26).toNat]?=some c:=by
 have em:(r+3*(k:Int)).fmod 26=(r+3*(k:Int))%26:=Xh _ W1;rw[em];obtain⟨j,U⟩:∃j:Nat,(r+3*(k:Int))%26=j:=⟨((r+3*(k:Int))%26).toNat,by lia⟩
 rw[U,Ut];have h:j<tH.cps.toList.length:=by rw[Hu];lia
 exact⟨_,eY (SG h),SG h⟩
theorem E3{n:Int}(w:Wl n o)(hn:n<2^37):X2 λ(ss:List Str)(o':LO)=>N4 (bO gc o [.int 6] (.lv (.lst (ss.map A.str))) o') (ss.length=6) ss.Nodup (Wl (n+11) o'):=by
 obtain⟨B,V,m,E,l⟩:=Fw 6 w (by exact ME);obtain⟨P,G,r,J,L,q⟩:=tk 8 l;obtain⟨O,N,u,H,t,c⟩:=tk (1+P) q;obtain⟨h,p,S,T,d,K⟩:=tk 26 c;have z:B.length<=100000:=by lia
 let ch:Nat->Nat:=λk=>Classical.choose (Dd h k)
 have Z:∀k,gz tH.cps.toList ((h+3*((k:Nat):Int)).fmod 26)=some (ch k)/\tH.cps.toList[((h+3*((k:Nat):Int))%26).toNat]?=some (ch k):=λk=>Classical.choose_spec (Dd h k)
 let f:Nat->Str:=λk=>Vo B none (some O)++⟨#[ch k]⟩++Vo B (some (O+1)) (some (1+P))
 have k:=j5 (i:=7) (ts:=Tc 6) (e:=ay aW (ay aW (JC (ab 3) kT (iE (ab 5))) (mix (ab 2) (ay iX (ay aW (ab 6) (ay bR (ax 3) (ab 7))) (ax 26)))) (JC (ab 3) (iE (ay aW (ab 5) (ax 1))) (iE (ab 4)))) (X':=[.pv p,.fr (.int 6),.fr (.str tH),.fr (.str B),.fr (.int (1+P)),.fr (.int O),.fr (.int h)]) (λk=>.int (0+(k:Nat))) (λk=>.str (f k)) rfl T1 (by
  intro k hk;have hk:=Ts.mp hk;have I:gz tH.cps.toList ((h+3*(0+(k:Int))).fmod 26)=some (ch k):=by rw[Int.zero_add];exact(Z k).1
  have q1:=XR B none (some O);have q2:=XR B (some (O+1)) (some (1+P));have e:(⟨#[ch k]⟩:Str).length=1:=rfl;refine⟨.fr (.str (f k)),?_,rfl⟩;exact af (af (Hk rfl rfl (pN rfl) rfl z) (af rfl (af (af rfl (af rfl rfl (DB W1 XV _)) (DY _ _ _)) rfl (iR W1 _)) (vk rfl (of_eq_true DV) I)) (Al XV _)) (Hk rfl (pN rfl) (pN rfl) rfl z) (Al (by rw[GW];lia) _))
 have nd:((Tc 6).map f).Nodup:=by
  refine U5.mpr (VA (R:=λx y=>x≠y) ?_ Vv);intro i j hi U ne e;have hi:=Ts.mp hi;have U:=Ts.mp U;have D:(f i).cps.toList=(f j).cps.toList:=by rw[e]
  have F:∀k,(f k).cps.toList=(Vo B none (some O)).cps.toList++(ch k::(Vo B (some (O+1)) (some (1+P))).cps.toList):=λk=>by show (((Vo B none (some O)).cps++#[ch k])++(Vo B (some (O+1)) (some (1+P))).cps).toList=_;simp
  rw[F,F,List.append_cancel_left_eq] at D;have X:ch i=ch j:=(Yx D).1;have g:=(Z i).2;have a:=(Z j).2;rw[X] at g;obtain⟨li,Q⟩:=SF.mp g;obtain⟨lj,C⟩:=SF.mp a;have ii:((h+3*(i:Int))%26).toNat=((h+3*(j:Int))%26).toNat:=(V2 OI).mp (Q.trans C.symm);have m0:=Zd (h+3*(i:Int)) (b:=26) W1;have m2:=Zd (h+3*(j:Int)) (b:=26) W1;lia
 suffices ∃s o',bO gc o [.int 6] s o'/\∃ss:List Str,N4 (s=.lv (.lst (ss.map A.str))) (ss.length=6) ss.Nodup (Wl (n+11) o') by obtain⟨s,o',v,ss,rfl,h1,h2,h3⟩:=this;exact⟨ss,o',v,h1,h2,h3⟩
 have Y:(Tc 6).map (λk=>A.str (f k))=((Tc 6).map f).map A.str:=by rw[TM];rfl
 rw[Y] at k;exact bO.of (Wp.df (Wp.st rfl (Wp.st m (Wp.st (aL (af rfl (ag rfl (r _)) (DY _ _ _)) rfl rfl rfl rfl) (Wp.st (aL (ag rfl (u _)) rfl rfl rfl rfl) (Wp.st (aL (ag rfl (S _)) rfl rfl rfl rfl) (Wp.en (aN (fh (gT rfl rfl) k) rfl) ⟨_,_,_,rfl,rfl,_,rfl,by simp,nd,K.mono⟩)))))))
theorem six{n:Nat}(B:0<=k)(h1:k<n):zbj k n=some k.toNat:=ZE B h1
theorem xn{α β:Type}(f:α->β):∀(l:List α)(i:Nat),(l.map f).eraseIdx i=(l.eraseIdx i).map f
 |[],_=>rfl
 |a::l,0=>rfl
 |a::l,i+1=>zcy (f a::·) (xn f l i)
theorem tF{α:Type}:∀(l:List α)(i:Nat)(h:i<l.length),(l[i]::l.eraseIdx i).Perm l
 |a::l,0,_=>.refl _
 |a::l,i+1,h=>(WE a _ _).trans ((tF l i (XW h)).cons a)
noncomputable def MD(ss:List Str):List Nd:=ss.flatMap λs=>[("x",s),("y",s)]
theorem zW(ss:List Str):(MD ss).length=2*ss.length:=by
 delta MD
 induction ss with
 |nil=>rfl
 |cons s ss m=>rw[YJ,S3,m];show 2+2*ss.length=2*(ss.length+1);lia
theorem PB(h:ss.Nodup):(MD ss).Nodup:=by
 delta MD
 induction ss with
 |nil=>exact U7
 |cons s ss v=>
  rw[Tz] at h;have m:∀p:Nd,p∈ss.flatMap (λs=>([("x",s),("y",s)]:List Nd))->p.2≠s:=λp hp e=>by
   obtain⟨t,ht,hp⟩:=List.mem_flatMap.mp hp;have:p.2=t:=by
    rcases SR.mp hp with rfl|hp
    .rfl
    .rw[SU.mp hp]
   exact h.1 (e▸this▸ht)
  refine Td.mpr ⟨?_,v h.2,λp hp q n e=>?_⟩
  .exact Tz.mpr ⟨λz=>absurd (show ("x" : Str) = "y" from zcy Prod.fst (SU.mp z)) W1,Tz.mpr ⟨(λz=>nomatch z),U7⟩⟩
  .refine m q n ?_;rw[<-e];rcases SR.mp hp with rfl|hp
   .rfl
   .rw[SU.mp hp]
theorem Fy{n:Int}{a:Int}(w:Wl n o)(hn:n<2^36)(h1:1<=a)(f:a<=6):X2 λ(ns:List Nd)(o':LO)=>N4 (bO gk o [.int a] (.lv (.lst (ns.map a9))) o') ((ns.length:Int)=a) ns.Nodup (Wl (n+20) o'):=by
 obtain⟨ss,V,N,F,b,y⟩:=E3 w (by exact ME)
 suffices ∃s o',bO gk o [.int a] s o'/\∃ns:List Nd,N4 (s=.lv (.lst (ns.map a9))) ((ns.length:Int)=a) ns.Nodup (Wl (n+20) o') by obtain⟨s,o',v,ss,rfl,h1,h2,h3⟩:=this;exact⟨ss,o',v,h1,h2,h3⟩
 refine bO.of (Wp.df (Wp.st rfl (Wp.sq (Wp.fr (as:=ss.map A.str) (λi Z=>X2 λ(L:List Nd)(x3:Sl)=>N3 (Z=[.pv V,.fr (.int a),.lv (.lst (L.map a9)),x3]) (L=MD (ss.take i)) (np x3=true)) (c8 (ag rfl (xR N rfl _)) rfl) ⟨[],.un,rfl,rfl,rfl⟩ ?_ ?_))))
 .rintro i z Z hz ⟨L,x3,rfl,hl,h3⟩;have P:=(SF.mp hz).1;rw[SQ] at hz;cases Y:ss[i]? with
  |none=>rw[Y] at hz;cases hz
  |some s=>rw[Y] at hz;cases hz;refine⟨[.pv V,.fr (.int a),.lv (.lst (L.map a9)),.fr (.str s)],by cases x3<;>first|exact kU h3|rfl,?_⟩;refine Wp.en (U:=[.pv V,.fr (.int a),.lv (.lst ((L++([("x",s),("y",s)]:List Nd)).map a9)),.fr (.str s)]) (qM (r:=.fr .non) (JR rfl rfl ?_)) ⟨.inl rfl,_,_,rfl,by rw[hl,take_snoc Y];delta MD;rw[List.flatMap_append];rfl,rfl⟩;rw[S9];exact zcu (by rw[SE,hl,zW,UH];show 2*min i ss.length+2<=_;lia)
 .rintro O ⟨L,x3,rfl,hl,h3⟩;rw[SE,TC] at hl;have k:L.Nodup:=by rw[hl];exact PB b
  have hl:L.length=12:=by rw[hl,zW,F]
  refine⟨rfl,?_⟩;obtain⟨m,rfl⟩:∃m:Nat,a=m:=⟨a.toNat,by lia⟩
  obtain⟨ys,O,hc,ns,M,p,D,l,R,u,h,c⟩:=eF (G:=aF 4) (t:=cB) (e:=jM 2 (aI ah (aE (ab 0) (dw eX (ab 2))))) (as:=dZ 0 m) (Z:=[.pv V,.fr (.int m),.lv (.lst (L.map a9)),x3,.un])
   (λi acc Z=>X3 λ(ns M:List Nd)(p:LO)=>N6 (acc=ns.map a9) (ns.length=i) (M.length+i=12) (∃x,Z=[.pv p,.fr (.int m),.lv (.lst (M.map a9)),x3,x]/\∀q,x≠Sl.pv q) (Wl (n+11+i) p) (ns++M).Nodup)
   ⟨[],L,V,rfl,rfl,hl,⟨.un,rfl,λq z=>by cases z⟩,y.mono T1,k⟩ (by
    rintro i z acc Z d ⟨ns,M,p,rfl,Y,em,⟨x,rfl,hx⟩,h,S⟩;have hi:i<m:=by have:=(SF.mp d).1;simpa[dZ] using this
    obtain⟨E,B,H,g,I,X⟩:=tk (M.length:Int) h;have C:E.toNat<M.length:=by lia
    have K:eX (.lst (M.map a9))=some (.fr (.int (M.length:Int))):=by show some (Rr.fr (.int ((M.map a9).length:Int)))=_;rw[SE]
    refine⟨[.pv p,.fr (.int m),.lv (.lst (M.map a9)),x3,.fr z],?_,.inl ⟨_,.fr (a9 M[E.toNat]),[.pv B,.fr (.int m),.lv (.lst ((M.eraseIdx E.toNat).map a9)),x3,.fr z],a9 M[E.toNat],_,rfl,?_,rfl,ns++[M[E.toNat]],M.eraseIdx E.toNat,B,?_,?_,?_,⟨.fr z,rfl,λq z=>by cases z⟩,X.mono,?_⟩⟩
    .cases x with
     |pv q=>exact absurd rfl (hx q)
     |_=>rfl
    .have Q:aI ah (aE (ab 0) (dw eX (ab 2))) [.pv p,.fr (.int m),.lv (.lst (M.map a9)),x3,.fr z]=some (.ok (.fr (.int E)),[.pv B,.fr (.int m),.lv (.lst (M.map a9)),x3,.fr z]):=ag (ae rfl (ae (d6 rfl (iF rfl K)) rfl)) (H _)
     delta jM fK
     refine bk Q ?_;show (if -(2^60)<=E/\E<2^60 then (match zbj E (M.map a9).length with|some j=>(match (M.map a9)[j]? with|some a=>some ((V0 (Rr.fr a):Except Str Rr),[Sl.pv B,.fr (.int m),.lv (.lst ((M.map a9).eraseIdx j)),x3,.fr z])|none=>none)|none=>none) else none)=_;rw[zcu XV,SE,six g I];dsimp only;rw[SQ,SG C,xn];rfl
    .rw[S9];rfl
    .rw[S3,Y];rfl
    .rw[VL C];lia
    .rw[SW];exact(W8 ns (tF M _ C)).nodup_iff.mpr S)
  obtain⟨x,u,_⟩:=u;subst D u;rw[dA] at l h;exact Wp.en (U:=[.pv p,.fr (.int m),.lv (.lst (M.map a9)),x3]) (aN (fh (gT rfl (qv m XV _)) (nC (Z:=[.pv V,.fr (.int m),.lv (.lst (L.map a9)),x3]) (by rw[dA];lia) hc)) rfl) ⟨_,_,_,rfl,rfl,ns,rfl,by lia,(Td.mp c).1,h.mono⟩
theorem Cj(H:Nd->Num):∀ns:List Nd,∃mm:Rat,∀u∈ns,mm<=nv (H u)
 |[]=>⟨0,λu h=>nomatch h⟩
 |p::ns=>by
  obtain⟨mm,h⟩:=Cj H ns;by_cases c:mm<=nv (H p)
  .refine⟨mm,λu f=>?_⟩;rcases SR.mp f with rfl|z
   .exact c
   .exact h u z
  .refine⟨nv (H p),λu f=>?_⟩;rcases SR.mp f with rfl|z
   .grind
   .have:=h u z
    grind
theorem LG(L:List Nd):uH (L.map kk)=true:=by
 delta uH
 have:((L.map kk).all λk=>!k.isEmpty&&k.all λe=>!zV e)=true:=by rw[Tq];intro k hk;obtain⟨p,_,rfl⟩:=Tj.mp hk;rfl
 rw[this,Bool.or_true]
theorem GZ(L:List Nd):∃N:List Nd,kg (L.map kk)=N.map a9/\N.length=L.length/\∀p,p∈N->p∈L:=by
 have pm:=i6 (L.map kk);obtain⟨N,e⟩:=BM (sK (L.map kk)) L λk hk=>pm.mem_iff.mp hk;refine⟨N,?_,?_,λp hp=>?_⟩
 .rw[lL,e,TM];rfl
 .have:=pm.length_eq;rwa[e,SE,SE] at this
 .rwa[<-p8,<-pm.mem_iff,e,p8]
theorem Hh{L:List Nd}{r:Int}(B:0<=r)(h1:r<L.length):∃p∈L,gz (L.map a9) r=some (a9 p):=by
 obtain⟨j,rfl⟩:∃j:Nat,r=j:=⟨r.toNat,by lia⟩
 have U:j<L.length:=by lia
 exact⟨L[j],TR U,eY (by rw[SQ,SG U];rfl)⟩
theorem QB(Z:List Sl):gu il (.fr (.int 10)) (.fr (.int 7)) Z=some (.ok (.fr (.int 10000000)),Z):=fu (o:=none) rfl rfl (by delta il M.nN;exact zcu W1)
theorem Q9{n:Int}(w:Wl n o)(hn:n<2^38)(Z:List Sl):X2 λ(y:Num)(o':LO)=>N3 (mix (bA (aE (a8 (aE (ax 1) (ax 1))) (a8 (aE (ay aW (ax 1) (aI ah (aE (ab 0) (ay il (ax 10) (ax 7))))) (ax 1))))) (dw yI (ay fI (aI ah (aE (ab 0) (ax 4))) (ax 1))) (.pv o::Z)=some (.ok (.fr (nm y)),.pv o'::Z)) (NB 64 y) (Wl (n+2) o'):=by
 obtain⟨r,V,P,d,b1,l⟩:=tk 10000000 w;obtain⟨p,E,Y,U,b2,A⟩:=tk 4 l;obtain⟨y,G,O⟩:∃y:Num,NB 64 y/\gz [nm (1,1),nm (1+r,1)] (if decide (p=1) then 1 else 0)=some (nm y):=by
  by_cases c:p=1
  .exact⟨(1+r,1),HH XV,by rw[zcx c];rfl⟩
  .exact⟨(1,1),HH W1,by rw[zcw c];rfl⟩
 exact⟨y,E,af (dr (ae rfl (ae (cH (ae (af rfl (ag (ae rfl (ae (af rfl rfl (QB _)) rfl)) (P _)) (DY _ _ _)) rfl) rfl) rfl)) rfl) (d6 (af (ag rfl (Y _)) rfl (uh _ _ _)) (iF rfl rfl)) (aM (.inl rfl) O),G,A.mono⟩
noncomputable abbrev oC(o:LO)(w K x3 x4 x5 x6 x7 x8 x9 T0 U' x12 h Z a:Sl):List Sl:=[.pv o,w,K,x3,x4,x5,x6,x7,x8,x9,T0,U',x12,h,Z,a]
abbrev So:Ms:=av (aD 11 (mix (ab 8) (aI ah (aE (ab 0) (aj 4))))) (av (aD 12 (mix (ab 8) (aI ah (aE (ab 0) (aj 4))))) (av (aD 13 (aI cL (aE (ab 0) (qH (dw (zL bW cn) (ab 3)))))) (av (aD 14 (aI bq (aE (aI cP (KY (ab 0))) (aj 1)))) (av (aD 14 (mix (bA (aE (a8 (aE (ax 0) (ax 1))) (a8 (aE (dw sD (mix (ab 14) (ax 0))) (mix (ab 14) (ax 1)))))) (aI ah (aE (ab 0) (ax 2))))) (av (aD 15 (aI aK (aE (aj 14) (aI cw (aE (a8 (aE (a8 (aE (ax 0) (ax 1))) (ab 13))) (aj 3)))))) (fm (fK 9 (cR 9 (a8 (kh (ab 11) (ab 12) (a8 (aE (aI aK (aE (aj 15) (aI aK (aE (ay aS (ab 6) (ab 12)) (ay aS (ab 6) (ab 11)))))) (ab 13)))))))))))))
structure Gq(N:List Nd)(ks:List Str)(h:Str->Num)(H:Nd->Num)(g:Gt):Prop where
 s:Sv 3070 400 7 ks h g.x g.M
 u:g.u∈N
 v:g.v∈N
 b:NB 209 (nQ h g.x g.M)
 k:nv (H g.u)-nv (H g.v)<=nv (nQ h g.x g.M)
variable{H:Nd->Num}
theorem Nk{u:Nd}{M:List Mk}{sl:Num}(C:u∈N)(t:v∈N)(G:NB 69 (H u))(Q:NB 69 (H v))(X:∀m∈ks,NB 400 (h m))(f:∀p∈M,NB 5 p.2/\p.1∈ks)(F:M.length<=7)(ns:NB 69 sl)(o:0<=nv sl):
  N3 (Sv 1 400 7 ks h (0,1) M) (NB 2850 (nQ h (0,1) M)) (Gq N ks h H ⟨u,v,cS (cS sl (nQ h (0,1) M)) (cS (H v) (H u)),M⟩):=by
 have s:Sv 1 400 7 ks h (0,1) M:=⟨NB.zero,λp hp=>(f p hp).1,λp hp=>(f p hp).2,X,F,by decide⟩
 obtain⟨Z,I⟩:=s.PY;have nd:=Q.dN G;have r:=ns.dN Z;have s2:Sv 3070 400 7 ks h (cS (cS sl (nQ h (0,1) M)) (cS (H v) (H u))) M:=⟨(r.dN nd).mono W1,s.nb,s.inn,X,F,by decide⟩
 obtain⟨j,l⟩:=s2.PY;have K:NB 209 (cS sl (cS (H v) (H u))):=(ns.dN nd).mono W1;have a:=Hr j.ok K.ok (by
  rw[l,eS r.ok nd.ok,eS ns.ok Z.ok,eS ns.ok nd.ok,I,hZ]
  grind)
 refine⟨s,Z,s2,C,t,by dsimp only;rw[a];exact K,?_⟩;rw[a,eS ns.ok nd.ok,eS Q.ok G.ok]
 grind
theorem Ml(g:Str->A)(h:ks.length<=60):zL bW cn (.dic (aZ ks g))=some (.nw (.lst ((iW ks).map A.str))):=by
 delta zL bW cn
 dsimp only
 rw[sN]
 dsimp only
 rw[zcu (by exact Ld)]
theorem O9{n:Int}{y:Num}{ns:List Nd}{K i q z:Sl}(w:Wl n o)(hn:n<2^35)(I:NB 64 y)(Y:ks.length<=7)(U:∀m∈ks,NB 400 (h m))(n0:0<N.length)(J:∀p∈N,p∈ns)(k:∀p∈ns,NB 69 (H p))(n6:N.length<=6)(gl:gs.length<=1000)
  (h3:x3=.lv (.dic (aZ ks λn=>nm (h n)))\/x3=.fr (dP ks h))(S:uf U')(O:uf x12)(X:uf i)(Q:uf q)(C:uf z):
  Wp So (oC o (.fr (nm y)) K x3 (.fr (.int N.length)) x5 (.lv (.dit (ai ns (bb H)))) x7 (.lv (.lst (N.map a9))) (.lv (.lst (gs.map bU))) T0 U' x12 i q z) λf Z=>f=.nx/\X5 λ(o':LO)(g:Gt)(a:Sl×Sl)(b:Sl×Sl)(c:Sl)=>N6 (Z=oC o' (.fr (nm y)) K (.fr (dP ks h)) (.fr (.int N.length)) x5 (.lv (.dit (ai ns (bb H)))) x7 (.lv (.lst (N.map a9))) (.lv (.lst ((gs++[g]).map bU))) T0 a.1 a.2 b.1 b.2 c) (Wl (n+12) o') (Gq ns ks h H g) (uf a.1/\uf a.2) (uf b.1/\uf b.2) (uf c):=by
 obtain⟨r1,o1,T,d,b1,l⟩:=tk N.length w;obtain⟨r2,R,t,B,b2,D⟩:=tk N.length l;obtain⟨u,hu,eu⟩:=Hh d b1;obtain⟨v,hv,ev⟩:=Hh B b2;obtain⟨M,o3,v3,V,ml,w3⟩:=yD D (by exact QG) (by rw[(eM ks).length_eq];exact Y);obtain⟨s,o4,v4,L,w4⟩:=wL w3 (by exact RL);obtain⟨P,G,c5,a5,b5,w5⟩:=tk 2 w4;have nx:=L.mq I;obtain⟨sl,es,r,s0⟩:∃sl:Num,N3 (gz [nm (0,1),nm (aX (iT s y))] P=some (nm sl)) (NB 69 sl) (0<=nv sl):=by
  obtain rfl|rfl:P=0\/P=1:=by lia
  .exact⟨(0,1),rfl,NB.zero,by rw[hZ];grind⟩
  .exact⟨aX (iT s y),rfl,(AL nx).mono W1,LS nx.ok⟩
 have x:=J u hu;have e:=J v hv;obtain⟨sv,j,gd⟩:=Nk x e (k u x) (k v e) U (λp hp=>⟨(V p hp).1,(eM ks).mem_iff.mp (V p hp).2⟩) ml r s0;refine Wp.st (aL (af rfl (ag (ae rfl (ae rfl rfl)) (T _)) (aM (.inl rfl) eu)) rfl rfl S.np rfl) ?_;refine Wp.st (aL (af rfl (ag (ae rfl (ae rfl rfl)) (t _)) (aM (.inl rfl) ev)) rfl rfl O.np rfl) ?_;have E:aE (ab 0) (qH (dw (zL bW cn) (ab 3))) (oC R (.fr (nm y)) K x3 (.fr (.int N.length)) x5 (.lv (.dit (ai ns (bb H)))) x7 (.lv (.lst (N.map a9))) (.lv (.lst (gs.map bU))) T0 (.fr (a9 u)) (.fr (a9 v)) i q z)=some (.ok [.rf 0,.fr (.lst ((iW ks).map A.str))],oC R (.fr (nm y)) K x3 (.fr (.int N.length)) x5 (.lv (.dit (ai ns (bb H)))) x7 (.lv (.lst (N.map a9))) (.lv (.lst (gs.map bU))) T0 (.fr (a9 u)) (.fr (a9 v)) i q z):=by rcases h3 with rfl|rfl<;>exact ae rfl (ae (kB (d6 rfl (iF rfl (Ml _ T6))) rfl) rfl)
 refine Wp.st (aL (ag E (xR v3 rfl _)) rfl rfl X.np rfl) ?_;refine Wp.st (aL (ag (ae (ag (ae rfl rfl) (xR v4 rfl _)) (ae rfl rfl)) (aB (fc L I) _)) rfl rfl Q.np rfl) ?_;refine Wp.st (aL (af (dr (ae rfl (ae (cH (ae (d6 (af rfl rfl (aM (.inr rfl) rfl)) (iF rfl rfl)) (ae (af rfl rfl (aM (.inr rfl) rfl)) rfl)) rfl) rfl)) rfl) (ag rfl (c5 _)) (aM (.inl rfl) es)) rfl rfl rfl rfl) ?_;have F:aE (a8 (aE (a8 (aE (ax 0) (ax 1))) (ab 13))) (aj 3) (oC G (.fr (nm y)) K x3 (.fr (.int N.length)) x5 (.lv (.dit (ai ns (bb H)))) x7 (.lv (.lst (N.map a9))) (.lv (.lst (gs.map bU))) T0 (.fr (a9 u)) (.fr (a9 v)) (.fr (.tup (M.map xa))) (.fr (nm sl)) z)=some (.ok [.fr (d9 (0,1) M),(.fr (dP ks h))],oC G (.fr (nm y)) K (.fr (dP ks h)) (.fr (.int N.length)) x5 (.lv (.dit (ai ns (bb H)))) x7 (.lv (.lst (N.map a9))) (.lv (.lst (gs.map bU))) T0 (.fr (a9 u)) (.fr (a9 v)) (.fr (.tup (M.map xa))) (.fr (nm sl)) z):=by rcases h3 with rfl|rfl<;>rfl
 refine Wp.st (aL (ag (ae rfl (ae (ag F (aB (vt sv) _)) rfl)) (aB (cQ r j) _)) rfl rfl C.np rfl) ?_;exact Wp.en (mM rfl (cH (ae rfl (ae rfl (ae (cH (ae (ag (ae rfl (ae (ag (ae (af rfl rfl (bC e rfl rfl)) (ae (af rfl rfl (bC x rfl rfl)) rfl)) (aB (cQ (k v e) (k u x)) _)) rfl)) (aB (cQ (r.dN j) ((k v e).dN (k u x))) _)) (ae rfl rfl)) rfl) rfl))) rfl) rfl rfl (by rw[SE];exact fL) rfl) ⟨rfl,G,⟨u,v,cS (cS sl (nQ h (0,1) M)) (cS (H v) (H u)),M⟩,(_,_),(_,_),_,by rw[S9];rfl,w5.mono,gd,⟨aP _,aP _⟩,⟨aP _,aP _⟩,aP _⟩
theorem DW{a:A}(h:i9 f [o.a,a] o')(Z:List Sl):fe f [] [.nw o,.fr a] Z=some (.ok (.nw o'),Z):=by
 obtain⟨T,h⟩:=h;have h':f [.fr o.a,.fr a]=some (.rt (.lv o'),T):=h;have F:(bf [Sl.fr o.a,Sl.fr a].length T).length=2:=bY _ _
 delta fe
 simp only[Vp,Ug,dM,take1,S4,t5,h',iI];revert F;generalize bf [Sl.fr o.a,Sl.fr a].length T=l;intro F
 match l,F with
 |[s,t],_=>rfl
theorem v_case{n:Int}(w:Wl n o)(hn:n<2^34):X5 λ(HN:List Nd)(gs:List Gt)(ks:List Str)(h:Str->Num)(H:Nd->Num)=>X2 λ(mm:Rat)(o':LO)=>N4 (bO gM o [] (.fr (.tup [.lst (gs.map bU),dP ks h,.dit (ai HN (bb H))])) o') (Ke 3070 400 7 HN gs ks h H 209 mm) HN.Nodup (∀p∈HN,NB 100 (H p)):=by
 suffices ∃s o',bO gM o [] s o'/\X5 λ(HN:List Nd)(gs:List Gt)(ks:List Str)(h:Str->Num)(H:Nd->Num)=>∃mm:Rat,N4 (s=.fr (.tup [.lst (gs.map bU),dP ks h,.dit (ai HN (bb H))])) (Ke 3070 400 7 HN gs ks h H 209 mm) HN.Nodup (∀p∈HN,NB 100 (H p)) by obtain⟨s,o',v,HN,gs,ks,h,H,mm,rfl,h1,h2,h3⟩:=this;exact⟨HN,gs,ks,h,H,mm,o',v,h1,h2,h3⟩
 obtain⟨y,o1,e1,G,w1⟩:=Q9 w (by exact ME) (Th 15 .un)
 obtain⟨r2,o2,c2,a2,b2,w2⟩:=tk 4 w1
 obtain⟨zs,o3,v3,hz,cz,w3⟩:=Ei (a:=r2) w2 (by exact QG)
 have R:=Cy hz G W1 T6
 obtain⟨ks,h,o4,v4,nh,kl,w4⟩:=CP (zs:=zs.map (kM y)) w3 (by exact RL) (λz x=>by obtain⟨z0,h0,rfl⟩:=Tj.mp x;exact Sh (hz z0 h0) G) (by rw[Dy];exact cz)
 obtain⟨a,b,d,v5,⟨a0,a6⟩,⟨b0,b6⟩,w5⟩:=Oj w4 XV
 obtain⟨ns,o6,v6,na,nd,w6⟩:=Fy w5 XV a0 a6
 have nl:ns.length<=6:=by lia
 obtain⟨N,eN,lN,mN⟩:=GZ ns
 refine bO.of (Wp.df ?_)
 refine Wp.st (U:=oC o1 (.fr (nm y)) .un .un .un .un .un .un .un .un .un .un .un .un .un .un) (aL e1 rfl rfl rfl rfl) ?_
 refine Wp.st (U:=oC o3 (.fr (nm y)) (.lv (.lst ((zs.map (kM y)).map fT))) .un .un .un .un .un .un .un .un .un .un .un .un .un) (aL (ag (ae (ag (ae rfl (ae (ag rfl (c2 _)) rfl)) (xR v3 rfl _)) (ae rfl rfl)) (DW R _)) rfl rfl rfl rfl) ?_
 refine Wp.st (U:=oC o4 (.fr (nm y)) (.fr (.lst ((zs.map (kM y)).map fT))) (.lv (.dic (aZ ks λn=>nm (h n)))) .un .un .un .un .un .un .un .un .un .un .un .un) (aL (ag (ae rfl (ae rfl rfl)) (xR v4 rfl _)) rfl rfl rfl rfl) ?_
 refine Wp.st (U:=oC d (.fr (nm y)) (.fr (.lst ((zs.map (kM y)).map fT))) (.lv (.dic (aZ ks λn=>nm (h n)))) (.fr (.int a)) (.fr (.int b)) .un .un .un .un .un .un .un .un .un .un) (u4 (ag (ae rfl rfl) (xR v5 rfl _)) rfl) ?_
 refine Wp.st (U:=oC d (.fr (nm y)) (.fr (.lst ((zs.map (kM y)).map fT))) (.lv (.dic (aZ ks λn=>nm (h n)))) (.fr (.int a)) (.fr (.int b)) (.lv (.dit (ai [] (bb λ_=>(0,1))))) .un .un .un .un .un .un .un .un .un) rfl ?_
 refine Wp.sq (Wp.fr (as:=ns.map a9) (λi Z=>X3 λ(o':LO)(H:Nd->Num)(x7:Sl)=>N4 (Z=oC o' (.fr (nm y)) (.fr (.lst ((zs.map (kM y)).map fT))) (.lv (.dic (aZ ks λn=>nm (h n)))) (.fr (.int a)) (.fr (.int b)) (.lv (.dit (ai (ns.take i) (bb H)))) x7 .un .un .un .un .un .un .un .un) (Wl (n+200+2*i) o') (∀p∈ns.take i,NB 69 (H p)) (uf x7)) (c8 (ag (ae rfl (ae rfl rfl)) (xR v6 rfl _)) rfl) ⟨o6,_,.un,rfl,w6.mono,(λp hp=>nomatch hp),bj⟩ ?_ ?_)
 .rintro i z Z x ⟨j,H,x7,rfl,V,I,D⟩
  rw[SQ] at x
  cases Y:ns[i]? with
  |none=>rw[Y] at x;cases x
  |some p=>
   rw[Y] at x;cases x;have li:=(SF.mp Y).1;obtain⟨s,t,v7,s5,B⟩:=wL V XV;refine⟨oC j (.fr (nm y)) (.fr (.lst ((zs.map (kM y)).map fT))) (.lv (.dic (aZ ks λn=>nm (h n)))) (.fr (.int a)) (.fr (.int b)) (.lv (.dit (ai (ns.take i) (bb H)))) (.fr (a9 p)) .un .un .un .un .un .un .un .un,by rcases D with rfl|⟨_,rfl⟩<;>rfl,?_⟩;refine Wp.en (ff (a:=nm (iT s y)) (p:=p) (ag (ae (ag (ae rfl rfl) (xR v7 rfl _)) (ae rfl rfl)) (aB (fc s5 G) _)) rfl rfl rfl rfl rfl (by rw[UH];lia) rfl) ⟨.inl rfl,t,up H p (iT s y),.fr (a9 p),?_,B.mono,λq L=>?_,aP _⟩
   .rw[oF nd Y,DU];rfl
   .by_cases e:q=p
    .rw[e,cb];exact s5.mq G
    .rw[fR e];rw[take_snoc Y] at L;exact I q ((SY.mp L).resolve_right λz=>e (SU.mp z))
 .rintro O ⟨j,H,x7,rfl,V,I,D⟩
  rw[SE,TC] at *
  refine⟨rfl,?_⟩
  have kd:(ai ns (bb H)).map (·.1)=ns.map kk:=by delta ai;rw[TM];rfl
  have es:∀x8,m5 6 (oC j (.fr (nm y)) (.fr (.lst ((zs.map (kM y)).map fT))) (.lv (.dic (aZ ks λn=>nm (h n)))) (.fr (.int a)) (.fr (.int b)) (.lv (.dit (ai ns (bb H)))) x7 x8 .un .un .un .un .un .un .un)=some (.ok (.nw (.lst (N.map a9))),oC j (.fr (nm y)) (.fr (.lst ((zs.map (kM y)).map fT))) (.lv (.dic (aZ ks λn=>nm (h n)))) (.fr (.int a)) (.fr (.int b)) (.lv (.dit (ai ns (bb H)))) x7 x8 .un .un .un .un .un .un .un):=λx8=>by
   have g:(uH ((ai ns (bb H)).map (·.1))&&decide ((ai ns (bb H)).length<64))=true:=by rw[kd,LG,jG,Xs];exact zcx (by exact Ld)
   show (if (uH ((ai ns (bb H)).map (·.1))&&decide ((ai ns (bb H)).length<64))=true then some ((V0 (Rr.nw (.lst (kg ((ai ns (bb H)).map (·.1))))):Except Str Rr),_) else none)=_;rw[zcu g,kd,eN]
  obtain⟨m,rfl⟩:∃m:Nat,b=m:=⟨b.toNat,by lia⟩
  obtain rfl:a=(N.length:Int):=by lia
  refine Wp.st (U:=oC j (.fr (nm y)) (.fr (.lst ((zs.map (kM y)).map fT))) (.lv (.dic (aZ ks λn=>nm (h n)))) (.fr (.int N.length)) (.fr (.int m)) (.lv (.dit (ai ns (bb H)))) x7 (.lv (.lst (N.map a9))) .un .un .un .un .un .un .un) (aL (es _) rfl rfl rfl rfl) ?_
  refine Wp.st (U:=oC j (.fr (nm y)) (.fr (.lst ((zs.map (kM y)).map fT))) (.lv (.dic (aZ ks λn=>nm (h n)))) (.fr (.int N.length)) (.fr (.int m)) (.lv (.dit (ai ns (bb H)))) x7 (.lv (.lst (N.map a9))) (.lv (.lst (([]:List Gt).map bU))) .un .un .un .un .un .un) rfl ?_
  refine Wp.sq (Wp.fr (as:=dZ 0 m) (λi Z=>X5 λ(o':LO)(gs:List Gt)(a:Sl×Sl)(b:Sl×Sl)(c:Sl×Sl×Sl)=>N6 (Z=oC o' (.fr (nm y)) (.fr (.lst ((zs.map (kM y)).map fT))) c.2.2 (.fr (.int N.length)) (.fr (.int m)) (.lv (.dit (ai ns (bb H)))) x7 (.lv (.lst (N.map a9))) (.lv (.lst (gs.map bU))) c.2.1 a.1 a.2 b.1 b.2 c.1) (Wl (n+300+12*i) o') (gs.length=i/\∀g∈gs,Gq ns ks h H g) (uf a.1/\uf a.2) (uf b.1/\uf b.2) ((uf c.1/\uf c.2.1)/\(c.2.2=.lv (.dic (aZ ks λn=>nm (h n)))\/c.2.2=.fr (dP ks h)))) (gT rfl (qv m XV _)) ⟨j,[],(.un,.un),(.un,.un),(.un,.un,_),rfl,V.mono,⟨rfl,λg J=>nomatch J⟩,⟨bj,bj⟩,⟨bj,bj⟩,⟨bj,bj⟩,.inl rfl⟩ ?_ ?_)
  .rintro i z Z x ⟨ok,gs,⟨U',x12⟩,⟨S,K⟩,⟨X,T0,x3⟩,rfl,wk,⟨T,J⟩,⟨Q,C⟩,⟨E,P⟩,⟨F,A⟩,h3⟩
   obtain⟨hi,rfl⟩:=pH x
   dsimp only at A Q C E P F h3
   refine⟨oC ok (.fr (nm y)) (.fr (.lst ((zs.map (kM y)).map fT))) x3 (.fr (.int N.length)) (.fr (.int m)) (.lv (.dit (ai ns (bb H)))) x7 (.lv (.lst (N.map a9))) (.lv (.lst (gs.map bU))) (.fr (.int i)) U' x12 S K X,by rcases A with rfl|⟨_,rfl⟩<;>rfl,?_⟩
   refine(O9 wk XV G kl nh XV mN I XV XV h3 Q C E P F).mono ?_
   rintro f Z ⟨rfl,t,g,a,b,c,rfl,B,gd,ha,hb,hc⟩
   exact⟨.inl rfl,t,gs++[g],a,b,(c,_,_),rfl,B.mono,⟨by rw[S3,T];rfl,λq L=>(SY.mp L).elim (J q) λz=>(SU.mp z)▸gd⟩,ha,hb,⟨hc,aP _⟩,.inr rfl⟩
  .rintro O ⟨ok,gs,⟨U',x12⟩,⟨S,K⟩,⟨X,T0,x3⟩,rfl,wk,⟨T,J⟩,-,-,-,h3⟩
   rw[dA] at T
   obtain⟨mm,hm⟩:=Cj H ns
   dsimp only at h3
   obtain⟨l,fin⟩:∃l,a8 (kh (ab 9) (ab 3) (ab 6)) (oC ok (.fr (nm y)) (.fr (.lst ((zs.map (kM y)).map fT))) x3 (.fr (.int N.length)) (.fr (.int m)) (.lv (.dit (ai ns (bb H)))) x7 (.lv (.lst (N.map a9))) (.lv (.lst (gs.map bU))) T0 U' x12 S K X)=some (.ok (.fr (.tup [.lst (gs.map bU),dP ks h,.dit (ai ns (bb H))])),.pv ok::l):=by rcases h3 with rfl|rfl<;>exact⟨_,rfl⟩
   exact⟨rfl,Wp.en (aN fin rfl) ⟨_,_,_,rfl,rfl,ns,gs,ks,h,H,mm,rfl,⟨λg r=>(J g r).s,λg r=>(J g r).u,λg r=>(J g r).v,λg r=>(J g r).b,λg r=>(J g r).k,nl,by lia,by decide,hm⟩,nd,λp hp=>(I p hp).mono W1⟩⟩
theorem B1{C:Mi (List Rr)}{s:Sl}(h:C Z=some (.ok [.nw o],U))(v:bO f o [] s o')(m:iI s=some r):qN f [] C Z=some (.ok r,U):=by
 obtain⟨T,e⟩:=v;refine bk h ?_;show (match f [.pv o] with
  | some (.rt s,T)=>(match iI s,putL U [.nw o] (bf 1 T) U with
   |some r,some O=>some ((V0 r:Except Str Rr),O)
   | _,_=>none)
  | some (.ex x,T)=>(match putL U [.nw o] (bf 1 T) U with
   |some O=>some (.error x,O)
   | none=>none)
  | _=>none)=_
 have e:f [.pv o]=some (.rt s,.pv o'::T):=e;rw[e];dsimp only;rw[m];rfl
abbrev Rz(sc:A)(w K x3 x4:Sl):List Sl:=[.fr sc,w,K,x3,x4]
theorem OW(Z:List Sl):gu (bP (bP fI jk) iu) (.nw (.dit [])) (.nw (.dic [])) Z=some (.ok (.fr (.bl true)),Z):=fu (o:=none) rfl rfl rfl
theorem law_true:∀ns:List Int,ns.length<=63->∃Z,nO.M [.fr (.lst (ns.map A.int))]=some (.rt (.fr (.bl true)),Z):=by
 intro ns D;generalize s:A.lst (ns.map A.int)=sc;obtain⟨t,B,I,J⟩:∃t:Int,N3 (∀Z,Ed Ea (ax 1) (Ed Ey (dw eX (ab 0)) (ax 4)) (.fr sc::Z)=some (.ok (.fr (.int t)),.fr sc::Z)) (1<=t) (t<=4):=by
  subst s;refine⟨if (if (4:Int)<((ns.map A.int).length:Int) then 4 else ((ns.map A.int).length:Int)) > 1 then (if (4:Int)<((ns.map A.int).length:Int) then 4 else ((ns.map A.int).length:Int)) else 1,λZ=>?_,?_,?_⟩
  .rfl
  ·(repeat' split)<;>(first|decide|omega)
  ·(repeat' split)<;>(first|decide|omega)
 obtain⟨m,rfl⟩:∃m:Nat,t=m:=⟨t.toNat,by lia⟩
 suffices Wp N7 [.fr sc] λg _=>g=.rt (.fr (.bl true)) by obtain⟨f,Z,e,rfl⟩:=this;exact⟨Z,e⟩
 refine Wp.df (Wp.sq (Wp.fr (λ_ Z=>∃w K x3 x4,Z=Rz sc w K x3 x4/\N4 (uf w) (uf K) (uf x3) (uf x4)) (gT (B _) (qv m XV _)) ⟨.un,.un,.un,.un,rfl,⟨bj,bj,bj,bj⟩⟩ ?_ ?_))
 .rintro i a Z d ⟨w,K,x3,x4,rfl,⟨h1,h2,h3,h4⟩⟩;obtain⟨hi,rfl⟩:=pH d;obtain⟨o,q,y⟩:=KI ns (i:Int) XV XV;rw[s] at q;obtain⟨HN,gs,ks,h,H,mm,o',Y,z,nd,nb⟩:=v_case y W1;refine⟨Rz sc (.fr (.int i)) K x3 x4,by rcases h1 with rfl|⟨_,rfl⟩<;>rfl,?_⟩;refine Wp.st (u4 (B1 (ae (ag (ae rfl (ae rfl rfl)) (jz q _)) rfl) Y rfl) (by rcases h2 with rfl|⟨_,rfl⟩<;>rcases h3 with rfl|⟨_,rfl⟩<;>rcases h4 with rfl|⟨_,rfl⟩<;>rfl)) ?_;exact Wp.en (dO (nK (aQ (ag (ae rfl (ae rfl (ae rfl rfl))) (aB (EH z nd nb) _)))) rfl) ⟨.inl rfl,_,_,_,_,rfl,⟨aP _,aP _,aP _,aP _⟩⟩
 .rintro O ⟨w,K,x3,x4,rfl,-⟩;have z:Ke 3070 400 7 [] [] [] (λ_=>(0,1)) (λ_=>(0,1)) 209 0:=⟨(λg h=>nomatch h),(λg h=>nomatch h),(λg h=>nomatch h),(λg h=>nomatch h),(λg h=>nomatch h),by decide,by decide,by decide,(λg h=>nomatch h)⟩
  obtain⟨N,v,-,u⟩:=vR z;have x:=List.eq_nil_iff_forall_not_mem.mpr λp hp=>nomatch (u p).mp hp;rw[x] at v;exact⟨rfl,Wp.en (aN (af (ag (ae (kB rfl rfl) (ae (kB rfl rfl) rfl)) (jz v _)) rfl (OW _)) rfl) rfl⟩
end W
set_option maxHeartbeats 4000000
theorem PySem.Challenge.cw_fitwhatever_k24_least_places_holds : PySem.Challenge.rw_fitwhatever_k24_least_places.Holds :=
 W.fin W.law_true
#print axioms PySem.Challenge.cw_fitwhatever_k24_least_places_holds
