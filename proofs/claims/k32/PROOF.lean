import PyProof.Rows.All
import Wide.All
import OpenK.AllK
import Wide.FinOn
import Lean
import PyProof.EqAt
import PyProof.EqKinds
import PyProof.TupleCall
import PyProof.StrLaws
import PySem.Challenge.RW_fitwhatever_k32_one_column
set_option genSizeOf false
set_option genInjectivity false
set_option bootstrap.genMatcherCode false
set_option compiler.extract_closed false
open Bool renaming and_eq_true->QE,not_eq_true'->Ri,false_ne_true->Rp,or_eq_true->Sj,and_true->SQ,and_false->Uq,and_self->UA,false_and->U8,beq_eq_decide_eq->VH,and_eq_true_iff->VQ,eq_iff_iff->Wu
open PySem.W renaming Frag->QF,findIn->RN,emptyDict->RV,keepIn->Sa,kitOne->Sb,instObj->Sg,plainGet->S1,hasDictIn->Tt,methodCall_KW->T4,lookIn->Ud,codeIn->Ug,plainGet_of->Up,callWith_K->Ut,methodObj->Uw,isFn->Ux,plainOver->Uy,fnOf->Uz,takerIn->US,makesIn->UT,cellsFrom_some->Vd,nsIn->Vg,handedIn->VU,OpenLaw->V3,WalkO->Wh,Hook->Wx,SharedT->Zk
open List renaming mem_append_right->QG,getElem?_eq_some_iff->QH,mem_append_left->QI,append_assoc->QJ,length_map->QK,mem_cons->QL,mem_cons_of_mem->QM,size_toArray->QO,mem_append->QP,nodup_append->QQ,length_cons->QU,mem_cons_self->QV,replicate->QW,lookup_cons->QY,getElem?_set_self->Q0,length_append->Q2,range->Q4,getElem?_eq_getElem->Q5,all_cons->Q7,mem_singleton->Q8,getElem?_set_ne->Rb,getElem?_map->Rc,nodup_cons->Rf,getD->Rg,mem_map->Rh,not_mem_nil->Rj,map_map->Rm,map_append->Rq,eraseIdx_eq_take_drop_succ->Rt,map_cons->Rv,mem_of_getElem?->Rw,getElem?_append_right->Rx,lookup_append->Ry,mem_range->Rz,map_congr_left->RD,append_nil->RK,length_take->RL,getElem?_append_left->RM,getElem?_eq_none->RQ,idxOf_lt_length_of_mem->RU,getElem?_zip_eq_some->RZ,perm_middle->R1,all_eq_true->R3,isEmpty_iff->R4,getElem_of_mem->R9,getD_eq_getElem?_getD->Se,ext_getElem?->Sk,mem_of_mem_take->Sm,getElem?_range->Ss,filter_eq_nil_iff->Su,length_zip->Sv,take_append_drop->Sy,contains_iff_mem->Sz,cons_append->SH,getElem?_eq_none_iff->SI,drop_eq_getElem_cons->SK,replicate_succ->SN,perm_iff_count->SO,map_take->SR,of_mem_zip->SS,zip_cons_cons->SV,count_append->SY,take_add_one->S0,length_singleton->Ta,perm_append_comm->Tc,lookup->Te,filterMap_cons->Ti,map_nil->Tn,all_nil->Tp,sublist_append_right->Tz,any_eq_false->TB,flatten_cons->TC,reverse_cons->TF,length_range->TJ,getElem?_take_of_lt->TM,eq_of_mem_replicate->TR,drop_length->T3,range_succ_eq_map->T9,getElem_cons_drop->Ua,map_set->Ub,mem_filter->Uc,nil_append->Ui,take_left'->Ul,set_append_right->Um,mem_filterMap->UB,foldl->UC,getElem_idxOf->UD,getElem_range->UE,set_eq_take_append_cons_drop->UM,take_sublist->UO,all_map->UP,length_set->U2,getElem?_replicate->Vr,getElem?_cons_zero->Vt,any_map->Vx,take_of_length_le->Vz,length_replicate->VC,getElem?_toArray->VG,countP_le_length->VL,any->VP,length_eraseIdx->VS,length_pos_iff->VY,getD_cons_zero->VZ,filter_append->V4,getElem_inj->Wb,map_reverse->Wd,take_length->Wf,drop->Wi,countP_cons->Wm,nodup_range->Wn,any_eq_true->Wo,ext_getElem->Wr,getElem_map->Ws,forIn_cons->Wv,append_inj->Ww,drop_left'->Wy,map->WG,drop_zero->WJ,any_cons->WK,drop_nil->WQ,map_drop->WS,map_id'->W3,length->W7,take->XF
open Nat renaming le_refl->QN,lt_of_lt_of_le->QX,lt_irrefl->Q6,le_of_lt->Rk,ne_of_lt->Rl,le_trans->Ru,lt_of_le_of_lt->RG,le_of_ble_eq_true->RI,pow_le_pow_right->R7,lt_succ_self->Sd,ble->So,zero_le->SD,le_add_right->SM,not_lt_zero->SW,sub_self->S6,pow_pos->Tg,mul_comm->Ts,lt_succ_of_lt->TN,succ_le_succ->T6,add_sub_cancel_left->T7,le_of_eq->Ue,zero_add->Uj,zero_lt_one->Uo,le_succ->Uu,not_lt->UH,succ_ne_zero->U1,eq_of_mul_eq_mul_left->Vm,mul_assoc->Vs,ne_of_gt->VB,min_self->VE,sub_zero->VI,log2_lt->VW,pow_add->VX,one_mul->V0,le_of_lt_succ->Wa,le_succ_of_le->We,lt_trichotomy->Wj,le_max_right->Wt,le_max_left->WA,le_add_left->WB,mul_le_mul->WO,succ_mul->W8,pow_succ->Xa
open PySem.Heap renaming get?_push_of_some->QR,lt_size->QZ,get?_push_size->Q3,size_push->RW,SameBut->T8,get?_update_other->Vv,get?_update_self->VD
open Option.some renaming inj->Q9,injEq->Vo
open Int renaming mul_zero->Rn,mul_comm->RB,gcd->RJ,mul_le_mul_of_nonneg_left->RO,natAbs_mul->RS,mul_fdiv_cancel_left->RT,add_zero->RX,one_mul->RY,le_of_lt->R5,neg_one_mul->R8,eq_of_mul_eq_mul_right->Sf,gcd_pos_of_ne_zero_right->Sw,mul_one->SA,neg_mul->SE,negSucc->SX,toNat_natCast->S2,fmod_nonneg_of_pos->S3,zero_mul->S5,ofNat->Td,mul_ne_zero->Tj,mul_nonneg->Tv,le_of_mul_le_mul_left->TK,le_refl->TL,gcd_dvd_right->TQ,mul_assoc->TY,zero_add->Uk,mul_ediv_cancel'->Uv,lt_or_gt_of_ne->UI,fmod_lt_of_pos->UJ,gcd_zero_right->UK,not_lt->UN,gcd_comm->UW,le_of_eq->UY,gcd_dvd_left->UZ,mul_pos->U3,mul_add->U4,mul_neg_of_pos_of_neg->Vn,fdiv_eq_ediv_of_dvd->Vy,le_trans->VA,lt_or_le->VF,zero_sub->VJ,natAbs_dvd_natAbs->VO,mul_eq_zero->WI,natAbs_neg->WL,add_nonneg->WR,ne_of_gt->Xb,neg_dvd->Xf,natAbs->XE
open PySem.Builtin.SmallTypes renaming nextOf->RC,ownedTupleHandOut->Tu
open Option renaming isNone_iff_eq_none->RE,getD_some->S8,getD_none->V2,map_some->V7
open Except renaming ok->RF
open Ne renaming symm->RH
open PyProof.Rows renaming callWith_type1->RP,zipApart_new->UL,callWith_builtin1->Xd,list_addW->Xg,Call_->Xj,envOfC->Xz,assignInOrder_cons->Yx,AllBare->YA,boot_range->YQ,subscriptTail_builtinR->YT,envOfC->YZ,assignInOrder_nil->Y8,IntsAre->Zj
open PySem.Value renaming ref->R0,none->S9,int->TV,bool->VT,str->V5,bytes->WT,float->WU,type->W4
open PySem.F renaming plainAttrs_list->R6,slot_tuple_iterator_next->SJ,slot_list_append->Tw,type_list_append->Tx,slot_list_index->TH,slot_zip_next->Ur,type_list_index->Vb,args_tuple_iterator_next_1->Vf,entry_tuple_iterator_next->Vl,args_zip_next_1->WE,entry_zip_next->WN,slot_int_rmul->W0
open PySem.Builtin.Range renaming rangeSize->Si,small->TZ
open False renaming elim->Sn
open PySem renaming mem_of_lookup->Sr,Str->Vh,Within->Vp,call->VV,starEach->XG,wpAny_bind->XH,bootBuiltins->XI,wpAny->XJ,attributeBase->XM,wpAny_pure->XN,model->XO,backTo->XQ,World->XR,mainGlobals->XT,Around->XU,keywordEach->XW,FuncData->XX,behindInMarks->XY,assignEach->XZ,foldedSetIterable->X0,Keyword->X1,swapsWith->X4,backToKw->X6,wpAny_field->X7,compareOp->X8,wpAny_seqItems->X9,wpAny_setField_rec->Yb,wpAny_passesOwn->Yc,sizeLine_eq->Yd,wpAny_pyIter_list->Ye,wpAny_callSpecial?_slot->Yg,swappedStores->Yh,wpAny_truthy_bool->Yi,binaryOp->Yj,wpAny_mono->Yk,wpAny_Call_Name_kw->Yl,sliceBounds->Ym,wpAny_newObj_type->Yn,methodCallForm->Yo,wpAny_call_entry->Yp,swapsWithSole->Yr,intItems->Ys,wpAny_updateSeq_pair->Yt,wpAny_execs_nil->Yu,letOwnedTupleGo->Yv,CmpOp->Yw,IsPair->Yy,wpAny_letOwnedTupleGo_zip->Yz,standAt->YB,codeAny->YC,wpAny_standAt->YD,wpAny_comprehension_free->YE,Comprehension->YF,wpAny_onRaise->YG,PassesOwn->YH,getMethod->YI,seqIndex?->YJ,wpAny_pyIter_zip->YK,treeTable->YL,builtinsNs->YM,wpAny_pyNext_range_end->YN,wpAny_pyIter_rangeiter->YO,BindsTo->YR,codeAny_mono->YS,call_meets->YU,callerA->YV,wpAny_nextOf_list_item->YW,wpAny_loadPart'->YX,wpAny_isTrue_Compare1->YY,intItems_at->Y0,assignInOrder->Y1,wpAny_holding->Y2,sysModules->Y3,wpAny_rule->Y4,wpAny_pyIter_range->Y5,wpAny_pyIter_tuple->Y6,wpAny_assign_Name->Y7,callWith->Y9,seqIndex_neg->Za,wpAny_pyIter_enum->Zb,FuncBody->Zc,isTrue->Zd,rawInt->Ze,IsRangeIter->Zf,seqIndex_of->Zg,IsZip->Zh,wpAny_letGo->Zi,wpAny_Name->Zl,bindName->Zm,Operator->Zn,bindL->Zo,bindC->Zp,typeIs_int->Zq,IntMulOk->Zr,ZipApart->Zs
open ForInStep renaming yield->SF
open PySem.NameKind renaming free->SG
open Rat renaming divInt_eq_divInt_iff->SU,le_trans->S7,le_refl->TU,intCast_lt_intCast->Uh,le_of_lt->VM,divInt_eq_div->Wc,intCast_inj->WC,intCast_mul->WD,divInt->XC
open List.Sublist renaming append->S4,refl->Tf
open PySem.Builtin.List renaming listTooLong->Th,listFitsIndex->Xi
open PySem.MeetsSeq renaming plain_index_loop->To,entry_index_loop->U0
open PySem.SeqAt renaming EqAt->T5
open Array renaming length_toList->Us,getElem?_eq_getElem->Va,toList->Vq,getElem?_toList->Vw,toList_inj->V8
open PySem.Obj renaming mapSeq->UG,data_mapFields->V6
open Sum renaming inl->UQ,inr->UR
open PySem.Str renaming ofString->UU
open PySem.Builtin renaming divisionGoesByPylong->UX
open PySem.Calls renaming Name_function_global->U5,call_len_list->VN
open PySem.Heap.SameBut renaming update->U6
open PySem.Walks renaming list->U7,range->WW
open PySem.Builtin.Int renaming intBits->U9
open List.Pairwise renaming map->Vc,nil->W9
open PySem.SeqAt.EqAt renaming int_str->Vi,str_int->Vj
open PySem.Around renaming under->Vk
open PySem.Code renaming isFrame->Vu,frames->W6
open True renaming intro->V1
open Nat.succ renaming inj->Wg
open PySem.IsRange renaming new->Wz
open PySem.W.SharedT renaming abs->WH
open PySem.Shared renaming heap->WM
open PySem.CmpOp renaming NotIn->WV,In->XA
open PySem.Heap.IsSliceOf renaming new->WX
open PySem.W.WShape renaming has->WY
open Or renaming inr->WZ
open Eq renaming trans->W2
open PySem.W.Looks renaming here->W5
open PySem.Within renaming cons->Xc
open PySem.W.WData renaming int->Xe
open PySem.Heap.IsTuple renaming push->Xh
open PySem.W.Fast renaming tw11892475500146522536->Xk,tw14364793385576792824->Xl,tw6613529449190102663->Xm,tw10156331382660048174->Xn,tw10274390034422433532->Xo,tw14289696077712309145->Xp,tw4187177175401517315->Xq,te11892475500146522536->Xr,te14364793385576792824->Xs,te6613529449190102663->Xu,te10156331382660048174->Xv,te10274390034422433532->Xw,te14289696077712309145->Xx,te4187177175401517315->Xy
open PySem.Flow renaming next->XB
open Nat.Coprime renaming dvd_of_dvd_mul_left->XD
theorem Q1{p:Prop}(h:p:=by lia):p:=h
theorem Z3{p:Prop}(h:p:=by decide):p:=h
theorem Z4{p:Prop}(h:p:=by decide +kernel):p:=h
theorem Z5{p:Prop}(h:p:=by simp):p:=h
theorem Zt:type_of% @if_pos:=@if_pos
theorem Zu:type_of% @if_neg:=@if_neg
theorem Zv:type_of% @decide_eq_false:=@decide_eq_false
theorem Zw:type_of% @decide_eq_true:=@decide_eq_true
theorem Zx:type_of% @congrArg:=@congrArg
theorem Zy:type_of% @beq_iff_eq:=@beq_iff_eq
theorem Zz:type_of% @of_decide_eq_true:=@of_decide_eq_true
set_option linter.all false
variable{b:Int}
theorem Qh{n a:Int}(h:n<a:=by assumption)(d:decide (a<=b)=true:=by decide):n<b:=Int.lt_of_lt_of_le h (Zz d)
variable{k:Int}
theorem Og{n a:Int}(h:n<a:=by assumption)(d:decide (a+k<=b)=true:=by decide):n+k<b:=Qh (Int.add_lt_add_right h k) d
variable{l:Int}
theorem Qe{n a:Int}(h:n<a:=by assumption)(d:decide (a+k+l<=b)=true:=by decide):n+k+l<b:=Og (Og h (Zw (TL _))) d
theorem Qy{n a p:Int}(h:n<a:=by assumption)(d:decide (a+k+l+p<=b)=true:=by decide):n+k+l+p<b:=Qe (Og h (Zw (TL _))) d
theorem Qz{n a:Int}(h:n<=a:=by assumption)(d:decide (a<=b)=true:=by decide):n<=b:=VA h (Zz d)
variable{m:Int}
theorem Qq{n:Int}(d:decide (k<=m)=true:=by decide):n+k<=n+m:=Int.add_le_add_left (Zz d) n
theorem QB{n:Int}(d:decide (k+l<=m)=true:=by decide):n+k+l<=n+m:=Int.add_assoc n k l▸Qq d
variable{x y z:Nat}
theorem Ox(h:x<=y:=by assumption)(d:decide (y<=z)=true:=by decide):x<=z:=Ru h (Zz d)
theorem QD{c:Nat}(h:x<=y:=by assumption)(d:decide (y+c<=z)=true:=by decide):x+c<=z:=Ox (Nat.add_le_add_right h c) d
theorem Qx(h:x<=y:=by assumption)(d:decide (y<z)=true:=by decide):x<z:=RG h (Zz d)
theorem Qv(h:x<y:=by assumption)(d:decide (y<=z)=true:=by decide):x<z:=QX h (Zz d)
theorem Qw(d:decide (y<=z)=true:=by decide):x+y<=x+z:=Nat.add_le_add_left (Zz d) x
theorem QC(h:x<y:=by assumption)(d:decide (y<=z+1)=true:=by decide):x<=z:=Wa (Qv h d)
variable{P:Prop}
theorem ke{α:Type}{x:α}(h:none=some x):P:=nomatch h
theorem JN(h:false=true):P:=nomatch h
set_option Elab.async false
set_option maxRecDepth 100000
abbrev fC(x:Vh):Prop:=(x==("__debug__" : Vh))=false
abbrev k9(x:Vh):Prop:=(x==("__classdict__" : Vh))=false
noncomputable section
namespace L2
open PySem PySem.Spec PyProof.Rows
noncomputable abbrev Key:=Sum Int Str
noncomputable def Fh:Key->Value->Bool
 | .inl k,v=>Value.isInt k v
 | .inr x,v=>Value.isStrOf x v
noncomputable def Ov(w:XR):Key->Int
 | .inl k=>hashInt k
 | .inr x=>hashStr w x
theorem cg:∀{k:Key}{v:Value},Fh k v=true->(∃i t,k=UQ i/\v=TV i t)\/(∃x t,k=UR x/\v=V5 x t)
 | .inl i,v,h=>by obtain⟨t,e⟩:=Value.isInt_shape (k:=i) (v:=v) h;exact .inl ⟨i,t,rfl,e⟩
 | .inr x,v,h=>by obtain⟨t,e⟩:=Value.isStrOf_shape (x:=x) (v:=v) h;exact .inr ⟨x,t,rfl,e⟩
theorem Jo(a b:Int):decide ((UQ a:Key)=UQ b)=(a==b):=by
 by_cases e:a=b
 .subst e;simp
 .have h:¬ (UQ a:Key)=UQ b:=λq=>e (UQ.inj q);rw[Zv h];exact(beq_eq_false_iff_ne.mpr e).symm
theorem Ik(a b:Str):decide ((UR a:Key)=UR b)=decide (a=b):=by
 by_cases e:a=b
 .subst e;simp
 .have h:¬ (UR a:Key)=UR b:=λq=>e (UR.inj q);rw[Zv h,Zv e]
theorem Ht(a:Int)(b:Str):decide ((UQ a:Key)=UR b)=false:=Zv (λq=>nomatch q)
theorem Kb(a:Str)(b:Int):decide ((UR a:Key)=UQ b)=false:=Zv (λq=>nomatch q)
def iu(prog:Program)(w:XR):PySem.KeyKind prog w Key where
 is:=Fh
 hash:=Ov w
 inj:=λv a b f d=>by
  rcases cg f with ⟨i,t,rfl,rfl⟩|⟨x,t,rfl,rfl⟩
  .rcases cg d with ⟨j,u,rfl,e⟩|⟨y,u,rfl,e⟩
   .injection e with e1 _;rw[e1]
   .exact nomatch e
  .rcases cg d with ⟨j,u,rfl,e⟩|⟨y,u,rfl,e⟩
   .exact nomatch e
   .injection e with e1 _;rw[e1]
 byValue:=λk v h=>by rcases cg h with ⟨i,t,rfl,rfl⟩|⟨x,t,rfl,rfl⟩<;>rfl
 pyHash:=λc h=>by
  rcases cg c with ⟨i,t,rfl,rfl⟩|⟨x,t,rfl,rfl⟩
  .exact wpAny_pyHash_int h
  .exact wpAny_pyHash_str h
 eqBool:=λg c h=>by
  rcases cg g with ⟨i,t,rfl,rfl⟩|⟨x,t,rfl,rfl⟩
  .rcases cg c with ⟨j,u,rfl,rfl⟩|⟨y,u,rfl,rfl⟩
   .rw[Jo] at h;exact wpAny_eqBool_int h
   .rw[Ht] at h;exact Vi i t y u _ _ _ _ h
  .rcases cg c with ⟨j,u,rfl,rfl⟩|⟨y,u,rfl,rfl⟩
   .rw[Kb] at h;exact Vj x t j u _ _ _ _ h
   .rw[Ik] at h;exact wpAny_eqBool_str h
 «strs»:=λk x t v h=>by
  rcases cg h with ⟨i,u,rfl,e⟩|⟨y,u,rfl,e⟩
  .exact nomatch e
  .injection e with e1 _;subst e1;cases v<;>rfl
inductive V where
 |non|bl(b:Bool)|int(i:Int)|str(x:Str)|byt(b:Array UInt8)|flt(b:UInt64)|ref(a:Addr)|ty(n:String)
 deriving DecidableEq
def RelV:V->Value->Prop
 | .non,u=>u=S9
 | .bl b,u=>u=VT b
 | .int i,u=>∃t,u=TV i t
 | .str x,u=>∃t,u=V5 x t
 | .byt b,u=>∃t,u=WT b t
 | .flt b,u=>∃t,u=WU b t
 | .ref a,u=>u=R0 a
 | .ty n,u=>u=W4 n
abbrev Vals:List V->List Value->Prop:=Paired RelV
theorem Vals.length{xs:List V}{us:List Value}(r:Vals xs us):xs.length=us.length:=Paired.length r
theorem Vals.get:∀{xs:List V}{us:List Value}{i:Nat}{x:V},Vals xs us->xs[i]?=some x->∃u,us[i]?=some u/\RelV x u
 |_,_,_,_,.nil,e=>by simp at e
 |_,_,0,_,.cons r _,e=>by simp at e;subst e;exact⟨_,rfl,r⟩
 |_,_,i+1,x,.cons _ t,e=>by obtain⟨u,h1,h2⟩:=Vals.get (i:=i) (x:=x) t (by simpa using e);exact⟨u,by simpa using h1,h2⟩
theorem Vals.set{x:V}{u:Value}(r:RelV x u):∀{xs:List V}{us:List Value}(i:Nat),Vals xs us->Vals (xs.set i x) (us.set i u)
 |_,_,_,.nil=>.nil
 |_,_,0,.cons _ t=>.cons r t
 |_,_,i+1,.cons q t=>.cons q (Vals.set r i t)
theorem Vals.append:∀{xs ys:List V}{us ws:List Value},Vals xs us->Vals ys ws->Vals (xs++ys) (us++ws)
 |_,_,_,_,.nil,s=>s
 |_,_,_,_,.cons r t,s=>.cons r (Vals.append t s)
theorem Vals.take:∀{xs:List V}{us:List Value}(n:Nat),Vals xs us->Vals (xs.take n) (us.take n)
 |_,_,0,_=>.nil
 |_,_,_+1,.nil=>.nil
 |_,_,n+1,.cons r t=>.cons r (Vals.take n t)
theorem Vals.drop:∀{xs:List V}{us:List Value}(n:Nat),Vals xs us->Vals (xs.drop n) (us.drop n)
 |_,_,0,r=>r
 |_,_,_+1,.nil=>.nil
 |_,_,n+1,.cons _ t=>Vals.drop n t
theorem Vals.none_of:∀{xs:List V}{us:List Value}{i:Nat},Vals xs us->xs[i]?=none->us[i]?=none:=λ{xs us i} r e=>by have h1:=r.length;have h2:xs.length<=i:=SI.mp e;exact SI.mpr Q1
def m8:Option V->Option Value->Prop
 |some v,some u=>RelV v u
 |none,none=>True
 |_,_=>False
def KV{a:Type}:List (a×V)->List (a×Value)->Prop:=Paired λ(p:a×V)(q:a×Value)=>p.1=q.1/\RelV p.2 q.2
noncomputable def kV:Key->V
 | .inl i=>.int i
 | .inr x=>.str x
inductive HO where
  |lst(xs:List V)
  |tup(xs:List V)
  |dK(kvs:List (Key×V))|dT(kvs:List (List Key×V))
  |set(S:Int->Bool)(n:Nat)
  |ins(C dx:Addr)(fs:List (Str×V))
  |own(x:Addr)
  |xd(fs:List (Str×V))
  |met(f x:Addr)
  |xO(lo hi:Int)
  |frz(o:Obj)(u:HO)
  |tbl(ps:Array Value)
  |ext(Z:Heap->Prop)
 |exd(Z:Heap->Prop)
noncomputable abbrev Hp:=Addr->Option HO
noncomputable def upd(H:Hp)(a:Addr)(o:HO):Hp:=λb=>if b=a then some o else H b
variable{H:Hp}
theorem aI{a:Addr}{o:HO}:upd H a o a=some o:=by unfold upd;rw[Zt rfl]
theorem ao{a b:Addr}{o:HO}(h:b≠a):upd H a o b=H b:=by unfold upd;rw[Zu h]
theorem uO{a:Addr}{o u:HO}:upd (upd H a o) a u=upd H a u:=by funext b;unfold upd;split<;>rfl
theorem aD{a b:Addr}{o:HO}(h:H a=some o)(h':H b=none):a≠b:=by intro e;subst e;rw[h] at h';cases h'
variable{h:Heap}
section
variable(P:Program)(w:XR)
def kj(h:Heap)(a:Addr)(items:Array Value):Prop:=∃o,h.get? a=some o/\o.cls=.type "tuple" /\ ∃n,o.data=.seq items n/\o.dict=none
theorem kj.t{a:Addr}{items:Array Value}(x:kj h a items):IsTup h a items:=let ⟨o,e,c,n,d,_⟩:=x;⟨o,e,c,n,d⟩
theorem kj.new(h:Heap)(items:Array Value):kj (h.push { cls:=.type "tuple",data:=.seq items }) h.objs.size items:=⟨_,Q3 _ rfl,rfl,_,rfl,rfl⟩
def dD(H:Hp)(h:Heap)(a:Addr):HO->Prop
 | .lst xs=>xs.length<=sizeLine/\∃(b:List Value)(n:Nat),Vals xs b/\h.get? a=some { cls:=.type "list",data:=.seq b.toArray n }
 | .tup xs=>xs.length<=sizeLine/\∃b:List Value,Vals xs b/\kj h a b.toArray
 | .dK kvs=>kvs.length<=sizeLine/\(a==Y3)=false/\∃vs,KV kvs vs/\h.DictOf (iu P w) a vs
 | .dT kvs=>kvs.length<=sizeLine/\(a==Y3)=false/\∃xs:List (List Key×Addr×Value),
   Paired (λ(p:List Key×V)(q:List Key×Addr×Value)=>p.1=q.1/\H q.2.1=some (.tup (p.1.map kV))/\RelV p.2 q.2.2) kvs xs /\
   ∃o es e,h.get? a=some o/\o.ExactDict/\o.data=.dict es e/\es.toList=xs.map (entryOfKey (tupleKind (iu P w)))/\(xs.map (·.1)).Nodup
 | .set S n=>h.SetOf (intKind P w) a S n
 | .ins C dx fs=>H dx=some (.own a)/\fs.length<=1000/\dx≠a/\h.get? a=some (Sg C dx) /\
   ∃mA,h.Ns1 dx mA/\(∀f,m8 (fs.lookup f) (mA f))/\Vp mA (fs.map (·.1))
 | .own _=>∃o,h.get? a=some o
 | .xd fs=>∃mA,h.Ns1 a mA/\∀f,m8 (fs.lookup f) (mA f)
 | .xO lo hi=>∃t u v,h.get? a=some { cls:=.type "range",data:=.fields #[.int lo t,.int hi u,.int 1 v] }
 | .frz o u=>h.get? a=some o/\dD H h a u
 | .tbl ps=>h.get? a=some { cls:=.none,data:=.fields ps }
 | .met f x=>h.get? a=some (Uw (.ref f) (.ref x))
 | .ext Z=>Z h/\(∃o,h.get? a=some o)/\∀h1 h2:Heap,Z h1->(∀o,h1.get? a=some o->h2.get? a=some o)->Z h2
 | .exd Z=>Z h/\(∃o,h.get? a=some o)/\∀h1 h2:Heap,Z h1->(∀o,h1.get? a=some o->h2.get? a=some o)->Z h2
def kF(H:Hp)(h:Heap):Prop:=∀a o,H a=some o->dD P w H h a o
end
section
variable{P:Program}{w:XR}{H H':Hp}{h h':Heap}{a:Addr}{o:HO}
theorem dD.lt(x:dD P w H h a o):a<h.objs.size:=by
 cases o with
 |lst xs=>obtain⟨_,_,_,_,e⟩:=x;exact QZ e
 |tup xs=>obtain⟨_,_,_,p⟩:=x;exact p.t.lt
 |dK kvs=>obtain⟨_,_,_,_,o,_,_,e,_⟩:=x;exact QZ e
 |dT kvs=>obtain⟨_,_,_,_,o,_,_,e,_⟩:=x;exact QZ e
 |set S n=>obtain⟨o,_,_,_,e,_⟩:=x;exact QZ e
 |ins C dx fs=>obtain⟨_,_,_,e,_⟩:=x;exact QZ e
 |own y=>obtain⟨_,e⟩:=x;exact QZ e
 |xd fs=>obtain⟨_,⟨_,_,_,e,_⟩,_⟩:=x;exact QZ e
 |xO lo hi=>obtain⟨_,_,_,e⟩:=x;exact QZ e
 |frz ob u=>obtain⟨e,_⟩:=x;exact QZ e
 |tbl ps=>exact QZ (show h.get? a=some _ from x)
 |met f y=>exact QZ (show h.get? a=some _ from x)
 |ext Z=>obtain⟨_,⟨_,e⟩,_⟩:=x;exact QZ e
 |exd Z=>obtain⟨_,⟨_,e⟩,_⟩:=x;exact QZ e
theorem Paired.MB{α β:Type}{F G:α->β->Prop}:∀{l₁:List α}{l₂:List β},Paired F l₁ l₂->(∀a b,F a b->G a b)->Paired G l₁ l₂
 |_,_,.nil,_=>.nil
 |_,_,.cons r t,f=>.cons (f _ _ r) (Paired.MB t f)
theorem dD.iE(x:dD P w H h a o)(k:∀b u,(b=a\/H b=some (.own a))->h.get? b=some u->h'.get? b=some u)
  (ho:∀b,H b=some (.own a)->H' b=some (.own a))(l:∀b xs,H b=some (.tup xs)->H' b=some (.tup xs)):dD P w H' h' a o:=by
 induction o with
 |lst xs=>obtain⟨z,j,n,r,e⟩:=x;exact⟨z,j,n,r,k _ _ (.inl rfl) e⟩
 |tup xs=>obtain⟨z,j,r,ob,e,c⟩:=x;exact⟨z,j,r,ob,k _ _ (.inl rfl) e,c⟩
 |dK kvs=>obtain⟨z,y,vs,r,ob,es,i,e,c⟩:=x;exact⟨z,y,vs,r,ob,es,i,k _ _ (.inl rfl) e,c⟩
 |dT kvs=>obtain⟨z,y,xs,r,ob,es,i,e,c⟩:=x;exact⟨z,y,xs,Paired.MB r λp q z=>⟨z.1,l _ _ z.2.1,z.2.2⟩,ob,es,i,k _ _ (.inl rfl) e,c⟩
 |set S n=>obtain⟨ob,es,i,t,e,c⟩:=x;exact⟨ob,es,i,t,k _ _ (.inl rfl) e,c⟩
 |ins C dx fs=>obtain⟨d,z,ne,e,mA,⟨od,es,i,e2,c⟩,r⟩:=x;exact⟨ho _ d,z,ne,k _ _ (.inl rfl) e,mA,⟨od,es,i,k _ _ (.inr d) e2,c⟩,r⟩
 |own y=>obtain⟨ob,e⟩:=x;exact⟨ob,k _ _ (.inl rfl) e⟩
 |xd fs=>obtain⟨mA,⟨od,es,i,e,c⟩,r⟩:=x;exact⟨mA,⟨od,es,i,k _ _ (.inl rfl) e,c⟩,r⟩
 |xO lo hi=>obtain⟨t,u,v,e⟩:=x;exact⟨t,u,v,k _ _ (.inl rfl) e⟩
 |frz ob u m=>obtain⟨e,q⟩:=x;exact⟨k _ _ (.inl rfl) e,m q⟩
 |tbl ps=>have e:h.get? a=some { cls:=.none,data:=.fields ps }:=x;show h'.get? a=some { cls:=.none,data:=.fields ps };exact k a _ (.inl rfl) e
 |met f y=>have e:h.get? a=some (Uw (.ref f) (.ref y)):=x;show h'.get? a=some (Uw (.ref f) (.ref y));exact k a _ (.inl rfl) e
 |ext Z=>obtain⟨p,⟨o,e⟩,st⟩:=x;exact⟨st _ _ p λo q=>k _ _ (.inl rfl) q,⟨o,k _ _ (.inl rfl) e⟩,st⟩
 |exd Z=>obtain⟨p,⟨o,e⟩,st⟩:=x;exact⟨st _ _ p λo q=>k _ _ (.inl rfl) q,⟨o,k _ _ (.inl rfl) e⟩,st⟩
theorem kF.lt(x:kF P w H h)(e:H a=some o):a<h.objs.size:=(x a o e).lt
theorem kF.fresh(x:kF P w H h)(e:h.objs.size<=a):H a=none:=by
 cases q:H a with
 |none=>rfl
 |some u=>exact absurd (QX (x.lt q) e) (Q6 _)
theorem kF.kept(x:kF P w H h)(k:∀b u,h.get? b=some u->h'.get? b=some u):kF P w H h':=λa o e=>(x a o e).iE (λb u _ q=>k b u q) (λ_ q=>q) λ_ _ q=>q
theorem kF.laid(x:kF P w H h)(k:∀b u,h.get? b=some u->h'.get? b=some u)(hp:h.objs.size<=a)(new:dD P w (upd H a o) h' a o):kF P w (upd H a o) h':=λb u e=>by
 have hn:=x.fresh hp;by_cases d:b=a
 .subst d;rw[aI] at e;cases e;exact new
 .rw[ao d] at e;exact(x b u e).iE (λc v _ q=>k c v q) (λc q=>by rw[ao (aD q hn)];exact q) λc xs q=>by rw[ao (aD q hn)];exact q
end
def Rd(H:Hp)(a:Addr)(u:HO):Prop:=H a=some u\/∃o,H a=some (.frz o u)
variable{w:XR}
theorem Rd.ok{P:Program}{a:Addr}{u:HO}(r:Rd H a u)(x:kF P w H h):dD P w H h a u:=by
 rcases r with r|⟨o,r⟩
 .exact x a u r
 .obtain⟨_,q⟩:=x a _ r;exact q
def NW:Option HO->Prop
 |some (.lst _)=>True
 |some (.dK _)=>True
 |some (.dT _)=>True
 |some (.set _ _)=>True
 |some (.ins _ _ _)=>True
 |some (.ext _)=>True
 |some (.exd _)=>True
 |_=>False
section
variable{P:Program}{w:XR}{H:Hp}{h h':Heap}{x e:Addr}{o':HO}
theorem kF.write(ok:kF P w H h)(mu:NW (H x))(he:e=x\/H e=some (.own x))(k:∀b u,b≠e->h.get? b=some u->h'.get? b=some u)(s:∃u,h'.get? e=some u)
  (new:dD P w (upd H x o') h' x o'):kF P w (upd H x o') h':=λb u q=>by
 have o:∀c y,H c=some (.own y)->c≠x:=λc y r z=>by subst z;rw[r] at mu;exact mu
 have p:∀c xs,H c=some (.tup xs)->c≠x:=λc xs r z=>by subst z;rw[r] at mu;exact mu
 by_cases d:b=x
 .subst d;rw[aI] at q;cases q;exact new
 .rw[ao d] at q;by_cases n:b=e
  .have t:H b=some (.own x):=by
    rcases he with z|z
    .exact absurd (n.trans z) d
    .rw[n];exact z
   rw[q] at t;cases t;obtain⟨v,A⟩:=s;exact⟨v,by rw[n];exact A⟩
  .refine(ok b u q).iE (λc v hc r=>k c v ?_ r) (λc r=>by rw[ao (o c b r)];exact r) λc xs r=>by rw[ao (p c xs r)];exact r
   rcases hc with rfl|hc
   .exact n
   .rintro rfl;rcases he with z|z
    .exact o c b hc z
    .rw[hc] at z;cases z;exact d rfl
end
structure Un(fs ex:List Addr)(H H':Hp)(h h':Heap):Prop where
 keep:∀b o,h.get? b=some o->H b=none->b∉fs->b∉ex->h'.get? b=some o
 slot:∀b o,h.get? b=some o->H b=none->b∈fs->b∉ex->∃sl,h'.get? b=some { o with slots:=sl }
 free:∀b o,h.get? b=some o->H b=none->b∉ex->H' b=none
 there:∀b o,h.get? b=some o->b∉ex->∃o',h'.get? b=some o'
 tups:∀b xs,H b=some (.tup xs)->H' b=some (.tup xs)
 frzs:∀b o u,H b=some (.frz o u)->H' b=some (.frz o u)
 tbls:∀b ps,H b=some (.tbl ps)->∃more,H' b=some (.tbl (ps++more))
section
variable{fs Z2 ex ex':List Addr}{H H1 H2:Hp}{h h1 h2 h':Heap}{a x e:Addr}{o:HO}
theorem Un.any(u:Un fs ex H H1 h h1){b:Addr}{ob:Obj}(q:h.get? b=some ob)(n:H b=none)(hx:b∉ex):∃sl,h1.get? b=some { ob with slots:=sl }:=by
 by_cases d:b∈fs
 .exact u.slot b ob q n d hx
 .exact⟨ob.slots,u.keep b ob q n d hx⟩
theorem Un.kept(k:∀b u,h.get? b=some u->h'.get? b=some u):Un fs ex H H h h':=
 ⟨λb ob q _ _ _=>k b ob q,λb ob q _ _ _=>⟨ob.slots,k b ob q⟩,λ_ _ _ n _=>n,λb ob q _=>⟨ob,k b ob q⟩,λ_ _ q=>q,λ_ _ _ q=>q,λ_ ps q=>⟨#[],by rw[q];simp⟩⟩
theorem Un.refl:Un fs ex H H h h:=Un.kept λ_ _ q=>q
theorem Un.laid(k:∀b u,h.get? b=some u->h'.get? b=some u)(hp:h.objs.size<=a)(hn:H a=none):Un fs ex H (upd H a o) h h' where
 keep:=λb u q _ _ _=>k b u q
 slot:=λb u q _ _ _=>⟨u.slots,k b u q⟩
 free:=λb u q n _=>by rw[ao (Rl (QX (QZ q) hp))];exact n
 there:=λb u q _=>⟨u,k b u q⟩
 tups:=λb xs q=>by rw[ao (aD q hn)];exact q
 frzs:=λb u xs q=>by rw[ao (aD q hn)];exact q
 tbls:=λb ps q=>⟨#[],by rw[ao (aD q hn),q];simp⟩
theorem Un.write(mu:NW (H x))(he:e=x\/H e=some (.own x))(k:∀b u,b≠e->h.get? b=some u->h'.get? b=some u)(s:∃u,h'.get? e=some u):Un fs ex H (upd H x o) h h':=by
 have hx:∀b,H b=none->b≠x:=λb n z=>by subst z;rw[n] at mu;exact mu
 have d:∀b,H b=none->b≠e:=λb n z=>by
  subst z;rcases he with r|r
  .exact hx b n r
  .rw[n] at r;cases r
 have hm:∀b u,H b=some u->¬ NW (some u)->b≠x:=λb u q nm z=>by subst z;rw[q] at mu;exact nm mu
 refine⟨λb u q n _ _=>k b u (d b n) q,λb u q n _ _=>⟨u.slots,k b u (d b n) q⟩,λb u q n _=>by rw[ao (hx b n)];exact n,λb u q _=>?_,
  λb xs q=>by rw[ao (hm b _ q λz=>z)];exact q,λb u xs q=>by rw[ao (hm b _ q λz=>z)];exact q,λb ps q=>⟨#[],by rw[ao (hm b _ q λz=>z),q];simp⟩⟩
 by_cases v:b=e
 .subst v;exact s
 .exact⟨u,k b u v q⟩
end
noncomputable def NK(h:Heap)(H:Hp):List Addr:=(Q4 h.objs.size).filter λa=>(H a).isSome
def pF(h:Heap)(H:Hp):Heap:=PySem.W.hideAll h (NK h H)
theorem xn(h:Heap)(H:Hp):(pF h H).objs.size=h.objs.size:=PySem.W.hideAll_size _ _
variable{o:Obj}
theorem Bs{b:Addr}(e:h.get? b=some o)(n:H b=none):(pF h H).get? b=some o:=
 PySem.W.hideAll_get _ e λhm=>by have q:(H b).isSome=true:=(Uc.mp hm).2;rw[n] at q;simp at q
theorem D8{b:Addr}(e:(pF h H).get? b=some o):h.get? b=some o/\H b=none:=by
 have k:h.get? b=some o:=PySem.W.of_hideAll (NK h H) e;refine⟨k,?_⟩;cases q:H b with
 |none=>rfl
 |some x=>have hm:b∈NK h H:=Uc.mpr ⟨Rz.mpr (QZ k),by simp[q]⟩;have z:(pF h H).get? b=none:=PySem.W.hideAll_none (NK h H) hm;rw[z] at e;cases e
noncomputable def CC(g h:Heap)(L:Addr):List (Addr×Obj):=(Q4 h.objs.size).filterMap λa=>if a=L\/(g.get? a).isSome=true then none else (h.get? a).map λo=>(a,o)
def rest(g h:Heap)(L d:Addr):List (Addr×Obj):=(CC g h L).filter λp=>decide (p.1≠d)
structure Mod(K:QF)(mg:Str->Option Value)(base:Heap):Prop where
 kin:K.In base
 glob:base.Ns XT mg
 blt:∃mb,base.Ns YM mb/\∀x:Str,x ≠ "__name__" -> mb x=XI x
 nolimit:base.NoLimit
structure Cx where
 prog:Program
 w:XR
 K:QF
 mg:Str->Option Value
 base:Heap
 A:XU
 N:List Str
 s₀:Shared
 H₀:Hp
 env:Env
 outer:List Env
 stack:List Env
 ex:List Addr
 fn:Str->Bool
 calm:Bool
 pn:List (Addr×Obj)
 xe:Value->Shared->Prop
noncomputable def kW(l:List Env):List Addr:=l.filterMap (·.frame)
abbrev Cx.fs(X:Cx):List Addr:=kW X.outer
def kq(sc:Scope)(x:Str):Prop:=sc.names.lookup x=some .local\/sc.names.lookup x=some .cell\/sc.names.lookup x=some .free
def Loc(sc:Scope)(x:Str):Prop:=sc.names.lookup x=some .local\/sc.names.lookup x=some .cell
def Look(env:Env)(h:Heap)(m:Str->Option Value)(x:Str)(u:Value):Prop:=
 (env.kindOf x=some .local/\m x=some u)\/((env.kindOf x=some .cell\/env.kindOf x=some .free)/\∃c,env.cells.lookup x=some c/\h.IsCell c (some u))
structure Cx.Ok(X:Cx):Prop where
 mod:Mod X.K X.mg X.base
 kind:X.env.scope.kind=.function
 glob:X.env.globals=XT
 blt:X.env.builtins=YM
 above:X.s₀.heap.objs.size<=X.env.locals
 inj:∀x y c,X.env.cells.lookup x=some c->X.env.cells.lookup y=some c->x=y
 has:∀x,(X.env.kindOf x=some .cell\/X.env.kindOf x=some .free)->∃c,X.env.cells.lookup x=some c
 cab:∀x c,X.fn x=true->X.env.cells.lookup x=some c->X.s₀.heap.objs.size<=c
 hd:X.calm=true->X.A.handled=none
 frames:X.A.frames=some X.stack
 stk:X.stack=X.outer\/(X.stack=X.env::X.outer/\X.env.frame=some X.env.locals)
 exf:∀b∈X.ex,b≠X.env.locals/\∀x c,X.env.cells.lookup x=some c->c≠b
 bs:∀b o,X.base.get? b=some o->X.s₀.heap.get? b=some o/\X.H₀ b=none
 bsz:X.base.objs.size<=X.s₀.heap.objs.size
 noex:∀b o,X.base.get? b=some o->b∉X.ex
 exfs:∀b∈X.ex,b∉X.fs
 ny:X.s₀.heap.FunFrames X.base X.outer
 frf:∀b∈X.fs,X.H₀ b=none
structure Inv(X:Cx)(pins:List (Addr×Obj))(Y:List (Option V))(H:Hp)(s:Shared):Prop where
 ok:X.Ok
 os:s.os=X.s₀.os
 bare:YA s.gens
 base:Un X.fs X.ex X.H₀ H X.s₀.heap s.heap
 loc:∃m,s.heap.Ns X.env.locals m/\∀(i:Nat)(x:Str)(v:V),X.N[i]?=some x->Y[i]?=some (some v)->kq X.env.scope x->∃u,RelV v u/\Look X.env s.heap m x u
 cell:∀x c,X.env.cells.lookup x=some c->∃v,s.heap.IsCell c v
 free:H X.env.locals=none
 freeC:∀x c,X.env.cells.lookup x=some c->H c=none
 pin:∀p∈X.pn++pins,s.heap.get? p.1=some p.2/\H p.1=none/\p.1≠X.env.locals/\p.1∉X.fs/\∀v,p.2.data≠.cell v
 hok:kF X.prog X.w H s.heap
 len:Y.length=X.N.length
variable{g':Array GenState}{t' i j:Nat}{d':Drawn}{ch:List Addr}{it:Addr}{N:List Str}{E:Value->Shared->Prop}{u:Value}
section
variable{X:Cx}{pins:List (Addr×Obj)}{Y:List (Option V)}{H H':Hp}{s:Shared}{h':Heap}
theorem Cx.Ok.OU(ok:X.Ok){b:Addr}(e:X.base.get? b=some o):b∉X.fs:=λd=>by have:=(ok.ny.mem d).1;rw[e] at this;cases this
theorem Inv.bs(I:Inv X pins Y H s):∀b o,X.base.get? b=some o->s.heap.get? b=some o/\H b=none:=λb o e=>⟨I.base.keep b o (I.ok.bs b o e).1 (I.ok.bs b o e).2 (I.ok.OU e) (I.ok.noex b o e),I.base.free b o (I.ok.bs b o e).1 (I.ok.bs b o e).2 (I.ok.noex b o e)⟩
theorem Inv.bk(I:Inv X pins Y H s):∀b o,X.base.get? b=some o->s.heap.get? b=some o:=λb o e=>(I.bs b o e).1
theorem Inv.mod(I:Inv X pins Y H s):Mod X.K X.mg X.base:=I.ok.mod
theorem Inv.sP(I:Inv X pins Y H s):X.K.In s.heap:=I.ok.mod.kin.keeps I.bk
theorem Inv.lt(I:Inv X pins Y H s):X.env.locals<s.heap.objs.size:=let ⟨_,hn,_⟩:=I.loc;hn.lt
theorem Inv.sz(I:Inv X pins Y H s):X.s₀.heap.objs.size<=s.heap.objs.size:=Ru I.ok.above (Rk I.lt)
theorem Inv.Mq(I:Inv X pins Y H s){a:Addr}(h:s.heap.objs.size<=a):a∉X.fs:=λd=>by obtain⟨_,o,ho,_⟩:=I.ok.ny.mem d;exact absurd (QX (QZ ho) (Ru I.sz h)) (Q6 _)
theorem Inv.GA(I:Inv X pins Y H s):∀x c,X.env.cells.lookup x=some c->c≠X.env.locals:=λx c e z=>by obtain⟨v,o,ho,hd⟩:=I.cell x c e;obtain⟨m,⟨o',es,i,h,q,_⟩,_⟩:=I.loc;rw[z,h] at ho;cases ho;rw[q] at hd;cases hd
theorem Inv.ny(I:Inv X pins Y H s):s.heap.FunFrames X.base X.outer:=by
 have all:∀(l:List Env),(∀b∈kW l,b∈X.fs)->X.s₀.heap.FunFrames X.base l->s.heap.FunFrames X.base l:=by
  intro l;induction l with
  |nil=>intro _ _;trivial
  |cons env r m=>intro hs hl;obtain⟨hk,⟨L,o,hf,hn,ho,hd⟩,hr⟩:=hl;have hL:L∈X.fs:=hs L (by unfold kW;rw[Ti,hf];exact QV);obtain⟨sl,e⟩:=I.base.slot L o ho (I.ok.frf L hL) hL λz=>I.ok.exfs L z hL;exact⟨hk,⟨L,_,hf,hn,e,hd⟩,m (λb d=>hs b (by unfold kW;rw[Ti,hf];exact QM _ d)) hr⟩
 exact all X.outer (λ_ d=>d) I.ok.ny
theorem Inv.stack(I:Inv X pins Y H s):s.heap.FunFrames X.base X.stack:=by
 rcases I.ok.stk with e|⟨e,hf⟩
 .rw[e];exact I.ny
 .rw[e];obtain⟨m,hn,_⟩:=I.loc;refine .cons (by rw[I.ok.kind];decide) hf hn ?_ I.ny;exact Heap.get?_none_of_le (Ru I.ok.bsz I.ok.above)
theorem Inv.kA(I:Inv X pins Y H s):∀b∈kW X.stack,b∈X.env.locals::X.fs:=λb d=>by
 rcases I.ok.stk with e|⟨e,hf⟩
 .rw[e] at d;exact QM _ d
 .rw[e] at d;unfold kW at d;rw[Ti,hf] at d;exact d
theorem Inv.vJ(I:Inv X pins Y H s):∀b∈kW X.stack,H b=none:=λb d=>by
 rcases QL.mp (I.kA b d) with e|d
 .rw[e];exact I.free
 .obtain⟨_,o,ho,_⟩:=I.ok.ny.mem d;exact I.base.free b o ho (I.ok.frf b d) λz=>I.ok.exfs b z d
theorem Inv.step(I:Inv X pins Y H s)
  (y:∀b∈ch,(b∈X.ex\/X.s₀.heap.objs.size<=b)/\b≠X.env.locals/\(∀x c,X.env.cells.lookup x=some c->c≠b)/\∀p∈X.pn++pins,p.1≠b)
  (keep:∀b o,b≠X.env.locals->b∉X.fs->b∉ch->s.heap.get? b=some o->H b=none->h'.get? b=some o)
  (slot:∀b o,b≠X.env.locals->b∈X.fs->b∉ch->s.heap.get? b=some o->H b=none->∃sl,h'.get? b=some { o with slots:=sl })(free:∀b o,b∉ch->s.heap.get? b=some o->H b=none->H' b=none)
  (there:∀b o,b∉ch->s.heap.get? b=some o->∃o',h'.get? b=some o')
  (tups:∀b xs,H b=some (.tup xs)->H' b=some (.tup xs))(frzs:∀b o u,H b=some (.frz o u)->H' b=some (.frz o u))(tbls:∀b ps,H b=some (.tbl ps)->∃more,H' b=some (.tbl (ps++more)))
  (ns:∀m,s.heap.Ns X.env.locals m->h'.Ns X.env.locals m)(hok:kF X.prog X.w H' h')(J:YA g'):
  Inv X pins Y H' { s with heap:=h',gens:=g',drawn:=d',toks:=t' }:=by
 have F:∀b o,X.s₀.heap.get? b=some o->b≠X.env.locals:=λb o e=>Rl (QX (QZ e) I.ok.above);have D:∀b o,X.s₀.heap.get? b=some o->b∉X.ex->b∉ch:=λb o e hx E=>by
  rcases(y b E).1 with z|z
  .exact hx z
  .exact absurd (QX (QZ e) z) (Q6 _)
 have B:∀x c,X.env.cells.lookup x=some c->∀v,s.heap.IsCell c v->h'.IsCell c v:=λx c e v ⟨o,ho,hd⟩=>by
  have C:c∉ch:=λz=>(y c z).2.2.1 x c e rfl;by_cases hc:c∈X.fs
  .obtain⟨sl,q⟩:=slot c o (I.GA x c e) hc C ho (I.freeC x c e);exact⟨_,q,hd⟩
  .exact⟨o,keep c o (I.GA x c e) hc C ho (I.freeC x c e),hd⟩
 refine⟨I.ok,I.os,J,⟨λb o e n E hx=>?_,λb o e n E hx=>?_,λb o e n hx=>?_,λb o e hx=>?_,λb xs e=>tups b xs (I.base.tups b xs e),λb o xs e=>frzs b o xs (I.base.frzs b o xs e),λb ps e=>?_⟩,?_,λx c e=>?_,?_,λx c e=>?_,λp hp=>?_,hok,I.len⟩
 .exact keep b o (F b o e) E (D b o e hx) (I.base.keep b o e n E hx) (I.base.free b o e n hx)
 .obtain⟨sl,e1⟩:=I.base.slot b o e n E hx;obtain⟨G,e2⟩:=slot b _ (F b o e) E (D b o e hx) e1 (I.base.free b o e n hx);exact⟨G,e2⟩
 .obtain⟨o',e1⟩:=I.base.there b o e hx;exact free b o' (D b o e hx) e1 (I.base.free b o e n hx)
 .obtain⟨o',e1⟩:=I.base.there b o e hx;exact there b o' (D b o e hx) e1
 .obtain⟨K,e1⟩:=I.base.tbls b ps e;obtain⟨L,e2⟩:=tbls b _ e1;exact⟨K++L,by rw[e2,Array.append_assoc]⟩
 .obtain⟨m,hn,hl⟩:=I.loc;refine⟨m,ns m hn,λi x v e1 e2 N=>?_⟩;obtain⟨u,r,l⟩:=hl i x v e1 e2 N;refine⟨u,r,?_⟩;rcases l with l|⟨k,c,e,z⟩
  .exact .inl l
  .exact .inr ⟨k,c,e,B x c e _ z⟩
 .obtain⟨v,z⟩:=I.cell x c e;exact⟨v,B x c e v z⟩
 .obtain⟨m,⟨o,_,_,ho,_⟩,_⟩:=I.loc;exact free _ o (λz=>(y _ z).2.1 rfl) ho I.free
 .obtain⟨v,o,ho,hd⟩:=I.cell x c e;exact free c o (λz=>(y c z).2.2.1 x c e rfl) ho (I.freeC x c e)
 .obtain⟨e,n,ne,nf,d⟩:=I.pin p hp;have C:p.1∉ch:=λz=>(y p.1 z).2.2.2 p hp rfl;exact⟨keep p.1 p.2 ne nf C e n,free p.1 p.2 C e n,ne,nf,d⟩
theorem Inv.un(I:Inv X pins Y H s)(u:Un X.fs [] H H' s.heap h')(hok:kF X.prog X.w H' h'):Inv X pins Y H' { s with heap:=h',toks:=t' }:=by
 obtain⟨m,⟨o,es,i,ho,r⟩,_⟩:=id I.loc;obtain⟨sl,hL⟩:=u.any ho I.free Z5;exact I.step (g':=s.gens) (d':=s.drawn) (ch:=[]) (λ_ z=>nomatch z) (λb o _ d _ e n=>u.keep b o e n d Z5) (λb o _ d _ e n=>u.slot b o e n d Z5) (λb o _ e n=>u.free b o e n Z5) (λb o _ e=>u.there b o e Z5) u.tups u.frzs u.tbls (λP hm=>by obtain⟨o',x,O,h,r'⟩:=hm;rw[ho] at h;cases h;exact⟨_,x,O,hL,r'⟩) hok I.bare
theorem Inv.call(I:Inv X pins Y H s)(u:Un (kW X.stack) ch H H' s.heap h')(hok:kF X.prog X.w H' h')(J:YA g')
  (y:∀b∈ch,(b∈X.ex\/X.s₀.heap.objs.size<=b)/\b≠X.env.locals/\(∀x c,X.env.cells.lookup x=some c->c≠b)/\∀p∈X.pn++pins,p.1≠b):
  Inv X pins Y H' { s with heap:=h',gens:=g',drawn:=d',toks:=t' }:=by
 obtain⟨m,⟨o,es,i,ho,r⟩,_⟩:=id I.loc;obtain⟨sl,hL⟩:=u.any ho I.free λz=>(y _ z).2.1 rfl;exact I.step (ch:=ch) y (λb o hL d hc e n=>u.keep b o e n (λz=>(QL.mp (I.kA b z)).elim hL d) hc) (λb o _ _ hc e n=>u.any e n hc) (λb o hc e n=>u.free b o e n hc) (λb o hc e=>u.there b o e hc) u.tups u.frzs u.tbls (λP hm=>by obtain⟨o',Q,O,h,r'⟩:=hm;rw[ho] at h;cases h;exact⟨_,Q,O,hL,r'⟩) hok J
theorem Inv.turned(I:Inv X pins Y H s)(k:∀b o,b≠it->s.heap.get? b=some o->h'.get? b=some o)(hn:H it=none)(hL:it≠X.env.locals)
  (h1:it∈X.ex\/X.s₀.heap.objs.size<=it)(h2:∀x c,X.env.cells.lookup x=some c->c≠it)(h3:∀p∈X.pn++pins,p.1≠it):Inv X pins Y H { s with heap:=h',toks:=t' }:=by
 have w:∀b u,H b=some u->b≠it:=λb u e z=>by rw[z,hn] at e;cases e
 refine I.step (g':=s.gens) (d':=s.drawn) (ch:=[it]) (λb d=>?_) (λb o _ _ hc e _=>k b o (λz=>hc (by simp[z])) e) (λb o _ _ hc e _=>⟨o.slots,k b o (λz=>hc (by simp[z])) e⟩) (λ_ _ _ _ n=>n)
  (λb o hc e=>⟨o,k b o (λz=>hc (by simp[z])) e⟩) (λ_ _ e=>e) (λ_ _ _ e=>e) (λb ps e=>⟨#[],by rw[e];simp⟩) (λm hm=>?_) (λb u e=>?_) I.bare
 .have e:b=it:=by simpa using d
  subst e;exact⟨h1,hL,h2,h3⟩
 .obtain⟨o,es,i,ho,r⟩:=hm;exact⟨o,es,i,k _ o (RH hL) ho,r⟩
 .refine(I.hok b u e).iE (λc v hc q=>k c v ?_ q) (λ_ q=>q) λ_ _ q=>q;rcases hc with z|z
  .rw[z];exact w b u e
  .exact w c _ z
theorem Inv.tok(I:Inv X pins Y H s)(t:Nat):Inv X pins Y H { s with toks:=t }:=I.un (h':=s.heap) (t':=t) Un.refl I.hok
theorem Inv.kept{t':Nat}(I:Inv X pins Y H s)(k:∀b u,s.heap.get? b=some u->h'.get? b=some u):Inv X pins Y H { s with heap:=h',toks:=t' }:=I.un (Un.kept k) (I.hok.kept k)
theorem Inv.laid{a:Addr}{o:HO}{t':Nat}(I:Inv X pins Y H s)(k:∀b u,s.heap.get? b=some u->h'.get? b=some u)(hp:s.heap.objs.size<=a)(new:dD X.prog X.w (upd H a o) h' a o):
  Inv X pins Y (upd H a o) { s with heap:=h',toks:=t' }:=I.un (Un.laid k hp (I.hok.fresh hp)) (I.hok.laid k hp new)
theorem Inv.write{x e:Addr}{o:HO}{t':Nat}(I:Inv X pins Y H s)(mu:NW (H x))(he:e=x\/H e=some (.own x))(k:∀b u,b≠e->s.heap.get? b=some u->h'.get? b=some u)(r:∃u,h'.get? e=some u)
  (new:dD X.prog X.w (upd H x o) h' x o):Inv X pins Y (upd H x o) { s with heap:=h',toks:=t' }:=I.un (Un.write mu he k r) (I.hok.write mu he k r new)
theorem Inv.pR{u:List (Addr×Obj)}(I:Inv X pins Y H s)(h:∀p∈u,s.heap.get? p.1=some p.2/\H p.1=none/\p.1≠X.env.locals/\p.1∉X.fs/\∀v,p.2.data≠.cell v):Inv X u Y H s:=
 ⟨I.ok,I.os,I.bare,I.base,I.loc,I.cell,I.free,I.freeC,λp hp=>(QP.mp hp).elim (λz=>I.pin p (QI _ z)) (h p),I.hok,I.len⟩
theorem sD(hN:N.Nodup){x:Str}(a:N[i]?=some x)(b:N[j]?=some x):i=j:=by obtain⟨h1,e1⟩:=QH.mp a;obtain⟨h2,e2⟩:=QH.mp b;exact(Wb hN).mp (e1.trans e2.symm)
theorem nN{M:Model}{A:XU}{x:Str}{v:V}{Q:Unit->Shared->Prop}(I:Inv X pins Y H s)(hN:X.N.Nodup)(hi:X.N[i]?=some x)(hx:Loc X.env.scope x)(r:RelV v u)
  (h:∀s',Inv X pins (Y.set i (some v)) H s'->(∃a,T8 a s.heap s'.heap/\(a=X.env.locals\/X.env.cells.lookup x=some a))->Q () s')(hf:X.fn x=true\/X.env.scope.names.lookup x=some .local:=by first|exact .inl rfl|exact .inr rfl|assumption):XJ M A (storeName X.env x u) Q E s:=by
 obtain⟨m,hn,hl⟩:=id I.loc;have hcls:(X.env.scope.kind==.class || (X.env.scope.kind==.module&&X.env.locals != X.env.globals))=false:=by rw[I.ok.kind];rfl
 have hiσ:i<Y.length:=by rw[I.len];exact(QH.mp hi).1
 have GA:=I.GA;have tracked:∀{a:Addr}{h':Heap},(∃o,s.heap.get? a=some o/\H a=none)->T8 a s.heap h'->kF X.prog X.w H h':=λ{a h'} ha hs b ob e=>by
  obtain⟨_,_,hfree⟩:=ha;refine(I.hok b ob e).iE (λc w' hc q=>(hs.2 c ?_).trans q) (λ_ q=>q) λ_ _ q=>q;rintro rfl;rcases hc with rfl|hc
  .rw[hfree] at e;cases e
  .rw[hfree] at hc;cases hc
 rcases hx with hk|hk
 .refine wpAny_storeName_local hk hn (λh' hn' hs=>?_) hcls;obtain⟨oL,_,_,hoL,_⟩:=id hn;refine h _ ⟨I.ok,I.os,I.bare,⟨λb o e n hb hx=>?_,λb o e n hb hx=>?_,I.base.free,λb o e hx=>?_,I.base.tups,I.base.frzs,I.base.tbls⟩,⟨_,hn',λj y v' e1 e2 e3=>?_⟩,λy c e=>?_,I.free,I.freeC,λp hp=>?_,tracked ⟨oL,hoL,I.free⟩ hs,by simpa using I.len⟩ ⟨_,hs,.inl rfl⟩
  .exact(hs.2 b (Rl (QX (QZ e) I.ok.above))).trans (I.base.keep b o e n hb hx)
  .obtain⟨sl,e1⟩:=I.base.slot b o e n hb hx;exact⟨sl,(hs.2 b (Rl (QX (QZ e) I.ok.above))).trans e1⟩
  .obtain⟨o',e1⟩:=I.base.there b o e hx;exact⟨o',(hs.2 b (Rl (QX (QZ e) I.ok.above))).trans e1⟩
  .by_cases hj:j=i
   .subst hj;rw[hi] at e1;cases e1;rw[Q0 hiσ] at e2;cases e2;exact⟨u,r,.inl ⟨hk,by simp⟩⟩
   .rw[Rb (RH hj)] at e2;obtain⟨u',r',q⟩:=hl j y v' e1 e2 e3;refine⟨u',r',?_⟩;rcases q with ⟨k,e⟩|⟨k,c,e,z⟩
    .refine .inl ⟨k,?_⟩;have:y≠x:=λe=>hj (sD hN e1 (e▸hi));simp[this,e]
    .exact .inr ⟨k,c,e,z.sameBut hs (GA y c e)⟩
  .obtain⟨w',z⟩:=I.cell y c e;exact⟨w',z.sameBut hs (GA y c e)⟩
  .obtain⟨e,n,ne,nf,d⟩:=I.pin p hp;exact⟨(hs.2 p.1 ne).trans e,n,ne,nf,d⟩
 .have hfn:X.fn x=true:=by
   rcases hf with z|z
   .exact z
   .rw[z] at hk;cases hk
  obtain⟨c,hc⟩:=I.ok.has x (.inl hk);obtain⟨w',z⟩:=I.cell x c hc;refine wpAny_storeName_cell I.ok.kind hk hc z (λh' hc' hs=>?_);obtain⟨oc,hoc,hocd⟩:=id z;refine h { s with heap:=h' } ⟨I.ok,I.os,I.bare,⟨λb o e n hb hx=>?_,λb o e n hb hx=>?_,I.base.free,λb o e hx=>?_,I.base.tups,I.base.frzs,I.base.tbls⟩,⟨m,hn.sameBut hs (RH (GA x c hc)),λj y v' e1 e2 e3=>?_⟩,λy c' e=>?_,I.free,I.freeC,λp hp=>?_,tracked ⟨oc,hoc,I.freeC x c hc⟩ hs,by simpa using I.len⟩ ⟨c,hs,.inr hc⟩
  .exact(hs.2 b (Rl (QX (QZ e) (I.ok.cab x c hfn hc)))).trans (I.base.keep b o e n hb hx)
  .obtain⟨sl,e1⟩:=I.base.slot b o e n hb hx;exact⟨sl,(hs.2 b (Rl (QX (QZ e) (I.ok.cab x c hfn hc)))).trans e1⟩
  .obtain⟨o',e1⟩:=I.base.there b o e hx;exact⟨o',(hs.2 b (Rl (QX (QZ e) (I.ok.cab x c hfn hc)))).trans e1⟩
  .by_cases hj:j=i
   .subst hj;rw[hi] at e1;cases e1;rw[Q0 hiσ] at e2;cases e2;exact⟨u,r,.inr ⟨.inl hk,c,hc,hc'⟩⟩
   .rw[Rb (RH hj)] at e2;obtain⟨u',r',q⟩:=hl j y v' e1 e2 e3;refine⟨u',r',?_⟩;rcases q with q|⟨k,c',e,z'⟩
    .exact .inl q
    .refine .inr ⟨k,c',e,z'.sameBut hs ?_⟩;rintro rfl;exact hj (sD hN e1 (I.ok.inj _ _ _ e hc▸hi))
  .by_cases hcc:c'=c
   .subst hcc;exact⟨_,hc'⟩
   .obtain⟨w2,z2⟩:=I.cell y c' e;exact⟨w2,z2.sameBut hs hcc⟩
  .obtain⟨e,n,ne,nf,d⟩:=I.pin p hp;refine⟨(hs.2 p.1 ?_).trans e,n,ne,nf,d⟩;intro q;rw[q,hoc] at e;have q':oc=p.2:=Q9 e;exact d w' (by rw[<-q'];exact hocd)
theorem jN{M:Model}{A:XU}{x:Str}{v:V}{Q:Unit->Shared->Prop}(I:Inv X pins Y H s)(hN:X.N.Nodup)(hi:X.N[i]?=some x)(hx:Loc X.env.scope x)(r:RelV v u)
  (h:∀s',Inv X pins (Y.set i (some v)) H s'->Q () s')(hf:X.fn x=true\/X.env.scope.names.lookup x=some .local:=by first|exact .inl rfl|exact .inr rfl|assumption):XJ M A (storeName X.env x u) Q E s:=
 nN I hN hi hx r (λs' I' _=>h s' I') hf
theorem Inv.Lw{s':Shared}(I:Inv X pins Y H s)(ho:s'.os=s.os)(u:Un (kW X.stack) ch H H' s.heap s'.heap)(hok:kF X.prog X.w H' s'.heap)(J:YA s'.gens)
  (y:∀b∈ch,(b∈X.ex\/X.s₀.heap.objs.size<=b)/\b≠X.env.locals/\(∀x c,X.env.cells.lookup x=some c->c≠b)/\∀p∈X.pn++pins,p.1≠b):Inv X pins Y H' s':=by
 obtain⟨h',g',d',t',o'⟩:=s';have e:o'=s.os:=ho;subst e;exact I.call (g':=g') (t':=t') (d':=d') u hok J y
end
abbrev XK:=Value->Option Addr->Hp->Prop
noncomputable abbrev St:=List (Option V)
abbrev VK:=V->Hp->Prop
abbrev TE:=St->Hp->VK->Prop
abbrev TT:=St->Hp->(Bool->Hp->Prop)->Prop
abbrev TA:=St->Hp->(List V->Hp->Prop)->Prop
structure Ends where
 nx:St->Hp->Prop
 rt:VK
 bk:St->Hp->Prop:=λ_ _=>False
 ct:St->Hp->Prop:=λ_ _=>False
abbrev TS:=Ends->St->Hp->Prop
inductive EP(X:Cx)(pins:List (Addr×Obj))(Y:St)(Q:VK)(u:Value)(s':Shared):Prop
 |mk(v:V)(H':Hp)(i:Inv X pins Y H' s')(r:RelV v u)(q:Q v H')
inductive TP(X:Cx)(pins:List (Addr×Obj))(Y:St)(Q:Bool->Hp->Prop)(b:Bool)(s':Shared):Prop
 |mk(H':Hp)(i:Inv X pins Y H' s')(q:Q b H')
inductive AP(X:Cx)(pins:List (Addr×Obj))(Y:St)(Q:List V->Hp->Prop)(us:List Value)(s':Shared):Prop
 |mk(vs:List V)(H':Hp)(i:Inv X pins Y H' s')(r:Vals vs us)(q:Q vs H')
def SP(X:Cx)(pins:List (Addr×Obj))(D:Ends)(f:Flow)(s':Shared):Prop:=
 match f with
 | .next=>∃j H',Inv X pins j H' s'/\D.nx j H'
 | .brk=>∃j H',Inv X pins j H' s'/\D.bk j H'
 | .cont=>∃j H',Inv X pins j H' s'/\D.ct j H'
 | .ret u=>∃v j H',Inv X pins j H' s'/\RelV v u/\D.rt v H'
def PE(X:Cx)(e:Expr)(t:TE):Prop:=
 ∀(pins:List (Addr×Obj))(s:Shared)(Y:St)(H:Hp)(Q:VK),Inv X pins Y H s->t Y H Q->XJ (XO X.prog X.w) X.A (eval e X.env) (EP X pins Y Q) X.xe s
def PT(X:Cx)(e:Expr)(t:TT):Prop:=
 ∀(pins:List (Addr×Obj))(s:Shared)(Y:St)(H:Hp)(Q:Bool->Hp->Prop),Inv X pins Y H s->t Y H Q->XJ (XO X.prog X.w) X.A (Zd e X.env (eval e X.env)) (TP X pins Y Q) X.xe s
def PW(X:Cx)(e:Expr)(t:TT):Prop:=
 ∀(z:Sem Value)(pins:List (Addr×Obj))(s:Shared)(Y:St)(H:Hp)(Q:Bool->Hp->Prop),Inv X pins Y H s->t Y H Q->XJ (XO X.prog X.w) X.A (Zd e X.env z) (TP X pins Y Q) X.xe s
variable{X:Cx}{e:Expr}
theorem PW.pt{t:TT}(h:PW X e t):PT X e t:=h _
def PA(X:Cx)(es:List Expr)(t:TA):Prop:=
 ∀(pos:Pos)(pins:List (Addr×Obj))(s:Shared)(Y:St)(H:Hp)(Q:List V->Hp->Prop),Inv X pins Y H s->t Y H Q->XJ (XO X.prog X.w) X.A (spliced (XQ pos (XG es X.env))) (AP X pins Y Q) X.xe s
def PS(X:Cx)(st:Stmt)(t:TS):Prop:=
 ∀(pins:List (Addr×Obj))(s:Shared)(Y:St)(H:Hp)(D:Ends),Inv X pins Y H s->t D Y H->XJ (XO X.prog X.w) X.A (exec st X.env) (SP X pins D) X.xe s
def qN(X:Cx)(st:List Stmt)(t:TS):Prop:=
 ∀(pins:List (Addr×Obj))(s:Shared)(Y:St)(H:Hp)(D:Ends),Inv X pins Y H s->t D Y H->XJ (XO X.prog X.w) X.A (execs st X.env) (SP X pins D) X.xe s
variable{α:Type}{s:Shared}
theorem cC{t:Sem α}{Q H:α->Shared->Prop}{M:Model}{A:XU}(h:XJ M A t Q E s)(I:∀a s,Q a s->H a s):XJ M A t H E s:=Yk h I λ_ _ x=>x
variable{pins:List (Addr×Obj)}{Y:St}{R:V->V->Hp->Prop}{pos:Pos}{Q:Value->Shared->Prop}{op:Yw}{c:Expr}
section
variable{X:Cx}
theorem bin{a b:Expr}{ta tb:TE}(V:PE X a ta)(d:PE X b tb)(I:Inv X pins Y H s)(h:ta Y H λx U=>tb Y U λy S=>R x y S)
  {Q:α->Shared->Prop}{f:Value->Value->Sem α}
  (hf:∀v u s2 x y S,Inv X pins Y S s2->RelV x v->RelV y u->R x y S->XJ (XO X.prog X.w) X.A (f v u) Q X.xe s2):
  XJ (XO X.prog X.w) X.A (eval a X.env) (λv Z=>XJ (XO X.prog X.w) X.A (eval b X.env) (λu T=>XJ (XO X.prog X.w) X.A (f v u) Q X.xe T) X.xe Z) X.xe s:=by
 refine cC (V pins s Y H _ I h) λv s1 ⟨x,U,c,e,g⟩=>?_;refine cC (d pins s1 Y U _ c g) λu s2 ⟨y,S,j,k,l⟩=>?_;exact hf v u s2 x y S j e k l
noncomputable def mQ(i:Nat):TE:=λY H Q=>∃v,Y[i]?=some (some v)/\Q v H
noncomputable def tC(v:V):TE:=λ_ H Q=>Q v H
theorem bM{x:Str}(hN:X.N[i]?=some x)(hv:kq X.env.scope x)(hd:fC x:=by decide)(hcd:k9 x:=by decide):PE X (.Name x pos) (mQ i):=by
 intro pins s Y H Q I h;obtain⟨v,e,h⟩:=h;obtain⟨m,hn,hl⟩:=I.loc;obtain⟨u,r,l⟩:=hl i x v hN e hv;have fin:EP X pins Y Q u s:=⟨v,H,I,r,h⟩
 rcases l with ⟨hk,hm⟩|⟨hk,c,hc,hcell⟩
 .exact Zl (wpAny_loadName_local I.ok.kind hk hn hm fin) hd
 .rcases hk with hk|hk
  .exact Zl (wpAny_loadName_cell I.ok.kind hk hc hcell fin) hd
  .exact Zl (wpAny_loadName_free I.ok.kind hk hc hcell fin hcd) hd
theorem Ic{i j pos}:PE X (.Constant (.int i) j pos) (tC (.int i)):=λ_ _ _ H _ I h=>wpAny_Constant_int ⟨.int i,H,I.tok _,⟨_,rfl⟩,h⟩
theorem Ni{b j pos}:PE X (.Constant (.bool b) j pos) (tC (.bl b)):=λ_ _ _ H _ I h=>Constant_bool ⟨.bl b,H,I,rfl,h⟩
theorem Hj{j pos}:PE X (.Constant .none j pos) (tC .non):=λ_ _ _ H _ I h=>Constant_none ⟨.non,H,I,rfl,h⟩
theorem IH{x j pos}:PE X (.Constant (.str x) j pos) (tC (.str x)):=λ_ _ _ H _ I h=>Calls.Constant_str ⟨.str x,H,I.tok _,⟨_,rfl⟩,h⟩
def Gl(X:Cx)(x:Str):Prop:=X.env.kindOf x=some .globalImplicit
theorem qd{x:Str}(I:Inv X pins Y H s)(hg:Gl X x)(hm:X.mg x=some u)(h:Q u s)
  (hd:fC x:=by decide):XJ (XO X.prog X.w) X.A (eval (.Name x pos) X.env) Q E s:=
 U5 I.ok.kind hg (Calls.loadGlobal_global (by rw[I.ok.glob];exact I.mod.glob.keeps I.bk) hm h) hd
theorem hV{x:Str}(I:Inv X pins Y H s)(hg:Gl X x)(hm:X.mg x=none)(hv:XI x=some u)(h:Q u s)
  (hn:x ≠ "__name__" := by decide)(hd:fC x:=by decide):XJ (XO X.prog X.w) X.A (eval (.Name x pos) X.env) Q E s:=by
 obtain⟨mb,h1,h2⟩:=I.mod.blt;exact U5 I.ok.kind hg (Calls.loadGlobal_builtin (by rw[I.ok.glob];exact I.mod.glob.keeps I.bk) hm (by rw[I.ok.blt];exact h1.keeps I.bk) ((h2 x hn).trans hv) h) hd
theorem uF{x:Str}{v:V}(hg:Gl X x)(hm:X.mg x=some u)(r:RelV v u)(hd:fC x:=by decide):PE X (.Name x pos) (tC v):=
 λ_ _ _ H _ I h=>qd I hg hm ⟨v,H,I,r,h⟩ hd
theorem Cd{x:Str}{v:V}(hg:Gl X x)(hm:X.mg x=none)(hv:XI x=some u)(r:RelV v u)(hn:x ≠ "__name__" := by decide)(hd:fC x:=by decide):PE X (.Name x pos) (tC v):=
 λ_ _ _ H _ I h=>hV I hg hm hv ⟨v,H,I,r,h⟩ hn hd
variable{a b:Expr}{ta tb:TE}{pos:Pos}
def PC(X:Cx)(op:Yw)(a b:Expr)(t:TE):Prop:=
 ∀(pins:List (Addr×Obj))(s:Shared)(Y:St)(H:Hp)(Q:VK),Inv X pins Y H s->t Y H Q->
  XJ (XO X.prog X.w) X.A (eval a X.env) (λv Z=>XJ (XO X.prog X.w) X.A (eval b X.env) (λu T=>XJ (XO X.prog X.w) X.A (X8 op v u) (EP X pins Y Q) X.xe T) X.xe Z) X.xe s
theorem A4(b:Expr)(h:op≠.In)(h2:op≠.NotIn):XY op b=false:=by
 have e1:(op==XA)=false:=by cases op<;>first|rfl|exact absurd rfl h
 have e2:(op==WV)=false:=by cases op<;>first|rfl|exact absurd rfl h2
 cases b<;>simp[XY,e1,e2]
noncomputable def tB(t:TE):TT:=λY H Q=>t Y H λx U=>∃c,x=.bl c/\Q c U
theorem OV{t:TE}(h:PC X op a b t)(h1:XY op b=false:=by first|exact A4 _ Z3 Z3|rfl):PT X (.Compare a [op] [b] pos) (tB t):=by intro pins s Y H Q I hw;refine YY (cC (h pins s Y H _ I hw) λv s1 h1=>cC h1 λu s2 h2=>cC h2 λc s3 ⟨x,H1,I1,r1,q1⟩=>?_) h1;obtain⟨d,rfl,q⟩:=q1;cases r1;exact Yi ⟨H1,I1,q⟩
theorem Gz{t:TE}(h:PE X e t)(he:∀whole,Zd e X.env whole=(do let v <- whole;YB e.pos;holding [v] (truthy v)):=by intro _;rfl):PT X e (tB t):=by intro pins s Y H Q I hw;refine isTrue_plain (cC (h pins s Y H _ I hw) λv s1 ⟨x,H1,I1,r1,q1⟩=>?_) (he _);obtain⟨d,rfl,q⟩:=q1;cases r1;exact Yi ⟨H1,I1,q⟩
variable{tA tB':TT}{rest:List Expr}
noncomputable def Pg(t u:TT):TT:=λY H Q=>t Y H λc U=>if c=true then u Y U Q else Q false U
noncomputable def P9(t u:TT):TT:=λY H Q=>t Y H λc U=>if c=true then Q true U else u Y U Q
noncomputable def N5(t:TT):TT:=λY H Q=>t Y H λc U=>Q (!c) U
theorem D9(f:PT X a tA):PW X (.BoolOp .And [a] pos) tA:=by
 intro R pins s Y H Q I h;refine isTrue_and (cC (f pins s Y H Q I h) λc s1 e=>?_);cases c with
 |true=>exact isTrue_and_nil e
 |false=>exact e
theorem J1(f:PT X a tA):PW X (.BoolOp .Or [a] pos) tA:=by
 intro R pins s Y H Q I h;refine isTrue_or (cC (f pins s Y H Q I h) λc s1 e=>?_);cases c with
 |false=>exact isTrue_or_nil e
 |true=>exact e
theorem Jv(f:PT X a tA)(d:PW X (.BoolOp .And (b::rest) pos) tB'):PW X (.BoolOp .And (a::b::rest) pos) (Pg tA tB'):=by
 intro R pins s Y H Q I h;refine isTrue_and (cC (f pins s Y H _ I h) λc s1 ⟨U,T,g⟩=>?_);cases c with
 |true=>exact d R pins s1 Y U Q T g
 |false=>exact⟨U,T,g⟩
theorem Mo(f:PT X a tA)(d:PW X (.BoolOp .Or (b::rest) pos) tB'):PW X (.BoolOp .Or (a::b::rest) pos) (P9 tA tB'):=by
 intro R pins s Y H Q I h;refine isTrue_or (cC (f pins s Y H _ I h) λc s1 ⟨U,T,g⟩=>?_);cases c with
 |true=>exact⟨U,T,g⟩
 |false=>exact d R pins s1 Y U Q T g
theorem J2(f:PT X a tA):PT X (.UnaryOp .Not a pos) (N5 tA):=by intro pins s Y H Q I h;exact isTrue_not (cC (f pins s Y H (λc U=>Q (!c) U) I h) λc s' ⟨H',i,q⟩=>⟨H',i,q⟩)
noncomputable def LX(ta tb:TE):TE:=λY H Q=>ta Y H λx U=>∃c,x=.bl c/\if c=true then tb Y U Q else Q (.bl false) U
noncomputable def ND(ta:TE):TE:=λY H Q=>ta Y H λx U=>∃c,x=.bl c/\Q (.bl (!c)) U
theorem HI{op}{t:TE}(h:PE X a t):PE X (.BoolOp op [a] pos) t:=λpins s Y H Q I Z=>BoolOp_one (h pins s Y H Q I Z)
theorem HS(f:PE X a ta)(d:PE X (.BoolOp .And (b::rest) pos) tb):PE X (.BoolOp .And (a::b::rest) pos) (LX ta tb):=by
 intro pins s Y H Q I h;refine BoolOp_and (cC (f pins s Y H _ I h) λv s1 ⟨x,U,T,e,g⟩=>?_);obtain⟨c,rfl,g⟩:=g;cases e;refine Yi ?_;cases c with
 |true=>exact d pins s1 Y U Q T g
 |false=>exact⟨.bl false,U,T,rfl,g⟩
theorem GK(f:PE X a ta):PE X (.UnaryOp .Not a pos) (ND ta):=by intro pins s Y H Q I h;refine UnaryOp_ (cC (f pins s Y H _ I h) λv s1 ⟨x,U,T,e,g⟩=>?_);obtain⟨c,rfl,g⟩:=g;cases e;exact not_of (Yi ⟨.bl (!c),U,T,rfl,g⟩)
noncomputable def P6(t:TT)(ta tb:TE):TE:=λY H Q=>t Y H λc U=>if c=true then ta Y U Q else tb Y U Q
theorem zV(hc:PT X c tA)(f:PE X a ta)(E:PE X b tb):PE X (.IfExp c a b pos) (P6 tA ta tb):=by
 intro pins s Y H Q I h;refine wpAny_IfExp (cC (hc pins s Y H _ I h) λd s1 ⟨U,T,g⟩=>?_);cases d with
 |true=>exact f pins s1 Y U Q T g
 |false=>exact E pins s1 Y U Q T g
end
def dm(K:QF)(H:Hp)(a:Addr)(xs:List V):Prop:=
 Rd H a (.lst xs) \/
  ∃(o:Obj)(b:Array Value)(n:Nat),K.lookup a=some o/\o.cls=.type "list" /\ o.dict=none/\o.data=.seq b n/\b.size<=sizeLine/\Vals xs b.toList
def gW(K:QF)(H:Hp)(a:Addr)(xs:List V):Prop:=
 Rd H a (.tup xs) \/
  ∃(o:Obj)(b:Array Value)(n:Nat),K.lookup a=some o/\(o.cls=.type "tuple" /\ o.dict=none)/\o.data=.seq b n/\b.size<=sizeLine/\Vals xs b.toList
noncomputable def Pe:Value->Option V
 | .none=>some .non
 | .bool b=>some (.bl b)
 | .int i _=>some (.int i)
 | .str x _=>some (.str x)
 | .bytes b _=>some (.byt b)
 | .float b _=>some (.flt b)
 | .ref a=>some (.ref a)
 | .type n=>some (.ty n)
 |_=>none
theorem RelV.abs{x:V}(r:RelV x u):Pe u=some x:=by
 cases x with
 |non=>cases r;rfl
 |bl _=>cases r;rfl
 |int _=>obtain⟨t,rfl⟩:=r;rfl
 |str _=>obtain⟨t,rfl⟩:=r;rfl
 |byt _=>obtain⟨t,rfl⟩:=r;rfl
 |flt _=>obtain⟨t,rfl⟩:=r;rfl
 |ref _=>cases r;rfl
 |ty _=>cases r;rfl
theorem RelV.inj{x y:V}(r:RelV x u)(q:RelV y u):x=y:=Q9 (r.abs.symm.trans q.abs)
theorem Vals.inj:∀{xs ys:List V}{us:List Value},Vals xs us->Vals ys us->xs=ys
 |_,_,_,.nil,.nil=>rfl
 |_,_,_,.cons r t,.cons r' t'=>by rw[r.inj r',Vals.inj t t']
variable{K:QF}
section
variable{X:Cx}{pins:List (Addr×Obj)}{Y:St}{H:Hp}{s:Shared}{a:Addr}{xs ys:List V}
theorem dm.of(h:H a=some (.lst xs)):dm K H a xs:=.inl (.inl h)
theorem Inv.list(I:Inv X pins Y H s)(h:dm X.K H a xs):∃b:List Value,Vals xs b/\PlainL s.heap a b.toArray/\xs.length<=sizeLine:=by
 rcases h with h|⟨o,b,n,hk,hc,hd,hs,hz,r⟩
 .obtain⟨z,b,n,r,e⟩:=h.ok I.hok;exact⟨b,r,⟨_,n,e,rfl,rfl,rfl⟩,z⟩
 .refine⟨b.toList,r,⟨o,n,I.sP a o hk,hc,hd,by simpa using hs⟩,?_⟩;have e:=r.length;simp only[Us] at e;lia
theorem Inv.tuple(I:Inv X pins Y H s)(h:gW X.K H a xs):∃b:List Value,Vals xs b/\IsTup s.heap a b.toArray/\xs.length<=sizeLine:=by
 rcases h with h|⟨o,b,n,hk,hc,hs,hz,r⟩
 .obtain⟨z,b,r,p⟩:=h.ok I.hok;exact⟨b,r,p.t,z⟩
 .refine⟨b.toList,r,⟨o,I.sP a o hk,hc.1,n,by simpa using hs⟩,?_⟩;have e:=r.length;simp only[Us] at e;lia
theorem Inv.fR(I:Inv X pins Y H s)(h:dm X.K H a xs)(h':dm X.K H a ys):xs=ys:=by
 obtain⟨b,r,⟨o,n,e,_,_,d⟩,_⟩:=I.list h;obtain⟨its',r',⟨o',p,k,_,_,d'⟩,_⟩:=I.list h';rw[e] at k;cases k;rw[d] at d';injection d' with d1 _;have:b=its':=by simpa using Zx Vq d1
 subst this;exact r.inj r'
theorem Inv.kg(I:Inv X pins Y H s)(h:gW X.K H a xs)(h':gW X.K H a ys):xs=ys:=by
 obtain⟨b,r,⟨o,e,_,n,d⟩,_⟩:=I.tuple h;obtain⟨its',r',⟨o',k,_,p,d'⟩,_⟩:=I.tuple h';rw[e] at k;cases k;rw[d] at d';injection d' with d1 _;have:b=its':=by simpa using Zx Vq d1
 subst this;exact r.inj r'
end
variable{tc:TT}
section
variable{X:Cx}{st:Stmt}{rest:List Stmt}{t u:TS}{e:Expr}{te:TE}{pos:Pos}
noncomputable def K9:TS:=λD Y H=>D.nx Y H
noncomputable def zI(t u:TS):TS:=λD Y H=>t { D with nx:=u D } Y H
theorem DG:qN X [] K9:=λ_ _ Y H _ I h=>Yu ⟨Y,H,I,h⟩
theorem mF(h1:PS X st t)(h2:qN X rest u):qN X (st::rest) (zI t u):=by
 intro pins s Y H D I h;refine wpAny_execs_cons (cC (h1 pins s Y H { D with nx:=u D } I h) λf s1 q=>?_);cases f with
 |next=>obtain⟨j,H',a,q⟩:=q;exact h2 pins s1 j H' D a q
 |ret v=>exact q
 |brk=>exact q
 |cont=>exact q
theorem Ep(h1:PS X st t):qN X [st] t:=by
 intro pins s Y H D I h;refine wpAny_execs_cons (cC (h1 pins s Y H D I h) λf s1 q=>?_);cases f with
 |next=>exact Yu q
 |ret v=>exact q
 |brk=>exact q
 |cont=>exact q
theorem Inv.quiet(I:Inv X pins Y H s):interactive X.env=false:=by simp[interactive,I.ok.kind]
noncomputable def KD(te:TE):TS:=λD Y H=>te Y H λ_ U=>D.nx Y U
theorem Et(he:PE X e te)(hs:X4 e none pos.line X.env=pure false:=by rfl):PS X (.Expr e pos) (KD te):=by intro pins s Y H D I h;exact wpAny_Expr_any (cC (he pins s Y H _ I h) λv s1 ⟨x,H1,I1,r1,q1⟩=>⟨Y,H1,I1,q1⟩) I.quiet hs
noncomputable def OS(te:TE):TS:=λD Y H=>te Y H D.rt
theorem GD(he:PE X e te):PS X (.Return (some e) pos) (OS te):=by intro pins s Y H D I h;exact wpAny_Return_some (cC (he pins s Y H _ I h) λv s1 ⟨x,U,T,n,g⟩=>⟨x,Y,U,T,n,g⟩)
noncomputable def LJ:TS:=λD _ H=>D.rt .non H
theorem Co:PS X (.Return none pos) LJ:=λ_ _ Y H _ I h=>wpAny_Return_none ⟨.non,Y,H,I,rfl,h⟩
noncomputable def Pa(c:TT)(t u:TS):TS:=λD Y H=>c Y H λb U=>if b=true then t D Y U else u D Y U
theorem LQ{a b:List Stmt}(hc:PT X c tc)(f:qN X a t)(E:qN X b u):PS X (.If c a b pos) (Pa tc t u):=by
 intro pins s Y H D I h;refine wpAny_If (cC (hc pins s Y H _ I h) λd s1 ⟨U,T,g⟩=>?_);cases d with
 |true=>exact f pins s1 Y U D T g
 |false=>exact E pins s1 Y U D T g
end
abbrev TG:=V->St->Hp->(St->Hp->Prop)->Prop
abbrev Ff:=List V->St->Hp->(St->Hp->Prop)->Prop
def PG(X:Cx)(o:Expr)(t:TG):Prop:=
 ∀(pins:List (Addr×Obj))(s:Shared)(Y:St)(H:Hp)(v:V)(u:Value)(Q:St->Hp->Prop),Inv X pins Y H s->RelV v u->t v Y H Q->
  XJ (XO X.prog X.w) X.A (assign o X.env u) (λ_ s'=>∃j H',Inv X pins j H' s'/\Q j H') X.xe s
def Kh(X:Cx)(ts:List Expr)(t:Ff):Prop:=
 ∀(pins:List (Addr×Obj))(s:Shared)(Y:St)(H:Hp)(vs:List V)(us:List Value)(Q:St->Hp->Prop),Inv X pins Y H s->Vals vs us->t vs Y H Q->
  XJ (XO X.prog X.w) X.A (Y1 ((XZ ts X.env).map (·.2)) us) (λ_ s'=>∃j H',Inv X pins j H' s'/\Q j H') X.xe s
abbrev Hi:=V->V->V->Hp->(Hp->Prop)->Prop
def Nj(X:Cx)(t:Hi):Prop:=
 ∀(pins:List (Addr×Obj))(s:Shared)(Y:St)(H:Hp)(o i v:V)(q r u:Value)(Q:Hp->Prop),Inv X pins Y H s->RelV o q->RelV i r->RelV v u->t o i v H Q->
  XJ (XO X.prog X.w) X.A (setItem q r u) (λ_ s'=>∃H',Inv X pins Y H' s'/\Q H') X.xe s
variable{es:List Expr}{tg:Expr}{te:TE}
section
variable{X:Cx}{pos:Pos}
noncomputable def yN(i:Nat):TG:=λv Y H Q=>Q (Y.set i (some v)) H
theorem Ee{x:Str}(hN:X.N.Nodup)(hi:X.N[i]?=some x)(hx:Loc X.env.scope x)(hf:X.fn x=true\/X.env.scope.names.lookup x=some .local:=by first|exact .inl rfl|exact .inr rfl|assumption):PG X (.Name x pos) (yN i):=by intro pins s Y H v u Q I r h;exact Y7 (jN I hN hi hx r (λs' I'=>⟨_,H,I',h⟩) hf)
noncomputable def Ph:Ff:=λvs Y H Q=>vs=[]/\Q Y H
noncomputable def Fe(t:TG)(u:Ff):Ff:=λvs Y H Q=>∃v r,vs=v::r/\t v Y H λj H'=>u r j H' Q
theorem Ez:Kh X [] Ph:=by intro pins s Y H vs us Q I r h;obtain⟨e,h⟩:=h;subst e;cases r;exact Y8 ⟨Y,H,I,h⟩
theorem yh{t:TG}{u:Ff}(h1:PG X e t)(h2:Kh X es u)
  (hs:(XZ (e::es) X.env).map (·.2)=assign e X.env::(XZ es X.env).map (·.2):=by rfl):Kh X (e::es) (Fe t u):=by
 intro pins s Y H vs us Q I r h;obtain⟨v,vr,e1,h⟩:=h;subst e1;cases r with
 |cons r rr=>rw[hs];refine Yx (cC (h1 pins s Y H _ _ _ I r h) λ_ s1 ⟨σ1,H1,I1,q1⟩=>?_);exact h2 pins s1 σ1 H1 _ _ Q I1 rr q1
noncomputable def OI(K:QF)(n:Nat)(t:Ff):TG:=λv Y H Q=>∃a xs,v=.ref a/\gW K H a xs/\xs.length=n/\t xs Y H Q
theorem Ib{k:Nat}{t:Ff}{n:Nat}(hc:X.calm=true)(h:Kh X es t)
  (hn:(XZ es X.env).length=n:=by rfl)(hst:(XZ es X.env).findIdx? (·.1)=none:=by rfl):PG X (.Tuple es k pos) (OI X.K n t):=by
 intro pins s Y H v u Q I r hw;obtain⟨a,xs,e1,hq,hl,hw⟩:=hw;subst e1;cases r;obtain⟨its,rv,ht,hz⟩:=I.tuple hq;refine assign_Tuple_tuple (I.ok.hd hc) ht (by simp[hn,<-hl,rv.length]) hst λh' hx=>?_;have I1:Inv X pins Y H { s with heap:=h' }:=I.kept (t':=s.toks) λb o e=>hx b o (Rl (QZ e)) e;exact h pins _ Y H xs _ Q I1 (by simpa using rv) hw
noncomputable def ya(X u:TE)(t:Hi):TG:=λv Y H Q=>X Y H λo U=>u Y U λi S=>t o i v S λw=>Q Y w
theorem pG{o i:Expr}{to ti:TE}{t:Hi}(ho:PE X o to)(hi:PE X i ti)(hs:Nj X t)
  (ha:∀v,assign (.Subscript o i pos) X.env v=(do
   let ov <- holding [v] (eval o X.env)
   let iv <- holding [v,ov] (eval i X.env)
   YB pos
   holding [v,ov,iv] (setItem ov iv v)
   release [v,ov,iv] []):=by intro _;rfl):PG X (.Subscript o i pos) (ya to ti t):=by
 intro pins s Y H v u Q I r h;rw[ha];refine XH (Y2 (cC (ho pins s Y H _ I h) λov s1 ⟨x,H1,I1,r1,q1⟩=>?_));refine XH (Y2 (cC (hi pins s1 Y H1 _ I1 q1) λiv s2 ⟨y,H2,I2,r2,q2⟩=>?_));refine XH (YD (XH (Y2 (cC (hs pins s2 Y H2 x y v ov iv u _ I2 r1 r2 r q2) λ_ s3 ⟨H3,I3,q3⟩=>?_))));exact wpAny_release ⟨Y,H3,I3,q3⟩
noncomputable def qP(te:TE)(g:TG):TS:=λD Y H=>te Y H λx U=>g x Y U D.nx
theorem lZ{g:TG}(he:PE X e te)(hg:PG X tg g)(hs:Yr [tg] e pos.line X.env=pure false:=by rfl)(hw:Yh [tg] e X.env=pure none:=by rfl)
  (h1:(XZ [tg] X.env).map (·.2)=[assign tg X.env]:=by rfl):PS X (.Assign [tg] e pos) (qP te g):=by
 intro pins s Y H D I h;refine wpAny_Assign_stores (cC (he pins s Y H _ I h) λv s1 ⟨x,H1,I1,r1,q1⟩=>?_) hs hw;rw[h1];exact cC (hg pins s1 Y H1 x v _ I1 r1 q1) λ_ s2 q=>q
theorem Ij{x:Str}{pos':Pos}(hN:X.N.Nodup)(hi:X.N[i]?=some x)(hx:Loc X.env.scope x)(he:PE X e te)(hs:X4 e (some (.Name x pos')) pos.line X.env=pure false:=by rfl)(hf:X.fn x=true\/X.env.scope.names.lookup x=some .local:=by first|exact .inl rfl|exact .inr rfl|assumption):
  PS X (.Assign [.Name x pos'] e pos) (qP te (yN i)):=by
 intro pins s Y H D I h;refine wpAny_Assign_Name (cC (he pins s Y H _ I h) λv s1 ⟨y,H1,I1,r1,q1⟩=>?_) hs;exact jN I1 hN hi hx r1 (λs2 I2=>⟨_,H1,I2,q1⟩) hf
noncomputable def MS(i j:Nat)(ta:TA):TS:=λD Y H=>ta Y H λvs U=>∃v w,vs=[v,w]/\D.nx ((Y.set i (some v)).set j (some w)) U
theorem Kl{x y:Str}{a b:Expr}{ta:TA}{px py pt:Pos}{kt k2 pt2}(hc:X.calm=true)(hN:X.N.Nodup)(hi:X.N[i]?=some x)(hj:X.N[j]?=some y)(hij:i≠j)
  (hx:X.env.scope.names.lookup x=some .local)(hy:X.env.scope.names.lookup y=some .local)(ha:PA X [a,b] ta)
  (hw:Yh [.Tuple [.Name x px,.Name y py] kt pt] (.Tuple [a,b] k2 pt2) X.env=pure (some [x,y]))
  (hs:Yr [.Tuple [.Name x px,.Name y py] kt pt] (.Tuple [a,b] k2 pt2) pos.line X.env=pure false:=by rfl):
  PS X (.Assign [.Tuple [.Name x px,.Name y py] kt pt] (.Tuple [a,b] k2 pt2) pos) (MS i j ta):=by
 intro pins s Y H D I h;rw[exec_Assign_arm];refine XH (YD ?_);rw[hs];refine XH (XN ?_);rw[Zu Z3];refine XH (Tuple_ (cC (ha _ pins s Y H _ I h) λus s1 ⟨vs,H1,I1,r1,q1⟩=>?_));obtain⟨v,w,e1,q1⟩:=q1;subst e1;obtain⟨u1,u2,rfl,rv,rw'⟩:∃u1 u2,us=[u1,u2]/\RelV v u1/\RelV w u2:=by
  cases r1 with
  |cons p q=>
   cases q with
   |cons p' q'=>cases q';exact⟨_,_,rfl,p,p'⟩
 refine Yn ?_ (by show 2<=sizeLine;decide);have I2:Inv X pins Y H1 { s1 with heap:=s1.heap.push { cls:=.type "tuple",data:=.seq [u1,u2].toArray } }:=I1.kept (t':=s1.toks) λb o e=>QR _ e;rw[hw];refine XH (XN ?_);show XJ (XO X.prog X.w) X.A (do rule "assign.swapped-stores";let items <- unpackItems (.ref s1.heap.objs.size) 2 none;Y1 [λv=>Zm X.env y v,λv=>Zm X.env x v] items.reverse;pure XB) _ _ _;refine XH (Y4 (XH (unpackItems_tuple (items:=#[u1,u2]) (I.ok.hd hc) (IsTup.new s1.heap _) λh' hx'=>?_)));have I3:=I2.kept (h':=h') (t':=s1.toks) λb o e=>hx' b o (Rl (QZ e)) e;show XJ _ _ (Y1 [λv=>Zm X.env y v,λv=>Zm X.env x v] [u2,u1] >>= λ_=>pure XB) _ _ _;refine XH (Yx (wpAny_bindName (jN I3 hN hj (.inl hy) rw' (λs2 I4=>?_) (.inr hy))));refine Yx (wpAny_bindName (jN I4 hN hi (.inl hx) rv (fun s3 I5=>Y8 (XN ?_)) (.inr hx)));rw [List.set_comm _ _ (RH hij)] at I5;exact ⟨_,H1,I5,q1⟩
end
variable{body:List Stmt}{tb:TS}
section
variable {X:Cx} {pos:Pos}
def HL (c:TT) (tb:TS):TS:=fun D Y H=>∃ W:Nat → St → Hp → Prop,(∃ m,W m Y H) ∧ ∀ m Y H,W m Y H →
 c Y H fun b H1=>if b = true then ∃ N:St → Hp → Prop,(∀ j H',N j H' → ∃ P,P < m ∧ W P j H') ∧ tb { D with nx:=N,ct:=N,bk:=D.nx } Y H1 else D.nx Y H1
theorem yQ     (hp:YH (XO X.prog X.w) X.A X.env X.xe) (hc:PT X c tc) (d:qN X body tb):PS X (.While c body [] pos) (HL tc tb):=by
 intro pins s Y H D I h;obtain ⟨W,⟨K,L⟩,turn⟩:=h;refine wpAny_While (codeAny_whileLoop (fun n s'=>∃ j H',Inv X pins j H' s' ∧ W n j H') ?_ K ⟨Y,H,I,L⟩);rintro n s1 ⟨t,U,T,Q⟩;refine Yc hp (cC (hc pins s1 t U _ T (turn n t U Q)) λb s2 ⟨S,G,l⟩=>?_);cases b with
 |true=>
  obtain⟨N,hN,l⟩:=l;rw[Zt rfl];refine Yc hp (cC (d pins s2 t S _ G l) λf Z z=>?_);cases f with
  |next=>obtain⟨V,x,B,C⟩:=z;obtain⟨P,hm,F⟩:=hN V x C;exact⟨P,hm,V,x,B,F⟩
  |cont=>obtain⟨V,x,B,C⟩:=z;obtain⟨P,hm,F⟩:=hN V x C;exact⟨P,hm,V,x,B,F⟩
  |brk=>exact z
  |ret v=>exact z
 |false=>rw[Zu Rp];exact Yu ⟨t,S,G,l⟩
end
structure It where
 go:Nat->Hp->Prop
 yld:Nat->Hp->V->Hp->Prop
 stop:Nat->Hp->Prop
def nk(X:Cx)(pins:List (Addr×Obj))(H:Hp)(b:Addr):Prop:=
 H b=none/\b≠X.env.locals/\b∉X.fs/\(b∈X.ex\/X.s₀.heap.objs.size<=b)/\(∀x c,X.env.cells.lookup x=some c->c≠b)/\∀p∈X.pn++pins,p.1≠b
theorem Inv.wU{H':Hp}{b:Addr}(I:Inv X pins Y H s)(d:s.heap.objs.size<=b)(hn:H' b=none):nk X pins H' b:=by
 refine⟨hn,VB (QX I.lt d),I.Mq d,.inr (Ru I.sz d),λx c e z=>?_,λp hp z=>?_⟩
 .obtain⟨v,q⟩:=I.cell x c e;exact absurd (QX q.lt (by rw[z];exact d)) (Q6 _)
 .exact absurd (QX (QZ (I.pin p hp).1) (by rw[z];exact d)) (Q6 _)
structure Turn(P:Program)(w:XR)(K:QF)(tg:Expr)(J:It)(fp:List Addr)(it:Addr)(tn:Nat->Heap->Prop):Prop where
 mem:it∈fp
 obj:∀i h,tn i h->∀b∈fp,∃o,h.get? b=some o/\∀v,o.data≠.cell v
 keep:∀i h h',tn i h->(∀b∈fp,∀o,h.get? b=some o->h'.get? b=some o)->tn i h'
 item:∀(X:Cx),X.prog=P->X.w=w->X.K=K->X.calm=true->∀(i:Nat)(pins:List (Addr×Obj))(s:Shared)(Y:St)(H:Hp)(E:Value->Shared->Prop),Inv X pins Y H s->(∀b∈fp,nk X pins H b)->tn i s.heap->J.go i H->
  XJ (XO P w) X.A (pyNext (.ref it)) (λr s1=>∃u,r=some u /\
   XJ (XO P w) X.A (Yv tg (.ref it) u) (λ_ s2=>∃x H',Inv X pins Y H' s2/\RelV x u/\J.yld i H x H'/\tn (i+1) s2.heap/\∀b∈fp,H' b=none) E s1) E s
 done:∀(X:Cx),X.prog=P->X.w=w->X.K=K->X.calm=true->∀(i:Nat)(pins:List (Addr×Obj))(s:Shared)(Y:St)(H:Hp)(E:Value->Shared->Prop),Inv X pins Y H s->(∀b∈fp,nk X pins H b)->tn i s.heap->J.stop i H->
  XJ (XO P w) X.A (pyNext (.ref it)) (λr s1=>r=none/\Inv X pins Y H s1) E s
 self:∀(A:XU)(i:Nat)(s:Shared)(Q:Value->Shared->Prop)(E:Value->Shared->Prop),tn i s.heap->Q (.ref it) s->XJ (XO P w) A (pyIter (.ref it)) Q E s
abbrev TI:=St->Hp->(It->Hp->Prop)->Prop
def NT(X:Cx)(pins:List (Addr×Obj))(Y:St)(tg:Expr)(R:It->Hp->Prop)(v:Value)(s2:Shared):Prop:=
 ∃(it:Addr)(fp:List Addr)(tn:Nat->Heap->Prop)(J:It)(H':Hp),v=.ref it/\Inv X pins Y H' s2/\Turn X.prog X.w X.K tg J fp it tn/\tn 0 s2.heap/\(∀b∈fp,nk X pins H' b)/\R J H'
def PI(X:Cx)(tg iter:Expr)(D:TI):Prop:=
 ∀(pins:List (Addr×Obj))(s:Shared)(Y:St)(H:Hp)(R:It->Hp->Prop),Inv X pins Y H s->D Y H R->
  XJ (XO X.prog X.w) X.A (eval iter X.env) (λv s1=>XJ (XO X.prog X.w) X.A (pyIter v) (NT X pins Y tg R) X.xe s1) X.xe s
theorem vL{M:Model}{A:XU}{n:String}{vs:Array Value}{Q:Unit->Shared->Prop}(ho:s.heap.get? it=some o)(hc:o.cls=.type n)(hd:o.data=.fields vs)
    (hn:["enumerate", "zip", "dict_itemiterator", "dict_reverseitemiterator", "odict_iterator", "itertools.zip_longest", "itertools.pairwise"].contains n=false)(I:Q () s):XJ M A (Yv tg (.ref it) u) Q E s:=by
  unfold Yv;cases tg<;>first
    |exact XN I
    | (cases u<;>first
        |exact XN I
        | (refine XH (wpAny_load ho ?_)
           rw[hc,hd]
           show XJ M A (if (["enumerate", "zip", "dict_itemiterator", "dict_reverseitemiterator", "odict_iterator", "itertools.zip_longest", "itertools.pairwise"].contains n&&vs[0]?==some (Ze _))=true then _ else _) Q E s
           rw[Zu (by intro h;rw[hn,U8] at h;cases h)]
           exact XN I))
noncomputable def Pn(K:QF)(a:Addr):It:=
 ⟨λi H=>∃xs x,dm K H a xs/\xs[i]?=some x,λi H x H'=>H'=H/\∀xs,dm K H a xs->xs[i]?=some x,λi H=>∃xs,dm K H a xs/\xs.length<=i⟩
noncomputable def Pl(K:QF)(a:Addr):It:=
 ⟨λi H=>∃xs x,gW K H a xs/\xs[i]?=some x,λi H x H'=>H'=H/\∀xs,gW K H a xs->xs[i]?=some x,λi H=>∃xs,gW K H a xs/\xs.length<=i⟩
noncomputable def KI(lo:Int)(n:Nat):It:=⟨λi _=>i<n,λi H x H'=>H'=H/\x=.int (lo+i),λi _=>n<=i⟩
theorem xp{P:Program}(a it:Addr):Turn P w K tg (Pn K a) [it] it (λi h=>h.IsListIter it a i) where
 mem:=by simp
 obj:=λi h st b A=>by
  have e:b=it:=by simpa using A
  subst e;obtain⟨o,e,c,d⟩:=st;exact⟨o,e,λv z=>by rw[d] at z;cases z⟩
 keep:=λi h h' st k=>st.at λo e=>k it Z5 o e
 item:=by intro X j Z m hc i pins s Y H E I hf st J;subst j Z m;obtain⟨xs,x,V,hx⟩:=J;obtain⟨n,q,p,hz⟩:=I.list V;obtain⟨u,g,D⟩:=q.get hx;obtain⟨f0,r,F,t,B,C⟩:=hf it Z5;refine wpAny_pyNext_list_item st p.isList (x:=u) (by simpa using g) λh' N sb=>?_;have T:Inv X pins Y H { s with heap:=h' }:=I.turned (t':=s.toks) (λb o A e=>(sb.2 b A).trans e) f0 r t B C;obtain⟨o,e,c,d⟩:=id N;exact⟨u,rfl,vL (s:={ s with heap:=h' }) e c d Z3 ⟨x,H,T,D,⟨rfl,λys hy=>by rw[I.fR hy V];exact hx⟩,N,λb A=>(hf b A).1⟩⟩
 done:=by intro X j Z m hc i pins s Y H E I hf st J;subst j Z m;obtain⟨xs,V,hx⟩:=J;obtain⟨n,q,p,hz⟩:=I.list V;obtain⟨f0,r,F,t,B,C⟩:=hf it Z5;have hl:=q.length;exact wpAny_pyNext_list_end (I.ok.hd hc) st p.isList (by simp;lia) λh' G=>⟨rfl,I.turned (t':=s.toks) (λb o A e=>G b o A e) f0 r t B C⟩
 self:=λ_ _ _ _ _ st h=>wpAny_pyIter_listiter st h
theorem sJ{P:Program}(a it:Addr):Turn P w K tg (Pl K a) [it] it (λi h=>h.IsTupleIter it a i) where
 mem:=by simp
 obj:=λi h st b A=>by
  have e:b=it:=by simpa using A
  subst e;obtain⟨o,e,c,d⟩:=st;exact⟨o,e,λv z=>by rw[d] at z;cases z⟩
 keep:=λi h h' st k=>st.at λo e=>k it Z5 o e
 item:=by intro X L Z m hc i pins s Y H E I hf st J;subst L Z m;obtain⟨xs,x,V,hx⟩:=J;obtain⟨j,q,p,hz⟩:=I.tuple V;obtain⟨u,g,D⟩:=q.get hx;obtain⟨f0,r,F,t,B,C⟩:=hf it Z5;refine wpAny_pyNext_tuple_item st (show s.heap.IsTuple a j.toArray from p) (x:=u) (by simpa using g) λh' N sb=>?_;have T:Inv X pins Y H { s with heap:=h' }:=I.turned (t':=s.toks) (λb o A e=>(sb.2 b A).trans e) f0 r t B C;obtain⟨o,e,c,d⟩:=id N;exact⟨u,rfl,vL (s:={ s with heap:=h' }) e c d Z3 ⟨x,H,T,D,⟨rfl,λys hy=>by rw[I.kg hy V];exact hx⟩,N,λb A=>(hf b A).1⟩⟩
 done:=by intro X L Z m hc i pins s Y H E I hf st J;subst L Z m;obtain⟨xs,V,hx⟩:=J;obtain⟨j,q,p,hz⟩:=I.tuple V;obtain⟨f0,r,F,t,B,C⟩:=hf it Z5;have hl:=q.length;exact wpAny_pyNext_tuple_end (I.ok.hd hc) st (show s.heap.IsTuple a j.toArray from p) (by simp;lia) λh' G=>⟨rfl,I.turned (t':=s.toks) (λb o A e=>G b o A e) f0 r t B C⟩
 self:=λ_ _ _ _ _ st h=>wpAny_pyIter_tupleiter st h
theorem tD{P:Program}(it:Addr)(lo:Int)(n:Nat):Turn P w K tg (KI lo n) [it] it (λi h=>Zf h it (lo+(i:Nat)*1) ((n:Int)-(i:Nat)) 1) where
 mem:=by simp
 obj:=λi h st b d=>by
  have e:b=it:=by simpa using d
  subst e;exact⟨_,st,λv z=>by have c:Data.fields _=Data.cell v:=z;cases c⟩
 keep:=λi h h' st k=>k it Z5 _ st
 item:=by intro X L Z m hc i pins s Y H E I hf st J;subst L Z m;obtain⟨f0,r,F,a,B,C⟩:=hf it Z5;have W:=WW (prog:=X.prog) (w:=X.w) (I.ok.hd hc) it lo 1 n;refine W.item i s _ _ J st λv h' tk A N u=>?_;obtain⟨t,rfl⟩:=A;have T:Inv X pins Y H { s with heap:=h',toks:=tk }:=I.turned (λb o d e=>u b o (by simpa using d) e) f0 r a B C;refine⟨_,rfl,vL (s:={ s with heap:=h',toks:=tk }) (n:= "range_iterator") N rfl rfl Z3 ⟨.int (lo+i),H,T,⟨t,?_⟩,⟨rfl,rfl⟩,N,λb d=>(hf b d).1⟩⟩;rw[SA]
 done:=by intro X L Z m hc i pins s Y H E I hf st J;subst L Z m;obtain⟨f0,r,F,a,B,C⟩:=hf it Z5;exact YN (I.ok.hd hc) st (by have:n<=i:=J;lia) λh' G=>⟨rfl,I.turned (t':=s.toks) (λb o d e=>G b o d e) f0 r a B C⟩
 self:=λ_ _ _ _ _ st h=>YO st h
variable{p:Pos}{fp:List Addr}
section
variable{X:Cx}{tg:Expr}
theorem se{R:It->Hp->Prop}{lo hi:Int}{t u v:Tok}{tk:Nat}(I:Inv X pins Y H s)(h1:-(2^62)<=lo)(h2:lo<2^62)(h3:-(2^62)<=hi)(h4:hi<2^62)
  (q:R (KI lo (hi-lo).toNat) H):XJ (XO X.prog X.w) X.A (pyIter (.ref s.heap.objs.size)) (NT X pins Y tg R) E { s with heap:=s.heap.push { cls:=.type "range",data:=.fields #[.int lo t,.int hi u,.int 1 v] },toks:=tk }:=by
 refine Y5 (Wz ..) (small_one h1 h2 h3 h4) ?_;have T:Inv X pins Y H { s with heap:=s.heap.push { cls:=.type "range",data:=.fields #[.int lo t,.int hi u,.int 1 v] },toks:=tk }:=I.kept λb o e=>QR _ e;refine⟨(s.heap.push { cls:=.type "range",data:=.fields #[.int lo t,.int hi u,.int 1 v] }).objs.size,[(s.heap.push { cls:=.type "range",data:=.fields #[.int lo t,.int hi u,.int 1 v] }).objs.size],_,_,H,rfl,
  T.kept (t':=tk) λb o e=>QR _ e,tD _ lo (hi-lo).toNat,?_,λb d=>?_,q⟩
 .have e1:lo+((0:Nat):Int)*1=lo:=by simp
  have e2:(((hi-lo).toNat:Nat):Int)-((0:Nat):Int)=Si lo hi 1:=by rw[rangeSize_one];split<;>lia
  show Zf _ _ (lo+((0:Nat):Int)*1) ((((hi-lo).toNat:Nat):Int)-((0:Nat):Int)) 1;rw[e1,e2];exact Q3 _ rfl
 .have e:b=(s.heap.push { cls:=.type "range",data:=.fields #[.int lo t,.int hi u,.int 1 v] }).objs.size:=by simpa using d
  subst e;exact T.wU (QN _) (T.hok.fresh (QN _))
def MK(ta:TA):TI:=λY H R=>ta Y H λvs U=>∃j:Int,vs=[.int j] /\ -(2^62)<=j/\j<2^62/\R (KI 0 j.toNat) U
def MM(ta:TA):TI:=λY H R=>ta Y H λvs U=>∃i j:Int,vs=[.int i,.int j]/\(-(2^62)<=i/\i<2^62 /\ -(2^62)<=j/\j<2^62)/\R (KI i (j-i).toNat) U
theorem xg{a:Expr}{ta:TA}(hg:Gl X "range")(hm:X.mg "range" = none)(ha:PA X [a] ta)(hs:XG [a] X.env=[(false,eval a X.env)]:=by rfl):PI X tg (.Call (.Name "range" p) [a] [] pos) (MK ta):=by
 intro pins s Y H R I h;refine Call_ (hV I hg hm YQ (RP (cC (ha pos pins s Y H _ I h) λus s1 ⟨vs,H1,I1,r1,q1⟩=>?_) hs rfl));obtain⟨j,e,q1,q2,q⟩:=q1;subst e;cases r1 with
 |cons r rr=>cases rr;obtain⟨t,rfl⟩:=r;exact call_range_1 (se I1 Q1 Q1 q1 q2 (by simpa using q))
theorem wM{a b:Expr}{ta:TA}(hg:Gl X "range")(hm:X.mg "range" = none)(ha:PA X [a,b] ta)(hs:XG [a,b] X.env=[(false,eval a X.env),(false,eval b X.env)]:=by rfl)(hs2:XG [b] X.env=[(false,eval b X.env)]:=by rfl):
  PI X tg (.Call (.Name "range" p) [a,b] [] pos) (MM ta):=by
 intro pins s Y H R I h;refine Call_ (hV I hg hm YQ (RP (cC (ha pos pins s Y H _ I h) λus s1 ⟨vs,H1,I1,r1,q1⟩=>?_) (by rw[hs,hs2]) (by rw[hs2];rfl)));obtain⟨i,j,e,⟨q1,q2,q3,q4⟩,q⟩:=q1;subst e;cases r1 with
 |cons r rr=>
  cases rr with
  |cons r' rr=>cases rr;obtain⟨t,rfl⟩:=r;obtain⟨t',rfl⟩:=r';exact call_range_2 (se I1 q1 q2 q3 q4 q)
def NY(o:TI)(g:TG)(tb:TS):TS:=λD Y H=>o Y H λJ U=>∃W:Nat->Nat->St->Hp->Prop,(∃m,W 0 m Y U)/\∀i m Y H,W i m Y H->
 (J.stop i H/\D.nx Y H)\/(J.go i H/\∃N:St->Hp->Prop,(∀j H',N j H'->∃X,X<m/\W (i+1) X j H')/\∀x H',J.yld i H x H'->g x Y H' λP S=>tb { D with nx:=N,ct:=N,bk:=D.nx } P S)
noncomputable def mK(fp:List Addr)(h:Heap):List (Addr×Obj):=fp.filterMap λb=>(h.get? b).map λo=>(b,o)
theorem gm{b:Addr}(d:b∈fp)(e:h.get? b=some o):(b,o)∈mK fp h:=UB.mpr ⟨b,d,by rw[e];rfl⟩
theorem xh{p:Addr×Obj}(hp:p∈mK fp h):p.1∈fp/\h.get? p.1=some p.2:=by
 obtain⟨b,d,e⟩:=UB.mp hp;cases q:h.get? b with
 |none=>rw[q] at e;cases e
 |some o=>rw[q] at e;have k:(b,o)=p:=Q9 e;subst k;exact⟨d,q⟩
theorem Inv.pinned(I:Inv X pins Y H s)(hf:∀b∈fp,nk X pins H b)(ho:∀b∈fp,∃o,s.heap.get? b=some o/\∀v,o.data≠.cell v):Inv X (pins++mK fp s.heap) Y H s:=
 I.pR λp hp=>(QP.mp hp).elim (λz=>I.pin p (QG _ z)) λz=>by obtain⟨E,e⟩:=xh z;obtain⟨f0,r,F,_⟩:=hf p.1 E;obtain⟨o,k,d⟩:=ho p.1 E;rw[e] at k;cases k;exact⟨e,f0,r,F,d⟩
theorem Inv.d9{pl:List (Addr×Obj)}(I:Inv X (pins++pl) Y H s):Inv X pins Y H s:=I.pR λp hp=>I.pin p (QG _ (QI _ hp))
theorem Jb{iter:Expr}{wi:TI}{g:TG}(hp:YH (XO X.prog X.w) X.A X.env X.xe)(hc:X.calm=true)(hi:PI X tg iter wi)(hg:PG X tg g)(hb:qN X body tb)
  (hs:∀x,X0 iter X.env x=pure x:=by intro _;rfl):PS X (.For tg iter body [] pos) (NY wi g tb):=by
 intro pins s Y H D I h;refine wpAny_For (cC (hi pins s Y H _ I h) λv s1 h1=>cC h1 λitv s2 h2=>?_) hs;obtain⟨it,fp,tn,J,H2,e,I2,T,st2,f2,W,⟨m0,w0⟩,turn⟩:=h2;subst e;have stat:∀{H':Hp},(∀b∈fp,H' b=none)->∀b∈fp,nk X pins H' b:=λhn b hb=>⟨hn b hb,(f2 b hb).2⟩
 refine codeAny_forLoop_any (λn s'=>∃i j H',Inv X pins j H' s'/\tn i s'.heap/\(∀b∈fp,H' b=none)/\W i n j H') ?_ m0 ⟨0,Y,H2,I2,st2,λb hb=>(f2 b hb).1,w0⟩;rintro n s3 ⟨i,V,H3,I3,st3,fr3,w3⟩;rcases turn i n V H3 w3 with ⟨stop,qn⟩|⟨go,N,hN,step⟩
 .refine Yc hp (cC (T.done X rfl rfl rfl hc i pins s3 V H3 X.xe I3 (stat fr3) st3 stop) λr s4 ⟨hr,I4⟩=>?_);subst hr;exact Yu ⟨V,H3,I4,qn⟩
 .refine Yc hp (cC (T.item X rfl rfl rfl hc i pins s3 V H3 X.xe I3 (stat fr3) st3 go) λr s4 ⟨u,hr,h4⟩=>?_);subst hr;refine Yc hp (cC h4 λ_ s5 ⟨x,H5,I5,r5,y5,st5,fr5⟩=>?_);have I5':=I5.pinned (stat fr5) (T.obj _ _ st5);refine Yc hp (cC (hg _ s5 V H5 x u _ I5' r5 (step x H5 y5)) λ_ s6 ⟨σ6,H6,I6,q6⟩=>?_);refine Yc hp (cC (hb _ s6 σ6 H6 _ I6 q6) λf s7 q7=>?_);have again:∀{Z:St}{H7:Hp},Inv X (pins++mK fp s5.heap) Z H7 s7->N Z H7->∃m,m<n/\∃i j H',Inv X pins j H' s7/\tn i s7.heap/\(∀b∈fp,H' b=none)/\W i m j H':=λ{Z H7} I7 n7=>by obtain⟨m',hm,w7⟩:=hN Z H7 n7;refine⟨m',hm,i+1,Z,H7,I7.d9,T.keep _ _ _ st5 λb hb o e=>(I7.pin (b,o) (QG _ (QG _ (gm hb e)))).1,λb hb=>?_,w7⟩;obtain⟨o,e,d⟩:=T.obj _ _ st5 b hb;exact(I7.pin (b,o) (QG _ (QG _ (gm hb e)))).2.1
  cases f with
  |next=>obtain⟨Z,H7,I7,n7⟩:=q7;exact again I7 n7
  |cont=>obtain⟨Z,H7,I7,n7⟩:=q7;exact again I7 n7
  |brk=>obtain⟨Z,H7,I7,q7⟩:=q7;exact⟨Z,H7,I7.d9,q7⟩
  |ret v=>obtain⟨x7,Z,H7,I7,r7,q7⟩:=q7;exact⟨x7,Z,H7,I7.d9,r7,q7⟩
end
abbrev R2:=V->V->Hp->VK->Prop
def iR(X:Cx)(f:Value->Value->Sem Value)(r:R2):Prop:=
 ∀(pins:List (Addr×Obj))(s:Shared)(Y:St)(H:Hp)(x y:V)(v u:Value)(Q:VK),Inv X pins Y H s->RelV x v->RelV y u->r x y H Q->
  XJ (XO X.prog X.w) X.A (f v u) (EP X pins Y Q) X.xe s
def O8(X:Cx)(f:Value->Sem Value)(r:V->Hp->VK->Prop):Prop:=
 ∀(pins:List (Addr×Obj))(s:Shared)(Y:St)(H:Hp)(x:V)(v:Value)(Q:VK),Inv X pins Y H s->RelV x v->r x H Q->
  XJ (XO X.prog X.w) X.A (f v) (EP X pins Y Q) X.xe s
def dg(X:Cx)(f:Value)(r:List V->Hp->VK->Prop):Prop:=
 ∀(pins:List (Addr×Obj))(s:Shared)(Y:St)(H:Hp)(xs:List V)(us:List Value)(Q:VK),Inv X pins Y H s->Vals xs us->r xs H Q->
  XJ (XO X.prog X.w) X.A (call f us) (EP X pins Y Q) X.xe s
noncomputable def Hn(r:R2)(ta tb:TE):TE:=λY H Q=>ta Y H λx U=>tb Y U λy S=>r x y S Q
noncomputable def Qf(r:V->Hp->VK->Prop)(ta:TE):TE:=λY H Q=>ta Y H λx U=>r x U Q
noncomputable def rI(C:Int->Int->Prop)(g:Int->Int->V):R2:=λx y H Q=>∃i j,x=.int i/\y=.int j/\C i j/\Q (g i j) H
noncomputable def xU(g:Int->Int->V):R2:=λx y H Q=>∃i j,x=.int i/\y=.int j/\Q (g i j) H
def rU(g:Int->V):V->Hp->VK->Prop:=λx H Q=>∃i,x=.int i/\Q (g i) H
variable{f:Value->Value->Sem Value}{r:R2}
section
variable{X:Cx}{a b c:Expr}{ta tb tc:TE}{pos:Pos}
theorem GL(V:PE X a ta)(d:PE X b tb)(I:Inv X pins Y H s)
  (h:ta Y H λx U=>tb Y U λy S=>R x y S)
  (hf:∀v u s2 x y S,Inv X pins Y S s2->RelV x v->RelV y u->R x y S->XJ (XO X.prog X.w) X.A (f v u) Q X.xe s2):
  XJ (XO X.prog X.w) X.A (eval a X.env) (λv Z=>XJ (XO X.prog X.w) X.A (eval b X.env) (λu T=>XJ (XO X.prog X.w) X.A (f v u) Q X.xe T) X.xe Z) X.xe s:=by
 refine cC (V pins s Y H _ I h) λv s1 ⟨x,U,c,e,g⟩=>?_;refine cC (d pins s1 Y U _ c g) λu s2 ⟨y,S,j,k,l⟩=>?_;exact hf v u s2 x y S j e k l
theorem MP{op:Zn}(ho:iR X (Yj op) r)(f:PE X a ta)(d:PE X b tb):PE X (.BinOp a op b pos) (Hn r ta tb):=by intro pins s Y H Q I h;exact wpAny_BinOp (GL f d I h λv u s2 x y S j w z q=>ho pins s2 Y S x y v u Q j w z q)
theorem MX{op:UnaryOp}{r:V->Hp->VK->Prop}(ho:O8 X (unaryOp op) r)(f:PE X a ta):PE X (.UnaryOp op a pos) (Qf r ta):=by intro pins s Y H Q I h;exact UnaryOp_ (cC (f pins s Y H _ I h) λv s1 ⟨x,U,T,e,g⟩=>ho pins s1 Y U x v Q T e g)
theorem oH{C:Int->Int->Prop}{g:Int->Int->Int}
  (rule:∀(i j:Int)(t u:Tok)(s:Shared)(Q:Value->Shared->Prop)(E:Value->Shared->Prop),C i j->Q (.int (g i j) s.toks) { s with toks:=s.toks+1 }->XJ (XO X.prog X.w) X.A (f (.int i t) (.int j u)) Q E s):
  iR X f (rI C λi j=>.int (g i j)):=by
 intro pins s Y H x y v u Q I K z h;obtain⟨i,j,rfl,rfl,hc,q⟩:=h;obtain⟨t,rfl⟩:=K;obtain⟨t',rfl⟩:=z;exact rule i j t t' s _ _ hc ⟨.int (g i j),H,I.tok _,⟨_,rfl⟩,q⟩
theorem MZ{g:Int->Int->Int}
  (rule:∀(i j:Int)(t u:Tok)(s:Shared)(Q:Value->Shared->Prop)(E:Value->Shared->Prop),Q (.int (g i j) s.toks) { s with toks:=s.toks+1 }->XJ (XO X.prog X.w) X.A (f (.int i t) (.int j u)) Q E s):
  iR X f (xU λi j=>.int (g i j)):=by
 intro pins s Y H x y v u Q I K z h;obtain⟨i,j,rfl,rfl,q⟩:=h;obtain⟨t,rfl⟩:=K;obtain⟨t',rfl⟩:=z;exact rule i j t t' s _ _ ⟨.int (g i j),H,I.tok _,⟨_,rfl⟩,q⟩
theorem Kg{g:Int->Int->Bool}
  (rule:∀(i j:Int)(t u:Tok)(s:Shared)(Q:Value->Shared->Prop)(E:Value->Shared->Prop),Q (.bool (g i j)) s->XJ (XO X.prog X.w) X.A (f (.int i t) (.int j u)) Q E s):
  iR X f (xU λi j=>.bl (g i j)):=by
 intro pins s Y H x y v u Q I K z h;obtain⟨i,j,rfl,rfl,q⟩:=h;obtain⟨t,rfl⟩:=K;obtain⟨t',rfl⟩:=z;exact rule i j t t' s _ _ ⟨.bl (g i j),H,I,rfl,q⟩
def MA(i j:Int):Prop:=0<=j/\j<=1000000/\i.natAbs<2^64
theorem GJ:iR X (Yj .Add) (xU λi j=>.int (i+j)):=MZ λ_ _ _ _ _ _ _ q=>add_int q
theorem HJ:iR X (Yj .Sub) (xU λi j=>.int (i-j)):=MZ λ_ _ _ _ _ _ _ q=>sub_int q
theorem Df:iR X (Yj .Mod) (rI (λ_ j=>j≠0) λi j=>.int (i.fmod j)):=oH λ_ _ _ _ _ _ _ hc q=>mod_int' hc q
theorem G6:iR X (Yj .Pow) (rI MA λi j=>.int (i^j.toNat)):=oH λ_ _ _ _ _ _ _ hc q=>pow_int_small hc.1 hc.2.1 hc.2.2 q
theorem Qa{f:Value->Sem Value}{g:Int->Int}
  (rule:∀(i:Int)(t:Tok)(s:Shared)(Q:Value->Shared->Prop)(E:Value->Shared->Prop),Q (.int (g i) s.toks) { s with toks:=s.toks+1 }->XJ (XO X.prog X.w) X.A (f (.int i t)) Q E s):
  O8 X f (rU λi=>.int (g i)):=by
 intro pins s Y H x v Q I K h;obtain⟨i,rfl,q⟩:=h;obtain⟨t,rfl⟩:=K;exact rule i t s _ _ ⟨.int (g i),H,I.tok _,⟨_,rfl⟩,q⟩
theorem IQ:O8 X (unaryOp .USub) (rU λi=>.int (-i)):=Qa λ_ _ _ _ _ q=>neg_int q
end
variable{us:List Value}
section
variable{X:Cx}{a b c:Expr}{ta tb tc:TE}{pos:Pos}
theorem Ab{Q:VK}{k v:Bool}(I:Inv X pins Y H s)(q:Q (.bl k) H)(e:k=v):EP X pins Y Q (.bool v) s:=by subst e;exact⟨.bl k,H,I,rfl,q⟩
theorem fS:iR X (X8 .Lt) (xU λi j=>.bl (decide (i<j))):=Kg λ_ _ _ _ _ _ _ q=>lt_int q
theorem iU:iR X (X8 .Gt) (xU λi j=>.bl (decide (j<i))):=Kg λ_ _ _ _ _ _ _ q=>gt_int q
theorem FK:iR X (X8 .GtE) (xU λi j=>.bl (decide (j<=i))):=Kg λ_ _ _ _ _ _ _ q=>ge_int q
theorem yn:iR X (X8 .Is) (λx y H Q=>y=.non/\Q (.bl (decide (x=.non))) H):=by
 intro pins s Y H x y v u Q I K z h;obtain⟨rfl,q⟩:=h;cases z;refine is_none_gen (Ab I q ?_);cases x<;>first
  |(cases K;rfl)
  |(obtain⟨t,rfl⟩:=K;rfl)
theorem vY:iR X (X8 .IsNot) (λx y H Q=>y=.non/\Q (.bl (!decide (x=.non))) H):=by
 intro pins s Y H x y v u Q I K z h;obtain⟨rfl,q⟩:=h;cases z;refine isnot_none_gen (Ab I q ?_);cases x<;>first
  |(cases K;rfl)
  |(obtain⟨t,rfl⟩:=K;rfl)
theorem dE(b:Expr)(h:op≠.In:=by decide)(h2:op≠.NotIn:=by decide):XY op b=false:=by
 have e1:(op==XA)=false:=by cases op<;>first|rfl|exact absurd rfl h
 have e2:(op==WV)=false:=by cases op<;>first|rfl|exact absurd rfl h2
 cases b<;>simp[XY,e1,e2]
theorem EK(ho:iR X (X8 op) r)(f:PE X a ta)(d:PE X b tb)(hm:XY op b=false):PE X (.Compare a [op] [b] pos) (Hn r ta tb):=by intro pins s Y H Q I h;exact wpAny_Compare1 (GL f d I h λv u s2 x y S j K z q=>ho pins s2 Y S x y v u Q j K z q) hm
noncomputable def LB(t:TE):TT:=λY H Q=>t Y H λx H'=>∃k,x=.bl k/\Q k H'
theorem uZ(ho:iR X (X8 op) r)(f:PE X a ta)(d:PE X b tb)(hm:XY op b=false):PT X (.Compare a [op] [b] pos) (LB (Hn r ta tb)):=by
 intro pins s Y H Q I h;refine YY (cC (f pins s Y H _ I h) λv s1 ⟨x,U,T,n,g⟩=>cC (d pins s1 Y U _ T g) λu s2 ⟨y,S,j,O,l⟩=>cC (ho pins s2 Y S x y v u _ j n O l) λc Z ⟨z,w,B,o,k,e,p⟩=>?_) hm
 subst e;cases o;exact Yi ⟨w,B,p⟩
theorem kB:(sizeLine:Nat)<2^63:=by rw[Yd];decide
theorem vals1{x:V}(r:Vals [x] us):∃u,us=[u]/\RelV x u:=by
 cases r with
 |cons e k=>cases k;exact⟨_,rfl,e⟩
theorem vals2{x y:V}(r:Vals [x,y] us):∃u Y,us=[u,Y]/\RelV x u/\RelV y Y:=by
 cases r with
 |cons e k=>
  cases k with
  |cons o H=>cases H;exact⟨_,_,rfl,e,o⟩
theorem zk:dg X (.builtin "abs") (λxs H Q=>∃i,xs=[.int i]/\Q (.int (if i<0 then -i else i)) H):=by intro pins s Y H xs us Q I r h;obtain⟨i,rfl,q⟩:=h;obtain⟨u,rfl,t,rfl⟩:=vals1 r;exact call_abs_int λu tk=>⟨.int (if i<0 then -i else i),H,I.tok _,⟨_,rfl⟩,q⟩
theorem wt(hc:X.calm=true):dg X (.builtin "max") (λxs H Q=>∃i j,xs=[.int i,.int j]/\Q (.int (if j > i then j else i)) H):=by
 intro pins s Y H xs us Q I r h;obtain⟨i,j,rfl,q⟩:=h;obtain⟨u,a,rfl,⟨t,rfl⟩,⟨t',rfl⟩⟩:=vals2 r;refine max_two_ints (I.ok.hd hc) λh' tk k=>⟨_,H,I.kept k,?_,q⟩
 by_cases x:j > i
 .rw[Zt x,Zt x];exact⟨_,rfl⟩
 .rw[Zu x,Zu x];exact⟨_,rfl⟩
theorem wL(hc:X.calm=true):dg X (.builtin "min") (λxs H Q=>∃i j,xs=[.int i,.int j]/\Q (.int (if j<i then j else i)) H):=by
 intro pins s Y H xs us Q I r h;obtain⟨i,j,rfl,q⟩:=h;obtain⟨u,a,rfl,⟨t,rfl⟩,⟨t',rfl⟩⟩:=vals2 r;refine min_two_ints (I.ok.hd hc) λh' tk k=>⟨_,H,I.kept k,?_,q⟩
 by_cases x:j<i
 .rw[Zt x,Zt x];exact⟨_,rfl⟩
 .rw[Zu x,Zu x];exact⟨_,rfl⟩
theorem xj:dg X (.type "int") (λxs H Q=>(∃i,xs=[.int i]/\Q (.int i) H)\/∃k,xs=[.bl k]/\Q (.int (if k then 1 else 0)) H):=by
 intro pins s Y H xs us Q I r h;rcases h with ⟨i,rfl,q⟩|⟨k,rfl,q⟩
 .obtain⟨u,rfl,t,rfl⟩:=vals1 r;exact call_int_int ⟨.int i,H,I,⟨_,rfl⟩,q⟩
 .obtain⟨u,rfl,e⟩:=vals1 r;cases e;exact call_int_bool ⟨.int (if k then 1 else 0),H,I.tok _,⟨_,rfl⟩,q⟩
def KS(K:QF)(x:V)(H:Hp)(n:Nat):Prop:=
 match x with
 | .str y=>y.length<=sizeLine/\n=y.length
 | .byt y=>y.size<=sizeLine/\n=y.size
 | .ref p=>(∃xs,dm K H p xs/\n=xs.length)\/∃xs,gW K H p xs/\n=xs.length
 |_=>False
theorem AV:dg X (.builtin "len") (λxs H Q=>∃x n,xs=[x]/\KS X.K x H n/\Q (.int n) H):=by
 intro pins s Y H xs us Q I r h;obtain⟨x,n,rfl,e,q⟩:=h;obtain⟨u,rfl,w⟩:=vals1 r;have hl:=kB;have hs:sizeLine=16777216:=Yd;cases x with
 |str y=>obtain⟨t,rfl⟩:=w;obtain⟨hy,k⟩:y.length<=sizeLine/\n=y.length:=e;subst k;exact len_str Q1 ⟨.int _,H,I.tok _,⟨_,rfl⟩,q⟩
 |byt y=>obtain⟨t,rfl⟩:=w;obtain⟨hy,k⟩:y.size<=sizeLine/\n=y.size:=e;subst k;exact PySem.W.len_bytes Q1 ⟨.int _,H,I.tok _,⟨_,rfl⟩,q⟩
 |ref p=>
  cases w;have k:(∃xs,dm X.K H p xs/\n=xs.length)\/∃xs,gW X.K H p xs/\n=xs.length:=e;rcases k with ⟨xs,hx,k⟩|⟨xs,hx,k⟩
  .subst k;obtain⟨b,r',pl,hz⟩:=I.list hx;have v:=r'.length;exact VN pl.isList (by simp only[QO];lia) ⟨.int xs.length,H,I.tok _,⟨_,by simp only[QO];rw[v]⟩,q⟩
  .subst k;obtain⟨b,r',pl,hz⟩:=I.tuple hx;have v:=r'.length;exact len_tuple pl (by simp only[QO];lia) ⟨.int xs.length,H,I.tok _,⟨_,by simp only[QO];rw[v]⟩,q⟩
 |_=>exact(show False from e).elim
end
structure sS(h:Heap)(x dx C:Addr)(mA:Str->Option Value):Prop where
 obj:h.get? x=some (Sg C dx)
 ns:h.Ns1 dx mA
 ne:dx≠x
variable{dx:Addr}{mA:Str->Option Value}
theorem wG(n:h.Ns1 dx mA):∃od,h.get? dx=some od/\∀name,Ud name od=some (mA name):=by
 obtain⟨o,es,i,ho,hd,hk,_,hm⟩:=n;refine⟨o,ho,λname=>?_⟩;have e:=hm name;unfold nsFind findBy at e;rw[<-Array.find?_toList] at e;unfold Ud;rw[hd];dsimp only;split
 .rename_i y q;rw[q] at e;exact Zx some e
 .rename_i q;rw[q] at e;have a:es.toList.any (·.refKey)=false:=by rw[TB];intro y hy;obtain⟨z,t,Y⟩:=hk y (Array.mem_toList_iff.mp hy);simp[DictEntry.refKey,Y]
  have a':¬ es.toList.any (·.refKey)=true:=by rw[a];exact Rp
  rw[Zu a'];exact Zx some e
variable{C:Addr}
theorem sS.look{x:Addr}(I:sS h x dx C mA):∃od,PySem.W.InstAt h x (Sg C dx) C (some od)/\∀name,Ud name od=some (mA name):=
 let ⟨od,ho,hl⟩:=wG I.ns
 ⟨od,⟨I.obj,rfl,rfl,ho⟩,hl⟩
variable{kw:List (Str×Value)}
section
variable{prog:Program}{w:XR}{A:XU}{E:Value->Shared->Prop}{s:Shared}{K:QF}{x dx C f:Addr}{mA:Str->Option Value}{name:Str}{v:Value}
theorem get_map{expr:Bool}(X:K.In s.heap)(I:sS s.heap x dx C mA)(Y:S1 K C name=true)(u:Tt K C=true)
  (f:RN K (.ref C) name=some none)(c:mA name=some v)(H:VU v=true)(h:Q v { s with toks:=s.toks+1 }):
  XJ (XO prog w) A (getAttr (.ref x) name expr) Q E s:=by
 obtain⟨od,J,hl⟩:=I.look;exact PySem.W.get_value X J (Up Y).1 (PySem.W.findObj_own u f rfl (by rw[hl,c])) H h
theorem Ae{pl:Sem Bool}{Q:Value×List Value->Shared->Prop}(X:K.In s.heap)(I:sS s.heap x dx C mA)(Y:S1 K C name=true)
  (hf:RN K (.ref C) name=some (some (.ref f)))(l:Ux K (.ref f)=true)(c:mA name=none)(h:Q (.ref f,[.ref x]) s):
  XJ (XO prog w) A (YI (.ref x) name pl) Q E s:=by
 obtain⟨od,J,hl⟩:=I.look;exact PySem.W.method_fn X J (Up Y).1 (Up Y).2 hf (Zy.mp l) (by show (Ud name od).map (·.isSome)=some false;rw[hl,c];rfl) h
theorem DN{ns:List Str}{Q:Unit->Shared->Prop}(X:K.In s.heap)(I:sS s.heap x dx C mA)
  (hs:RN K (.ref C) "__setattr__" = some (some (.builtin "object.__setattr__")))(hp:Uy K C=true)(l:US K C name=some none)(u:Tt K C=true)
  (Z:Vp mA ns)(hsz:ns.length<=sizeLine)
  (h:∀h',sS h' x dx C (λy=>if y=name then some v else mA y)->T8 dx s.heap h'->Q () { s with heap:=h',toks:=s.toks+2 }):
  XJ (XO prog w) A (setAttr (.ref x) name v) Q E s:=by
 obtain⟨od,J,hl⟩:=I.look;refine PySem.W.set_plain X J hs (PySem.W.osa_open (s:={ s with toks:=s.toks+1 }) (r:=none) X J hp l λb=>?_);obtain⟨cd,hc,q⟩:=PySem.W.any_some u;have hx:s.heap.get? x=some ⟨.ref C,some dx,.plain,#[]⟩:=I.obj;refine XH (XN (XH (XH (wpAny_loadPart hx (XH (W5 (s:={ s with toks:=s.toks+1 }) (PySem.W.looks_clsIn X hc) ?_))))));rw[q];refine XN (a:=some dx) (XH (XN (XH ?_)));refine wpAny_nsSet1 (s:={ s with toks:=s.toks+1 }) I.ns λh' H O=>?_;obtain⟨N,D,L,n,p,t⟩:=H.count (Xc name v Z);refine XH (wpAny_lookBehind n (by rw[p];exact pastItsLine_dict (Ru t (by rw[QU];lia))) ?_);exact XN (h _ ⟨(O.2 _ (RH I.ne)).trans I.obj,H,I.ne⟩ O)
theorem BY{R:Result->Shared->Prop}{vs:List Value}(X:K.In s.heap)(hm:UT K C=true)
  (hi:RN K (.ref C) "__init__" = some (some (.ref f)))(hf:PySem.W.typeIn K (.ref f)=some (.type "function"))
  (h:YC (XO prog w) (A.under (.builtin "type.__call__" ⟨.ref C::vs,kw⟩)) (.call (.ref f) ⟨.ref (s.heap.objs.size+1)::vs,kw⟩) (PySem.W.InitBack (s.heap.objs.size+1) R)
   { s with heap:=(s.heap.push RV).push (Sg C s.heap.objs.size) }):
  YC (XO prog w) A (.call (.ref C) ⟨vs,kw⟩) R s:=by
 obtain⟨u,g,d,t,os⟩:=s;exact PySem.W.make_core (PySem.W.makes_of X hm) (PySem.W.looks_findIn X hi) (λself=>PySem.W.bind_fn X self hf) (.inl rfl) h
end
noncomputable def dU(f:Str)(v:V):List (Str×V)->List (Str×V)
 |[]=>[(f,v)]
 |(g,x)::r=>if g=f then (g,v)::r else (g,x)::dU f v r
theorem d5(f g:Str)(v:V):∀fs:List (Str×V),(dU f v fs).lookup g=if g=f then some v else fs.lookup g
 |[]=>by
  show Te g [(f,v)]=_;by_cases h:g=f
  .have d:(g==f)=true:=Zy.mpr h;simp only[Te,d,Zt h]
  .have d:(g==f)=false:=beq_eq_false_iff_ne.mpr h;simp only[Te,d,Zu h]
 |(k,x)::r=>by
  have m:=d5 f g v r;rw[show dU f v ((k,x)::r)=(if k=f then (k,v)::r else (k,x)::dU f v r) from rfl];by_cases hk:k=f
  .rw[Zt hk];by_cases h:g=k
   .have d:(g==k)=true:=Zy.mpr h;simp only[Te,d,Zt (h.trans hk)]
   .have d:(g==k)=false:=beq_eq_false_iff_ne.mpr h;simp only[Te,d,Zu (λe:g=f=>h (e.trans hk.symm))]
  .rw[Zu hk];by_cases h:g=k
   .have d:(g==k)=true:=Zy.mpr h;simp only[Te,d,Zu (λe:g=f=>hk (h.symm.trans e))]
   .have d:(g==k)=false:=beq_eq_false_iff_ne.mpr h;simp only[Te,d];exact m
theorem j6(f:Str)(v:V):∀fs:List (Str×V),f∈(dU f v fs).map (·.1)/\∀g,g∈fs.map (·.1)->g∈(dU f v fs).map (·.1)
 |[]=>⟨by simp[dU],λg h=>by simp at h⟩
 |(k,x)::r=>by
  obtain⟨s,I⟩:=j6 f v r;rw[show dU f v ((k,x)::r)=(if k=f then (k,v)::r else (k,x)::dU f v r) from rfl];by_cases hk:k=f
  .rw[Zt hk];subst hk;exact⟨by simp,λg h=>by simpa using h⟩
  .rw[Zu hk];refine⟨?_,λg h=>?_⟩
   .rw[Rv];exact QM _ s
   .rw[Rv] at h ⊢;rcases QL.mp h with e|e
    .exact QL.mpr (.inl e)
    .exact QM _ (I g e)
theorem fB(f:Str)(v:V):∀fs:List (Str×V),(dU f v fs).length<=fs.length+1
 |[]=>by simp[dU]
 |(k,x)::r=>by
  have m:=fB f v r;rw[show dU f v ((k,x)::r)=(if k=f then (k,v)::r else (k,x)::dU f v r) from rfl];by_cases hk:k=f
  .rw[Zt hk,QU,QU];lia
  .rw[Zu hk,QU,QU];lia
theorem m8.some_of{v:V}{o:Option Value}(r:m8 (some v) o):∃u,o=some u/\RelV v u:=by
 cases o with
 |none=>exact(show False from r).elim
 |some u=>exact⟨u,rfl,r⟩
theorem m8.none_of{o:Option Value}(r:m8 none o):o=none:=by
 cases o with
 |none=>rfl
 |some u=>exact(show False from r).elim
theorem xK{v:V}(r:RelV v u):VU u=true:=by
 cases v with
 |non=>cases (show u=S9 from r);rfl
 |bl b=>cases (show u=VT b from r);rfl
 |int i=>obtain⟨t,e⟩:=(show ∃t,u=TV i t from r);cases e;rfl
 |str x=>obtain⟨t,e⟩:=(show ∃t,u=V5 x t from r);cases e;rfl
 |byt b=>obtain⟨t,e⟩:=(show ∃t,u=WT b t from r);cases e;rfl
 |flt b=>obtain⟨t,e⟩:=(show ∃t,u=WU b t from r);cases e;rfl
 |ref a=>cases (show u=R0 a from r);rfl
 |ty n=>cases (show u=W4 n from r);rfl
section
variable{P:Program}{w:XR}{H H':Hp}{h h':Heap}{a C dx:Addr}{fs Z2:List (Str×V)}
theorem pT(hok:kF P w H h)(e:H a=some (.ins C dx fs)):∃mA,sS h a dx C mA/\(∀f,m8 (fs.lookup f) (mA f))/\Vp mA (fs.map (·.1))/\fs.length<=1000/\H dx=some (.own a):=by
 obtain⟨d,z,ne,ob,mA,n,r,q⟩:=(show dD P w H h a (.ins C dx fs) from hok a _ e)
 exact⟨mA,⟨ob,n,ne⟩,r,q,z,d⟩
end
structure hJ(K:QF)(C:Addr):Prop where
 pg:S1 K C Str.empty=true
 hd:Tt K C=true
 po:Uy K C=true
 sa:RN K (.ref C) "__setattr__" = some (some (.builtin "object.__setattr__"))
theorem hJ.get(c:hJ K C)(f:Str):S1 K C f=true:=c.pg
def bV(K:QF)(C:Addr)(f:Str):Prop:=RN K (.ref C) f=some none
theorem bV.MD{f:Str}(n:bV K C f):US K C f=some none:=by unfold US;rw[show RN K (.ref C) f=some none from n];rfl
structure Meth(K:QF)(C:Addr)(m:Str)(f:Addr):Prop where
 at_:RN K (.ref C) m=some (some (.ref f))
 fn:Ux K (.ref f)=true
 kp:Sa K (.ref f)=true
section
variable{X:Cx}{pins:List (Addr×Obj)}{Y:St}{H:Hp}{s:Shared}{a C dx:Addr}{fs:List (Str×V)}{f:Str}{v:V}{A:XU}{E:Value->Shared->Prop}
theorem sV{b:Bool}(I:Inv X pins Y H s)(e:H a=some (.ins C dx fs))(c:hJ X.K C)(n:bV X.K C f)(l:fs.lookup f=some v)
  (h:∀u s',Inv X pins Y H s'->RelV v u->Q u s'):XJ (XO X.prog X.w) A (getAttr (.ref a) f b) Q E s:=by
 obtain⟨mA,O,r,_,_,_⟩:=pT I.hok e;obtain⟨u,g,D⟩:=m8.some_of (v:=v) (o:=mA f) (by rw[<-l];exact r f);exact get_map I.sP O (c.get f) c.hd n g (xK D) (h u _ (I.tok _) D)
theorem jf{m:Str}{g:Addr}{pl:Sem Bool}{Q:Value×List Value->Shared->Prop}(I:Inv X pins Y H s)(e:H a=some (.ins C dx fs))(c:hJ X.K C)(k:Meth X.K C m g)(l:fs.lookup m=none)
  (h:Q (.ref g,[.ref a]) s):XJ (XO X.prog X.w) A (YI (.ref a) m pl) Q E s:=by
 obtain⟨mA,O,r,_,_,_⟩:=pT I.hok e;have hn:mA m=none:=m8.none_of (by rw[<-l];exact r m);exact Ae I.sP O (c.get m) k.at_ k.fn hn h
theorem tX{y:V}{Q:Unit->Shared->Prop}(I:Inv X pins Y H s)(e:H a=some (.ins C dx fs))(c:hJ X.K C)(n:bV X.K C f)(hl:fs.length<1000)(P:RelV y u)
  (h:∀s',Inv X pins Y (upd H a (.ins C dx (dU f y fs))) s'->Q () s'):XJ (XO X.prog X.w) A (setAttr (.ref a) f u) Q E s:=by
 obtain⟨mA,O,r,D,_,ho⟩:=pT I.hok e;have hz:(fs.map (·.1)).length<=sizeLine:=by rw[QK,Yd];lia
 refine DN I.sP O c.sa c.po n.MD c.hd D hz λh' v sb=>h _ ?_;have hd:∃o,h'.get? dx=some o:=let ⟨o,_,_,e',_⟩:=v.ns;⟨o,e'⟩
 refine I.write (x:=a) (e:=dx) (by rw[e];exact V1) (.inr ho) (λb q d z=>(sb.2 b d).trans z) hd ?_;refine⟨by rw[ao O.ne];exact ho,?_,O.ne,v.obj,_,v.ns,λg=>?_,λg J=>?_⟩
 .have:=fB f y fs;lia
 .show m8 ((dU f y fs).lookup g) (if g=f then some u else mA g);rw[d5];by_cases q:g=f
  .rw[Zt q,Zt q];exact P
  .rw[Zu q,Zu q];exact r g
 .by_cases q:g=f
  .rw[q];exact(j6 f y fs).1
  .refine(j6 f y fs).2 g (D g λz=>J ?_);show (if g=f then some u else mA g)=none;rw[Zu q];exact z
theorem Inv.made(I:Inv X pins Y H s):Inv X pins Y (upd (upd H s.heap.objs.size (.own (s.heap.objs.size+1))) (s.heap.objs.size+1) (.ins C s.heap.objs.size []))
  { s with heap:=(s.heap.push RV).push (Sg C s.heap.objs.size) }:=by
 have e1:(s.heap.push RV).get? s.heap.objs.size=some RV:=Q3 s.heap rfl;have e2:((s.heap.push RV).push (Sg C s.heap.objs.size)).get? (s.heap.objs.size+1)=some (Sg C s.heap.objs.size):=by have:=Q3 (s.heap.push RV) (o:=Sg C s.heap.objs.size) rfl;rwa[RW] at this
 have N:(s.heap.push RV).Ns s.heap.objs.size (λ_=>none):=⟨RV,#[],_,e1,rfl,(λe he=>absurd he Z5),λ_=>rfl⟩
 have T:=I.laid (a:=s.heap.objs.size) (o:=.own (s.heap.objs.size+1)) (h':=s.heap.push RV) (t':=s.toks) (λb u q=>QR _ q) (QN _) ⟨_,e1⟩;refine T.laid (a:=s.heap.objs.size+1) (o:=.ins C s.heap.objs.size []) (t':=s.toks) (λb u q=>QR _ q) (Ue (RW _ _)) ?_;have ne:s.heap.objs.size≠s.heap.objs.size+1:=Rl (Sd _);refine⟨by rw[ao ne,aI],SD _,ne,e2,λ_=>none,(Heap.Ns1.of_empty N).at λo q=>QR _ q,λ_=>V1,λy hy=>absurd rfl hy⟩
theorem Ey{prog:Program}{env:Env}{f:Str}(d:XM e f env (eval e env)=eval e env)
  (h:XJ (XO prog w) A (eval e env) (λo Z=>XJ (XO prog w) A (getAttr o f true) Q E Z) E s):XJ (XO prog w) A (eval (.Attribute e f pos) env) Q E s:=
 Attribute_any_ h (by rw[arm_eval_Attribute,d])
end
def En(K:QF)(ta:TE)(f:Str):TE:=λY H Q=>ta Y H λx U=>∃a C dx fs v,x=.ref a/\U a=some (.ins C dx fs)/\hJ K C/\bV K C f/\fs.lookup f=some v/\Q v U
section
variable{X:Cx}{o e value:Expr}{f:Str}{pos pos' tpos:Pos}{ta tv:TE}
theorem eV(he:PE X e ta)(d:XM e f X.env (eval e X.env)=eval e X.env):PE X (.Attribute e f pos) (En X.K ta f):=by intro pins s Y H Q I h;refine Ey d (cC (he pins s Y H _ I h) λu s1 ⟨x,U,T,w,a,C,dx,fs,v,ex,y,c,n,l,q⟩=>?_);subst ex;obtain rfl:u=R0 a:=w;exact sV T y c n l λA s2 j D=>⟨v,U,j,D,q⟩
theorem Fn{pl:Sem Bool}{m:Str}{apos:Pos}{args:List Expr}(he:PE X e te)(I:Inv X pins Y H s)
  (h:te Y H λx U=>∃a C dx fs g,x=.ref a/\U a=some (.ins C dx fs)/\hJ X.K C/\Meth X.K C m g/\fs.lookup m=none /\
   ∀s1,Inv X pins Y U s1->XJ (XO X.prog X.w) X.A (Y9 pos (.ref g) [.ref a] (XQ pos (XG args X.env)) (X6 pos (XW [] X.env))) Q X.xe s1)
  (y:eval (.Call (.Attribute e m apos) args [] pos) X.env=(do
   let ov <- eval e X.env
   YB apos.atName
   let (f,first) <- holding [ov] (YI ov m pl)
   Y9 pos f first (XQ pos (XG args X.env)) (X6 pos (XW [] X.env)))):
  XJ (XO X.prog X.w) X.A (eval (.Call (.Attribute e m apos) args [] pos) X.env) Q X.xe s:=by
 refine T4 (pl:=pl) (cC (he pins s Y H _ I h) λu s1 ⟨x,U,T,E,a,C,dx,fs,g,ex,O,c,k,l,q⟩=>?_) y;subst ex;obtain rfl:u=R0 a:=E;exact jf T O c k l (q s1 T)
end
section
variable{X:Cx}{pins:List (Addr×Obj)}{Y:St}{H:Hp}{s:Shared}{A:XU}{E:Value->Shared->Prop}{Q:Value->Shared->Prop}{c:Value}{b:Bool}
inductive BP(K:QF)(H:Hp):V->Value->Prop where
 |non:BP K H .non (.type "NoneType")
 |bl(x:Bool):BP K H (.bl x) (.type "bool")
 |int(i:Int):BP K H (.int i) (.type "int")
 |str(x:Str):BP K H (.str x) (.type "str")
end
structure cY(k:Nat)(A:XU):Prop where
 hd:A.handled=none
 dp:A.depth+3*k+5<recursionLimit
 un:A.units+16*k+200<cLine
theorem cY.mono{k:Nat}{A:XU}(r:cY k A)(h:j<=k):cY j A:=⟨r.hd,by have:=r.dp;lia,by have:=r.un;lia⟩
theorem cY.deeper{k:Nat}{A:XU}(r:cY (k+1) A)(env:Env):cY k (A.deeper env):=
 ⟨r.hd,by have:=r.dp;show A.depth+1+3*k+5<_;lia,by have:=r.un;show A.units+3+16*k+200<_;lia⟩
theorem tF{A:XU}:(A.under (.builtin "type.__call__" ⟨.ref C::us,kw⟩)).depth=A.depth+1:=by first|rfl|simp[Vk,Code.weight,Code.isCreation,Code.isGuard,Code.isCaller,W6,Vu,guardIds]
theorem tj{A:XU}:(A.under (.builtin "type.__call__" ⟨.ref C::us,kw⟩)).units=A.units+1:=by first|rfl|simp[Vk,Code.cUnits,W6,Vu]
theorem cY.make{k:Nat}{A:XU}(r:cY (k+1) A)(C:Addr)(us:List Value)(kw:List (Str×Value)):cY k (A.under (.builtin "type.__call__" ⟨.ref C::us,kw⟩)):=
 ⟨r.hd,by have:=r.dp;rw[tF];lia,by have:=r.un;rw[tj];lia⟩
theorem cY.depth{k:Nat}{A:XU}(r:cY k A):A.depth<recursionLimit:=by have:=r.dp;lia
theorem cY.units{k:Nat}{A:XU}(r:cY k A):A.units+64<cLine:=by have:=r.un;lia
noncomputable def Kz:TA:=λ_ H Q=>Q [] H
noncomputable def Lz(ta:TE)(tr:TA):TA:=λY H Q=>ta Y H λx U=>tr Y U λxs S=>Q (x::xs) S
section
variable{X:Cx}{e:Expr}{es:List Expr}{te:TE}{t:TA}{pos:Pos}
theorem cu:PA X [] Kz:=λ_ _ _ _ H Q I h=>Calls.spliced_nil ⟨[],H,I,.nil,h⟩
theorem aX(ha:PE X e te)(hr:PA X es t)(hs:XG (e::es) X.env=(false,eval e X.env)::XG es X.env:=by rfl):PA X (e::es) (Lz te t):=by intro pos pins s Y H Q I h;rw[hs];show XJ _ _ (spliced ((false,eval e X.env)::XQ pos (XG es X.env))) _ _ s;refine Calls.spliced_cons (cC (ha pins s Y H _ I h) λu s1 ⟨x,H1,I1,r1,q1⟩=>?_);exact cC (hr pos pins s1 Y H1 _ I1 q1) λus s2 ⟨xs,H2,I2,r2,q2⟩=>⟨x::xs,H2,I2,.cons r1 r2,q2⟩
def OK(t:TA):TE:=λY H Q=>t Y H λxs U=>xs.length<=sizeLine/\∀p,U p=none->Q (.ref p) (upd U p (.tup xs))
def Ot(t:TA):TE:=λY H Q=>t Y H λxs U=>xs.length<=sizeLine/\∀p,U p=none->Q (.ref p) (upd U p (.lst xs))
theorem GU{x1}(h:PA X es t):PE X (.Tuple es x1 pos) (OK t):=by intro pins s Y H Q I V;refine wpAny_Tuple_spliced (cC (h pos pins s Y H _ I V) λus s1 ⟨xs,U,T,r,z,q⟩=>⟨by rw[<-r.length];exact z,?_⟩);have hf:U s1.heap.objs.size=none:=T.hok.fresh (QN _);refine⟨.ref s1.heap.objs.size,upd U s1.heap.objs.size (.tup xs),T.laid (t':=s1.toks) (λb u e=>QR _ e) (QN _) ?_,rfl,q _ hf⟩;exact⟨z,us,r,⟨_,Q3 _ rfl,rfl,_,rfl,rfl⟩⟩
theorem Hb(h:PA X es t):PE X (.List es pos) (Ot t):=by intro pins s Y H Q I V;refine wpAny_List_spliced (cC (h pos pins s Y H _ I V) λus s1 ⟨xs,U,T,r,z,q⟩=>⟨by rw[<-r.length];exact z,?_⟩);have hf:U s1.heap.objs.size=none:=T.hok.fresh (QN _);refine⟨.ref s1.heap.objs.size,upd U s1.heap.objs.size (.lst xs),T.laid (t':=s1.toks) (λb u e=>QR _ e) (QN _) ?_,rfl,q _ hf⟩;exact⟨z,us,0,r,Q3 _ rfl⟩
end
abbrev Sp:=List V->Hp->VK->XK->Prop
abbrev qr:=List Env->Hp->Shared->XK->Value->Shared->Prop
structure tK(P:Program)(w:XR)(K:QF)(mg:Str->Option Value)(base:Heap)(A:XU)(outer:List Env)(s:Shared)(H:Hp):Prop where
 frames:A.frames=some outer
 mod:Mod K mg base
 bs:∀b o,base.get? b=some o->s.heap.get? b=some o/\H b=none
 bsz:base.objs.size<=s.heap.objs.size
 ny:s.heap.FunFrames base outer
 frf:∀b∈kW outer,H b=none
 hok:kF P w H s.heap
 bare:YA s.gens
def CE(outer:List Env)(P:Program)(w:XR)(H:Hp)(s:Shared)(Q:VK)(u:Value)(s':Shared):Prop:=
 ∃v H',s'.os=s.os/\YA s'.gens/\Un (kW outer) [] H H' s.heap s'.heap/\kF P w H' s'.heap/\RelV v u/\Q v H'
def CR(CX:qr)(outer:List Env)(P:Program)(w:XR)(H:Hp)(s:Shared)(Q:VK)(E:XK)(r:Result)(s':Shared):Prop:=
 match r with
 | .ok (.ret u)=>CE outer P w H s Q u s'
 | .ok _=>False
 | .error e=>CX outer H s E e s'
structure dJ(P:Program)(w:XR)(K:QF)(mg:Str->Option Value)(base:Heap)(CX:qr)(k:Nat)(f:Addr)(fd:XX)(ps:List Str)(sp:Sp):Prop where
 len:∀vs H Q E,sp vs H Q E->vs.length=ps.length
 run:∀(A:XU)(outer:List Env)(s:Shared)(H:Hp)(args:Args)(us:List Value)(vs:List V)(Q:VK)(E:XK),cY k A->tK P w K mg base A outer s H->YR s fd args (ps.zip us)->Vals vs us->sp vs H Q E->
  YC (XO P w) A (.call (.ref f) args) (CR CX outer P w H s Q E) s
theorem dJ.mono{P:Program}{w:XR}{K:QF}{mg:Str->Option Value}{base:Heap}{CX:qr}{j k:Nat}{f:Addr}{fd:XX}{ps:List Str}{sp:Sp}(F:dJ P w K mg base CX j f fd ps sp)(h:j<=k):
  dJ P w K mg base CX k f fd ps sp:=⟨F.len,λA outer s H args us vs Q E hr=>F.run A outer s H args us vs Q E (hr.mono h)⟩
variable{mg:Str->Option Value}{base:Heap}{CX:qr}{fd:XX}{ps:List Str}
theorem dJ.imp{P:Program}{k:Nat}{f:Addr}{sp X:Sp}(F:dJ P w K mg base CX k f fd ps sp)
  (h:∀vs H Q E,X vs H Q E->sp vs H Q E):dJ P w K mg base CX k f fd ps X:=
 ⟨λvs H Q E q=>F.len vs H Q E (h _ _ _ _ q),λA outer s H args us vs Q E hr he d c hs=>F.run A outer s H args us vs Q E hr he d c (h _ _ _ _ hs)⟩
variable{outer:List Env}
theorem tK.make{P:Program}{A:XU}(e:tK P w K mg base A outer s H)(C:Addr)(us:List Value)(kw:List (Str×Value)):
  tK P w K mg base (A.under (.builtin "type.__call__" ⟨.ref C::us,kw⟩)) outer s H:=⟨by first|exact e.frames|(simpa[Vk,Code.envs,Vu,pushEnvs] using e.frames),e.mod,e.bs,e.bsz,e.ny,e.frf,e.hok,e.bare⟩
section
variable{X:Cx}{pins:List (Addr×Obj)}{Y:St}{H:Hp}{s s':Shared}
theorem Inv.Ld(I:Inv X pins Y H s):tK X.prog X.w X.K X.mg X.base X.A X.stack s H:=
 ⟨I.ok.frames,I.ok.mod,I.bs,Ru I.ok.bsz I.sz,I.stack,I.vJ,I.hok,I.bare⟩
theorem Inv.after{Q:VK}(I:Inv X pins Y H s)(h:CE X.stack X.prog X.w H s Q u s'):EP X pins Y Q u s':=by obtain⟨v,H',os,bare,un,hok,r,q⟩:=h;obtain⟨R,g,d,t,x⟩:=s';obtain rfl:x=s.os:=os;exact⟨v,H',I.call (h':=R) (g':=g) (d':=d) (t':=t) (ch:=[]) un hok bare (λb z=>absurd z Z5),r,q⟩
end
noncomputable def Nt(sp:Sp)(dvs:List V)(E:XK)(t:TA):TE:=λY H Q=>t Y H λvs U=>sp (vs++dvs) U Q E
def vw(C:Addr)(m:Str)(sp:Sp)(dvs:List V)(E:XK)(ta:TE)(t:TA):TE:=λY H Q=>ta Y H λx U=>∃a dx fs,x=.ref a/\U a=some (.ins C dx fs)/\fs.lookup m=none /\
 t Y U λvs S=>sp (x::(vs++dvs)) S Q E
def FL(C:Addr)(sp:Sp)(dvs:List V)(E:XK)(t:TA):TE:=λY H Q=>t Y H λvs U=>∀x dx,U x=none->U dx=none->dx≠x->
 sp (.ref x::(vs++dvs)) (upd (upd U dx (.own x)) x (.ins C dx [])) (λv S=>v=.non/\Q (.ref x) S) E
def Binds(K:QF)(fd:XX)(ps:List Str)(ds:List Value):Prop:=
 ∀(s:Shared)(us:List Value),K.In s.heap->(us++ds).length=ps.length->YR s fd ⟨us,[]⟩ (ps.zip (us++ds))
theorem Binds.all(h:∀us:List Value,us.length=ps.length->bindArgs fd ⟨us,[]⟩=pure (ps.zip us)):Binds K fd ps []:=λs us _ hl=>by rw[RK] at hl ⊢;exact .of_eq (h us hl)
def Passes(CX:qr)(X:Cx)(E:XK):Prop:=∀(pins:List (Addr×Obj))(Y:St)(H:Hp)(s:Shared)(e:Value)(s':Shared),Inv X pins Y H s->CX X.stack H s E e s'->X.xe e s'
variable{vs:List V}
section
variable{X:Cx}{CX:qr}{k:Nat}{f C:Addr}{fd:XX}{ps:List Str}{sp:Sp}{dvs:List V}{ds:List Value}{E:XK}{x m:Str}{p pos apos:Pos}{e o:Expr}{es:List Expr}{ta:TE}{t:TA}
theorem ua{Q:VK}(F:dJ X.prog X.w X.K X.mg X.base CX k f fd ps sp)(hr:cY k X.A)(d:Binds X.K fd ps ds)(hd:Vals dvs ds)(hx:Passes CX X E)
  (I:Inv X pins Y H s)(r:Vals vs us)(h:sp (vs++dvs) H Q E):XJ (XO X.prog X.w) X.A (call (.ref f) us) (EP X pins Y Q) X.xe s:=by
 have O:Vals (vs++dvs) (us++ds):=r.append hd;have hl:(us++ds).length=ps.length:=by rw[<-O.length];exact F.len _ _ _ _ h
 refine wpAny_call (YS (F.run X.A X.stack s H ⟨us,[]⟩ (us++ds) (vs++dvs) Q E hr I.Ld (d s us I.sP hl) O h) λr s' V=>?_);cases r with
 |error e=>exact hx pins Y H s e s' I V
 |ok fl=>
  cases fl with
  |ret u=>exact I.after V
  |next=>exact Sn V
  |brk=>exact Sn V
  |cont=>exact Sn V
theorem Cf(F:dJ X.prog X.w X.K X.mg X.base CX k f fd ps sp)(hr:cY k X.A)(hg:Gl X x)(hm:X.mg x=some (.ref f))(hk:Sa X.K (.ref f)=true)(hb:Binds X.K fd ps ds)(hd:Vals dvs ds)(hx:Passes CX X E)
  (ha:PA X (e::es) t)(hdb:fC x:=by decide)(he:XG (e::es) X.env=(false,eval e X.env)::XG es X.env:=by rfl)(hpl:(XQ pos (XG es X.env)).any (·.1)=false:=by rfl):
  PE X (.Call (.Name x p) (e::es) [] pos) (Nt sp dvs E t):=by
 intro pins s Y H Q I h;refine Yl (qd I hg hm ?_ hdb);refine Ut (h₀:=X.base) I.ok.mod.kin hk (cC (ha pos pins s Y H _ I h) λus s1 ⟨vs,H1,I1,r,q⟩=>⟨I1.sP,?_⟩) he hpl;exact ua F hr hb hd hx I1 r q
theorem vk{pl:Sem Bool}(he:PE X o ta)(c:hJ X.K C)(hm:Meth X.K C m f)(F:dJ X.prog X.w X.K X.mg X.base CX k f fd ps sp)(hr:cY k X.A)(hb:Binds X.K fd ps ds)(hd:Vals dvs ds)(hx:Passes CX X E)(ha:PA X (e::es) t)
  (hst:XG (e::es) X.env=(false,eval e X.env)::XG es X.env:=by rfl)(hpl:(XQ pos (XG es X.env)).any (·.1)=false:=by rfl)
  (ht:eval (.Call (.Attribute o m apos) (e::es) [] pos) X.env=(do
   let ov <- eval o X.env
   YB apos.atName
   let (f,first) <- holding [ov] (YI ov m pl)
   Y9 pos f first (XQ pos (XG (e::es) X.env)) (X6 pos (XW [] X.env))):=by rfl):
  PE X (.Call (.Attribute o m apos) (e::es) [] pos) (vw C m sp dvs E ta t):=by
 intro pins s Y H Q I h;refine T4 (pl:=pl) (cC (he pins s Y H _ I h) λu s1 ⟨x,H1,I1,rx,a,dx,fs,ex,ea,l,q⟩=>?_) ht;subst ex;obtain rfl:u=R0 a:=rx;refine jf I1 ea c hm l ?_;refine Ut (first:=[.ref a]) (h₀:=X.base) I.ok.mod.kin hm.kp (cC (ha pos pins s1 Y H1 _ I1 q) λus s2 ⟨vs,H2,I2,r,q2⟩=>⟨I2.sP,?_⟩) hst hpl;exact ua (us:=.ref a::us) (vs:=.ref a::vs) F hr hb hd hx I2 (.cons rfl r) q2
theorem qH{pl:Sem Bool}(he:PE X o ta)(c:hJ X.K C)(hm:Meth X.K C m f)(F:dJ X.prog X.w X.K X.mg X.base CX k f fd ps sp)(hr:cY k X.A)(hb:Binds X.K fd ps ds)(hd:Vals dvs ds)(hx:Passes CX X E)
  (ht:eval (.Call (.Attribute o m apos) [] [] pos) X.env=(do
   let ov <- eval o X.env
   YB apos.atName
   let (f,first) <- holding [ov] (YI ov m pl)
   Y9 pos f first (XQ pos (XG [] X.env)) (X6 pos (XW [] X.env))):=by rfl):
  PE X (.Call (.Attribute o m apos) [] [] pos) (vw C m sp dvs E ta Kz):=by
 intro pins s Y H Q I h;refine T4 (pl:=pl) (cC (he pins s Y H _ I h) λu s1 ⟨x,H1,I1,rx,a,dx,fs,ex,ea,l,q⟩=>?_) ht;subst ex;obtain rfl:u=R0 a:=rx;refine jf I1 ea c hm l ?_;exact PySem.W.callWith_K0 (first:=[.ref a]) I1.sP hm.kp (ua (us:=[.ref a]) (vs:=[.ref a]) F hr hb hd hx I1 (.cons rfl .nil) q)
structure Mk(K:QF)(C f:Addr):Prop where
 makes:UT K C=true
 init:RN K (.ref C) "__init__" = some (some (.ref f))
 fn:Ux K (.ref f)=true
 kp:Sa K (.ref C)=true
theorem As{Q:VK}(M:Mk X.K C f)(F:dJ X.prog X.w X.K X.mg X.base CX k f fd ps sp)(hr:cY (k+1) X.A)(d:Binds X.K fd ps ds)(hd:Vals dvs ds)
  (hx:Passes CX X E)(I:Inv X pins Y H s)(r:Vals vs us)
  (h:∀x dx,H x=none->H dx=none->dx≠x->sp (.ref x::(vs++dvs)) (upd (upd H dx (.own x)) x (.ins C dx [])) (λv S=>v=.non/\Q (.ref x) S) E):
  XJ (XO X.prog X.w) X.A (call (.ref C) us) (EP X pins Y Q) X.xe s:=by
 have n:=h (s.heap.objs.size+1) s.heap.objs.size (I.hok.fresh (Uu _)) (I.hok.fresh (QN _)) (Rl (Sd _));have j:=Inv.made (C:=C) I;have O:Vals (V.ref (s.heap.objs.size+1)::(vs++dvs)) (R0 (s.heap.objs.size+1)::(us++ds)):=.cons rfl (r.append hd);have hl:(R0 (s.heap.objs.size+1)::us++ds).length=ps.length:=by have e:=O.length;rw[F.len _ _ _ _ n] at e;exact e.symm
 refine wpAny_call (BY (f:=f) I.sP M.makes M.init (Zy.mp M.fn) (YS (F.run _ X.stack _ _ ⟨R0 (s.heap.objs.size+1)::us,[]⟩ (R0 (s.heap.objs.size+1)::(us++ds)) _ _ E (hr.make C us [])
  (j.Ld.make C us []) (d _ (R0 (s.heap.objs.size+1)::us) j.sP hl) O n) λr s' a=>?_))
 cases r with
 |error e=>exact hx pins Y _ _ e s' j a
 |ok fl=>
  cases fl with
  |ret u=>obtain⟨v,H',B,q,o,p⟩:=j.after a;subst o;exact⟨q,⟨V.ref (s.heap.objs.size+1),H',B,rfl,p⟩⟩
  |next=>exact Sn a
  |brk=>exact Sn a
  |cont=>exact Sn a
theorem Cp(M:Mk X.K C f)(F:dJ X.prog X.w X.K X.mg X.base CX k f fd ps sp)(hr:cY (k+1) X.A)(hg:Gl X x)(hm:X.mg x=some (.ref C))(hb:Binds X.K fd ps ds)(hd:Vals dvs ds)(hx:Passes CX X E)
  (ha:PA X (e::es) t)(hdb:fC x:=by decide)(he:XG (e::es) X.env=(false,eval e X.env)::XG es X.env:=by rfl)(hpl:(XQ pos (XG es X.env)).any (·.1)=false:=by rfl):
  PE X (.Call (.Name x p) (e::es) [] pos) (FL C sp dvs E t):=by
 intro pins s Y H Q I h;refine Yl (qd I hg hm ?_ hdb);refine Ut (h₀:=X.base) I.ok.mod.kin M.kp (cC (ha pos pins s Y H _ I h) λus s1 ⟨vs,H1,I1,r,q⟩=>⟨I1.sP,?_⟩) he hpl;exact As M F hr hb hd hx I1 r q
end
structure j0(N P:List Str)(sc:Scope):Prop where
 kind:sc.kind=.function
 co:sc.isCoroutine=false
 gen:sc.isGenerator=false
 nd:N.Nodup
 pre:N.take P.length=P
 par:∀x∈P,sc.names.lookup x=some .local\/sc.names.lookup x=some .cell
 nofree:∀y∈sc.names,y.2≠.free
theorem ox{kindOf:Str->Option NameKind}{x:Str}:∀{Q:List (Str×Value)}{m:Str->Option Value},(∀v,(x,v)∉Q)->Zo kindOf Q m x=m x
 |[],_,_=>rfl
 |(n,v)::r,m,h=>by
  unfold Zo;rw[ox λw Z=>h w (QM _ Z)];split
  .have:x≠n:=by rintro rfl;exact h v QV
   simp[this]
  .rfl
theorem nG{kindOf:Str->Option NameKind}{x:Str}:∀{Q:List (Str×Value)}{m:Str->Option Value},(∀v,(x,v)∉Q)->Zp kindOf Q m x=m x
 |[],_,_=>rfl
 |(n,v)::r,m,h=>by
  unfold Zp;rw[nG λw Z=>h w (QM _ Z)];split
  .rfl
  .have:x≠n:=by rintro rfl;exact h v QV
   simp[this]
theorem oI{kindOf:Str->Option NameKind}{x:Str}{v:Value}:∀{P:List Str}{vs:List Value}{i:Nat}{m:Str->Option Value},P.Nodup->P[i]?=some x->vs[i]?=some v->kindOf x=some .local->
  Zo kindOf (P.zip vs) m x=some v
 |[],_,_,_,_,h,_,_=>by simp at h
 |_::_,[],_,_,_,_,h,_=>by simp at h
 |p::P,w::vs,0,m,nd,h1,h2,hk=>by simp at h1 h2;subst h1;subst h2;show Zo kindOf ((p,w)::P.zip vs) m p=_;unfold Zo;rw[ox λv c=>(Rf.mp nd).1 (SS c).1,Zt hk];simp
 |p::P,w::vs,i+1,m,nd,h1,h2,hk=>by show Zo kindOf ((p,w)::P.zip vs) m x=_;unfold Zo;exact oI (i:=i) (Rf.mp nd).2 (by simpa using h1) (by simpa using h2) hk
theorem nJ{kindOf:Str->Option NameKind}{x:Str}{v:Value}:∀{P:List Str}{vs:List Value}{i:Nat}{m:Str->Option Value},P.Nodup->P[i]?=some x->vs[i]?=some v->kindOf x≠some .local->
  Zp kindOf (P.zip vs) m x=some v
 |[],_,_,_,_,h,_,_=>by simp at h
 |_::_,[],_,_,_,_,h,_=>by simp at h
 |p::P,w::vs,0,m,nd,h1,h2,hk=>by simp at h1 h2;subst h1;subst h2;show Zp kindOf ((p,w)::P.zip vs) m p=_;unfold Zp;rw[nG λv c=>(Rf.mp nd).1 (SS c).1,Zu hk];simp
 |p::P,w::vs,i+1,m,nd,h1,h2,hk=>by show Zp kindOf ((p,w)::P.zip vs) m x=_;unfold Zp;exact nJ (i:=i) (Rf.mp nd).2 (by simpa using h1) (by simpa using h2) hk
noncomputable def start(N:List Str)(vs:List V):St:=vs.map some++QW (N.length-vs.length) none
noncomputable def tS(CX:qr)(P:Program)(w:XR)(K:QF)(mg:Str->Option Value)(base:Heap)(N:List Str)(qual:Str)(scope:Scope)(f:Addr)(cd:Value)(A:XU)(outer:List Env)(s:Shared)(H:Hp)(E:XK):Cx where
 prog:=P
 w:=w
 K:=K
 mg:=mg
 base:=base
 A:=A.deeper (YZ qual scope s.heap.objs.size f cd)
 N:=N
 s₀:=s
 H₀:=H
 env:=YZ qual scope s.heap.objs.size f cd
 outer:=outer
 stack:=YZ qual scope s.heap.objs.size f cd::outer
 ex:=[]
 calm:=true
 fn:=λ_=>true
 pn:=[]
 xe:=λe s'=>XJ (XO P w) (A.deeper (YZ qual scope s.heap.objs.size f cd)) (leaving (YZ qual scope s.heap.objs.size f cd) e) (λ_ h=>CX outer H s E e h) (λk h=>CX outer H s E k h) s'
theorem rO{sc:Scope}{n:Nat}{x:Str}(h:sc.names.lookup x=some .cell):∃c,(cellsFrom n sc.names []).lookup x=some c:=by have q:=Vd sc.names n [] (.inl h);exact Option.isSome_iff_exists.mp q
variable{scope:Scope}
theorem xt{P:Program}{qual:Str}{f:Addr}{cd:Value}{A:XU}{s1:Shared}{E:XK}
  (S:j0 N ps scope)(hd:A.handled=none)(I:tK P w K mg base A outer s H)(hl:vs.length=ps.length)(r:Vals vs us)
  (x:InCallC s s.heap.objs.size (Zo (YZ qual scope s.heap.objs.size f cd).kindOf (ps.zip us) λ_=>none) (cellsFrom (s.heap.objs.size+1) scope.names []) (Zp (YZ qual scope s.heap.objs.size f cd).kindOf (ps.zip us) λ_=>none) s1):
  Inv (tS CX P w K mg base N qual scope f cd A outer s H E) [] (start N vs) H s1:=by
 have Y:ps.length<=N.length:=by have:=Zx W7 S.pre;rw[RL] at this;lia
 obtain⟨h1,tk,rfl,hk⟩:=x.done;have X:∀b:Addr,b∉(tS CX P w K mg base N qual scope f cd A outer s H E).ex:=λb z=>absurd (show b∈([]:List Addr) from z) Z5;refine⟨⟨I.mod,S.kind,rfl,rfl,QN _,λy z c h1 h2=>?_,λy hy=>?_,λy c _ h=>?_,λ_=>hd,XU.frames_deeper I.frames,.inr ⟨rfl,rfl⟩,λb z=>absurd z (X b),I.bs,I.bsz,λb _ _=>X b,λb z=>absurd z (X b),I.ny,I.frf⟩,
  rfl,I.bare,Un.kept hk,⟨_,x.toInCall.ns,λi y v h1 h2 h3=>?_⟩,λy c h=>⟨_,x.cell y c h⟩,I.hok.fresh (QN _),λy c h=>?_,λp hp=>absurd (show p∈([]:List (Addr×Obj)) from hp) Z5,I.hok.kept hk,?_⟩
 .exact name_of_addr x.apart (Sr h1) (Sr h2)
 .have hy:scope.names.lookup y=some .cell\/scope.names.lookup y=some .free:=hy;rcases hy with hy|hy
  .exact rO hy
  .exact absurd rfl (S.nofree _ (Sr hy))
 .exact Rk (x.above y c (Sr h))
 .have hi:i<vs.length:=by
   unfold start at h2;by_cases hi:i<vs.length
   .exact hi
   .rw[Rx (by simpa using hi)] at h2;rw[Vr] at h2;split at h2<;>cases h2
  have V:vs[i]?=some v:=by
   unfold start at h2;rw[RM (by simpa using hi),Rc] at h2;cases e:vs[i]? with
   |none=>rw[e] at h2;cases h2
   |some a=>rw[e] at h2;cases h2;rfl
  obtain⟨u,g,t⟩:=r.get V;have hp:ps[i]?=some y:=by rw[<-S.pre,TM Q1];exact h1
  have Q:ps.Nodup:=by rw[<-S.pre];exact S.nd.sublist (UO _ _)
  refine⟨u,t,?_⟩;rcases S.par y (Rw hp) with k|k
  .exact .inl ⟨k,oI Q hp g k⟩
  .obtain⟨c,e⟩:=rO (n:=s.heap.objs.size+1) k;refine .inr ⟨.inl k,c,e,?_⟩;have q:=x.cell y c e;rw[nJ Q hp g (by show scope.names.lookup y≠_;rw[k];decide)] at q;exact q
 .exact I.hok.fresh (Rk (x.above y c (Sr h)))
 .unfold start;show _=N.length;rw[Q2,QK,VC];lia
theorem Lf{P:Program}{k:Nat}{f:Addr}{name qual:Str}{h:Arguments}{dV kV doc pm cdv ct oc:Value}{an od:Option Addr}
  {osl:Array (Option Value)}{sp:Sp}(p:K.lookup f=some ⟨oc,od,.func (Uz name qual h body scope dV kV doc pm an cdv ct),osl⟩)(R:Ug K cdv qual=true)(S:j0 N ps scope)
  (len:∀vs H Q E,sp vs H Q E->vs.length=ps.length)
  (X:∀(A:XU)(outer:List Env)(s:Shared)(H:Hp)(vs:List V)(Q:VK)(E:XK),cY k (A.deeper (YZ qual scope s.heap.objs.size f cdv))->sp vs H Q E->
   ∃t,qN (tS CX P w K mg base N qual scope f cdv A outer s H E) body t/\t { nx:=λ_ H'=>Q .non H',rt:=Q } (start N vs) H):
  dJ P w K mg base CX (k+1) f (Uz name qual h body scope dV kV doc pm an cdv ct) ps sp:=by
 refine⟨len,λA outer s H args us vs Q E hr G d r L=>?_⟩;have hl:=len _ _ _ _ L;have i:K.In s.heap:=G.mod.kin.keeps λb o e=>(G.bs b o e).1;have Y:s.heap.NoLimit:=G.mod.nolimit.keeps λb o e=>(G.bs b o e).1;have C:∀y∈ps.zip us,scope.names.lookup y.1=some .local\/(scope.names.lookup y.1=some .cell/\((cellsFrom (s.heap.objs.size+1) scope.names []).lookup y.1).isSome=true):=λ⟨n,v⟩ hy=>by
  rcases S.par n (SS hy).1 with q|q
  .exact .inl q
  .exact .inr ⟨q,Vd _ _ _ (.inl q)⟩
 refine codeAny_call_function hr.depth (i _ _ p) rfl S.co S.gen rfl (PySem.W.codeRec_of i R) (d _ _ _ _ ?_);refine wpAny_newFunctionEnv_cells S.kind C λenv he s1 x=>?_;subst he;refine⟨Y.keeps x.toInCall.keep,codeAny_func ?_⟩;obtain⟨t,l,F⟩:=X A outer s H vs Q E (hr.deeper _) L;have I:Inv (tS CX P w K mg base N qual scope f cdv A outer s H E) [] (start N vs) H s1:=xt S hr.hd G hl r x;refine Yk (l [] s1 (start N vs) H _ I F) (λfl s' hs=>?_) λe s' hs=>hs;have fin:∀{j:St}{H':Hp}{v:V}{u:Value},Inv (tS CX P w K mg base N qual scope f cdv A outer s H E) [] j H' s'->RelV v u->Q v H'->CE outer P w H s Q u s':=
  λ{j H' v u} J a q=>⟨v,H',J.os,J.bare,J.base,J.hok,a,q⟩
 cases fl with
 |ret u=>obtain⟨v,j,H',J,a,q⟩:=hs;exact fin J a q
 |next=>obtain⟨j,H',J,q⟩:=hs;exact fin (v:=V.non) (u:=S9) J rfl q
 |brk=>obtain⟨_,_,_,q⟩:=hs;exact Sn q
 |cont=>obtain⟨_,_,_,q⟩:=hs;exact Sn q
section
variable{X:Cx}{x:Str}{p pos:Pos}{e:Expr}{es:List Expr}{t:TA}{id T:String}{r:List V->Hp->VK->Prop}
noncomputable def PH(r:List V->Hp->VK->Prop)(t:TA):TE:=λY H Q=>t Y H λvs U=>r vs U Q
theorem jM(hc:dg X (.builtin id) r)(hg:Gl X x)(hm:X.mg x=none)(hv:XI x=some (.builtin id))(ha:PA X (e::es) t)(hn:x ≠ "__name__" := by decide)(hdb:fC x:=by decide)
  (he:XG (e::es) X.env=(false,eval e X.env)::XG es X.env:=by rfl)(hpl:(XQ pos (XG es X.env)).any (·.1)=false:=by rfl):PE X (.Call (.Name x p) (e::es) [] pos) (PH r t):=by
 intro pins s Y H Q I h;refine Yl (hV I hg hm hv ?_ hn hdb);exact Xd (cC (ha pos pins s Y H _ I h) λus s1 ⟨vs,H1,I1,r1,q1⟩=>hc pins s1 Y H1 vs us Q I1 r1 q1) he hpl
theorem fT(hc:dg X (.type T) r)(hg:Gl X x)(hm:X.mg x=none)(hv:XI x=some (.type T))(ha:PA X (e::es) t)(hn:x ≠ "__name__" := by decide)(hdb:fC x:=by decide)
  (he:XG (e::es) X.env=(false,eval e X.env)::XG es X.env:=by rfl)(hpl:(XQ pos (XG es X.env)).any (·.1)=false:=by rfl):PE X (.Call (.Name x p) (e::es) [] pos) (PH r t):=by
 intro pins s Y H Q I h;refine Yl (hV I hg hm hv ?_ hn hdb);exact RP (cC (ha pos pins s Y H _ I h) λus s1 ⟨vs,H1,I1,r1,q1⟩=>hc pins s1 Y H1 vs us Q I1 r1 q1) he hpl
end
end L2
namespace HT
open PySem PyProof.Rows
section
variable{prog:Program}{w:XR}{A:XU}{E:Value->Shared->Prop}{s:Shared}
noncomputable def jv(n d:Nat):Option Int->Nat
 |none=>d
 |some v=>if v<0 then (v+(n:Int)).toNat else min v.toNat n
theorem uS(n d k:Nat):jv n d (some (k:Int))=min k n:=by show (if (k:Int)<0 then ((k:Int)+(n:Int)).toNat else min (k:Int).toNat n)=min k n;rw[Zu Q1,S2]
end
end HT
namespace L2
open PySem PySem.Spec PyProof.Rows
abbrev TO:=St->Hp->(Option Int->Hp->Prop)->Prop
def PO(X:Cx)(e:Option Expr)(t:TO):Prop:=
 ∀(pins:List (Addr×Obj))(s:Shared)(Y:St)(H:Hp)(Q:Option Int->Hp->Prop),Inv X pins Y H s->t Y H Q->
  XJ (XO X.prog X.w) X.A (evalPart e X.env) (λu s'=>∃o H',Inv X pins Y H' s'/\IsPart u o/\Q o H') X.xe s
noncomputable def Dv:TO:=λ_ H Q=>Q none H
noncomputable def KZ(t:TE):TO:=λY H Q=>t Y H λx U=>∃i,x=.int i/\Q (some i) U
section
variable{X:Cx}{e:Expr}{te:TE}{lo hi:Option Expr}{tl th:TO}{pos p2:Pos}
theorem DP:PO X none Dv:=by intro pins s Y H Q I h;rw[evalPart_none];exact XN ⟨none,H,I,.none,h⟩
theorem Dq(h:PE X e te):PO X (some e) (KZ te):=by intro pins s Y H Q I Z;rw[evalPart_some];refine cC (h pins s Y H _ I Z) λu s1 ⟨x,U,T,n,g⟩=>?_;obtain⟨i,rfl,q⟩:=g;obtain⟨t,rfl⟩:=n;exact⟨some i,U,T,.int i t,q⟩
def fD(X:Cx)(r:V->Option Int->Option Int->Hp->VK->Prop):Prop:=
 ∀(pins:List (Addr×Obj))(s:Shared)(Y:St)(H:Hp)(x:V)(v vl I:Value)(lo hi:Option Int)(sl:Addr)(Q:VK),Inv X pins Y H s->RelV x v->s.heap.IsSliceOf sl vl I .none->IsPart vl lo->IsPart I hi->r x lo hi H Q->
  ∃T id,typeLookup (.type T) "__getitem__" = pure (some (.builtin id))/\s.TypeIs v T/\XJ (XO X.prog X.w) X.A (getItem v (.ref sl)) (EP X pins Y Q) X.xe s
noncomputable def P8(r:V->Option Int->Option Int->Hp->VK->Prop)(te:TE)(tl th:TO):TE:=λY H Q=>te Y H λx U=>tl Y U λl S=>th Y S λu w=>r x l u w Q
theorem B1{r:V->Option Int->Option Int->Hp->VK->Prop}(hr:fD X r)(he:PE X e te)(hl:PO X lo tl)(g:PO X hi th):PE X (.Subscript e (.Slice lo hi none p2) pos) (P8 r te tl th):=by intro pins s Y H Q I h;refine Subscript_ (cC (he pins s Y H _ I h) λv s1 ⟨x,U,c,n,P⟩=>?_);refine wpAny_Slice (cC (hl pins s1 Y U _ c P) λvl s2 ⟨l,S,j,pl,o⟩=>cC (g pins s2 Y S _ j o) λy Z ⟨u,E,B,t,p⟩=>?_);rw[evalPart_none];refine XN ?_;have C:Inv X pins Y E { Z with heap:=Z.heap.push { cls:=.type "slice",data:=.fields #[vl,y,.none] } }:=B.kept (t':=Z.toks) λb ob q=>QR _ q;obtain⟨T,id,G,L,J⟩:=hr pins { Z with heap:=Z.heap.push { cls:=.type "slice",data:=.fields #[vl,y,.none] } } Y E x v vl y l u Z.heap.objs.size Q C n (WX ..) pl t p;show XJ (XO X.prog X.w) X.A (subscriptTail e (.Slice lo hi none p2) v (.ref Z.heap.objs.size)) (EP X pins Y Q) X.xe { Z with heap:=Z.heap.push { cls:=.type "slice",data:=.fields #[vl,y,.none] } };exact tail_any (ops:=[.ref Z.heap.objs.size,v]) L G J (by with_unfolding_all rfl)
def xm(xs:List V)(lo hi:Option Int):List V:=(xs.drop (HT.jv xs.length 0 lo)).take (HT.jv xs.length xs.length hi-HT.jv xs.length 0 lo)
theorem qX(xs:List V)(lo hi:Option Int):(xm xs lo hi).length<=xs.length:=by unfold xm;rw[RL,List.length_drop];lia
end
noncomputable def gz(n:Nat)(i:Int):Option Nat:=if 0<=i then (if i<n then some i.toNat else none) else if -(n:Int)<=i then some (i+n).toNat else none
def iy{α:Type}(xs:List α)(i:Int):Option α:=(gz xs.length i).bind λj=>xs[j]?
variable{i:Int}{j:Nat}
theorem lg{n:Nat}(h:gz n i=some j):YJ i n=some j/\j<n /\ -(n:Int)<=i/\i<n:=by
 unfold gz at h;by_cases s:0<=i
 .rw[Zt s] at h;by_cases h1:i<n
  .rw[Zt h1] at h;have e:i.toNat=j:=Q9 h;exact⟨by rw[Zg s h1,e],by lia,by lia,h1⟩
  .rw[Zu h1] at h;cases h
 .rw[Zu s] at h;by_cases h1:-(n:Int)<=i
  .rw[Zt h1] at h;have e:(i+n).toNat=j:=Q9 h;exact⟨by rw[Za Q1 h1,e],by lia,h1,by lia⟩
  .rw[Zu h1] at h;cases h
variable{α:Type}
theorem pC{xs:List α}{v:α}(h:iy xs i=some v):∃j,YJ i xs.length=some j/\xs[j]?=some v/\j<xs.length /\ -(xs.length:Int)<=i/\i<xs.length:=by
 unfold iy at h;cases e:gz xs.length i with
 |none=>rw[e] at h;cases h
 |some j=>rw[e] at h;obtain⟨h1,h2,h3,h4⟩:=lg e;exact⟨j,h1,h,h2,h3,h4⟩
theorem jm{xs:List α}{v:α}(h:xs[j]?=some v):iy xs (j:Int)=some v:=by
 have x:j<xs.length:=(QH.mp h).1;have e:gz xs.length (j:Int)=some j:=by unfold gz;rw[Zt Q1,Zt Q1];simp
 unfold iy;rw[e];exact h
def jZ(b:Expr):Prop:=∀o i,subscripted b false o i=operate [o,i] (getItem o i)
def DM(X:Cx)(r:R2):Prop:=
 ∀(value h:Expr)(pins:List (Addr×Obj))(s:Shared)(Y:St)(H:Hp)(x y:V)(v u:Value)(Q:VK),Inv X pins Y H s->RelV x v->RelV y u->r x y H Q->
  subscripted h false v u=operate [v,u] (getItem v u)->XJ (XO X.prog X.w) X.A (subscriptTail value h v u) (EP X pins Y Q) X.xe s
def Qo(X:Cx)(id:String)(r:V->List V->Hp->VK->Prop):Prop:=
 ∀(pins:List (Addr×Obj))(s:Shared)(Y:St)(H:Hp)(x:V)(xs:List V)(v:Value)(us:List Value)(Q:VK),Inv X pins Y H s->RelV x v->Vals xs us->r x xs H Q->
  XJ (XO X.prog X.w) X.A (call (.builtin id) (v::us)) (EP X pins Y Q) X.xe s
variable{r:R2}{pins:List (Addr×Obj)}{Y:St}{H:Hp}{s:Shared}{p:Addr}{xs:List V}{its its':List Value}{u:Value}
section
variable{X:Cx}{a b:Expr}{ta tb:TE}{pos:Pos}
theorem DM.or{r':R2}(h:DM X r)(h':DM X r'):DM X (λx y H Q=>r x y H Q\/r' x y H Q):=by
 intro value A pins s Y H x y v u Q I K z q hs;rcases q with q|q
 .exact h value A pins s Y H x y v u Q I K z q hs
 .exact h' value A pins s Y H x y v u Q I K z q hs
theorem zt(hr:DM X r)(f:PE X a ta)(d:PE X b tb)(hs:jZ b):PE X (.Subscript a b pos) (Hn r ta tb):=by intro pins s Y H Q I h;exact Subscript_ (GL f d I h λv u s2 x y S j K z q=>hr a b pins s2 Y S x y v u Q j K z q (hs _ _))
def H9(K:QF):R2:=λx y H Q=>∃p xs i v,x=.ref p/\y=.int i/\dm K H p xs/\iy xs i=some v/\Q v H
def MW(K:QF):R2:=λx y H Q=>∃p xs i v,x=.ref p/\y=.int i/\gW K H p xs/\iy xs i=some v/\Q v H
def Nu:R2:=λx y H Q=>∃z i c,x=.str z/\y=.int i/\z.length<=sizeLine/\iy z.cps.toList i=some c/\Q (.str ⟨#[c]⟩) H
theorem qh:DM X (H9 X.K):=by
 intro value A pins s Y H x y v u Q I a m h hs;obtain⟨p,xs,i,z,rfl,rfl,V,he,q⟩:=h;cases a;obtain⟨t,rfl⟩:=m;obtain⟨its,r,pl,hz⟩:=I.list V;obtain⟨j,h1,h2,h3,h4,h5⟩:=pC he;obtain⟨w,P,E⟩:=r.get h2;have hl:=r.length;have hn:=kB;have fin:EP X pins Y Q w s:=⟨z,H,I,E,q⟩
 by_cases R:0<=i
 .have N:i.toNat=j:=by rw[Zg R h5] at h1;exact Q9 h1
  exact item_listR pl.isList R Q1 (by rw[N];simpa using P) fin hs
 .have N:(i+(its.toArray.size:Int)).toNat=j:=by rw[Za Q1 h4] at h1;rw[QO,<-hl];exact Q9 h1
  exact YT (x:=w) pl.isList.typeIs slot_list_getitem.lookup
   (wpAny_getItem_list_neg (Q:=λr s'=>r=w/\EP X pins Y Q r s') pl.isList Q1 (by rw[QO]<;>lia) Q1 (by rw[N];simpa using P) ⟨rfl,fin⟩) hs
theorem Hu:DM X (MW X.K):=by
 intro value A pins s Y H x y v u Q I a P h hs;obtain⟨p,xs,i,z,rfl,rfl,V,he,q⟩:=h;cases a;obtain⟨t,rfl⟩:=P;obtain⟨its,r,pl,hz⟩:=I.tuple V;obtain⟨j,h1,h2,h3,h4,h5⟩:=pC he;obtain⟨w,o,E⟩:=r.get h2;have hl:=r.length;have hn:=kB;have fin:EP X pins Y Q w s:=⟨z,H,I,E,q⟩
 exact YT (x:=w) pl.typeIs slot_tuple_getitem.lookup
  (getItem_tuple (j:=j) (Q:=λr s'=>r=w/\EP X pins Y Q r s') pl Q1 Q1 (by rw[QO,<-hl];exact h1) (by simpa using o) ⟨rfl,fin⟩) hs
theorem GO:DM X Nu:=by
 intro value A pins s Y H x y v u Q I K P h hs;obtain⟨z,i,c,rfl,rfl,hz,he,q⟩:=h;obtain⟨t,rfl⟩:=K;obtain⟨t',rfl⟩:=P;obtain⟨j,h1,h2,h3,h4,h5⟩:=pC he;have hl:z.cps.toList.length=z.length:=by simp[Str.length]
 rw[hl] at h1 h4 h5;have hn:=kB;exact tail_any (typeIs_str s z t) slot_str_getitem.lookup (getItem_str (c:=c) (by have e1:decide (i < -(2^63:Int))=false:=Zv Q1;have e2:decide (i≥2^63)=false:=Zv Q1;rw[e1,e2,Bool.or_false]) (by rw[h1];simpa using h2) ⟨.str ⟨#[c]⟩,H,I.tok _,⟨_,rfl⟩,q⟩) hs
def PR(K:QF):R2:=λx y H Q=>H9 K x y H Q\/MW K x y H Q\/Nu x y H Q
theorem IC:DM X (PR X.K):=qh.or (Hu.or GO)
theorem ui(its:List Value)(n j:Nat)(u:Value):UG (·.setIfInBounds j u) { cls:=.type "list",data:=.seq its.toArray n }={ cls:=.type "list",data:=.seq (its.set j u).toArray n }:=by simp[UG]
theorem Inv.lst(I:Inv X pins Y H s)(h:H p=some (.lst xs)):
  ∃(its:List Value)(n:Nat),Vals xs its/\s.heap.get? p=some { cls:=.type "list",data:=.seq its.toArray n }/\xs.length<=sizeLine:=by
 obtain⟨z,its,n,r,e⟩:=I.hok p _ h;exact⟨its,n,r,e,z⟩
theorem Inv.Jx{ys:List V}{n v:Nat}{f:Obj->Obj}(I:Inv X pins Y H s)(h:H p=some (.lst xs))
  (ho:s.heap.get? p=some { cls:=.type "list",data:=.seq its.toArray n })(hf:f { cls:=.type "list",data:=.seq its.toArray n }={ cls:=.type "list",data:=.seq its'.toArray v })(r:Vals ys its')(hz:ys.length<=sizeLine)(t:Nat):
  Inv X pins Y (upd H p (.lst ys)) { s with heap:=s.heap.update p f,toks:=t }:=by
 have e:(s.heap.update p f).get? p=some { cls:=.type "list",data:=.seq its'.toArray v }:=by rw[VD f ho (by rw[hf]<;>rfl),hf]
 refine I.write (x:=p) (e:=p) (by rw[h];trivial) (.inl rfl) (λb u d q=>(Vv _ _ (RH d)).trans q) ⟨_,e⟩ ?_;exact⟨hz,its',v,r,e⟩
def qT:V->V->V->Hp->(Hp->Prop)->Prop:=λo i v H Q=>∃p xs k j,o=.ref p/\i=.int k/\H p=some (.lst xs)/\gz xs.length k=some j/\Q (upd H p (.lst (xs.set j v)))
theorem set_list:Nj X qT:=by
 intro pins s Y H o i v C F u Q I x y w h;obtain⟨p,xs,k,j,rfl,rfl,hp,N,q⟩:=h;cases x;obtain⟨t,rfl⟩:=y;obtain⟨its,n,r,ho,hz⟩:=I.lst hp;obtain⟨h1,h2,h3,h4⟩:=lg N;have hl:=r.length;have hn:=kB;have a:Inv X pins Y (upd H p (.lst (xs.set j v))) { s with heap:=s.heap.update p (UG (·.setIfInBounds j u)) }:=
  I.Jx hp ho (ui its n j u) (r.set w j) (by rw[U2];exact hz) s.toks
 by_cases R:0<=k
 .have hk:k.toNat=j:=by rw[Zg R h4] at h1;exact Q9 h1
  exact PySem.W.ki_setAt ho R Q1 (by rw[QO,<-hl];exact h4) (by rw[hk];exact⟨_,a,q⟩)
 .have hk:(k+(its.toArray.size:Int)).toNat=j:=by rw[Za Q1 h3] at h1;rw[QO,<-hl];exact Q9 h1
  exact PySem.W.ki_setBack ho Q1 (by rw[QO,<-hl];exact h3) Q1 (by rw[hk];exact⟨_,a,q⟩)
theorem ph(lo hi:Option Int)(n:Nat):(Ym lo hi none n).1=((HT.jv n 0 lo:Nat):Int)/\(Ym lo hi none n).2.1=((HT.jv n n hi:Nat):Int)/\(Ym lo hi none n).2.2=1:=by
 refine⟨?_,?_,rfl⟩
 .cases lo with
  |none=>simp[Ym,HT.jv]
  |some i=>
   simp only[Ym,HT.jv,V2,show (1:Int) > 0 by decide,if_true];by_cases h:i<0
   .simp only[h,if_true]<;>lia
   .simp only[h,if_false]<;>lia
 .cases hi with
  |none=>simp[Ym,HT.jv]
  |some i=>
   simp only[Ym,HT.jv,V2,show (1:Int) > 0 by decide,if_true];by_cases h:i<0
   .simp only[h,if_true]<;>lia
   .simp only[h,if_false]<;>lia
theorem m7(its:List Value)(lo hi:Option Int):slicePick its.toArray lo hi none=((its.drop (HT.jv its.length 0 lo)).take (HT.jv its.length its.length hi-HT.jv its.length 0 lo)).toArray:=by obtain⟨h1,h2,h3⟩:=ph lo hi its.toArray.size;unfold slicePick;rw[h1,h2,h3];simp only[sliceRange_one,pick_run,QO]<;>rfl
def Oe(K:QF):V->Option Int->Option Int->Hp->VK->Prop:=λx lo hi H Q=>∃a xs,x=.ref a/\dm K H a xs/\∀p,H p=none->Q (.ref p) (upd H p (.lst (xm xs lo hi)))
theorem Dy:fD X (Oe X.K):=by intro pins s Y H x v vl y lo hi sl Q I w hs pl t h;obtain⟨a,xs,rfl,hx,q⟩:=h;cases w;obtain⟨its,r,l,hz⟩:=I.list hx;have u:=r.length;refine⟨"list",_,slot_list_getitem.lookup,l.isList.typeIs,?_⟩;refine wpAny_getItem_list_slice l.isList hs pl t .none Z5 ?_ (by rw[QO]<;>lia);rw[m7,<-u];refine⟨.ref s.heap.objs.size,_,I.laid (t':=s.toks) (o:=.lst (xm xs lo hi)) (λb ob q=>QR _ q) (QN _) ?_,rfl,q _ (I.hok.fresh (QN _))⟩;exact⟨Ru (qX xs lo hi) hz,_,0,(r.drop (HT.jv xs.length 0 lo)).take (HT.jv xs.length xs.length hi-HT.jv xs.length 0 lo),Q3 _ rfl⟩
noncomputable def gN:V->Bool
 | .non=>true
 | .bl _=>true
 | .int _=>true
 | .str _=>true
 |_=>false
noncomputable def FD:V->V->Bool
 | .non,.non=>true
 | .bl a,.bl b=>a==b
 | .bl a,.int b=>(if a then 1 else 0)==b
 | .int a,.bl b=>a==(if b then 1 else 0)
 | .int a,.int b=>a==b
 | .str a,.str b=>a==b
 |_,_=>false
theorem cT{A:XU}{y x:V}{v:Value}(z:RelV y u)(K:RelV x v)(H:gN y=true)(fx:gN x=true):T5 A s u v (FD y x):=by
 cases y with
 |non=>
  cases z;cases x with
  |non=>cases K;exact T5.same _
  |bl b=>cases K;exact T5.none_bool b
  |int b=>obtain⟨t,rfl⟩:=K;exact T5.none_int b t
  |str b=>obtain⟨t,rfl⟩:=K;exact T5.none_str b t
  |_=>exact absurd (show false=true from fx) Rp
 |bl a=>
  cases z;cases x with
  |non=>cases K;exact T5.bool_none a
  |bl b=>cases K;exact T5.bool_bool a b
  |int b=>obtain⟨t,rfl⟩:=K;exact T5.bool_int a b t
  |str b=>obtain⟨t,rfl⟩:=K;exact T5.bool_str a b t
  |_=>exact absurd (show false=true from fx) Rp
 |int a=>
  obtain⟨t',rfl⟩:=z;cases x with
  |non=>cases K;exact T5.int_none a t'
  |bl b=>cases K;exact T5.int_bool a t' b
  |int b=>obtain⟨t,rfl⟩:=K;exact T5.int_int a t' b t
  |str b=>obtain⟨t,rfl⟩:=K;exact Vi a t' b t
  |_=>exact absurd (show false=true from fx) Rp
 |str a=>
  obtain⟨t',rfl⟩:=z;cases x with
  |non=>cases K;exact T5.str_none a t'
  |bl b=>cases K;exact T5.str_bool a t' b
  |int b=>obtain⟨t,rfl⟩:=K;exact Vj a t' b t
  |str b=>obtain⟨t,rfl⟩:=K;exact T5.str_str a t' b t
  |_=>exact absurd (show false=true from fx) Rp
 |_=>exact absurd (show false=true from H) Rp
def sU(x:V)(u:Value):Bool:=match u with
 | .none=>FD .non x
 | .bool b=>FD (.bl b) x
 | .int i _=>FD (.int i) x
 | .str z _=>FD (.str z) x
 |_=>false
theorem yd{x y:V}(r:RelV y u)(f:gN y=true):sU x u=FD y x:=by
 cases y with
 |non=>cases r;rfl
 |bl b=>cases r;rfl
 |int i=>obtain⟨t,rfl⟩:=r;rfl
 |str z=>obtain⟨t,rfl⟩:=r;rfl
 |_=>exact absurd (show false=true from f) Rp
theorem jK{x:V}:∀{xs:List V}{us:List Value},Vals xs us->xs.all gN=true->us.any (sU x)=xs.any λy=>FD y x
 |_,_,.nil,_=>rfl
 |y::xs,u::us,.cons r t,f=>by rw[Q7,QE] at f;rw[WK,WK,yd r f.1,jK t f.2]
theorem gT{A:XU}{s:Shared}{x:V}{v:Value}(K:RelV x v)(fx:gN x=true):∀{xs:List V}{us:List Value},Vals xs us->xs.all gN=true->∀u∈us,T5 A s u v (sU x u)
 |_,_,.nil,_=>λu g=>by cases g
 |y::xs,u::us,.cons r t,f=>λH g=>by
  rw[Q7,QE] at f;rcases QL.mp g with rfl|g
  .rw[yd r f.1];exact cT r K f.1 fx
  .exact gT K fx t f.2 H g
def F2(x:V)(xs:List V):Bool:=xs.any λy=>FD y x
def Kv(K:QF)(neg:Bool):R2:=λx y H Q=>∃p xs,y=.ref p/\(dm K H p xs\/gW K H p xs)/\gN x=true/\xs.all gN=true/\Q (.bl (if neg then !F2 x xs else F2 x xs)) H
theorem j5:iR X (X8 .In) (Kv X.K false):=by
 intro pins s Y H x y v u Q I a z h;obtain⟨p,xs,rfl,V,fx,fs,q⟩:=h;cases z;rcases V with V|V
 .obtain⟨its,r,pl,hz⟩:=I.list V;refine SeqAt.in_listAt (sU x) pl.isList (λw Z=>gT a fx r fs w (by simpa using Z)) ⟨.bl _,H,I,rfl,?_⟩;rw[show its.toArray.any (sU x)=its.any (sU x) by simp,jK r fs];exact q
 .obtain⟨its,r,pl,hz⟩:=I.tuple V;refine SeqAt.in_tupleAt (sU x) pl (λw Z=>gT a fx r fs w (by simpa using Z)) ⟨.bl _,H,I,rfl,?_⟩;rw[show its.toArray.any (sU x)=its.any (sU x) by simp,jK r fs];exact q
theorem jP:iR X (X8 .NotIn) (Kv X.K true):=by
 intro pins s Y H x y v u Q I a z h;obtain⟨p,xs,rfl,V,fx,fs,q⟩:=h;cases z;rcases V with V|V
 .obtain⟨its,r,pl,hz⟩:=I.list V;refine SeqAt.notIn_listAt (sU x) pl.isList (λw Z=>gT a fx r fs w (by simpa using Z)) ⟨.bl _,H,I,rfl,?_⟩;rw[show its.toArray.any (sU x)=its.any (sU x) by simp,jK r fs];exact q
 .obtain⟨its,r,pl,hz⟩:=I.tuple V;refine SeqAt.notIn_tupleAt (sU x) pl (λw Z=>gT a fx r fs w (by simpa using Z)) ⟨.bl _,H,I,rfl,?_⟩;rw[show its.toArray.any (sU x)=its.any (sU x) by simp,jK r fs];exact q
theorem pD:dg X (.builtin "len") (λxs H Q=>∃p ys,xs=[.ref p]/\(dm X.K H p ys\/gW X.K H p ys)/\Q (.int ys.length) H):=by
 intro pins s Y H xs us Q I r h;obtain⟨p,ys,rfl,V,q⟩:=h;obtain⟨u,rfl,w⟩:=vals1 r;cases w;have hn:=kB;rcases V with V|V
 .obtain⟨its,r',pl,hz⟩:=I.list V;have v:=r'.length;exact VN pl.isList (by simp only[QO]<;>lia) ⟨.int ys.length,H,I.tok _,⟨s.toks+1,by rw[QO,v]⟩,q⟩
 .obtain⟨its,r',pl,hz⟩:=I.tuple V;have v:=r'.length;exact len_tuple pl (by simp only[QO]<;>lia) ⟨.int ys.length,H,I.tok _,⟨s.toks+1,by rw[QO,v]⟩,q⟩
theorem oY:dg X (.type "list") (λxs H Q=>∃p ys,xs=[.ref p]/\(dm X.K H p ys\/gW X.K H p ys)/\∀l,H l=none->Q (.ref l) (upd H l (.lst ys))):=by
 intro pins s Y H xs us Q I r h;obtain⟨p,ys,rfl,V,q⟩:=h;obtain⟨u,rfl,a⟩:=vals1 r;cases a;have fin:∀(its:List Value),Vals ys its->ys.length<=sizeLine->∀(h':Heap)(i:Nat),(∀b o',s.heap.get? b=some o'->h'.get? b=some o')->
   h'.get? s.heap.objs.size=some { cls:=.type "list",dict:=none,data:=.seq its.toArray i,slots:=#[] }->EP X pins Y Q (.ref s.heap.objs.size) { s with heap:=h' }:=λits r' hz h' i kp e=>
  ⟨.ref s.heap.objs.size,_,I.laid (t':=s.toks) kp (QN _) (show dD X.prog X.w _ h' _ (.lst ys) from ⟨hz,its,i,r',e⟩),rfl,q _ (I.hok.fresh (QN _))⟩
 rcases V with V|V
 .obtain⟨its,r',pl,hz⟩:=I.list V;have v:=r'.length;obtain⟨o,ho,hc,n,hd⟩:=pl.isList;exact call_list_seq p (.inl rfl) ho hc hd (λh' i kp e=>fin its r' hz h' i kp e) (by simp only[QO]<;>lia)
 .obtain⟨its,r',pl,hz⟩:=I.tuple V;have v:=r'.length;obtain⟨o,ho,hc,n,hd⟩:=pl;exact call_list_seq p (.inr rfl) ho hc hd (λh' i kp e=>fin its r' hz h' i kp e) (by simp only[QO]<;>lia)
theorem nB:dg X (.type "tuple") (λxs H Q=>∃p ys,xs=[.ref p]/\((dm X.K H p ys/\∀l,H l=none->Q (.ref l) (upd H l (.tup ys)))\/(gW X.K H p ys/\Q (.ref p) H))):=by
 intro pins s Y H xs us Q I r h;obtain⟨p,ys,rfl,h⟩:=h;obtain⟨u,rfl,a⟩:=vals1 r;cases a;rcases h with ⟨V,q⟩|⟨V,q⟩
 .obtain⟨its,r',pl,hz⟩:=I.list V;have v:=r'.length;refine call_tuple_list pl.isList (λh' kp=>?_) (by simp only[QO]<;>lia);have T:Inv X pins Y H { s with heap:=h' }:=I.kept (t':=s.toks) kp;have j:Inv X pins Y (upd H h'.objs.size (.tup ys)) { s with heap:=h'.push { cls:=.type "tuple",data:=.seq its.toArray } }:=
   T.laid (t':=s.toks) (λb o e=>QR _ e) (QN _) (show dD X.prog X.w _ _ _ (.tup ys) from ⟨hz,its,r',kj.new _ _⟩)
  exact⟨.ref h'.objs.size,_,j,rfl,q _ (T.hok.fresh (QN _))⟩
 .obtain⟨its,r',pl,hz⟩:=I.tuple V;exact call_tuple_same pl ⟨.ref p,H,I,rfl,q⟩
def PN(K:QF)(T:String)(x:V)(H:Hp):Prop:=match x with
 | .str _=>T = "str"
 | .int _=>T = "int"
 | .ref p=>(T = "list" /\ ∃xs,dm K H p xs)\/(T = "tuple" /\ ∃o,K.lookup p=some o/\o.cls=.type "tuple" /\ o.dict=none) \/
   (T = "dict" /\ ((∃kvs,H p=some (.dK kvs))\/∃kvs,H p=some (.dT kvs)))\/(T = "set" /\ ∃S n,H p=some (.set S n))
 |_=>False
theorem J3{T:String}{x:V}{v:Value}(I:Inv X pins Y H s)(r:RelV x v)(ty:PN X.K T x H):
  s.TypeIs v T/\∀a,v=.ref a->∃ob,s.heap.get? a=some ob/\ob.dict=none:=by
 cases x with
 |str z=>obtain⟨t,rfl⟩:=r;cases (show T = "str" from ty);exact⟨typeIs_str s z t,λ_ e=>nomatch e⟩
 |int i=>obtain⟨t,rfl⟩:=r;cases (show T = "int" from ty);exact⟨Zq s i t,λ_ e=>nomatch e⟩
 |ref p=>
  cases r;rcases ty with ⟨rfl,xs,F⟩|⟨rfl,o,hk,hc,hd⟩|⟨rfl,hk⟩|⟨rfl,S,n,hk⟩
  .obtain⟨its,_,pl,_⟩:=I.list F;refine⟨pl.isList.typeIs,λa e=>?_⟩;cases e;obtain⟨o,n,e,c,hd,_⟩:=pl;exact⟨o,e,hd⟩
  .refine⟨⟨o,I.sP p o hk,hc⟩,λa e=>?_⟩;cases e;exact⟨o,I.sP _ o hk,hd⟩
  .have z:∃o,s.heap.get? p=some o/\o.ExactDict:=by
    rcases hk with ⟨kvs,hk⟩|⟨kvs,hk⟩
    .obtain⟨_,_,_,_,o,_,_,e,ex,_⟩:=I.hok p _ hk;exact⟨o,e,ex⟩
    .obtain⟨_,_,_,_,o,_,_,e,ex,_⟩:=I.hok p _ hk;exact⟨o,e,ex⟩
   obtain⟨o,e,ex⟩:=z;refine⟨⟨o,e,ex.1⟩,λa e2=>?_⟩;cases e2;exact⟨o,e,ex.2.1⟩
  .obtain⟨o,_,_,_,e,ex,_⟩:=I.hok p _ hk;refine⟨⟨o,e,ex.1⟩,λa e2=>?_⟩;cases e2;exact⟨o,e,ex.2.1⟩
 |_=>exact Sn ty
noncomputable def Qc(K:QF)(T:String)(r:V->List V->Hp->VK->Prop)(X:TE)(t:TA):TE:=λY H Q=>X Y H λx U=>PN K T x U/\t Y U λxs S=>r x xs S Q
variable{o e:Expr}{es:List Expr}{to:TE}{t:TA}{name:Str}{apos cpos:Pos}{T id:String}{r:V->List V->Hp->VK->Prop}
theorem oj(pa:PlainAttrs T)(slot:Slot T name id)(hty:typeOf (.builtin id)=pure (.type "method_descriptor"))(hm:Qo X id r)(ho:PE X o to)(ha:PA X (e::es) t)
  (hbase:XM o name X.env (eval o X.env)=eval o X.env:=by rfl)
  (hfew:((XQ cpos (XG (e::es) X.env)).all (λx=>!x.1)&&(X6 cpos (XW [] X.env)).all (λx=>x.1.isSome)
   && decide ((e::es).length+([]:List X1).length+(if ([]:List X1).isEmpty then 0 else 1)<30))=true:=by rfl)
  (hline:(apos.endLine==cpos.line)=true:=by rfl) (hs:XG (e::es) X.env=(false,eval e X.env)::XG es X.env:=by rfl) (hplain:(XQ cpos (XG es X.env)).any (·.1)=false:=by rfl):
  PE X (.Call (.Attribute o name apos) (e::es) [] cpos) (Qc X.K T r to t):=by
 intro pins s Y H Q I h;refine wpAny_Call_method_late hbase hfew hline rfl (cC (ho pins s Y H _ I h) λv s1 ⟨x,H1,I1,r1,ty,q1⟩=>?_);obtain⟨h1,h2⟩:=J3 I1 r1 ty;refine⟨T,id,pa,slot,hty,h1,h2,?_⟩;have hA:=ha cpos pins s1 Y H1 _ I1 q1;rw[hs] at hA ⊢;refine Calls.callWith_builtin (by show (false || (XQ cpos (XG es X.env)).any (·.1))=false;rw[hplain]<;>rfl) (Calls.evalArgs_plain ?_);exact cC hA λus s2 ⟨vs,H2,I2,r2,q2⟩=>hm pins s2 Y H2 x vs v us Q I2 r1 r2 q2
end
def Od(X:Cx)(id:String)(r:V->List V->Hp->VK->Prop):Prop:=
 ∀(pins:List (Addr×Obj))(s:Shared)(Y:St)(H:Hp)(x:V)(xs:List V)(v:Value)(us:List Value)(Q:VK),Inv X pins Y H s->RelV x v->Vals xs us->r x xs H Q->
  XJ (XO X.prog X.w) X.A (call (.builtin id) (v::us)) (EP X pins Y Q) X.xe s
theorem Vals.one:∀{x:V}{us:List Value},Vals [x] us->∃u,us=[u]/\RelV x u
 |_,_,.cons r .nil=>⟨_,rfl,r⟩
theorem Vals.two:∀{x y:V}{us:List Value},Vals [x,y] us->∃u v,us=[u,v]/\RelV x u/\RelV y v
 |_,_,_,.cons r (.cons q .nil)=>⟨_,_,rfl,r,q⟩
theorem Vals.eraseIdx:∀{xs:List V}{us:List Value}(i:Nat),Vals xs us->Vals (xs.eraseIdx i) (us.eraseIdx i)
 |_,_,_,.nil=>.nil
 |_,_,0,.cons _ t=>t
 |_,_,i+1,.cons r t=>.cons r (Vals.eraseIdx i t)
theorem Vals.rep{xs:List V}{us:List Value}(h:Vals xs us):∀k:Nat,Vals (QW k xs).flatten (QW k us).flatten
 |0=>.nil
 |k+1=>by rw[SN,SN,TC,TC];exact Vals.append h (Vals.rep h k)
theorem nW{α:Type}:∀(l:List α)(i:Nat),(l.eraseIdx i).length<=l.length
 |[],_=>QN _
 |_::_,0=>Uu _
 |_::r,i+1=>T6 (nW r i)
theorem foldl_rep(its:List Value):∀(k:Nat)(acc:List Value),
  UC (λs I=>s++I) acc.toArray (QW k its.toArray)=(acc++(QW k its).flatten).toArray
 |0,acc=>by simp
 |k+1,acc=>by
  have e:acc.toArray++its.toArray=(acc++its).toArray:=by simp
  have e2:(acc++its)++(QW k its).flatten=acc++(QW (k+1) its).flatten:=by rw[SN,TC,QJ]
  rw[<-e2,<-foldl_rep its k (acc++its),<-e,SN,List.foldl_cons]
variable{t':Nat}
section
variable{X:Cx}{pins:List (Addr×Obj)}{Y:St}{H:Hp}{s:Shared}{l b:Addr}{xs ys zs:List V}
theorem Inv.Nn{n:Nat}{f:Array Value->Array Value}(I:Inv X pins Y H s)(Q:H l=some (.lst xs))
  (e:s.heap.get? l=some { cls:=.type "list",data:=.seq its.toArray n })(hf:f its.toArray=its'.toArray)(c:Vals ys its')(hz:ys.length<=sizeLine):
  Inv X pins Y (upd H l (.lst ys)) { s with heap:=s.heap.update l (UG f),toks:=t' }:=by
 have q:=PySem.IsL.update e f;rw[hf] at q;refine I.write (x:=l) (e:=l) (by rw[Q];exact trivial) (.inl rfl) (λh u d g=>(Vv s.heap (UG f) (RH d)).trans g) ⟨_,q⟩ ?_;exact⟨hz,its',_,c,q⟩
theorem Inv.Jh(I:Inv X pins Y H s)(c:Vals ys its)(hz:ys.length<=sizeLine):
  Inv X pins Y (upd H s.heap.objs.size (.lst ys)) { s with heap:=s.heap.push { cls:=.type "list",data:=.seq its.toArray },toks:=t' }:=
 I.laid (λ_ _ q=>QR _ q) (QN _) ⟨hz,its,0,c,Q3 _ rfl⟩
theorem Inv.fresh(I:Inv X pins Y H s):H s.heap.objs.size=none:=I.hok.fresh (QN _)
theorem Inv.Ec(I:Inv X pins Y H s)(Q:H l=some (.lst xs)):xs.length<=sizeLine/\∃(its:List Value)(n:Nat),Vals xs its/\xs.length=its.length/\s.heap.get? l=some { cls:=.type "list",data:=.seq its.toArray n }:=by obtain⟨z,its,n,r,e⟩:=I.hok l _ Q;exact⟨z,its,n,r,r.length,e⟩
theorem Bj{n:Nat}(h:n<=sizeLine):Th n=false:=by unfold Th;exact Zv Q1
end
section
variable{X:Cx}
def CG:V->List V->Hp->VK->Prop:=λx vs H Q=>∃l xs y,x=.ref l/\vs=[y]/\H l=some (.lst xs)/\xs.length<sizeLine/\Q .non (upd H l (.lst (xs++[y])))
theorem km:Od X "list.append" CG:=by intro pins s Y H x vs v us Q I K t h;obtain⟨l,xs,y,rfl,rfl,G,hz,q⟩:=h;cases K;obtain⟨u,rfl,D⟩:=t.one;obtain⟨z,its,n,r,hl,e⟩:=I.Ec G;refine YU F.slot_list_append ⟨_,e,rfl⟩ F.entry_list_append (F.args_list_append_2 _ _) (PySem.list_append l its.toArray n u (by rw[QO];lia)) ⟨e,?_⟩;refine⟨.non,_,I.Nn (its':=its++[u]) G e Z5 (r.append (.cons D .nil)) ?_,rfl,q⟩;rw[Q2,Ta];lia
def GY:V->List V->Hp->VK->Prop:=λx vs H Q=>∃l xs i k y,x=.ref l/\vs=[.int i]/\H l=some (.lst xs) /\ -(2^63)<=i/\i<2^63/\YJ i xs.length=some k/\xs[k]?=some y/\Q y (upd H l (.lst (xs.eraseIdx k)))
theorem AK:Od X "list.pop" GY:=by
 intro pins s Y H x vs v us Q I K a h;obtain⟨l,xs,i,k,y,rfl,rfl,G,h1,h2,hk,hy,q⟩:=h;cases K;obtain⟨u,rfl,D⟩:=a.one;obtain⟨t,rfl⟩:=D;obtain⟨z,its,n,r,hl,e⟩:=I.Ec G;obtain⟨w,Z,E⟩:=r.get hy;refine YU F.slot_list_pop ⟨_,e,rfl⟩ F.entry_list_pop (F.args_list_pop_2 _ _)
  (MeetsSeq.list_pop_at l its.toArray n i t k w (fitsIndex_both h1 h2) (by rw[QO,<-hl];exact hk) (by rw[<-Vw];exact Z) (by rw[QO];lia)) ⟨e,?_⟩
 refine⟨y,_,I.Nn (its':=its.eraseIdx k) G e ?_ (r.eraseIdx k) ?_,E,q⟩
 .show its.toArray.eraseIdxIfInBounds k=(its.eraseIdx k).toArray;rw[List.eraseIdxIfInBounds_toArray]
 .have:=nW xs k;lia
def NX:R2:=λx y H Q=>∃l b xs s,x=.ref l/\y=.ref b/\H l=some (.lst xs)/\H b=some (.lst s)/\xs.length+s.length<=sizeLine/\∀p,H p=none->Q (.ref p) (upd H p (.lst (xs++s)))
theorem j7:iR X (Yj .Add) NX:=by
 intro pins s Y H x y v u Q I K m h;obtain⟨l,b,xs,p,rfl,rfl,G,O,hz,q⟩:=h;cases K;cases m;obtain⟨z,its,n,r,hl,e⟩:=I.Ec G;obtain⟨B,L,C,k,i,e2⟩:=I.Ec O;refine PySem.P.add_list e e2 ?_ (by rw[QO,QO];lia);have o:its.toArray++L.toArray=(its++L).toArray:=by simp
 rw[o];exact⟨.ref _,_,I.Jh (t':=s.toks) (r.append k) (by rw[Q2];lia),rfl,q _ I.fresh⟩
theorem len_rep(xs:List α)(k:Nat):(QW k xs).flatten.length=k*xs.length:=by
 induction k with
 |zero=>simp
 |succ k m=>rw[SN,TC,Q2,m,W8,Nat.add_comm]
end
section
variable{prog:Program}{w:XR}{A:XU}{E:Value->Shared->Prop}{s:Shared}
set_option maxRecDepth 100000 in
end
section
variable{P:Program}{w:XR}{H:Hp}{h:Heap}{a:Addr}
theorem Nx{u:HO}(ok:kF P w H h)(e:Rd H a u):dD P w H h a u:=e.ok ok
theorem vF{kvs:List (Key×V)}(ok:kF P w H h)(e:Rd H a (.dK kvs)):kvs.length<=sizeLine/\(a==Y3)=false/\∃vs,KV kvs vs/\h.DictOf (iu P w) a vs:=
 show dD P w H h a (.dK kvs) from Nx ok e
end
structure M1(X:Cx)(o:Expr)(m:Str)(apos:Pos)(e:Expr)(cpos:Pos):Prop where
 base:XM o m X.env (eval o X.env)=eval o X.env
 few:((XQ cpos (XG [e] X.env)).all (λx=>!x.1)&&(X6 cpos (XW [] X.env)).all (λx=>x.1.isSome)
  && decide (([e]:List Expr).length+([]:List X1).length+(if ([]:List X1).isEmpty then 0 else 1)<30))=true
 line:(apos.endLine==cpos.line)=true
 trees:XQ cpos (XG [e] X.env)=[(false,eval e X.env)]
end L2
namespace Att
open PySem PySem.W PySem.Calls PyProof.Rows
variable{h:Heap}
theorem kT{P:Params}:∀(ns:List Int)(vs:List Value),WellAll P h vs (ns.map Xe)->Zj vs ns:=by
 intro ns;induction ns with
 |nil=>intro vs w;rw[Tn] at w;cases w;exact .nil
 |cons n ns m=>
  intro vs w;rw[Rv] at w;cases w with
  |cons a b=>cases a;exact .cons _ _ (m _ b)
theorem xD{l:OpenLaw}{n:Nat}(hn:l.most=some n){P:Params}{args:List WData}{s:List Value}
  (H:l.row.toRowW.claim.pre args=true)(X:WellAll P h s args):
  ∃a vs ns,s=[R0 a]/\args=[WData.list (ns.map Xe)]/\h.get? a=some { cls:=.type "list",data:=.seq vs.toArray }/\Zj vs ns/\ns.length<=n:=by
 have Y:WShape.hasAll [] args [.list .int]=true:=(pre_splitW H).1;have hc:l.pre.holds [] { args:=args }=true:=(pre_splitW H).2;obtain⟨d,r,rfl,h1,h2⟩:=hasAllW_cons Y;obtain rfl:=hasAllW_nil h2;obtain⟨xs,rfl,h3⟩:=hasW_list h1;obtain⟨ns,rfl⟩:=items_int h3;have v:ns.length<=n:=by
  unfold OpenLaw.pre at hc;have h4:(WTm.not (.lt (.lit (.int (n:Int))) (.len (.arg 0)))).holds [] { args:=[.list (ns.map .int)] }=true:=by have h4:=(holds_andW hc).1;rw[hn] at h4;exact h4
  have h5:=condW_of h4 (w_not (w_lt w_lit (w_len_list (w_arg rfl))));rw[QK] at h5;refine Nat.le_of_not_lt λq=>?_;have t:(n:Int)<((ns.length:Nat):Int):=by lia
  first
   |(rw[Zw t] at h5;exact absurd h5 Z3)
   |(simp at h5;lia)
 cases X with
 |cons Q u=>
  cases u;cases Q with
  |list ho I=>exact⟨_,_,ns,rfl,rfl,ho,kT ns _ I,v⟩
theorem wN(l:OpenLaw)(args:List WData):l.row.toRowW.claim.post args (.bool true) args=true:=
 postW_of (r:=l.row.toRowW) (X:=(true==true))
  (show WY [] (.bool true) .bool=true by first|rfl|decide|simp[WY,WShape.arms,WShape.armsAll])
  (show (WTm.eq .res (.lit (.bool true))).value [] { args:=args,res:=some (.bool true),after:=args }=some (.bool (true==true)) from w_eq_bool (w_res rfl) w_lit) rfl
theorem rh{l:OpenLaw}{n:Nat}{q:Program}{loose:List Str}{XP:(Str->Option Value)->Heap->Prop}{YP:XR->Heap->Prop}{d:DefRec}
  (hn:l.most=some n)(I:d.params.defaults=[])
  (call:∀(w:XR)(s₀ Z:Shared)(mg mb:Str->Option Value)(s:Addr)(o:Obj)(pm cd doc:Value)(a:Addr)(vs:List Value)(ns:List Int),
   Ground q loose [] XP w s₀ mg mb Z.heap->YP w Z.heap->
   Z.heap.get? s=some o->o.data=.func (docDef d.name d.params d.body d.scope pm cd doc)->Z.heap.CodeRec cd d.name->mg d.name=some (.ref s)->
   Z.heap.get? a=some { cls:=.type "list",data:=.seq vs.toArray }->Zj vs ns->ns.length<=n->Z.gens=#[]->
   YC (XO l.prog w) YV (.call (.ref s) ⟨[.ref a],[]⟩) (λr s'=>r=.ok (.ret (.bool true))/\OldK Z.heap s'.heap/\s'.os=Z.os/\YA s'.gens) Z):
  WalkO q loose XP YP l.row.toRowW d [] (λf vs=>VV f vs):=by
 intro w s₀ Z mg mb G Y s o pm cd doc dV kV ho hd R u X L args y as H J N b O;obtain rfl:dV=.none:=Dflts.none u I;obtain rfl:kV=.none:=Dflts.noKw u;obtain⟨a,vs,ns,rfl,rfl,x,h,v⟩:=xD hn H b;refine enter_call (YS (call w s₀ Z mg mb s o pm cd doc a vs ns G Y ho (fd_plain hd) R X x h v L) λr s' V=>?_);obtain⟨rfl,h2,h3,h4⟩:=V;exact⟨.inl ⟨.bool true,.bool true,[],rfl,λ_=>rfl,.bool true,wN l _,λ_=>⟨W9,λ_ hm=>(nomatch hm)⟩⟩,h2,h3,h4⟩
end Att
namespace L2
open PySem PySem.Spec PyProof.Rows
theorem oP:∀{vs:List Value}{ns:List Int},Zj vs ns->Vals (ns.map V.int) vs
 |_,_,.nil=>.nil
 |_,_,.cons n t h=>.cons ⟨t,rfl⟩ (oP h)
def HE(H:Hp):Prop:=∀b,H b=none\/∃o xs,H b=some (.frz o (.lst xs))
theorem zO{P:Program}{w:XR}{K:QF}{mg mb:Str->Option Value}{CX:qr}{k:Nat}{B a:Addr}{fd:XX}{x:Str}{sp:Sp}{Z:Shared}{vs:List Value}{ns:List Int}
  (R:K.In Z.heap)(X:Z.heap.Ns XT mg)(E:Z.heap.Ns YM mb)(C:∀x:Str,x ≠ "__name__" -> mb x=XI x)(i:Z.heap.NoLimit)(G:Z.gens=#[])
  (f:Z.heap.get? a=some { cls:=.type "list",data:=.seq vs.toArray })(hi:Zj vs ns)(hl:ns.length<=sizeLine)(hr:cY k YV)
  (F:∀base:Heap,K.In base->base.Ns XT mg->dJ P w K mg base CX k B fd [x] sp)(Q:∀(s:Shared)(u:Value),YR s fd ⟨[u],[]⟩ [(x,u)])
  (L:∀H:Hp,HE H->dm K H a (ns.map V.int)->sp [.ref a] H (λv _=>v=.bl true) λ_ _ _=>False)
  (J:∀H e s',CX [] H Z (λ_ _ _=>False) e s'->False):
  YC (XO P w) YV (.call (.ref B) ⟨[.ref a],[]⟩) (λr s'=>r=.ok (.ret (.bool true))/\OldK Z.heap s'.heap/\s'.os=Z.os/\YA s'.gens) Z:=by
 have t:=oP hi;have l:=hi.length;have I:∀H:Hp,HE H->dm K H a (ns.map V.int)->kF P w H Z.heap->(∀b,H b≠none->b=a)->(H a≠none->K.lookup a=none)->
   YC (XO P w) YV (.call (.ref B) ⟨[.ref a],[]⟩) (λr s'=>r=.ok (.ret (.bool true))/\OldK Z.heap s'.heap/\s'.os=Z.os/\YA s'.gens) Z:=by
  intro H D j hok hA S;have a8:∀{b:Addr}{o:Obj},Z.heap.get? b=some o->H b=none->(pF Z.heap H).get? b=some o:=λe n=>Bs e n;have N:∀{b:Addr}{o:Obj}{es:Array DictEntry}{p:Nat},Z.heap.get? b=some o->o.data=.dict es p->H b=none:=λ{b o es p} e d=>by
   cases q:H b with
   |none=>rfl
   |some u=>have O:b=a:=hA b (by rw[q];simp);subst O;rw[f] at e;cases e;have d':Data.seq vs.toArray _=Data.dict es p:=d;cases d'
  have Y:∀{b:Addr}{m:Str->Option Value},Z.heap.Ns b m->(pF Z.heap H).Ns b m:=λ{b m} ⟨o,es,p,e,d,r⟩=>⟨o,es,p,a8 e (N e d),d,r⟩
  have y:K.In (pF Z.heap H):=λb o e=>a8 (R b o e) (by
   cases q:H b with
   |none=>rfl
   | some u=>have O:b=a:=hA b (by rw[q];simp);subst O;rw[S (by rw[q];simp)] at e;cases e)
  have g:Mod K mg (pF Z.heap H):=⟨y,Y X,⟨mb,Y E,C⟩,let ⟨mc,h1,h2⟩:=i;⟨mc,Y h1,h2⟩⟩
  have T:tK P w K mg (pF Z.heap H) YV [] Z H:=⟨rfl,g,λb o e=>D8 e,Ue (xn _ _),trivial,λb E=>absurd (show b∈([]:List Addr) from E) Z5,hok,.of_eq G⟩
  refine YS ((F _ y (Y X)).run YV [] Z H ⟨[.ref a],[]⟩ [.ref a] [.ref a] _ _ hr T (Q Z (.ref a)) (.cons rfl .nil) (L H D j)) λr s' h=>?_;cases r with
  |error e=>exact(J H e s' h).elim
  |ok fl=>
   cases fl with
   |next=>exact Sn h
   |brk=>exact Sn h
   |cont=>exact Sn h
   |ret u=>
    obtain⟨v,H',os,bare,un,A,r',q⟩:=h;have U:v=.bl true:=q;subst U;obtain rfl:u=VT true:=r';refine⟨rfl,OldK.of_keep λb o e=>?_,os,bare⟩;cases q:H b with
    |none=>exact un.keep b o e q (by intro z;exact absurd (show b∈([]:List Addr) from z) Z5) Z5
    |some u=>
     rcases D b with z|⟨ob,xs,z⟩
     .rw[q] at z;cases z
     .have z2:=un.frzs b ob _ z;obtain⟨e1,_⟩:=hok b _ z;obtain⟨e2,_⟩:=A b _ z2;rw[e] at e1;cases e1;exact e2
 cases hk:K.lookup a with
 |some o=>have e:=R a o hk;rw[f] at e;cases e;refine I (λ_=>none) (λ_=>.inl rfl) (.inr ⟨_,vs.toArray,_,hk,rfl,rfl,rfl,by rw[QO,l];exact hl,by simpa using t⟩) (λb u z=>by have c:(none:Option HO)=some u:=z;cases c) (λb z=>absurd rfl z) λz=>absurd rfl z
 |none=>
  refine I (λb=>if b=a then some (.frz { cls:=.type "list",data:=.seq vs.toArray } (.lst (ns.map V.int))) else none) (λb=>?_) (.inl (.inr ⟨{ cls:=.type "list",data:=.seq vs.toArray },Zt rfl⟩)) (λb u z=>?_) (λb z=>?_) λ_=>hk
  .by_cases E:b=a
   .exact .inr ⟨_,_,Zt E⟩
   .exact .inl (Zu E)
  .by_cases E:b=a
   .have c:=(Zt E).symm.trans z;cases c;subst E;exact⟨f,by rw[QK];exact hl,vs,_,t,f⟩
   .have c:=(Zu E).symm.trans z;cases c
  .by_cases E:b=a
   .exact E
   .exact absurd (Zu E) z
noncomputable def dY(s:Stmt):Arguments:=match s with
 | .FunctionDef _ a _ _ _ _ _ _ _ _=>a
 |_=>{ posonlyargs:=[],args:=[],vararg:=none,kwonlyargs:=[],kw_defaults:=[],kwarg:=none,defaults:=[] }
noncomputable def fw(s:Stmt):List Stmt:=match s with
 | .FunctionDef _ _ b _ _ _ _ _ _ _=>b
 |_=>[]
noncomputable def bh(s:Stmt):Scope:=match s with
 | .FunctionDef _ _ _ _ _ _ sc _ _ _=>sc
 |_=>{ kind:=.function,names:=[],isGenerator:=false,isCoroutine:=false }
noncomputable abbrev E0:XK:=λ_ _ _=>False
section
variable{X:Cx}
theorem pv(i:Nat){x:Str}{pos:Pos}(hN:X.N[i]?=some x:=by rfl)(hv:kq X.env.scope x:=by first|exact Or.inl rfl|exact WZ (Or.inl rfl)|exact WZ (WZ rfl))(hd:fC x:=by decide)
  (hcd:k9 x:=by decide):PE X (.Name x pos) (mQ i):=bM hN hv hd hcd
end
def O3(H H':Hp):Prop:=∀b o,H b=some o->H' b=some o
end L2
set_option maxHeartbeats 4000000
namespace L2
open PySem PySem.Spec PyProof.Rows PySem.W
open PySem.Builtin.ObjectAttr (find dataDescriptor? getOf)
open PySem.Builtin.Getset_descriptor (descrGet descrGetter descrCheckInstance descrNameAndClass)
section
variable{prog:Program}{w:XR}{A:XU}{E:Value->Shared->Prop}{h:Heap}{g:Array GenState}{d:Drawn}{t:Nat}{os:OsState}{K:Frag}{x C:Addr}
structure LC(K:Frag)(C:Addr):Prop where
 ga:findIn K (.ref C) "__getattribute__" = some (some (.builtin "BaseException.__getattribute__"))
 gt:findIn K (.ref C) "__getattr__" = some none
 cl:findIn K (.ref C) "__class__" = some (some (.builtin "object.__class__"))
 gg:specialIn K (.builtin "object.__class__") "__get__" = some (some (.builtin "getset_descriptor.__get__"))
 tk:takesIn K (.builtin "object.__class__")=some true
 ob:mroIn K C (.type "object")=some true
 be:mroIn K C (.type "BaseException")=some true
def ExcAt(a C:Addr)(h:Heap):Prop:=∃q,h.get? a=some q/\q.cls=.ref C
theorem ExcAt.type{M:Model}(I:ExcAt x C h):Looks M h (typeOf (.ref x)) (.ref C):=by obtain⟨q,e1,e2⟩:=I;exact e2▸(Looks.ld e1).andThen .now
end
variable{C:Addr}
theorem LC.there{K:Frag}(T:LC K C):∃oc od cd sl,K.lookup C=some ⟨oc,od,.cls cd,sl⟩:=by
 have q:=T.ob;unfold mroIn clsIn at q;split at q
 .rename_i a b c e f;exact⟨a,b,c,e,f⟩
 .cases q
open PySem PySem.Spec PyProof.Rows
abbrev XS:=Value->St->Hp->Prop
abbrev TX:=Ends->XS->St->Hp->Prop
section
variable{X:Cx}
variable{k:Nat}{f C:Addr}{fd:XX}{ps:List Str}{sp:Sp}{dvs:List V}{ds:List Value}{x m:Str}{p pos apos:Pos}{e o:Expr}{es:List Expr}{ta:TE}{t:TA}
noncomputable def O9(a C:Addr):HO:=.ext (ExcAt a C)
end
def Bd(n:Nat)(x:Int):Prop:=x.natAbs<2^n
theorem Bd.mono{m n:Nat}{x:Int}(h:Bd m x)(k:m<=n):Bd n x:=QX h (R7 Z3 k)
theorem Bd.bits{n:Nat}{x:Int}(h:Bd n x):U9 x<=n:=by
 delta U9
 split
 .exact SD _
 .rename_i z
  have R:x.natAbs≠0:=λq=>z (by simp[Int.natAbs_eq_zero.mp q])
  exact(VW R).mpr h
theorem Bd.KY{m n:Nat}{x y:Int}(h:Bd m x)(k:Bd n y)(hs:m+n<=134217728):Zr x y:=Zr.of_le h.bits k.bits hs
theorem Bd.mul{m n:Nat}{x y:Int}(h:Bd m x)(k:Bd n y):Bd (m+n) (x*y):=by
 delta Bd at *
 rw[RS,VX]
 exact Nat.mul_lt_mul'' h k
theorem Bd.add{m n:Nat}{x y:Int}(h:Bd m x)(k:Bd n y):Bd (max m n+1) (x+y):=by have h1:=h.mono (WA m n);have r:=k.mono (Wt m n);unfold Bd at *;lia
theorem Bd.neg{n:Nat}{x:Int}(h:Bd n x):Bd n (-x):=by delta Bd at *;rwa[WL]
theorem Bd.log{n:Nat}{x:Int}(h:Bd n x)(hn:n<=9000):x.natAbs.log2<9000:=by
 by_cases z:x.natAbs=0
 .rw[z];decide
 .exact QX ((VW z).mpr h) hn
section
variable{X:Cx}
def PQ(_ j:Int):Prop:=j≠0/\Bd 9000 j
theorem EC:iR X (Yj .Mult) (rI Zr λi j=>.int (i*j)):=oH λ_ _ _ _ _ _ _ hc q=>mul_int q hc
theorem zY:iR X (Yj .FloorDiv) (rI PQ λi j=>.int (i.fdiv j)):=oH λ_ _ _ _ _ _ _ hc q=>floordiv_int hc.1 q (.inl (PyProof.noPylong_of_log2 (hc.2.log (QN _))))
end
inductive D where
 |non|bl(b:Bool)|int(i:Int)|str(x:Str)|tup(ds:List D)|lst(ds:List D)
mutual
noncomputable def D.eq:D->D->Bool
 | .non,.non=>true
 | .bl a,.bl b=>a==b
 | .bl a,.int b=>(if a then 1 else 0)==b
 | .int a,.bl b=>a==(if b then 1 else 0)
 | .int a,.int b=>a==b
 | .str a,.str b=>a==b
 | .tup xs,.tup ys=>D.eqs xs ys
 | .lst xs,.lst ys=>D.eqs xs ys
 |_,_=>false
noncomputable def D.eqs:List D->List D->Bool
 |[],[]=>true
 |x::xs,y::ys=>D.eq x y&&D.eqs xs ys
 |_,_=>false
end
mutual
noncomputable def D.depth:D->Nat
 | .tup xs=>D.gu xs+1
 | .lst xs=>D.gu xs+1
 |_=>0
noncomputable def D.gu:List D->Nat
 |[]=>0
 |x::xs=>max (D.depth x) (D.gu xs)
end
mutual
theorem D.kU:∀d:D,D.eq d d=true
 | .non=>rfl
 | .bl b=>beq_self_eq_true b
 | .int i=>beq_self_eq_true i
 | .str x=>beq_self_eq_true x
 | .tup xs=>D.mM xs
 | .lst xs=>D.mM xs
theorem D.mM:∀ds:List D,D.eqs ds ds=true
 |[]=>rfl
 |x::xs=>by show (D.eq x x&&D.eqs xs xs)=true;rw[D.kU x,D.mM xs];rfl
end
mutual
inductive Den(K:QF)(H:Hp):V->D->Prop
 |non:Den K H .non .non
 |bl(b:Bool):Den K H (.bl b) (.bl b)
 |int(i:Int):Den K H (.int i) (.int i)
 |str(x:Str):Den K H (.str x) (.str x)
 |tup{a:Addr}{xs:List V}{ds:List D}(e:gW K H a xs)(r:fZ K H xs ds):Den K H (.ref a) (.tup ds)
 |lst{a:Addr}{xs:List V}{ds:List D}(e:dm K H a xs)(r:fZ K H xs ds):Den K H (.ref a) (.lst ds)
inductive fZ(K:QF)(H:Hp):List V->List D->Prop
 |nil:fZ K H [] []
 |cons{x:V}{d:D}{xs:List V}{ds:List D}(h:Den K H x d)(r:fZ K H xs ds):fZ K H (x::xs) (d::ds)
end
theorem fZ.len{K:QF}{H:Hp}:∀{xs:List V}{ds:List D},fZ K H xs ds->xs.length=ds.length
 |_,_,.nil=>rfl
 |_,_,.cons _ r=>by rw[QU,QU,r.len]
theorem fZ.at{K:QF}{H:Hp}:∀{xs:List V}{ds:List D}(j:Nat){x:V}{d:D},fZ K H xs ds->xs[j]?=some x->ds[j]?=some d->Den K H x d
 |_,_,0,_,_,.cons h _,e1,e2=>by cases e1;cases e2;exact h
 |_,_,j+1,_,_,.cons _ r,e1,e2=>r.at j e1 e2
theorem D.nU:∀{ds:List D}(j:Nat){d:D},ds[j]?=some d->D.depth d<=D.gu ds
 |x::xs,0,_,e=>by cases e;exact WA _ _
 |x::xs,j+1,_,e=>Ru (D.nU j e) (Wt _ _)
theorem D.gw:∀(xs ys:List D),D.eqs xs ys=((Q4 (min xs.length ys.length)).all (λj=>D.eq (xs.getD j .non) (ys.getD j .non))&&xs.length==ys.length)
 |[],[]=>rfl
 |[],_::_=>rfl
 |_::_,[]=>rfl
 |x::xs,y::ys=>by
  rw[show D.eqs (x::xs) (y::ys)=(D.eq x y&&D.eqs xs ys) from rfl,D.gw xs ys,QU,QU,Nat.succ_min_succ,T9,Q7,UP];have e:(xs.length+1==ys.length+1)=(xs.length==ys.length):=by rw[Wu];simp
  rw[e,Bool.and_assoc];rfl
variable{xs ys:List V}{u:Value}{us:List Value}
section
variable{X:Cx}{pins:List (Addr×Obj)}{Y:St}{H:Hp}{s:Shared}
theorem uP{a:Addr}(I:Inv X pins Y H s)(h1:gW X.K H a xs)(h2:dm X.K H a ys):False:=by obtain⟨_,_,⟨o,e,c,_⟩,_⟩:=I.tuple h1;obtain⟨_,_,⟨o',p,k,i,_,d'⟩,_⟩:=I.list h2;rw[e] at k;cases k;rw[c] at i;injection i with q;exact absurd q Z3
mutual
theorem Den.inj(I:Inv X pins Y H s):∀{v:V}{d e:D},Den X.K H v d->Den X.K H v e->d=e
 |_,_,_,.non,h=>by cases h;rfl
 |_,_,_,.bl b,h=>by cases h;rfl
 |_,_,_,.int i,h=>by cases h;rfl
 |_,_,_,.str x,h=>by cases h;rfl
 |_,_,_,.tup e r,h=>by
  cases h with
  |tup k r'=>cases I.kg e k;rw[fZ.inj I r r']
  |lst k r'=>exact(uP I e k).elim
 |_,_,_,.lst e r,h=>by
  cases h with
  |lst k r'=>cases I.fR e k;rw[fZ.inj I r r']
  |tup k r'=>exact(uP I k e).elim
theorem fZ.inj(I:Inv X pins Y H s):∀{v:List V}{d e:List D},fZ X.K H v d->fZ X.K H v e->d=e
 |_,_,_,.nil,h=>by cases h;rfl
 |_,_,_,.cons a r,h=>by
  cases h with
  |cons a' r'=>rw[Den.inj I a a',fZ.inj I r r']
end
theorem oN(I:Inv X pins Y H s){A:XU}{x y:V}{d e:D}{v:Value}(g:A.units<cLine)(hf:gN x=true)(hd:Den X.K H x d)(he:Den X.K H y e)(h:RelV x u)(t:RelV y v):T5 A s u v (D.eq d e):=by
 cases hd with
 |tup=>cases hf
 |lst=>cases hf
 |non =>
  cases he with
  |tup q r=>cases h;cases t;obtain⟨_,_,p,_⟩:=I.tuple q;exact .none_tuple p g
  |lst q r=>cases h;cases t;obtain⟨_,_,p,_⟩:=I.list q;exact .none_list p.isList g
  |non => exact cT h t rfl rfl
  |bl b1=>exact cT h t rfl rfl
  |int n=>exact cT h t rfl rfl
  |str b=>exact cT h t rfl rfl
 |bl o=>
  cases he with
  |tup q r=>cases h;cases t;obtain⟨_,_,p,_⟩:=I.tuple q;exact .bool_tuple _ p g
  |lst q r=>cases h;cases t;obtain⟨_,_,p,_⟩:=I.list q;exact .bool_list _ p.isList g
  |non => exact cT h t rfl rfl
  |bl b1=>exact cT h t rfl rfl
  |int n=>exact cT h t rfl rfl
  |str b=>exact cT h t rfl rfl
 |int F=>
  cases he with
  |tup q r=>obtain⟨_,rfl⟩:=h;cases t;obtain⟨_,_,p,_⟩:=I.tuple q;exact .int_tuple _ _ p g
  |lst q r=>obtain⟨_,rfl⟩:=h;cases t;obtain⟨_,_,p,_⟩:=I.list q;exact .int_list _ _ p.isList g
  |non => exact cT h t rfl rfl
  |bl b1=>exact cT h t rfl rfl
  |int n=>exact cT h t rfl rfl
  |str b=>exact cT h t rfl rfl
 |str x0=>
  cases he with
  |tup q r=>obtain⟨_,rfl⟩:=h;cases t;obtain⟨_,_,p,_⟩:=I.tuple q;exact .str_tuple _ _ p g
  |lst q r=>obtain⟨_,rfl⟩:=h;cases t;obtain⟨_,_,p,_⟩:=I.list q;exact .str_list _ _ p.isList g
  |non => exact cT h t rfl rfl
  |bl b1=>exact cT h t rfl rfl
  |int n=>exact cT h t rfl rfl
  |str b=>exact cT h t rfl rfl
theorem Vals.Mw(r:Vals xs us){j:Nat}(N:j<us.toArray.size):∃x,xs[j]?=some x/\RelV x us.toArray[j]:=by
 have hl:=r.length;have q:j<us.length:=by simpa using N
 have hx:j<xs.length:=by lia
 obtain⟨u,e,D⟩:=r.get (Q5 hx);rw[Q5 q] at e;cases e;exact⟨xs[j],Q5 hx,by simpa using D⟩
theorem fZ.getD{K:QF}{H:Hp}{xs:List V}{ds:List D}(r:fZ K H xs ds){j:Nat}{x:V}(e:xs[j]?=some x):Den K H x (ds.getD j .non)/\D.depth (ds.getD j .non)<=D.gu ds:=by
 have N:j<ds.length:=by rw[<-r.len];exact(QH.mp e).1
 have e2:=Q5 N;have s:ds.getD j .non=ds[j]:=by rw[Se,e2];rfl
 rw[s];exact⟨r.at j e e2,D.nU j e2⟩
theorem kv(I:Inv X pins Y H s){n:Nat}(m:∀{A:XU}{x y:V}{d e:D}{u v:Value},A.units+n<cLine->D.depth d<=n->Den X.K H x d->Den X.K H y e->RelV x u->RelV y v->T5 A s u v (D.eq d e))
  {A:XU}(g:A.units+(n+1)<cLine){ds es:List D}{vs:List Value}(hn:D.gu ds<=n)(r:fZ X.K H xs ds)(q:fZ X.K H ys es)(h:Vals xs us)(t:Vals ys vs):
  ∀j (h1:j<us.toArray.size) (h2:j<vs.toArray.size),T5 A.in1 s us.toArray[j] vs.toArray[j] (D.eq (ds.getD j .non) (es.getD j .non)):=λj h1 h2=>by
 obtain⟨x,ex,a⟩:=h.Mw h1;obtain⟨y,P,z⟩:=t.Mw h2;obtain⟨Q,b⟩:=r.getD ex;exact m (by show A.units+1+n<cLine;lia) (Ru b hn) Q (q.getD P).1 a z
theorem jJ(I:Inv X pins Y H s):∀(n:Nat){A:XU}{x y:V}{d e:D}{u v:Value},A.units+n<cLine->D.depth d<=n->Den X.K H x d->Den X.K H y e->RelV x u->RelV y v->T5 A s u v (D.eq d e):=by
 intro n;induction n with
 |zero=>
  intro A x y d e u v g hn hd he B t;cases id hd with
  |tup=>simp[D.depth] at hn
  |lst=>simp[D.depth] at hn
  |_=>exact oN I g rfl hd he B t
 |succ n m=>
  intro A x y d e u v g hn hd he B t;have q:A.units<cLine:=by lia
  cases id hd with
  |@tup a xs ds O r=>
   cases B;obtain⟨us,l,p,_⟩:=I.tuple O;cases id he with
   |@tup b ys es G k=>
    cases t;obtain⟨vs,h,w,_⟩:=I.tuple G;by_cases o:a=b
    .subst o;rw[hd.inj I he,D.kU];exact .same _
    .refine .of_refs o ?_;rw[show D.eq (.tup _) (.tup _)=_ from D.gw _ _];have l1:us.toArray.size=ds.length:=by rw[QO,<-l.length,r.len]
     have l2:vs.toArray.size=es.length:=by rw[QO,<-h.length,k.len]
     rw[<-l1,<-l2];exact .tuples p w q (kv I m g (by rw[D.depth] at hn;lia) r k l h)
   |@lst b ys es G k=>cases t;obtain⟨vs,h,w,_⟩:=I.list G;exact .tuple_list p w.isList q
   |non => cases t;exact .tuple_none p q
   |bl C=>cases t;exact .tuple_bool _ p q
   |int F=>obtain⟨_,rfl⟩:=t;exact .tuple_int _ _ p q
   |str x0=>obtain⟨_,rfl⟩:=t;exact .tuple_str _ _ p q
  |@lst a xs ds O r=>
   cases B;obtain⟨us,l,p,_⟩:=I.list O;cases id he with
   |@lst b ys es G k=>
    cases t;obtain⟨vs,h,w,_⟩:=I.list G;by_cases o:a=b
    .subst o;rw[hd.inj I he,D.kU];exact .same _
    .refine .of_refs o ?_;rw[show D.eq (.lst _) (.lst _)=_ from D.gw _ _];have l1:us.toArray.size=ds.length:=by rw[QO,<-l.length,r.len]
     have l2:vs.toArray.size=es.length:=by rw[QO,<-h.length,k.len]
     rw[<-l1,<-l2];by_cases hl:us.toArray.size=vs.toArray.size
     .have e1:(us.toArray.size==vs.toArray.size)=true:=Zy.mpr hl;rw[e1,SQ,<-hl,VE];exact .lists p.isList w.isList hl q (kv I m g (by rw[D.depth] at hn;lia) r k l h)
     .have e1:(us.toArray.size==vs.toArray.size)=false:=beq_eq_false_iff_ne.mpr hl;rw[e1,Uq];exact .lists_lengths p.isList w.isList (by simpa using hl) q
   |@tup b ys es G k=>cases t;obtain⟨vs,h,w,_⟩:=I.tuple G;exact .list_tuple p.isList w q
   |non => cases t;exact .list_none p.isList q
   |bl C=>cases t;exact .list_bool _ p.isList q
   |int F=>obtain⟨_,rfl⟩:=t;exact .list_int _ _ p.isList q
   |str x0=>obtain⟨_,rfl⟩:=t;exact .list_str _ _ p.isList q
  |_=>exact oN I q rfl hd he B t
end
section
variable{X:Cx}{pins:List (Addr×Obj)}{Y:St}{H:Hp}{s:Shared}
theorem Be(I:Inv X pins Y H s){n:Nat}{A:XU}{x y:V}{d e:D}{v:Value}(g:A.units+n<cLine)(hn:D.depth d<=n)(hd:Den X.K H x d)(he:Den X.K H y e)(B:RelV x u)(t:RelV y v):SeqAt.RcAt A s u v (D.eq d e):=by
 have q:A.units<cLine:=by lia
 cases id hd with
 |non =>
  cases B;cases id he with
  |non => cases t;exact .none_none
  |bl E=>cases t;exact .none_bool _
  |int E=>obtain⟨_,rfl⟩:=t;exact .none_int _ _
  |str E=>obtain⟨_,rfl⟩:=t;exact .none_str _ _
  |@tup b ys es G k=>cases t;obtain⟨_,_,w,_⟩:=I.tuple G;exact .none_tuple w q
  |@lst b ys es G k=>cases t;obtain⟨_,_,w,_⟩:=I.list G;exact .none_list w.isList q
 |bl J=>
  cases B;cases id he with
  |non => cases t;exact .bool_none _
  |bl E=>cases t;exact .bool_bool _ _
  |int E=>obtain⟨_,rfl⟩:=t;exact .bool_int _ _ _
  |str E=>obtain⟨_,rfl⟩:=t;exact .bool_str _ _ _
  |@tup b ys es G k=>cases t;obtain⟨_,_,w,_⟩:=I.tuple G;exact .bool_tuple _ w q
  |@lst b ys es G k=>cases t;obtain⟨_,_,w,_⟩:=I.list G;exact .bool_list _ w.isList q
 |int J=>
  obtain⟨_,rfl⟩:=B;cases id he with
  |non => cases t;exact .int_none _ _
  |bl E=>cases t;exact .int_bool _ _ _
  |int E=>obtain⟨_,rfl⟩:=t;exact .int_int _ _ _ _
  |str E=>obtain⟨_,rfl⟩:=t;exact .int_str _ _ _ _
  |@tup b ys es G k=>cases t;obtain⟨_,_,w,_⟩:=I.tuple G;exact .int_tuple _ _ w q
  |@lst b ys es G k=>cases t;obtain⟨_,_,w,_⟩:=I.list G;exact .int_list _ _ w.isList q
 |str J=>
  obtain⟨_,rfl⟩:=B;cases id he with
  |non => cases t;exact .str_none _ _
  |bl E=>cases t;exact .str_bool _ _ _
  |int E=>obtain⟨_,rfl⟩:=t;exact .str_int _ _ _ _
  |str E=>obtain⟨_,rfl⟩:=t;exact .str_str _ _ _ _
  |@tup b ys es G k=>cases t;obtain⟨_,_,w,_⟩:=I.tuple G;exact .str_tuple _ _ w q
  |@lst b ys es G k=>cases t;obtain⟨_,_,w,_⟩:=I.list G;exact .str_list _ _ w.isList q
 |@tup a xs ds O r=>
  cases B;obtain⟨us,l,p,_⟩:=I.tuple O;cases id he with
  |non => cases t;exact .tuple_none p q
  |bl E=>cases t;exact .tuple_bool _ p q
  |int E=>obtain⟨_,rfl⟩:=t;exact .tuple_int _ _ p q
  |str E=>obtain⟨_,rfl⟩:=t;exact .tuple_str _ _ p q
  |@tup b ys es G k=>
   cases t;obtain⟨vs,h,w,_⟩:=I.tuple G;rw[D.depth] at hn;obtain⟨n,rfl⟩:∃m,n=m+1:=⟨n-1,by lia⟩
   rw[show D.eq (.tup _) (.tup _)=_ from D.gw _ _];have l1:us.toArray.size=ds.length:=by rw[QO,<-l.length,r.len]
   have l2:vs.toArray.size=es.length:=by rw[QO,<-h.length,k.len]
   rw[<-l1,<-l2];exact .tuples p w q (kv I (jJ I n) g Q1 r k l h)
  |@lst b ys es G k=>cases t;obtain⟨_,_,w,_⟩:=I.list G;exact .tuple_list p w.isList q
 |@lst a xs ds O r=>
  cases B;obtain⟨us,l,p,_⟩:=I.list O;cases id he with
  |non => cases t;exact .list_none p.isList q
  |bl E=>cases t;exact .list_bool _ p.isList q
  |int E=>obtain⟨_,rfl⟩:=t;exact .list_int _ _ p.isList q
  |str E=>obtain⟨_,rfl⟩:=t;exact .list_str _ _ p.isList q
  |@tup b ys es G k=>cases t;obtain⟨_,_,w,_⟩:=I.tuple G;exact .list_tuple p.isList w q
  |@lst b ys es G k=>
   cases t;obtain⟨vs,h,w,_⟩:=I.list G;rw[D.depth] at hn;obtain⟨n,rfl⟩:∃m,n=m+1:=⟨n-1,by lia⟩
   rw[show D.eq (.lst _) (.lst _)=_ from D.gw _ _];have l1:us.toArray.size=ds.length:=by rw[QO,<-l.length,r.len]
   have l2:vs.toArray.size=es.length:=by rw[QO,<-h.length,k.len]
   rw[<-l1,<-l2];by_cases hl:us.toArray.size=vs.toArray.size
   .have e1:(us.toArray.size==vs.toArray.size)=true:=Zy.mpr hl;rw[e1,SQ,<-hl,VE];exact .lists p.isList w.isList hl q (kv I (jJ I n) g Q1 r k l h)
   .have e1:(us.toArray.size==vs.toArray.size)=false:=beq_eq_false_iff_ne.mpr hl;rw[e1,Uq];exact .lists_lengths p.isList w.isList (by simpa using hl) q
theorem uc(I:Inv X pins Y H s){n:Nat}{A:XU}{x y:V}{d e:D}{v:Value}(g:A.units+n<cLine)(hn:D.depth d<=n)(hd:Den X.K H x d)(he:Den X.K H y e)(B:RelV x u)(t:RelV y v):SeqAt.RcNeAt A s u v (!D.eq d e):=by
 have q:A.units<cLine:=by lia
 cases id hd with
 |non =>
  cases B;cases id he with
  |non => cases t;exact .none_none
  |bl E=>cases t;exact .none_bool _
  |int E=>obtain⟨_,rfl⟩:=t;exact .none_int _ _
  |str E=>obtain⟨_,rfl⟩:=t;exact .none_str _ _
  |@tup b ys es G k=>cases t;obtain⟨_,_,w,_⟩:=I.tuple G;exact .none_tuple w q
  |@lst b ys es G k=>cases t;obtain⟨_,_,w,_⟩:=I.list G;exact .none_list w.isList q
 |bl J=>
  cases B;cases id he with
  |non => cases t;exact .bool_none _
  |bl E=>cases t;exact .bool_bool _ _
  |int E=>obtain⟨_,rfl⟩:=t;exact .bool_int _ _ _
  |str E=>obtain⟨_,rfl⟩:=t;exact .bool_str _ _ _
  |@tup b ys es G k=>cases t;obtain⟨_,_,w,_⟩:=I.tuple G;exact .bool_tuple _ w q
  |@lst b ys es G k=>cases t;obtain⟨_,_,w,_⟩:=I.list G;exact .bool_list _ w.isList q
 |int J=>
  obtain⟨_,rfl⟩:=B;cases id he with
  |non => cases t;exact .int_none _ _
  |bl E=>cases t;exact .int_bool _ _ _
  |int E=>obtain⟨_,rfl⟩:=t;exact .int_int _ _ _ _
  |str E=>obtain⟨_,rfl⟩:=t;exact .int_str _ _ _ _
  |@tup b ys es G k=>cases t;obtain⟨_,_,w,_⟩:=I.tuple G;exact .int_tuple _ _ w q
  |@lst b ys es G k=>cases t;obtain⟨_,_,w,_⟩:=I.list G;exact .int_list _ _ w.isList q
 |str J=>
  obtain⟨_,rfl⟩:=B;cases id he with
  |non => cases t;exact .str_none _ _
  |bl E=>cases t;exact .str_bool _ _ _
  |int E=>obtain⟨_,rfl⟩:=t;exact .str_int _ _ _ _
  |str E=>obtain⟨_,rfl⟩:=t;exact .str_str _ _ _ _
  |@tup b ys es G k=>cases t;obtain⟨_,_,w,_⟩:=I.tuple G;exact .str_tuple _ _ w q
  |@lst b ys es G k=>cases t;obtain⟨_,_,w,_⟩:=I.list G;exact .str_list _ _ w.isList q
 |@tup a xs ds O r=>
  cases B;obtain⟨us,l,p,_⟩:=I.tuple O;cases id he with
  |non => cases t;exact .tuple_none p q
  |bl E=>cases t;exact .tuple_bool _ p q
  |int E=>obtain⟨_,rfl⟩:=t;exact .tuple_int _ _ p q
  |str E=>obtain⟨_,rfl⟩:=t;exact .tuple_str _ _ p q
  |@tup b ys es G k=>
   cases t;obtain⟨vs,h,w,_⟩:=I.tuple G;rw[D.depth] at hn;obtain⟨n,rfl⟩:∃m,n=m+1:=⟨n-1,by lia⟩
   rw[show D.eq (.tup _) (.tup _)=_ from D.gw _ _];have l1:us.toArray.size=ds.length:=by rw[QO,<-l.length,r.len]
   have l2:vs.toArray.size=es.length:=by rw[QO,<-h.length,k.len]
   rw[<-l1,<-l2];exact .tuples p w q (kv I (jJ I n) g Q1 r k l h)
  |@lst b ys es G k=>cases t;obtain⟨_,_,w,_⟩:=I.list G;exact .tuple_list p w.isList q
 |@lst a xs ds O r=>
  cases B;obtain⟨us,l,p,_⟩:=I.list O;cases id he with
  |non => cases t;exact .list_none p.isList q
  |bl E=>cases t;exact .list_bool _ p.isList q
  |int E=>obtain⟨_,rfl⟩:=t;exact .list_int _ _ p.isList q
  |str E=>obtain⟨_,rfl⟩:=t;exact .list_str _ _ p.isList q
  |@tup b ys es G k=>cases t;obtain⟨_,_,w,_⟩:=I.tuple G;exact .list_tuple p.isList w q
  |@lst b ys es G k=>
   cases t;obtain⟨vs,h,w,_⟩:=I.list G;rw[D.depth] at hn;obtain⟨n,rfl⟩:∃m,n=m+1:=⟨n-1,by lia⟩
   rw[show D.eq (.lst _) (.lst _)=_ from D.gw _ _];have l1:us.toArray.size=ds.length:=by rw[QO,<-l.length,r.len]
   have l2:vs.toArray.size=es.length:=by rw[QO,<-h.length,k.len]
   rw[<-l1,<-l2];by_cases hl:us.toArray.size=vs.toArray.size
   .have e1:(us.toArray.size==vs.toArray.size)=true:=Zy.mpr hl;rw[e1,SQ,<-hl,VE];exact .lists p.isList w.isList hl q (kv I (jJ I n) g Q1 r k l h)
   .have e1:(us.toArray.size==vs.toArray.size)=false:=beq_eq_false_iff_ne.mpr hl;rw[e1,Uq];exact .lists_lengths p.isList w.isList (by simpa using hl) q
def M0(K:QF):R2:=λx y H Q=>∃d e,Den K H x d/\Den K H y e/\D.depth d<=40/\Q (.bl (D.eq d e)) H
def Kw(K:QF):R2:=λx y H Q=>∃d e,Den K H x d/\Den K H y e/\D.depth d<=40/\Q (.bl (!D.eq d e)) H
theorem AQ(g:X.A.units+64<cLine):iR X (X8 .Eq) (M0 X.K):=by intro pins s Y H x y v u Q I a z h;obtain⟨d,e,hd,he,dp,q⟩:=h;exact Be I g (by exact Ox) hd he a z _ _ _ _ ⟨.bl _,H,I,rfl,q⟩
theorem yJ(g:X.A.units+64<cLine):iR X (X8 .NotEq) (Kw X.K):=by intro pins s Y H x y v u Q I a z h;obtain⟨d,e,hd,he,dp,q⟩:=h;exact uc I g (by exact Ox) hd he a z _ _ _ _ ⟨.bl _,H,I,rfl,q⟩
inductive IF(K:QF)(H:Hp):V->Value->Prop where
 |of{v:V}{t:Value}(h:BP K H v t):IF K H v t
 |tup{a:Addr}{xs:List V}(e:gW K H a xs):IF K H (.ref a) (.type "tuple")
 |lst{a:Addr}{xs:List V}(e:dm K H a xs):IF K H (.ref a) (.type "list")
 |dic{a:Addr}{kvs:List (Key×V)}(e:Rd H a (.dK kvs)):IF K H (.ref a) (.type "dict")
noncomputable def Ki:V->Value
 | .ref a=>.ref a
 | .ty n=>.type n
 |_=>.none
noncomputable def Ag:V->Bool
 | .ref _=>true
 | .ty _=>true
 |_=>false
theorem Dh{x:V}(h:Ag x=true)(r:RelV x u):u=Ki x:=by cases x<;>first|exact r|cases h
theorem tQ{pins:List (Addr×Obj)}{x:V}{t:Value}(I:Inv X pins Y H s)(a:RelV x u)(ty:IF X.K H x t):∃P,PySem.W.KitX X.K u t P/\P s.heap/\u≠.builtin "__main__.__loader__#opaque" := by
 cases ty with
 |tup e=>cases a;obtain⟨_,_,⟨o,h1,h2,_⟩,_⟩:=I.tuple e;exact⟨_,PySem.W.kitx_tuple,⟨o,h1,h2⟩,λz=>nomatch z⟩
 |lst e=>cases a;obtain⟨_,_,⟨o,_,h1,h2,_⟩,_⟩:=I.list e;exact⟨_,PySem.W.kitx_list,⟨o,h1,h2⟩,λz=>nomatch z⟩
 |dic e=>cases a;obtain⟨_,_,vs,_,o,es,p,h1,h2,_⟩:=vF I.hok e;exact⟨_,PySem.W.kitx_dict,⟨o,h1,h2.1⟩,λz=>nomatch z⟩
 |of h=>
  cases h with
  |non=>cases a;exact⟨_,PySem.W.kitx_none,trivial,λz=>nomatch z⟩
  |bl y=>cases a;exact⟨_,PySem.W.kitx_bool,trivial,λz=>nomatch z⟩
  |int i=>obtain⟨_,rfl⟩:=a;exact⟨_,PySem.W.kitx_int,trivial,λz=>nomatch z⟩
  |str i=>obtain⟨_,rfl⟩:=a;exact⟨_,PySem.W.kitx_str,trivial,λz=>nomatch z⟩
theorem BI:dg X (.builtin "isinstance") (λxs H Q=>∃x c t b,xs=[x,c]/\IF X.K H x t/\Ag c=true/\Sb X.K t (Ki c)=some b/\Q (.bl b) H):=by intro pins s Y H xs us Q I r h;obtain⟨x,c,t,b,rfl,ty,hc,hk,q⟩:=h;obtain⟨u,a,rfl,D,E⟩:=vals2 r;rw[Dh hc E];obtain⟨P,Z,p,e⟩:=tQ I D ty;exact PySem.W.kia_one Z I.sP p hk e λtk=>⟨.bl b,H,I.tok tk,rfl,q⟩
end
theorem zi:XI "len" = some (.builtin "len"):=by decide +kernel
theorem nE:XI "isinstance" = some (.builtin "isinstance"):=by decide +kernel
theorem Gg:XI "abs" = some (.builtin "abs"):=by decide +kernel
theorem yf:XI "max" = some (.builtin "max"):=by decide +kernel
theorem yV:XI "min" = some (.builtin "min"):=by decide +kernel
theorem zd:XI "any" = some (.builtin "any"):=by decide +kernel
theorem AO:XI "int" = some (.type "int"):=by decide +kernel
theorem Ex:XI "bool" = some (.type "bool"):=by decide +kernel
theorem GX:XI "str" = some (.type "str"):=by decide +kernel
theorem rQ:XI "tuple" = some (.type "tuple"):=by decide +kernel
theorem kY:XI "list" = some (.type "list"):=by decide +kernel
theorem DZ:XI "dict" = some (.type "dict"):=by decide +kernel
theorem J6:XI "zip" = some (.type "zip"):=by decide +kernel
theorem pj:XI "enumerate" = some (.type "enumerate"):=by decide +kernel
structure pH(K:QF)(x qual:Str)(st:Stmt)(f:Addr)(fd:XX)(dV:Value):Prop where
 ex:∃(oc:Value)(od:Option Addr)(kV doc pm:Value)(an:Option Addr)(cdv ct:Value)(osl:Array (Option Value)),
  fd=Uz x qual (dY st) (fw st) (bh st) dV kV doc pm an cdv ct/\K.lookup f=some ⟨oc,od,.func fd,osl⟩/\Ug K cdv qual=true
 kp:Sa K (.ref f)=true
@[irreducible] def QS (X:Cx) (s:Stmt) (t:TS):Prop:=PS X s t
@[irreducible] def QT (X:Cx) (s:Expr) (t:TT):Prop:=PT X s t
@[irreducible] def QA (X:Cx) (s:List Expr) (t:TA):Prop:=PA X s t
set_option autoImplicit true
set_option relaxedAutoImplicit true
variable{elt:Expr}{scope:Scope}{pos:Pos}{env:Env}
section
variable{prog:Program}{w:XR}{A:XU}{R:Result->Shared->Prop}{s:Shared}
theorem qm{o iter:Expr}{ifs:List Expr}{it acc:Value}(I:Nat->Shared->Prop)
  (turn:∀n s,I n s->XJ (XO prog w) A (pyNext it) (λr Z=>match r with
   |none=>R (.ok .next) Z
   | some v=>XJ (XO prog w) A (Yv o it v) (λ_ H=>XJ (XO prog w) A (assign o env v) (λ_ T=>
     XJ (XO prog w) A (forIn ifs true λc r=>if r=true then do let ok <- Zd c env (eval c env);pure (SF ok) else pure (SF r)) (λok U=>
      if ok=true then XJ (XO prog w) A (eval elt env) (λx Y=>XJ (XO prog w) A (call (.builtin "list.append") [acc,x]) (λ_ u=>∃m,m<n/\I m u) (λ_ _=>False) Y) (λ_ _=>False) U
      else ∃m,m<n/\I m U) (λ_ _=>False) T) (λ_ _=>False) H) (λ_ _=>False) Z) (λ_ _=>False) s)
  (n:Nat) (h:I n s):YC (XO prog w) A (.compLoop (.ListComp elt [⟨o,iter,ifs,0⟩] scope pos) 0 it acc env) R s:=by
 refine codeAny_loop rfl I (λn s b=>?_) n h;show XJ _ A ((compTurn (.ListComp elt [⟨o,iter,ifs,0⟩] scope pos) 0 it acc env).onRaise (λx=>do noteFrame x env;theTreesLotGoes x)) _ _ s;refine wpAny_noted ?_;rw[compTurn_list];refine XH (YD (XH (Yk (turn n s b) (λr Z X=>?_) λ_ _ h'=>h'.elim)));cases r with
 |none=>exact XN X
 |some v=>
  refine XH (Yk X (λ_ H y=>?_) λ_ _ h'=>h'.elim);refine XH (Yk y (λ_ T L=>XH (Yk L (λok U e=>?_) λ_ _ h'=>h'.elim)) λ_ _ h'=>h'.elim);cases ok with
  |false=>exact XN ⟨rfl,e⟩
  |true=>exact XH (XH (Yk e (λx Y P=>XH (Yk P (λ_ u Q=>XN (XN ⟨rfl,Q⟩)) λ_ _ h'=>h'.elim)) λ_ _ h'=>h'.elim))
end
theorem mG{env:Env}{f:Str×NameKind->List (Str×Addr)->Sem (ForInStep (List (Str×Addr)))}
  (hf:∀x cs,f x cs=if (x.2==SG)=true then (do let c <- cellOf env x.1;pure (SF ((x.1,c)::cs))) else pure (SF cs)):
  ∀(l:List (Str×NameKind))(cs:List (Str×Addr)),(∀x∈l,x.2=.free->∃c,env.cells.lookup x.1=some c)->
   ∃cl,forIn l cs f=(pure cl:Sem _)/\(∀x c,cl.lookup x=some c->cs.lookup x=some c\/env.cells.lookup x=some c) /\
    (∀x,(∃c,cs.lookup x=some c)\/(x,SG)∈l->∃c,cl.lookup x=some c)
 |[],cs,_=>⟨cs,rfl,λ_ _ h=>.inl h,λx h=>h.elim id (λz=>by cases z)⟩
 |(n,k)::l,cs,h=>by
  rw[Wv,hf];by_cases hk:k=.free
  .subst hk;obtain⟨c,hc⟩:=h (n,.free) QV rfl;obtain⟨cl,e,h1,h2⟩:=mG hf l ((n,c)::cs) λx hx=>h x (QM _ hx);refine⟨cl,?_,λx i q=>?_,λx q=>h2 x ?_⟩
   .have e1:cellOf env n=pure c:=by delta cellOf;rw[hc]
    simp only[beq_self_eq_true,if_true,e1,pure_bind];exact e
   .rcases h1 x i q with z|z
    .rw[QY] at z;by_cases hx:(x==n)=true
     .rw[hx] at z;have:x=n:=eq_of_beq hx;subst this;exact .inr (by rw[hc];exact z)
     .rw[Bool.eq_false_iff.mpr hx] at z;exact .inl z
    .exact .inr z
   .rcases q with ⟨i,z⟩|z
    .left;rw[QY];cases x==n with
     |true=>exact⟨c,rfl⟩
     |false=>exact⟨i,z⟩
    .rcases QL.mp z with z|z
     .left;cases z;rw[QY,beq_self_eq_true];exact⟨c,rfl⟩
     .exact .inr z
  .obtain⟨cl,e,h1,h2⟩:=mG hf l cs λx hx=>h x (QM _ hx);refine⟨cl,?_,h1,λx q=>h2 x ?_⟩
   .have e1:((n,k).2==SG)=false:=by cases k<;>first|rfl|exact absurd rfl hk
    rw[e1];exact e
   .rcases q with z|z
    .exact .inl z
    .rcases QL.mp z with z|z
     .cases z;exact absurd rfl hk
     .exact .inr z
theorem tq(h:∀x∈scope.names,x.2=.free->∃c,env.cells.lookup x.1=some c):
  ∃cl,closureFor scope env=pure cl/\(∀x c,cl.lookup x=some c->env.cells.lookup x=some c)/\(∀x,(x,SG)∈scope.names->∃c,cl.lookup x=some c):=by
 obtain⟨cl,e,h1,h2⟩:=mG (λ_ _=>rfl) scope.names [] h;refine⟨cl,?_,λx c q=>(h1 x c q).elim (λz=>by cases z) id,λx q=>h2 x (.inr q)⟩;exact(Zx (λz:Sem (List (Str×Addr))=>z >>= λr=>pure r) e).trans (by rw[pure_bind])
section
variable{env:Env}
noncomputable def q5(env:Env):Str×NameKind->Str×NameKind:=λ(n,k)=>if (k==.free&&env.scope.kind==.function&&env.kindOf n==some .cell) then (n,.cell) else (n,k)
theorem qI(p:Str×NameKind):(q5 env p).1=p.1:=by obtain⟨n,k⟩:=p;show (if _ then _ else _:Str×NameKind).1=n;split<;>rfl
theorem qK(p:Str×NameKind):(q5 env p).2=p.2\/(p.2=.free/\(q5 env p).2=.cell):=by
 obtain⟨n,k⟩:=p;show (if _ then _ else _:Str×NameKind).2=k\/_;split
 .rename_i h;right;rw[QE,QE] at h;refine⟨eq_of_beq h.1.1,?_⟩;show (if _ then _ else _:Str×NameKind).2=_;rw[Zt (by rw[QE,QE];exact h)]
 .left;rfl
theorem eD:∀{names:List (Str×NameKind)}{x:Str}{k:NameKind},names.lookup x=some k->(names.map (q5 env)).lookup x=some k\/(k=.free/\(names.map (q5 env)).lookup x=some .cell)
 |[],_,_,h=>by cases h
 |p::r,x,k,h=>by
  rw[Rv];obtain⟨n,s⟩:=p;have e1:=qI (env:=env) (n,s);have e2:=qK (env:=env) (n,s);generalize q5 env (n,s)=q at e1 e2 ⊢;obtain⟨v,H⟩:=q;subst e1;rw[QY] at h ⊢;cases hx:x==v with
  |true=>
   rw[hx] at h;cases h;rcases e2 with e2|⟨e2,N⟩
   .left;exact Zx some e2
   .right;exact⟨e2,Zx some N⟩
  |false=>rw[hx] at h;exact eD h
theorem cS:∀{names:List (Str×NameKind)}{x:Str}{k:NameKind},(names.map (q5 env)).lookup x=some k->names.lookup x=some k\/(k=.cell/\names.lookup x=some .free)
 |[],_,_,h=>by cases h
 |p::r,x,k,h=>by
  rw[Rv] at h;obtain⟨n,s⟩:=p;have e1:=qI (env:=env) (n,s);have e2:=qK (env:=env) (n,s);generalize q5 env (n,s)=q at e1 e2 h;obtain⟨v,H⟩:=q;subst e1;rw[QY] at h ⊢;cases hx:x==v with
  |true=>
   rw[hx] at h;cases h;rcases e2 with e2|⟨e2,N⟩
   .left;exact Zx some e2.symm
   .right;exact⟨N,Zx some e2⟩
  |false=>rw[hx] at h;exact cS h
theorem iz{sc:Scope}{x:Str}(h:sc.names.lookup x=some .local):(relabel sc env).names.lookup x=some .local:=by
 rcases eD h with z|⟨z,_⟩
 .exact z
 .cases z
theorem AS{sc:Scope}{x:Str}(h:sc.names.lookup x=some .globalImplicit):(relabel sc env).names.lookup x=some .globalImplicit:=by
 rcases eD h with z|⟨z,_⟩
 .exact z
 .cases z
theorem si{sc:Scope}{x:Str}(h:sc.names.lookup x=some .free):kq (relabel sc env) x:=by
 rcases eD h with z|⟨_,z⟩
 .exact .inr (.inr z)
 .exact .inr (.inl z)
end
structure gk(N0 N:List Str)(k:Nat)(sc de:Scope):Prop where
 kind:sc.kind=.function
 cell:∀y∈sc.names,y.2≠.cell
 names:∀y∈sc.names,y.2=.local->sc.names.lookup y.1=some .local
 len:N.length=N0.length+k
 nd:N.Nodup
 old:∀p∈(N.take N0.length).zip N0,p.1=p.2\/sc.names.lookup p.1=none
 nl:∀n∈N.take N0.length,sc.names.lookup n≠some .local
 fr:∀y∈sc.names,y.2=.free->de.names.lookup y.1=some .cell\/de.names.lookup y.1=some .free
noncomputable def jl(X:Cx)(N:List Str)(sc:Scope)(cl:List (Str×Addr))(C:Addr)(s:Shared)(H:Hp)(ex:List Addr):Cx where
 prog:=X.prog
 w:=X.w
 K:=X.K
 mg:=X.mg
 base:=X.base
 A:=X.A
 N:=N
 s₀:=s
 H₀:=H
 env:=compEnvC sc cl C X.env
 outer:=X.stack
 stack:=X.stack
 ex:=ex
 fn:=λ_=>false
 calm:=X.calm
 pn:=[]
 xe:=λ_ _=>False
theorem mem_of_lookupK{names:List (Str×NameKind)}{x:Str}{k:NameKind}(h:names.lookup x=some k):(x,k)∈names:=Sr h
variable{j:St}
section
variable{X:Cx}{pins:List (Addr×Obj)}{Y:St}{H:Hp}{s:Shared}{N:List Str}{k:Nat}{sc:Scope}{cl:List (Str×Addr)}{C:Addr}{fp:List Addr}{h1:Heap}{tk:Nat}
theorem yX(I:Inv X pins Y H s)(S:gk X.N N k sc X.env.scope)(F:∀x c,cl.lookup x=some c->X.env.cells.lookup x=some c)
  (L:∀x,(x,SG)∈sc.names->∃c,cl.lookup x=some c)(h:s.heap.objs.size<=C)(hf:∀b∈fp,nk X pins H b)(w:∀b∈fp,b<s.heap.objs.size)
  (hk:∀b o,s.heap.get? b=some o->h1.get? b=some o)(hn:∃m,h1.Ns C m):
  Inv (jl X N sc cl C s H fp) (X.pn++pins) (Y++QW k none) H { s with heap:=h1,toks:=tk }:=by
 have P:∀b o,s.heap.get? b=some o->b≠C:=λb o e=>Rl (QX (QZ e) h);have kind:∀x,((jl X N sc cl C s H fp).env.kindOf x=some .cell\/(jl X N sc cl C s H fp).env.kindOf x=some .free)->sc.names.lookup x=some .free:=λx hx=>by
  rcases hx with hx|hx
  .rcases cS hx with z|⟨_,z⟩
   .exact absurd rfl (S.cell _ (mem_of_lookupK z))
   .exact z
  .rcases cS hx with z|⟨z,_⟩
   .exact z
   .cases z
 refine⟨⟨I.ok.mod,S.kind,I.ok.glob,I.ok.blt,h,λx y c h1 h2=>I.ok.inj x y c (F _ _ h1) (F _ _ h2),λx hx=>L x (mem_of_lookupK (kind x hx)),λx c z _=>absurd (z) Rp,
  I.ok.hd,I.ok.frames,.inl rfl,λb E=>⟨Rl (QX (w b E) h),λx c e=>(hf b E).2.2.2.2.1 x c (F _ _ e)⟩,I.bs,Ru I.ok.bsz I.sz,λb o e E=>?_,λb E D=>?_,I.stack,I.vJ⟩,
  rfl,I.bare,Un.kept hk,?_,λx c e=>?_,I.hok.fresh h,λx c e=>I.freeC x c (F _ _ e),λp hp=>?_,I.hok.kept hk,?_⟩
 .rcases(hf b E).2.2.2.1 with z|z
  .exact I.ok.noex b o e z
  .exact absurd (QX (QZ e) (Ru I.ok.bsz z)) (Q6 _)
 .rcases QL.mp (I.kA b D) with z|z
  .exact(hf b E).2.1 z
  .exact(hf b E).2.2.1 z
 .obtain⟨m,hn⟩:=hn;refine⟨m,hn,λi x v e1 e2 G=>?_⟩;have hi:i<Y.length:=by
   by_cases hi:i<Y.length
   .exact hi
   .rw[Rx (by exact UH.mp ‹_›),Vr] at e2;split at e2<;>cases e2
  rw[RM hi] at e2;have Q:i<X.N.length:=by rw[<-I.len];exact hi
  have R:(N.take X.N.length)[i]?=some x:=by rw[TM Q];exact e1
  have q:=S.nl x (Rw R);have A:sc.names.lookup x=some .free:=by
   rcases G with z|z|z
   .rcases cS z with z|⟨z,_⟩
    .exact absurd z q
    .cases z
   .exact kind x (.inl z)
   .exact kind x (.inr z)
  have Z:X.N[i]?=some x:=by
   have hz:((N.take X.N.length).zip X.N)[i]?=some (x,X.N[i]):=by rw[RZ];exact⟨R,Q5 Q⟩
   rcases S.old _ (Rw hz) with z|z
   .have z:x=X.N[i]:=z;rw[Q5 Q,<-z]
   .have z:=z;rw[A] at z;cases z
  obtain⟨K,t,O⟩:=I.loc;have j:kq X.env.scope x:=by
   rcases S.fr _ (mem_of_lookupK A) rfl with z|z
   .exact .inr (.inl z)
   .exact .inr (.inr z)
  obtain⟨u,r,l⟩:=O i x v Z e2 j;refine⟨u,r,.inr ⟨?_,?_⟩⟩
  .rcases si A with z|z|z
   .rcases cS z with z | ⟨z,_⟩
    .rw [A] at z; cases z
    .cases z
   .exact .inl z
   .exact .inr z
  .rcases l with ⟨z,_⟩|⟨_,c,V,f⟩
   .have z:X.env.scope.names.lookup x=some .local:=z;rcases S.fr _ (mem_of_lookupK A) rfl with B|B
    .have B:=B;rw[z] at B;cases B
    .have B:=B;rw[z] at B;cases B
   .obtain⟨a,J⟩:=L x (mem_of_lookupK A);have:=F _ _ J;rw[V] at this;cases this;obtain⟨o,ho,hd⟩:=f;exact⟨c,J,o,hk _ _ ho,hd⟩
 .obtain⟨v,o,ho,hd⟩:=I.cell x c (F _ _ e);exact⟨v,o,hk _ _ ho,hd⟩
 .have hp:=hp;obtain⟨e,n,ne,nf,d⟩:=I.pin p hp;refine⟨hk _ _ e,n,P _ _ e,λE=>?_,d⟩;rcases QL.mp (I.kA _ E) with z|z
  .exact ne z
  .exact nf z
 .show (Y++QW k none).length=N.length;rw[Q2,VC,I.len,S.len]
theorem BW{H':Hp}{s':Shared}{D:Addr}{r:List Value}(I:Inv X pins Y H s)(a:Inv (jl X N sc cl C s H fp) (X.pn++pins) j H' s')(i:s.heap.objs.size<=D)(y:H' D=none)
  (pl:s'.heap.PlainList D r.toArray)(t:Vals ys r)(hl:ys.length<=sizeLine)(hf:∀b∈fp,nk X pins H b):Inv X pins Y (upd H' D (.lst ys)) s':=by
 obtain⟨n,A⟩:=pl;have u:=a.base;have ne:∀b o,s.heap.get? b=some o->b≠D:=λb o e=>Rl (QX (QZ e) i);have x:∀b o,H' b=some o->b≠D:=λb o e=>aD e y;refine I.Lw a.os ⟨u.keep,u.slot,λb o e n nx=>?_,u.there,λb xs e=>?_,λb o v e=>?_,λb ps e=>?_⟩ (λb o e=>?_) a.bare (ch:=fp) λb d=>?_
 .rw[ao (ne b o e)];exact u.free b o e n nx
 .have:=u.tups b xs e;rw[ao (x _ _ this)];exact this
 .have:=u.frzs b o v e;rw[ao (x _ _ this)];exact this
 .obtain⟨more,this⟩:=u.tbls b ps e;exact⟨more,by rw[ao (x _ _ this)];exact this⟩
 .by_cases d:b=D
  .subst d;rw[aI] at e;cases e;exact⟨hl,r,n,t,A⟩
  .rw[ao d] at e;exact(a.hok b o e).iE (λ_ _ _ q=>q) (λc q=>by rw[ao (x _ _ q)];exact q) λc xs q=>by rw[ao (x _ _ q)];exact q
 .obtain⟨f0,p,P,F,B,L⟩:=hf b d;exact⟨F,p,B,L⟩
end
variable{X:Cx}{pins:List (Addr×Obj)}{Y:St}{H:Hp}{s:Shared}
theorem Inv.tx(I:Inv X pins Y H s){a:Addr}(h:s.heap.objs.size<=a):a∉kW X.stack:=λd=>by
 rcases QL.mp (I.kA a d) with z|z
 .exact absurd (QX I.lt (by rw[<-z];exact h)) (Q6 _)
 .exact I.Mq h z
def PF(X:Cx)(ifs:List Expr)(t:TT):Prop:=∀(pins:List (Addr×Obj))(s:Shared)(Y:St)(H:Hp)(Q:Bool->Hp->Prop),Inv X pins Y H s->t Y H Q->
 XJ (XO X.prog X.w) X.A (forIn ifs true λc r=>if r=true then do let ok <- Zd c X.env (eval c X.env);pure (SF ok) else pure (SF r)) (TP X pins Y Q) X.xe s
noncomputable def Lo:TT:=λ_ H Q=>Q true H
theorem Jz:PF X [] Lo:=λ_ _ _ H _ I h=>wpAny_tests_nil ⟨H,I,h⟩
theorem Jj{c:Expr}{t:TT}(hc:PT X c t):PF X [c] t:=λpins s Y H Q I h=>wpAny_tests_one (hc pins s Y H Q I h)
def AJ(J:It)(g:TG)(I:TT)(u:TE)(Q:VK)(Y:St)(H:Hp):Prop:=∃W:Nat->Nat->St->List V->Hp->Prop,(∃m,W 0 m Y [] H)/\∀i m Y ys H,W i m Y ys H->ys.length<=sizeLine /\
  ((J.stop i H/\∀r,H r=none->Q (.ref r) (upd H r (.lst ys))) \/
   (J.go i H/\∃N:St->List V->Hp->Prop,(∀j n H',N j n H'->∃X,X<m/\W (i+1) X j n H') /\
     ∀x H',J.yld i H x H'->g x Y H' λP S=>I P S λb w=>if b=true then u P w λy e=>N P (ys++[y]) e else N P ys w))
noncomputable def BH(n:Nat)(D:TI)(g:TG)(I:TT)(u:TE):TE:=λY H Q=>D Y H λJ U=>AJ J g I u Q (Y++QW n none) U
section
variable{X:Cx}{pins:List (Addr×Obj)}{Y:St}{H:Hp}{s:Shared}{N:List Str}{k:Nat}{sc:Scope}{cl:List (Str×Addr)}{C:Addr}{fp:List Addr}{J:It}{it:Addr}{tn:Nat->Heap->Prop}
 {tg elt iter:Expr} {ifs:List Expr} {pos:Pos} {g:TG} {tt:TT} {te:TE} {Q:VK} {E:Value->Shared->Prop} {RR:Value->Addr->Result->Shared->Prop}
theorem mf(hc:X.calm=true)(S:gk X.N N k sc X.env.scope)(O:∀x c,cl.lookup x=some c->X.env.cells.lookup x=some c)
  (hcl2:∀x,(x,SG)∈sc.names->∃c,cl.lookup x=some c)(I:Inv X pins Y H s)(T:Turn X.prog X.w X.K tg J fp it tn)(st:tn 0 s.heap)(hf:∀b∈fp,nk X pins H b)
  (B:AJ J g tt te Q (Y++QW k none) H)
  (hg:∀C,PG (jl X N sc cl C s H fp) tg g)(ht:∀C,PF (jl X N sc cl C s H fp) ifs tt)(he:∀C,PE (jl X N sc cl C s H fp) elt te)
  (hRR:∀D C s' H' ys,Inv X pins Y (upd H' D (.lst ys)) s'->s.heap.objs.size<=C->upd H' D (.lst ys) C=none->(∃m,s'.heap.Ns C m)->Q (.ref D) (upd H' D (.lst ys))->RR (.ref D) C (.ok .next) s'):
  XJ (XO X.prog X.w) X.A (newList []) (λacc U=>XJ (XO X.prog X.w) X.A (newFunctionEnv sc X.env.globals cl [] X.env.qual none .none (some X.env)) (λcenv s₄=>YC (XO X.prog X.w) X.A (.compStart (.ListComp elt [⟨tg,iter,ifs,0⟩] sc pos) 0 (.ref it) acc { cenv with scope:=relabel sc X.env }) (RR acc cenv.locals) s₄) E U) E s:=by
 refine Yn (wpAny_newFunctionEnv S.cell (by intro y hy;simp at hy) (λh₁ R Z=>?_) S.kind);generalize hH2:s.heap.push { cls:=.type "list",dict:=none,data:=.seq ([]:List Value).toArray }=H2 at R Z ⊢;have hC:H2.objs.size=s.heap.objs.size+1:=by rw[<-hH2,RW]
 have P:s.heap.objs.size≠H2.objs.size:=by rw[hC];exact Rl (Sd _)
 have L:s.heap.objs.size<=H2.objs.size:=by rw[hC];exact Uu _
 have below:∀b,b<s.heap.objs.size->b≠H2.objs.size/\b≠s.heap.objs.size:=λb l=>⟨by rw[hC];exact Rl (TN l),Rl l⟩
 have old:=λb o e=>Z.extBut b o (below b (QZ e)).1 (QR _ (hH2▸QR _ e));have hacc:h₁.PlainList s.heap.objs.size #[]:=⟨_,Z.extBut _ _ P (QR _ (hH2▸Q3 _ rfl))⟩
 have G:=λb l=>let ⟨o,e,_⟩:=T.obj 0 _ st b l;QZ e
 have st1:=T.keep _ _ _ st λb l o e=>old b o e;have I0:=yX (tk:=s.toks+([]:List (Str×Value)).length) I S O hcl2 L hf G old ⟨_,R⟩;generalize H2.objs.size=C at R Z hC P L below I0 ⊢;generalize hD:s.heap.objs.size=D at hC P L below hacc G ⊢;have F:s.heap.objs.size<=D:=by rw[hD];exact QN _
 have f:∀{H':Hp}{o:Obj},(∀b∈fp,H' b=none)->∀b∈fp,nk (jl X N sc cl C s H fp) ((X.pn++pins)++[(D,o)]) H' b:=λ{H' o} hn b l=>by
  obtain⟨f0,f1,f2,f3,f4,f5⟩:=hf b l;refine⟨hn b l,(below b (G b l)).1,λz=>?_,.inl l,λx c e=>f4 x c (O _ _ e),λp hp=>?_⟩
  .rcases QL.mp (I.kA b z) with z|z
   .exact f1 z
   .exact f2 z
  .have hp:p∈(X.pn++pins)++[(D,o)]:=hp;rcases QP.mp hp with z|z
   .exact f5 p z
   .have:p=(D,o):=by simpa using z
    rw[this];exact RH (below b (G b l)).2
 have loop:∀U:Shared,U={ s with heap:=h₁,toks:=s.toks+([]:List (Str×Value)).length }->
   YC (XO X.prog X.w) X.A (.compLoop (.ListComp elt [⟨tg,iter,ifs,0⟩] sc pos) 0 (.ref it) (.ref D) (compEnvC sc cl C X.env)) (RR (.ref D) C) U:=by
  rintro U rfl;obtain⟨W,⟨m0,w0⟩,step⟩:=B;refine qm (λn s'=>∃i j H' ys h,Inv (jl X N sc cl C s H fp) (X.pn++pins) j H' s'/\tn i s'.heap/\(∀b∈fp,H' b=none)/\H' D=none/\s'.heap.PlainList D (h:List Value).toArray/\Vals ys h/\W i n j ys H') ?_ m0
   ⟨0,_,H,[],[],I0,st1,λb l=>(hf b l).1,I.hok.fresh F,hacc,.nil,w0⟩
  rintro n s3 ⟨i,V,H3,ys,h,I3,st3,fr3,hD3,⟨nn,pl3⟩,a,w3⟩;obtain⟨hl,cs⟩:=step i n V ys H3 w3;have pinD:∀{j:St}{H':Hp}{s':Shared}{o:Obj},Inv (jl X N sc cl C s H fp) (X.pn++pins) j H' s'->H' D=none->s'.heap.get? D=some o->(∀v,o.data≠.cell v)->Inv (jl X N sc cl C s H fp) ((X.pn++pins)++[(D,o)]) j H' s':=λ{j H' s' o} I' hn e d=>
   I'.pR λp hp=>(QP.mp hp).elim (λz=>I'.pin p (QG _ z)) λz=>by
    have:p=(D,o):=by simpa using z
    subst this;exact⟨e,hn,P,λz=>I.tx F z,d⟩
  have I3p:=pinD I3 hD3 pl3 λv z=>by cases z
  rcases cs with ⟨stop,q⟩|⟨go,NN,hN,nx⟩
  .refine cC (T.done (jl X N sc cl C s H fp) rfl rfl rfl hc i _ s3 V H3 _ I3p (f fr3) st3 stop) λr s4 ⟨hr,I4⟩=>?_;subst hr;have d4:=I4.pin (D,_) (QG _ (QG _ (Q8.mpr rfl)));have I5:=BW I I4.d9 F d4.2.1 ⟨nn,d4.1⟩ a hl hf;refine hRR D C s4 H3 ys I5 (by rw[hD];exact L) ?_ (let ⟨m,hm,_⟩:=I4.loc;⟨m,hm⟩) (q D d4.2.1);rw[ao (RH P)];exact I4.free
  .refine cC (T.item (jl X N sc cl C s H fp) rfl rfl rfl hc i _ s3 V H3 _ I3p (f fr3) st3 go) λr s4 ⟨u,hr,h4⟩=>?_;subst hr;refine cC h4 λ_ s5 ⟨x,H5,I5,r5,y5,st5,fr5⟩=>?_;have I5':=I5.pinned (f fr5) (T.obj _ _ st5);refine cC (hg C _ s5 V H5 x u _ I5' r5 (nx x H5 y5)) λ_ s6 ⟨t,H6,I6,q6⟩=>?_;refine cC (ht C _ s6 t H6 _ I6 q6) λb s7 ⟨H7,I7,q7⟩=>?_;have itK:∀{s8:Shared}{H8:Hp},Inv (jl X N sc cl C s H fp) (((X.pn++pins)++[(D,({ cls:=.type "list",data:=.seq h.toArray nn }:Obj))])++mK fp s5.heap) t H8 s8->tn (i+1) s8.heap/\∀b∈fp,H8 b=none:=λ{s8 H8} I8=>by refine⟨T.keep _ _ _ st5 λb l o e=>(I8.pin (b,o) (QG _ (QG _ (gm l e)))).1,λb l=>?_⟩;obtain⟨o,e,d⟩:=T.obj _ _ st5 b l;exact(I8.pin (b,o) (QG _ (QG _ (gm l e)))).2.1
   cases b with
   |false=>obtain⟨m',hm,w7⟩:=hN _ _ _ q7;obtain⟨t7,f7⟩:=itK I7;have d7:=I7.pin (D,_) (QG _ (QI _ (QG _ (Q8.mpr rfl))));exact⟨m',hm,i+1,t,H7,ys,h,I7.d9.d9,t7,f7,d7.2.1,⟨nn,d7.1⟩,a,w7⟩
   |true=>
    refine cC (he C _ s7 t H7 _ I7 q7) λyv s8 ⟨y,H8,I8,r8,q8⟩=>?_;obtain⟨m',hm,w9⟩:=hN _ _ _ q8;obtain⟨t8,f8⟩:=itK I8;have d8:=I8.pin (D,_) (QG _ (QI _ (QG _ (Q8.mpr rfl))));refine wpAny_list_append_plain (hsz:=by rw[QO,<-a.length];exact hl) ⟨nn,d8.1⟩ λh9 pl9 sb9=>?_;have I9:=I8.d9.d9.turned (t':=s8.toks) (λb o l e=>(sb9.2 b l).trans e) d8.2.1 P (.inr F) (λx c e z=>?_) (λp hp z=>?_)
    .refine⟨m',hm,i+1,t,H8,ys++[y],h++[yv],I9,T.keep _ _ _ t8 λb l o e=>(sb9.2 b (below b (G b l)).2).trans e,f8,d8.2.1,?_,a.append (.cons r8 .nil),w9⟩;rw[<-List.push_toArray];exact pl9
    .obtain⟨v,q⟩:=I.cell x c (O _ _ e);exact absurd (QX q.lt (by rw[z];exact F)) (Q6 _)
    .have hp:=hp;exact absurd (QX (QZ (I.pin p hp).1) (by rw[z];exact F)) (Q6 _)
 exact codeAny_compStart_list (loop _ rfl) (T.self _ _ _ _ _ st1 (loop _ rfl))
end
variable{i:Nat}{px:Pos}
section
variable{X:Cx}{N:List Str}{k:Nat}{sc:Scope}{tg elt iter:Expr}{ifs:List Expr}{pos:Pos}{g:TG}{tt:TT}{te:TE}{wi:TI}
theorem mw(I:Inv X pins Y H s)(S:gk X.N N k sc X.env.scope):
  ∃cl,closureFor sc X.env=pure cl/\(∀x c,cl.lookup x=some c->X.env.cells.lookup x=some c)/\(∀x,(x,SG)∈sc.names->∃c,cl.lookup x=some c):=
 tq λx hx e=>I.ok.has x.1 (S.fr x hx e)
theorem Inv.letGo{H0:Hp}{n:Shared}{h':Heap}(r:Inv X pins Y H0 n)(I:Inv X pins j H s)(h:n.heap.objs.size<=C)(hn:H C=none)(sb:T8 C s.heap h'):Inv X pins j H { s with heap:=h' }:=
 I.turned (t':=s.toks) (it:=C) (λb o d e=>(sb.2 b d).trans e) hn (VB (QX r.lt h)) (.inr (Ru r.sz h))
  (λx c e z=>by obtain⟨v,q⟩:=r.cell x c e;exact absurd (QX q.lt (by rw[z];exact h)) (Q6 _))
  (λp hp z=>absurd (QX (QZ (r.pin p hp).1) (by rw[z];exact h)) (Q6 _))
theorem Ek(hc:X.calm=true)(S:gk X.N N k sc X.env.scope)(hi:PI X tg iter wi)(hg:∀cl C s H fp,PG (jl X N sc cl C s H fp) tg g)(ht:∀cl C s H fp,PF (jl X N sc cl C s H fp) ifs tt)
  (he:∀cl C s H fp,PE (jl X N sc cl C s H fp) elt te)(hs:∀x,X0 iter X.env x=pure x:=by intro _;rfl):PE X (.ListComp elt [⟨tg,iter,ifs,0⟩] sc pos) (BH k wi g tt te):=by
 intro pins s Y H Q I h;obtain⟨cl,hclos,h1,h2⟩:=mw I S;rw[eval_ListComp];refine YE (use:=none) rfl hs hclos S.kind S.names (cC (hi pins s Y H _ I h) λv s1 q1=>cC q1 λitv s2 q2=>?_);obtain⟨it,fp,tn,J,H2,rfl,I2,T,st2,f2,B⟩:=q2;refine mf (RR:=λacc C=>compPost (XO X.prog X.w) X.A X.xe none (EP X pins Y Q) acc C) hc S h1 h2 I2 T st2 f2 B (λC=>hg cl C s2 H2 fp) (λC=>ht cl C s2 H2 fp) (λC=>he cl C s2 H2 fp) ?_;intro D C s' H' ys I' hC hn hm q;obtain⟨m,hm⟩:=hm;exact⟨m,hm,λh' sb=>⟨.ref D,_,I2.letGo I' hC hn sb,rfl,q⟩⟩
theorem Eb{x:Str}{spos:Pos}(hc:X.calm=true)(S:gk X.N N k sc X.env.scope)(hN:X.N.Nodup)(hx:X.N[i]?=some x)(hl:X.env.scope.names.lookup x=some .local)
  (hsw:X4 (.ListComp elt [⟨tg,iter,ifs,0⟩] sc pos) (some (.Name x px)) spos.line X.env=pure true)(hi:PI X tg iter wi)(hg:∀cl C s H fp,PG (jl X N sc cl C s H fp) tg g)(ht:∀cl C s H fp,PF (jl X N sc cl C s H fp) ifs tt)
  (he:∀cl C s H fp,PE (jl X N sc cl C s H fp) elt te)(hs:∀x,X0 iter X.env x=pure x:=by intro _;rfl):PS X (.Assign [.Name x px] (.ListComp elt [⟨tg,iter,ifs,0⟩] sc pos) spos) (qP (BH k wi g tt te) (yN i)):=by
 intro pins s Y H D0 I h;obtain⟨cl,hclos,h1,h2⟩:=mw I S;rw[exec_Assign_Name_used _ _ _ _ hsw];refine XH (YD (XH ?_));show XJ _ X.A (do let _ <- comprehension (.ListComp elt [⟨tg,iter,ifs,0⟩] sc pos) sc X.env _ (newList []) false (eval iter X.env) (some (assign (.Name x px) X.env))) _ _ s;refine XH (cC (YE (use:=some (assign (.Name x px) X.env)) (Q:=λ_ s'=>SP X pins D0 .next s') rfl hs hclos S.kind S.names
  (cC (hi pins s Y H _ I h) λv s1 q1=>cC q1 λitv s2 q2=>?_)) λ_ s' hq=>XN (XN hq))
 obtain⟨it,fp,tn,J,H2,rfl,I2,T,st2,f2,B⟩:=q2;refine mf (RR:=λacc C=>compPost (XO X.prog X.w) X.A X.xe (some (assign (.Name x px) X.env)) (λ_ s'=>SP X pins D0 .next s') acc C) hc S h1 h2 I2 T st2 f2 B (λC=>hg cl C s2 H2 fp) (λC=>ht cl C s2 H2 fp) (λC=>he cl C s2 H2 fp) ?_;intro D C s' H' ys I' hC hn hm q;obtain⟨m,hm⟩:=hm;show XJ _ X.A (assign (.Name x px) X.env (.ref D)) _ _ _;refine Y7 (nN I' hN hx (.inl hl) (v:=.ref D) rfl (λs'' I'' ch=>?_) (.inr hl));obtain⟨a,sb,ha⟩:=ch;refine⟨m,hm.sameBut sb ?_,λh' sb'=>⟨_,_,I2.letGo I'' hC hn sb',q⟩⟩;rintro rfl;rcases ha with z|z
 .exact absurd (QX I2.lt (by rw[<-z];exact hC)) (Q6 _)
 .obtain⟨v,q⟩:=I2.cell x _ z;exact absurd (QX q.lt hC) (Q6 _)
end
theorem tE{gs:List YF}{sc:Scope}{x:Str}{line:Nat}(h1:env.blockKind=.function)(h2:env.kindOf x=some .local)(h3:(px.line==pos.line)=true)
  (h4:(sc.names.any λp=>p.1==x&&(p.2==.local || p.2==.cell))=false):X4 (.ListComp elt gs sc pos) (some (.Name x px)) line env=pure true:=by
 unfold X4;show (pure (env.blockKind==.function&&env.kindOf x==some .local&&px.line==pos.line&&!(sc.names.any λp=>p.1==x&&(p.2==.local || p.2==.cell))):Sem Bool)=pure true;rw[h1,h2,h3,h4];rfl
variable{it:Addr}{its:Array Value}{Q:Value->Shared->Prop}
section
variable{prog:Program}{w:XR}{A:XU}{E:Value->Shared->Prop}{s:Shared}
theorem CO{t:Addr}{v:Value}(hi:s.heap.IsTupleIter it t i)(l:s.heap.IsTuple t its)(r:its[i]?=some v)
  (q:∀h',h'.IsTupleIter it t (i+1)->T8 it s.heap h'->Q v { s with heap:=h' }):XJ (XO prog w) A (RC (.ref it)) Q E s:=by
 obtain⟨o,e,c,d⟩:=id hi;obtain⟨C,Y,_,nt,n⟩:=l;unfold RC;refine XH (Yg (name:=UU "__next__") hi.typeIs SJ (Yp SJ hi.typeIs Vl ?_ (Vf _)));show XJ _ _ (field (.ref it) 0 >>= _) _ _ s;refine XH (X7 e d (x:=.ref t) rfl ?_);show XJ _ _ (if (R0 t==S9)=true then _ else _) _ _ s;rw[Zu (show ¬ ((R0 t==S9)=true) from Rp)];show XJ _ _ (field (.ref it) 1 >>= _) _ _ s;refine XH (X7 e d (x:=.int i 0) rfl ?_);show XJ _ _ (seqItems? (.ref t) >>= _) _ _ s;refine XH (X9 Y n ?_);simp only[S2,r];refine XH (wpAny_setField e d Z5 (XN ⟨v,rfl,XN (q _ ?_ (U6 ..))⟩));exact⟨_,VD _ e (Obj.isFreed_of_fields (V6 d _)),(Obj.cls_mapFields ..).trans c,by rw[V6 d];simp[Ze]⟩
theorem CJ{t:Addr}(u:A.handled=none)(hi:s.heap.IsTupleIter it t i)(l:s.heap.IsTuple t its)(r:its[i]?=none)
  (q:∀h' e,Heap.ExtBut it s.heap h'->(∃o,h'.get? e=some o/\o.cls=.type "StopIteration")->E (.ref e) { s with heap:=h' }):XJ (XO prog w) A (RC (.ref it)) Q E s:=by
 obtain⟨o,e,c,d⟩:=id hi;obtain⟨C,Y,_,nt,n⟩:=l;unfold RC;refine XH (Yg (name:=UU "__next__") hi.typeIs SJ (Yp SJ hi.typeIs Vl ?_ (Vf _)));show XJ _ _ (field (.ref it) 0 >>= _) _ _ s;refine XH (X7 e d (x:=.ref t) rfl ?_);show XJ _ _ (if (R0 t==S9)=true then _ else _) _ _ s;rw[Zu (show ¬ ((R0 t==S9)=true) from Rp)];show XJ _ _ (field (.ref it) 1 >>= _) _ _ s;refine XH (X7 e d (x:=.int i 0) rfl ?_);show XJ _ _ (seqItems? (.ref t) >>= _) _ _ s;refine XH (X9 Y n ?_);simp only[S2,r];refine XH (Y4 (XH (wpAny_setField e d Z5 ?_)));show XJ _ _ (newExc (.type "StopIteration") [] >>= _) _ _ _;refine XH ?_;simp only[newExc,newTuple];refine XH (Yn ?_ (by size_fits));refine XH (m:=firstArgMember _ _) (wpAny_of_eq (a:=S9) (by first|rfl|(simp only[firstArgMember];rfl)) ?_);refine Yn ?_ (by size_fits);simp only[raiseNew];refine XH (wpAny_handled ?_)
 first|rw[show A.in1.handled=none from u]|rw[u]
 refine XH (XN (wpAny_throw ?_));exact q _ _ (((U6 ..).extBut.push _).push _) ⟨_,Q3 _ rfl,rfl⟩
end
section
variable{X:Cx}{tg:Expr}
def L4(K:QF)(tl:TE):TI:=λY H R=>tl Y H λx U=>∃a,x=.ref a/\(((∃xs,dm K U a xs)/\R (Pn K a) U)\/((∃xs,gW K U a xs)/\R (Pl K a) U))
theorem Cv{l:Expr}{tl:TE}(hl:PE X l tl):PI X tg l (L4 X.K tl):=by
 intro pins s Y H R I h;refine cC (hl pins s Y H _ I h) λv s1 ⟨x,U,T,n,g⟩=>?_;rcases g with ⟨a,e,⟨⟨xs,V⟩,q⟩|⟨⟨xs,V⟩,q⟩⟩
 .subst e;cases n;obtain⟨its,t,p,hz⟩:=T.list V;refine Ye p.isList ?_;refine⟨s1.heap.objs.size,[s1.heap.objs.size],_,_,U,rfl,T.kept λb o e=>QR _ e,xp a _,⟨_,Q3 _ rfl,rfl,rfl⟩,λb d=>?_,q⟩;have e:b=s1.heap.objs.size:=by simpa using d
  subst e;exact T.wU (QN _) (T.hok.fresh (QN _))
 .subst e;cases n;obtain⟨its,t,p,hz⟩:=T.tuple V;refine Y6 (p) ?_;refine⟨s1.heap.objs.size,[s1.heap.objs.size],_,_,U,rfl,T.kept λb o e=>QR _ e,sJ a _,⟨_,Q3 _ rfl,rfl,rfl⟩,λb d=>?_,q⟩;have e:b=s1.heap.objs.size:=by simpa using d
  subst e;exact T.wU (QN _) (T.hok.fresh (QN _))
def KW(K:QF)(g:List Bool->Bool):List V->Hp->VK->Prop:=λxs H Q=>∃p ys bs,xs=[.ref p]/\dm K H p ys/\ys=bs.map V.bl/\Q (.bl (g bs)) H
theorem range_any{bs:List Bool}{tr:Nat->Bool}(h:∀i b,bs[i]?=some b->tr i=b):(Q4 bs.length).any tr=bs.any id:=by
 have:(Q4 bs.length).map tr=bs:=by
  apply Sk;intro i;rw[Rc];by_cases hi:i<bs.length
  .rw[Ss hi,Q5 hi,V7,h i _ (Q5 hi)]
  .rw[RQ (by simpa using hi),RQ (by simpa using hi)];rfl
 calc (Q4 bs.length).any tr=((Q4 bs.length).map tr).any id:=by rw[Vx];rfl
  _=bs.any id:=by rw[this]
theorem yg(hc:X.calm=true):dg X (.builtin "any") (KW X.K λbs=>bs.any id):=by
 intro pins s Y H xs us Q I r h;obtain⟨p,ys,bs,rfl,V,rfl,q⟩:=h;obtain⟨u,rfl,a⟩:=vals1 r;cases a;obtain⟨its,r',pl,hz⟩:=I.list V;have y:=r'.length;refine call_any_walk (Ye pl.isList ?_);refine⟨s.heap.objs.size,_,_,_,_,_,(λi=>bs.getD i false),rfl,U7 (A:=X.A.in1) (I.ok.hd hc) _ p (by obtain⟨o,ho,_⟩:=pl.isList;exact Rl (QZ ho)) its.toArray,⟨⟨_,Q3 _ rfl,rfl,rfl⟩,pl.isList.at λo e=>QR _ e⟩,λi v s1 m C L R=>?_,λh' tk hk=>?_⟩
 .have c:its[i]?=some v:=by simpa using L
  cases G:bs[i]? with
  |none=>have h1:=SI.mp G;have h2:=(QH.mp c).1;rw[QK] at y;lia
  |some b=>
   obtain⟨u,g,D⟩:=r'.get (i:=i) (x:=.bl b) (by rw[Rc,G];rfl);rw[c] at g;cases g;cases D;have:bs.getD i false=b:=by rw[Se,G];rfl
   replace R:m (bs.getD i false) s1:=R
   rw[this] at R;exact XN R
 .have e1:its.toArray.size=bs.length:=by simp at y ⊢;lia
  rw[e1,range_any (bs:=bs) λi b e=>by show bs.getD i false=b;rw[Se,e];rfl];exact⟨.bl _,H,I.kept (t':=tk) λb o e=>hk b o (λz=>by have:=Q8.mp z;subst this;exact absurd (QZ e) (Q6 _)) (QR _ e),rfl,q⟩
end
end L2
namespace W
variable{q:Int}
theorem gX(p:Int)(h:q<0):q<p.fmod q/\p.fmod q<=0:=by
 rw[Int.fmod_eq_emod];have h2:=Int.emod_lt_of_neg p h;by_cases d:q ∣ p
 .rw[Zt (WZ d),Int.emod_eq_zero_of_dvd d];omega
 .rw[Zu (by intro z;rcases z with z|z;omega;exact d z)];omega
theorem rK(p:Int)(h:q≠0):(p.fmod q).natAbs<q.natAbs:=by
 rcases UI h with z|z
 .have:=gX p z;lia
 .have h1:=UJ p z;have h2:=S3 p z;lia
theorem lT(p q:Int):RJ q (p.fmod q)=RJ p q:=by
 have h:p.fmod q=p-p.fdiv q*q:=by rw[Int.fmod_def,RB]
 rw[h,Int.gcd_sub_mul_right_right,UW]
noncomputable def cd(x y:Int):Int:=if y<0 then -(RJ x y:Int) else (RJ x y:Int)
variable{p:Int}
theorem Dc(h:q≠0)(z:p.fmod q=0):q=cd p q:=by
 have e:=lT p q;rw[z,UK] at e
 delta cd
 split<;>lia
theorem Dg(h:q≠0)(z:p.fmod q≠0):cd q (p.fmod q)=cd p q:=by
 delta cd
 rw[lT]
 rcases UI h with g|g
 .have:=gX p g
  rw[Zt Q1,Zt g]
 .have h2:=S3 p g
  rw[Zu Q1,Zu Q1]
theorem qM(x y:Int):cd x y ∣ x:=by
 delta cd;split
 .exact(Xf).mpr (UZ x y)
 .exact UZ x y
theorem p0(x y:Int):cd x y ∣ y:=by
 delta cd;split
 .exact(Xf).mpr (TQ x y)
 .exact TQ x y
theorem vS{x y:Int}(h:y≠0):cd x y≠0:=by
 have:=Sw x h
 delta cd;split<;>lia
theorem Az(x y:Int):(cd x y).natAbs=RJ x y:=by delta cd;split<;>lia
theorem Na{x y:Int}(h:y≠0):(cd x y).natAbs<=y.natAbs:=by rw[Az];have h1:=Int.natCast_dvd_natCast.mp (Int.dvd_natAbs.mpr (TQ x y));exact Nat.le_of_dvd Q1 h1
noncomputable abbrev Num:=Int×Int
def cA(t b:Int):Num:=(t.fdiv (cd t b),b.fdiv (cd t b))
noncomputable def GN(t b:Int):Num:=if b<0 then ((-t).fdiv (RJ (-t) (-b)),(-b).fdiv (RJ (-t) (-b))) else (t.fdiv (RJ t b),b.fdiv (RJ t b))
theorem jB{t g:Int}(J:g≠0)(d:g ∣ t):(-t).fdiv g=t.fdiv (-g):=by
 obtain⟨k,rfl⟩:=d;have e1:-(g*k)=g*(-k):=by rw[Int.mul_neg]
 have e2:g*k=(-g)*(-k):=by rw[Int.neg_mul_neg]
 rw[e1,RT _ J,e2,RT _ Q1]
theorem EB{t:Int}(h:b≠0):GN t b=cA t b:=by
 delta GN cA cd
 by_cases z:b<0
 .rw[Zt z,Zt z,Int.gcd_neg,Int.neg_gcd]
  have x:=Sw t h
  rw[jB Q1 (UZ t b),jB Q1 (TQ t b)]
 .rw[Zu z,Zu z]
theorem zc(h:b≠0):cA 0 b=(0,1):=by
 have e:cd 0 b=b:=by unfold cd;rw[UW,UK];split<;>lia
 unfold cA;rw[e];have h1:(b*0).fdiv b=0:=RT 0 h;have h2:(b*1).fdiv b=1:=RT 1 h;rw[Rn] at h1;rw[SA] at h2;rw[h1,h2]
open L2
def Ok(q:Num):Prop:=0<q.2/\RJ q.1 q.2=1
theorem fz{t:Int}(h:b≠0):cd t b*(cA t b).1=t/\cd t b*(cA t b).2=b:=by
 have R:=vS (x:=t) h;obtain⟨k,hk⟩:=qM t b;obtain⟨m,hm⟩:=p0 t b;have e1:t.fdiv (cd t b)=k:=by have:=RT k R;rwa[<-hk] at this
 have e2:b.fdiv (cd t b)=m:=by have:=RT m R;rwa[<-hm] at this
 exact⟨by show cd t b*t.fdiv (cd t b)=t;rw[e1];exact hk.symm,by show cd t b*b.fdiv (cd t b)=b;rw[e2];exact hm.symm⟩
theorem jE{t:Int}(h:b≠0):(0<b->0<cd t b)/\(b<0->cd t b<0):=by
 have:=Sw t h
 delta cd
 constructor
 .intro z;rw[Zu Q1];lia
 .intro z;rw[Zt z];lia
theorem uH{t:Int}(h:b≠0):0<(cA t b).2:=by
 obtain⟨_,e⟩:=fz (t:=t) h;obtain⟨s1,s2⟩:=jE (t:=t) h;rcases UI h with z|z
 .have c:=s2 z;rcases VF 0 (cA t b).2 with q|q
  .exact q
  .have:=Int.mul_nonneg_of_nonpos_of_nonpos (R5 c) q;lia
 .have c:=s1 z;rcases VF 0 (cA t b).2 with q|q
  .exact q
  .have:=Int.mul_nonpos_of_nonneg_of_nonpos (R5 c) q;lia
theorem hR{t:Int}(h:b≠0):Ok (cA t b):=by
 refine⟨uH h,?_⟩;obtain⟨e1,e2⟩:=fz h;have g:RJ (cd t b*(cA t b).1) (cd t b*(cA t b).2)=(cd t b).natAbs*RJ (cA t b).1 (cA t b).2:=Int.gcd_mul_left _ _ _;rw[e1,e2,Az] at g;have p:=Sw t h;have:RJ t b*1=RJ t b*RJ (cA t b).1 (cA t b).2:=by rw[Nat.mul_one];exact g
 exact(Vm p this).symm
theorem yi{q:Num}(h:Ok q):cA q.1 q.2=q:=by
 have e:cd q.1 q.2=1:=by unfold cd;rw[Zu (by have:=h.1;lia),h.2];rfl
 unfold cA;rw[e];have h1:∀x:Int,x.fdiv 1=x:=λx=>by have:=RT (a:=1) x Z3;rwa[RY] at this
 rw[h1,h1]
theorem yB{t:Int}(h:0<b):(cA t b).1<0↔t<0:=by
 obtain⟨e,_⟩:=fz (t:=t) (b:=b) Q1;have c:=(jE (t:=t) (b:=b) Q1).1 h;constructor
 .intro z;have:=Vn c z;lia
 .intro z;rcases VF (cA t b).1 0 with q|q
  .exact q
  .have:=Tv (R5 c) q;lia
variable{c:Int}
theorem l8{x:Int}(h:c≠0):x.natAbs<=(c*x).natAbs:=by rw[RS];exact Nat.le_mul_of_pos_left _ Q1
theorem BE{t:Int}{m n:Nat}(h:b≠0)(h1:Bd m t)(h2:Bd n b):Bd m (cA t b).1/\Bd n (cA t b).2:=by obtain⟨e1,e2⟩:=fz h;have a1:=l8 (x:=(cA t b).1) (vS (x:=t) h);have r:=l8 (x:=(cA t b).2) (vS (x:=t) h);rw[e1] at a1;rw[e2] at r;exact⟨RG a1 h1,RG r h2⟩
structure NB(n:Nat)(q:Num):Prop where
 ok:Ok q
 b1:Bd n q.1
 b2:Bd n q.2
theorem NB.mono{m n:Nat}{q:Num}(h:NB m q)(k:m<=n):NB n q:=⟨h.ok,h.b1.mono k,h.b2.mono k⟩
theorem NB.nz{n:Nat}{q:Num}(h:NB n q):q.2≠0:=by have:=h.ok.1;lia
theorem NB.cA{t b:Int}{n:Nat}(h:b≠0)(h1:Bd n t)(h2:Bd n b):NB n (cA t b):=⟨hR h,(BE h h1 h2).1,(BE h h1 h2).2⟩
def OZ(x y:Num):Num:=cA (x.1*y.2+y.1*x.2) (x.2*y.2)
def DJ(x y:Num):Num:=cA (x.1*y.1) (x.2*y.2)
theorem NB.zero{n:Nat}:NB (n+1) (0,1):=⟨⟨by decide,by decide⟩,QX Z3 (R7 Z3 (WB 1 n)),QX (by decide:1<2^1) (R7 Z3 (WB 1 n))⟩
noncomputable def nv(x:Num):Rat:=XC x.1 x.2
theorem sX{t:Int}(h:b≠0):nv (cA t b)=XC t b:=by
 obtain⟨e1,e2⟩:=fz h;have p:=uH (t:=t) h
 delta nv
 rw[SU Q1 h];generalize (cA t b).1=k at e1 ⊢;generalize (cA t b).2=m at e2 p ⊢;rw[<-e1];rw[show k*b=k*(cd t b*m) from by rw[e2]];rw[Int.mul_left_comm,TY]
theorem Il{x y:Num}(h:Ok x)(k:Ok y):Ok (DJ x y):=hR (Tj (by have:=h.1;lia) (by have:=k.1;lia))
theorem Me{a:Int}(h:a ∣ b*c)(g:RJ a b=1):a ∣ c:=by
 have h1:a.natAbs ∣ b.natAbs*c.natAbs:=by rw[<-RS];exact VO.mpr h
 exact VO.mp (XD (g) h1)
theorem FQ{x y:Num}(h:Ok x)(k:Ok y)(e:nv x=nv y):x=y:=by
 have h1:=h.1;have r:=k.1
 delta nv at e
 rw[SU Q1 Q1] at e;have Q:=Me (⟨y.1,by rw[e,RB]⟩) (by rw[UW];exact h.2);have b:=Me (⟨x.1,by rw[<-e,RB]⟩) (by rw[UW];exact k.2);have e2:=Int.dvd_antisymm (by exact R5 ‹_›) (by exact R5 ‹_›) Q b;rw[e2] at e;have e1:=Sf Q1 e;exact Prod.ext e1 e2
theorem Ny{x y:Num}(h:Ok x)(k:Ok y):x.1*y.2<y.1*x.2↔nv x<nv y:=by
 have h1:=h.1;have r:=k.1;have hx:(x.2:Rat)≠0:=by intro z;have:=WC.mp (show ((x.2:Int):Rat)=((0:Int):Rat) from z);lia
 have hy:(y.2:Rat)≠0:=by intro z;have:=WC.mp (show ((y.2:Int):Rat)=((0:Int):Rat) from z);lia
 have ex:nv x*(x.2:Rat)=x.1:=by delta nv;rw[Wc];grind
 have P:nv y*(y.2:Rat)=y.1:=by delta nv;rw[Wc];grind
 have s:(0:Rat)<(x.2:Rat):=by have:=Uh.mpr h1;simpa using this
 have H:(0:Rat)<(y.2:Rat):=by have:=Uh.mpr r;simpa using this
 have I:=Rat.mul_pos s H;rw[<-Uh,WD,WD,<-ex,<-P];rw[show nv x*(x.2:Rat)*(y.2:Rat)=nv x*((x.2:Rat)*(y.2:Rat)) by grind,show nv y*(y.2:Rat)*(x.2:Rat)=nv y*((x.2:Rat)*(y.2:Rat)) by grind];exact Rat.mul_lt_mul_right I
theorem CD:Ok (0,1):=⟨by decide,by decide⟩
section
variable{x y z:Num}(hx:Ok x)(hy:Ok y)(hz:Ok z)
noncomputable def uy(x y:Num):Bool:=decide (x.1*y.2<y.1*x.2)
include hx hy in
theorem lA:uy x y=true↔nv x<nv y:=by unfold uy;rw[decide_eq_true_eq];exact Ny hx hy
include hx hy hz in
end
theorem wQ{q:Num}(h:Ok q)(n:b≠0):cA (q.1*b) (q.2*b)=q:=by have h1:=h.1;refine FQ (hR (Tj Q1 n)) h ?_;rw[sX (Tj Q1 n)];unfold nv;rw[SU (Tj Q1 n) Q1,TY,RB b]
end W
set_option maxHeartbeats 1000000
namespace W
open L2 PySem
abbrev Pr:=Str×Num
def Gr(ps:List Pr)(n:Str):Num:=ps.foldl (λacc p=>if p.1=n then OZ acc p.2 else acc) (0,1)
end W
namespace M
open PySem L2
inductive A where
 |non|bl(b:Bool)|int(i:Int)|str(x:Str)|tup(xs:List A)|lst(xs:List A)|dic(kvs:List (Key×A))|exc(c:Str)|obj(c:Str)(fs:List (Str×A))|dit(kvs:List (List Key×A))|opq
structure Kx where
 K:QF
 mg:Str->Option Value
 P:Program
 w:XR
def Ql:List (List Key×Addr×V)->List (List Key×Addr×Value)->Prop:=Paired λx y=>x.1=y.1/\x.2.1=y.2.1/\RelV x.2.2 y.2.2
def dX(P:Program)(w:XR)(p:Addr)(xs:List (List Key×Addr×V)):HO:=.exd λh=>xs.length<=sizeLine/\(p==Y3)=false/\∃ys,Ql xs ys /\
 ∃o es i,h.get? p=some o/\o.ExactDict/\o.data=.dict es i/\es.toList=ys.map (entryOfKey (tupleKind (iu P w)))/\(ys.map (·.1)).Nodup
mutual
inductive RA(k:Kx)(G:Hp):V->A->Prop
 |non:RA k G .non .non
 |bl(b:Bool):RA k G (.bl b) (.bl b)
 |int(i:Int):RA k G (.int i) (.int i)
 |str(x:Str):RA k G (.str x) (.str x)
 |tup{p:Addr}{vs:List V}{as:List A}(e:gW k.K G p vs)(r:bN k G vs as):RA k G (.ref p) (.tup as)
 |lst{p:Addr}{vs:List V}{as:List A}(e:dm k.K G p vs)(r:bN k G vs as):RA k G (.ref p) (.lst as)
 |dic{p:Addr}{vs:List (Key×V)}{as:List (Key×A)}(e:Rd G p (.dK vs))(r:xo k G vs as):RA k G (.ref p) (.dic as)
 |exc{p C:Addr}{c:Str}(e:G p=some (O9 p C))(m:k.mg c=some (.ref C)):RA k G (.ref p) (.exc c)
 |obj{p C dx:Addr}{c:Str}{vs:List (Str×V)}{fs:List (Str×A)}(e:G p=some (.ins C dx vs))(m:k.mg c=some (.ref C))(r:gZ k G vs fs):RA k G (.ref p) (.obj c fs)
 |dit{p:Addr}{vs:List (List Key×Addr×V)}{as:List (List Key×A)}(e:Rd G p (dX k.P k.w p vs))(r:B6 k G vs as):RA k G (.ref p) (.dit as)
 |opq{p:Addr}:RA k G (.ref p) .opq
inductive bN(k:Kx)(G:Hp):List V->List A->Prop
 |nil:bN k G [] []
 |cons{v:V}{a:A}{vs:List V}{as:List A}(h:RA k G v a)(r:bN k G vs as):bN k G (v::vs) (a::as)
inductive gZ(k:Kx)(G:Hp):List (Str×V)->List (Str×A)->Prop
 |nil:gZ k G [] []
 |cons{y:Str}{v:V}{a:A}{vs:List (Str×V)}{as:List (Str×A)}(h:RA k G v a)(r:gZ k G vs as):gZ k G ((y,v)::vs) ((y,a)::as)
inductive B6(k:Kx)(G:Hp):List (List Key×Addr×V)->List (List Key×A)->Prop
 |nil:B6 k G [] []
 |cons{y:List Key}{b:Addr}{v:V}{a:A}{vs:List (List Key×Addr×V)}{as:List (List Key×A)}(e:gW k.K G b (y.map kV))(h:RA k G v a)(r:B6 k G vs as):B6 k G ((y,b,v)::vs) ((y,a)::as)
inductive xo(k:Kx)(G:Hp):List (Key×V)->List (Key×A)->Prop
 |nil:xo k G [] []
 |cons{y:Key}{v:V}{a:A}{vs:List (Key×V)}{as:List (Key×A)}(h:RA k G v a)(r:xo k G vs as):xo k G ((y,v)::vs) ((y,a)::as)
end
noncomputable def t5:HO->Option HO
 | .dK kvs=>some (.dK kvs)
 | .frz _ (.dK kvs)=>some (.dK kvs)
 | .exd Z=>some (.exd Z)
 | .frz _ (.exd Z)=>some (.exd Z)
 |_=>none
def Oq(o o':HO):Prop:=o'=o\/∃d,t5 o=some d/\t5 o'=some d
variable{G:Hp}{d:HO}
theorem vF{b:Addr}{o:HO}(h:G b=some o)(e:t5 o=some d):Rd G b d:=by
 cases o with
 |dK=>cases e;exact .inl h
 |exd=>cases e;exact .inl h
 |frz b o=>
  cases o with
  |dK=>cases e;exact .inr ⟨_,h⟩
  |exd=>cases e;exact .inr ⟨_,h⟩
  |_=>exact ke e
 |_=>exact ke e
variable{kvs:List (Key×V)}
theorem MY{b:Addr}(h:Rd G b (.dK kvs)):∃o,G b=some o/\t5 o=some (.dK kvs):=by
 rcases h with h|⟨o,h⟩
 .exact⟨_,h,rfl⟩
 .exact⟨_,h,rfl⟩
theorem MC{b:Addr}{Z:Heap->Prop}(h:Rd G b (.exd Z)):∃o,G b=some o/\t5 o=some (.exd Z):=by
 rcases h with h|⟨o,h⟩
 .exact⟨_,h,rfl⟩
 .exact⟨_,h,rfl⟩
def Sq(G G':Hp):Prop:=∀b o,G b=some o->∃o',G' b=some o'/\Oq o o'
variable{G':Hp}
theorem Sq.of(h:O3 G G'):Sq G G':=λb o e=>⟨o,h b o e,.inl rfl⟩
theorem Sq.refl(G:Hp):Sq G G:=λb o e=>⟨o,e,.inl rfl⟩
theorem Sq.keep(h:Sq G G'){b:Addr}{o:HO}(e:G b=some o)(n:t5 o=none):G' b=some o:=by
 obtain⟨o',h1,h2⟩:=h b o e;rcases h2 with rfl|⟨kvs,h3,_⟩
 .exact h1
 .rw[n] at h3;cases h3
theorem Sq.PV(h:Sq G G'){b:Addr}{o:HO}(e:G b=some o)(k:t5 o=some d):Rd G' b d:=by
 obtain⟨o',h1,h2⟩:=h b o e;rcases h2 with rfl|⟨x,h3,h4⟩
 .exact vF h1 k
 .rw[k] at h3;cases h3;exact vF h1 h4
theorem Sq.O6(h:Sq G G'){b:Addr}(r:Rd G b (.dK kvs)):Rd G' b (.dK kvs):=by obtain⟨o,e,d⟩:=MY r;exact h.PV e d
theorem Sq.Qp(h:Sq G G'){b:Addr}{Z:Heap->Prop}(r:Rd G b (.exd Z)):Rd G' b (.exd Z):=by obtain⟨o,e,d⟩:=MC r;exact h.PV e d
variable{p:Addr}{vs:List V}
theorem fL{K:QF}(h:Sq G G')(q:gW K G p vs):gW K G' p vs:=q.imp (λr=>by
 rcases r with r|⟨o,r⟩
 .exact .inl (h.keep r rfl)
 .exact .inr ⟨o,h.keep r rfl⟩) id
theorem dN{K:QF}(h:Sq G G')(q:dm K G p vs):dm K G' p vs:=q.imp (λr=>by
 rcases r with r|⟨o,r⟩
 .exact .inl (h.keep r rfl)
 .exact .inr ⟨o,h.keep r rfl⟩) id
section
variable{k:Kx}{G G':Hp}
mutual
theorem RA.sm(s:Sq G G'):∀{v:V}{a:A},RA k G v a->RA k G' v a
 |_,_,.non=>.non
 |_,_,.bl b=>.bl b
 |_,_,.int i=>.int i
 |_,_,.str x=>.str x
 |_,_,.tup e r=>.tup (fL s e) (bN.sm s r)
 |_,_,.lst e r=>.lst (dN s e) (bN.sm s r)
 |_,_,.dic e r=>.dic (s.O6 e) (xo.sm s r)
 |_,_,.exc e m=>.exc (s.keep e rfl) m
 |_,_,.obj e m r=>.obj (s.keep e rfl) m (gZ.sm s r)
 |_,_,.dit e r=>.dit (s.Qp e) (B6.sm s r)
 |_,_,.opq=>.opq
theorem gZ.sm(s:Sq G G'):∀{vs:List (Str×V)}{as:List (Str×A)},gZ k G vs as->gZ k G' vs as
 |_,_,.nil=>.nil
 |_,_,.cons h r=>.cons (RA.sm s h) (gZ.sm s r)
theorem bN.sm(s:Sq G G'):∀{vs:List V}{as:List A},bN k G vs as->bN k G' vs as
 |_,_,.nil=>.nil
 |_,_,.cons h r=>.cons (RA.sm s h) (bN.sm s r)
theorem B6.sm(s:Sq G G'):∀{vs:List (List Key×Addr×V)}{as:List (List Key×A)},B6 k G vs as->B6 k G' vs as
 |_,_,.nil=>.nil
 |_,_,.cons e h r=>.cons (fL s e) (RA.sm s h) (B6.sm s r)
theorem xo.sm(s:Sq G G'):∀{vs:List (Key×V)}{as:List (Key×A)},xo k G vs as->xo k G' vs as
 |_,_,.nil=>.nil
 |_,_,.cons h r=>.cons (RA.sm s h) (xo.sm s r)
end
theorem bN.len:∀{vs:List V}{as:List A},bN k G vs as->vs.length=as.length
 |_,_,.nil=>rfl
 |_,_,.cons _ r=>by rw[QU,QU,r.len]
theorem bN.ta:∀{vs:List V}{as:List A}{i:Nat}{a:A},bN k G vs as->as[i]?=some a->∃v,vs[i]?=some v/\RA k G v a
 |_,_,_,_,.nil,e=>by simp at e
 |_,_,0,_,.cons h _,e=>by cases e;exact⟨_,rfl,h⟩
 |_,_,i+1,_,.cons _ r,e=>r.ta e
theorem bN.app:∀{vs us:List V}{as bs:List A},bN k G vs as->bN k G us bs->bN k G (vs++us) (as++bs)
 |_,_,_,_,.nil,s=>s
 |_,_,_,_,.cons h r,s=>.cons h (r.app s)
theorem bN.snoc{as:List A}{v:V}{a:A}(r:bN k G vs as)(h:RA k G v a):bN k G (vs++[v]) (as++[a]):=r.app (.cons h .nil)
theorem bN.rev:∀{vs:List V}{as:List A},bN k G vs as->bN k G vs.reverse as.reverse
 |_,_,.nil=>.nil
 |_,_,.cons h r=>by rw[TF,TF];exact r.rev.snoc h
theorem bN.take:∀{vs:List V}{as:List A}(n:Nat),bN k G vs as->bN k G (vs.take n) (as.take n)
 |_,_,0,_=>.nil
 |_,_,_+1,.nil=>.nil
 |_,_,n+1,.cons h r=>.cons h (r.take n)
theorem bN.drop:∀{vs:List V}{as:List A}(n:Nat),bN k G vs as->bN k G (vs.drop n) (as.drop n)
 |_,_,0,r=>r
 |_,_,_+1,.nil=>.nil
 |_,_,n+1,.cons _ r=>r.drop n
theorem bN.set{v:V}{a:A}(h:RA k G v a):∀{vs:List V}{as:List A}(i:Nat),bN k G vs as->bN k G (vs.set i v) (as.set i a)
 |_,_,_,.nil=>.nil
 |_,_,0,.cons _ r=>.cons h r
 |_,_,i+1,.cons q r=>.cons q (r.set h i)
theorem gZ.len:∀{vs:List (Str×V)}{as:List (Str×A)},gZ k G vs as->vs.length=as.length
 |_,_,.nil=>rfl
 |_,_,.cons _ r=>by rw[QU,QU,r.len]
theorem gZ.get:∀{vs:List (Str×V)}{as:List (Str×A)}(y:Str),gZ k G vs as->(∃v a,vs.lookup y=some v/\as.lookup y=some a/\RA k G v a)\/(vs.lookup y=none/\as.lookup y=none)
 |_,_,y,.nil=>.inr ⟨rfl,rfl⟩
 |_,_,y,.cons (y:=z) (v:=v) (a:=a) h r=>by
  rw[QY,QY];cases c:y==z with
  |true=>exact .inl ⟨v,a,rfl,rfl,h⟩
  |false=>exact r.get y
def kL(f:Str)(a:A):List (Str×A)->List (Str×A)
 |[]=>[(f,a)]
 |(g,b)::fs=>if g=f then (g,a)::fs else (g,b)::kL f a fs
theorem gZ.put{f:Str}{v:V}{a:A}(h:RA k G v a):∀{vs:List (Str×V)}{as:List (Str×A)},gZ k G vs as->gZ k G (dU f v vs) (kL f a as)
 |_,_,.nil=>.cons h .nil
 |_,_,.cons (y:=z) q r=>by
  unfold dU kL;split
  .exact .cons h r
  .exact .cons q (gZ.put h r)
end
noncomputable def cut(H:Hp)(L:List Addr):Hp:=λa=>if a∈L then none else H a
variable{H:Hp}{L:List Addr}
theorem BN{a:Addr}(h:a∈L):cut H L a=none:=Zt h
theorem oX{a:Addr}(h:a∉L):cut H L a=H a:=Zu h
theorem zT(H:Hp)(L:List Addr):Sq (cut H L) H:=Sq.of λb o e=>by
 delta cut at e
 split at e
 .cases e
 .exact e
variable{L':List Addr}
theorem zW(h:∀a,a∈L'->a∈L):Sq (cut H L) (cut H L'):=Sq.of λb o e=>by
 by_cases c:b∈L
 .rw[BN c] at e;cases e
 .rw[oX c] at e;rw[oX λz=>c (h b z)];exact e
inductive LO where
 |lst(xs:List A)|dic(kvs:List (Key×A))|obj(c:Str)(fs:List (Str×A))|dit(kvs:List (List Key×A))|nob(c:Str)(fs:List (Str×A))(ls:List (Str×List A))
def LO.a:LO->A
 | .lst xs=>.lst xs
 | .dic kvs=>.dic kvs
 | .obj c fs=>.obj c fs
 | .dit kvs=>.dit kvs
 | .nob c fs ls=>.obj c (fs++ls.map λp=>(p.1,.lst p.2))
def LO.rd:LO->Option A
 | .lst xs=>some (.lst xs)
 | .dic kvs=>some (.dic kvs)
 | .obj c fs=>some (.obj c fs)
 | .dit kvs=>some (.dit kvs)
 | .nob _ _ _=>none
inductive Sl where
 |un|fr(a:A)|lv(o:LO)|pv(o:LO)|cf(a:A)
inductive eO(k:Kx)(G H:Hp):List (Str×V)->List (Str×List A)->List Addr->Prop
 |nil:eO k G H [] [] []
 |cons{y:Str}{a:Addr}{us:List V}{xs:List A}{ws:List (Str×V)}{ls:List (Str×List A)}{q:List Addr}(e:H a=some (.lst us))(r:bN k G us xs)(t:eO k G H ws ls q):eO k G H ((y,.ref a)::ws) ((y,xs)::ls) (a::q)
inductive LR(k:Kx)(G H:Hp)(p:Addr):LO->List Addr->Prop
 |lst{vs:List V}{as:List A}(e:H p=some (.lst vs))(r:bN k G vs as):LR k G H p (.lst as) []
 |dic{vs:List (Key×V)}{as:List (Key×A)}(e:H p=some (.dK vs))(r:xo k G vs as):LR k G H p (.dic as) []
 |obj{C dx:Addr}{c:Str}{vs:List (Str×V)}{fs:List (Str×A)}(e:H p=some (.ins C dx vs))(m:k.mg c=some (.ref C))(r:gZ k G vs fs):LR k G H p (.obj c fs) []
 |dit{vs:List (List Key×Addr×V)}{as:List (List Key×A)}(e:H p=some (dX k.P k.w p vs))(r:B6 k G vs as):LR k G H p (.dit as) []
 |nob{C dx:Addr}{c:Str}{vs ws:List (Str×V)}{fs:List (Str×A)}{ls:List (Str×List A)}{q:List Addr}(e:H p=some (.ins C dx (vs++ws)))(m:k.mg c=some (.ref C))(r:gZ k G vs fs)(l:eO k G H ws ls q):LR k G H p (.nob c fs ls) q
inductive fD(k:Kx)(G H:Hp):Option V->Sl->List Addr->Prop
 |un(x:Option V):fD k G H x .un []
 |fr{v:V}{a:A}(h:RA k G v a):fD k G H (some v) (.fr a) []
 |lv{p:Addr}{o:LO}{q:List Addr}(h:LR k G H p o q):fD k G H (some (.ref p)) (.lv o) (p::q)
 |pv{p:Addr}{o:LO}{q:List Addr}(h:LR k G H p o q):fD k G H (some (.ref p)) (.pv o) (p::q)
 |cf{v:V}{a:A}(h:RA k G v a):fD k G H (some v) (.cf a) []
inductive ax(k:Kx)(G H:Hp):St->List Sl->List Addr->Prop
 |nil:ax k G H [] [] []
 |cons{x:Option V}{s:Sl}{Y:St}{Z:List Sl}{L L':List Addr}(h:fD k G H x s L)(r:ax k G H Y Z L'):ax k G H (x::Y) (s::Z) (L++L')
variable{ws:List (Str×V)}{q:List Addr}
section
variable{k:Kx}{G G' H H':Hp}{L:List Addr}
theorem eO.is{ls:List (Str×List A)}(h:eO k G H ws ls q):∀a∈q,∃u,H a=some u:=by
 induction h with
 |nil=>intro a f;cases f
 |cons e r t m=>intro b d;rcases QL.mp d with rfl|d;exact⟨_,e⟩;exact m b d
theorem eO.sm(s:Sq G G'){ws:List (Str×V)}{ls:List (Str×List A)}{q:List Addr}(h:eO k G H ws ls q):(∀a∈q,∀u,H a=some u->H' a=some u)->eO k G' H' ws ls q:=by
 induction h with
 |nil=>intro _;exact .nil
 |cons e r t m=>intro k;exact .cons (k _ QV _ e) (r.sm s) (m λb d=>k b (QM _ d))
theorem eO.a(s:Sq G G'){ws:List (Str×V)}{ls:List (Str×List A)}{q:List Addr}(h:eO k G H ws ls q):(∀a∈q,∀u,H a=some u->G' a=some u)->gZ k G' ws (ls.map λp=>(p.1,A.lst p.2)):=by
 induction h with
 |nil=>intro _;exact .nil
 |cons e r t m=>intro k;exact .cons (.lst (.inl (.inl (k _ QV _ e))) (r.sm s)) (m λb d=>k b (QM _ d))
theorem gZ.app{vs:List (Str×V)}{as bs:List (Str×A)}(h:gZ k G vs as)(h':gZ k G ws bs):gZ k G (vs++ws) (as++bs):=by
 induction vs generalizing as with
 |nil=>cases h;exact h'
 |cons v vs m=>cases h with|cons q r=>exact .cons q (m r)
theorem LR.is{p:Addr}{o:LO}{q:List Addr}(h:LR k G H p o q):∀a∈p::q,∃u,H a=some u:=by
 intro a f;rcases QL.mp f with rfl|f
 .cases h with|lst e _=>exact⟨_,e⟩|dic e _=>exact⟨_,e⟩|obj e _ _=>exact⟨_,e⟩|dit e _=>exact⟨_,e⟩|nob e _ _ _=>exact⟨_,e⟩
 .cases h with|lst e _=>cases f|dic e _=>cases f|obj e _ _=>cases f|dit e _=>cases f|nob _ _ _ l=>exact l.is a f
theorem LR.sm(s:Sq G G'){p:Addr}{o:LO}{q:List Addr}(e:∀a∈p::q,∀u,H a=some u->H' a=some u)(h:LR k G H p o q):LR k G' H' p o q:=by
 have I:=e p QV;cases h with
 |lst q r=>exact .lst (I _ q) (r.sm s)
 |dic q r=>exact .dic (I _ q) (r.sm s)
 |obj q m r=>exact .obj (I _ q) m (r.sm s)
 |dit q r=>exact .dit (I _ q) (r.sm s)
 |nob q m r l=>exact .nob (I _ q) m (r.sm s) (l.sm s λa f=>e a (QM _ f))
theorem fD.is{x:Option V}{t:Sl}(h:fD k G H x t L):∀p∈L,∃u,H p=some u:=by
 cases h with
 |un=>intro p hp;cases hp
 |fr=>intro p hp;cases hp
 |lv h=>exact h.is
 |pv h=>exact h.is
 |cf=>intro p hp;cases hp
theorem fD.sm(s:Sq G G'){x:Option V}{t:Sl}(e:∀p∈L,∀u,H p=some u->H' p=some u)(h:fD k G H x t L):fD k G' H' x t L:=by
 cases h with
 |un=>exact .un _
 |fr h=>exact .fr (h.sm s)
 |lv h=>exact .lv (h.sm s e)
 |pv h=>exact .pv (h.sm s e)
 |cf h=>exact .cf (h.sm s)
theorem ax.is:∀{Y:St}{Z:List Sl}{L:List Addr},ax k G H Y Z L->∀p∈L,∃u,H p=some u
 |_,_,_,.nil,p,hp=>by cases hp
 |_,_,_,.cons h r,p,hp=>(QP.mp hp).elim (h.is p) (r.is p)
theorem ax.sm(s:Sq G G'):∀{Y:St}{Z:List Sl}{L:List Addr},(∀p∈L,∀u,H p=some u->H' p=some u)->ax k G H Y Z L->ax k G' H' Y Z L
 |_,_,_,_,.nil=>.nil
 |_,_,_,e,.cons h r=>.cons (h.sm s λp hp=>e p (QI _ hp)) (r.sm s λp hp=>e p (QG _ hp))
theorem ax.len:∀{Y:St}{Z:List Sl}{L:List Addr},ax k G H Y Z L->Y.length=Z.length
 |_,_,_,.nil=>rfl
 |_,_,_,.cons _ r=>by rw[QU,QU,r.len]
theorem ax.at:∀{Y:St}{Z:List Sl}{L:List Addr}{i:Nat}{s:Sl},ax k G H Y Z L->Z[i]?=some s->
  ∃x X L2 o,Y[i]?=some x/\fD k G H x s L2/\L=X++L2++o/\∀{G' H':Hp}{y:Option V}{t:Sl}{L':List Addr},Sq G G'->(∀p∈X++o,∀u,H p=some u->H' p=some u)->fD k G' H' y t L'->ax k G' H' (Y.set i y) (Z.set i t) (X++L'++o)
 |_,_,_,_,_,.nil,e=>by simp at e
 |_,_,_,0,_,.cons (x:=x) (L:=L) (L':=L') h r,e=>by cases e;refine⟨x,[],L,L',rfl,h,by simp,λsm e q=>?_⟩;simp only[List.set_cons_zero,Ui];exact .cons q (r.sm sm (by simpa using e))
 |_,_,_,i+1,_,.cons (L:=L) h r,e=>by obtain⟨x,X,L2,o,e1,e2,N,A⟩:=ax.at (i:=i) r e;refine⟨x,L++X,L2,o,e1,e2,by rw[N];simp,λsm e q=>?_⟩;simp only[List.set_cons_succ];have:=ax.cons (h.sm sm λp hp=>e p (by simp[hp])) (A sm (λp hp=>e p (by rcases QP.mp hp with z|z<;>simp[z])) q);simpa[QJ] using this
theorem ax.app:∀{Y B:St}{Z θ:List Sl}{L L':List Addr},ax k G H Y Z L->ax k G H B θ L'->ax k G H (Y++B) (Z++θ) (L++L')
 |_,_,_,_,_,_,.nil,s=>s
 |_,_,_,_,_,_,.cons h r,s=>by have:=ax.cons h (r.app s);simpa[QJ] using this
theorem ax.split:∀{Y B:St}{Z θ:List Sl}{L:List Addr},Y.length=Z.length->ax k G H (Y++B) (Z++θ) L->∃X L2,L=X++L2/\ax k G H Y Z X/\ax k G H B θ L2
 |[],_,[],_,L,_,h=>⟨[],L,rfl,.nil,h⟩
 |x::Y,B,s::Z,θ,_,e,.cons (L:=L) h r=>by obtain⟨X,L2,e1,n,O⟩:=ax.split (by simpa using e) r;exact⟨L++X,L2,by rw[e1];simp,.cons h n,O⟩
 |_::_,_,[],_,_,e,_=>by simp at e
 |[],_,_::_,_,_,e,_=>by simp at e
theorem ax.kW:∀{vs:List V}{as:List A},bN k G vs as->ax k G H (vs.map some) (as.map Sl.fr) []
 |_,_,.nil=>.nil
 |_,_,.cons h r=>ax.cons (.fr h) (ax.kW r)
theorem ax.Fx:∀{vs:List V}{as:List A}{L:List Addr},ax k G H (vs.map some) (as.map Sl.fr) L->L=[]/\bN k G vs as
 |[],[],_,.nil=>⟨rfl,.nil⟩
 |v::vs,a::as,_,.cons h r=>by
  cases h with
  |fr h=>obtain⟨e,q⟩:=ax.Fx r;exact⟨by rw[e];rfl,.cons h q⟩
end
structure Cn extends Kx where
 σ0:St
 H0:Hp
 Lp:List Addr
 Hd:List Addr
 Wk:List (Addr×HO)
def Cn.g(c:Cn)(H:Hp)(L:List Addr):Hp:=cut H (L++c.Hd)
structure Fr(c:Cn)(H:Hp):Prop where
 st:∀b o,c.H0 b=some o->∃u,H b=some u/\(b∉c.Lp->(∀w,(b,w)∉c.Wk)->u=o)
 pk:∀p∈c.Wk,H p.1=some p.2/\(∃ob d,p.2=.frz ob d)/\p.1∉c.Hd
variable{c:Cn}
theorem Fr.new{o:HO}(f:Fr c H)(h:H p=none):Fr c (upd H p o):=⟨λb u e=>by
 obtain⟨w,h1,h2⟩:=f.st b u e;exact⟨w,by rw[ao (aD h1 h)];exact h1,h2⟩,λq V=>by
 obtain⟨h1,h2⟩:=f.pk q V;exact⟨by rw[ao (aD h1 h)];exact h1,h2⟩⟩
theorem Fr.fresh(f:Fr c H)(h:H p=none):c.H0 p=none:=by
 cases e:c.H0 p with
 |none=>rfl
 |some o=>obtain⟨u,h1,_⟩:=f.st p o e;rw[h] at h1;cases h1
noncomputable def cst:Sl->Bool
 | .pv _=>true
 | .cf _=>true
 |_=>false
def fq(σ0 Y:St)(Z:List Sl):Prop:=∀(i:Nat)(s:Sl),Z[i]?=some s->cst s=true->Y[i]?=σ0[i]?
structure dZ(c:Cn)(Y:St)(H:Hp)(Z:List Sl)(B:St)(θ:List Sl)(L:List Addr):Prop where
 nd:L.Nodup
 rel:ax c.toKx (c.g H L) H (B++Y) (θ++Z) L
 own:∀p∈L,p∈c.Lp\/c.H0 p=none
 fr:Fr c H
 kp:fq c.σ0 Y Z
 lt:B.length=θ.length
 hd:∀p∈c.Hd,(∃u,c.H0 p=some u)/\p∉c.Lp
theorem g_same(c:Cn)(H:Hp)(L:List Addr):Sq (c.g H L) H:=zT _ _
theorem dF(h:∀a,a∈L'->a∈L):Sq (c.g H L) (c.g H L'):=zW λa f=>by
 rcases QP.mp f with z|z
 .exact QI _ (h a z)
 .exact QG _ z
theorem gJ{a:Addr}(h:a∈L\/a∈c.Hd):c.g H L a=none:=BN (by simpa using h)
theorem bE{a:Addr}(h:a∉L)(h':a∉c.Hd):c.g H L a=H a:=oX (by simp[h,h'])
variable{Y B:St}{Z θ:List Sl}
theorem dZ.xV(b:dZ c Y H Z B θ L)(h:p∈L):p∉c.Hd:=λz=>by
 obtain⟨⟨u,e⟩,n⟩:=b.hd p z;rcases b.own p h with y|y
 .exact n y
 .rw[y] at e;cases e
theorem dZ.LU(b:dZ c Y H Z B θ L)(h:H p=none):p∉c.Hd:=λz=>by obtain⟨⟨u,e⟩,n⟩:=b.hd p z;rw[b.fr.fresh h] at e;cases e
def Bd(c:Cn)(Y:St)(H:Hp)(Z:List Sl)(B:St)(θ:List Sl):Prop:=∃L,dZ c Y H Z B θ L
variable{s:Sl}{u:HO}{o o':LO}{i:Nat}{α:Type}
section
variable{c:Cn}{Y:St}{H:Hp}{Z:List Sl}{B:St}{θ:List Sl}
theorem Bd.sC(b:Bd c Y H Z B θ):Y.length=Z.length:=by obtain⟨L,b⟩:=b;have:=b.rel.len;rw[Q2,Q2,b.lt] at this;lia
theorem Bd.push{v:V}{a:A}(b:Bd c Y H Z B θ)(h:∀G,RA c.toKx G v a):Bd c Y H Z (some v::B) (.fr a::θ):=by obtain⟨L,b⟩:=b;exact⟨L,b.nd,ax.cons (L:=[]) (.fr (h _)) b.rel,b.own,b.fr,b.kp,by simp[b.lt],b.hd⟩
theorem Bd.pop{x:Option V}(b:Bd c Y H Z (x::B) (s::θ)):Bd c Y H Z B θ:=by
 obtain⟨L,b⟩:=b;obtain⟨nd,rel,own,fr,kp,lt,o⟩:=b;cases rel with
 |cons h r=>rename_i X L2;exact⟨L2,(QQ.mp nd).2.1,r.sm (dF λa f=>QG _ f) (λ_ _ _ e=>e),λp hp=>own p (QG _ hp),fr,kp,by simpa using lt,o⟩
theorem Bd.Cm:∀{xs:St}{ss:List Sl},xs.length=ss.length->Bd c Y H Z (xs++B) (ss++θ)->Bd c Y H Z B θ
 |[],[],_,b=>b
 |x::xs,s::ss,e,b=>Bd.Cm (by simpa using e) (Bd.pop b)
 |[],_::_,e,_=>by simp at e
 |_::_,[],e,_=>by simp at e
theorem Bd.new{p:Addr}{o:HO}(b:Bd c Y H Z B θ)(h:H p=none):Bd c Y (upd H p o) Z B θ:=by
 obtain⟨L,b⟩:=b;have hp:p∉L:=λz=>by obtain⟨u,e⟩:=b.rel.is p z;rw[h] at e;cases e
 refine⟨L,b.nd,b.rel.sm (Sq.of λa u e=>?_) (λq V u e=>by rw[ao (aD e h)];exact e),b.own,b.fr.new h,b.kp,b.lt,b.hd⟩;by_cases z:a∈L\/a∈c.Hd
 .rw[gJ z] at e;cases e
 .rw[bE (λy=>z (.inl y)) (λy=>z (.inr y))] at e;rw[bE (λy=>z (.inl y)) (λy=>z (.inr y)),ao (aD e h)];exact e
theorem Bd.kW{as:List A}(b:Bd c Y H Z (vs.map some++B) (as.map Sl.fr++θ))(e:vs.length=as.length):∃L,dZ c Y H Z B θ L/\bN c.toKx (c.g H L) vs as:=by obtain⟨L,b⟩:=b;have r:=b.rel;rw[QJ,QJ] at r;obtain⟨X,L2,e1,n,k⟩:=ax.split (by simp[e]) r;obtain⟨z,x⟩:=ax.Fx n;subst z;have e1:L=L2:=e1;subst e1;exact⟨L,⟨b.nd,k,b.own,b.fr,b.kp,by have:=b.lt;simp at this;lia,b.hd⟩,x⟩
theorem dZ.push{v:V}{a:A}(b:dZ c Y H Z B θ L)(h:RA c.toKx (c.g H L) v a):Bd c Y H Z (some v::B) (.fr a::θ):=
 ⟨L,b.nd,ax.cons (.fr h) b.rel,b.own,b.fr,b.kp,by simp[b.lt],b.hd⟩
theorem dZ.new{L:List Addr}{p:Addr}{o:HO}(b:dZ c Y H Z B θ L)(h:H p=none):dZ c Y (upd H p o) Z B θ L/\Sq (c.g H L) (c.g (upd H p o) L)/\p∉L:=by
 have hp:p∉L:=λz=>by obtain⟨u,e⟩:=b.rel.is p z;rw[h] at e;cases e
 have sm:Sq (c.g H L) (c.g (upd H p o) L):=Sq.of λa u e=>by
  by_cases z:a∈L\/a∈c.Hd
  .rw[gJ z] at e;cases e
  .rw[bE (λy=>z (.inl y)) (λy=>z (.inr y))] at e;rw[bE (λy=>z (.inl y)) (λy=>z (.inr y)),ao (aD e h)];exact e
 exact⟨⟨b.nd,b.rel.sm sm (λq V u e=>by rw[ao (aD e h)];exact e),b.own,b.fr.new h,b.kp,b.lt,b.hd⟩,sm,hp⟩
theorem Bd.Jl{as:List A}(b:Bd c Y H Z (vs.map some++B) (as.map Sl.fr++θ))(e:vs.length=as.length)(h:H p=none)(ws:List V)(bs:List A)(s:∀G,bN c.toKx G vs as->bN c.toKx G ws bs):
  Bd c Y (upd H p (.tup ws)) Z (some (.ref p)::B) (.fr (.tup bs)::θ):=by
 obtain⟨L,bl,x⟩:=b.kW e;obtain⟨b2,sm,hp⟩:=bl.new (o:=.tup ws) h;exact b2.push (.tup (.inl (.inl (by rw[bE hp (bl.LU h)];exact aI))) (s _ (x.sm sm)))
theorem dZ.kO(b:dZ c Y H Z B θ L)(h:H p=none)(hr:∀G H',Sq (c.g H L) G->H' p=some u->LR c.toKx G H' p o []):Bd c Y (upd H p u) Z (some (.ref p)::B) (.lv o::θ):=by
 have hp:p∉L:=λz=>by obtain⟨u,e⟩:=b.rel.is p z;rw[h] at e;cases e
 have sm:Sq (c.g H L) (c.g (upd H p u) (p::L)):=Sq.of λa w e=>by
  by_cases z:a∈L\/a∈c.Hd
  .rw[gJ z] at e;cases e
  .rw[bE (λy=>z (.inl y)) (λy=>z (.inr y))] at e;have s:=aD e h;rw[bE (λy=>by rcases QL.mp y with y|y;exact s y;exact z (.inl y)) (λy=>z (.inr y)),ao s];exact e
 refine⟨p::L,Rf.mpr ⟨hp,b.nd⟩,ax.cons (L:=[p]) (.lv (hr _ _ sm aI)) (b.rel.sm sm (λq V w e=>by rw[ao (aD e h)];exact e)),λq V=>?_,b.fr.new h,b.kp,by simp[b.lt],b.hd⟩;rcases QL.mp V with z|z
 .subst z;exact .inr (b.fr.fresh h)
 .exact b.own q z
theorem Bd.A6{as:List A}(b:Bd c Y H Z (vs.map some++B) (as.map Sl.fr++θ))(e:vs.length=as.length)(h:H p=none)(ws:List V)(bs:List A)(s:∀G,bN c.toKx G vs as->bN c.toKx G ws bs):
  Bd c Y (upd H p (.lst ws)) Z (some (.ref p)::B) (.lv (.lst bs)::θ):=by
 obtain⟨L,bl,x⟩:=b.kW e;exact bl.kO h λG H' sm q=>.lst q (s _ (x.sm sm))
theorem LR.a{k:Kx}{G H:Hp}{p:Addr}{o:LO}{q:List Addr}{a:A}(h:LR k G H p o q)(sm:Sq G H)(O:o.rd=some a):RA k H (.ref p) a:=by
 cases h with
 |lst e r=>cases O;exact .lst (.inl (.inl e)) (r.sm sm)
 |dic e r=>cases O;exact .dic (.inl e) (r.sm sm)
 |obj e m r=>cases O;exact .obj e m (r.sm sm)
 |dit e r=>cases O;exact .dit (.inl e) (r.sm sm)
 |nob=>cases O
theorem LR.a'{k:Kx}(h:LR k G H p o q)(sm:Sq G G')(e:∀a∈p::q,∀u,H a=some u->G' a=some u):RA k G' (.ref p) o.a:=by
 have I:=e p QV;cases h with
 |lst q r=>exact .lst (.inl (.inl (I _ q))) (r.sm sm)
 |dic q r=>exact .dic (.inl (I _ q)) (r.sm sm)
 |obj q m r=>exact .obj (I _ q) m (r.sm sm)
 |dit q r=>exact .dit (.inl (I _ q)) (r.sm sm)
 |nob q m r l=>exact .obj (I _ q) m ((r.sm sm).app (l.a sm λa f=>e a (QM _ f)))
def Sl.a:Sl->Option A
 | .fr a=>some a
 | .lv o=>o.rd
 | .pv o=>o.rd
 | .cf a=>some a
 | .un=>none
theorem fD.read{k:Kx}{x:Option V}{a:A}(h:fD k G H x s L)(sm:Sq G H)(e:s.a=some a):∃v,x=some v/\RA k H v a:=by
 cases h with
 |un=>cases e
 |fr h=>cases e;exact⟨_,rfl,h.sm sm⟩
 |lv h=>exact⟨_,rfl,h.a sm e⟩
 |pv h=>exact⟨_,rfl,h.a sm e⟩
 |cf h=>cases e;exact⟨_,rfl,h.sm sm⟩
theorem fq.set{σ0 Y:St}{Z:List Sl}{i:Nat}{t:Sl}{y:Option V}(k:fq σ0 Y Z)(hi:i<Z.length)(e:cst t=false):fq σ0 (Y.set i y) (Z.set i t):=λj o q w=>by
 by_cases z:j=i
 .subst z;rw[Q0 hi] at q;cases q;rw[e] at w;cases w
 .rw[Rb (RH z)] at q ⊢;exact k j o q w
theorem fq.D4{σ0:St}{t:Sl}(k:fq σ0 Y Z)(h:cst t=true->∃s,Z[i]?=some s/\cst s=true):fq σ0 Y (Z.set i t):=λj o q w=>by
 by_cases z:j=i
 .subst z;by_cases hi:j<Z.length
  .rw[Q0 hi] at q;cases q;obtain⟨o',e,a⟩:=h w;exact k j o' e a
  .rw[RQ (by simp;exact UH.mp ‹_›)] at q;cases q
 .rw[Rb (RH z)] at q;exact k j o q w
theorem Bd.slot{a:A}(b:Bd c Y H Z B θ)(e:Z[i]?=some s)(O:s.a=some a):∃v,Y[i]?=some (some v)/\RA c.toKx H v a:=by obtain⟨L,b⟩:=b;obtain⟨X,L2,e1,n,k⟩:=ax.split b.lt b.rel;obtain⟨x,_,_,_,hx,hs,_⟩:=k.at e;obtain⟨v,rfl,h⟩:=hs.read (g_same _ _ _) O;exact⟨v,hx,h⟩
theorem Bd.Fg(b:Bd c Y H Z B θ)(e:Z[i]?=some (.lv o)\/Z[i]?=some (.pv o)):∃p,Y[i]?=some (some (.ref p)):=by
 obtain⟨L,b⟩:=b;obtain⟨X,L2,e1,n,k⟩:=ax.split b.lt b.rel;rcases e with e|e
 .obtain⟨x,_,_,_,hx,hs,_⟩:=k.at e;cases hs;exact⟨_,hx⟩
 .obtain⟨x,_,_,_,hx,hs,_⟩:=k.at e;cases hs;exact⟨_,hx⟩
theorem Bd.load{a:A}(b:Bd c Y H Z B θ)(e:Z[i]?=some (.fr a)):∃v,Y[i]?=some (some v)/\Bd c Y H Z (some v::B) (.fr a::θ):=by
 obtain⟨L,b⟩:=b;obtain⟨X,L2,e1,n,k⟩:=ax.split b.lt b.rel;obtain⟨x,_,_,_,hx,hs,_⟩:=k.at e;cases hs with
 |fr h=>exact⟨_,hx,b.push h⟩
theorem Bd.FA{a:A}(b:Bd c Y H Z B θ)(e:Z[i]?=some (.cf a)):∃v,Y[i]?=some (some v)/\Bd c Y H Z (some v::B) (.fr a::θ):=by
 obtain⟨L,b⟩:=b;obtain⟨X,L2,e1,n,k⟩:=ax.split b.lt b.rel;obtain⟨x,_,_,_,hx,hs,_⟩:=k.at e;cases hs with
 |cf h=>exact⟨_,hx,b.push h⟩
theorem eO.nf{k:Kx}{ls:List (Str×List A)}(h:eO k G H ws ls q):∀a∈q,∀ob w,H a≠some (.frz ob w):=by
 induction h with
 |nil=>intro a f;cases f
 |cons e r t m=>intro b d ob w z;rcases QL.mp d with rfl|d;rw[e] at z;cases z;exact m b d ob w z
theorem LR.nf{k:Kx}{G H:Hp}{p:Addr}{o:LO}{q:List Addr}(h:LR k G H p o q):∀a∈p::q,∀ob w,H a≠some (.frz ob w):=by
 intro a f ob w z;rcases QL.mp f with rfl|f
 .cases h with|lst e _=>rw[e] at z;cases z|dic e _=>rw[e] at z;cases z|obj e _ _=>rw[e] at z;cases z|dit e _=>rw[e] at z;cases z|nob e _ _ _=>rw[e] at z;cases z
 .cases h with|lst e _=>cases f|dic e _=>cases f|obj e _ _=>cases f|dit e _=>cases f|nob _ _ _ l=>exact l.nf a f ob w z
theorem i9{A B C:List α}(n:(A++B++C).Nodup):(A++C).Nodup/\∀a∈B,a∉A++C:=by
 obtain⟨e,H,Y⟩:=QQ.mp n;obtain⟨K,L,p⟩:=QQ.mp e;refine⟨QQ.mpr ⟨K,H,λa f b d=>Y a (QI _ f) b d⟩,λa f z=>?_⟩;rcases QP.mp z with z|z
 .exact p a z a f rfl
 .exact Y a (QG _ f) a z rfl
theorem set_same{v:Option V}(hx:Y[i]?=some v):Y.set i v=Y:=by
 apply Sk;intro j;by_cases z:j=i
 .subst z;rw[Q0 (QH.mp hx).1,hx]
 .rw[Rb (RH z)]
theorem Bd.ux(b:Bd c Y H Z B θ)(e:Z[i]?=some (.lv o)):Bd c Y H (Z.set i (.fr o.a)) B θ:=by
 obtain⟨L,b⟩:=b;obtain⟨X,L2,e1,n,k⟩:=ax.split b.lt b.rel;obtain⟨x,M1,r,v,hx,hs,e2,ins⟩:=k.at e;cases hs with
 |lv h=>
  rename_i p q;have nd:=b.nd;have hL:L=(X++M1)++(p::q)++v:=by rw[e1,e2];simp
  rw[hL] at nd;obtain⟨A,hp⟩:=i9 nd;have sub:∀a,a∈X++M1++v->a∈L:=λa f=>by rw[hL];simp only[QP,QL] at f ⊢;rcases f with (z|z)|z<;>simp[z]
  have sm:Sq (c.g H L) (c.g H (X++M1++v)):=dF sub;have Q:=ins (y:=some (.ref p)) (t:=.fr o.a) (L':=[]) sm (λ_ _ _ e=>e) (.fr (h.a' sm λa f u e=>by rw[bE (hp a f) (b.xV (by rw[hL];exact QI _ (QG _ f)))];exact e));rw[set_same hx] at Q;refine⟨X++M1++v,A,?_,λq V=>b.own q (sub q V),b.fr,b.kp.D4 (λz=>by cases z),b.lt,b.hd⟩;have:=(n.sm sm (λ_ _ _ e=>e)).app Q;simpa[QJ] using this
theorem dZ.Mt{t:Sl}(b:dZ c Y H Z B θ L)(e:Z[i]?=some s)(es:s=.lv o/\t=.lv o'\/s=.pv o/\t=.pv o')
  : ∃p q,Y[i]?=some (some (.ref p))/\LR c.toKx (c.g H L) H p o q/\(p::q).Nodup/\∀a∈p::q,(∀H',H' a=some u->(∀b∈p::q,b≠a->H' b=H b)->LR c.toKx (c.g H L) H' p o' q)->Bd c Y (upd H a u) (Z.set i t) B θ:=by
 obtain⟨X,L2,e1,n,k⟩:=ax.split b.lt b.rel;obtain⟨x,M1,r,C,hx,hs,e2,ins⟩:=k.at e;have key:∀p q,x=some (.ref p)->r=p::q->LR c.toKx (c.g H L) H p o q->(∀G H',LR c.toKx G H' p o' q->fD c.toKx G H' (some (.ref p)) t (p::q))->(cst t=true->∃s,Z[i]?=some s/\cst s=true)->
   ∃p q,Y[i]?=some (some (.ref p))/\LR c.toKx (c.g H L) H p o q/\(p::q).Nodup/\∀a∈p::q,(∀H',H' a=some u->(∀b∈p::q,b≠a->H' b=H b)->LR c.toKx (c.g H L) H' p o' q)->Bd c Y (upd H a u) (Z.set i t) B θ:=by
  intro p q ex em hr mk pk;subst ex em;have nd:=b.nd;have hL:L=(X++M1)++(p::q)++C:=by rw[e1,e2];simp
  rw[hL] at nd;have E:(p::q).Nodup:=(QQ.mp (QQ.mp nd).1).2.1;refine⟨p,q,hx,hr,E,λa f hn=>?_⟩;obtain⟨_,F⟩:=i9 nd;have v:a∈L:=by rw[hL];exact QI _ (QG _ f)
  have I:c.g (upd H a u) L=c.g H L:=by
   funext J
   by_cases z:J∈L\/J∈c.Hd
   .rw[gJ z,gJ z]
   .rw[bE (λy=>z (.inl y)) (λy=>z (.inr y)),bE (λy=>z (.inl y)) (λy=>z (.inr y)),ao λy=>z (.inl (by rw[y];exact v))]
  have A:∀q,q∈X++M1++C->∀w,H q=some w->upd H a u q=some w:=λq V w e=>by rw[ao λy=>F a f (by rw[<-y];exact V)];exact e
  have Q:=ins (G':=c.g (upd H a u) L) (H':=upd H a u) (y:=some (.ref p)) (t:=t) (L':=p::q) (by rw[I];exact Sq.refl _) (λq V=>A q (by rcases QP.mp V with z|z<;>simp[z])) (mk _ _ (by rw[I];exact hn _ aI λJ _ R=>ao R));rw[set_same hx] at Q;refine⟨L,b.nd,?_,b.own,⟨λq w e=>?_,λq V=>?_⟩,b.kp.D4 pk,b.lt,b.hd⟩
  .have:=(n.sm (G':=c.g (upd H a u) L) (H':=upd H a u) (by rw[I];exact Sq.refl _) (λq V=>A q (by simp[V]))).app Q;have z:X++(M1++(p::q)++C)=L:=by rw[hL];simp
   rw[z] at this;exact this
  .obtain⟨j,h1,h2⟩:=b.fr.st q w e;by_cases z:q=a
   .subst z;refine⟨u,aI,λN=>?_⟩;rcases b.own q v with y|y
    .exact absurd y N
    .rw[y] at e;cases e
   .exact⟨j,by rw[ao z];exact h1,h2⟩
  .obtain⟨h1,⟨ob,vs,h2⟩,h3⟩:=b.fr.pk q V;refine⟨?_,⟨ob,vs,h2⟩,h3⟩;rw[ao λy=>?_]
   .exact h1
   .rw[y,h2] at h1;exact hr.nf a f _ _ h1
 rcases es with ⟨rfl,rfl⟩|⟨rfl,rfl⟩
 .cases hs with
  |lv h=>exact key _ _ rfl rfl h (λ_ _ h=>.lv h) (λz=>by cases z)
 .cases hs with
  |pv h=>exact key _ _ rfl rfl h (λ_ _ h=>.pv h) (λ_=>⟨_,e,rfl⟩)
theorem dZ.change{t:Sl}(b:dZ c Y H Z B θ L)(e:Z[i]?=some s)(es:s=.lv o/\t=.lv o'\/s=.pv o/\t=.pv o')
  : ∃p q,Y[i]?=some (some (.ref p))/\LR c.toKx (c.g H L) H p o q/\((∀H',H' p=some u->(∀b∈q,H' b=H b)->LR c.toKx (c.g H L) H' p o' q)->Bd c Y (upd H p u) (Z.set i t) B θ):=by
 obtain⟨p,q,h1,h2,nd,h3⟩:=b.Mt (u:=u) e es;exact⟨p,q,h1,h2,λk=>h3 p QV λH' O sm=>k H' O λb d=>sm b (QM _ d) λz=>(Rf.mp nd).1 (z▸d)⟩
theorem Bd.store{t:Sl}{v:V}(b:Bd c Y H Z (some v::B) (t::θ))(e:Z[i]?=some s)(hs:∀o,s≠.pv o)(l:cst t=false):Bd c (Y.set i (some v)) H (Z.set i t) B θ:=by
 obtain⟨L,nd,rel,own,fr,kp,lt,p⟩:=b;have rel:ax c.toKx (c.g H L) H (some v::(B++Y)) (t::(θ++Z)) L:=rel;cases rel with
 |cons h r=>
  rename_i u L';obtain⟨X,L2,e1,n,k⟩:=ax.split (by simpa using lt) r;obtain⟨x,M1,y,C,hx,w,e2,ins⟩:=k.at e;subst e1 e2;have sub:∀a,a∈X++(M1++u++C)->a∈u++(X++(M1++y++C)):=λa f=>by simp at f ⊢;rcases f with z|z|z|z<;>simp[z]
  have sm:Sq (c.g H (u++(X++(M1++y++C)))) (c.g H (X++(M1++u++C))):=dF sub;have hi:i<Z.length:=(QH.mp e).1;refine⟨X++(M1++u++C),?_,?_,λq F=>own q (sub q F),fr,kp.set hi l,by simpa using lt,p⟩
  .have A:(u++(X++(M1++y++C))).Perm (y++(X++(M1++u++C))):=by rw[SO];intro a;simp only[SY];lia
   exact(QQ.mp ((A.nodup_iff).mp nd)).2.1
  .exact(n.sm sm (λ_ _ _ e=>e)).app (ins sm (λ_ _ _ e=>e) (h.sm sm (λ_ _ _ e=>e)))
end
inductive Rr where
 |rf(i:Nat)|fr(a:A)|nw(o:LO)
noncomputable abbrev Mi(α:Type):=List Sl->Option (Except Str α×List Sl)
noncomputable def aS{α β:Type}(m:Mi α)(f:α->Mi β):Mi β:=λZ=>match m Z with
 |some (.ok x,U)=>f x U
 |some (.error e,U)=>some (.error e,U)
 |none=>none
noncomputable def mB{α:Type}(x:α):Mi α:=λZ=>some (.ok x,Z)
noncomputable def cO:Rr->V->St->St
 | .rf _,_,B=>B
 | .fr _,v,B=>some v::B
 | .nw _,v,B=>some v::B
noncomputable def cM:Rr->List Sl->List Sl
 | .rf _,θ=>θ
 | .fr a,θ=>.fr a::θ
 | .nw o,θ=>.lv o::θ
def VR(Y:St):Rr->V->Prop
 | .rf i,v=>Y[i]?=some (some v)
 |_,_=>True
def res(Z:List Sl):Rr->Option A
 | .rf i=>match Z[i]? with
  |some s=>s.a
  |none=>none
 | .fr a=>some a
 | .nw o=>o.rd
def Oh(K:Kx)(E:XK)(c:Cn)(Y:St)(Z:List Sl)(B:St)(θ:List Sl)(Q:VK):Except Str Rr->Prop
 | .ok r=>∀v H,VR Y r v->Bd c Y H Z (cO r v B) (cM r θ)->Q v H
 | .error x=>∀C H,K.mg x=some (.ref C)->Bd c Y H Z B θ->E (.ref C) none H
inductive kN(K:Kx)(E:XK)(m:Mi Rr)(Y:St)(H:Hp)(Q:VK):Prop
 |mk(c:Cn)(Z:List Sl)(B:St)(θ:List Sl)(o:Except Str Rr)(O:List Sl)(h1:c.toKx=K)(h2:Bd c Y H Z B θ)(h3:m Z=some (o,O))(h4:Oh K E c Y O B θ Q o)
def K4(K:Kx)(E:XK)(c:Cn)(Y:St)(Z:List Sl)(B:St)(θ:List Sl)(Q:Bool->Hp->Prop):Except Str Bool->Prop
 | .ok b=>∀H,Bd c Y H Z B θ->Q b H
 | .error x=>∀C H,K.mg x=some (.ref C)->Bd c Y H Z B θ->E (.ref C) none H
inductive CU(K:Kx)(E:XK)(m:Mi Bool)(Y:St)(H:Hp)(Q:Bool->Hp->Prop):Prop
 |mk(c:Cn)(Z:List Sl)(B:St)(θ:List Sl)(o:Except Str Bool)(O:List Sl)(h1:c.toKx=K)(h2:Bd c Y H Z B θ)(h3:m Z=some (o,O))(h4:K4 K E c Y O B θ Q o)
def dq:List Rr->List V->St->St
 |r::rs,v::vs,B=>dq rs vs (cO r v B)
 |_,_,B=>B
def du:List Rr->List Sl->List Sl
 |r::rs,θ=>du rs (cM r θ)
 |[],θ=>θ
def md(Y:St):List Rr->List V->Prop
 |[],[]=>True
 |r::rs,v::vs=>VR Y r v/\md Y rs vs
 |_,_=>False
def Nl(K:Kx)(E:XK)(c:Cn)(Y:St)(Z:List Sl)(B:St)(θ:List Sl)(Q:List V->Hp->Prop):Except Str (List Rr)->Prop
 | .ok rs=>∀vs H,md Y rs vs->Bd c Y H Z (dq rs vs B) (du rs θ)->Q vs H
 | .error x=>∀C H,K.mg x=some (.ref C)->Bd c Y H Z B θ->E (.ref C) none H
inductive M7(K:Kx)(E:XK)(m:Mi (List Rr))(Y:St)(H:Hp)(Q:List V->Hp->Prop):Prop
 |mk(c:Cn)(Z:List Sl)(B:St)(θ:List Sl)(o:Except Str (List Rr))(O:List Sl)(h1:c.toKx=K)(h2:Bd c Y H Z B θ)(h3:m Z=some (o,O))(h4:Nl K E c Y O B θ Q o)
noncomputable abbrev kx(X:Cx):Kx:=⟨X.K,X.mg,X.prog,X.w⟩
structure JE(X:Cx)(E:XK)(e:Expr)(m:Mi Rr):Prop where
 p:PE X e (kN (kx X) E m)
structure JT(X:Cx)(E:XK)(e:Expr)(m:Mi Bool):Prop where
 p:PT X e (CU (kx X) E m)
structure JW(X:Cx)(E:XK)(e:Expr)(m:Mi Bool):Prop where
 p:PW X e (CU (kx X) E m)
structure JA(X:Cx)(E:XK)(es:List Expr)(m:Mi (List Rr)):Prop where
 p:PA X es (M7 (kx X) E m)
variable{X:Cx}{e:Expr}
theorem PE.weaken{t t':TE}(h:PE X e t)(f:∀Y H Q,t' Y H Q->t Y H Q):PE X e t':=λpins s Y H Q I q=>h pins s Y H Q I (f Y H Q q)
variable{t':TT}
theorem PT.weaken{t:TT}(h:PT X e t)(f:∀Y H Q,t' Y H Q->t Y H Q):PT X e t':=λpins s Y H Q I q=>h pins s Y H Q I (f Y H Q q)
theorem PW.weaken{t:TT}(h:PW X e t)(f:∀Y H Q,t' Y H Q->t Y H Q):PW X e t':=λR pins s Y H Q I q=>h R pins s Y H Q I (f Y H Q q)
theorem PA.weaken{e:List Expr}{t t':TA}(h:PA X e t)(f:∀Y H Q,t' Y H Q->t Y H Q):PA X e t':=λpos pins s Y H Q I q=>h pos pins s Y H Q I (f Y H Q q)
section
variable{c:Cn}{Y:St}{H:Hp}{Z:List Sl}{B:St}{θ:List Sl}
theorem Bd.drop{r:Rr}{v:V}(b:Bd c Y H Z (cO r v B) (cM r θ)):Bd c Y H Z B θ:=by
 cases r with
 |rf i=>exact b
 |fr a=>exact Bd.pop b
 |nw o=>exact Bd.pop b
theorem Bd.top{v:V}{a:A}(b:Bd c Y H Z (some v::B) (s::θ))(e:s.a=some a):RA c.toKx H v a:=by
 obtain⟨L,nd,rel,_⟩:=b;cases rel with
 |cons h r=>obtain⟨u,z,q⟩:=h.read (g_same _ _ _) e;cases z;exact q
theorem Bd.rd{r:Rr}{v:V}{a:A}(b:Bd c Y H Z (cO r v B) (cM r θ))(q:VR Y r v)(e:res Z r=some a):RA c.toKx H v a:=by
 cases r with
 |rf i=>
  delta res at e
  cases es:Z[i]? with
  |none=>simp only[es] at e;cases e
  |some s=>simp only[es] at e;obtain⟨u,h1,h2⟩:=Bd.slot b es e;rw[q] at h1;cases h1;exact h2
 |fr a'=>cases e;exact Bd.top b rfl
 |nw o=>exact Bd.top b e
theorem fD.items{k:Kx}{x:Option V}(h:fD k G H x s L)(sm:Sq G H):
  (∀as,s.a=some (.lst as)->∃p vs,x=some (.ref p)/\dm k.K H p vs/\bN k G vs as)/\(∀as,s.a=some (.tup as)->∃p vs,x=some (.ref p)/\gW k.K G p vs/\bN k G vs as) /\
  (∀as,s.a=some (.dic as)->∃p vs,x=some (.ref p)/\Rd H p (.dK vs)/\xo k G vs as):=by
 have lo:∀p o q,LR k G H p o q->(∀as,o.rd=some (A.lst as)->∃vs,dm k.K H p vs/\bN k G vs as)/\(∀as,o.rd≠some (A.tup as))/\(∀as,o.rd=some (A.dic as)->∃vs,Rd H p (.dK vs)/\xo k G vs as):=by
  intro p o q h;cases h with
  |lst e r=>exact⟨λas z=>by cases z;exact⟨_,.inl (.inl e),r⟩,λas z=>(by cases z),λas z=>(by cases z)⟩
  |dic e r=>exact⟨λas z=>(by cases z),λas z=>(by cases z),λas z=>by cases z;exact⟨_,.inl e,r⟩⟩
  |obj e m r=>exact⟨λas z=>(by cases z),λas z=>(by cases z),λas z=>(by cases z)⟩
  |dit e r=>exact⟨λas z=>(by cases z),λas z=>(by cases z),λas z=>(by cases z)⟩
  |nob e m r l=>exact⟨λas z=>(by cases z),λas z=>(by cases z),λas z=>(by cases z)⟩
 cases h with
 |un=>exact⟨λ_ z=>(by cases z),λ_ z=>(by cases z),λ_ z=>(by cases z)⟩
 |fr h=>
  refine⟨λas z=>?_,λas z=>?_,λas z=>?_⟩
  .cases z;cases h with|lst e r=>exact⟨_,_,rfl,dN sm e,r⟩
  .cases z;cases h with|tup e r=>exact⟨_,_,rfl,e,r⟩
  .cases z;cases h with|dic e r=>exact⟨_,_,rfl,sm.O6 e,r⟩
 |cf h=>
  refine⟨λas z=>?_,λas z=>?_,λas z=>?_⟩
  .cases z;cases h with|lst e r=>exact⟨_,_,rfl,dN sm e,r⟩
  .cases z;cases h with|tup e r=>exact⟨_,_,rfl,e,r⟩
  .cases z;cases h with|dic e r=>exact⟨_,_,rfl,sm.O6 e,r⟩
 |lv h=>
  rename_i p o q;obtain⟨l1,l2,Y⟩:=lo p o q h;refine⟨λas z=>?_,λas z=>absurd z (l2 as),λas z=>?_⟩
  .obtain⟨vs,h1,h2⟩:=l1 as z;exact⟨p,vs,rfl,h1,h2⟩
  .obtain⟨vs,h1,h2⟩:=Y as z;exact⟨p,vs,rfl,h1,h2⟩
 |pv h=>
  rename_i p o q;obtain⟨l1,l2,Y⟩:=lo p o q h;refine⟨λas z=>?_,λas z=>absurd z (l2 as),λas z=>?_⟩
  .obtain⟨vs,h1,h2⟩:=l1 as z;exact⟨p,vs,rfl,h1,h2⟩
  .obtain⟨vs,h1,h2⟩:=Y as z;exact⟨p,vs,rfl,h1,h2⟩
def xQ(c:Cn)(H:Hp)(L:List Addr)(v:V)(a:A):Prop:=
  (∀as,a=.lst as->∃p vs,v=.ref p/\dm c.K H p vs/\bN c.toKx (c.g H L) vs as)/\(∀as,a=.tup as->∃p vs,v=.ref p/\gW c.K (c.g H L) p vs/\bN c.toKx (c.g H L) vs as) /\
  (∀as,a=.dic as->∃p vs,v=.ref p/\Rd H p (.dK vs)/\xo c.toKx (c.g H L) vs as)
theorem xQ.mono{v:V}{a:A}(h:xQ c H L v a)(s:∀a,a∈L'->a∈L):xQ c H L' v a:=by
 obtain⟨h1,h2,h3⟩:=h;refine⟨λas e=>?_,λas e=>?_,λas e=>?_⟩
 .obtain⟨p,vs,g,l,z⟩:=h1 as e;exact⟨p,vs,g,l,z.sm (dF s)⟩
 .obtain⟨p,vs,g,l,z⟩:=h2 as e;exact⟨p,vs,g,fL (dF s) l,z.sm (dF s)⟩
 .obtain⟨p,vs,g,l,z⟩:=h3 as e;exact⟨p,vs,g,l,z.sm (dF s)⟩
theorem xQ.of{L2:List Addr}{x:Option V}{v:V}{a:A}(ex:x=some v)(h:fD c.toKx (c.g H L) H x s L2)(O:s.a=some a):xQ c H L v a:=by
 subst ex;obtain⟨l1,l2,Y⟩:=h.items (g_same _ _ _);refine⟨λas z=>?_,λas z=>?_,λas z=>?_⟩<;>subst z
 .obtain⟨p,vs,q,h1,h2⟩:=l1 as O;exact⟨p,vs,Q9 q,h1,h2⟩
 .obtain⟨p,vs,q,h1,h2⟩:=l2 as O;exact⟨p,vs,Q9 q,h1,h2⟩
 .obtain⟨p,vs,q,h1,h2⟩:=Y as O;exact⟨p,vs,Q9 q,h1,h2⟩
theorem dZ.open{r:Rr}{v:V}{a:A}{u:List Addr}(b:dZ c Y H Z (cO r v B) (cM r θ) u)(y:VR Y r v)(e:res Z r=some a):∃L,(∀a,a∈L->a∈u)/\dZ c Y H Z B θ L/\xQ c H L v a:=by
 have q:∀s,dZ c Y H Z (some v::B) (s::θ) u->s.a=some a->∃L,(∀a,a∈L->a∈u)/\dZ c Y H Z B θ L/\xQ c H L v a:=by
  intro s b O;obtain⟨nd,rel,own,fr,kp,lt,E⟩:=b;have rel:ax c.toKx (c.g H u) H (some v::(B++Y)) (s::(θ++Z)) u:=rel;cases rel with
  |cons h r=>rename_i X L2;have sm:Sq (c.g H (X++L2)) (c.g H L2):=dF λa f=>QG _ f;exact⟨L2,λa f=>QG _ f,⟨(QQ.mp nd).2.1,r.sm sm (λ_ _ _ e=>e),λp hp=>own p (QG _ hp),fr,kp,by simpa using lt,E⟩,xQ.of rfl (h.sm sm (λ_ _ _ e=>e)) O⟩
 cases r with
 |rf i=>
  unfold res at e;cases es:Z[i]? with
  |none=>simp only[es] at e;cases e
  |some s=>simp only[es] at e;obtain⟨X,L2,e1,n,k⟩:=ax.split b.lt b.rel;obtain⟨x,_,_,_,hx,hs,_⟩:=k.at es;have y:Y[i]?=some (some v):=y;rw[y] at hx;exact⟨u,λ_ h=>h,b,xQ.of (Q9 hx).symm hs e⟩
 |fr a'=>exact q _ b e
 |nw o=>exact q _ b e
theorem Bd.open{r:Rr}{v:V}{a:A}(b:Bd c Y H Z (cO r v B) (cM r θ))(q:VR Y r v)(e:res Z r=some a):∃L,dZ c Y H Z B θ L/\xQ c H L v a:=by obtain⟨L,b⟩:=b;obtain⟨L',_,h⟩:=b.open q e;exact⟨L',h⟩
theorem Bd.Bi{r r':Rr}{v i:V}{a a':A}(b:Bd c Y H Z (cO r' i (cO r v B)) (cM r' (cM r θ)))(q:VR Y r v)(o:VR Y r' i)(e:res Z r=some a)(k:res Z r'=some a'):∃L,dZ c Y H Z B θ L/\xQ c H L v a/\xQ c H L i a':=by obtain⟨L,b⟩:=b;obtain⟨X,s1,b1,s⟩:=b.open o k;obtain⟨L2,s2,b2,I⟩:=b1.open q e;exact⟨L2,b2,I,s.mono s2⟩
end
variable{pos:Pos}{β:Type}{O:List Sl}{ma mb:Mi Rr}{Q:VK}{r:R2}{op:Yw}{mt:Mi Bool}{es:List Expr}
section
variable{X:Cx}{E:XK}
noncomputable def ab(i:Nat):Mi Rr:=λZ=>match Z[i]? with
 |some (.fr a)=>some (.ok (.fr a),Z)
 |some (.cf a)=>some (.ok (.fr a),Z)
 |some (.lv _)=>some (.ok (.rf i),Z)
 |some (.pv _)=>some (.ok (.rf i),Z)
 |_=>none
noncomputable def ai(i:Nat):Mi Rr:=λZ=>match Z[i]? with
 |some (.fr a)=>some (.ok (.fr a),Z)
 |some (.cf a)=>some (.ok (.fr a),Z)
 |some (.lv o)=>some (.ok (.fr o.a),Z.set i (.fr o.a))
 |_=>none
noncomputable def mC(a:A):Mi Rr:=λZ=>some (.ok (.fr a),Z)
theorem Km{x:Str}(hN:X.N[i]?=some x)(r:kq X.env.scope x)(hd:fC x)(R:k9 x):JE X E (.Name x pos) (ab i):=
 ⟨PE.weaken (bM hN r hd R) λY H Q h=>by
  obtain⟨c,Z,B,θ,o,O,e,b,em,q⟩:=h
  delta ab at em
  cases es:Z[i]? with
  |none=>rw[es] at em;cases em
  |some s=>
   cases s with
   |un=>rw[es] at em;cases em
   |fr a=>rw[es] at em;cases em;obtain⟨v,h1,h2⟩:=b.load es;exact⟨v,h1,q v H trivial h2⟩
   |cf a=>rw[es] at em;cases em;obtain⟨v,h1,h2⟩:=b.FA es;exact⟨v,h1,q v H trivial h2⟩
   |lv o=>rw[es] at em;cases em;obtain⟨p,h1⟩:=b.Fg (.inl es);exact⟨_,h1,q _ H h1 b⟩
   | pv o=>rw[es] at em;cases em;obtain⟨p,h1⟩:=b.Fg (.inr es);exact⟨_,h1,q _ H h1 b⟩⟩
theorem EJ{x:Str}(hN:X.N[i]?=some x)(r:kq X.env.scope x)(hd:fC x)(R:k9 x):JE X E (.Name x pos) (ai i):=
 ⟨PE.weaken (bM hN r hd R) λY H Q h=>by
  obtain⟨c,Z,B,θ,o,O,e,b,em,q⟩:=h
  delta ai at em
  cases es:Z[i]? with
  |none=>rw[es] at em;cases em
  |some s=>
   cases s with
   |un=>rw[es] at em;cases em
   |fr a=>rw[es] at em;cases em;obtain⟨v,h1,h2⟩:=b.load es;exact⟨v,h1,q v H trivial h2⟩
   |cf a=>rw[es] at em;cases em;obtain⟨v,h1,h2⟩:=b.FA es;exact⟨v,h1,q v H trivial h2⟩
   |lv o=>rw[es] at em;cases em;have b2:=b.ux es;have hi:=(QH.mp es).1;obtain⟨v,h1,h2⟩:=b2.load (Q0 hi);exact⟨v,h1,q v H trivial h2⟩
   | pv o=>rw[es] at em;cases em⟩
theorem AE{v:V}{a:A}(h:PE X e (tC v))(r:∀G,RA (kx X) G v a):JE X E e (mC a):=⟨PE.weaken h λY H Q h=>by obtain⟨c,Z,B,θ,o,O,x,b,em,q⟩:=h;cases em;exact q v H trivial (b.push (by rw[x];exact r))⟩
theorem JU{i j pos}:JE X E (.Constant (.int i) j pos) (mC (.int i)):=AE Ic λ_=>.int _
theorem Mh{b j pos}:JE X E (.Constant (.bool b) j pos) (mC (.bl b)):=AE Ni λ_=>.bl _
theorem He{j pos}:JE X E (.Constant .none j pos) (mC .non):=AE Hj λ_=>.non
theorem Ii{x j pos}:JE X E (.Constant (.str x) j pos) (mC (.str x)):=AE IH λ_=>.str _
theorem Cs{x:Str}{v:V}{u:Value}{a:A}(J:Gl X x)(hm:X.mg x=some u)(r:RelV v u)(b:∀G,RA (kx X) G v a)(hd:fC x):JE X E (.Name x pos) (mC a):=AE (uF J hm r hd) b
def az(f:A->A->Option Rr)(ma mb:Mi Rr):Mi Rr:=aS ma λx=>aS mb λy=>λZ=>match res Z x,res Z y with
 |some a,some b=>match f a b with
  |some r=>some (.ok r,Z)
  |none=>none
 |_,_=>none
def jc(K:Kx)(r:R2)(f:A->A->Option Rr):Prop:=∀(c:Cn)(Y:St)(H:Hp)(Z:List Sl)(B:St)(θ:List Sl)(x y:Rr)(v w:V)(a b:A)(q:Rr)(Q:VK),c.toKx=K->VR Y x v->VR Y y w->
 Bd c Y H Z (cO y w (cO x v B)) (cM y (cM x θ))->res Z x=some a->res Z y=some b->f a b=some q->(∀u H',VR Y q u->Bd c Y H' Z (cO q u B) (cM q θ)->Q u H')->r v w H Q
theorem bind_some{m:Mi α}{f:α->Mi β}{o:Except Str β}(h:aS m f Z=some (o,O)):(∃x U,m Z=some (.ok x,U)/\f x U=some (o,O))\/∃e,m Z=some (.error e,O)/\o=.error e:=by
 delta aS at h
 cases e:m Z with
 |none=>rw[e] at h;cases h
 |some p=>
  obtain⟨r,U⟩:=p;cases r with
  |ok x=>rw[e] at h;exact .inl ⟨x,U,rfl,h⟩
  |error x=>rw[e] at h;cases h;exact .inr ⟨x,rfl,rfl⟩
theorem bj{f:Rr->Mi β}{o:Except Str β}(p:c.toKx=kx X)(b:Bd c Y H Z B θ)(em:aS ma f Z=some (o,O))
  (h1:∀x v U i,VR Y x v->Bd c Y i U (cO x v B) (cM x θ)->f x U=some (o,O)->Q v i)
  (h2:∀e,o=.error e->∀C H,X.mg e=some (.ref C)->Bd c Y H O B θ->E (.ref C) none H):kN (kx X) E ma Y H Q:=by
 rcases bind_some em with ⟨x,U,e1,e2⟩|⟨e,e1,e2⟩
 .exact⟨c,Z,B,θ,_,U,p,b,e1,λv i r b1=>h1 x v U i r b1 e2⟩
 .exact⟨c,Z,B,θ,_,O,p,b,e1,λC i hm b1=>h2 e e2 C i hm b1⟩
theorem c6{x:Rr}{v:V}{o:Except Str β}(h:∀e,o=.error e->∀C H,X.mg e=some (.ref C)->Bd c Y H O B θ->E (.ref C) none H):
  ∀e,o=.error e->∀C H,X.mg e=some (.ref C)->Bd c Y H O (cO x v B) (cM x θ)->E (.ref C) none H:=λe u C H hm b=>h e u C H hm b.drop
theorem bQ{o:Except Str Rr}(q:Oh (kx X) E c Y O B θ Q o):∀e,o=.error e->∀C H,X.mg e=some (.ref C)->Bd c Y H O B θ->E (.ref C) none H:=λe u=>by subst u;exact q
theorem jt{o:Except Str Bool}{Q:Bool->Hp->Prop}(q:K4 (kx X) E c Y O B θ Q o):∀e,o=.error e->∀C H,X.mg e=some (.ref C)->Bd c Y H O B θ->E (.ref C) none H:=λe u=>by subst u;exact q
theorem xZ{o:Except Str (List Rr)}{Q:List V->Hp->Prop}(q:Nl (kx X) E c Y O B θ Q o):∀e,o=.error e->∀C H,X.mg e=some (.ref C)->Bd c Y H O B θ->E (.ref C) none H:=λe u=>by subst u;exact q
theorem vp{f:A->A->Option Rr}{x y:Rr}{o:Except Str Rr}(h:(match res Z x,res Z y with|some a,some b=>(match f a b with|some r=>some ((.ok r:Except Str Rr),Z)|none=>none)|_,_=>none)=some (o,O)):
  ∃a b r,res Z x=some a/\res Z y=some b/\f a b=some r/\o=.ok r/\O=Z:=by
 cases e1:res Z x with
 |none=>rw[e1] at h;cases h
 |some a=>
  cases e2:res Z y with
  |none=>rw[e1,e2] at h;cases h
  |some b=>
   rw[e1,e2] at h;cases N:f a b with
   |none=>simp only[N] at h;cases h
   |some r=>simp only[N] at h;cases h;exact⟨a,b,r,rfl,rfl,N,rfl,rfl⟩
theorem jH{f:A->A->Option Rr}(hf:jc (kx X) r f)(Y:St)(H:Hp)(Q:VK)(h:kN (kx X) E (az f ma mb) Y H Q):Hn r (kN (kx X) E ma) (kN (kx X) E mb) Y H Q:=by obtain⟨c,Z,B,θ,o,O,e,b,em,q⟩:=h;refine bj e b em (λx v U p j b1 P=>?_) (bQ q);refine bj e b1 P (λy w Z0 S s b2 i=>?_) (c6 (bQ q));obtain⟨a,d,r,e1,e2,N,rfl,rfl⟩:=vp i;exact hf c Y S _ B θ x y v w a d r Q e j s b2 e1 e2 N q
theorem lF{op:Zn}{f:A->A->Option Rr}{a b:Expr}(ho:iR X (Yj op) r)(hf:jc (kx X) r f)(V:JE X E a ma)(d:JE X E b mb):JE X E (.BinOp a op b pos) (az f ma mb):=
 ⟨PE.weaken (MP ho V.p d.p) (jH hf)⟩
theorem gh{f:A->A->Option Rr}{a b:Expr}(ho:iR X (X8 op) r)(hf:jc (kx X) r f)(V:JE X E a ma)(d:JE X E b mb)(hm:XY op b=false):JE X E (.Compare a [op] [b] pos) (az f ma mb):=
 ⟨PE.weaken (EK ho V.p d.p hm) (jH hf)⟩
noncomputable def P5:Rr->Option Bool
 | .fr (.bl b)=>some b
 |_=>none
def ag(m:Mi Rr):Mi Bool:=aS m λr Z=>match P5 r with
 |some b=>some (.ok b,Z)
 |none=>none
theorem ir{m:Mi Rr}(Y:St)(H:Hp)(Q:Bool->Hp->Prop)(h:CU (kx X) E (ag m) Y H Q):kN (kx X) E m Y H λx H'=>∃k,x=.bl k/\Q k H':=by
 obtain⟨c,Z,B,θ,o,O,e,b,em,q⟩:=h;refine bj e b em (λx v U p A b1 P=>?_) (jt q);cases x with
 |rf i=>cases P
 |nw o=>cases P
 |fr a=>
  cases a with
  |bl k=>cases P;have r:=Bd.top b1 rfl;cases r;exact⟨k,rfl,q p b1.pop⟩
  |_=>exact ke P
theorem gp{f:A->A->Option Rr}{a b:Expr}(ho:iR X (X8 op) r)(hf:jc (kx X) r f)(V:JE X E a ma)(d:JE X E b mb)(hm:XY op b=false):JT X E (.Compare a [op] [b] pos) (ag (az f ma mb)):=
 ⟨PT.weaken (uZ ho V.p d.p hm) λY H Q h=>jH hf Y H _ (ir Y H Q h)⟩
theorem GH{m:Mi Rr}(h:JE X E e m)(he:∀whole,Zd e X.env whole=(do let v <- whole;YB e.pos;holding [v] (truthy v)):=by intro _;rfl):JT X E e (ag m):=
 ⟨PT.weaken (Gz h.p he) λY H Q h=>ir Y H Q h⟩
def eW(m n:Mi Bool):Mi Bool:=aS m λb=>if b then n else mB false
def iT(m n:Mi Bool):Mi Bool:=aS m λb=>if b then mB true else n
def gr(m:Mi Bool):Mi Bool:=aS m λb=>mB (!b)
theorem jS{m:Mi Bool}{f:Bool->Mi β}{o:Except Str β}{Q:Bool->Hp->Prop}(v:c.toKx=kx X)(b:Bd c Y H Z B θ)(em:aS m f Z=some (o,O))
  (h1:∀k U p,Bd c Y p U B θ->f k U=some (o,O)->Q k p)
  (h2:∀e,o=.error e->∀C H,X.mg e=some (.ref C)->Bd c Y H O B θ->E (.ref C) none H):CU (kx X) E m Y H Q:=by
 rcases bind_some em with ⟨x,U,e1,e2⟩|⟨e,e1,e2⟩
 .exact⟨c,Z,B,θ,_,U,v,b,e1,λp b1=>h1 x U p b1 e2⟩
 .exact⟨c,Z,B,θ,_,O,v,b,e1,λC p hm b1=>h2 e e2 C p hm b1⟩
theorem HA{a:Expr}{m:Mi Bool}(h:JT X E a m):JT X E (.UnaryOp .Not a pos) (gr m):=⟨PT.weaken (J2 h.p) λY H Q h=>by obtain⟨c,Z,B,θ,o,O,e,b,em,q⟩:=h;refine jS e b em (λk U i b1 P=>?_) (jt q);cases P;exact q i b1⟩
theorem Eu{a:Expr}{m:Mi Bool}(h:JT X E a m):JW X E (.BoolOp .And [a] pos) m:=⟨D9 h.p⟩
theorem Kc{a:Expr}{m:Mi Bool}(h:JT X E a m):JW X E (.BoolOp .Or [a] pos) m:=⟨J1 h.p⟩
theorem JV{a b:Expr}{rest:List Expr}{m n:Mi Bool}(h:JT X E a m)(h':JW X E (.BoolOp .And (b::rest) pos) n):JW X E (.BoolOp .And (a::b::rest) pos) (eW m n):=⟨PW.weaken (Jv h.p h'.p) λY H Q h=>by
 obtain⟨c,Z,B,θ,o,O,e,b,em,q⟩:=h;refine jS e b em (λk U i b1 P=>?_) (jt q);cases k with
 |true=>rw[Zt rfl];exact⟨c,U,B,θ,o,O,e,b1,P,q⟩
 | false=>rw[Zu Z3];cases P;exact q i b1⟩
theorem KR{a b:Expr}{rest:List Expr}{m n:Mi Bool}(h:JT X E a m)(h':JW X E (.BoolOp .Or (b::rest) pos) n):JW X E (.BoolOp .Or (a::b::rest) pos) (iT m n):=⟨PW.weaken (Mo h.p h'.p) λY H Q h=>by
 obtain⟨c,Z,B,θ,o,O,e,b,em,q⟩:=h;refine jS e b em (λk U i b1 P=>?_) (jt q);cases k with
 |true=>rw[Zt rfl];cases P;exact q i b1
 | false=>rw[Zu Z3];exact⟨c,U,B,θ,o,O,e,b1,P,q⟩⟩
theorem K8{m:Mi Bool}(h:JW X E e m):JT X E e m:=⟨h.p.pt⟩
def mU(m n:Mi Rr):Mi Rr:=aS (ag m) λb=>if b then n else mC (.bl false)
def z9(m:Mi Rr):Mi Rr:=aS (ag m) λb=>mC (.bl (!b))
theorem vB{m:Mi Rr}{f:Bool->Mi β}{o:Except Str β}{Q:Bool->Hp->Prop}(v:c.toKx=kx X)(b:Bd c Y H Z B θ)(em:aS (ag m) f Z=some (o,O))
  (h1:∀k U i,Bd c Y i U B θ->f k U=some (o,O)->Q k i)
  (h2:∀e,o=.error e->∀C H,X.mg e=some (.ref C)->Bd c Y H O B θ->E (.ref C) none H):kN (kx X) E m Y H λx H'=>∃k,x=.bl k/\Q k H':=
 ir Y H Q (jS v b em h1 h2)
theorem Hr{op}{a:Expr}{m:Mi Rr}(h:JE X E a m):JE X E (.BoolOp op [a] pos) m:=⟨HI h.p⟩
theorem IA{a b:Expr}{rest:List Expr}{m n:Mi Rr}(h:JE X E a m)(h':JE X E (.BoolOp .And (b::rest) pos) n):JE X E (.BoolOp .And (a::b::rest) pos) (mU m n):=⟨PE.weaken (HS h.p h'.p) λY H Q h=>by
 obtain⟨c,Z,B,θ,o,O,e,b,em,q⟩:=h;refine vB e b em (λk U i b1 P=>?_) (bQ q);cases k with
 |true=>rw[Zt rfl];exact⟨c,U,B,θ,o,O,e,b1,P,q⟩
 | false=>rw[Zu Z3];cases P;exact q (.bl false) i trivial (b1.push λ_=>.bl _)⟩
theorem Ju{a:Expr}{m:Mi Rr}(h:JE X E a m):JE X E (.UnaryOp .Not a pos) (z9 m):=⟨PE.weaken (GK h.p) λY H Q h=>by obtain⟨c,Z,B,θ,o,O,e,b,em,q⟩:=h;refine vB e b em (λk U i b1 P=>?_) (bQ q);cases P;exact q (.bl (!k)) i trivial (b1.push λ_=>.bl _)⟩
def Ma(t:Mi Bool)(m n:Mi Rr):Mi Rr:=aS t λb=>if b then m else n
theorem MN{t a b:Expr}{m n:Mi Rr}(l:JT X E t mt)(f:JE X E a m)(d:JE X E b n):JE X E (.IfExp t a b pos) (Ma mt m n):=⟨PE.weaken (zV l.p f.p d.p) λY H Q h=>by
 obtain⟨c,Z,B,θ,o,O,e,b,em,q⟩:=h;refine jS e b em (λk U i b1 P=>?_) (bQ q);cases k with
 |true=>rw[Zt rfl];exact⟨c,U,B,θ,o,O,e,b1,P,q⟩
 | false=>rw[Zu Z3];exact⟨c,U,B,θ,o,O,e,b1,P,q⟩⟩
def nh:Mi (List Rr):=mB []
def c7(m:Mi Rr)(n:Mi (List Rr)):Mi (List Rr):=aS m λr=>aS n λrs=>mB (r::rs)
theorem yL:JA X E [] nh:=⟨PA.weaken cu λY H Q h=>by obtain⟨c,Z,B,θ,o,O,e,b,em,q⟩:=h;cases em;exact q [] H trivial b⟩
theorem uD{m:Mi Rr}{n:Mi (List Rr)}(h:JE X E e m)(h':JA X E es n)(hs:XG (e::es) X.env=(false,eval e X.env)::XG es X.env:=by rfl):JA X E (e::es) (c7 m n):=⟨PA.weaken (aX h.p h'.p hs) λY H Q h=>by
 obtain⟨c,Z,B,θ,o,O,ek,b,em,q⟩:=h;refine bj ek b em (λx v U H1 hv b1 em1=>?_) (xZ q);rcases bind_some em1 with ⟨rs,Z0,e1,e2⟩|⟨e,e1,e2⟩
 .cases e2;exact⟨c,U,_,_,_,O,ek,b1,e1,λvs H2 hvs b2=>q (v::vs) H2 ⟨hv,hvs⟩ b2⟩
 .subst e2;exact⟨c,U,_,_,_,O,ek,b1,e1,λC H2 hm b2=>q C H2 hm b2.drop⟩⟩
end
variable{xs:St}{ss:List Sl}{rs:List Rr}
section
variable{c:Cn}{Y:St}{H:Hp}{Z:List Sl}{B:St}{θ:List Sl}
theorem yP{l:List α}{x:α}(h:l[i]?=some x):l.set i x=l:=by
 apply Sk;intro j;by_cases z:j=i
 .subst z;rw[Q0 (QH.mp h).1,h]
 .rw[Rb (RH z)]
theorem Di(h:∀a,a∈L↔a∈L'):c.g H L=c.g H L':=by
 funext a
 by_cases z:a∈L\/a∈c.Hd
 .rw[gJ z,gJ (by rwa[<-h a])]
 .rw[bE (λy=>z (.inl y)) (λy=>z (.inr y)),bE (λy=>z (.inl ((h a).mpr y))) (λy=>z (.inr y))]
theorem dZ.perm(b:dZ c Y H Z B θ L){J:St}{T:List Sl}(pm:L'.Perm L)(lt:J.length=T.length)(r:ax c.toKx (c.g H L) H (J++Y) (T++O) L')(kp:fq c.σ0 Y O):dZ c Y H O J T L':=
 ⟨(pm.nodup_iff).mpr b.nd,by rw[Di (L':=L) λa=>pm.mem_iff];exact r,λp hp=>b.own p (pm.mem_iff.mp hp),b.fr,kp,lt,b.hd⟩
theorem Bd.Ng{v:V}(e:xs.length=ss.length)(b:Bd c Y H Z (xs++some v::B) (ss++.lv o::θ)):Bd c Y H Z (xs++some v::B) (ss++.fr o.a::θ):=by
 obtain⟨L,b⟩:=b;have r:ax c.toKx (c.g H L) H (xs++(some v::(B++Y))) (ss++(.lv o::(θ++Z))) L:=by have:=b.rel;simpa[QJ] using this
 obtain⟨X,L2,e1,n,k⟩:=ax.split e r;cases k with
 |cons h Q=>
  rename_i y x;cases h with
  |lv h=>
   rename_i p q;have nd:=b.nd;rw[e1,<-QJ] at nd;obtain⟨A,hp⟩:=i9 nd;have sub:∀a,a∈X++x->a∈L:=λa f=>by rw[e1];simp at f ⊢;rcases f with z|z<;>simp[z]
   have sm:Sq (c.g H L) (c.g H (X++x)):=dF sub;refine⟨X++x,A,?_,λq F=>b.own q (sub q F),b.fr,b.kp,by have:=b.lt;simp at this ⊢;exact id ‹_›,b.hd⟩;have:=(n.sm sm (λ_ _ _ e=>e)).app (ax.cons (L:=[]) (.fr (h.a' sm λa f u e=>by rw[bE (hp a f) (b.xV (by rw[e1];exact QG _ (QI _ f)))];exact e)) (Q.sm sm (λ_ _ _ e=>e)));simpa[QJ] using this
theorem Bd.Hs{v:V}{a:A}(e:xs.length=ss.length)(b:Bd c Y H Z (xs++B) (ss++θ))(q:Y[i]?=some (some v))(hs:Z[i]?=some (.fr a)):Bd c Y H Z (xs++some v::B) (ss++.fr a::θ):=by
 obtain⟨L,b⟩:=b;obtain⟨M1,y,_,_,k⟩:=ax.split b.lt b.rel;obtain⟨x,_,_,_,hx,o,_⟩:=k.at hs;rw[q] at hx;cases hx;cases o with
 |fr h=>
  have r:ax c.toKx (c.g H L) H (xs++(B++Y)) (ss++(θ++Z)) L:=by have:=b.rel;simpa[QJ] using this
  obtain⟨X,L2,e1,n,k⟩:=ax.split e r;refine⟨L,b.nd,?_,b.own,b.fr,b.kp,by have:=b.lt;simp at this ⊢;lia,b.hd⟩;have:=n.app (ax.cons (L:=[]) (.fr h) k);rw[e1] at this ⊢;simpa[QJ] using this
theorem yj(X L2 M1 C q:List Addr):(X++(q++(L2++(M1++C)))).Perm (X++(L2++(M1++(q++C)))):=by rw[SO];intro a;simp only[SY];lia
theorem Bd.IK{v:V}(e:xs.length=ss.length)(b:Bd c Y H Z (xs++B) (ss++θ))(A:Y[i]?=some (some v))(hs:Z[i]?=some s)(hk:s=.lv o\/s=.pv o):
  Bd c Y H (Z.set i .un) (xs++some v::B) (ss++.lv o::θ):=by
 obtain⟨L,b⟩:=b;have r:ax c.toKx (c.g H L) H (xs++(B++Y)) (ss++(θ++Z)) L:=by have:=b.rel;simpa[QJ] using this
 obtain⟨X,L2,e1,n,k⟩:=ax.split e r;obtain⟨D,G,e2,Q,I⟩:=ax.split (by have:=b.lt;simp at this;lia) k;obtain⟨x,M1,J,C,hx,w,N,ins⟩:=I.at hs;rw[A] at hx;cases hx;have fin:∀p q,v=.ref p->J=p::q->LR c.toKx (c.g H L) H p o q->Bd c Y H (Z.set i .un) (xs++some v::B) (ss++.lv o::θ):=by
  intro p q j em h;subst j em;have E:=ins (y:=some (.ref p)) (t:=.un) (L':=[]) (Sq.refl _) (λ_ _ _ e=>e) (.un _);rw[yP A] at E;have F:=n.app (ax.cons (fD.lv h) (Q.app E));have pm:(X++((p::q)++(D++(M1++[]++C)))).Perm L:=by rw[e1,e2,N];simpa using yj X D M1 C (p::q)
  exact⟨_,b.perm pm (by have:=b.lt;simp at this ⊢;lia) (by simpa[QJ] using F) (b.kp.D4 (λz=>by cases z))⟩
 rcases hk with rfl|rfl
 .cases w with|lv h=>exact fin _ _ rfl rfl h
 .cases w with|pv h=>exact fin _ _ rfl rfl h
theorem Bd.putBack{v:V}{t:Sl}(b:Bd c Y H Z (some v::B) (.lv o::θ))(A:Y[i]?=some (some v))(hs:Z[i]?=some .un)(hk:t=.lv o\/(t=.pv o/\Y[i]?=c.σ0[i]?)):Bd c Y H (Z.set i t) B θ:=by
 obtain⟨L,b⟩:=b;have r:ax c.toKx (c.g H L) H (some v::(B++Y)) (.lv o::(θ++Z)) L:=b.rel;cases r with
 |cons h r=>
  rename_i u L';obtain⟨X,L2,e1,n,k⟩:=ax.split (by have:=b.lt;simpa using this) r;obtain⟨x,M1,y,C,hx,s,N,ins⟩:=k.at hs;cases s with
  |un=>
   cases h with
   |lv h=>
    rename_i p q;have fin:fD c.toKx (c.g H ((p::q)++L')) H (some (.ref p)) t (p::q)->fq c.σ0 Y (Z.set i t)->Bd c Y H (Z.set i t) B θ:=λh kp=>by
     have E:=ins (Sq.refl _) (λ_ _ _ e=>e) h;rw[yP A] at E;have pm:(X++(M1++(p::q)++C)).Perm ((p::q)++L'):=by rw[e1,N];rw[SO];intro a;simp only[SY,List.count_cons,List.count_nil];lia
     exact⟨_,b.perm pm (by have:=b.lt;simpa using this) (n.app E) kp⟩
    rcases hk with rfl|⟨rfl,hk⟩
    .exact fin (.lv h) (b.kp.D4 (λz=>by cases z))
    .refine fin (.pv h) λj o' q w=>?_;by_cases z:j=i
     .subst z;exact hk
     .rw[Rb (RH z)] at q;exact b.kp j o' q w
theorem dS:∀(rs:List Rr)(vs:List V)(B:St),dq rs vs B=dq rs vs []++B
 |[],_,B=>rfl
 |r::rs,[],B=>rfl
 |r::rs,v::vs,B=>by show dq rs vs (cO r v B)=dq rs vs (cO r v [])++B;rw[dS rs vs (cO r v B),dS rs vs (cO r v []),QJ];cases r<;>rfl
theorem dM:∀(rs:List Rr)(θ:List Sl),du rs θ=du rs []++θ
 |[],θ=>rfl
 |r::rs,θ=>by show du rs (cM r θ)=du rs (cM r [])++θ;rw[dM rs (cM r θ),dM rs (cM r []),QJ];cases r<;>rfl
theorem md.len:∀{rs:List Rr}{vs:List V},md Y rs vs->rs.length=vs.length
 |[],[],_=>rfl
 |_::rs,_::vs,h=>by rw[QU,QU,md.len h.2]
 |[],_::_,h=>h.elim
 |_::_,[],h=>h.elim
theorem pZ:∀(rs:List Rr)(vs:List V),rs.length=vs.length->(dq rs vs []).length=(du rs []).length
 |[],[],_=>rfl
 |r::rs,v::vs,h=>by show (dq rs vs (cO r v [])).length=(du rs (cM r [])).length;rw[dS,dM,Q2,Q2,pZ rs vs (by simpa using h)];cases r<;>rfl
 |[],_::_,h=>by simp at h
 |_::_,[],h=>by simp at h
noncomputable def bR:Rr->List Sl->Option (A×List Sl)
 | .fr a,Z=>some (a,Z)
 | .nw o,Z=>some (o.a,Z)
 | .rf i,Z=>match Z[i]? with
  |some (.lv o)=>some (o.a,Z.set i (.fr o.a))
  |some (.fr a)=>some (a,Z)
  |_=>none
def dP:List Rr->List Sl->Option (List A×List Sl)
 |[],Z=>some ([],Z)
 |r::rs,Z=>match bR r Z with
  |some (a,U)=>match dP rs U with
   |some (as,Z0)=>some (a::as,Z0)
   |none=>none
  |none=>none
theorem Bd.bR{r:Rr}{v:V}{a:A}{O:List Sl}{xs:St}{ss:List Sl}(e:xs.length=ss.length)(b:Bd c Y H Z (xs++cO r v B) (ss++cM r θ))(q:VR Y r v)(h:bR r Z=some (a,O)):Bd c Y H O (xs++some v::B) (ss++.fr a::θ):=by
 cases r with
 |fr a'=>cases h;exact b
 |nw o=>cases h;exact Bd.Ng e b
 |rf i=>
  delta M.bR at h
  cases es:Z[i]? with
  |none=>simp only[es] at h;cases h
  |some s=>
   cases s with
   |un=>simp only[es] at h;cases h
   |pv o=>simp only[es] at h;cases h
   |cf o=>simp only[es] at h;cases h
   |fr a'=>simp only[es] at h;cases h;exact Bd.Hs e b q es
   |lv o=>simp only[es] at h;cases h;have b2:=Bd.ux b es;exact Bd.Hs e b2 q (Q0 (QH.mp es).1)
theorem wk{r:Rr}{as:List A}(h:dP (r::rs) Z=some (as,O)):∃a H U,bR r Z=some (a,U)/\dP rs U=some (H,O)/\as=a::H:=by
 unfold dP at h;cases e1:bR r Z with
 |none=>rw[e1] at h;cases h
 |some p=>
  obtain⟨a,U⟩:=p;rw[e1] at h;cases e2:dP rs U with
  |none=>simp only[e2] at h;cases h
  |some q=>obtain⟨H,Z0⟩:=q;simp only[e2] at h;cases h;exact⟨a,H,U,rfl,e2,rfl⟩
theorem Bd.dP:∀{rs:List Rr}{vs:List V}{as:List A}{Z O:List Sl}{B:St}{θ:List Sl},md Y rs vs->Bd c Y H Z (dq rs vs B) (du rs θ)->dP rs Z=some (as,O)->Bd c Y H O (vs.reverse.map some++B) (as.reverse.map Sl.fr++θ)/\vs.length=as.length
 |[],[],_,_,_,_,_,_,b,h=>by cases h;exact⟨b,rfl⟩
 |r::rs,v::vs,_,Z,O,B,θ,hv,b,h=>by obtain⟨a,as,U,e1,e2,rfl⟩:=wk h;have b:Bd c Y H Z (dq rs vs (cO r v B)) (du rs (cM r θ)):=b;rw[dS,dM] at b;have b1:=Bd.bR (pZ rs vs (md.len hv.2)) b hv.1 e1;rw[<-dS rs vs (some v::B),<-dM rs (.fr a::θ)] at b1;obtain ⟨b2,N⟩:=Bd.dP hv.2 b1 e2;exact ⟨by simpa using b2,by simp [N]⟩
 |[],_ :: _,_,_,_,_,_,h,_,_=>h.elim
 |_ :: _,[],_,_,_,_,_,h,_,_=>h.elim
end
section
variable{X:Cx}{E:XK}
theorem uB{m:Mi (List Rr)}{f:List Rr->Mi β}{o:Except Str β}{Q:List V->Hp->Prop}(v:c.toKx=kx X)(b:Bd c Y H Z B θ)(em:aS m f Z=some (o,O))
  (h1:∀rs vs U i,md Y rs vs->Bd c Y i U (dq rs vs B) (du rs θ)->f rs U=some (o,O)->Q vs i)
  (h2:∀e,o=.error e->∀C H,X.mg e=some (.ref C)->Bd c Y H O B θ->E (.ref C) none H):M7 (kx X) E m Y H Q:=by
 rcases bind_some em with ⟨x,U,e1,e2⟩|⟨e,e1,e2⟩
 .exact⟨c,Z,B,θ,_,U,v,b,e1,λvs i q b1=>h1 x vs U i q b1 e2⟩
 .exact⟨c,Z,B,θ,_,O,v,b,e1,λC i hm b1=>h2 e e2 C i hm b1⟩
def fQ(m:Mi (List Rr)):Mi Rr:=aS m λrs Z=>match dP rs Z with
 |some (as,O)=>if as.length<=1000 then some (.ok (.fr (.tup as)),O) else none
 |none=>none
def dj(m:Mi (List Rr)):Mi Rr:=aS m λrs Z=>match dP rs Z with
 |some (as,O)=>if as.length<=1000 then some (.ok (.nw (.lst as)),O) else none
 |none=>none
theorem uu{k:Kx}{as:List A}:∀G,bN k G vs.reverse as.reverse->bN k G vs as:=λG h=>by have:=h.rev;simpa using this
theorem sy:1000<=sizeLine:=by rw[Yd];decide
theorem G5{m:Mi (List Rr)}{x1 pos}(h:JA X E es m):JE X E (.Tuple es x1 pos) (fQ m):=⟨PE.weaken (GU h.p) λY H Q h=>by
 obtain⟨c,Z,B,θ,o,O,e,b,em,q⟩:=h;refine uB e b em (λrs vs U i r b1 P=>?_) (bQ q);cases e1:dP rs U with
 |none=>rw[e1] at P;cases P
 |some p=>
  obtain⟨as,Z0⟩:=p;simp only[e1] at P;obtain⟨b2,e2⟩:=Bd.dP r b1 e1;split at P
  .rename_i hl;cases P;exact⟨by have:=sy;lia,λp hp=>q (.ref p) _ trivial (Bd.Jl b2 (by simp[e2]) hp vs as uu)⟩
  .cases P⟩
theorem IX{m:Mi (List Rr)}{pos}(h:JA X E es m):JE X E (.List es pos) (dj m):=⟨PE.weaken (Hb h.p) λY H Q h=>by
 obtain⟨c,Z,B,θ,o,O,e,b,em,q⟩:=h;refine uB e b em (λrs vs U i r b1 P=>?_) (bQ q);cases e1:dP rs U with
 |none=>rw[e1] at P;cases P
 |some p=>
  obtain⟨as,Z0⟩:=p;simp only[e1] at P;obtain⟨b2,e2⟩:=Bd.dP r b1 e1;split at P
  .rename_i hl;cases P;exact⟨by have:=sy;lia,λp hp=>q (.ref p) _ trivial (Bd.A6 b2 (by simp[e2]) hp vs as uu)⟩
  .cases P⟩
end
inductive Fl where
 |nx|rt(s:Sl)|bk|ct|ex(c:Str)
noncomputable abbrev Ms:=List Sl->Option (Fl×List Sl)
noncomputable def aA:Nat->List Sl->List Sl
 |0,_=>[]
 |n+1,[]=>.un::aA n []
 |n+1,.pv o::Z=>.pv o::aA n Z
 |n+1,_::Z=>.un::aA n Z
def jb(K:Kx)(n:Nat)(m:Ms):Sp:=λvs H Q E=>vs.length=n/\∃(c:Cn)(Z:List Sl)(f:Fl)(O:List Sl),c.toKx=K/\c.σ0=vs.map some/\c.H0=H/\dZ c (vs.map some) H Z [] [] c.Lp/\m Z=some (f,O) /\
  (match f with
   | .rt s=>∀v H',(∀o,s≠.pv o)->Bd c (vs.map some) H' (aA vs.length O) [some v] [s]->Q v H'
   | .ex x=>∀C H',K.mg x=some (.ref C)->Bd c (vs.map some) H' (aA vs.length O) [] []->E (.ref C) none H'
   | _=>False)
section
variable{k:Kx}{G H:Hp}
theorem ax.back:∀{σ0 Y:St}{Z:List Sl}{L:List Addr},ax k G H Y Z L->(∀(i:Nat)(o:LO),Z[i]?=some (.pv o)->i<σ0.length->Y[i]?=σ0[i]?)->∃L',L'.Sublist L/\ax k G H σ0 (aA σ0.length Z) L'
 |[],_,_,_,_,_=>⟨[],List.nil_sublist _,.nil⟩
 |x::σ0,_,_,_,.nil,h=>by obtain⟨L',s,r⟩:=ax.back .nil (λi o e=>by simp at e);exact⟨L',s,ax.cons (.un x) r⟩
 |x::σ0,_,_,_,.cons (x:=y) (s:=s) (Z:=U) (L:=L1) (L':=L2) hs r,h=>by
  obtain⟨L',sl,r'⟩:=ax.back r (λi o e hi=>by have:=h (i+1) o e (by simpa using hi);simpa using this);have fin:aA (x::σ0).length (s::U)=.un::aA σ0.length U->∃L',L'.Sublist (L1++L2)/\ax k G H (x::σ0) (aA (x::σ0).length (s::U)) L':=λe=>by rw[e];exact⟨L',sl.trans (Tz _ _),ax.cons (.un x) r'⟩
  cases s with
  |un=>exact fin rfl
  |fr a=>exact fin rfl
  |lv o=>exact fin rfl
  |cf o=>exact fin rfl
  |pv o=>
   have e:=h 0 o rfl Z5;have e:y=x:=by simpa using e
   subst e;exact⟨L1++L',S4 (Tf _) sl,ax.cons hs r'⟩
end
variable{as:List Sl}
section
variable{c:Cn}{Y:St}{H:Hp}{Z:List Sl}{B:St}{θ:List Sl}
theorem Bd.back(b:Bd c Y H Z B θ):Bd c c.σ0 H (aA c.σ0.length Z) B θ:=by
 obtain⟨L,b⟩:=b;obtain⟨X,L2,e1,n,k⟩:=ax.split b.lt b.rel;obtain⟨L',sl,r⟩:=k.back (σ0:=c.σ0) (λi o e _=>b.kp i _ e rfl);have h:(X++L').Sublist L:=by rw[e1];exact S4 (Tf _) sl
 have sm:Sq (c.g H L) (c.g H (X++L')):=dF λa f=>h.subset f;exact⟨X++L',b.nd.sublist h,(n.app r).sm sm (λ_ _ _ e=>e),λp hp=>b.own p (h.subset hp),b.fr,λi o _ _=>rfl,b.lt,b.hd⟩
noncomputable def take1:Rr->List Sl->Option (Sl×List Sl)
 | .fr a,Z=>some (.fr a,Z)
 | .nw o,Z=>some (.fr o.a,Z)
 | .rf i,Z=>match Z[i]? with
  |some (.lv o)=>some (.lv o,Z.set i .un)
  |some (.pv o)=>some (.lv o,Z.set i .un)
  |some (.fr a)=>some (.fr a,Z)
  |_=>none
def cw:List Rr->List Sl->Option (List Sl×List Sl)
 |[],Z=>some ([],Z)
 |r::rs,Z=>match take1 r Z with
  |some (a,U)=>match cw rs U with
   |some (as,Z0)=>some (a::as,Z0)
   |none=>none
  |none=>none
noncomputable def rF:Sl->Sl
 | .lv o=>.pv o
 |s=>s
theorem sY{r:Rr}(h:cw (r::rs) Z=some (as,O)):∃a H U,take1 r Z=some (a,U)/\cw rs U=some (H,O)/\as=a::H:=by
 unfold cw at h;cases e1:take1 r Z with
 |none=>rw[e1] at h;cases h
 |some p=>
  obtain⟨a,U⟩:=p;rw[e1] at h;cases e2:cw rs U with
  |none=>simp only[e2] at h;cases h
  |some q=>obtain⟨H,Z0⟩:=q;simp only[e2] at h;cases h;exact⟨a,H,U,rfl,e2,rfl⟩
theorem Bd.take1{r:Rr}{v:V}{a:Sl}{O:List Sl}{xs:St}{ss:List Sl}(e:xs.length=ss.length)(b:Bd c Y H Z (xs++cO r v B) (ss++cM r θ))(q:VR Y r v)(h:take1 r Z=some (a,O)):Bd c Y H O (xs++some v::B) (ss++a::θ):=by
 cases r with
 |fr a'=>cases h;exact b
 |nw o=>cases h;exact Bd.Ng e b
 |rf i=>
  delta M.take1 at h
  cases es:Z[i]? with
  |none=>simp only[es] at h;cases h
  |some s=>
   cases s with
   |un=>simp only[es] at h;cases h
   |fr a'=>simp only[es] at h;cases h;exact Bd.Hs e b q es
   |lv o=>simp only[es] at h;cases h;exact Bd.IK e b q es (.inl rfl)
   |pv o=>simp only[es] at h;cases h;exact Bd.IK e b q es (.inr rfl)
   |cf o=>simp only[es] at h;cases h
theorem Bd.cw:∀{rs:List Rr}{vs:List V}{as:List Sl}{Z O:List Sl}{B:St}{θ:List Sl},md Y rs vs->Bd c Y H Z (dq rs vs B) (du rs θ)->cw rs Z=some (as,O)->Bd c Y H O (vs.reverse.map some++B) (as.reverse++θ)/\vs.length=as.length
 |[],[],_,_,_,_,_,_,b,h=>by cases h;exact⟨b,rfl⟩
 |r::rs,v::vs,_,Z,O,B,θ,hv,b,h=>by obtain⟨a,as,U,e1,e2,rfl⟩:=sY h;have b:Bd c Y H Z (dq rs vs (cO r v B)) (du rs (cM r θ)):=b;rw[dS,dM] at b;have b1:=Bd.take1 (pZ rs vs (md.len hv.2)) b hv.1 e1;rw[<-dS rs vs (some v::B),<-dM rs (a::θ)] at b1;obtain⟨b2,N⟩:=Bd.cw hv.2 b1 e2;exact⟨by simpa using b2,by simp[N]⟩
 |[],_::_,_,_,_,_,_,h,_,_=>h.elim
 |_::_,[],_,_,_,_,_,h,_,_=>h.elim
noncomputable def rq(S:List Sl):Rr->Sl->List Sl->Option (List Sl)
 | .rf i,s,Z=>match S[i]?,s,Z[i]? with
  |some (.lv _),.pv o,some .un=>some (Z.set i (.lv o))
  |some (.pv _),.pv o,some .un=>some (Z.set i (.pv o))
  |some (.fr _),_,_=>some Z
  |_,_,_=>none
 |_,_,Z=>some Z
def putL(S:List Sl):List Rr->List Sl->List Sl->Option (List Sl)
 |r::rs,s::ss,Z=>match putL S rs ss Z with
  |some U=>rq S r s U
  |none=>none
 |[],[],Z=>some Z
 |_,_,_=>none
end
section
variable{k:Kx}{G H:Hp}
theorem ax.Hf:∀{Y:St}{Z:List Sl}{L:List Addr},ax k G H Y Z L->∃L',L'.Perm L/\ax k G H Y.reverse Z.reverse L'
 |_,_,_,.nil=>⟨[],.refl _,.nil⟩
 |_,_,_,.cons (L:=L1) h r=>by obtain⟨L',pm,r'⟩:=ax.Hf r;refine⟨L'++(L1++[]),?_,by rw[TF,TF];exact r'.app (ax.cons h .nil)⟩;rw[RK];exact(pm.append_right L1).trans Tc
theorem ax.zm:∀{Y:St}{Z:List Sl}{L:List Addr},ax k G H Y Z L->∀p∈L,∀ob vs,H p=some (.frz ob vs)->False
 |_,_,_,.nil,p,hp,_,_,_=>by cases hp
 |_,_,_,.cons h r,p,hp,ob,vs,e=>by
  rcases QP.mp hp with z|z
  .cases h with
   |un=>cases z
   |fr=>cases z
   |cf=>cases z
   |lv h=>exact h.nf p z _ _ e
   |pv h=>exact h.nf p z _ _ e
  .exact r.zm p z ob vs e
theorem ax.rF:∀{Y:St}{Z:List Sl}{L:List Addr},ax k G H Y Z L->ax k G H Y (Z.map rF) L
 |_,_,_,.nil=>.nil
 |_,_,_,.cons h r=>by
  refine ax.cons ?_ (ax.rF r);cases h with
  |un=>exact .un _
  |fr h=>exact .fr h
  |cf h=>exact .cf h
  |lv h=>exact .pv h
  |pv h=>exact .pv h
noncomputable def yU:Sl->Sl
 | .pv o=>.lv o
 |s=>s
theorem ax.yU:∀{Y:St}{Z:List Sl}{L:List Addr},ax k G H Y Z L->ax k G H Y (Z.map yU) L
 |_,_,_,.nil=>.nil
 |_,_,_,.cons h r=>by
  refine ax.cons ?_ (ax.yU r);cases h with
  |un=>exact .un _
  |fr h=>exact .fr h
  |cf h=>exact .cf h
  |lv h=>exact .lv h
  |pv h=>exact .lv h
end
section
variable{c:Cn}{Y:St}{H:Hp}{Z:List Sl}{B:St}{θ:List Sl}
theorem Bd.enter(e:vs.length=as.length)(b:Bd c Y H Z (vs.reverse.map some++B) (as.reverse++θ)):
  ∃D:Cn,D.toKx=c.toKx/\D.σ0=vs.map some/\D.H0=H/\dZ D (vs.map some) H (as.map rF) [] [] D.Lp /\
   ∀(H':Hp)(O:List Sl)(J:St)(T:List Sl),(∀s∈T,∀o,s≠.pv o)->O.length=vs.length->Bd D (vs.map some) H' O J T->Bd c Y H' Z (vs.reverse.map some++(J++B)) ((O.map yU).reverse++(T++θ)):=by
 obtain⟨L,b⟩:=b;have r:ax c.toKx (c.g H L) H (vs.reverse.map some++(B++Y)) (as.reverse++(θ++Z)) L:=by have:=b.rel;simpa[QJ] using this
 obtain⟨La,x,e1,f,k⟩:=ax.split (by simp[e]) r;obtain⟨Lp,pm,l⟩:=f.Hf;have l:ax c.toKx (c.g H L) H (vs.map some) as Lp:=by simpa[<-Wd] using l
 have G:∀a,a∈Lp++(x++c.Hd)↔a∈L++c.Hd:=λa=>by
  rw[e1,QP,QP,QP,QP,pm.mem_iff];constructor
  .rintro(h|h|h)
   .exact .inl (.inl h)
   .exact .inl (.inr h)
   .exact .inr h
  .rintro((h|h)|h)
   .exact .inl h
   .exact .inr (.inl h)
   .exact .inr (.inr h)
 have nd:=b.nd;rw[e1] at nd;obtain⟨d,n2,C⟩:=QQ.mp nd
 let D:Cn:={ toKx:=c.toKx,σ0:=vs.map some,H0:=H,Lp:=Lp,Hd:=x++c.Hd,Wk:=[] }
 have S:∀U X L2,(∀a,a∈X++(x++c.Hd)↔a∈L2++c.Hd)->D.g U X=c.g U L2:=λU X L2 hm=>by
  funext a
  show (if a∈X++(x++c.Hd) then none else U a)=(if a∈L2++c.Hd then none else U a)
  by_cases z:a∈X++(x++c.Hd)
  .rw[Zt z,Zt ((hm a).mp z)]
  .rw[Zu z,Zu λy=>z ((hm a).mpr y)]
 refine⟨D,rfl,rfl,rfl,⟨(pm.nodup_iff).mpr d,?_,λp hp=>.inl hp,⟨λq o h=>⟨o,h,λ_ _=>rfl⟩,λq V=>by cases V⟩,λi o _ _=>rfl,rfl,λp hp=>?_⟩,?_⟩
 .show ax c.toKx (D.g H Lp) H (vs.map some) (as.map rF) Lp;rw[S H Lp L G];exact l.rF
 .rcases QP.mp hp with z|z
  .exact⟨k.is p z,λy=>C p (pm.mem_iff.mp y) p z rfl⟩
  .refine⟨?_,λy=>b.xV (by rw[e1];exact QI _ (pm.mem_iff.mp y)) z⟩;obtain⟨⟨u,h1⟩,h2⟩:=b.hd p z;obtain⟨A,h3,_⟩:=b.fr.st p u h1;exact⟨A,h3⟩
 .intro H' O J T hθ hl I;obtain⟨L',I⟩:=I;obtain⟨Lt,Ls,e2,q1,q2⟩:=ax.split I.lt I.rel;obtain⟨j,m,q3⟩:=q2.yU.Hf;have lt':B.length=θ.length:=by have:=b.lt;simp[e] at this;exact id ‹_›
  obtain⟨Lτ,Lσ,e3,s1,s2⟩:=ax.split lt' k;have Q:∀p∈L',p∈Lp\/H p=none:=I.own;have K:∀p,p∈x->∀u,H p=some u->H' p=some u:=λp hp u h=>by obtain⟨A,h1,h2⟩:=I.fr.st p u h;have:p∉Lp:=λy=>C p (pm.mem_iff.mp y) p hp rfl;rw[h1,h2 this (λw v=>by cases v)]
  have R:∀p,p∈L'->p∉x:=λp hp y=>by
   rcases Q p hp with z|z
   .exact C p (pm.mem_iff.mp z) p y rfl
   .obtain⟨u,h⟩:=k.is p y;rw[z] at h;cases h
  have E:Sq (c.g H L) (D.g H' L'):=λa u h=>by
   by_cases z:a∈L\/a∈c.Hd
   .rw[gJ z] at h;cases h
   .rw[bE (λy=>z (.inl y)) (λy=>z (.inr y))] at h;have N:a∉Lp:=λy=>z (.inl (by rw[e1];exact QI _ (pm.mem_iff.mp y)));have nr:a∉x:=λy=>z (.inl (by rw[e1];exact QG _ y));obtain⟨A,h1,h2⟩:=I.fr.st a u h;refine⟨A,?_,.inl (h2 N (λw v=>by cases v))⟩;rw[bE (c:=D) (λy=>?_) (λy=>?_)]
    .exact h1
    .rcases Q a y with w|w
     .exact N w
     .rw[w] at h;cases h
    .rcases QP.mp y with w|w
     .exact nr w
     .exact z (.inr w)
  have t:D.g H' L'=c.g H' (L'++x):=S H' L' (L'++x) λa=>by simp[QP,or_assoc]
  have s3:ax c.toKx (D.g H' L') H' (B++Y) (θ++Z) x:=k.sm E K;have Gr:ax c.toKx (D.g H' L') H' (vs.reverse.map some++(J++B)++Y) ((O.map yU).reverse++(T++θ)++Z) (j++(Lt++x)):=by have:=q3.app (q1.app s3);simpa[QJ,<-Wd] using this
  have F:(j++(Lt++x)).Perm (L'++x):=by rw[e2];have:=m.append_right (Lt++x);refine this.trans ?_;rw[<-QJ];exact Tc.append_right x
  refine⟨j++(Lt++x),(F.nodup_iff).mpr (QQ.mpr ⟨I.nd,n2,λa ha b2 hb z=>R a ha (by rw[z];exact hb)⟩),?_,λp hp=>?_,⟨λq u h=>?_,λq V=>?_⟩,b.kp,?_,b.hd⟩
  .rw[Di (c:=c) (H:=H') (L':=L'++x) λa=>F.mem_iff,<-t];exact Gr
  .rcases QP.mp (F.mem_iff.mp hp) with z|z
   .rcases Q p z with y|y
    .exact b.own p (by rw[e1];exact QI _ (pm.mem_iff.mp y))
    .exact .inr (b.fr.fresh y)
   .exact b.own p (by rw[e1];exact QG _ z)
  .obtain⟨u1,h1,h2⟩:=b.fr.st q u h;obtain⟨P,h3,h4⟩:=I.fr.st q u1 h1;refine⟨P,h3,λn nw=>?_⟩;rw[h4 (λy=>?_) (λw v=>by cases v),h2 n nw];rcases b.own q (by rw[e1];exact QI _ (pm.mem_iff.mp y)) with w|w
   .exact n w
   .rw[w] at h;cases h
  .obtain⟨h1,⟨ob,ws,h2⟩,h3⟩:=b.fr.pk q V;refine⟨?_,⟨ob,ws,h2⟩,h3⟩;obtain⟨P,h4,h5⟩:=I.fr.st q.1 q.2 h1;rw[h4,h5 (λy=>?_) (λw v=>by cases v)];exact l.zm q.1 y ob ws (by rw[h1,h2])
  .have:=I.lt;simp[hl];lia
end
section
variable{c:Cn}{Y:St}{H:Hp}{Z:List Sl}{B:St}{θ:List Sl}
theorem Bd.rq{S O:List Sl}{r:Rr}{s:Sl}{v:V}(kp:fq c.σ0 Y S)(q:VR Y r v)(b:Bd c Y H Z (some v::B) (yU s::θ))(h:rq S r s Z=some O):Bd c Y H O B θ:=by
 cases r with
 |fr a=>cases h;exact b.pop
 |nw o=>cases h;exact b.pop
 |rf i=>
  delta M.rq at h
  dsimp only at h
  cases I:S[i]? with
  |none=>rw[I] at h;cases h
  |some n=>
   rw[I] at h;cases n with
   |un=>cases h
   |fr a=>cases h;exact b.pop
   |cf a=>cases h
   |lv L=>
    cases s with
    |pv o=>
     cases e1:Z[i]? with
     |none=>rw[e1] at h;cases h
     |some s1=>
      rw[e1] at h;cases s1 with
      |un=>cases h;exact Bd.putBack b q e1 (.inl rfl)
      |_=>exact ke h
    |_=>exact ke h
   |pv L=>
    cases s with
    |pv o=>
     cases e1:Z[i]? with
     |none=>rw[e1] at h;cases h
     |some s1=>
      rw[e1] at h;cases s1 with
      |un=>cases h;exact Bd.putBack b q e1 (.inr ⟨rfl,kp i _ I rfl⟩)
      |_=>exact ke h
    |_=>exact ke h
theorem Bd.putL{S:List Sl}(kp:fq c.σ0 Y S):∀{rs:List Rr}{vs:List V}{ss:List Sl}{Z O:List Sl}{B:St}{θ:List Sl},md Y rs vs->Bd c Y H Z (vs.reverse.map some++B) ((ss.map yU).reverse++θ)->M.putL S rs ss Z=some O->Bd c Y H O B θ
 |[],[],[],_,_,_,_,_,b,h=>by cases h;exact b
 |r::rs,v::vs,s::ss,Z,O,B,θ,hv,b,h=>by
  unfold M.putL at h;cases e:M.putL S rs ss Z with
  |none=>rw[e] at h;cases h
  |some U=>
   rw[e] at h;have b1:Bd c Y H Z (vs.reverse.map some++(some v::B)) ((ss.map yU).reverse++(yU s::θ)):=by simpa[QJ] using b
   exact Bd.rq kp hv.1 (Bd.putL kp hv.2 b1 e) h
 |[],_::_,_,_,_,_,_,h,_,_=>h.elim
 |_::_,[],_,_,_,_,_,h,_,_=>h.elim
 |[],[],_::_,_,_,_,_,_,_,h=>by cases h
 |_::_,_::_,[],_,_,_,_,_,_,h=>by cases h
theorem cK:∀(n:Nat)(Z:List Sl),(aA n Z).length=n
 |0,_=>rfl
 |n+1,[]=>by show (Sl.un::aA n []).length=_;rw[QU,cK n []]
 |n+1,s::Z=>by cases s<;>(show (_::aA n Z).length=_;rw[QU,cK n Z])
theorem md.app:∀{rs qs:List Rr}{vs us:List V},md Y rs vs->md Y qs us->md Y (rs++qs) (vs++us)
 |[],_,[],_,_,h=>h
 |_::rs,_,_::vs,_,h1,h2=>⟨h1.1,md.app h1.2 h2⟩
 |[],_,_::_,_,h,_=>h.elim
 |_::_,_,[],_,h,_=>h.elim
theorem md.kW:∀{I:List A}{dvs:List V},I.length=dvs.length->md Y (I.map Rr.fr) dvs
 |[],[],_=>trivial
 |_::I,_::dvs,h=>⟨trivial,md.kW (by simpa using h)⟩
 |[],_::_,h=>by simp at h
 |_::_,[],h=>by simp at h
theorem lK:∀{rs:List Rr}{vs:List V}(qs:List Rr)(us:List V)(B:St),rs.length=vs.length->dq (rs++qs) (vs++us) B=dq qs us (dq rs vs B)
 |[],[],_,_,_,_=>rfl
 |r::rs,v::vs,qs,us,B,h=>lK qs us (cO r v B) (by simpa using h)
 |[],_::_,_,_,_,h=>by simp at h
 |_::_,[],_,_,_,h=>by simp at h
theorem ku:∀(rs qs:List Rr)(θ:List Sl),du (rs++qs) θ=du qs (du rs θ)
 |[],_,_=>rfl
 |r::rs,qs,θ=>ku rs qs (cM r θ)
theorem Bd.tR:∀{I:List A}{dvs:List V}{B:St}{θ:List Sl},(∀G,bN c.toKx G dvs I)->Bd c Y H Z B θ->Bd c Y H Z (dq (I.map Rr.fr) dvs B) (du (I.map Rr.fr) θ)
 |[],[],_,_,_,b=>b
 |a::I,v::dvs,_,_,h,b=>Bd.tR (dvs:=dvs) (λG=>by cases h G;assumption) (Bd.push b λG=>by cases h G;assumption)
 |[],_::_,_,_,h,_=>by cases h (λ_=>none)
 |_::_,[],_,_,h,_=>by cases h (λ_=>none)
end
noncomputable def pz:Sl->Option Rr
 | .fr a=>some (.fr a)
 | .lv o=>some (.nw o)
 |_=>none
def aY(f:Ms)(I:List A)(ma:Mi (List Rr)):Mi Rr:=aS ma λrs Z=>match cw (rs++I.map Rr.fr) Z with
 |some (as,T)=>match f (as.map rF) with
  |some (.rt s,U)=>match pz s,putL Z (rs++I.map Rr.fr) (aA as.length U) T with
   |some r,some O=>some (.ok r,O)
   |_,_=>none
  |some (.ex x,U)=>match putL Z (rs++I.map Rr.fr) (aA as.length U) T with
   |some O=>some (.error x,O)
   |none=>none
  |_=>none
 |none=>none
variable{dvs:List V}{CX:qr}{f:Addr}{fd:XX}{ps:List Str}
section
variable{X:Cx}{E:XK}
theorem j4{m:Ms}{n:Nat}{I:List A}(hd:∀G,bN (kx X) G dvs I){o:Except Str Rr}(e:c.toKx=kx X)(hn:(vs++dvs).length=n)
  (q:md Y rs vs)(b:Bd c Y H Z (dq rs vs B) (du rs θ)) (em:(match cw (rs++I.map Rr.fr) Z with
 |some (as,T)=>match m (as.map rF) with
  |some (.rt s,U)=>match pz s,putL Z (rs++I.map Rr.fr) (aA as.length U) T with
   |some r,some O=>some (.ok r,O)
   |_,_=>none
  |some (.ex x,U)=>match putL Z (rs++I.map Rr.fr) (aA as.length U) T with
   |some O=>some (.error x,O)
   |none=>none
  |_=>none
 | none=>none)=some (o,O)) (g:∀r,o=.ok r->∀v H',VR Y r v->Bd c Y H' O (cO r v B) (cM r θ)->Q v H') (u:∀x,o=.error x->∀C H',X.mg x=some (.ref C)->Bd c Y H' O B θ->E (.ref C) none H'):jb (kx X) n m (vs++dvs) H Q E:=by
 refine⟨hn,?_⟩;cases e1:cw (rs++I.map Rr.fr) Z with
 |none=>rw[e1] at em;cases em
 |some p=>
  obtain⟨as,T⟩:=p;rw[e1] at em;have ld:=(hd λ_=>none).len.symm;have h:=q.app (md.kW ld);have b2:Bd c Y H Z (dq (rs++I.map Rr.fr) (vs++dvs) B) (du (rs++I.map Rr.fr) θ):=by rw[lK _ _ _ q.len,ku];exact Bd.tR (by rw[e];exact hd) b
  obtain⟨K,N⟩:=Bd.cw h b2 e1;obtain⟨i,t,S,P,V,R⟩:=Bd.enter N K;have kp:fq c.σ0 Y Z:=by obtain⟨L,b⟩:=b;exact b.kp
  cases j:m (as.map rF) with
  |none=>simp only[j] at em;cases em
  |some p=>
   obtain⟨f,U⟩:=p;simp only[j] at em;refine⟨i,_,f,U,t.trans e,S,P,V,j,?_⟩;cases f with
   |nx=>cases em
   |bk=>cases em
   |ct=>cases em
   |rt s=>
    cases y:pz s with
    |none=>simp only[y] at em;cases em
    |some r=>
     cases w:putL Z (rs++I.map Rr.fr) (aA as.length U) T with
     |none=>simp only[y,w] at em;cases em
     |some Z0=>
      simp only[y,w] at em;cases em;intro v H' hs F;have D:=R H' _ _ _ (λs' J o z=>by rw[Q8.mp J] at z;exact hs o z) (cK _ _) F;rw[N] at D;have l:=Bd.putL kp h D w;cases s with
      |fr a=>cases y;exact g _ rfl v H' trivial l
      |lv o=>cases y;exact g _ rfl v H' trivial l
      |_=>exact ke y
   |ex x=>
    cases w:putL Z (rs++I.map Rr.fr) (aA as.length U) T with
    |none=>simp only[w] at em;cases em
    |some Z0=>simp only[w] at em;cases em;intro C H' hm F;have D:=R H' _ _ _ (λs' J=>by cases J) (cK _ _) F;rw[N] at D;exact u x rfl C H' hm (Bd.putL kp h D w)
theorem DR{k n:Nat}{m:Ms}{I:List A}{ds:List Value}{x:Str}{p:Pos}{ma:Mi (List Rr)}(F:dJ X.prog X.w X.K X.mg X.base CX k f fd ps (jb (kx X) n m))(hr:cY k X.A)(hg:Gl X x)
  (hm:X.mg x=some (.ref f))(hk:Sa X.K (.ref f)=true)(hb:Binds X.K fd ps ds)(hd:Vals dvs ds)(hda:∀G,bN (kx X) G dvs I)(hx:Passes CX X E)(ha:JA X E (e::es) ma)(hn:∀Z rs O,ma Z=some (.ok rs,O)->rs.length+I.length=n)(hdb:fC x)
  (he:XG (e::es) X.env=(false,eval e X.env)::XG es X.env:=by rfl)(hpl:(XQ pos (XG es X.env)).any (·.1)=false:=by rfl):JE X E (.Call (.Name x p) (e::es) [] pos) (aY m I ma):=
 ⟨PE.weaken (Cf F hr hg hm hk hb hd hx ha.p hdb he hpl) λY H Q h=>by
  obtain⟨c,Z,B,θ,o,O,ek,b,em,q⟩:=h;rcases bind_some em with ⟨rs,U,e1,e2⟩|⟨e,e1,e2⟩
  .refine⟨c,Z,B,θ,_,U,ek,b,e1,λvs H1 hv b1=>?_⟩;refine j4 hda ek ?_ hv b1 e2 (λr hr v H' hv b=>by subst hr;exact q v H' hv b) (λx hx=>by subst hx;exact q);rw[Q2,<-hv.len,<-hn Z rs U e1,(hda λ_=>none).len]
  .subst e2;exact⟨c,Z,B,θ,_,O,ek,b,e1,λC H1 hm b1=>q C H1 hm b1⟩⟩
theorem zD:∀Z rs O,nh Z=some (.ok rs,O)->rs.length=0:=λZ rs O h=>by cases h;rfl
theorem uX{m:Mi Rr}{ma:Mi (List Rr)}{n:Nat}(h:∀Z rs O,ma Z=some (.ok rs,O)->rs.length=n):∀Z rs O,c7 m ma Z=some (.ok rs,O)->rs.length=n+1:=λZ rs O e=>by
 rcases bind_some e with ⟨r,U,e1,e2⟩|⟨_,_,e2⟩
 .rcases bind_some e2 with ⟨rs',Z0,N,j⟩|⟨_,_,j⟩
  .cases j;rw[QU,h _ _ _ N]
  .cases j
 .cases e2
theorem Kk{ma:Mi (List Rr)}{n d N:Nat}(h:∀Z rs O,ma Z=some (.ok rs,O)->rs.length=n)(e:n+d=N):∀Z rs O,ma Z=some (.ok rs,O)->rs.length+d=N:=λZ rs O q=>by rw[h Z rs O q];exact e
def HB(K:Kx)(E:XK)(c:Cn)(Z:List Sl)(B:St)(θ:List A)(D:Ends):Fl->Prop
 | .nx=>∀Y H,Bd c Y H Z B (θ.map Sl.fr)->D.nx Y H
 | .rt s=>∀v Y H,(∀o,s≠.pv o)->Bd c Y H Z (some v::B) (s::θ.map Sl.fr)->D.rt v H
 | .bk=>∀Y H,Bd c Y H Z B (θ.map Sl.fr)->D.bk Y H
 | .ct=>∀Y H,Bd c Y H Z B (θ.map Sl.fr)->D.ct Y H
 | .ex x=>∀C Y H,K.mg x=some (.ref C)->Bd c Y H Z B (θ.map Sl.fr)->E (.ref C) none H
inductive Gf(K:Kx)(E:XK)(m:Ms)(D:Ends)(Y:St)(H:Hp):Prop
 |mk(c:Cn)(Z:List Sl)(B:St)(θ:List A)(f:Fl)(O:List Sl)(h1:c.toKx=K)(h2:Bd c Y H Z B (θ.map Sl.fr))(h3:m Z=some (f,O))(h4:HB K E c O B θ D f)
structure JS(X:Cx)(E:XK)(s:Stmt)(m:Ms):Prop where
 p:PS X s (Gf (kx X) E m)
structure rb(X:Cx)(E:XK)(s:List Stmt)(m:Ms):Prop where
 p:qN X s (Gf (kx X) E m)
theorem PS.weaken{e:Stmt}{t t':TS}(h:PS X e t)(f:∀D Y H,t' D Y H->t D Y H):PS X e t':=λpins s Y H D I q=>h pins s Y H D I (f D Y H q)
theorem qN.weaken{e:List Stmt}{t t':TS}(h:qN X e t)(f:∀D Y H,t' D Y H->t D Y H):qN X e t':=λpins s Y H D I q=>h pins s Y H D I (f D Y H q)
noncomputable def ba:Ms:=λZ=>some (.nx,Z)
noncomputable def av(m n:Ms):Ms:=λZ=>match m Z with
 |some (.nx,U)=>n U
 |r=>r
theorem uR:rb X E [] ba:=⟨qN.weaken DG λD Y H h=>by obtain⟨c,Z,B,θ,f,O,e,b,em,q⟩:=h;cases em;exact q Y H b⟩
theorem vc{s:Stmt}{m:Ms}(h:JS X E s m):rb X E [s] m:=⟨Ep h.p⟩
theorem sf{s:Stmt}{r:List Stmt}{m n:Ms}(h:JS X E s m)(h':rb X E r n):rb X E (s::r) (av m n):=⟨qN.weaken (mF h.p h'.p) λD Y H h=>by
 obtain⟨c,Z,B,θ,f,O,v,b,em,q⟩:=h
 delta av at em
 cases e:m Z with
 |none=>rw[e] at em;cases em
 |some p=>
  obtain⟨o,U⟩:=p;rw[e] at em;refine⟨c,Z,B,θ,o,U,v,b,e,?_⟩;cases o with
  |nx=>exact λj H' J=>⟨c,U,B,θ,f,O,v,J,em,q⟩
  |rt s=>cases em;exact q
  |bk=>cases em;exact q
  |ct=>cases em;exact q
  | ex x=>cases em;exact q⟩
noncomputable def cZ{α:Type}(m:Mi α)(f:α->Ms):Ms:=λZ=>match m Z with
 |some (.ok x,U)=>f x U
 |some (.error e,U)=>some (.ex e,U)
 |none=>none
theorem fc{m:Mi α}{f:α->Ms}{o:Fl}(h:cZ m f Z=some (o,O)):(∃x U,m Z=some (.ok x,U)/\f x U=some (o,O))\/∃e,m Z=some (.error e,O)/\o=.ex e:=by
 delta cZ at h
 cases e:m Z with
 |none=>rw[e] at h;cases h
 |some p=>
  obtain⟨r,U⟩:=p;cases r with
  |ok x=>rw[e] at h;exact .inl ⟨x,U,rfl,h⟩
  |error x=>rw[e] at h;cases h;exact .inr ⟨x,rfl,rfl⟩
theorem d0{θ:List A}{m:Mi Rr}{f:Rr->Ms}{o:Fl}{D:Ends}(p:c.toKx=kx X)(b:Bd c Y H Z B (θ.map Sl.fr))(em:cZ m f Z=some (o,O))(q:HB (kx X) E c O B θ D o)
  (h1:∀x v U i,VR Y x v->Bd c Y i U (cO x v B) (cM x (θ.map Sl.fr))->f x U=some (o,O)->Q v i):kN (kx X) E m Y H Q:=by
 rcases fc em with ⟨x,U,e1,e2⟩|⟨e,e1,e2⟩
 .exact⟨c,Z,B,_,_,U,p,b,e1,λv i r b1=>h1 x v U i r b1 e2⟩
 .subst e2;exact⟨c,Z,B,_,_,O,p,b,e1,λC i hm b1=>q C Y i hm b1⟩
theorem Eh{θ:List A}{m:Mi Bool}{f:Bool->Ms}{o:Fl}{Q:Bool->Hp->Prop}{D:Ends}(v:c.toKx=kx X)(b:Bd c Y H Z B (θ.map Sl.fr))(em:cZ m f Z=some (o,O))(q:HB (kx X) E c O B θ D o)
  (h1:∀k U i,Bd c Y i U B (θ.map Sl.fr)->f k U=some (o,O)->Q k i):CU (kx X) E m Y H Q:=by
 rcases fc em with ⟨x,U,e1,e2⟩|⟨e,e1,e2⟩
 .exact⟨c,Z,B,_,_,U,v,b,e1,λi b1=>h1 x U i b1 e2⟩
 .subst e2;exact⟨c,Z,B,_,_,O,v,b,e1,λC i hm b1=>q C Y i hm b1⟩
def dC(m:Mi Rr):Ms:=cZ m λ_ Z=>some (.nx,Z)
theorem DW{m:Mi Rr}(h:JE X E e m)(hs:X4 e none pos.line X.env=pure false:=by rfl):JS X E (.Expr e pos) (dC m):=⟨PS.weaken (Et h.p hs) λD Y H h=>by obtain⟨c,Z,B,θ,f,O,ek,b,em,q⟩:=h;refine d0 ek b em q λx v U H1 hv b1 em1=>?_;cases em1;exact q Y H1 b1.drop⟩
def eP(t:Mi Bool)(m n:Ms):Ms:=cZ t λb=>if b then m else n
theorem MU{t:Expr}{a b:List Stmt}{m n:Ms}(l:JT X E t mt)(V:rb X E a m)(d:rb X E b n):JS X E (.If t a b pos) (eP mt m n):=⟨PS.weaken (LQ l.p V.p d.p) λD Y H h=>by
 obtain⟨c,Z,B,θ,f,O,e,b,em,q⟩:=h;refine Eh e b em q λk U i b1 P=>?_;cases k with
 |true=>rw[Zt rfl];exact⟨c,U,B,θ,f,O,e,b1,P,q⟩
 | false=>rw[Zu Z3];exact⟨c,U,B,θ,f,O,e,b1,P,q⟩⟩
noncomputable def Ig:Rr->List Sl->Option (Sl×List Sl)
 | .fr a,Z=>some (.fr a,Z)
 | .nw o,Z=>some (.lv o,Z)
 | .rf i,Z=>match Z[i]? with
  |some (.lv o)=>some (.lv o,Z.set i .un)
  |_=>none
def bB(m:Mi Rr):Ms:=cZ m λr Z=>match Ig r Z with
 |some (s,O)=>some (.rt s,O)
 |none=>none
theorem IP{m:Mi Rr}(h:JE X E e m):JS X E (.Return (some e) pos) (bB m):=⟨PS.weaken (GD h.p) λD Y H h=>by
 obtain⟨c,Z,B,θ,f,O,w,b,em,q⟩:=h;refine d0 w b em q λx v U L r b1 P=>?_;cases x with
 |fr a=>cases P;exact q v Y L (λo z=>by cases z) b1
 |nw o=>cases P;exact q v Y L (λo z=>by cases z) b1
 |rf i=>
  delta Ig at P
  cases es:U[i]? with
  |none=>simp only[es] at P;cases P
  |some s=>
   cases s with
   |lv o=>simp only[es] at P;cases P;exact q v Y L (λo z=>by cases z) (Bd.IK (xs:=[]) (ss:=[]) rfl b1 r es (.inl rfl))
   | _=>simp only[es] at P;cases P⟩
noncomputable def FZ:Ms:=λZ=>some (.rt (.fr .non),Z)
theorem D3:JS X E (.Return none pos) FZ:=⟨PS.weaken Co λD Y H h=>by obtain⟨c,Z,B,θ,f,O,e,b,em,q⟩:=h;cases em;exact q .non Y H (λo z=>by cases z) (b.push λ_=>.non)⟩
def xM:Rr->List Sl->Option (Sl×List Sl)
 | .fr a,Z=>some (.fr a,Z)
 | .nw o,Z=>some (.lv o,Z)
 | .rf i,Z=>match bR (.rf i) Z with
  |some (a,O)=>some (.fr a,O)
  |none=>none
noncomputable def put(i:Nat)(s:Sl)(Z:List Sl):Option (List Sl):=match Z[i]? with
 |some (.pv _)=>none
 |some _=>some (Z.set i s)
 |none=>none
theorem Bd.put{c:Cn}{Y:St}{H:Hp}{Z O:List Sl}{B:St}{θ:List Sl}{i:Nat}{v:V}{t:Sl}(b:Bd c Y H Z (some v::B) (t::θ))(l:cst t=false)(h:put i t Z=some O):Bd c (Y.set i (some v)) H O B θ:=by
 delta M.put at h
 cases es:Z[i]? with
 |none=>rw[es] at h;cases h
 |some s=>
  cases s with
  |pv o=>rw[es] at h;cases h
  |un=>rw[es] at h;cases h;exact b.store es (λo z=>by cases z) l
  |fr a=>rw[es] at h;cases h;exact b.store es (λo z=>by cases z) l
  |lv o=>rw[es] at h;cases h;exact b.store es (λo z=>by cases z) l
  |cf o=>rw[es] at h;cases h;exact b.store es (λo z=>by cases z) l
theorem Bd.xM{c:Cn}{Y:St}{H:Hp}{Z O:List Sl}{B:St}{θ:List Sl}{r:Rr}{v:V}{t:Sl}(q:VR Y r v)(b:Bd c Y H Z (cO r v B) (cM r θ))(h:xM r Z=some (t,O)):Bd c Y H O (some v::B) (t::θ)/\cst t=false:=by
 cases r with
 |fr a=>cases h;exact⟨b,rfl⟩
 |nw o=>cases h;exact⟨b,rfl⟩
 |rf i=>
  delta M.xM at h
  cases e:M.bR (.rf i) Z with
  |none=>simp only[e] at h;cases h
  |some p=>simp only[e] at h;cases h;exact⟨Bd.bR (xs:=[]) (ss:=[]) rfl b q e,rfl⟩
def aF(i:Nat)(m:Mi Rr):Ms:=cZ m λr Z=>match xM r Z with
 |some (t,U)=>match put i t U with
  |some Z0=>some (.nx,Z0)
  |none=>none
 |none=>none
theorem Bk{x:Str}{m:Mi Rr}{pos':Pos}(hN:X.N.Nodup)(hi:X.N[i]?=some x)(hx:Loc X.env.scope x)(he:JE X E e m)(hs:X4 e (some (.Name x pos')) pos.line X.env=pure false:=by rfl)
  (hf:X.fn x=true\/X.env.scope.names.lookup x=some .local:=by first|exact .inl rfl|exact .inr rfl|assumption):JS X E (.Assign [.Name x pos'] e pos) (aF i m):=⟨PS.weaken (Ij hN hi hx he.p hs hf) λD Y H h=>by
 obtain⟨c,Z,B,θ,f,O,ek,b,em,q⟩:=h;refine d0 ek b em q λr v U H1 hv b1 em1=>?_;cases e1:xM r U with
 |none=>rw[e1] at em1;cases em1
 |some p=>
  obtain⟨t,Z0⟩:=p;rw[e1] at em1;obtain⟨b2,ht⟩:=Bd.xM hv b1 e1;cases e2:put i t Z0 with
  |none=>simp only[e2] at em1;cases em1
  | some Z1=>simp only[e2] at em1;cases em1;exact q _ H1 (Bd.put b2 ht e2)⟩
noncomputable def cq(loc:Nat)(m:Ms):Ms:=λZ=>match m (Z++QW loc .un) with
 |some (.nx,O)=>some (.rt (.fr .non),O)
 |some (.rt s,O)=>some (.rt s,O)
 |some (.ex x,O)=>some (.ex x,O)
 |_=>none
theorem mL{k:Kx}{G H:Hp}:∀n,ax k G H (QW n none) (QW n Sl.un) []
 |0=>.nil
 |n+1=>ax.cons (.un _) (mL n)
theorem dZ.start{c:Cn}{vs:List V}{H:Hp}{Z:List Sl}(N:List Str)(b:dZ c (vs.map some) H Z [] [] c.Lp)(e:c.σ0=vs.map some):Bd c (start N vs) H (Z++QW (N.length-vs.length) .un) [] []:=by
 have hl:vs.length=Z.length:=by have:=b.rel.len;simpa using this
 refine⟨c.Lp,b.nd,?_,b.own,b.fr,λi o h w=>?_,rfl,b.hd⟩
 .have:=b.rel.app (mL (N.length-vs.length));simpa[L2.start] using this
 .have hi:i<Z.length:=by
   by_cases z:i<Z.length
   .exact z
   .rw[Rx (by exact UH.mp ‹_›)] at h;have:=Rw h;have:=TR this;subst this;cases w
  delta L2.start
  rw[RM (by simp;lia),e]
end
variable{r':R2}{K:Kx}
section
variable{X:Cx}{E:XK}
theorem iR.or'{f:Value->Value->Sem Value}(h:iR X f r)(h':iR X f r'):iR X f (λx y H Q=>r x y H Q\/r' x y H Q):=by
 intro pins s Y H x y v u Q I K z q;rcases q with q|q
 .exact h pins s Y H x y v u Q I K z q
 .exact h' pins s Y H x y v u Q I K z q
noncomputable def OJ(f g:A->A->Option Rr):A->A->Option Rr:=λa b=>match f a b with
 |some r=>some r
 |none=>g a b
theorem jc.or{f g:A->A->Option Rr}(h:jc K r f)(h':jc K r' g):jc K (λx y H Q=>r x y H Q\/r' x y H Q) (OJ f g):=by
 intro c Y H Z B θ x y v w a b q Q p j s bd e1 e2 N k
 delta OJ at N
 cases e:f a b with
 |some z=>rw[e] at N;cases N;exact .inl (h c Y H Z B θ x y v w a b _ Q p j s bd e1 e2 e k)
 |none=>rw[e] at N;exact .inr (h' c Y H Z B θ x y v w a b _ Q p j s bd e1 e2 N k)
theorem jc.scalar{f:A->A->Option Rr}(h:∀H v w a b q,RA K H v a->RA K H w b->f a b=some q->∃u d,q=.fr d/\(∀G,RA K G u d)/\∀Q:VK,Q u H->r v w H Q):jc K r f:=by intro c Y H Z B θ x y v w a b q Q e j s bd e1 e2 N k;have O:=Bd.rd bd s e2;have n:=Bd.rd bd.drop j e1;rw[e] at n O;obtain⟨u,d,rfl,g,V⟩:=h H v w a b q n O N;exact V Q (k u H trivial (Bd.push bd.drop.drop (by rw[e];exact g)))
noncomputable def fits(n:Nat)(i:Int):Bool:=decide (i.natAbs<2^n)
theorem pV{n:Nat}{i:Int}(h:fits n i=true):L2.Bd n i:=show i.natAbs<2^n from Zz h
theorem ie{n m:Nat}{i:Int}(h:L2.Bd m i)(k:m<=n):fits n i=true:=Zw (h.mono k)
noncomputable def oH(f:Int->Int->Option Rr):A->A->Option Rr
 | .int i,.int j=>f i j
 |_,_=>none
theorem cR{f:Int->Int->Option Rr}{a b:A}{q:Rr}(h:oH f a b=some q):∃i j,a=.int i/\b=.int j/\f i j=some q:=by
 cases a with
 |int=>cases b with
  |int=>exact⟨_,_,rfl,rfl,h⟩
  |_=>exact ke h
 |_=>exact ke h
def FX:A->A->Option Rr:=oH λi j=>some (.fr (.int (i+j)))
def ji:A->A->Option Rr:=oH λi j=>some (.fr (.int (i-j)))
def bD:A->A->Option Rr:=oH λi j=>if fits 20000 i&&fits 20000 j then some (.fr (.int (i*j))) else none
def iF:A->A->Option Rr:=oH λi j=>if j != 0&&fits 9000 j then some (.fr (.int (i.fdiv j))) else none
def kS:A->A->Option Rr:=oH λi j=>if j != 0 then some (.fr (.int (i.fmod j))) else none
def qf:A->A->Option Rr:=oH λi j=>if 0<=j/\j<=1000000/\i.natAbs<2^64 then some (.fr (.int (i^j.toNat))) else none
def iH:A->A->Option Rr:=oH λi j=>some (.fr (.bl (decide (i<j))))
def jV:A->A->Option Rr:=oH λi j=>some (.fr (.bl (decide (j<i))))
def F8:A->A->Option Rr:=oH λi j=>some (.fr (.bl (decide (j<=i))))
theorem CP:jc K (xU λi j=>.int (i+j)) FX:=.scalar λH v w a b q n O h=>by
 replace h:=cR h
 obtain⟨i,j,rfl,rfl,h⟩:=h
 cases n;cases O;cases h
 exact⟨_,_,rfl,λ_=>.int _,λQ k=>⟨_,_,rfl,rfl,k⟩⟩
theorem HW:jc K (xU λi j=>.int (i-j)) ji:=.scalar λH v w a b q n O h=>by
 replace h:=cR h
 obtain⟨i,j,rfl,rfl,h⟩:=h
 cases n;cases O;cases h
 exact⟨_,_,rfl,λ_=>.int _,λQ k=>⟨_,_,rfl,rfl,k⟩⟩
theorem Eg:jc K (rI Zr λi j=>.int (i*j)) bD:=.scalar λH v w a b q n O h=>by
 replace h:=cR h
 obtain⟨i,j,rfl,rfl,h⟩:=h
 cases n;cases O
 split at h
 .rename_i hc
  rw[QE] at hc
  cases h
  exact⟨_,_,rfl,λ_=>.int _,λQ k=>⟨_,_,rfl,rfl,(pV hc.1).KY (pV hc.2) Z3,k⟩⟩
 .cases h
theorem Ir:jc K (rI PQ λi j=>.int (i.fdiv j)) iF:=.scalar λH v w a b q n O h=>by
 replace h:=cR h
 obtain⟨i,j,rfl,rfl,h⟩:=h
 cases n;cases O
 split at h
 .rename_i hc
  rw[QE] at hc
  cases h
  exact⟨_,_,rfl,λ_=>.int _,λQ k=>⟨_,_,rfl,rfl,⟨by simpa using hc.1,pV hc.2⟩,k⟩⟩
 .cases h
theorem Jq:jc K (rI (λ_ j=>j≠0) λi j=>.int (i.fmod j)) kS:=.scalar λH v w a b q n O h=>by
 replace h:=cR h
 obtain⟨i,j,rfl,rfl,h⟩:=h
 cases n;cases O
 split at h
 .rename_i hc
  cases h
  exact⟨_,_,rfl,λ_=>.int _,λQ k=>⟨_,_,rfl,rfl,by simpa using hc,k⟩⟩
 .cases h
theorem Hl:jc K (rI MA λi j=>.int (i^j.toNat)) qf:=.scalar λH v w a b q n O h=>by
 replace h:=cR h
 obtain⟨i,j,rfl,rfl,h⟩:=h
 cases n;cases O
 split at h
 .rename_i hc
  cases h
  exact⟨_,_,rfl,λ_=>.int _,λQ k=>⟨_,_,rfl,rfl,hc,k⟩⟩
 .cases h
theorem Gb:jc K (xU λi j=>.bl (decide (i<j))) iH:=.scalar λH v w a b q n O h=>by
 replace h:=cR h
 obtain⟨i,j,rfl,rfl,h⟩:=h
 cases n;cases O;cases h
 exact⟨_,_,rfl,λ_=>.bl _,λQ k=>⟨_,_,rfl,rfl,k⟩⟩
theorem ER:jc K (xU λi j=>.bl (decide (j<i))) jV:=.scalar λH v w a b q n O h=>by
 replace h:=cR h
 obtain⟨i,j,rfl,rfl,h⟩:=h
 cases n;cases O;cases h
 exact⟨_,_,rfl,λ_=>.bl _,λQ k=>⟨_,_,rfl,rfl,k⟩⟩
theorem F9:jc K (xU λi j=>.bl (decide (j<=i))) F8:=.scalar λH v w a b q n O h=>by
 replace h:=cR h
 obtain⟨i,j,rfl,rfl,h⟩:=h
 cases n;cases O;cases h
 exact⟨_,_,rfl,λ_=>.bl _,λQ k=>⟨_,_,rfl,rfl,k⟩⟩
mutual
noncomputable def toD:A->Option D
 | .non=>some .non
 | .bl b=>some (.bl b)
 | .int i=>some (.int i)
 | .str x=>some (.str x)
 | .tup xs=>match j8 xs with
  |some ds=>some (.tup ds)
  |none=>none
 | .lst xs=>match j8 xs with
  |some ds=>some (.lst ds)
  |none=>none
 | .dic _=>none
 | .exc _=>none
 | .obj _ _=>none
 | .dit _=>none
 | .opq=>none
noncomputable def j8:List A->Option (List D)
 |[]=>some []
 |a::as=>match toD a,j8 as with
  |some d,some ds=>some (d::ds)
  |_,_=>none
end
mutual
theorem mq{K:Kx}{H:Hp}:∀{v:V}{a:A}{d:D},RA K H v a->toD a=some d->Den K.K H v d
 |_,_,_,.non,h=>by rw[toD] at h;cases h;exact .non
 |_,_,_,.bl b,h=>by rw[toD] at h;cases h;exact .bl _
 |_,_,_,.int i,h=>by rw[toD] at h;cases h;exact .int _
 |_,_,_,.str x,h=>by rw[toD] at h;cases h;exact .str _
 |_,_,_,.tup (as:=as) e r,h=>by
  rw[toD] at h;cases q:j8 as with
  |none=>simp only[q] at h;cases h
  |some ds=>simp only[q] at h;cases h;exact .tup e (oW r q)
 |_,_,_,.lst (as:=as) e r,h=>by
  rw[toD] at h;cases q:j8 as with
  |none=>simp only[q] at h;cases h
  |some ds=>simp only[q] at h;cases h;exact .lst e (oW r q)
 |_,_,_,.dic e r,h=>by rw[toD] at h;cases h
 |_,_,_,.exc e m,h=>by rw[toD] at h;cases h
 |_,_,_,.obj e m r,h=>by rw[toD] at h;cases h
 |_,_,_,.dit e r,h=>by rw[toD] at h;cases h
 |_,_,_,.opq,h=>by rw[toD] at h;cases h
theorem oW{K:Kx}{H:Hp}:∀{vs:List V}{as:List A}{ds:List D},bN K H vs as->j8 as=some ds->fZ K.K H vs ds
 |_,_,_,.nil,h=>by rw[j8] at h;cases h;exact .nil
 |_,_,_,.cons (a:=a) (as:=as) q r,h=>by
  rw[j8] at h;cases e1:toD a with
  |none=>simp only[e1] at h;cases h
  |some d=>
   cases e2:j8 as with
   |none=>simp only[e1,e2] at h;cases h
   |some ds=>simp only[e1,e2] at h;cases h;exact .cons (mq q e1) (oW r e2)
end
def tM(a b:A):Option Bool:=match toD a,toD b with
 |some d,some e=>if D.depth d<=40 then some (D.eq d e) else none
 |_,_=>none
def m5(a b:A):Option Rr:=match tM a b with
 |some k=>some (.fr (.bl k))
 |none=>none
def eY(a b:A):Option Rr:=match tM a b with
 |some k=>some (.fr (.bl (!k)))
 |none=>none
theorem qB{a b:A}{k:Bool}(h:tM a b=some k):∃d e,toD a=some d/\toD b=some e/\D.depth d<=40/\k=D.eq d e:=by
 delta tM at h
 cases e1:toD a with
 |none=>rw[e1] at h;cases h
 |some d=>
  cases e2:toD b with
  |none=>rw[e1,e2] at h;cases h
  |some e=>
   simp only[e1,e2] at h;split at h
   .rename_i hd;cases h;exact⟨d,e,rfl,rfl,hd,rfl⟩
   .cases h
theorem os_eq:jc K (M0 K.K) m5:=.scalar λH v w a b q n O h=>by
 delta m5 at h
 cases e:tM a b with
 |none=>rw[e] at h;cases h
 |some k=>rw[e] at h;cases h;obtain⟨d,d',h1,h2,h3,rfl⟩:=qB e;exact⟨_,_,rfl,λ_=>.bl _,λQ k=>⟨d,d',mq n h1,mq O h2,h3,k⟩⟩
theorem F4:jc K (Kw K.K) eY:=.scalar λH v w a b q n O h=>by
 delta eY at h
 cases e:tM a b with
 |none=>rw[e] at h;cases h
 |some k=>rw[e] at h;cases h;obtain⟨d,d',h1,h2,h3,rfl⟩:=qB e;exact⟨_,_,rfl,λ_=>.bl _,λQ k=>⟨d,d',mq n h1,mq O h2,h3,k⟩⟩
theorem oM:100000<=sizeLine:=by rw[Yd];decide
end
variable{w:V}{id:String}
section
variable{X:Cx}{E:XK}
def Dw:A->A->Option Rr
 | .lst xs,.int i=>match iy xs i with
  |some a=>some (.fr a)
  |none=>none
 | .tup xs,.int i=>match iy xs i with
  |some a=>some (.fr a)
  |none=>none
 | .str z,.int i=>if z.length<=100000 then match iy z.cps.toList i with
  |some c=>some (.fr (.str ⟨#[c]⟩))
  |none=>none else none
 |_,_=>none
theorem bN.iy{k:Kx}{G:Hp}{vs:List V}{as:List A}{i:Int}{a:A}(r:bN k G vs as)(h:iy as i=some a):∃v,iy vs i=some v/\RA k G v a:=by
 delta L2.iy at h ⊢
 rw[r.len]
 cases e:gz as.length i with
 |none=>rw[e] at h;cases h
 |some j=>rw[e] at h;obtain⟨v,h1,h2⟩:=r.ta h;exact⟨v,h1,h2⟩
theorem LS:jc K (PR K.K) Dw:=by
 intro c Y H Z B θ x y v w a b q Q h r s bd e1 e2 N k;subst h;have O:=Bd.rd bd s e2;obtain⟨L,bl,n,I⟩:=Bd.Bi bd r s e1 e2;have f:=Bd.rd bd.drop r e1;cases a<;>first|exact ke N|(cases b<;>first|exact ke N|skip)
 .rename_i z i;cases f;cases O
  delta Dw at N
  simp only at N;split at N
  .rename_i hz;cases e:iy z.cps.toList i with
   |none=>rw[e] at N;cases N
   |some ch=>rw[e] at N;cases N;exact .inr (.inr ⟨z,i,ch,rfl,rfl,Ru hz oM,e,k _ H trivial (Bd.push ⟨L,bl⟩ λ_=>.str _)⟩)
  .cases N
 .rename_i xs i;cases O
  delta Dw at N
  cases e:iy xs i with
  |none=>simp only[e] at N;cases N
  |some d=>simp only[e] at N;cases N;obtain⟨p,vs,rfl,s1,o⟩:=n.2.1 xs rfl;obtain⟨u,h1,h2⟩:=o.iy e;exact .inr (.inl ⟨p,vs,i,u,rfl,rfl,fL (g_same _ _ _) s1,h1,k u H trivial (bl.push h2)⟩)
 .rename_i xs i;cases O
  delta Dw at N
  cases e:iy xs i with
  |none=>simp only[e] at N;cases N
  |some d=>simp only[e] at N;cases N;obtain⟨p,vs,rfl,s1,o⟩:=n.1 xs rfl;obtain⟨u,h1,h2⟩:=o.iy e;exact .inl ⟨p,vs,i,u,rfl,rfl,s1,h1,k u H trivial (bl.push h2)⟩
theorem Ja{a b:Expr}(f:JE X E a ma)(d:JE X E b mb)(hs:jZ b):JE X E (.Subscript a b pos) (az Dw ma mb):=
 ⟨PE.weaken (zt IC f.p d.p hs) (jH LS)⟩
noncomputable def fv:A->Bool
 | .non=>true
 | .bl _=>true
 | .int _=>true
 | .str _=>true
 |_=>false
noncomputable def kR:A->V
 | .non=>.non
 | .bl b=>.bl b
 | .int i=>.int i
 | .str x=>.str x
 |_=>.non
theorem tf{b:A}(r:RA K H w b)(h:fv b=true):w=kR b/\gN w=true:=by cases r<;>first|exact⟨rfl,rfl⟩|exact JN h
theorem pY{K:Kx}{H:Hp}:∀{vs:List V}{as:List A},bN K H vs as->as.all fv=true->vs=as.map kR/\vs.all gN=true
 |_,_,.nil,_=>⟨rfl,rfl⟩
 |_,_,.cons h r,e=>by rw[Q7,QE] at e;obtain⟨h1,h2⟩:=tf h e.1;obtain⟨h3,h4⟩:=pY r e.2;exact⟨by rw[h1,h3];rfl,by rw[Q7,h2,h4];rfl⟩
def Iy(neg:Bool)(x:A)(xs:List A):Option Rr:=if fv x&&xs.all fv then some (.fr (.bl (if neg then !F2 (kR x) (xs.map kR) else F2 (kR x) (xs.map kR)))) else none
def xJ(neg:Bool):A->A->Option Rr
 |x,.lst xs=>Iy neg x xs
 |x,.tup xs=>Iy neg x xs
 |_,_=>none
theorem qo{neg:Bool}:jc K (Kv K.K neg) (xJ neg):=.scalar λH v w a b q n O h=>by
 have key:∀(xs:List A)(vs:List V)(p:Addr),bN K H vs xs->(dm K.K H p vs\/gW K.K H p vs)->Iy neg a xs=some q->∃u d,q=.fr d/\(∀G,RA K G u d)/\∀Q:VK,Q u H->Kv K.K neg v (.ref p) H Q:=by
  intro xs vs p o sq h
  delta Iy at h
  split at h
  .rename_i hc;rw[QE] at hc;cases h;obtain⟨rfl,h2⟩:=tf n hc.1;obtain⟨rfl,h4⟩:=pY o hc.2;exact⟨_,_,rfl,λ_=>.bl _,λQ k=>⟨p,_,rfl,sq,h2,h4,k⟩⟩
  .cases h
 cases b<;>first|exact ke h|skip
 .cases O with|tup e r=>exact key _ _ _ r (.inr e) h
 .cases O with|lst e r=>exact key _ _ _ r (.inl e) h
noncomputable def ug:A->Bool
 | .non=>true
 |_=>false
def jk(neg:Bool):A->A->Option Rr
 |a,.non=>some (.fr (.bl (if neg then !ug a else ug a)))
 |_,_=>none
theorem uU{v:V}{a:A}(r:RA K H v a):decide (v=.non)=ug a:=by cases r<;>rfl
theorem EV:jc K (λx y H Q=>y=.non/\Q (.bl (decide (x=.non))) H) (jk false):=.scalar λH v w a b q n O h=>by
 cases b<;>first|exact ke h|skip
 cases O;cases h;exact⟨_,_,rfl,λ_=>.bl _,λQ k=>⟨rfl,by rw[uU n];exact k⟩⟩
theorem vq:jc K (λx y H Q=>y=.non/\Q (.bl (!decide (x=.non))) H) (jk true):=.scalar λH v w a b q n O h=>by
 cases b<;>first|(cases h;done)|skip
 cases O;cases h;exact⟨_,_,rfl,λ_=>.bl _,λQ k=>⟨rfl,by rw[uU n];exact k⟩⟩
def aJ(f:A->Option Rr)(m:Mi Rr):Mi Rr:=aS m λx Z=>match res Z x with
 |some a=>match f a with
  |some r=>some (.ok r,Z)
  |none=>none
 |none=>none
def sE(K:Kx)(r:V->Hp->VK->Prop)(f:A->Option Rr):Prop:=∀(c:Cn)(Y:St)(H:Hp)(Z:List Sl)(B:St)(θ:List Sl)(x:Rr)(v:V)(a:A)(q:Rr)(Q:VK),c.toKx=K->VR Y x v->
 Bd c Y H Z (cO x v B) (cM x θ)->res Z x=some a->f a=some q->(∀u H',VR Y q u->Bd c Y H' Z (cO q u B) (cM q θ)->Q u H')->r v H Q
theorem DQ{f:A->Option Rr}{x:Rr}{o:Except Str Rr}(h:(match res Z x with|some a=>(match f a with|some r=>some ((.ok r:Except Str Rr),Z)|none=>none)|none=>none)=some (o,O)):∃a r,res Z x=some a/\f a=some r/\o=.ok r/\O=Z:=by
 cases e1:res Z x with
 |none=>rw[e1] at h;cases h
 |some a=>
  rw[e1] at h;cases N:f a with
  |none=>simp only[N] at h;cases h
  |some r=>simp only[N] at h;cases h;exact⟨a,r,rfl,N,rfl,rfl⟩
theorem jL{r:V->Hp->VK->Prop}{f:A->Option Rr}{m:Mi Rr}(hf:sE (kx X) r f)(Y:St)(H:Hp)(Q:VK)(h:kN (kx X) E (aJ f m) Y H Q):kN (kx X) E m Y H λv H'=>r v H' Q:=by obtain⟨c,Z,B,θ,o,O,e,b,em,q⟩:=h;refine bj e b em (λx v U i j b1 P=>?_) (bQ q);obtain⟨a,r,e1,N,rfl,rfl⟩:=DQ P;exact hf c Y i _ B θ x v a r Q e j b1 e1 N q
theorem sE.scalar{r:V->Hp->VK->Prop}{f:A->Option Rr}(h:∀H v a q,RA K H v a->f a=some q->∃u d,q=.fr d/\(∀G,RA K G u d)/\∀Q:VK,Q u H->r v H Q):sE K r f:=by intro c Y H Z B θ x v a q Q e j bd e1 N k;have n:=Bd.rd bd j e1;rw[e] at n;obtain⟨u,d,rfl,g,F⟩:=h H v a q n N;exact F Q (k u H trivial (Bd.push bd.drop (by rw[e];exact g)))
noncomputable def aT:A->Option Rr
 | .int i=>some (.fr (.int (-i)))
 |_=>none
theorem Hc{a:Expr}{m:Mi Rr}(h:JE X E a m):JE X E (.UnaryOp .USub a pos) (aJ aT m):=⟨PE.weaken (MX IQ h.p) (jL (.scalar λH v a q n h=>by
 cases a<;>first|exact ke h|skip
 cases n;cases h;exact⟨_,_,rfl,λ_=>.int _,λQ k=>⟨_,rfl,k⟩⟩))⟩
noncomputable def one(f:A->Option Rr):List A->Option Rr
 |[a]=>f a
 |_=>none
def cP(f:A->Option Rr)(m:Mi Rr):Mi Rr:=aJ f m
def Fv(f:A->A->Option Rr)(m n:Mi Rr):Mi Rr:=az f m n
theorem nF{r:List V->Hp->VK->Prop}{f:A->Option Rr}{x:Str}{p:Pos}{m:Mi Rr}(hc:dg X (.builtin id) r)(hf:sE (kx X) (λv=>r [v]) f)(hg:Gl X x)(hm:X.mg x=none)(hv:XI x=some (.builtin id))(ha:JE X E e m)(hn:x ≠ "__name__")
  (hdb:fC x)(hs:XG [e] X.env=(false,eval e X.env)::XG [] X.env:=by rfl)(hp:(XQ pos (XG [] X.env)).any (·.1)=false:=by rfl):JE X E (.Call (.Name x p) [e] [] pos) (cP f m):=
 ⟨PE.weaken (jM hc hg hm hv (aX ha.p cu hs) hn hdb hs hp) λY H Q h=>jL hf Y H Q h⟩
theorem Al{T:String}{r:List V->Hp->VK->Prop}{f:A->Option Rr}{x:Str}{p:Pos}{m:Mi Rr}(hc:dg X (.type T) r)(hf:sE (kx X) (λv=>r [v]) f)(hg:Gl X x)(hm:X.mg x=none)(hv:XI x=some (.type T))(ha:JE X E e m)(hn:x ≠ "__name__")
  (hdb:fC x)(hs:XG [e] X.env=(false,eval e X.env)::XG [] X.env:=by rfl)(hp:(XQ pos (XG [] X.env)).any (·.1)=false:=by rfl):JE X E (.Call (.Name x p) [e] [] pos) (cP f m):=
 ⟨PE.weaken (fT hc hg hm hv (aX ha.p cu hs) hn hdb hs hp) λY H Q h=>jL hf Y H Q h⟩
theorem EZ{r:List V->Hp->VK->Prop}{f:A->A->Option Rr}{x:Str}{p:Pos}{e1 e2:Expr}{m n:Mi Rr}(hc:dg X (.builtin id) r)(hf:jc (kx X) (λv w=>r [v,w]) f)(hg:Gl X x)(hm:X.mg x=none)(hv:XI x=some (.builtin id))(h1:JE X E e1 m)(h2:JE X E e2 n)(hn:x ≠ "__name__")
  (hdb:fC x)(hs:XG [e1,e2] X.env=(false,eval e1 X.env)::XG [e2] X.env:=by rfl)(hs2:XG [e2] X.env=(false,eval e2 X.env)::XG [] X.env:=by rfl)(hp:(XQ pos (XG [e2] X.env)).any (·.1)=false:=by rfl):JE X E (.Call (.Name x p) [e1,e2] [] pos) (Fv f m n):=
 ⟨PE.weaken (jM hc hg hm hv (aX h1.p (aX h2.p cu hs2) hs) hn hdb hs hp) λY H Q h=>jH hf Y H Q h⟩
noncomputable def cW:A->Option Rr
 | .str z=>if z.length<=100000 then some (.fr (.int z.length)) else none
 | .lst xs=>some (.fr (.int xs.length))
 | .tup xs=>some (.fr (.int xs.length))
 |_=>none
theorem Ke:sE K (λv H Q=>∃x n,[v]=[x]/\KS K.K x H n/\Q (.int n) H) cW:=.scalar λH v a q f h=>by
 cases a<;>first|exact ke h|skip
 .cases f
  delta cW at h
  simp only at h;split at h
  .rename_i hz;cases h;exact⟨_,_,rfl,λ_=>.int _,λQ k=>⟨_,_,rfl,⟨Ru hz oM,rfl⟩,k⟩⟩
  .cases h
 .cases f with
  |tup e r=>cases h;exact⟨_,_,rfl,λ_=>.int _,λQ k=>⟨_,_,rfl,.inr ⟨_,e,rfl⟩,by rw[r.len];exact k⟩⟩
 .cases f with
  |lst e r=>cases h;exact⟨_,_,rfl,λ_=>.int _,λQ k=>⟨_,_,rfl,.inl ⟨_,e,rfl⟩,by rw[r.len];exact k⟩⟩
noncomputable def zJ:A->Option Rr
 | .int i=>some (.fr (.int (if i<0 then -i else i)))
 |_=>none
theorem Ji:sE K (λv H Q=>∃i,[v]=[V.int i]/\Q (.int (if i<0 then -i else i)) H) zJ:=.scalar λH v a q n h=>by
 cases a<;>first|exact ke h|skip
 cases n;cases h;exact⟨_,_,rfl,λ_=>.int _,λQ k=>⟨_,rfl,k⟩⟩
def Mv:A->A->Option Rr:=oH λi j=>some (.fr (.int (if j > i then j else i)))
def xy:A->A->Option Rr:=oH λi j=>some (.fr (.int (if j<i then j else i)))
theorem Jn:jc K (λv w H Q=>∃i j,[v,w]=[V.int i,V.int j]/\Q (.int (if j > i then j else i)) H) Mv:=.scalar λH v w a b q n O h=>by
 replace h:=cR h
 obtain⟨i,j,rfl,rfl,h⟩:=h
 cases n;cases O;cases h
 exact⟨_,_,rfl,λ_=>.int _,λQ k=>⟨_,_,rfl,k⟩⟩
theorem Jd:jc K (λv w H Q=>∃i j,[v,w]=[V.int i,V.int j]/\Q (.int (if j<i then j else i)) H) xy:=.scalar λH v w a b q n O h=>by
 replace h:=cR h
 obtain⟨i,j,rfl,rfl,h⟩:=h
 cases n;cases O;cases h
 exact⟨_,_,rfl,λ_=>.int _,λQ k=>⟨_,_,rfl,k⟩⟩
noncomputable def tT:A->Option Rr
 | .int i=>some (.fr (.int i))
 | .bl k=>some (.fr (.int (if k then 1 else 0)))
 |_=>none
theorem Js:sE K (λv H Q=>(∃i,[v]=[V.int i]/\Q (.int i) H)\/∃k,[v]=[V.bl k]/\Q (.int (if k then 1 else 0)) H) tT:=.scalar λH v a q n h=>by
 cases a<;>first|exact ke h|skip
 .cases n;cases h;exact⟨_,_,rfl,λ_=>.int _,λQ k=>.inr ⟨_,rfl,k⟩⟩
 .cases n;cases h;exact⟨_,_,rfl,λ_=>.int _,λQ k=>.inl ⟨_,rfl,k⟩⟩
noncomputable def JZ:A->Option (List A)
 | .lst xs=>some xs
 | .tup xs=>some xs
 |_=>none
def gE(a:A):Option Rr:=match JZ a with
 |some xs=>some (.nw (.lst xs))
 |none=>none
def lN(a:A):Option Rr:=match JZ a with
 |some xs=>some (.fr (.tup xs))
 |none=>none
theorem Ef:sE K (λv H Q=>∃p ys,[v]=[V.ref p]/\(dm K.K H p ys\/gW K.K H p ys)/\∀l,H l=none->Q (.ref l) (upd H l (.lst ys))) gE:=by
 intro c Y H Z B θ x v a q Q e r bd e1 N k;subst e;obtain⟨L,bl,s⟩:=Bd.open bd r e1;cases a<;>first|exact ke N|skip
 .rename_i xs;cases N;obtain⟨p,vs,rfl,s1,o⟩:=s.2.1 xs rfl;exact⟨p,vs,rfl,.inr (fL (g_same _ _ _) s1),λl hl=>k _ _ trivial (bl.kO hl λG H' sm q=>.lst q (o.sm sm))⟩
 .rename_i xs;cases N;obtain⟨p,vs,rfl,s1,o⟩:=s.1 xs rfl;exact⟨p,vs,rfl,.inl s1,λl hl=>k _ _ trivial (bl.kO hl λG H' sm q=>.lst q (o.sm sm))⟩
theorem zS:sE K (λv H Q=>∃p ys,[v]=[V.ref p]/\((dm K.K H p ys/\∀l,H l=none->Q (.ref l) (upd H l (.tup ys)))\/(gW K.K H p ys/\Q (.ref p) H))) lN:=by
 intro c Y H Z B θ x v a q Q e r bd e1 N k;subst e;obtain⟨L,bl,s⟩:=Bd.open bd r e1;cases a<;>first|exact ke N|skip
 .rename_i xs;cases N;obtain⟨p,vs,rfl,s1,o⟩:=s.2.1 xs rfl;exact⟨p,vs,rfl,.inr ⟨fL (g_same _ _ _) s1,k _ _ trivial (bl.push (.tup s1 o))⟩⟩
 .rename_i xs;cases N;obtain⟨p,vs,rfl,s1,o⟩:=s.1 xs rfl;refine⟨p,vs,rfl,.inl ⟨s1,λl hl=>?_⟩⟩;obtain⟨b2,sm,np⟩:=bl.new hl;exact k _ _ trivial (b2.push (.tup (.inl (.inl (by rw[bE np (bl.LU hl)];exact aI))) (o.sm sm)))
end
section
variable{c:Cn}{Y:St}{H:Hp}{Z:List Sl}{B:St}{θ:List Sl}
theorem Bd.uk{x:Option V}(e:xs.length=ss.length)(b:Bd c Y H Z (x::(xs++B)) (s::(ss++θ))):Bd c Y H Z (x::B) (s::θ):=by
 obtain⟨L,b⟩:=b;have r:ax c.toKx (c.g H L) H (x::(xs++(B++Y))) (s::(ss++(θ++Z))) L:=by have:=b.rel;simpa[QJ] using this
 cases r with
 |cons h r=>rename_i u L';obtain⟨X,L2,e1,n,k⟩:=ax.split e r;subst e1;have sl:(u++L2).Sublist (u++(X++L2)):=S4 (Tf _) (Tz _ _);have sm:Sq (c.g H (u++(X++L2))) (c.g H (u++L2)):=dF λa f=>sl.subset f;exact⟨u++L2,b.nd.sublist sl,ax.cons (h.sm sm (λ_ _ _ e=>e)) (k.sm sm (λ_ _ _ e=>e)),λp hp=>b.own p (sl.subset hp),b.fr,b.kp,by have:=b.lt;simp at this ⊢;lia,b.hd⟩
theorem Bd.O0{ys:St}(b:Bd c (Y++ys) H Z B θ):Bd c Y H (Z.take Y.length) B θ:=by
 have hl:=b.sC;rw[Q2] at hl;obtain⟨L,b⟩:=b;have r:ax c.toKx (c.g H L) H ((B++Y)++ys) ((θ++Z.take Y.length)++Z.drop Y.length) L:=by have:=b.rel;rw[QJ,QJ,Sy];exact this
 obtain⟨X,L2,e1,n,k⟩:=ax.split (by simp[b.lt];lia) r;subst e1;have sm:Sq (c.g H (X++L2)) (c.g H X):=dF λa f=>QI _ f;refine⟨X,(QQ.mp b.nd).1,n.sm sm (λ_ _ _ e=>e),λp hp=>b.own p (QI _ hp),b.fr,λi o h w=>?_,b.lt,b.hd⟩;have hi:i<(Z.take Y.length).length:=(QH.mp h).1;rw[RL] at hi;have h':Z[i]?=some o:=by rw[List.getElem?_take] at h;split at h;exact h;cases h
 have:=b.kp i o h' w;rwa[RM Q1] at this
theorem Bd.OW{n:Nat}(b:Bd c Y H Z B θ):Bd c (Y++QW n none) H (Z++QW n .un) B θ:=by
 have hl:=b.sC;obtain⟨L,b⟩:=b;refine⟨L,b.nd,?_,b.own,b.fr,λi o h w=>?_,b.lt,b.hd⟩
 .have:=b.rel.app (mL (k:=c.toKx) (G:=c.g H L) (H:=H) n);simpa[QJ] using this
 .by_cases z:i<Z.length
  .rw[RM z] at h;rw[RM Q1];exact b.kp i o h w
  .rw[Rx (by exact UH.mp ‹_›)] at h;have:=TR (Rw h);subst this;cases w
end
noncomputable abbrev Mg:=A->List Sl->Option (List Sl)
noncomputable abbrev B9:=List A->List Sl->Option (List Sl)
inductive NU(K:Kx)(lo:Nat)(G:Mg)(v:V)(Y:St)(H:Hp)(Q:St->Hp->Prop):Prop
 |mk(c:Cn)(Z:List Sl)(B:St)(θ:List Sl)(a:A)(O:List Sl)(h1:c.toKx=K)(h2:Bd c Y H Z (some v::B) (.fr a::θ))(h3:G a Z=some O)(h4:∀j H',j.take lo=Y.take lo->j.length=Y.length->Bd c j H' O B θ->Q j H')
inductive Oj(K:Kx)(lo:Nat)(G:B9)(vs:List V)(Y:St)(H:Hp)(Q:St->Hp->Prop):Prop
 |mk(c:Cn)(Z:List Sl)(B:St)(θ:List Sl)(as:List A)(O:List Sl)(h1:c.toKx=K)(h2:vs.length=as.length)(h3:Bd c Y H Z (vs.map some++B) (as.map Sl.fr++θ))(h4:G as Z=some O)(h5:∀j H',j.take lo=Y.take lo->j.length=Y.length->Bd c j H' O B θ->Q j H')
structure JG(X:Cx)(lo:Nat)(tg:Expr)(G:Mg):Prop where
 p:PG X tg (NU (kx X) lo G)
structure LG(X:Cx)(lo:Nat)(tg:List Expr)(G:B9):Prop where
 p:Kh X tg (Oj (kx X) lo G)
def aW(i:Nat):Mg:=λa Z=>put i (.fr a) Z
noncomputable def f6:B9:=λas Z=>match as with
 |[]=>some Z
 |_=>none
noncomputable def bU(g:Mg)(gs:B9):B9:=λas Z=>match as with
 |a::as=>match g a Z with
  |some U=>gs as U
  |none=>none
 |[]=>none
noncomputable def gD(n:Nat)(gs:B9):Mg:=λa Z=>match a with
 | .tup as=>if as.length=n then gs as Z else none
 |_=>none
variable{gs:B9}{tg iter:Expr}{body:List Stmt}
section
variable{X:Cx}{E:XK}{lo:Nat}
theorem CL{x:Str}(hN:X.N.Nodup)(hi:X.N[i]?=some x)(hx:Loc X.env.scope x)(hl:lo<=i)(hf:X.fn x=true\/X.env.scope.names.lookup x=some .local:=by first|exact .inl rfl|exact .inr rfl|assumption):JG X lo (.Name x pos) (aW i):=⟨λpins s Y H v u Q I r h=>by refine Ee hN hi hx hf pins s Y H v u Q I r ?_;obtain⟨c,Z,B,θ,a,O,ek,b,em,q⟩:=h;exact q _ H (by rw[List.take_set_of_le hl]) Z5 (Bd.put b rfl em)⟩
theorem EN:LG X lo [] f6:=⟨λpins s Y H v u Q I r h=>by
 refine Ez pins s Y H v u Q I r ?_;obtain⟨c,Z,B,θ,as,O,e,hl,b,em,q⟩:=h;cases as with
 |nil=>cases em;cases v with|nil=>exact⟨rfl,q Y H rfl rfl b⟩|cons _ _=>simp at hl
 | cons _ _=>cases em⟩
theorem Bc{g:Mg}(h1:JG X lo e g)(h2:LG X lo es gs)(hp:∀{t:TG}{u:Ff},PG X e t->Kh X es u->Kh X (e::es) (Fe t u)):LG X lo (e::es) (bU g gs):=⟨λpins s Y H v u Q I r h=>by
 refine hp h1.p h2.p pins s Y H v u Q I r ?_;obtain⟨c,Z,B,θ,as,O,x,hl,b,em,q⟩:=h;cases as with
 |nil=>cases em
 |cons a as=>
  cases v with
  |nil=>simp at hl
  |cons v vs=>
   delta bU at em
   simp only at em
   cases e1:g a Z with
   |none=>rw[e1] at em;cases em
   | some U=>rw[e1] at em;refine⟨v,vs,rfl,c,Z,_,_,a,U,x,b,e1,λj H' L l1 b1=>⟨c,U,B,θ,as,O,x,by simpa using hl,b1,em,λP S w l2 b2=>q P S (w.trans L) (l2.trans l1) b2⟩⟩⟩
theorem IJ{k n:Nat}(hc:X.calm=true)(h:LG X lo es gs)(hn:(XZ es X.env).length=n:=by rfl)(hst:(XZ es X.env).findIdx? (·.1)=none:=by rfl):JG X lo (.Tuple es k pos) (gD n gs):=⟨λpins s Y H v u Q I r h'=>by
 refine Ib hc h.p hn hst pins s Y H v u Q I r ?_;obtain⟨c,Z,B,θ,a,O,ek,b,em,q⟩:=h';cases a<;>first|exact ke em|skip
 rename_i as
 delta gD at em
 simp only at em;split at em
 .rename_i hl;obtain⟨L,bl,i1⟩:=Bd.open (r:=.fr (.tup as)) b trivial rfl;obtain⟨p,vs,rfl,s1,rr⟩:=i1.2.1 as rfl;have:c.K=X.K:=by have:=Zx Kx.K ek;exact this
  refine⟨p,vs,rfl,by rw[<-this];exact fL (g_same _ _ _) s1,by rw[rr.len];exact hl,c,Z,B,θ,as,O,ek,rr.len,?_,em,q⟩;obtain⟨nd,rel,own,fr,kp,lt,hdd⟩:=bl;exact⟨L,nd,by have:=(ax.kW (H:=H) rr).app rel;simpa[QJ] using this,own,fr,kp,by simp[lt,rr.len],hdd⟩
 .cases em⟩
def G0(K:Kx)(J:It)(T:St)(S:List A)(as:List A):Prop:=∀(c:Cn)(Y:St)(H:Hp)(Z:List Sl)(F:St)(D:List Sl)(B:St)(θ:List Sl)(i:Nat),c.toKx=K->F.length=D.length->Bd c Y H Z (F++(T++B)) (D++(S.map Sl.fr++θ))->
 (as.length<=i->J.stop i H)/\∀a,as[i]?=some a->J.go i H/\∀x H',J.yld i H x H'->Bd c Y H' Z (some x::(F++(T++B))) (.fr a::(D++(S.map Sl.fr++θ)))
def Lk(K:Kx)(E:XK)(c:Cn)(Y:St)(Z:List Sl)(B:St)(θ:List Sl)(R:It->Hp->Prop):Except Str (List A)->Prop
 | .ok as=>∀J H T S,T.length=S.length->G0 K J T S as->Bd c Y H Z (T++B) (S.map Sl.fr++θ)->R J H
 | .error x=>∀C H,K.mg x=some (.ref C)->Bd c Y H Z B θ->E (.ref C) none H
inductive Pw(K:Kx)(E:XK)(m:Mi (List A))(Y:St)(H:Hp)(R:It->Hp->Prop):Prop
 |mk(c:Cn)(Z:List Sl)(B:St)(θ:List Sl)(o:Except Str (List A))(O:List Sl)(h1:c.toKx=K)(h2:Bd c Y H Z B θ)(h3:m Z=some (o,O))(h4:Lk K E c Y O B θ R o)
structure JI(X:Cx)(E:XK)(tg iter:Expr)(m:Mi (List A)):Prop where
 p:PI X tg iter (Pw (kx X) E m)
theorem da{o:Except Str (List A)}{R:It->Hp->Prop}(q:Lk (kx X) E c Y O B θ R o):∀e,o=.error e->∀C H,X.mg e=some (.ref C)->Bd c Y H O B θ->E (.ref C) none H:=λe u=>by subst u;exact q
def Iu:A->Option (List A)
 |a=>JZ a
def cQ(m:Mi Rr):Mi (List A):=aS m λr Z=>match bR r Z with
 |some (a,O)=>match Iu a with
  |some as=>some (.ok as,O)
  |none=>none
 |none=>none
theorem Bd.mid{v:V}{a:A}(e:xs.length=ss.length)(b:Bd c Y H Z (xs++(some v::B)) (ss++(.fr a::θ))):∃L,dZ c Y H Z (xs++(some v::B)) (ss++(.fr a::θ)) L/\RA c.toKx (c.g H L) v a:=by
 obtain⟨L,b⟩:=b;have r:ax c.toKx (c.g H L) H (xs++(some v::(B++Y))) (ss++(.fr a::(θ++Z))) L:=by have:=b.rel;simpa[QJ] using this
 obtain⟨X,L2,e1,n,k⟩:=ax.split e r;cases k with
 |cons h Q=>cases h with|fr h=>exact⟨L,b,h⟩
theorem sI{l:Expr}{m:Mi Rr}(hl:JE X E l m):JI X E tg l (cQ m):=⟨λpins s Y H R I h=>by
 refine Cv hl.p pins s Y H R I ?_;obtain⟨c,Z,B,θ,o,O,e,b,em,q⟩:=h;refine bj e b em (λx v U S r b1 P=>?_) (da q);cases e1:bR x U with
 |none=>rw[e1] at P;cases P
 |some p=>
  obtain⟨a,Z0⟩:=p;rw[e1] at P;have b2:=Bd.bR (xs:=[]) (ss:=[]) rfl b1 r e1;cases e2:Iu a with
  |none=>simp only[e2] at P;cases P
  |some as=>
   simp only[e2] at P;cases P;have eK:c.K=X.K:=Zx Kx.K e;cases a<;>first|exact ke e2|skip
   .cases e2;have rt:=Bd.top b2 (a:=.tup as) rfl;cases rt with
    |tup w V=>
     rename_i p vs;refine⟨p,rfl,.inr ⟨⟨vs,by rw[<-eK];exact w⟩,q _ S [some (.ref p)] [.tup as] rfl (λC j H' O F D J T i z A t=>?_) b2⟩⟩;have G:C.K=X.K:=Zx Kx.K z;obtain⟨L,bl,h⟩:=Bd.mid A t;cases h with
     |tup N Q=>
      rename_i us;have sq:gW X.K H' p us:=by rw[<-G];exact fL (g_same _ _ _) N
      refine⟨λhi=>⟨us,sq,by rw[Q.len];exact hi⟩,λa f=>?_⟩;obtain⟨u,h1,h2⟩:=Q.ta f;refine⟨⟨us,u,sq,h1⟩,λx g y=>?_⟩;obtain⟨rfl,y⟩:=y;have:=y us sq;rw[h1] at this;cases this;exact bl.push h2
   .cases e2;have rt:=Bd.top b2 (a:=.lst as) rfl;cases rt with
    |lst w V=>
     rename_i p vs;refine⟨p,rfl,.inl ⟨⟨vs,by rw[<-eK];exact w⟩,q _ S [some (.ref p)] [.lst as] rfl (λC j H' O F D J T i z A t=>?_) b2⟩⟩;have G:C.K=X.K:=Zx Kx.K z;obtain⟨L,bl,h⟩:=Bd.mid A t;cases h with
     |lst N Q=>
      rename_i us;have sq:dm X.K H' p us:=by rw[<-G];exact dN (g_same _ _ _) N
      refine⟨λhi=>⟨us,sq,by rw[Q.len];exact hi⟩,λa f=>?_⟩;obtain⟨u,h1,h2⟩:=Q.ta f;refine⟨⟨us,u,sq,h1⟩,λx g y=>?_⟩;obtain⟨rfl,y⟩:=y;have:=y us sq;rw[h1] at this;cases this;exact bl.push h2⟩
noncomputable def bP(lo:Int)(n:Nat):List A:=(Q4 n).map λi=>.int (lo+(i:Nat))
theorem Ba{lo:Int}{n:Nat}:G0 K (KI lo n) [] [] (bP lo n):=λc Y H Z F D B θ i e A b=>by
 have hl:(bP lo n).length=n:=by simp[bP]
 refine⟨λh=>by rw[hl] at h;exact h,λa f=>?_⟩;have hi:i<n:=by rw[<-hl];exact(QH.mp f).1
 refine⟨hi,λx H' y=>?_⟩;obtain⟨rfl,rfl⟩:=y;have:a=.int (lo+i):=by unfold bP at f;rw[Rc,Ss hi] at f;exact(Q9 f).symm
 subst this;exact b.push λ_=>.int _
def gC(m:Mi Rr):Mi (List A):=aS m λr Z=>match res Z r with
 |some (.int j)=>if -(2^60)<=j/\j<2^60 then some (.ok (bP 0 j.toNat),Z) else none
 |_=>none
theorem DK{a:Expr}{m:Mi Rr}{p:Pos}(hg:Gl X "range")(hm:X.mg "range" = none)(ha:JE X E a m)(hs:XG [a] X.env=[(false,eval a X.env)]:=by rfl)(hs':XG [a] X.env=(false,eval a X.env)::XG [] X.env:=by rfl):JI X E tg (.Call (.Name "range" p) [a] [] pos) (gC m):=⟨λpins s Y H R I h=>by
 refine xg hg hm (aX ha.p cu hs') hs pins s Y H R I ?_;obtain⟨c,Z,B,θ,o,O,ek,b,em,q⟩:=h;refine bj ek b em (λx v U H1 hv b1 em1=>?_) (da q);cases e1:res U x with
 |none=>rw[e1] at em1;cases em1
 |some a=>
  have r1:=Bd.rd b1 hv e1;rw[e1] at em1;cases a<;>first|exact ke em1|skip
  rename_i j;simp only at em1;split at em1
  .rename_i hj;cases em1;cases r1;exact⟨j,rfl,by lia,by lia,q _ H1 [] [] rfl Ba b1.drop⟩
  .cases em1⟩
theorem zH{u:Option A}{F:Int->Option α}{r:α} (h:(match u with
   |some (.int k)=>F k
   | _=>none)=some r):∃k,u=some (.int k)/\F k=some r:=by
 split at h
 .rename_i k;exact⟨k,rfl,h⟩
 .cases h
theorem qz{u w:Option A}{F:Int->Int->Option α}{r:α} (h:(match u,w with
 |some (.int i),some (.int j)=>F i j
 | _,_=>none)=some r):∃i j,u=some (.int i)/\w=some (.int j)/\F i j=some r:=by
 split at h
 .rename_i i j;exact⟨i,j,rfl,rfl,h⟩
 .cases h
def qu(m n:Mi Rr):Mi (List A):=aS m λr=>aS n λt=>λZ=>match res Z r,res Z t with
 |some (.int i),some (.int j)=>if -(2^60)<=i/\i<2^60 /\ -(2^60)<=j/\j<2^60 then some (.ok (bP i (j-i).toNat),Z) else none
 |_,_=>none
theorem Ew{a b:Expr}{m n:Mi Rr}{p:Pos}(hg:Gl X "range")(hm:X.mg "range" = none)(ha:JE X E a m)(hb:JE X E b n)(hs:XG [a,b] X.env=[(false,eval a X.env),(false,eval b X.env)]:=by rfl)(hs2:XG [b] X.env=[(false,eval b X.env)]:=by rfl)
  (hs3:XG [a,b] X.env=(false,eval a X.env)::XG [b] X.env:=by rfl)(hs4:XG [b] X.env=(false,eval b X.env)::XG [] X.env:=by rfl):JI X E tg (.Call (.Name "range" p) [a,b] [] pos) (qu m n):=⟨λpins s Y H R I h=>by
 refine wM hg hm (aX ha.p (aX hb.p cu hs4) hs3) hs hs2 pins s Y H R I ?_;obtain⟨c,Z,B,θ,o,O,ek,b,em,q⟩:=h;refine bj ek b em (λx v U H1 hv b1 em1=>?_) (da q);refine bj ek b1 em1 (λy w Z0 H2 hw b2 em2=>?_) (c6 (da q));obtain⟨i,j,e1,e2,em2⟩:=qz em2;obtain⟨rfl,rfl⟩:v=.int i/\w=.int j:=by have r2:=Bd.rd b2 hw e2;have r1:=Bd.rd b2.drop hv e1;cases r1;cases r2;exact⟨rfl,rfl⟩
 split at em2
 .rename_i hj;cases em2;exact⟨i,j,rfl,⟨by lia,by lia,by lia,by lia⟩,q _ H2 [] [] rfl Ba b2.drop.drop⟩
 .cases em2⟩
noncomputable def forL(G:Mg)(b:Ms):List A->Ms
 |[],Z=>some (.nx,Z)
 |a::as,Z=>match G a Z with
  |none=>none
  |some U=>match b U with
   |some (.nx,Z0)=>forL G b as Z0
   |some (.ct,Z0)=>forL G b as Z0
   |some (.bk,Z0)=>some (.nx,Z0)
   |r=>r
def iG(m:Mi (List A))(G:Mg)(b:Ms):Ms:=cZ m λas Z=>forL G b as Z
theorem GF{m:Mi (List A)}{G:Mg}{mb:Ms}(hp:YH (XO X.prog X.w) X.A X.env X.xe)(hc:X.calm=true)(hi:JI X E tg iter m)(hg:JG X 0 tg G)(hb:rb X E body mb)
  (hs:∀x,X0 iter X.env x=pure x:=by intro _;rfl):JS X E (.For tg iter body [] pos) (iG m G mb):=⟨PS.weaken (Jb hp hc hi.p hg.p hb.p hs) λD Y H h=>by
 obtain⟨c,Z,B,θ,f,O,ek,b,em,q⟩:=h;rcases fc em with ⟨as,U,e1,e2⟩|⟨e,e1,e2⟩
 .refine⟨c,Z,B,_,_,U,ek,b,e1,λJ H1 T S li it b1=>?_⟩;refine⟨λi m j H'=>m=as.length-i/\i<=as.length/\∃R,Bd c j H' R (T++B) (S.map Sl.fr++θ.map Sl.fr)/\forL G mb (as.drop i) R=some (f,O),⟨_,rfl,SD _,U,b1,by simpa using e2⟩,?_⟩;rintro i m j H' ⟨rfl,hi,R,bi,ei⟩;obtain⟨i1,i2⟩:=it c j H' R [] [] B (θ.map Sl.fr) i ek rfl bi;by_cases hlt:i<as.length
  .have hd:as.drop i=as[i]::as.drop (i+1):=SK hlt;rw[hd] at ei;obtain⟨go,yl⟩:=i2 as[i] (by simp[hlt]);refine .inr ⟨go,λP H2=>∃Z0,Bd c P H2 Z0 (T++B) (S.map Sl.fr++θ.map Sl.fr)/\forL G mb (as.drop (i+1)) Z0=some (f,O),λP H2 ⟨Z0,q1,q2⟩=>⟨as.length-(i+1),by lia,rfl,hlt,Z0,q1,q2⟩,λx H2 y=>?_⟩;have b2:=yl x H2 y;unfold forL at ei;cases eg:G as[i] R with
   |none=>rw[eg] at ei;cases ei
   |some Z0=>
    rw[eg] at ei;refine⟨c,R,_,_,as[i],Z0,ek,b2,eg,λV H3 _ _ b3=>?_⟩;cases eb:mb Z0 with
    |none=>simp only[eb] at ei;cases ei
    |some p=>
     obtain⟨f1,Z1⟩:=p;simp only[eb] at ei;refine⟨c,Z0,T++B,S++θ,f1,Z1,ek,by rw[Rq];exact b3,eb,?_⟩;cases f1 with
     |nx=>intro Q H4 b4;rw[Rq] at b4;exact⟨Z1,b4,ei⟩
     |ct=>intro Q H4 b4;rw[Rq] at b4;exact⟨Z1,b4,ei⟩
     |bk=>cases ei;intro Q H4 b4;rw[Rq] at b4;exact q Q H4 (Bd.Cm (by simp[li]) b4)
     |rt s=>cases ei;intro v Q H4 hs b4;rw[Rq] at b4;exact q v Q H4 hs (Bd.uk (by simp[li]) b4)
     |ex x=>cases ei;intro C Q H4 hm b4;rw[Rq] at b4;exact q C Q H4 hm (Bd.Cm (by simp[li]) b4)
  .have e:i=as.length:=by lia
   subst e;rw[T3] at ei;cases ei;exact .inl ⟨i1 (QN _),q j H' (Bd.Cm (by simp[li]) bi)⟩
 .subst e2;exact⟨c,Z,B,_,_,O,ek,b,e1,λC H1 hm b1=>q C Y H1 hm b1⟩⟩
noncomputable def dB(t:Mi Bool)(b:Ms):Nat->Ms
 |0,_=>none
 |n+1,Z=>match t Z with
  |some (.ok true,U)=>match b U with
   |some (.nx,Z0)=>dB t b n Z0
   |some (.ct,Z0)=>dB t b n Z0
   |some (.bk,Z0)=>some (.nx,Z0)
   |r=>r
  |some (.ok false,U)=>some (.nx,U)
  |some (.error e,U)=>some (.ex e,U)
  |none=>none
def g8(n:Nat)(t:Mi Bool)(b:Ms):Ms:=dB t b n
theorem yK{n:Nat}{t:Expr}{mb:Ms}(hp:YH (XO X.prog X.w) X.A X.env X.xe)(l:JT X E t mt)(d:rb X E body mb):JS X E (.While t body [] pos) (g8 n mt mb):=⟨PS.weaken (yQ hp l.p d.p) λD Y H h=>by
 obtain⟨c,Z,B,θ,f,O,I,b,em,q⟩:=h;refine⟨λm j H'=>∃R,Bd c j H' R B (θ.map Sl.fr)/\dB mt mb m R=some (f,O),⟨n,Z,b,em⟩,?_⟩;rintro m j H' ⟨R,F,y⟩;cases m with
 |zero=>cases y
 |succ m=>
  unfold dB at y;cases z:mt R with
  |none=>rw[z] at y;cases y
  |some p=>
   obtain⟨o,U⟩:=p;refine⟨c,R,B,_,o,U,I,F,z,?_⟩;cases o with
   |error e=>rw[z] at y;cases y;exact λC i hm b1=>q C j i hm b1
   |ok k=>
    intro i b1;cases k with
    |false=>rw[z] at y;cases y;rw[Zu Z3];exact q j i b1
    |true=>
     rw[z] at y;rw[Zt rfl];refine⟨λP S=>∃Z0,Bd c P S Z0 B (θ.map Sl.fr)/\dB mt mb m Z0=some (f,O),λP S w=>⟨m,Sd _,w⟩,?_⟩;cases G:mb U with
     |none=>simp only[G] at y;cases y
     |some p=>
      obtain⟨r,Z1⟩:=p;simp only[G] at y;refine⟨c,U,B,θ,r,Z1,I,b1,G,?_⟩;cases r with
      |nx=>exact λQ L J=>⟨Z1,J,y⟩
      |ct=>exact λQ L J=>⟨Z1,J,y⟩
      |bk=>cases y;exact λQ L J=>q Q L J
      |rt s=>cases y;exact λv Q L hs J=>q v Q L hs J
      | ex x=>cases y;exact λC Q L hm J=>q C Q L hm J⟩
end
theorem oy(r:Rr)(v:V)(t:St)(u:List Sl):cO r v t=cO r v []++t/\cM r u=cM r []++u/\(cO r v []).length=(cM r []).length:=by cases r<;>exact⟨rfl,rfl,rfl⟩
def dw(G:Mg)(t:Mi Bool)(e:Mi Rr):List A->List A->List Sl->Option (List A×List Sl)
 |[],acc,Z=>some (acc,Z)
 |a::as,acc,Z=>match G a Z with
  |none=>none
  |some U=>match t U with
   |some (.ok true,Z0)=>match e Z0 with
    |some (.ok r,Z1)=>match bR r Z1 with
     |some (d,N)=>dw G t e as (acc++[d]) N
     |none=>none
    |_=>none
   |some (.ok false,Z0)=>dw G t e as acc Z0
   |_=>none
inductive LH(G:Mg)(t:Mi Bool)(e:Mi Rr)(a:A)(as acc:List A)(Z:List Sl)(r:List A×List Sl):Prop
 |skip{U Z0:List Sl}(g:G a Z=some U)(k:t U=some (.ok false,Z0))(q:dw G t e as acc Z0=some r)
 |take{d:A}{u:Rr}{U Z0 Z1 N:List Sl}(g:G a Z=some U)(k:t U=some (.ok true,Z0))(m:e Z0=some (.ok u,Z1))(f:bR u Z1=some (d,N))(q:dw G t e as (acc++[d]) N=some r)
theorem wB{G:Mg}{t:Mi Bool}{e:Mi Rr}{a:A}{as acc:List A}{r:List A×List Sl}(h:dw G t e (a::as) acc Z=some r):LH G t e a as acc Z r:=by
 unfold dw at h;split at h
 .cases h
 .rename_i U b;split at h
  .rename_i Z0 Y;split at h
   .rename_i u Z1 c;split at h
    .rename_i d N B;exact .take b Y c B h
    .cases h
   .cases h
  .rename_i Z0 Y;exact .skip b Y h
  .cases h
def aV:Mi Bool:=mB true
def aU(n:Nat)(b:Mi (List A))(G:Mg)(t:Mi Bool)(e:Mi Rr):Mi Rr:=aS b λas Z=>if as.length<=100000 then match dw G t e as [] (Z++QW n .un) with
 |some (ys,O)=>some (.ok (.nw (.lst ys)),O.take Z.length)
 |none=>none else none
structure JF(X:Cx)(E:XK)(ifs:List Expr)(m:Mi Bool):Prop where
 p:PF X ifs (CU (kx X) E m)
variable{me:Mi Rr}{lo:Nat}{N:List Str}{elt:Expr}{ifs:List Expr}{px:Pos}
section
variable{X:Cx}{E:XK}
theorem JK:JF X E [] aV:=⟨λpins s Y H Q I h=>by refine Jz pins s Y H Q I ?_;obtain⟨c,Z,B,θ,o,O,e,b,em,q⟩:=h;cases em;exact q H b⟩
theorem JR{t:Expr}{m:Mi Bool}(h:JT X E t m):JF X E [t] m:=⟨Jj h.p⟩
noncomputable abbrev uV:XK:=λ_ _ _=>False
theorem wc{n:Nat}{G:Mg}{T:St}{r:Hp}{U Z0:List Sl}{S as ys:List A}{J:It}(O:Y.length=lo)(l:c.toKx=kx X)(li:T.length=S.length)
  (it:∀Y H Z F D i,F.length=D.length->Bd c Y H Z (F++(T++B)) (D++(S.map Sl.fr++θ))->(as.length<=i->J.stop i H)/\∀a,as[i]?=some a->J.go i H/\∀x H',J.yld i H x H'->Bd c Y H' Z (some x::(F++(T++B))) (.fr a::(D++(S.map Sl.fr++θ))))
  (b1:Bd c Y r U (T++B) (S.map Sl.fr++θ))(d:as.length<=100000)(ec:dw G mt me as [] (U++QW n .un)=some (ys,Z0))(q:Oh (kx X) E c Y (Z0.take U.length) B θ Q (.ok (.nw (.lst ys)))):
  AJ J (NU (kx X) lo G) (CU (kx X) uV mt) (kN (kx X) uV me) Q (Y++QW n none) r:=by
 have u:=b1.sC;refine⟨λi m j vs H'=>m=as.length-i/\i<=as.length/\j.take lo=Y/\∃R acc,vs.length=acc.length/\acc.length<=i/\Bd c j H' R (vs.reverse.map some++(T++B)) (acc.reverse.map Sl.fr++(S.map Sl.fr++θ))/\dw G mt me (as.drop i) acc R=some (ys,Z0),
  ⟨_,rfl,SD _,by rw[<-O,List.take_left],_,[],rfl,SD _,b1.OW,by simpa using ec⟩,?_⟩
 rintro i m j vs H' ⟨rfl,hi,z,R,acc,lv,la,bi,h⟩;refine⟨by have:=oM;lia,?_⟩;obtain⟨i1,i2⟩:=it j H' R (vs.reverse.map some) (acc.reverse.map Sl.fr) i (by simp[lv]) bi;by_cases o:i<as.length
 .have hd:=SK o;rw[hd] at h;obtain⟨go,yl⟩:=i2 as[i] (by simp[o]);refine .inr ⟨go,λP w g=>P.take lo=Y/\∃Z1 b,w.length=b.length/\b.length<=i+1/\Bd c P g Z1 (w.reverse.map some++(T++B)) (b.reverse.map Sl.fr++(S.map Sl.fr++θ))/\dw G mt me (as.drop (i+1)) b Z1=some (ys,Z0),
   λP w g ⟨q0,Z1,b,q1,q2,q3,q4⟩=>⟨as.length-(i+1),by lia,rfl,o,q0,Z1,b,q1,q2,q3,q4⟩,λx g y=>?_⟩
  have b2:=yl x g y;have fin:∀{Z1 N:List Sl}{k:Bool},G as[i] R=some Z1->mt Z1=some (.ok k,N)->(∀V L,V.take lo=Y->Bd c V L N (vs.reverse.map some++(T++B)) (acc.reverse.map Sl.fr++(S.map Sl.fr++θ))->if k=true then kN (kx X) uV me V L λv t=>V.take lo=Y/\∃Z1 b,(vs++[v]).length=b.length/\b.length<=i+1/\Bd c V t Z1 ((vs++[v]).reverse.map some++(T++B)) (b.reverse.map Sl.fr++(S.map Sl.fr++θ))/\dw G mt me (as.drop (i+1)) b Z1=some (ys,Z0) else V.take lo=Y/\∃Z1 b,vs.length=b.length/\b.length<=i+1/\Bd c V L Z1 (vs.reverse.map some++(T++B)) (b.reverse.map Sl.fr++(S.map Sl.fr++θ))/\dw G mt me (as.drop (i+1)) b Z1=some (ys,Z0))->NU (kx X) lo G x j g λV H3=>CU (kx X) uV mt V H3 λk L=>if k=true then kN (kx X) uV me V L λv t=>V.take lo=Y/\∃Z1 b,(vs++[v]).length=b.length/\b.length<=i+1/\Bd c V t Z1 ((vs++[v]).reverse.map some++(T++B)) (b.reverse.map Sl.fr++(S.map Sl.fr++θ))/\dw G mt me (as.drop (i+1)) b Z1=some (ys,Z0) else V.take lo=Y/\∃Z1 b,vs.length=b.length/\b.length<=i+1/\Bd c V L Z1 (vs.reverse.map some++(T++B)) (b.reverse.map Sl.fr++(S.map Sl.fr++θ))/\dw G mt me (as.drop (i+1)) b Z1=some (ys,Z0):=
   λC I f=>⟨c,R,_,_,as[i],_,l,b2,C,λV H3 K l3 b3=>⟨c,_,_,_,.ok _,_,l,b3,I,λL s=>f V L (K.trans z) s⟩⟩
  cases wB h with
  |skip C I h=>exact fin C I λV L K s=>⟨K,_,acc,lv,by exact We ‹_›,s,h⟩
  |take C I ee ef h=>exact fin C I λV L K s=>⟨c,_,_,_,_,_,l,s,ee,λv t hv b5=>⟨K,_,_,by simp[lv],by simp;exact id ‹_›,by simpa using Bd.bR (xs:=[]) (ss:=[]) rfl b5 hv ef,h⟩⟩
 .have e:i=as.length:=by lia
  subst e;rw[T3] at h;cases h;refine .inl ⟨i1 (QN _),λp hp=>?_⟩;have b7:=Bd.A6 bi (by simp[lv]) hp vs ys uu;have b8:=Bd.uk (by simp[li]) b7;have es:j=Y++j.drop lo:=by rw[<-z];exact(Sy _ _).symm
  rw[es] at b8;have b9:=b8.O0;rw[u] at b9;exact q _ _ trivial b9
theorem oE{n:Nat}{m:Mi (List A)}{G:Mg}(Y:St)(H:Hp)(Q:VK)(x:Y.length=lo)(h:kN (kx X) E (aU n m G mt me) Y H Q):
  BH n (Pw (kx X) E m) (NU (kx X) lo G) (CU (kx X) uV mt) (kN (kx X) uV me) Y H Q:=by
 obtain⟨c,Z,B,θ,o,O,v,b,em,q⟩:=h;rcases bind_some em with ⟨as,U,e1,e2⟩|⟨e,e1,e2⟩
 .refine⟨c,Z,B,θ,_,U,v,b,e1,λJ L T S y it b1=>?_⟩;split at e2
  .rename_i d;cases I:dw G mt me as [] (U++QW n .un) with
   |none=>rw[I] at e2;cases e2
   |some p=>rw[I] at e2;cases e2;exact wc x v y (λY H Z F D i l b=>it c Y H Z F D B θ i v l b) b1 d I q
  .cases e2
 .subst e2;exact⟨c,Z,B,θ,_,O,v,b,e1,λC L hm b1=>q C L hm b1⟩
theorem Es{k:Nat}{sc:Scope}{mi:Mi (List A)}{G:Mg}(hc:X.calm=true)(S:gk X.N N k sc X.env.scope)(hlo:X.N.length=lo)(hi:JI X E tg iter mi)
  (hg:∀cl C s H fp,JG (jl X N sc cl C s H fp) lo tg G)(ht:∀cl C s H fp,JF (jl X N sc cl C s H fp) uV ifs mt)(he:∀cl C s H fp,JE (jl X N sc cl C s H fp) uV elt me)(hs:∀x,X0 iter X.env x=pure x:=by intro _;rfl):
  JE X E (.ListComp elt [⟨tg,iter,ifs,0⟩] sc pos) (aU k mi G mt me):=
 ⟨λpins s Y H Q I h=>Ek hc S hi.p (λcl C s H fp=>(hg cl C s H fp).p) (λcl C s H fp=>(ht cl C s H fp).p) (λcl C s H fp=>(he cl C s H fp).p) hs pins s Y H Q I (oE Y H Q (I.len.trans hlo) h)⟩
theorem Ce{x:Str}{spos:Pos}{k:Nat}{sc:Scope}{mi:Mi (List A)}{G:Mg}(hc:X.calm=true)(S:gk X.N N k sc X.env.scope)(hlo:X.N.length=lo)(hN:X.N.Nodup)(hx:X.N[i]?=some x)
  (hl:X.env.scope.names.lookup x=some .local)(hsw:X4 (.ListComp elt [⟨tg,iter,ifs,0⟩] sc pos) (some (.Name x px)) spos.line X.env=pure true)(hi:JI X E tg iter mi)
  (hg:∀cl C s H fp,JG (jl X N sc cl C s H fp) lo tg G)(ht:∀cl C s H fp,JF (jl X N sc cl C s H fp) uV ifs mt)(he:∀cl C s H fp,JE (jl X N sc cl C s H fp) uV elt me)(hs:∀x,X0 iter X.env x=pure x:=by intro _;rfl):
  JS X E (.Assign [.Name x px] (.ListComp elt [⟨tg,iter,ifs,0⟩] sc pos) spos) (aF i (aU k mi G mt me)):=
 ⟨λpins s Y H D I h=>Eb hc S hN hx hl hsw hi.p (λcl C s H fp=>(hg cl C s H fp).p) (λcl C s H fp=>(ht cl C s H fp).p) (λcl C s H fp=>(he cl C s H fp).p) hs pins s Y H D I (by
  obtain⟨c,Z,B,θ,f,O,ek,b,em,q⟩:=h;refine oE Y H _ (I.len.trans hlo) (d0 ek b em q λr v U H1 hv b1 em1=>?_);cases e1:xM r U with
  |none=>rw[e1] at em1;cases em1
  |some p=>
   obtain⟨t,Z0⟩:=p;rw[e1] at em1;obtain⟨b2,ht⟩:=Bd.xM hv b1 e1;cases e2:put i t Z0 with
   |none=>simp only[e2] at em1;cases em1
   | some Z1=>simp only[e2] at em1;cases em1;exact q _ H1 (Bd.put b2 ht e2))⟩
noncomputable def aE(Z:List Sl)(i:Nat):Option LO:=match Z[i]? with
 |some (.lv o)=>some o
 |some (.pv o)=>some o
 |_=>none
noncomputable def setAt(Z:List Sl)(i:Nat)(o:LO):List Sl:=match Z[i]? with
 |some (.pv _)=>Z.set i (.pv o)
 |_=>Z.set i (.lv o)
theorem dZ.live(b:dZ c Y H Z B θ L)(h:aE Z i=some o)(o':LO)(u:HO):
  ∃p q,Y[i]?=some (some (.ref p))/\LR c.toKx (c.g H L) H p o q/\((∀H',H' p=some u->LR c.toKx (c.g H L) H' p o' q)->Bd c Y (upd H p u) (setAt Z i o') B θ):=by
 delta aE at h
 delta setAt
 cases es:Z[i]? with
 |none=>rw[es] at h;cases h
 |some s=>
  cases s with
  |un=>rw[es] at h;cases h
  |cf _=>rw[es] at h;cases h
  |fr a=>rw[es] at h;cases h
  |lv x=>rw[es] at h;cases h;obtain⟨p,q,h1,h2,h3⟩:=b.change es (.inl ⟨rfl,rfl⟩);exact⟨p,q,h1,h2,λk=>h3 λH' e _=>k H' e⟩
  |pv x=>rw[es] at h;cases h;obtain⟨p,q,h1,h2,h3⟩:=b.change es (.inr ⟨rfl,rfl⟩);exact⟨p,q,h1,h2,λk=>h3 λH' e _=>k H' e⟩
theorem Bd.ur{v:V}{a:A}(b:Bd c Y H Z (some v::B) (.fr a::θ)):∃L,dZ c Y H Z B θ L/\RA c.toKx (c.g H L) v a:=by obtain⟨L,bl,r⟩:=Bd.kW (vs:=[v]) (as:=[a]) b rfl;cases r with|cons h _=>exact⟨L,bl,h⟩
def Em(i:Nat)(m:Mi Rr):Mi Rr:=aS m λr Z=>match bR r Z with
 |some (a,U)=>match aE U i with
  |some (.lst xs)=>if xs.length<=16000000 then some (.ok (.fr .non),setAt U i (.lst (xs++[a]))) else none
  |_=>none
 |none=>none
theorem mE{xs:List A}(b:Bd c Y H Z B θ)(h:aE Z i=some (.lst xs)):∃p vs,Y[i]?=some (some (.ref p))/\H p=some (.lst vs):=by obtain⟨L,b⟩:=b;obtain⟨p,_,h1,h2,D⟩:=b.live h (.lst xs) (.lst []);cases h2 with|lst e r=>exact⟨p,_,h1,e⟩
def M9(Z:List Sl)(i:Nat):Bool:=match aE Z i with
 |some (.lst _)=>true
 |_=>false
def Mc(i:Nat)(m:Mi Rr):Mi Rr:=λZ=>if M9 Z i then m Z else none
theorem rV(h:M9 Z i=true):∃xs,aE Z i=some (.lst xs):=by
 delta M9 at h
 cases e:aE Z i with
 |none=>rw[e] at h;cases h
 |some o=>cases o with
  |lst xs=>exact⟨xs,rfl⟩
  |dic _=>rw[e] at h;cases h
  |dit _=>rw[e] at h;cases h
  |obj _ _=>rw[e] at h;cases h
  |nob _ _ _=>rw[e] at h;cases h
theorem Kt{x:Str}{apos cpos:Pos}{m:Mi Rr}(hN:X.N[i]?=some x)(hv:kq X.env.scope x)(hd:fC x)(hcd:k9 x)(he:JE X E e m)
  (hbase:XM (.Name x px) "append" X.env (eval (.Name x px) X.env)=eval (.Name x px) X.env:=by rfl)
  (hfew:((XQ cpos (XG [e] X.env)).all (λx=>!x.1)&&(X6 cpos (XW [] X.env)).all (λx=>x.1.isSome)&&decide (([e]:List Expr).length+([]:List X1).length+(if ([]:List X1).isEmpty then 0 else 1)<30))=true:=by rfl)
  (hline:(apos.endLine==cpos.line)=true:=by rfl)(hs:XG [e] X.env=(false,eval e X.env)::XG [] X.env:=by rfl)(hplain:(XQ cpos (XG [] X.env)).any (·.1)=false:=by rfl):
  JE X E (.Call (.Attribute (.Name x px) "append" apos) [e] [] cpos) (Mc i (Em i m)):=
 ⟨PE.weaken (oj R6 Tw Tx km (bM hN hv hd hcd) (aX he.p cu hs) hbase hfew hline hs hplain) λY H Q h=>by
  obtain⟨c,Z,B,θ,o,O,ek,b,em,q⟩:=h
  delta Mc at em
  split at em
  .rename_i hl;obtain⟨xs0,hl⟩:=rV hl;obtain⟨p,vs,hp,hH⟩:=mE b hl;refine⟨_,hp,.inl ⟨rfl,vs,.inl (.inl hH)⟩,?_⟩;refine bj ek b em (λr v U H1 hv b1 em1=>?_) (bQ q);cases e1:bR r U with
   |none=>rw[e1] at em1;cases em1
   |some pr=>
    obtain⟨a,Z0⟩:=pr;rw[e1] at em1;have b2:=Bd.bR (xs:=[]) (ss:=[]) rfl b1 hv e1;cases e2:aE Z0 i with
    |none=>simp only[e2] at em1;cases em1
    |some lo=>
     cases lo with
     |dic _=>simp only[e2] at em1;cases em1
     |dit _=>simp only[e2] at em1;cases em1
     |obj _ _=>simp only[e2] at em1;cases em1
     |nob _ _ _=>simp only[e2] at em1;cases em1
     |lst xs=>
      simp only[e2] at em1;split at em1
      .rename_i hx;cases em1;obtain⟨L,bl,ra⟩:=Bd.ur b2;obtain⟨p',_,h1,h2,h3⟩:=bl.live e2 (.lst (xs++[a])) (.lst ((match H1 p with|some (.lst ws)=>ws|_=>[])++[v]));rw[hp] at h1;cases h1;cases h2 with
       |lst e rr=>rename_i ws;rw[e] at h3;refine⟨p,ws,v,rfl,rfl,e,by have:=rr.len;have:=Yd;lia,q _ _ trivial (Bd.push (h3 λH' hh=>.lst hh (rr.snoc ra)) λ_=>.non)⟩
      .cases em1
  .cases em⟩
def gq(i:Nat)(mk m:Mi Rr):Ms:=cZ m λr S=>if M9 S i then cZ mk (λc=>λZ=>match bR r Z with
 |some (a,U)=>match res U c,aE U i with
  |some (.int k),some (.lst xs)=>match gz xs.length k with
   |some j=>some (.nx,setAt U i (.lst (xs.set j a)))
   |none=>none
  |_,_=>none
 | none=>none) S else none
theorem BK{x:Str}{F:Pos}{I:Expr}{mk m:Mi Rr}(hN:X.N[i]?=some x)(A:kq X.env.scope x)(hd:fC x)(y:k9 x)(hk:JE X E I mk)(he:JE X E e m)
  (hp:∀{K u T:TE},PE X (.Name x px) K->PE X I u->PE X e T->PS X (.Assign [.Subscript (.Name x px) I F] e pos) (qP T (ya K u qT))):JS X E (.Assign [.Subscript (.Name x px) I F] e pos) (gq i mk m):=
 ⟨PS.weaken (hp (bM hN A hd y) hk.p he.p) λD Y H h=>by
  obtain⟨c,Z,B,θ,f,O,I,b,em,q⟩:=h;refine d0 I b em q λr v U H1 A b1 P=>?_;split at P
  .rename_i hl;obtain⟨l,hl⟩:=rV hl;obtain⟨p,vs,hp,hH⟩:=mE b1 hl;refine⟨_,hp,?_⟩;rcases fc P with ⟨R,Z0,e1,e2⟩|⟨ee,e1,e2⟩
   .refine⟨c,U,_,_,_,Z0,I,b1,e1,λw S V b2=>?_⟩;cases G:bR r Z0 with
    |none=>rw[G] at e2;cases e2
    |some pr=>
     obtain⟨a,Z1⟩:=pr;rw[G] at e2;have s:Bd c Y S Z1 (cO R w (some v::B)) (cM R (.fr a::θ.map Sl.fr)):=by obtain⟨g,n,d⟩:=oy R w (cO r v B) (cM r (θ.map Sl.fr));obtain⟨g4,g5,_⟩:=oy R w (some v::B) (.fr a::θ.map Sl.fr);rw[g4,g5];rw[g,n] at b2;exact Bd.bR d b2 A G
     cases J:res Z1 R with
     |none=>simp only[J] at e2;cases e2
     |some ak=>
      cases ak<;>first|(simp only[J] at e2;cases e2;done)|skip
      rename_i k;have o:=Bd.rd s V J;cases o;cases Q:aE Z1 i with
      |none=>simp only[J,Q] at e2;cases e2
      |some lo=>
       cases lo with
       |dic _=>simp only[J,Q] at e2;cases e2
       |dit _=>simp only[J,Q] at e2;cases e2
       |obj _ _=>simp only[J,Q] at e2;cases e2
       |nob _ _ _=>simp only[J,Q] at e2;cases e2
       |lst xs=>
        simp only[J,Q] at e2;cases z:gz xs.length k with
        |none=>rw[z] at e2;cases e2
        |some j=>
         rw[z] at e2;cases e2;obtain⟨L,bl,ra⟩:=Bd.ur s.drop;obtain⟨p',_,h1,h2,h3⟩:=bl.live Q (.lst (xs.set j a)) (.lst ((match S p with|some (.lst ws)=>ws|_=>[]).set j v));rw[hp] at h1;cases h1;cases h2 with
         |lst e t=>rename_i ws;rw[e] at h3;exact⟨p,ws,k,j,rfl,rfl,e,by rw[t.len];exact z,q Y _ (h3 λH' hh=>.lst hh (t.set ra j))⟩
   .subst e2;exact⟨c,U,_,_,_,O,I,b1,e1,λC S hm b2=>q C Y S hm b2.drop⟩
  .cases P⟩
end
section
variable{X:Cx}{E:XK}
open PySem.Spec PyProof.Rows PySem.W in
open PySem.Spec PyProof.Rows PySem.W in
end
theorem dZ.L7{v:V}{a b:A}(bl:dZ c Y H Z B θ L)(h1:RA c.toKx (c.g H L) v a)(h2:RA c.toKx (c.g H L) w b):Bd c Y H Z (some v::some w::B) (.fr a::.fr b::θ):=
 ⟨L,bl.nd,ax.cons (.fr h1) (ax.cons (.fr h2) bl.rel),bl.own,bl.fr,bl.kp,by simp[bl.lt],bl.hd⟩
variable{j:Nat}
section
variable{X:Cx}{E:XK}
open PySem.Spec PyProof.Rows PySem.W in
def aH:Mi (Option Int):=mB none
def bz(m:Mi Rr):Mi (Option Int):=aS m λr Z=>match res Z r with
 |some (.int i)=>some (.ok (some i),Z)
 |_=>none
def Ly(K:Kx)(E:XK)(c:Cn)(Y:St)(Z:List Sl)(B:St)(θ:List Sl)(Q:Option Int->Hp->Prop):Except Str (Option Int)->Prop
 | .ok i=>∀H,Bd c Y H Z B θ->Q i H
 | .error x=>∀C H,K.mg x=some (.ref C)->Bd c Y H Z B θ->E (.ref C) none H
inductive Py(K:Kx)(E:XK)(m:Mi (Option Int))(Y:St)(H:Hp)(Q:Option Int->Hp->Prop):Prop
 |mk(c:Cn)(Z:List Sl)(B:St)(θ:List Sl)(o:Except Str (Option Int))(O:List Sl)(h1:c.toKx=K)(h2:Bd c Y H Z B θ)(h3:m Z=some (o,O))(h4:Ly K E c Y O B θ Q o)
structure JP(X:Cx)(E:XK)(e:Option Expr)(m:Mi (Option Int)):Prop where
 p:PO X e (Py (kx X) E m)
theorem PO.weaken{e:Option Expr}{t t':TO}(h:PO X e t)(f:∀Y H Q,t' Y H Q->t Y H Q):PO X e t':=λpins s Y H Q I q=>h pins s Y H Q I (f Y H Q q)
theorem zX{o:Except Str (Option Int)}{Q:Option Int->Hp->Prop}(q:Ly (kx X) E c Y O B θ Q o):∀e,o=.error e->∀C H,X.mg e=some (.ref C)->Bd c Y H O B θ->E (.ref C) none H:=λe u=>by subst u;exact q
theorem DS:JP X E none aH:=⟨PO.weaken DP λY H Q h=>by obtain⟨c,Z,B,θ,o,O,e,b,em,q⟩:=h;cases em;exact q H b⟩
theorem Cz{m:Mi Rr}(h:JE X E e m):JP X E (some e) (bz m):=⟨PO.weaken (Dq h.p) λY H Q h=>by
 obtain⟨c,Z,B,θ,o,O,I,b,em,q⟩:=h;refine bj I b em (λx v U i r b1 P=>?_) (zX q);cases e1:res U x with
 |none=>rw[e1] at P;cases P
 |some a=>
  have n:=Bd.rd b1 r e1;cases a<;>first|(rw[e1] at P;cases P;done)|skip
  rw[e1] at P;cases P;cases n;exact⟨_,rfl,q i b1.drop⟩⟩
def je(xs:List A)(lo hi:Option Int):List A:=(xs.drop (HT.jv xs.length 0 lo)).take (HT.jv xs.length xs.length hi-HT.jv xs.length 0 lo)
theorem HD{k:Kx}{as:List A}(r:bN k G vs as)(lo hi:Option Int):bN k G (xm vs lo hi) (je as lo hi):=by
 delta xm je
 rw[r.len]
 exact(r.drop _).take _
theorem uE{m:Mi (Option Int)}{f:Option Int->Mi β}{o:Except Str β}{Q:Option Int->Hp->Prop}(v:c.toKx=kx X)(b:Bd c Y H Z B θ)(em:aS m f Z=some (o,O))
  (h1:∀k U i,Bd c Y i U B θ->f k U=some (o,O)->Q k i)
  (h2:∀e,o=.error e->∀C H,X.mg e=some (.ref C)->Bd c Y H O B θ->E (.ref C) none H):Py (kx X) E m Y H Q:=by
 rcases bind_some em with ⟨x,U,e1,e2⟩|⟨e,e1,e2⟩
 .exact⟨c,Z,B,θ,_,U,v,b,e1,λi b1=>h1 x U i b1 e2⟩
 .exact⟨c,Z,B,θ,_,O,v,b,e1,λC i hm b1=>h2 e e2 C i hm b1⟩
noncomputable def Qu(f g:Mg):Mg:=λa Z=>match f a Z with
 |some r=>some r
 |none=>g a Z
def Li(m:Mi Rr)(G:Mg):Ms:=cZ m λr Z=>match bR r Z with
 |some (a,U)=>match G a U with
  |some Z0=>some (.nx,Z0)
  |none=>none
 |none=>none
theorem G8{m:Mi Rr}{G:Mg}(he:JE X E e m)(hg:JG X 0 tg G)(hs:Yr [tg] e pos.line X.env=pure false:=by rfl)(hw:Yh [tg] e X.env=pure none:=by rfl)
  (hp:∀{te:TE}{g:TG},PE X e te->PG X tg g->PS X (.Assign [tg] e pos) (qP te g)):JS X E (.Assign [tg] e pos) (Li m G):=⟨PS.weaken (hp he.p hg.p) λD Y H h=>by
 obtain⟨c,Z,B,θ,f,O,ek,b,em,q⟩:=h;refine d0 ek b em q λr v U H1 hv b1 em1=>?_;cases e1:bR r U with
 |none=>rw[e1] at em1;cases em1
 |some p=>
  obtain⟨a,Z0⟩:=p;rw[e1] at em1;have b2:=Bd.bR (xs:=[]) (ss:=[]) rfl b1 hv e1;cases e2:G a Z0 with
  |none=>simp only[e2] at em1;cases em1
  | some Z1=>simp only[e2] at em1;cases em1;exact⟨c,Z0,B,_,a,O,ek,b2,e2,λj H' _ _ b3=>q j H' b3⟩⟩
def DT(i j:Nat)(rs:List Rr)(Z:List Sl):Option (Fl×List Sl):=match dP rs Z with
 |some ([a,b],U)=>match put i (.fr a) U with
  |some Z0=>match put j (.fr b) Z0 with
   |some Z1=>some (.nx,Z1)
   |none=>none
  |none=>none
 |_=>none
theorem xl{f:Fl}(h:DT i j rs Z=some (f,O)):∃a d Z0 Z1,dP rs Z=some ([a,d],Z0)/\put i (.fr a) Z0=some Z1/\put j (.fr d) Z1=some O/\f=.nx:=by
 delta DT at h
 cases B:dP rs Z with
 |none=>rw[B] at h;cases h
 |some p=>
  rw[B] at h;obtain⟨as,Z0⟩:=p
  match as,h with
  |[a,d],h=>
   dsimp only at h;cases G:put i (.fr a) Z0 with
   |none=>rw[G] at h;cases h
   |some Z1=>
    rw[G] at h;dsimp only at h;cases A:put j (.fr d) Z1 with
    |none=>rw[A] at h;cases h
    |some N=>rw[A] at h;cases h;exact⟨a,d,Z0,Z1,rfl,G,A,rfl⟩
theorem Cw{l:List α}(h:l.length=2):∃a b,l=[a,b]:=match l,h with
 |[a,b],_=>⟨a,b,rfl⟩
def BZ(i j:Nat)(m:Mi (List Rr)):Ms:=cZ m (DT i j)
theorem Gh{s:Stmt}{m:Mi (List Rr)}(V:JA X E es m)(J:i≠j)(hp:∀{ta:TA},PA X es ta->PS X s (MS i j ta)):JS X E s (BZ i j m):=⟨PS.weaken (hp V.p) λD Y H h=>by
 obtain⟨c,Z,B,θ,f,O,I,b,em,q⟩:=h;rcases fc em with ⟨rs,U,e1,e2⟩|⟨e,e1,e2⟩
 .refine⟨c,Z,B,_,_,U,I,b,e1,λvs S r b1=>?_⟩;obtain⟨a,d,Z0,Z1,G,N,A,rfl⟩:=xl e2;obtain⟨b2,l2⟩:=Bd.dP r b1 G;obtain⟨v,w,rfl⟩:=Cw l2;refine⟨v,w,rfl,q _ S ?_⟩;have K:Bd c Y S Z0 (some w::some v::B) (.fr d::.fr a::θ.map Sl.fr):=by simpa using b2
  obtain⟨L,bl,x⟩:=Bd.kW (vs:=[w,v]) (as:=[d,a]) K rfl;cases x with|cons h1 x=>cases x with|cons h2 _=>
  exact Bd.put (Bd.put (dZ.L7 bl h2 h1) rfl N) rfl A
 .subst e2;exact⟨c,Z,B,_,_,O,I,b,e1,λC S hm b1=>q C Y S hm b1⟩⟩
end
section
variable{X:Cx}{E:XK}{a b:Expr}{ma mb:Mi Rr}{pos:Pos}
theorem IU(f:JE X E a ma)(d:JE X E b mb):JE X E (.BinOp a .Sub b pos) (az ji ma mb):=lF HJ HW f d
theorem IB(f:JE X E a ma)(d:JE X E b mb):JE X E (.BinOp a .FloorDiv b pos) (az iF ma mb):=lF zY Ir f d
theorem G4(f:JE X E a ma)(d:JE X E b mb):JE X E (.BinOp a .Mod b pos) (az kS ma mb):=lF Df Jq f d
theorem IS(f:JE X E a ma)(d:JE X E b mb):JE X E (.BinOp a .Pow b pos) (az qf ma mb):=lF G6 Hl f d
theorem MF(g:X.A.units+64<cLine)(f:JE X E a ma)(d:JE X E b mb):JE X E (.Compare a [.Eq] [b] pos) (az m5 ma mb):=gh (AQ g) os_eq f d (dE _)
theorem LF(g:X.A.units+64<cLine)(f:JE X E a ma)(d:JE X E b mb):JE X E (.Compare a [.NotEq] [b] pos) (az eY ma mb):=gh (yJ g) F4 f d (dE _)
theorem LZ(f:JE X E a ma)(d:JE X E b mb):JE X E (.Compare a [.Lt] [b] pos) (az iH ma mb):=gh fS Gb f d (dE _)
theorem L9(f:JE X E a ma)(d:JE X E b mb):JE X E (.Compare a [.Gt] [b] pos) (az jV ma mb):=gh iU ER f d (dE _)
theorem Mb(f:JE X E a ma)(d:JE X E b mb):JE X E (.Compare a [.GtE] [b] pos) (az F8 ma mb):=gh FK F9 f d (dE _)
theorem Mr(f:JE X E a ma)(d:JE X E b mb):JE X E (.Compare a [.Is] [b] pos) (az (jk false) ma mb):=gh yn EV f d (dE _)
theorem Ds(f:JE X E a ma)(d:JE X E b mb):JE X E (.Compare a [.IsNot] [b] pos) (az (jk true) ma mb):=gh vY vq f d (dE _)
theorem Mm(g:X.A.units+64<cLine)(f:JE X E a ma)(d:JE X E b mb):JT X E (.Compare a [.Eq] [b] pos) (ag (az m5 ma mb)):=gp (AQ g) os_eq f d (dE _)
theorem MJ(g:X.A.units+64<cLine)(f:JE X E a ma)(d:JE X E b mb):JT X E (.Compare a [.NotEq] [b] pos) (ag (az eY ma mb)):=gp (yJ g) F4 f d (dE _)
theorem Ln(f:JE X E a ma)(d:JE X E b mb):JT X E (.Compare a [.Lt] [b] pos) (ag (az iH ma mb)):=gp fS Gb f d (dE _)
theorem KO(f:JE X E a ma)(d:JE X E b mb):JT X E (.Compare a [.Gt] [b] pos) (ag (az jV ma mb)):=gp iU ER f d (dE _)
theorem Ll(f:JE X E a ma)(d:JE X E b mb):JT X E (.Compare a [.GtE] [b] pos) (ag (az F8 ma mb)):=gp FK F9 f d (dE _)
theorem MT(f:JE X E a ma)(d:JE X E b mb):JT X E (.Compare a [.Is] [b] pos) (ag (az (jk false) ma mb)):=gp yn EV f d (dE _)
theorem D5(f:JE X E a ma)(d:JE X E b mb):JT X E (.Compare a [.IsNot] [b] pos) (ag (az (jk true) ma mb)):=gp vY vq f d (dE _)
end
noncomputable def zK:Nat:=2^10000
noncomputable def Bf(K:QF):Sp:=λvs H Q _=>∃(p:Addr)(ns:List Int),vs=[.ref p]/\dm K H p (ns.map V.int)/\ns.length<=63/\∀H',Q (.bl true) H'
theorem vT{k:Kx}{G:Hp}:∀(ns:List Int),bN k G (ns.map V.int) (ns.map A.int)
 |[]=>.nil
 |n::ns=>.cons (.int n) (vT ns)
theorem Iw{P:Program}{w:XR}{K:QF}{mg:Str->Option Value}{base:Heap}{k:Nat}{m:Ms}(F:dJ P w K mg base CX k f fd ps (jb ⟨K,mg,P,w⟩ 1 m))
  (h:∀ns:List Int,ns.length<=63->∃Z,m [.fr (.lst (ns.map A.int))]=some (.rt (.fr (.bl true)),Z)):dJ P w K mg base CX k f fd ps (Bf K):=
 F.imp λvs H Q E q=>by
  obtain⟨p,ns,rfl,hs,hl,q⟩:=q;obtain⟨Z,e⟩:=h ns hl
  let c:Cn:={ K:=K,mg:=mg,P:=P,w:=w,σ0:=[some (.ref p)],H0:=H,Lp:=[],Hd:=[],Wk:=[] }
  refine⟨rfl,c,_,_,Z,rfl,rfl,rfl,⟨.nil,ax.cons (.fr (.lst (dN (Sq.of λb o e=>?_) hs) (vT ns))) .nil,λp hp=>(by cases hp),⟨λb o e=>⟨o,e,λ_ _=>rfl⟩,λq V=>(by cases V)⟩,λi o _ _=>rfl,rfl,λq V=>(by cases V)⟩,e,λv H' _ b=>?_⟩
  .rw[bE (λz=>by cases z) (λz=>by cases z)];exact e
  .have r:=Bd.top b rfl;cases r;exact q H'
def nA(m:Mi Rr):Mi Rr:=aS m λr Z=>match bR r Z with
 |some (a,O)=>some (.ok (.fr a),O)
 |none=>none
theorem NA{E:XK}{m:Mi Rr}(he:JE X E e m):JE X E e (nA m):=⟨PE.weaken he.p λY H Q h=>by
 obtain⟨c,Z,B,θ,o,O,I,b,em,q⟩:=h;refine bj I b em (λx v U i r b1 P=>?_) (bQ q);cases e1:bR x U with
 |none=>rw[e1] at P;cases P
 | some p=>rw[e1] at P;cases P;exact q v i trivial (Bd.bR (xs:=[]) (ss:=[]) rfl b1 r e1)⟩
section
variable{X:Cx}{E:XK}
inductive Ty where|bool|int|str|tuple|list|dict
 deriving DecidableEq
noncomputable def Ty.n:Ty->String
 | .bool=> "bool" | .int=> "int" | .str=> "str" | .tuple=> "tuple" | .list=> "list" | .dict=> "dict"
noncomputable def O2(T:Ty):A->Option Bool
 | .non=>some false
 | .bl _=>some (T=.bool || T=.int)
 | .int _=>some (T=.int)
 | .str _=>some (T=.str)
 | .tup _=>some (T=.tuple)
 | .lst _=>some (T=.list)
 | .dic _=>some (T=.dict)
 |_=>none
def oT(T:Ty)(a:A):Option Rr:=match O2 T a with
 |some k=>some (.fr (.bl k))
 |none=>none
theorem GW(K:QF)(T:Ty):Sb K (.type "NoneType") (.type T.n)=some false:=by cases T<;>kernel_rfl
theorem C7(K:QF)(T:Ty):Sb K (.type "bool") (.type T.n)=some (T=.bool || T=.int:Bool):=by cases T<;>kernel_rfl
theorem Im(K:QF)(T:Ty):Sb K (.type "int") (.type T.n)=some (T=.int:Bool):=by cases T<;>kernel_rfl
theorem JB(K:QF)(T:Ty):Sb K (.type "str") (.type T.n)=some (T=.str:Bool):=by cases T<;>kernel_rfl
theorem HG(K:QF)(T:Ty):Sb K (.type "tuple") (.type T.n)=some (T=.tuple:Bool):=by cases T<;>kernel_rfl
theorem Iz(K:QF)(T:Ty):Sb K (.type "list") (.type T.n)=some (T=.list:Bool):=by cases T<;>kernel_rfl
theorem II(K:QF)(T:Ty):Sb K (.type "dict") (.type T.n)=some (T=.dict:Bool):=by cases T<;>kernel_rfl
theorem Kj(T:Ty):sE K (λv H Q=>∃x c t b,[v,V.ty T.n]=[x,c]/\IF K.K H x t/\Ag c=true/\Sb K.K t (Ki c)=some b/\Q (.bl b) H) (oT T):=.scalar λH v a q f h=>by
 cases a<;>first|exact ke h|skip
 .cases f;cases h;exact⟨_,_,rfl,λ_=>.bl _,λQ k=>⟨_,_,_,_,rfl,.of .non,rfl,GW _ T,k⟩⟩
 .cases f;cases h;exact⟨_,_,rfl,λ_=>.bl _,λQ k=>⟨_,_,_,_,rfl,.of (.bl _),rfl,C7 _ T,k⟩⟩
 .cases f;cases h;exact⟨_,_,rfl,λ_=>.bl _,λQ k=>⟨_,_,_,_,rfl,.of (.int _),rfl,Im _ T,k⟩⟩
 .cases f;cases h;exact⟨_,_,rfl,λ_=>.bl _,λQ k=>⟨_,_,_,_,rfl,.of (.str _),rfl,JB _ T,k⟩⟩
 .cases f with
  |tup e r=>cases h;exact⟨_,_,rfl,λ_=>.bl _,λQ k=>⟨_,_,_,_,rfl,.tup e,rfl,HG _ T,k⟩⟩
 .cases f with
  |lst e r=>cases h;exact⟨_,_,rfl,λ_=>.bl _,λQ k=>⟨_,_,_,_,rfl,.lst e,rfl,Iz _ T,k⟩⟩
 .cases f with
  |dic e r=>cases h;exact⟨_,_,rfl,λ_=>.bl _,λQ k=>⟨_,_,_,_,rfl,.dic e,rfl,II _ T,k⟩⟩
theorem Jf{x y:Str}{p p2:Pos}{m:Mi Rr}(T:Ty)(hg:Gl X x)(hm:X.mg x=none)(hv:XI x=some (.builtin "isinstance"))(hg2:Gl X y)(hm2:X.mg y=none)(hv2:XI y=some (.type T.n))(ha:JE X E e m)(hn:x ≠ "__name__")
  (hdb:fC x)(hn2:y ≠ "__name__")(hdb2:fC y)(hs:XG [e,.Name y p2] X.env=(false,eval e X.env)::XG [.Name y p2] X.env:=by rfl)(hs2:XG [.Name y p2] X.env=(false,eval (.Name y p2) X.env)::XG [] X.env:=by rfl)(hp:(XQ pos (XG [.Name y p2] X.env)).any (·.1)=false:=by rfl):JE X E (.Call (.Name x p) [e,.Name y p2] [] pos) (cP (oT T) m):=
 ⟨PE.weaken (jM BI hg hm hv (aX ha.p (aX (Cd hg2 hm2 hv2 (v:=.ty T.n) rfl hn2 hdb2) cu hs2) hs) hn hdb hs hp) λY H Q h=>jL (Kj T) Y H Q h⟩
end
section
variable{X:Cx}{E:XK}
theorem Bd.Ci{v:V}{a b:A}(e:xs.length=ss.length)(q:Bd c Y H Z (xs++(some v::some w::B)) (ss++(.fr a::.fr b::θ))):∃L,dZ c Y H Z (xs++(some v::some w::B)) (ss++(.fr a::.fr b::θ)) L/\RA c.toKx (c.g H L) v a/\RA c.toKx (c.g H L) w b:=by
 obtain⟨L,q⟩:=q;have r:ax c.toKx (c.g H L) H (xs++(some v::some w::(B++Y))) (ss++(.fr a::.fr b::(θ++Z))) L:=by have:=q.rel;simpa[QJ] using this
 obtain⟨X,L2,e1,n,k⟩:=ax.split e r;cases k with
 |cons h Q=>
  cases Q with
  |cons h2 I=>
   cases h with
   |fr h=>
    cases h2 with
    |fr h2=>exact⟨L,q,h,h2⟩
noncomputable def iI(as bs:List A):List A:=(as.zip bs).map λp=>.tup [p.1,p.2]
end
section
variable{X:Cx}{E:XK}
def xX(K:QF):R2:=λx y H Q=>∃a b xs ys,x=.ref a/\y=.ref b/\dm K H a xs/\dm K H b ys/\xs.length+ys.length<=sizeLine/\∀p,H p=none->Q (.ref p) (upd H p (.lst (xs++ys)))
theorem yo:iR X (Yj .Add) (xX X.K):=by
 intro pins s Y H x y v u Q I w z h;obtain⟨a,b,xs,ys,rfl,rfl,f,d,hz,q⟩:=h;cases w;cases z;obtain⟨j,n,A,_⟩:=I.list f;obtain⟨Z,k,R,_⟩:=I.list d;obtain⟨⟨J,L,o,l1⟩,e,e1,c,B,E⟩:=id A;obtain⟨⟨G,T,t,l2⟩,C,e2,D,m,p⟩:=id R;subst c E D p B m;have r:=n.length;have S:=k.length;refine concat_meets ⟨_,e1,rfl⟩ ⟨_,e2,rfl⟩ noFill_list_add seq_list_add PySem.F.slot_list_add PySem.F.entry_list_add (PySem.F.args_list_add_2 _ _) (Xg a b _ _ e C _ _ l1 l2 (by rw[QO,QO];lia)) ⟨e1,e2,?_⟩;have O:j.toArray++Z.toArray=(j++Z).toArray:=by simp
 rw[O];exact⟨.ref _,_,I.Jh (n.append k) (by rw[Q2];lia),rfl,q _ I.fresh⟩
noncomputable def yb:A->A->Option Rr
 | .lst xs,.lst ys=>if xs.length+ys.length<=100000 then some (.nw (.lst (xs++ys))) else none
 |_,_=>none
theorem Dl:jc K (xX K.K) yb:=by
 intro c Y H Z B θ x y v w a b q Q e r s bd e1 e2 N k;cases a<;>first|exact ke N|(cases b<;>first|exact ke N|skip)
 rename_i xs ys
 delta yb at N
 simp only at N;split at N
 .rename_i hc;cases N;obtain⟨L,bl,D,I⟩:=Bd.Bi bd r s e1 e2;obtain⟨A,h,rfl,s1,n⟩:=D.1 xs rfl;obtain⟨R,E,rfl,s2,O⟩:=I.1 ys rfl;have l1:=n.len;have l2:=O.len;subst e;exact⟨A,R,h,E,rfl,rfl,s1,s2,by have:=oM;lia,λp hp=>k _ _ trivial (bl.kO hp λG H' sm q=>.lst q ((n.app O).sm sm))⟩
 .cases N
end
end M
set_option maxHeartbeats 4000000
set_option maxHeartbeats 1000000
namespace M
open PySem L2
variable{s:Sl}{cn:Str}{r:Rr}
section
variable{c:Cn}{Y:St}{H:Hp}{Z:List Sl}{B:St}{θ:List Sl}
theorem fD.EX{k:Kx}{G:Hp}{x:Option V}{L:List Addr}{fs:List (Str×A)}(h:fD k G H x s L)(sm:Sq G H)(e:s.a=some (.obj cn fs)):∃p C dx vs,x=some (.ref p)/\H p=some (.ins C dx vs)/\k.mg cn=some (.ref C)/\gZ k G vs fs:=by
 have lo:∀p o q,LR k G H p o q->o.rd=some (A.obj cn fs)->∃C dx vs,H p=some (.ins C dx vs)/\k.mg cn=some (.ref C)/\gZ k G vs fs:=λp o q h z=>by
  cases h with
  |nob=>cases z
  |lst=>cases z
  |dic=>cases z
  |dit=>cases z
  |obj e m r=>cases z;exact⟨_,_,_,e,m,r⟩
 cases h with
 |un=>cases e
 |cf h=>cases e;cases h with|obj e m r=>exact⟨_,_,_,_,rfl,sm.keep e rfl,m,r⟩
 |fr h=>cases e;cases h with|obj e m r=>exact⟨_,_,_,_,rfl,sm.keep e rfl,m,r⟩
 |lv h=>obtain⟨C,dx,vs,h1,h2,h3⟩:=lo _ _ _ h e;exact⟨_,C,dx,vs,rfl,h1,h2,h3⟩
 |pv h=>obtain⟨C,dx,vs,h1,h2,h3⟩:=lo _ _ _ h e;exact⟨_,C,dx,vs,rfl,h1,h2,h3⟩
theorem Bd.F6{v:V}{fs:List (Str×A)}(b:Bd c Y H Z (cO r v B) (cM r θ))(j:VR Y r v)(e:res Z r=some (.obj cn fs)):∃L p C dx vs,dZ c Y H Z B θ L/\v=.ref p/\H p=some (.ins C dx vs)/\c.mg cn=some (.ref C)/\gZ c.toKx (c.g H L) vs fs:=by
 obtain⟨u,b⟩:=b;have q:∀s,dZ c Y H Z (some v::B) (s::θ) u->s.a=some (.obj cn fs)->∃L p C dx vs,dZ c Y H Z B θ L/\v=.ref p/\H p=some (.ins C dx vs)/\c.mg cn=some (.ref C)/\gZ c.toKx (c.g H L) vs fs:=by
  intro s b O;obtain⟨nd,rel,own,fr,kp,lt,E⟩:=b;have rel:ax c.toKx (c.g H u) H (some v::(B++Y)) (s::(θ++Z)) u:=rel;cases rel with
  |cons h r=>rename_i X L2;have sm:Sq (c.g H (X++L2)) (c.g H L2):=dF λa f=>QG _ f;obtain⟨p,C,dx,vs,h1,h2,h3,h4⟩:=(h.sm sm (λ_ _ _ e=>e)).EX (g_same _ _ _) O;exact⟨L2,p,C,dx,vs,⟨(QQ.mp nd).2.1,r.sm sm (λ_ _ _ e=>e),λp hp=>own p (QG _ hp),fr,kp,by simpa using lt,E⟩,Q9 h1,h2,h3,h4⟩
 cases r with
 |rf i=>
  unfold res at e;cases es:Z[i]? with
  |none=>simp only[es] at e;cases e
  |some s=>simp only[es] at e;obtain⟨X,L2,e1,n,k⟩:=ax.split b.lt b.rel;obtain⟨x,_,_,_,hx,hs,_⟩:=k.at es;have j:Y[i]?=some (some v):=j;rw[j] at hx;obtain⟨p,C,dx,vs,h1,h2,h3,h4⟩:=hs.EX (g_same _ _ _) e;rw[<-Q9 hx] at h1;exact⟨u,p,C,dx,vs,b,Q9 h1,h2,h3,h4⟩
 |fr a'=>exact q _ b e
 |nw o=>exact q _ b e
theorem Bd.Qm{x:Option V}{ys:St}{ss:List Sl}(e:ys.length=ss.length)(b:Bd c Y H Z (x::(ys++B)) (s::(ss++θ))):Bd c Y H Z (ys++x::B) (ss++s::θ):=by
 obtain⟨L,b⟩:=b;have r:ax c.toKx (c.g H L) H (x::(ys++(B++Y))) (s::(ss++(θ++Z))) L:=by have:=b.rel;simpa[QJ] using this
 cases r with
 |cons h r=>
  rename_i X L2;obtain⟨y,m,e1,n,k⟩:=ax.split e r;subst e1;have pm:(X++(y++m)).Perm (y++(X++m)):=by rw[<-QJ,<-QJ];exact Tc.append_right m
  refine⟨y++(X++m),(pm.nodup_iff).mp b.nd,?_,λp hp=>b.own p (pm.mem_iff.mpr hp),b.fr,b.kp,by have:=b.lt;simp[e] at this ⊢;lia,b.hd⟩;have J:c.g H (y++(X++m))=c.g H (X++(y++m)):=Di λa=>pm.mem_iff.symm;rw[J];have:=n.app (ax.cons h k);simpa[QJ] using this
end
variable{K:Kx}{cs:List Str}{f mn:Str}{e:Expr}{pos:Pos}{Z O:List Sl}{o:Except Str Rr}{mo:Mi Rr}{ma:Mi (List Rr)}{C:Addr}
section
variable{X:Cx}{E:XK}
def aq(cs:List Str)(f:Str):A->Option Rr
 | .obj c fs=>if cs.contains c then (match fs.lookup f with
  |some a=>some (.fr a)
  | none=>none) else none
 |_=>none
def Fj(K:QF)(f:Str):V->Hp->VK->Prop:=λx U Q=>∃a C dx fs v,x=.ref a/\U a=some (.ins C dx fs)/\hJ K C/\bV K C f/\fs.lookup f=some v/\Q v U
theorem DB(hc:∀c C,cs.contains c=true->K.mg c=some (.ref C)->hJ K.K C/\bV K.K C f):sE K (Fj K.K f) (aq cs f):=by
 intro c Y H Z B θ x v a q Q e r bd e1 N k;cases a<;>first|(cases N;done)|skip
 rename_i cn fs;unfold aq at N;simp only at N;split at N
 .rename_i h;cases b:fs.lookup f with
  |none=>simp only[b] at N;cases N
  |some w=>
   simp only[b] at N;cases N;obtain⟨L,p,C,dx,vs,bl,rfl,h2,h3,h4⟩:=Bd.F6 bd r e1;subst e;obtain⟨J,G⟩:=hc cn C h h3;rcases h4.get f with ⟨u,a,g,n,d⟩|⟨_,n⟩
   .rw[b] at n;cases n;exact⟨p,C,dx,vs,u,rfl,h2,J,G,g,k u H trivial (bl.push d)⟩
   .rw[b] at n;cases n
 .cases N
theorem uK{m:Mi Rr}(hc:∀c C,cs.contains c=true->X.mg c=some (.ref C)->hJ X.K C/\bV X.K C f)(he:JE X E e m)(d:XM e f X.env (eval e X.env)=eval e X.env):JE X E (.Attribute e f pos) (aJ (aq cs f) m):=
 ⟨PE.weaken (eV he.p d) λY H Q h=>jL (r:=Fj X.K f) (DB hc) Y H Q h⟩
def P0(cs:List Str)(i:Nat)(f:Str)(m:Mi Rr):Ms:=cZ m λr Z=>match bR r Z with
 |some (a,U)=>match aE U i with
  |some (.obj c fs)=>if cs.contains c&&So fs.length 900 then some (.nx,setAt U i (.obj c (kL f a fs))) else none
  |_=>none
 |none=>none
def bH(cn m:Str)(mo:Mi Rr):Mi Rr:=aS mo λr Z=>match res Z r with
 |some (.obj c fs)=>if c==cn&&(fs.lookup m).isNone then some (.ok r,Z) else none
 |_=>none
theorem nR{m:Str}{r':Rr}(h:(match res Z r with|some (.obj c fs)=>if c==cn&&(fs.lookup m).isNone then some ((.ok r:Except Str Rr),Z) else none|_=>none)=some (o,O)):∃fs,res Z r=some (.obj cn fs)/\fs.lookup m=none/\o=.ok r/\O=Z:=by
 split at h
 .rename_i c fs e;split at h
  .rename_i hc;rw[QE,Zy,RE] at hc;cases h;exact⟨fs,by rw[e,hc.1],hc.2,rfl,rfl⟩
  .cases h
 .cases h
inductive Gw(cn mn:Str)(mo:Mi Rr)(ma:Mi (List Rr))(Z:List Sl)(x:Except Str (List Rr))(U:List Sl):Prop
 |ok{r:Rr}{rs:List Rr}{Z0:List Sl}{fs:List (Str×A)}(e:mo Z=some (.ok r,Z0))(g:res Z0 r=some (.obj cn fs))(l:fs.lookup mn=none)(a:ma Z0=some (.ok rs,U))(q:x=.ok (r::rs))
 |err{y:Str}(e:mo Z=some (.error y,U))(q:x=.error y)
 |bad{r:Rr}{Z0:List Sl}{fs:List (Str×A)}{y:Str}(e:mo Z=some (.ok r,Z0))(g:res Z0 r=some (.obj cn fs))(l:fs.lookup mn=none)(a:ma Z0=some (.error y,U))(q:x=.error y)
theorem rW{U:List Sl}{x:Except Str (List Rr)}(h:c7 (bH cn mn mo) ma Z=some (x,U)):Gw cn mn mo ma Z x U:=by
 rcases bind_some h with ⟨r,Z0,G,A⟩|⟨y,G,A⟩
 .rcases bind_some G with ⟨V,Z1,H,w⟩|⟨_,_,w⟩
  .obtain⟨fs,g,n,d,b⟩:=nR (r':=V) w;cases d;subst b;rcases bind_some A with ⟨rs,N,Y,c⟩|⟨y,Y,c⟩
   .cases c;exact .ok H g n Y rfl
   .exact .bad H g n Y c
  .cases w
 .rcases bind_some G with ⟨V,Z1,H,w⟩|⟨z,H,w⟩
  .obtain⟨fs,g,n,d,b⟩:=nR (r':=V) w;cases d
  .cases w;exact .err H A
theorem ou{m:Ms}{n:Nat}{I:List A}{dvs:List V}(hd:∀G,bN (kx X) G dvs I)(K:X.mg cn=some (.ref C))(hn:∀Z rs O,ma Z=some (.ok rs,O)->rs.length+1+I.length=n)(Y:St)(H:Hp)(Q:VK)(h:kN (kx X) E (aY m I (c7 (bH cn mn mo) ma)) Y H Q):
  vw C mn (jb (kx X) n m) dvs E (kN (kx X) E mo) (M7 (kx X) E ma) Y H Q:=by
 obtain⟨c,Z,B,θ,o,O,w,b,em,q⟩:=h;have J:∀{r:Rr}{Z0:List Sl}{fs:List (Str×A)}{v:V}{i:Hp},res Z0 r=some (.obj cn fs)->fs.lookup mn=none->VR Y r v->Bd c Y i Z0 (cO r v B) (cM r θ)->∃p dx vs,v=.ref p/\i p=some (.ins C dx vs)/\vs.lookup mn=none:=λg D j b1=>by
  obtain⟨L,p,T,dx,vs,bl,rfl,h2,h3,h4⟩:=Bd.F6 b1 j g;have y:X.mg cn=some (.ref T):=by have:=Zx (λk:Kx=>k.mg cn) w;simp only at this;rw[<-this];exact h3
  rw[K] at y;cases y;refine⟨p,dx,vs,rfl,h2,?_⟩;rcases h4.get mn with ⟨_,_,_,z,_⟩|⟨z,_⟩
  .rw[D] at z;cases z
  .exact z
 have fin:∀e,o=.error e->∀C H,X.mg e=some (.ref C)->Bd c Y H O B θ->E (.ref C) none H:=bQ q;rcases bind_some em with ⟨rs,U,e1,e2⟩|⟨e,e1,e2⟩
 .cases rW e1 with
  |@ok r rs' Z0 fs F g D a eq=>cases eq;refine⟨c,Z,B,θ,_,_,w,b,F,λv i j b1=>?_⟩;obtain⟨p,dx,vs,rfl,h2,hl⟩:=J g D j b1;refine⟨p,dx,vs,rfl,h2,hl,c,_,_,_,_,_,w,b1,a,λws S R b2=>?_⟩;refine j4 (rs:=r::rs') (vs:=.ref p::ws) hd w ?_ ⟨j,R⟩ b2 e2 (λr hr v H' j b=>by subst hr;exact q v H' j b) (λx hx=>by subst hx;exact q);rw[SH,QU,Q2,<-R.len,<-hn _ _ _ a,(hd λ_=>none).len];lia
  |err _ eq=>cases eq
  |bad _ _ _ _ eq=>cases eq
 .cases rW e1 with
  |ok _ _ _ _ eq=>cases eq
  |err F eq=>cases eq;exact⟨c,Z,B,θ,_,_,w,b,F,λC i hm b1=>fin _ e2 C i hm b1⟩
  |bad F g D a eq=>cases eq;refine⟨c,Z,B,θ,_,_,w,b,F,λv i j b1=>?_⟩;obtain⟨p,dx,vs,rfl,h2,hl⟩:=J g D j b1;exact⟨p,dx,vs,rfl,h2,hl,c,_,_,_,_,_,w,b1,a,λC S hm b2=>fin _ e2 C S hm b2.drop⟩
end
theorem ik{o:Expr}{m:Str}{apos:Pos}{args:List Expr}{env:Env}(H:XM o m env (eval o env)=eval o env)
  (Z:Yo (args.length+([]:List X1).length) (XQ pos (XG args env)) (X6 pos (XW [] env))=true)(Y:(apos.endLine==pos.line)=true):
  eval (.Call (.Attribute o m apos) args [] pos) env=(do
   let ov <- eval o env
   YB apos.atName
   let (f,first) <- holding [ov] (YI ov m (do return (<- importBound o env).getD true))
   Y9 pos f first (XQ pos (XG args env)) (X6 pos (XW [] env))):=by
 rw[arm_eval_Call,H];unfold methodCall calleeOf methodCallPos;rw[Z,Y];rfl
variable{H:Hp}
section
variable{X:Cx}{E:XK}{CX:qr}{k n:Nat}{f C:Addr}{fd:XX}{ps:List Str}{m:Ms}{I:List A}{dvs:List V}{ds:List Value}{cn mn:Str}{apos pos:Pos}{o e:Expr}{es:List Expr}{mo:Mi Rr}{ma:Mi (List Rr)}
theorem DA(h:X.mg cn=some (.ref C))(hc:hJ X.K C)(hm:Meth X.K C mn f)(F:dJ X.prog X.w X.K X.mg X.base CX k f fd ps (jb (kx X) n m))(hr:cY k X.A)(d:Binds X.K fd ps ds)(hd:Vals dvs ds)(B:∀G,bN (kx X) G dvs I)(hx:Passes CX X E)
  (ho:JE X E o mo)(V:JA X E (e::es) ma)(hn:∀Z rs O,ma Z=some (.ok rs,O)->rs.length+1+I.length=n)(H:XM o mn X.env (eval o X.env)=eval o X.env)
  (c:Yo ((e::es).length+([]:List X1).length) (XQ pos (XG (e::es) X.env)) (X6 pos (XW [] X.env))=true)(Y:(apos.endLine==pos.line)=true)
  (b:XG (e::es) X.env=(false,eval e X.env)::XG es X.env)(x:(XQ pos (XG es X.env)).any (·.1)=false):JE X E (.Call (.Attribute o mn apos) (e::es) [] pos) (aY m I (c7 (bH cn mn mo) ma)):=
 ⟨PE.weaken (vk ho.p hc hm F hr d hd hx V.p b x (ik H c Y)) (ou B h hn)⟩
theorem kN.mono{E:XK}{m:Mi Rr}{Y:St}{Q p:VK}(h:kN K E m Y H Q)(f:∀v H,Q v H->p v H):kN K E m Y H p:=by
 obtain⟨c,Z,B,θ,o,O,e,b,em,q⟩:=h;refine⟨c,Z,B,θ,o,O,e,b,em,?_⟩;cases o with
 |ok r=>exact λv H' j J=>f _ _ (q v H' j J)
 |error x=>exact q
theorem B3(y:X.mg cn=some (.ref C))(hc:hJ X.K C)(hm:Meth X.K C mn f)(F:dJ X.prog X.w X.K X.mg X.base CX k f fd ps (jb (kx X) n m))(hr:cY k X.A)(d:Binds X.K fd ps ds)(hd:Vals dvs ds)(L:∀G,bN (kx X) G dvs I)(hx:Passes CX X E)
  (ho:JE X E o mo)(hn:1+I.length=n)(x:XM o mn X.env (eval o X.env)=eval o X.env)(D:(apos.endLine==pos.line)=true):JE X E (.Call (.Attribute o mn apos) [] [] pos) (aY m I (c7 (bH cn mn mo) nh)):=
 ⟨PE.weaken (qH ho.p hc hm F hr d hd hx (ik x rfl D)) λY H Q h=>by
  have h1:=ou (X:=X) (E:=E) (C:=C) (n:=n) L y (ma:=nh) (λZ rs O q=>by cases q;rw[<-hn];simp) Y H Q h;refine kN.mono h1 λv U ⟨a,dx,fs,g,z,R,l⟩=>⟨a,dx,fs,g,z,R,?_⟩
  obtain⟨c,Z,B,θ,o,O,e,b,em,q⟩:=l;cases em;exact q [] U trivial b⟩
def oJ(cn:Str)(f:Ms)(I:List A)(ma:Mi (List Rr)):Mi Rr:=aS ma λrs Z=>match cw (rs++I.map Rr.fr) Z with
 |some (as,T)=>match f (.pv (.obj cn [])::as.map rF) with
  |some (.rt (.fr .non),.pv o2::Y)=>match putL Z (rs++I.map Rr.fr) (aA as.length Y) T with
   |some O=>some (.ok (.nw o2),O)
   |none=>none
  |some (.ex x,s::Y)=>match putL Z (rs++I.map Rr.fr) (aA as.length Y) T with
   |some O=>some (.error x,O)
   |none=>none
  |_=>none
 |none=>none
theorem xi(n:Nat)(s:Sl)(Z:List Sl):∃t,aA (n+1) (s::Z)=t::aA n Z:=by cases s<;>exact⟨_,rfl⟩
inductive JM(cn:Str)(f:Ms)(rs':List Rr)(Z:List Sl)(o:Except Str Rr)(O:List Sl):Prop
 |ok{as T Y:List Sl}{o2:LO}(t:cw rs' Z=some (as,T))(e:f (.pv (.obj cn [])::as.map rF)=some (.rt (.fr .non),.pv o2::Y))(p:putL Z rs' (aA as.length Y) T=some O)(q:o=.ok (.nw o2))
 |err{as T Y:List Sl}{s:Sl}{x:Str}(t:cw rs' Z=some (as,T))(e:f (.pv (.obj cn [])::as.map rF)=some (.ex x,s::Y))(p:putL Z rs' (aA as.length Y) T=some O)(q:o=.error x)
theorem BM{f:Ms}{rs':List Rr}{o:Except Str Rr} (h:(match cw rs' Z with
 |some (as,T)=>match f (.pv (.obj cn [])::as.map rF) with
  |some (.rt (.fr .non),.pv o2::Y)=>match putL Z rs' (aA as.length Y) T with
   |some O=>some (.ok (.nw o2),O)
   |none=>none
  |some (.ex x,s::Y)=>match putL Z rs' (aA as.length Y) T with
   |some O=>some (.error x,O)
   |none=>none
  |_=>none
 | none=>none:Option (Except Str Rr×List Sl))=some (o,O)):JM cn f rs' Z o O:=by
 split at h
 .rename_i as T t;split at h
  .rename_i o2 Y e;split at h
   .rename_i p;cases h;exact .ok t e p rfl
   .cases h
  .rename_i x s Y e;split at h
   .rename_i p;cases h;exact .err t e p rfl
   .cases h
  .cases h
 .cases h
theorem wa(F:∀G,bN (kx X) G dvs I)(hC:X.mg cn=some (.ref C))(hn:∀Z rs O,ma Z=some (.ok rs,O)->rs.length+1+I.length=n)(Y:St)(H:Hp)(Q:VK)(h:kN (kx X) E (oJ cn m I ma) Y H Q):
  FL C (jb (kx X) n m) dvs E (M7 (kx X) E ma) Y H Q:=by
 obtain⟨c,Z,B,θ,o,O,l,b,em,q⟩:=h;rcases bind_some em with ⟨rs,U,e1,em⟩|⟨e,e1,e2⟩
 .refine⟨c,Z,B,θ,_,U,l,b,e1,λvs i r b1 x dx hx R s=>?_⟩;have ld:I.length=dvs.length:=(F λ_=>none).len.symm;refine⟨by rw[QU,Q2,<-r.len,<-hn _ _ _ e1,ld];lia,?_⟩;have D:md Y (rs++I.map Rr.fr) (vs++dvs):=r.app (md.kW ld);have K:c.mg cn=some (.ref C):=by have:=Zx (λk:Kx=>k.mg cn) l;simp only at this;rw[this];exact hC
  have kp:fq c.σ0 Y U:=by obtain⟨L,b⟩:=b1;exact b.kp
  have pre:∀{as T:List Sl},cw (rs++I.map Rr.fr) U=some (as,T)->(vs++dvs).length=as.length/\Bd c Y (upd (upd i dx (.own x)) x (.ins C dx [])) T ((V.ref x::(vs++dvs)).reverse.map some++B) ((Sl.lv (.obj cn [])::as).reverse++θ):=λ{as T} e2=>by obtain⟨b3,N⟩:=Bd.cw D (by rw[lK _ _ _ r.len,ku];exact Bd.tR (by rw[l];exact F) b1:Bd c Y i U (dq (rs++I.map Rr.fr) (vs++dvs) B) (du (rs++I.map Rr.fr) θ)) e2;obtain⟨L,b5⟩:=b3.new (o:=.own x) R;have b6:=b5.kO (u:=.ins C dx []) (o:=.obj cn []) (by rw[ao s.symm];exact hx) λG H' sm q=>.obj q K .nil;have b7:=Bd.Qm (ys:=(vs++dvs).reverse.map some) (ss:=as.reverse) (by simp only[QK,List.length_reverse];exact N) b6;exact⟨N,by simpa[QJ] using b7⟩
  cases BM em with
  |ok t A J eq=>obtain⟨N,j⟩:=pre t;obtain⟨S,P,g,f,d,k5⟩:=Bd.enter (by rw[QU,QU,N]) j;refine⟨S,_,_,_,P.trans l,g,f,d,A,λv H' hs y=>?_⟩;have rv:=Bd.top y (a:=.non) rfl;cases rv;refine⟨rfl,?_⟩;have p:=k5 H' _ _ _ (λs' w o z=>by rw[Q8.mp w] at z;exact hs o z) (cK _ _) y;rw[QU,N] at p;rw[eq] at q;exact q (.ref x) H' trivial (Bd.uk (xs:=[some .non]) (ss:=[.fr .non]) rfl (Bd.putL kp D (by simpa[aA,yU,QJ] using p) J))
  |err t A J eq=>obtain⟨N,j⟩:=pre t;obtain⟨S,P,g,f,d,k5⟩:=Bd.enter (by rw[QU,QU,N]) j;refine⟨S,_,_,_,P.trans l,g,f,d,A,λC' H' hm y=>?_⟩;have p:=k5 H' _ _ _ (λs' w=>by cases w) (cK _ _) y;rw[QU,N] at p;obtain⟨t,ht⟩:=xi _ _ _;rw[ht] at p;rw[eq] at q;exact q C' H' hm (Bd.putL kp D (by simpa[QJ] using p) J).pop
 .subst e2;exact⟨c,Z,B,θ,_,O,l,b,e1,λC i hm b1=>q C i hm b1⟩
theorem De{x:Str}{p:Pos}(g:Mk X.K C f)(F:dJ X.prog X.w X.K X.mg X.base CX k f fd ps (jb (kx X) n m))(hr:cY (k+1) X.A)(J:Gl X x)(h:X.mg x=some (.ref C))(d:Binds X.K fd ps ds)(hd:Vals dvs ds)(B:∀G,bN (kx X) G dvs I)(hx:Passes CX X E)
  (V:JA X E (e::es) ma)(hn:∀Z rs O,ma Z=some (.ok rs,O)->rs.length+1+I.length=n)(H:fC x)(he:XG (e::es) X.env=(false,eval e X.env)::XG es X.env)(Y:(XQ pos (XG es X.env)).any (·.1)=false):
  JE X E (.Call (.Name x p) (e::es) [] pos) (oJ x m I ma):=
 ⟨PE.weaken (Cp g F hr J h d hd hx V.p H he Y) (wa B h hn)⟩
noncomputable def aM(m n:Mi Rr):Mi Rr:=λZ=>match m Z with
 |some x=>some x
 |none=>n Z
theorem pQ{m n:Mi Rr}(h:JE X E e m)(h':JE X E e n):JE X E e (aM m n):=⟨λpins s Y H Q I t=>by
 obtain⟨c,Z,B,θ,o,O,v,b,em,q⟩:=t;unfold aM at em;cases e1:m Z with
 |some x=>simp only[e1] at em;cases em;exact h.p pins s Y H Q I ⟨c,Z,B,θ,o,O,v,b,e1,q⟩
 | none=>simp only[e1] at em;exact h'.p pins s Y H Q I ⟨c,Z,B,θ,o,O,v,b,em,q⟩⟩
end
noncomputable def gO:List A->Option (List Bool)
 |[]=>some []
 | .bl b::r=>match gO r with
  |some bs=>some (b::bs)
  |none=>none
 |_=>none
theorem oG:∀{xs:List A}{bs:List Bool},gO xs=some bs->xs=bs.map A.bl
 |[],bs,h=>by cases h;rfl
 |a::r,bs,h=>by
  cases a<;>first|(cases h;done)|skip
  unfold gO at h;cases e:gO r with
  |none=>simp only[e] at h;cases h
  |some cs=>simp only[e] at h;cases h;rw[oG e];rfl
def kQ(g:List Bool->Bool):A->Option Rr
 | .lst xs=>match gO xs with
  |some bs=>some (.fr (.bl (g bs)))
  |none=>none
 |_=>none
theorem rS{K:Kx}{G:Hp}:∀{bs:List Bool}{vs:List V},bN K G vs (bs.map A.bl)->vs=bs.map V.bl
 |[],vs,h=>by cases h;rfl
 |b::bs,vs,h=>by
  cases h with
  |cons h1 h2=>cases h1;rw[rS h2];rfl
theorem Kd{g:List Bool->Bool}:sE K (λv=>KW K.K g [v]) (kQ g):=.scalar λH v a q n h=>by
 cases a<;>first|(cases h;done)|skip
 rename_i xs;unfold kQ at h;simp only at h;cases e:gO xs with
 |none=>simp only[e] at h;cases h
 |some bs=>
  simp only[e] at h;cases h;have:=oG e;subst this;cases n with
  |lst I V=>exact⟨_,_,rfl,λ_=>.bl _,λQ k=>⟨_,_,bs,rfl,I,rS V,k⟩⟩
section
variable{X:Cx}{E:XK}{a b:Expr}{ma mb:Mi Rr}{pos:Pos}
theorem zd:XI "any" = some (.builtin "any"):=by decide +kernel
end
def Lq(G G':Hp):Prop:=∀a u,G a=some u->(∀ws,u≠.lst ws)->G' a=some u
section
variable{k:Kx}{G G' H:Hp}(s:Lq G G')
theorem ax.pick:∀{Y:St}{Z:List Sl}{L:List Addr}{j:Nat}{t:Sl},ax k G H Y Z L->Z[j]?=some t->∃x X c L2,Y[j]?=some x/\L=X++(c++L2)/\fD k G H x t c /\
  ∀{G':Hp}{t':Sl}{L':List Addr},(∀{x:Option V}{t:Sl}{L:List Addr},t∈Z->fD k G H x t L->fD k G' H x t L)->fD k G' H x t' L'->ax k G' H Y (Z.set j t') (X++(L'++L2))
 |_,_,_,j,t,.nil,e=>by simp at e
 |x::Y,u::Z,_,0,t,.cons (L:=La) (L':=Lb) h r,e=>by
  cases e;refine⟨x,[],La,Lb,rfl,rfl,h,λ{G2 w B} f h'=>?_⟩;rw[Ui];have:∀{Y:St}{O:List Sl}{L:List Addr},(∀t∈O,t∈u::Z)->ax k G H Y O L->ax k G2 H Y O L:=by
   intro Y O L hm r;induction r with
   |nil=>exact .nil
   |cons h r b=>exact .cons (f (hm _ QV) h) (b λt l=>hm t (QM _ l))
  exact .cons h' (this (λt l=>QM _ l) r)
 |x::Y,u::Z,_,j+1,t,.cons (L:=La) (L':=Lb) h r,e=>by obtain⟨y,X,c,L2,h1,h2,h3,h4⟩:=ax.pick r (j:=j) (by simpa using e);refine⟨y,La++X,c,L2,by simpa using h1,by rw[h2,QJ],h3,λf h'=>?_⟩;have:=h4 (λm=>f (QM _ m)) h';rw[QJ];exact .cons (f QV h) this
end
noncomputable def Bt:Option Sl->Bool
 |some .un=>true
 |_=>false
theorem u6{o:Option Sl}(h:Bt o=true):o=some .un:=by
 cases o with
 |none=>cases h
 |some s=>cases s<;>first|rfl|cases h
theorem gU:∀{n j:Nat}{Z:List Sl}{o:LO},aA n ((aA n Z).set j (.pv o))=(aA n Z).set j (.pv o)
 |0,_,_,_=>rfl
 |n+1,0,Z,o=>by
  have:∀Z:List Sl,aA n (aA n Z)=aA n Z:=λZ=>backL_idem n Z;cases Z with
  |nil=>show aA (n+1) (.pv o::aA n [])=.pv o::aA n [];rw[aA,this]
  |cons s Z=>cases s<;>(show aA (n+1) (.pv o::aA n Z)=.pv o::aA n Z;rw[aA,this])
 |n+1,j+1,Z,o=>by
  cases Z with
  |nil=>show aA (n+1) (.un::(aA n []).set j (.pv o))=.un::(aA n []).set j (.pv o);rw[aA,gU];intro o z;cases z
  |cons s Z=>cases s<;>first
   |(show aA (n+1) (.un::(aA n Z).set j (.pv o))=.un::(aA n Z).set j (.pv o);rw[aA,gU];intro o z;cases z)
   |(show aA (n+1) (.pv _::(aA n Z).set j (.pv o))=.pv _::(aA n Z).set j (.pv o);rw[aA,gU])
where backL_idem:∀(n:Nat)(Z:List Sl),aA n (aA n Z)=aA n Z
 |0,_=>rfl
 |n+1,[]=>by show aA (n+1) (.un::aA n [])=.un::aA n [];rw[aA,backL_idem];intro o z;cases z
 |n+1,s::Z=>by cases s<;>first
   |(show aA (n+1) (.un::aA n Z)=.un::aA n Z;rw[aA,backL_idem];intro o z;cases z)
   |(show aA (n+1) (.pv _::aA n Z)=.pv _::aA n Z;rw[aA,backL_idem])
section
variable{X:Cx}{E:XK}
theorem bN.erase{K:Kx}{G:Hp}:∀{vs:List V}{as:List A}(j:Nat),bN K G vs as->bN K G (vs.eraseIdx j) (as.eraseIdx j)
 |_,_,_,.nil=>.nil
 |_,_,0,.cons h r=>r
 |_,_,j+1,.cons h r=>.cons h (r.erase j)
end
end M
namespace L2
open PySem PySem.Spec PyProof.Rows PySem.W
def LY(K:QF):List V->Hp->VK->Prop:=λxs H Q=>∃(p:Addr)(ys:List V)(ns:List Int),xs=[.ref p]/\dm K H p ys/\ys=ns.map V.int/\Q (.int ns.sum) H
theorem preSum_eq(ns:List Int):∀n,n<=ns.length->preSum (λi=>ns.getD i 0) n=(ns.take n).sum
 |0,_=>by rw[List.take_zero];rfl
 |n+1,h=>by rw[preSum,preSum_eq ns n Q1,S0,List.sum_append,Se,Q5 Q1];simp
theorem AR{X:Cx}(hc:X.calm=true):dg X (.builtin "sum") (LY X.K):=by
 intro pins s Y H xs us Q I r h;obtain⟨p,ys,ns,rfl,V,rfl,q⟩:=h;obtain⟨u,rfl,a⟩:=vals1 r;cases a;obtain⟨j,r',pl,hz⟩:=I.list V;have y:=r'.length;refine call_sum_walkG (Ye pl.isList ?_);refine⟨s.heap.objs.size,_,_,_,_,_,(λi=>ns.getD i 0),rfl,U7 (A:=X.A.in1) (I.ok.hd hc) _ p (by obtain⟨o,ho,_⟩:=pl.isList;exact Rl (QZ ho)) j.toArray,⟨⟨_,Q3 _ rfl,rfl,rfl⟩,pl.isList.at λo e=>QR _ e⟩,?_,λi v L=>?_,λh' tk t' hk=>?_⟩
 .intro b d;simp only[QL,Rj,or_false] at d;rcases d with rfl|rfl
  .show _<(s.heap.push _).objs.size;rw[RW];exact Sd _
  .obtain⟨o,ho,_⟩:=pl.isList;show _<(s.heap.push _).objs.size;rw[RW];exact TN (QZ ho)
 .have c:j[i]?=some v:=by simpa using L
  cases G:ns[i]? with
  |none=>have h1:=SI.mp G;have h2:=(QH.mp c).1;rw[QK] at y;lia
  |some b=>obtain⟨u,g,D⟩:=r'.get (i:=i) (x:=.int b) (by rw[Rc,G];rfl);rw[c] at g;cases g;obtain ⟨t,rfl⟩:=D;exact ⟨t,by show TV b t = TV (ns.getD i 0) t; rw [Se,G]; rfl⟩
 .have e1:j.toArray.size = ns.length:=by simp at y ⊢; lia
  rw[e1,preSum_eq ns ns.length (QN _),Wf];exact⟨.int _,H,I.kept (t':=tk) λb o e=>hk b o (λz=>by have:=Q8.mp z;subst this;exact absurd (QZ e) (Q6 _)) (QR _ e),⟨t',rfl⟩,q⟩
end L2
namespace M
open PySem L2
noncomputable def kH:List A->Option (List Int)
 |[]=>some []
 | .int b::r=>match kH r with
  |some bs=>some (b::bs)
  |none=>none
 |_=>none
theorem rH:∀{xs:List A}{bs:List Int},kH xs=some bs->xs=bs.map A.int
 |[],bs,h=>by cases h;rfl
 |a::r,bs,h=>by
  cases a<;>first|(cases h;done)|skip
  unfold kH at h;cases e:kH r with
  |none=>simp only[e] at h;cases h
  |some cs=>simp only[e] at h;cases h;rw[rH e];rfl
theorem qD:∀ns:List Int,kH (ns.map A.int)=some ns
 |[]=>rfl
 |n::ns=>by rw[Rv,kH,qD ns]
def zM:A->Option Rr
 | .lst xs=>match kH xs with
  |some bs=>some (.fr (.int bs.sum))
  |none=>none
 |_=>none
theorem vQ{K:Kx}{G:Hp}:∀{bs:List Int}{vs:List V},bN K G vs (bs.map A.int)->vs=bs.map V.int
 |[],vs,h=>by cases h;rfl
 |b::bs,vs,h=>by
  cases h with
  |cons h1 h2=>cases h1;rw[vQ h2];rfl
theorem ID{K:Kx}:sE K (λv=>LY K.K [v]) zM:=.scalar λH v a q n h=>by
 cases a<;>first|(cases h;done)|skip
 rename_i xs;unfold zM at h;simp only at h;cases e:kH xs with
 |none=>simp only[e] at h;cases h
 |some bs=>
  simp only[e] at h;cases h;have:=rH e;subst this;cases n with
  |lst I V=>exact⟨_,_,rfl,λ_=>.int _,λQ k=>⟨_,_,bs,rfl,I,vQ V,k⟩⟩
theorem GG:XI "sum" = some (.builtin "sum"):=by decide +kernel
end M
set_option maxHeartbeats 4000000
namespace L2
open PySem PySem.Spec PyProof.Rows PySem.W
structure yY(h:Heap)(z TI TO i j l m:Addr)(k:Nat):Prop where
 hz:Zh h z TI TO .none
 hi:Yy h TI (.ref i) (.ref j)
 ho:∃a b,Yy h TO a b
 h1:h.IsListIter i l k
 h2:h.IsListIter j m k
def KC(K:QF)(a b:Addr):It:=
  ⟨λi H=>∃xs ys x y,dm K H a xs/\dm K H b ys/\xs[i]?=some x/\ys[i]?=some y,
   λi H v H'=>∃t x y,v=.ref t/\H t=none/\H'=upd H t (.tup [x,y])/\∀xs ys,dm K H a xs->dm K H b ys->xs[i]?=some x/\ys[i]?=some y,
   λi H=>∃xs ys,dm K H a xs/\dm K H b ys/\(xs[i]?=none\/ys[i]?=none)⟩
theorem xx{P:Program}{w:XR}{K:QF}{es:List Expr}{kk:Nat}{tp:Pos}{z TI TO i j a b:Addr}(D:Zs z TI TO i j a b):
  Turn P w K (.Tuple es kk tp) (KC K a b) [z,TI,TO,i,j] z (λn h=>yY h z TI TO i j a b n) where
 mem:=by simp
 obj:=λn h Z c hc=>by
  obtain⟨hz,hi,⟨u,v,ho⟩,⟨t,e1,_,d1⟩,⟨o2,e2,_,d2⟩⟩:=Z;simp only[QL,Rj,or_false] at hc;rcases hc with rfl|rfl|rfl|rfl|rfl
  .exact⟨_,hz,λv q=>by cases q⟩
  .exact⟨_,hi,λv q=>by cases q⟩
  .exact⟨_,ho,λv q=>by cases q⟩
  .exact⟨_,e1,λv q=>by rw[d1] at q;cases q⟩
  .exact⟨_,e2,λv q=>by rw[d2] at q;cases q⟩
 keep:=λn h h' Z k=>by obtain⟨hz,hi,⟨u,v,ho⟩,⟨t,e1,f⟩,⟨o2,e2,O⟩⟩:=Z;exact⟨k _ Z5 _ hz,k _ Z5 _ hi,⟨u,v,k _ Z5 _ ho⟩,⟨t,k _ Z5 _ e1,f⟩,⟨o2,k _ Z5 _ e2,O⟩⟩
 item:=by
  intro X A V N hc n pins s Y H E I hf Z U;subst A V N;obtain⟨xs,ys,x,y,G,J,hx,hy⟩:=U;obtain⟨its,rv,p,_⟩:=I.list G;obtain⟨jts,Q,p',_⟩:=I.list J;obtain⟨u,hu,ru⟩:=rv.get hx;obtain⟨v,hv,rv'⟩:=Q.get hy;obtain⟨uo,vo,F⟩:=Z.ho;refine wpAny_pyNext_zip_item D Z.hz Z.hi F Z.h1 Z.h2 p.isList p'.isList (x:=u) (y:=v) (by simpa using hu) (by simpa using hv) λh' z1 z2 z3 z4 z5 z6 keep=>?_;refine⟨_,rfl,Yz (s:={ s with heap:=h' }) z1 λh2 hz2 sb=>?_⟩;have ch:∀c∈[z,TO,i,j],c∈[z,TI,TO,i,j]:=λc hc=>by simp only[QL,Rj,or_false] at hc ⊢;rcases hc with e|e|e|e<;>simp[e]
  have S:∀c o,c∉[z,TO,i,j]->s.heap.get? c=some o->h2.get? c=some o:=λc o hc e=>by simp only[QL,Rj,or_false,not_or] at hc;exact sb.extBut c o hc.1 (keep c o hc.1 hc.2.1 hc.2.2.1 hc.2.2.2 e)
  have L:∀c o,s.heap.get? c=some o->c≠s.heap.objs.size:=λc o e=>Rl (QZ e);have C:∀c o,H c=some o->c∉[z,TO,i,j]:=λc o e hc=>by have:=(hf c (ch c hc)).1;rw[e] at this;cases this
  have hn:H s.heap.objs.size=none:=I.fresh;have nzT:s.heap.objs.size≠z:=(L _ _ Z.hz).symm;have I2:Inv X pins Y (upd H s.heap.objs.size (.tup [x,y])) { s with heap:=h2,gens:=s.gens,drawn:=s.drawn,toks:=s.toks }:=by
   refine I.step (ch:=[z,TO,i,j]) (λc hc=>?_) (λc o _ _ hc e _=>S c o hc e) (λc o _ _ hc e _=>⟨o.slots,S c o hc e⟩) (λc o _ e q=>by rw[ao (L c o e)];exact q) (λc o hc e=>⟨o,S c o hc e⟩)
    (λc q e=>by rw[ao (aD e hn)];exact e) (λc o q e=>by rw[ao (aD e hn)];exact e) (λc q e=>⟨#[],by rw[ao (aD e hn),e];simp⟩) (λm hm=>?_) (λc o e=>?_) I.bare
   .obtain⟨f0,f1,f2,f3,f4,f5⟩:=hf c (ch c hc);exact⟨f3,f1,f4,f5⟩
   .obtain⟨o,g,l,ho,r⟩:=hm;exact⟨o,g,l,S _ o (λhc=>(hf _ (ch _ hc)).2.1 rfl) ho,r⟩
   .by_cases hc:c=s.heap.objs.size
    .subst hc;rw[aI] at e;cases e;refine⟨(show 2<=sizeLine by decide),[u,v],.cons ru (.cons rv' .nil),?_⟩;exact⟨_,sb.extBut _ _ nzT z5,rfl,_,rfl,rfl⟩
    .rw[ao hc] at e;refine(I.hok c o e).iE (λd w hd q=>S d w ?_ q) (λd q=>by rw[ao (aD q hn)];exact q) λd q r=>by rw[ao (aD r hn)];exact r
     rcases hd with rfl|hd
     .exact C _ _ e
     .exact C _ _ hd
  have B:∀c o,c≠z->h'.get? c=some o->h2.get? c=some o:=λc o hc e=>sb.extBut c o hc e;have R:Yy h' TI (.ref i) (.ref j):=keep _ _ D.TIz D.TITO D.TIi1 D.TIi2 Z.hi;obtain⟨t,e1,f⟩:=z3;obtain⟨o2,e2,O⟩:=z4;refine⟨.ref s.heap.objs.size,_,I2,rfl,⟨s.heap.objs.size,x,y,rfl,hn,rfl,λxs' ys' g l=>?_⟩,⟨hz2,B _ _ D.TIz R,⟨_,_,B _ _ D.TOz z2⟩,⟨t,B _ _ D.i1z e1,f⟩,⟨o2,B _ _ D.i2z e2,O⟩⟩,λc hc=>?_⟩
  .rw[I.fR g G,I.fR l J];exact⟨hx,hy⟩
  .rw[ao]
   .exact(hf c hc).1
   .rintro rfl;obtain⟨hz,hi,⟨u,v,ho⟩,⟨t,e1,_⟩,⟨o2,e2,_⟩⟩:=Z;simp only[QL,Rj,or_false] at hc;rcases hc with q|q|q|q|q
    .rw[<-q] at hz;exact L _ _ hz rfl
    .rw[<-q] at hi;exact L _ _ hi rfl
    .rw[<-q] at ho;exact L _ _ ho rfl
    .rw[<-q] at e1;exact L _ _ e1 rfl
    .rw[<-q] at e2;exact L _ _ e2 rfl
 done:=by
  intro X A V N hc n pins s Y H E I hf Z U;subst A V N;obtain⟨xs,ys,G,J,T⟩:=U;obtain⟨its,rv,p,_⟩:=I.list G;obtain⟨jts,Q,p',_⟩:=I.list J;obtain⟨uo,vo,F⟩:=Z.ho;have ch:∀c∈[z,TO,i,j],c∈[z,TI,TO,i,j]:=λc hc=>by simp only[QL,Rj,or_false] at hc ⊢;rcases hc with e|e|e|e<;>simp[e]
  refine wpAny_pyNext_zip_end (I.ok.hd hc) D Z.hz Z.hi F Z.h1 Z.h2 p.isList p'.isList (T.imp (λq=>by simpa using rv.none_of q) (λq=>by simpa using Q.none_of q)) λh' keep=>⟨rfl,?_⟩
  have S:∀c o,c∉[z,TO,i,j]->s.heap.get? c=some o->h'.get? c=some o:=λc o hc e=>by simp only[QL,Rj,or_false,not_or] at hc;exact keep c o hc.1 hc.2.1 hc.2.2.1 hc.2.2.2 e
  have C:∀c o,H c=some o->c∉[z,TO,i,j]:=λc o e hc=>by have:=(hf c (ch c hc)).1;rw[e] at this;cases this
  refine I.step (g':=s.gens) (d':=s.drawn) (t':=s.toks) (ch:=[z,TO,i,j]) (λc hc=>?_) (λc o _ _ hc e _=>S c o hc e) (λc o _ _ hc e _=>⟨o.slots,S c o hc e⟩) (λc o _ e q=>q) (λc o hc e=>⟨o,S c o hc e⟩)
   (λc q e=>e) (λc o q e=>e) (λc q e=>⟨#[],by rw[e];simp⟩) (λm hm=>?_) (λc o e=>?_) I.bare
  .obtain⟨f0,f1,f2,f3,f4,f5⟩:=hf c (ch c hc);exact⟨f3,f1,f4,f5⟩
  .obtain⟨o,g,l,ho,r⟩:=hm;exact⟨o,g,l,S _ o (λhc=>(hf _ (ch _ hc)).2.1 rfl) ho,r⟩
  .refine(I.hok c o e).iE (λd w hd q=>S d w ?_ q) (λd q=>q) λd q r=>r;rcases hd with rfl|hd
   .exact C _ _ e
   .exact C _ _ hd
 self:=λ_ _ _ _ _ Z q=>YK Z.hz q
end L2
set_option maxHeartbeats 1000000
set_option maxHeartbeats 4000000
set_option maxHeartbeats 1000000
set_option maxHeartbeats 4000000
namespace L2
open PySem PySem.Spec PyProof.Rows PySem.W
section
variable{prog:Program}{w:XR}{A:XU}{E:Value->Shared->Prop}{s:Shared}
theorem set_same{a:Addr}{h h':Heap}{S:Key->Bool}{n:Nat}(x:h.SetOf (iu prog w) a S n)(e:∀o,h.get? a=some o->h'.get? a=some o):h'.SetOf (iu prog w) a S n:=let ⟨o,es,ep,t,ho,r⟩:=x;⟨o,es,ep,t,e _ ho,r⟩
end
end L2
set_option maxHeartbeats 1000000
set_option maxHeartbeats 4000000
set_option maxHeartbeats 1000000
namespace M
open PySem L2
section
variable{X:Cx}{E:XK}
open PySem.Spec PyProof.Rows PySem.W in
end
open PySem.W (KasT kas_asc kas_desc kas_rev kas_tail3 kas_descPart kas_count kas_place kas_bin kas_sort)
open PyProof.Rows (mirror_perm bubble_perm bubble)
section
variable{X:Cx}{E:XK}
open PySem.Spec PyProof.Rows PySem.W in
end
section
open PySem PyProof.Rows PySem.W
variable{f:Nat->Nat->Bool}{n:Nat}{r:Nat->Nat}
noncomputable def Ra(r:Nat->Nat)(p:Array Nat)(i:Nat):Nat:=r (p.getD i 0)
end
section
variable{X:Cx}{E:XK}{pins:List (Addr×Obj)}{Y:St}{H:Hp}{s:Shared}{a b:Addr}
open PySem.Spec PyProof.Rows PySem.W in
end
noncomputable def eu:List A->Option (List Int)
 |[]=>some []
 | .int i::r=>match eu r with
  |some is=>some (i::is)
  |none=>none
 |_::_=>none
theorem jR{K:Kx}{G:Hp}:∀{as:List A}{vs:List V}{is:List Int},bN K G vs as->eu as=some is->vs=is.map V.int
 |[],_,_,.nil,h=>by cases h;rfl
 |a::as,_,_,.cons q r,h=>by
  cases a<;>first|(cases h;done)|skip
  unfold eu at h;cases e:eu as with
  |none=>simp only[e] at h;cases h
  |some Z=>simp only[e] at h;cases h;cases q;rw[jR r e];rfl
noncomputable def sd(ns:List Int):Int:=ns.getD (argBest (λi j=>decide (ns.getD i 0<ns.getD j 0)) (ns.length-1)) 0
noncomputable def sN:List Int->Int->Option Nat
 |[],_=>none
 |a::r,i=>if a=i then some 0 else (sN r i).map (·+1)
theorem iX:∀{ns:List Int}{us:List Value},Vals (ns.map V.int) us->∃xs:List (Int×Tok),us.toArray=Ys xs.toArray/\xs.map (·.1)=ns
 |[],_,.nil=>⟨[],by simp[Ys],rfl⟩
 |n::ns,_,.cons h r=>by obtain⟨t,rfl⟩:=h;obtain⟨xs,h1,h2⟩:=iX r;refine⟨(n,t)::xs,?_,by rw[Rv,h2]⟩;have h1:_=_:=Zx Vq h1;apply V8.mp;simp[Ys] at h1 ⊢;exact h1
section
variable{X:Cx}{E:XK}
open PySem.Builtin PyProof.Rows PySem.W in
end
section
variable{X:Cx}{E:XK}{pins:List (Addr×Obj)}{Y:St}{H:Hp}{s:Shared}
open Classical in
variable{a b:Expr}{ma mb:Mi Rr}{pos:Pos}
end
section
open PySem PyProof.Rows PySem.W
open SetTable in
noncomputable def aw(m:Nat)(p:Probe):Probe:=if p.more > 0 then { p with j:=p.j+1,more:=p.more-1 } else { p with j:=(leap m p.i p.perturb).1,more:=runEnd m (leap m p.i p.perturb).1-(leap m p.i p.perturb).1,i:=(leap m p.i p.perturb).1,perturb:=(leap m p.i p.perturb).2 }
open SetTable in
open SetTable in
def sp(m:Nat)(h:Int):Nat->Probe
 |0=>{ j:=bits h%(m+1),more:=runEnd m (bits h%(m+1))-bits h%(m+1),i:=bits h%(m+1),perturb:=bits h,dummy:=none }
 |n+1=>aw m (sp m h n)
open SetTable in
def nl(m:Nat)(h:Int)(N:Nat):Nat:=N+(sp m h N).more+1
end
theorem i4{α:Type}{f:Str}:∀{vs ws:List (Str×α)}{u:α},vs.lookup f=some u->(vs++ws).lookup f=some u
 |[],_,_,h=>nomatch h
 |(y,v)::vs,ws,u,h=>by
  rw[QY] at h;rw[SH,QY];split at h
  .exact h
  .exact i4 h
theorem kP{α:Type}{f:Str}:∀{vs ws:List (Str×α)},vs.lookup f=none->ws.lookup f=none->(vs++ws).lookup f=none
 |[],_,_,h=>h
 |(y,v)::vs,ws,h,h'=>by
  rw[QY] at h;rw[SH,QY];split at h
  .cases h
  .exact kP h h'
theorem kG{α:Type}{f:Str}:∀{vs ws:List (Str×α)}{u:α},vs.lookup f=none->ws.lookup f=some u->(vs++ws).lookup f=some u
 |[],_,_,_,h=>h
 |(y,v)::vs,ws,u,h,h'=>by
  rw[QY] at h;rw[SH,QY];split at h
  .cases h
  .exact kG h h'
theorem eO.none{k:Kx}{G H:Hp}{f:Str}:∀{ws:List (Str×V)}{ls:List (Str×List A)}{q:List Addr},eO k G H ws ls q->ls.lookup f=none->ws.lookup f=none
 |_,_,_,.nil,_=>rfl
 |_,_,_,.cons (y:=y) e r t,h=>by
  rw[QY] at h ⊢;split at h
  .cases h
  .exact eO.none t h
theorem eO.get{k:Kx}{G H:Hp}{f:Str}{xs:List A}:∀{ws:List (Str×V)}{ls:List (Str×List A)}{q:List Addr},eO k G H ws ls q->ls.lookup f=some xs->∃a us,ws.lookup f=some (.ref a)/\a∈q/\H a=some (.lst us)/\bN k G us xs
 |_,_,_,.nil,h=>nomatch h
 |_,_,_,.cons (y:=y) (a:=a) (us:=us) e r t,h=>by
  rw[QY] at h;rw[QY];split at h
  .cases h;exact⟨a,us,rfl,QV,e,r⟩
  .obtain⟨a,us,h1,h2,h3,h4⟩:=eO.get t h;exact⟨a,us,h1,QM _ h2,h3,h4⟩
noncomputable def iJ(f:Str)(xs:List A):List (Str×List A)->List (Str×List A)
 |[]=>[]
 |(y,zs)::r=>if f==y then (y,xs)::r else (y,zs)::iJ f xs r
theorem eO.put{k:Kx}{G H H':Hp}{f:Str}{xs Z:List A}{a:Addr}{Y:List V}:∀{ws:List (Str×V)}{ls:List (Str×List A)}{q:List Addr},eO k G H ws ls q->q.Nodup->ls.lookup f=some xs->ws.lookup f=some (.ref a)->H' a=some (.lst Y)->(∀b∈q,b≠a->H' b=H b)->bN k G Y Z->eO k G H' ws (iJ f Z ls) q
 |_,_,_,.nil,_,h,_,_,_,_=>nomatch h
 |_,_,_,.cons (y:=y) (a:=b) e r t,nd,h,h2,h3,sm,ra=>by
  rw[QY] at h h2;unfold iJ;have nd:=Rf.mp nd;cases hc:f==y with
  |true=>rw[hc] at h2;cases h2;rw[Zt rfl];exact .cons h3 ra (t.sm (Sq.refl _) λc hc u e=>by rw[sm c (QM _ hc) λz=>nd.1 (z▸hc)];exact e)
  |false=>rw[hc] at h h2;rw[Zu Z3];obtain⟨a',us,g,n,-,-⟩:=eO.get t h;have h2:_=some (V.ref a):=h2;rw[g] at h2;cases h2;refine .cons ?_ r (eO.put t nd.2 h g h3 (λc hc=>sm c (QM _ hc)) ra);rw[sm b QV λz=>nd.1 (z▸n)];exact e
variable{i:Nat}{f cn:Str}{Z:List Sl}
section
variable{X:Cx}{E:XK}
def aL(cs:List Str)(i:Nat)(f:Str):Mi Rr:=λZ=>match aE Z i with
 | some (.nob c fs _)=>if cs.contains c then (match fs.lookup f with
  |some a=>some (.ok (.fr a),Z)
  | none=>none) else none
 |_=>none
theorem yS{x:Str}{cs:List Str}{s pos:Pos}(hN:X.N[i]?=some x)(j:kq X.env.scope x)(hd:fC x)(R:k9 x)(hc:∀c C,cs.contains c=true->X.mg c=some (.ref C)->hJ X.K C/\bV X.K C f)
  (d:XM (.Name x s) f X.env (eval (.Name x s) X.env)=eval (.Name x s) X.env):JE X E (.Attribute (.Name x s) f pos) (aL cs i f):=
 ⟨PE.weaken (eV (bM hN j hd R) d) λY H Q h=>by
  obtain⟨c,Z,B,θ,o,O,I,b,em,q⟩:=h;unfold aL at em;cases v:aE Z i with
  |none=>simp only[v] at em;cases em
  |some lo=>
   cases lo with
   |lst _=>simp only[v] at em;cases em
   |dic _=>simp only[v] at em;cases em
   |obj _ _=>simp only[v] at em;cases em
   |dit _=>simp only[v] at em;cases em
   |nob cn fs ls=>
    simp only[v] at em;split at em
    .rename_i D;cases e2:fs.lookup f with
     |none=>simp only[e2] at em;cases em
     |some a=>
      simp only[e2] at em;cases em;obtain⟨L,bl⟩:=b;obtain⟨p,_,h1,h2,z⟩:=bl.live v (.nob cn fs ls) (.lst []);clear z;cases h2 with
      |nob e m r l=>
       rename_i C dx vs ws;have G:X.mg cn=some (.ref C):=by have:=Zx (λk:Kx=>k.mg cn) I;simp only at this;rw[<-this];exact m
       obtain⟨J,F⟩:=hc cn C D G;rcases r.get f with ⟨u,a',g,n,t⟩|⟨_,n⟩
       .rw[e2] at n;cases n;exact⟨_,h1,p,C,dx,vs++ws,u,rfl,e,J,F,i4 g,q u H trivial (bl.push t)⟩
       .rw[e2] at n;cases n
    .cases em⟩
def aP(cn m:Str)(i:Nat):Mi Rr:=λZ=>match aE Z i with
 |some (.nob c fs ls)=>if c==cn&&(fs.lookup m).isNone&&(ls.lookup m).isNone then some (.ok (.rf i),Z) else none
 |_=>none
theorem ja{m:Str}{O:List Sl}{o:Except Str Rr}(h:aP cn m i Z=some (o,O)):∃fs ls,aE Z i=some (.nob cn fs ls)/\fs.lookup m=none/\ls.lookup m=none/\o=.ok (.rf i)/\O=Z:=by
 unfold aP at h;split at h
 .rename_i c fs ls e;split at h
  .rename_i hc;rw[QE,QE,Zy,RE,RE] at hc;cases h;exact⟨fs,ls,by rw[e,hc.1.1],hc.1.2,hc.2,rfl,rfl⟩
  .cases h
 .cases h
theorem lS{m:Ms}{n:Nat}{mn:Str}{C:Addr}{I:List A}{dvs:List V}(hd:∀G,bN (kx X) G dvs I){ma:Mi (List Rr)}(P:X.mg cn=some (.ref C))(hn:∀Z rs O,ma Z=some (.ok rs,O)->rs.length+1+I.length=n)(Y:St)(H:Hp)(Q:VK)(h:kN (kx X) E (aY m I (c7 (aP cn mn i) ma)) Y H Q):
  vw C mn (jb (kx X) n m) dvs E (mQ i) (M7 (kx X) E ma) Y H Q:=by
 obtain⟨c,Z,B,θ,o,O,T,b,em,q⟩:=h;have J:∀{fs:List (Str×A)}{ls:List (Str×List A)},aE Z i=some (.nob cn fs ls)->fs.lookup mn=none->ls.lookup mn=none->∃p dx vs,Y[i]?=some (some (.ref p))/\H p=some (.ins C dx vs)/\vs.lookup mn=none:=λg D d=>by
  obtain⟨L,bl⟩:=b;obtain⟨p,_,h1,h2,a⟩:=bl.live g (.lst []) (.lst []);clear a;cases h2 with
  |nob e mm r l=>
   rename_i f dx vs ws;have F:X.mg cn=some (.ref f):=by have:=Zx (λk:Kx=>k.mg cn) T;simp only at this;rw[<-this];exact mm
   rw[P] at F;cases F;refine⟨p,dx,vs++ws,h1,e,kP ?_ (l.none d)⟩;rcases r.get mn with ⟨_,_,_,z,_⟩|⟨z,_⟩
   .rw[D] at z;cases z
   .exact z
 have fin:∀e,o=.error e->∀C H,X.mg e=some (.ref C)->Bd c Y H O B θ->E (.ref C) none H:=bQ q;rcases bind_some em with ⟨rs,U,e1,e2⟩|⟨e,e1,e2⟩
 .rcases bind_some e1 with ⟨r,Z0,s,j⟩|⟨y,s,j⟩
  .obtain⟨fs,ls,g,D,d,K,t⟩:=ja s;cases K;subst t;rcases bind_some j with ⟨rs',N,w,u⟩|⟨y,w,u⟩
   .cases u;obtain⟨p,dx,vs,hp,h2,hl⟩:=J g D d;refine⟨.ref p,hp,p,dx,vs,rfl,h2,hl,c,_,_,_,_,_,T,b,w,λws S R b2=>?_⟩;refine j4 (rs:=.rf i::rs') (vs:=.ref p::ws) hd T ?_ ⟨hp,R⟩ b2 e2 (λr hr v H' hv b=>by subst hr;exact q v H' hv b) (λx hx=>by subst hx;exact q);rw[SH,QU,Q2,<-R.len,<-hn _ _ _ w,(hd λ_=>none).len];lia
   .cases u
  .cases j
 .rcases bind_some e1 with ⟨r,Z0,s,j⟩|⟨y,s,j⟩
  .obtain⟨fs,ls,g,D,d,K,t⟩:=ja s;cases K;subst t;rcases bind_some j with ⟨rs',N,w,u⟩|⟨y,w,u⟩
   .cases u
   .cases u;obtain⟨p,dx,vs,hp,h2,hl⟩:=J g D d;exact⟨.ref p,hp,p,dx,vs,rfl,h2,hl,c,_,_,_,_,_,T,b,w,λC S hm b2=>fin _ e2 C S hm b2⟩
  .obtain⟨_,_,_,_,_,K,_⟩:=ja s;cases K
end
section
variable{X:Cx}{E:XK}{CX:qr}{k n i:Nat}{f C:Addr}{fd:XX}{ps:List Str}{m:Ms}{I:List A}{dvs:List V}{ds:List Value}{cn mn x:Str}{px apos pos:Pos}{e:Expr}{es:List Expr}{ma:Mi (List Rr)}
theorem rz(y:X.mg cn=some (.ref C))(hc:hJ X.K C)(hm:Meth X.K C mn f)(F:dJ X.prog X.w X.K X.mg X.base CX k f fd ps (jb (kx X) n m))(hr:cY k X.A)(d:Binds X.K fd ps ds)(hd:Vals dvs ds)(B:∀G,bN (kx X) G dvs I)(hx:Passes CX X E)
  (hN:X.N[i]?=some x)(r:kq X.env.scope x)(b:fC x)(R:k9 x)(V:JA X E (e::es) ma)(hn:∀Z rs O,ma Z=some (.ok rs,O)->rs.length+1+I.length=n)(H:XM (.Name x px) mn X.env (eval (.Name x px) X.env)=eval (.Name x px) X.env)
  (c:Yo ((e::es).length+([]:List X1).length) (XQ pos (XG (e::es) X.env)) (X6 pos (XW [] X.env))=true)(Y:(apos.endLine==pos.line)=true)
  (Q:XG (e::es) X.env=(false,eval e X.env)::XG es X.env)(h:(XQ pos (XG es X.env)).any (·.1)=false):JE X E (.Call (.Attribute (.Name x px) mn apos) (e::es) [] pos) (aY m I (c7 (aP cn mn i) ma)):=
 ⟨PE.weaken (vk (bM hN r b R) hc hm F hr d hd hx V.p Q h (ik H c Y)) (lS B y hn)⟩
theorem oq(y:X.mg cn=some (.ref C))(hc:hJ X.K C)(hm:Meth X.K C mn f)(F:dJ X.prog X.w X.K X.mg X.base CX k f fd ps (jb (kx X) n m))(hr:cY k X.A)(d:Binds X.K fd ps ds)(hd:Vals dvs ds)(L:∀G,bN (kx X) G dvs I)(hx:Passes CX X E)
  (hN:X.N[i]?=some x)(r:kq X.env.scope x)(z:fC x)(R:k9 x)(hn:1+I.length=n)(p:XM (.Name x px) mn X.env (eval (.Name x px) X.env)=eval (.Name x px) X.env)(D:(apos.endLine==pos.line)=true):JE X E (.Call (.Attribute (.Name x px) mn apos) [] [] pos) (aY m I (c7 (aP cn mn i) nh)):=
 ⟨PE.weaken (qH (bM hN r z R) hc hm F hr d hd hx (ik p rfl D)) λY H Q h=>by obtain⟨v,s,a,dx,fs,g,u,t,l⟩:=lS (X:=X) (E:=E) (C:=C) (n:=n) L y (ma:=nh) (λZ rs O q=>by cases q;rw[<-hn];simp) Y H Q h;refine⟨v,s,a,dx,fs,g,u,t,?_⟩;obtain⟨c,Z,B,θ,o,O,e,b,em,q⟩:=l;cases em;exact q [] H trivial b⟩
end
section
variable{c:Cn}{Y:St}{H:Hp}{Z:List Sl}{B:St}{θ:List Sl}
theorem Bd.give{a:Addr}{xs:List A}{fs:List (Str×A)}(b:Bd c Y H Z (some (.ref a)::B) (.lv (.lst xs)::θ))(Q:aE Z i=some (.obj cn fs)):
  ∃p C dx vs,Y[i]?=some (some (.ref p))/\H p=some (.ins C dx vs)/\c.mg cn=some (.ref C)/\vs.length=fs.length/\(fs.lookup f=none->vs.lookup f=none)/\Bd c Y (upd H p (.ins C dx (vs++[(f,.ref a)]))) (setAt Z i (.nob cn fs [(f,xs)])) B θ:=by
 obtain⟨L,b⟩:=b;have rel:ax c.toKx (c.g H L) H (some (.ref a)::(B++Y)) (.lv (.lst xs)::(θ++Z)) L:=b.rel;have lt:B.length=θ.length:=by simpa using b.lt
 cases rel with
 |cons h r=>
  rename_i La L';cases h with
  |lv R=>
   cases R with
   |lst ea ra=>
    rename_i us;have nd:a∉L'/\L'.Nodup:=Rf.mp b.nd;obtain⟨X,L2,e1,r1,r2⟩:=ax.split lt r;have key:∀(s t:Sl)(o:LO),Z[i]?=some s->(s=.lv (.obj cn fs)/\t=.lv (.nob cn fs [(f,xs)])\/s=.pv (.obj cn fs)/\t=.pv (.nob cn fs [(f,xs)]))->setAt Z i (.nob cn fs [(f,xs)])=Z.set i t->
      ∃p C dx vs,Y[i]?=some (some (.ref p))/\H p=some (.ins C dx vs)/\c.mg cn=some (.ref C)/\vs.length=fs.length/\(fs.lookup f=none->vs.lookup f=none)/\Bd c Y (upd H p (.ins C dx (vs++[(f,.ref a)]))) (setAt Z i (.nob cn fs [(f,xs)])) B θ:=by
     intro s t _ es T E;obtain⟨x,M1,M2,v,hx,hs,e2,ins⟩:=r2.at es;have F:∀p,x=some (.ref p)->M2=[p]->LR c.toKx (c.g H (a::L')) H p (.obj cn fs) []->(∀G H' ,LR c.toKx G H' p (.nob cn fs [(f,xs)]) [a]->fD c.toKx G H' (some (.ref p)) t [p,a])->
       ∃p C dx vs,Y[i]?=some (some (.ref p))/\H p=some (.ins C dx vs)/\c.mg cn=some (.ref C)/\vs.length=fs.length/\(fs.lookup f=none->vs.lookup f=none)/\Bd c Y (upd H p (.ins C dx (vs++[(f,.ref a)]))) (setAt Z i (.nob cn fs [(f,xs)])) B θ:=by
      intro p ex I R mk;subst ex I;cases R with
      |obj e m k=>
       rename_i C dx vs;have O:p≠a:=λz=>nd.1 (by rw[e1,e2,<-z];simp);have D:∀b,b∈X++(M1++[p,a]++v)↔b∈a::L':=λb=>by
        rw[e1,e2];simp only[QP,QL,Q8,Rj,or_false];constructor
        .rintro(h|(h|h|h)|h)<;>simp[h]
        .rintro(h|h|(h|h)|h)<;>simp[h]
       have hg:∀H',c.g H' (X++(M1++[p,a]++v))=c.g H' (a::L'):=λH'=>Di D;have pL:p∈a::L':=by rw[e1,e2];simp
       have V:c.g (upd H p (.ins C dx (vs++[(f,.ref a)]))) (a::L')=c.g H (a::L'):=by
        funext z
        by_cases K:z∈a::L'\/z∈c.Hd
        .rw[gJ K,gJ K]
        .rw[bE (λy=>K (.inl y)) (λy=>K (.inr y)),bE (λy=>K (.inl y)) (λy=>K (.inr y)),ao (λ(y:z=p)=>K (.inl (by rw[y];exact pL)))]
       have U:∀b∈X++(M1++v),b≠p:=λb d z=>by
        have l:=nd.2;rw[e1,e2] at l;subst z;obtain⟨n1,n2,n3⟩:=QQ.mp l;rcases QP.mp d with z|z
        .exact n3 _ z _ Z5 rfl
        .obtain⟨m1,m2⟩:=i9 n2;exact m2 b Z5 z
       have keep:∀b∈X++(M1++v),∀u,H b=some u->upd H p (.ins C dx (vs++[(f,.ref a)])) b=some u:=λb d u e=>by rw[ao (U b d)];exact e
       refine⟨p,C,dx,vs,hx,e,m,k.len,(λz=>by
        rcases k.get f with ⟨_,_,_,y,_⟩|⟨y,_⟩
        .rw[z] at y;cases y
        .exact y),X++(M1++[p,a]++v),?_,?_,λz hz=>b.own z ((D z).mp hz),?_,?_,lt,b.hd⟩
       .have pm:(X++(M1++[p,a]++v)).Perm (a::L'):=by
         rw[e1,e2];have q1:(M1++[p,a]++v).Perm (a::(M1++[p]++v)):=by
          have:M1++[p,a]++v=(M1++[p])++(a::v):=by simp
          rw[this];exact R1
         exact(List.Perm.append_left X q1).trans R1
        exact pm.nodup_iff.mpr b.nd
       .rw[hg,V,E];have i1:=ins (G':=c.g H (a::L')) (H':=upd H p (.ins C dx (vs++[(f,.ref a)]))) (y:=some (.ref p)) (t:=t) (L':=[p,a]) (Sq.refl _) (λb d=>keep b (QG _ d)) (mk _ _ (.nob (by rw[aI]) m k (.cons (by rw[ao O.symm];exact ea) ra .nil)));have n:Y.set i (some (.ref p))=Y:=by
         apply Sk;intro j;by_cases N:i=j
         .subst N;rw[Q0 (QH.mp hx).1,hx]
         .rw[Rb N]
        rw[n] at i1;exact(r1.sm (Sq.refl _) λb d=>keep b (QI _ d)).app i1
       .refine⟨λz o e'=>?_,λw hw=>?_⟩
        .obtain⟨u,u1,u2⟩:=b.fr.st z o e';by_cases hz:z=p
         .subst hz;refine⟨_,aI,λna _=>?_⟩;rcases b.own z pL with y|y
          .exact absurd y na
          .rw[y] at e';cases e'
         .exact⟨u,by rw[ao hz];exact u1,u2⟩
        .obtain⟨P,S,k3⟩:=b.fr.pk w hw;refine⟨?_,S,k3⟩;rw[ao λz=>?_]
         .exact P
         .obtain⟨ob,us',S⟩:=S;rw[z,e] at P;rw[S] at P;cases P
       .rw[E];intro j o N w;by_cases J:i=j
        .subst J;rw[Q0 (QH.mp es).1] at N;rcases T with ⟨_,rfl⟩|⟨rfl,rfl⟩
         .cases N;cases w
         .exact b.kp i _ es rfl
        .rw[Rb J] at N;exact b.kp j o N w
     rcases T with ⟨rfl,rfl⟩|⟨rfl,rfl⟩
     .cases hs with
      |lv h=>
       rename_i p q;have:q=[]:=by cases h;rfl
       subst this;exact F p rfl rfl h λG H' h=>.lv h
     .cases hs with
      |pv h=>
       rename_i p q;have:q=[]:=by cases h;rfl
       subst this;exact F p rfl rfl h λG H' h=>.pv h
    unfold aE at Q;cases es:Z[i]? with
    |none=>simp only[es] at Q;cases Q
    |some s=>
     cases s with
     |un=>simp only[es] at Q;cases Q
     |cf _=>simp only[es] at Q;cases Q
     |fr a=>simp only[es] at Q;cases Q
     |lv o1=>simp only[es] at Q;cases Q;exact key _ _ (.obj cn fs) es (.inl ⟨rfl,rfl⟩) (by unfold setAt;simp only[es])
     |pv o1=>simp only[es] at Q;cases Q;exact key _ _ (.obj cn fs) es (.inr ⟨rfl,rfl⟩) (by unfold setAt;simp only[es])
end
variable{H:Hp}
section
variable{X:Cx}{E:XK}
theorem qA(f:Str)(v:V):∀{fs:List (Str×V)},fs.lookup f=none->dU f v fs=fs++[(f,v)]
 |[],_=>rfl
 |(g,x)::r,h=>by
  rw[QY] at h;unfold dU;split at h
  .cases h
  .rename_i hc;have:¬ g=f:=λz=>by rw[z] at hc;simp at hc
   rw[Zu this,qA f v h];rfl
theorem Bd.tI{c:Cn}{Y:St}{B:St}{θ:List Sl}{v:V}{o:LO}(b:Bd c Y H Z (some v::B) (.lv o::θ)):∃a,v=.ref a:=by
 obtain⟨L,b⟩:=b;have rel:ax c.toKx (c.g H L) H (some v::(B++Y)) (.lv o::(θ++Z)) L:=b.rel;cases rel with
 |cons h r=>cases h with
  |lv h=>exact⟨_,rfl⟩
end
mutual
noncomputable def pl:A->Bool
 | .tup xs=>Dd xs
 | .lst _=>false
 | .dic _=>false
 | .dit _=>false
 | .obj _ _=>false
 | .exc _=>false
 |_=>true
noncomputable def Dd:List A->Bool
 |[]=>true
 |a::r=>pl a&&Dd r
end
def NG:LO->Bool
 | .lst xs=>Dd xs
 |_=>false
def xN:Sl->Bool
 | .fr a=>pl a
 | .cf a=>pl a
 | .lv o=>NG o
 | .pv o=>NG o
 | .un=>true
def Tq(G G':Hp):Prop:=∀a u,G a=some u->(∀ws,u≠.lst ws)->(∀C dx fs,u≠.ins C dx fs)->G' a=some u
variable{vs:List V}
section
variable{k:Kx}{G G' H:Hp}
theorem Jr{p:Addr}(s:Tq G G')(q:gW k.K G p vs):gW k.K G' p vs:=q.imp (λr=>by
 rcases r with r|⟨o,r⟩
 .exact .inl (s _ _ r (λws z=>by cases z) λC dx fs z=>by cases z)
 .exact .inr ⟨o,s _ _ r (λws z=>by cases z) λC dx fs z=>by cases z⟩) id
mutual
theorem RA.pl(s:Tq G G'):∀{v:V}{a:A},RA k G v a->M.pl a=true->RA k G' v a
 |_,_,.non,_=>.non
 |_,_,.bl b,_=>.bl b
 |_,_,.int i,_=>.int i
 |_,_,.str x,_=>.str x
 |_,_,.tup e r,h=>.tup (Jr s e) (bN.pl s r (by rw[M.pl] at h;exact h))
 |_,_,.lst e r,h=>by rw[M.pl] at h;cases h
 |_,_,.dic e r,h=>by rw[M.pl] at h;cases h
 |_,_,.exc e m,h=>by rw[M.pl] at h;cases h
 |_,_,.obj e m r,h=>by rw[M.pl] at h;cases h
 |_,_,.dit e r,h=>by rw[M.pl] at h;cases h
 |_,_,.opq,_=>.opq
theorem bN.pl(s:Tq G G'):∀{vs:List V}{as:List A},bN k G vs as->Dd as=true->bN k G' vs as
 |_,_,.nil,_=>.nil
 |_,_,.cons h r,e=>by rw[Dd,QE] at e;exact .cons (RA.pl s h e.1) (bN.pl s r e.2)
end
theorem LR.pl{p:Addr}{o:LO}{q:List Addr}(s:Tq G G')(h:LR k G H p o q)(e:NG o=true):LR k G' H p o q:=by
 cases h with
 |nob=>cases e
 |lst x r=>exact .lst x (r.pl s e)
 |dic x r=>cases e
 |obj x m r=>cases e
 |dit x r=>cases e
theorem fD.pl{x:Option V}{t:Sl}{L:List Addr}(s:Tq G G')(h:fD k G H x t L)(e:xN t=true):fD k G' H x t L:=by
 cases h with
 |un=>exact .un _
 |fr h=>exact .fr (h.pl s e)
 |cf h=>exact .cf (h.pl s e)
 |lv h=>exact .lv (h.pl s e)
 |pv h=>exact .pv (h.pl s e)
theorem eO.kind{ws:List (Str×V)}{ls:List (Str×List A)}{q:List Addr}(h:eO k G H ws ls q):∀a∈q,∃us,H a=some (.lst us):=by
 induction h with
 |nil=>intro a f;cases f
 |cons e r t m=>intro b d;rcases QL.mp d with rfl|d;exact⟨_,e⟩;exact m b d
theorem LR.kind{p:Addr}{cn:Str}{fs:List (Str×A)}{ls:List (Str×List A)}{q:List Addr}(h:LR k G H p (.nob cn fs ls) q):∀a∈p::q,(∃us,H a=some (.lst us))\/∃C dx fs,H a=some (.ins C dx fs):=by
 cases h with
 |nob e m r l=>
  intro a f;rcases QL.mp f with rfl|f
  .exact .inr ⟨_,_,_,e⟩
  .exact .inl (l.kind a f)
end
def bu(j:Nat)(m:Ms):Ms:=λZ=>match Z[j]? with
 |some (.pv (.nob c fs ls))=>match m (Z.set j (.fr (LO.nob c fs ls).a)) with
  |some (.rt s,U)=>if Bt (aA Z.length U)[j]?&&(s::aA Z.length U).all xN then some (.rt s,(aA Z.length U).set j (.pv (.nob c fs ls))) else none
  |some (.ex x,U)=>if Bt (aA Z.length U)[j]?&&(aA Z.length U).all xN then some (.ex x,(aA Z.length U).set j (.pv (.nob c fs ls))) else none
  |_=>none
 |_=>m Z
theorem jb.Bv{K:Kx}{n j:Nat}{m:Ms}{Q:VK}{E:XK}(h:jb K n (bu j m) vs H Q E):jb K n m vs H Q E:=by
 obtain⟨hn,c,Z,f,O,ek,es,T,b,em,q⟩:=h;unfold bu at em;split at em
 .rename_i cn fs ls ej;have rel:ax c.toKx (c.g H c.Lp) H (vs.map some) Z c.Lp:=b.rel;obtain⟨x,X,Lj,L2,x1,I,x3,D⟩:=rel.pick ej;cases x3 with
  |pv lr=>
   rename_i p qs;have Y:=lr;cases lr with
   |nob ep mm rr ll=>
    rename_i C dx ws us;have nd:=b.nd;rw[I] at nd;have A:(X++L2).Nodup:=nd.sublist (S4 (Tf _) (Tz _ _));have np:∀a∈p::qs,a∉X++L2:=λa V=>(i9 (by rw[<-QJ] at nd;exact nd)).2 a V;have l:(p::qs).Nodup:=(QQ.mp (QQ.mp nd).2.1).1;have R:=Y.is;have S:=Y.nf;have sub:∀a,a∈X++L2->a∈c.Lp:=λa V=>by
     rw[I];rcases QP.mp V with z|z
     .exact QI _ z
     .exact QG _ (QG _ z)
    have pin:∀a∈p::qs,a∈c.Lp:=λa V=>by rw[I];exact QG _ (QI _ V)
    have xV:∀a∈p::qs,a∉c.Hd:=λa V=>b.xV (pin a V)
    let c2:Cn:={ c with Lp:=X++L2 }
    have L:Z.length=vs.length:=by have:=rel.len;simpa using this.symm
    have b2:dZ c2 (vs.map some) H (Z.set j (.fr (LO.nob cn fs ls).a)) [] [] c2.Lp:=by refine⟨A,?_,λa V=>.inl V,⟨λa o e=>⟨o,by rw[<-T];exact e,λ_ _=>rfl⟩,λw F=>b.fr.pk w F⟩,λi o _ _=>by rw[es],rfl,λa V=>⟨(b.hd a V).1,λy=>(b.hd a V).2 (sub a y)⟩⟩;have sm:Sq (c.g H c.Lp) (c.g H (X++L2)):=dF sub;have:ax c.toKx (c.g H (X++L2)) H (vs.map some) (Z.set j (.fr (LO.nob cn fs ls).a)) (X++([]++L2)):=D (λ_ h=>h.sm sm (λ_ _ _ e=>e)) (.fr (Y.a' sm λa V u e=>by rw[bE (np a V) (xV a V)];exact e));exact this
    have key:∀(H':Hp)(β:List Sl)(B:St)(θ:List Sl),B.length=θ.length->β[j]?=some .un->(θ++β).all xN=true->Bd c2 (vs.map some) H' β B θ->Bd c (vs.map some) H' (β.set j (.pv (.nob cn fs ls))) B θ:=by
     intro H' β B θ lt P N J;obtain⟨L',J⟩:=J;have k:∀a∈p::qs,∀w,(a,w)∉c.Wk:=λa V w F=>by obtain⟨h1,⟨ob,us,h2⟩,_⟩:=b.fr.pk _ F;simp only at h1 h2;exact S a V _ _ (by rw[h1,h2])
     have t:∀a∈p::qs,∀u,H a=some u->H' a=some u:=λa V u e=>by obtain⟨d,h1,h2⟩:=J.fr.st a u (by show c.H0 a=_;rw[T];exact e);rw[h1,h2 (np a V) (k a V)]
     have npL:∀a∈p::qs,a∉L':=λa V y=>by
      rcases J.own a y with z|z
      .exact np a V z
      .have z:c.H0 a=none:=z;obtain⟨u,G⟩:=R a V;rw[T,G] at z;cases z
     have jj:(θ++β)[θ.length+j]?=some .un:=by rw[Rx (SM _ _),T7];exact P
     obtain⟨y,M1,Mj,r,y1,y2,y3,y4⟩:=ax.pick J.rel jj;cases y3 with
     |un=>
      have yx:y=some (.ref p):=by rw[<-lt,Rx (SM _ _),T7,x1] at y1;exact(Q9 y1).symm
      subst yx;have eL:L'=M1++r:=y2;have hN:∀a,a∈M1++((p::qs)++r)↔a∈p::qs\/a∈L':=λa=>by
       rw[eL];simp only[QP];constructor
       .rintro(h|h|h)
        .exact .inr (.inl h)
        .exact .inl h
        .exact .inr (.inr h)
       .rintro(h|h|h)
        .exact .inr (.inl h)
        .exact .inl h
        .exact .inr (.inr h)
      have lq:Tq (c.g H' L') (c.g H' (M1++((p::qs)++r))):=λa u e nl ni=>by
       by_cases z:a∈L'\/a∈c.Hd
       .rw[gJ z] at e;cases e
       .rw[bE (λy=>z (.inl y)) (λy=>z (.inr y))] at e;rw[bE (λy=>?_) (λy=>z (.inr y))]
        .exact e
        .rcases(hN a).mp y with w|w
         .rcases Y.kind a w with ⟨us,G⟩|⟨C,dx,fs,G⟩
          .rw[t a w _ G] at e;exact nl us (Q9 e).symm
          .rw[t a w _ G] at e;exact ni C dx fs (Q9 e).symm
         .exact z (.inl w)
      have sq:Sq (c.g H c.Lp) (c.g H' (M1++((p::qs)++r))):=λa u e=>by
       by_cases z:a∈c.Lp\/a∈c.Hd
       .rw[gJ z] at e;cases e
       .rw[bE (λy=>z (.inl y)) (λy=>z (.inr y))] at e;obtain⟨d,h1,h2⟩:=J.fr.st a u (by show c.H0 a=_;rw[T];exact e);have G:d=u:=by
         by_cases F:∃w,(a,w)∈c.Wk
         .obtain⟨w,F⟩:=F;have p1:=(b.fr.pk _ F).1;have p2:=(J.fr.pk _ F).1;simp only at p1 p2;rw[e] at p1;rw[h1] at p2;rw[Q9 p2,Q9 p1]
         .exact h2 (λy=>z (.inl (sub a y))) λw y=>F ⟨w,y⟩
        subst G;refine⟨d,?_,.inl rfl⟩;rw[bE (λy=>?_) (λy=>z (.inr y))]
        .exact h1
        .rcases(hN a).mp y with w|w
         .exact z (.inl (pin a w))
         .rcases J.own a w with v|v
          .exact z (.inl (sub a v))
          .have v:c.H0 a=none:=v;rw[T,e] at v;cases v
      have Gr:ax c.toKx (c.g H' (M1++((p::qs)++r))) H' (B++vs.map some) ((θ++β).set (θ.length+j) (.pv (.nob cn fs ls))) (M1++((p::qs)++r)):=
       y4 (λm h=>h.pl lq (R3.mp N _ m)) (.pv (Y.sm sq t))
      rw[Um _ _ (SM _ _),T7] at Gr;refine⟨M1++((p::qs)++r),?_,Gr,λa V=>?_,⟨λa o e=>?_,λw F=>J.fr.pk w F⟩,λi o _ _=>by rw[es],lt,b.hd⟩
      .have pm:(M1++((p::qs)++r)).Perm ((p::qs)++(M1++r)):=by rw[<-QJ,<-QJ];exact Tc.append_right r
       refine(pm.nodup_iff).mpr (QQ.mpr ⟨l,by rw[<-eL];exact J.nd,λa V b hb z=>npL a V (by rw[eL,z];exact hb)⟩)
      .rcases(hN a).mp V with w|w
       .exact .inl (pin a w)
       .rcases J.own a w with v | v
        .exact .inl (sub a v)
        .exact .inr v
      .obtain ⟨u,h1,h2⟩:=J.fr.st a o e;exact⟨u,h1,λna nw=>h2 (λy=>na (sub a y)) nw⟩
    cases e4:m (Z.set j (.fr (LO.nob cn fs ls).a)) with
    |none=>simp only[e4] at em;cases em
    |some pr=>
     obtain⟨g,U⟩:=pr;simp only[e4] at em;refine⟨hn,c2,_,g,U,ek,es,T,b2,e4,?_⟩;cases g with
     |nx=>cases em
     |bk=>cases em
     |ct=>cases em
     |rt s=>
      simp only at em;split at em
      .rename_i hc;cases em;intro v H' hs J;rw[QE] at hc;rw[L] at hc q;simp only[gU] at q;exact q v H' hs (key H' _ _ _ rfl (u6 hc.1) hc.2 J)
      .cases em
     |ex x=>
      simp only at em;split at em
      .rename_i hc;cases em;intro C H' hm J;rw[QE] at hc;rw[L] at hc q;simp only[gU] at q;exact q C H' hm (key H' _ _ _ rfl (u6 hc.1) hc.2 J)
      .cases em
 .exact⟨hn,c,Z,f,O,ek,es,T,b,em,q⟩
section
variable{k:Kx}{G G' H:Hp}
theorem ax.FR:∀{Y:St}{Z:List Sl}{L:List Addr},(∀{x:Option V}{t:Sl}{L:List Addr}(j:Nat),Z[j]?=some t->fD k G H x t L->fD k G' H x t L)->ax k G H Y Z L->ax k G' H Y Z L
 |_,_,_,_,.nil=>.nil
 |_,_,_,f,.cons h r=>.cons (f 0 rfl h) (ax.FR (λj N=>f (j+1) (by simpa using N)) r)
end
def Om:Rr->Bool
 | .rf _=>false
 | .fr a=>pl a
 | .nw o=>NG o
end M
set_option maxHeartbeats 4000000
namespace L2
open PySem PySem.Spec PyProof.Rows PySem.W
structure IG(h:Heap)(e it l:Addr)(n:Nat):Prop where
 he:∃old,IsEnum h e it ((n:Nat):Int) old
 hi:h.IsListIter it l n
def PX(K:QF)(a:Addr):It:=
  ⟨λi H=>∃xs x,dm K H a xs/\xs[i]?=some x,
   λi H v H'=>∃t x,v=.ref t/\H t=none/\H'=upd H t (.tup [.int i,x])/\∀xs,dm K H a xs->xs[i]?=some x,
   λi H=>∃xs,dm K H a xs/\xs[i]?=none⟩
variable{es:List Expr}{kk:Nat}{tp:Pos}
theorem wj{P:Program}{w:XR}{K:QF}{e it a:Addr}(D:e≠it):
  Turn P w K (.Tuple es kk tp) (PX K a) [e,it] e (λn h=>IG h e it a n) where
 mem:=by simp
 obj:=λn h Z c hc=>by
  obtain⟨⟨old,he⟩,⟨o,e1,_,U⟩⟩:=Z;simp only[QL,Rj,or_false] at hc;rcases hc with rfl|rfl
  .exact⟨_,he,λv q=>by cases q⟩
  .exact⟨_,e1,λv q=>by rw[U] at q;cases q⟩
 keep:=λn h h' Z k=>by obtain⟨⟨old,he⟩,⟨o,e1,f⟩⟩:=Z;exact⟨⟨old,k _ Z5 _ he⟩,⟨o,k _ Z5 _ e1,f⟩⟩
 item:=by
  intro X A V N hc n pins s Y H E I hf Z J;subst A V N;obtain⟨xs,x,G,hx⟩:=J;obtain⟨j,t,p,_⟩:=I.list G;obtain⟨u,hu,ru⟩:=t.get hx;obtain⟨⟨old,he⟩,hi⟩:=Z;refine wpAny_pyNext_enum_item he hi p.isList (by simpa using hu) D λh' z1 z2 z3 z4 keep=>?_;refine⟨_,rfl,wpAny_letOwnedTupleGo_enum z1 λh2 B sb=>?_⟩;have S:∀c o,c∉[e,it]->s.heap.get? c=some o->h2.get? c=some o:=λc o hc q=>by simp only[QL,Rj,or_false,not_or] at hc;exact sb.extBut c o hc.1 (keep c o hc.1 hc.2 q)
  have L:∀c o,s.heap.get? c=some o->c≠s.heap.objs.size:=λc o q=>Rl (QZ q);have C:∀c o,H c=some o->c∉[e,it]:=λc o q hc=>by have:=(hf c hc).1;rw[q] at this;cases this
  have hn:=I.fresh;have Q:=(L _ _ he).symm;have I2:Inv X pins Y (upd H s.heap.objs.size (.tup [.int n,x])) { s with heap:=h2,gens:=s.gens,drawn:=s.drawn,toks:=s.toks+1 }:=by
   refine I.step (λc hc=>?_) (λc o _ _ hc q _=>S c o hc q) (λc o _ _ hc q _=>⟨o.slots,S c o hc q⟩) (λc o _ q z=>by rw[ao (L c o q)];exact z) (λc o hc q=>⟨o,S c o hc q⟩)
    (λc z q=>by rw[ao (aD q hn)];exact q) (λc o z q=>by rw[ao (aD q hn)];exact q) (λc z q=>⟨#[],by rw[ao (aD q hn),q];simp⟩) (λm hm=>?_) (λc o q=>?_) I.bare
   .obtain⟨f0,y,f2,F,l,R⟩:=hf c hc;exact⟨F,y,l,R⟩
   .obtain⟨o,g,q2,ho,r⟩:=hm;exact⟨o,g,q2,S _ o (λhc=>(hf _ hc).2.1 rfl) ho,r⟩
   .by_cases hc:c=s.heap.objs.size
    .subst hc;rw[aI] at q;cases q;refine⟨(show 2<=sizeLine by decide),[.int n s.toks,u],.cons ⟨_,rfl⟩ (.cons ru .nil),?_⟩;exact⟨_,sb.extBut _ _ Q z3,rfl,_,rfl,rfl⟩
    .rw[ao hc] at q;refine(I.hok c o q).iE (λd w hd z=>S d w ?_ z) (λd z=>by rw[ao (aD z hn)];exact z) λd z r=>by rw[ao (aD r hn)];exact r
     rcases hd with rfl|hd
     .exact C _ _ q
     .exact C _ _ hd
  have i:=λc o hc q=>sb.extBut c o hc q;obtain⟨o1,e1,f⟩:=z2;obtain⟨oi,O,_⟩:=id hi;have en:((n+1:Nat):Int)=(n:Int)+1:=by push_cast;rfl
  refine⟨.ref s.heap.objs.size,_,I2,rfl,⟨s.heap.objs.size,x,rfl,hn,rfl,λxs' g=>?_⟩,⟨⟨_,by rw[en];exact B⟩,⟨o1,i _ _ (RH D) e1,f⟩⟩,λc hc=>?_⟩
  .rw[I.fR g G];exact hx
  .rw[ao]
   .exact(hf c hc).1
   .rintro rfl;simp only[QL,Rj,or_false] at hc;rcases hc with q|q
    .rw[<-q] at he;exact L _ _ he rfl
    .rw[<-q] at O;exact L _ _ O rfl
 done:=by
  intro X A V N hc n pins s Y H E I hf Z J;subst A V N;obtain⟨xs,G,T⟩:=J;obtain⟨j,t,p,_⟩:=I.list G;obtain⟨⟨old,he⟩,hi⟩:=Z;refine wpAny_pyNext_enum_end (I.ok.hd hc) he hi p.isList (by simpa using t.none_of T) λh' eb=>⟨rfl,?_⟩
  obtain⟨f0,y,f2,F,l,R⟩:=hf it Z5;exact I.turned (λb o hb q=>eb b o hb q) f0 y F l R
 self:=λ_ _ _ _ _ Z q=>let ⟨_,he⟩:=Z.he;Zb he q
def LD(K:QF)(ta:TA):TI:=λY H R=>ta Y H λvs U=>∃a xs,vs=[.ref a]/\dm K U a xs/\R (PX K a) U
theorem Dr{X:Cx}{e1:Expr}{ta:TA}{p pos:Pos}(hg:Gl X "enumerate")(hm:X.mg "enumerate" = none)(ha:PA X [e1] ta)(hs:XG [e1] X.env=[(false,eval e1 X.env)]:=by rfl):
  PI X (.Tuple es kk tp) (.Call (.Name "enumerate" p) [e1] [] pos) (LD X.K ta):=by
 intro pins s Y H R I h;refine Call_ (hV I hg hm pj (RP (cC (ha pos pins s Y H _ I h) λus s1 ⟨vs,H1,I1,r1,q1⟩=>?_) (by rw[hs];rfl) rfl));obtain⟨a,xs,rfl,qa,q⟩:=q1;obtain⟨u,rfl,r⟩:=r1.one;cases r;obtain⟨its,rv,pa,_⟩:=I1.list qa;refine call_enumerate_list pa.isList λh' z1 z2 z3 keep=>?_;have I2:=I1.kept (t':=s1.toks) keep;refine Zb z1 ⟨_,[s1.heap.objs.size+1,s1.heap.objs.size],_,_,H1,rfl,I2,wj (Nat.succ_ne_self _),⟨⟨_,z1⟩,z2⟩,λc hc=>?_,q⟩;have hle:s1.heap.objs.size<=c:=by simp only[QL,Rj,or_false] at hc;rcases hc with rfl|rfl<;>first|exact SM _ _|exact QN _
 exact I1.wU hle (I1.hok.fresh hle)
end L2
namespace M
open PySem L2
section
variable{X:Cx}{E:XK}
noncomputable def iN:Nat->List A->List A
 |_,[]=>[]
 |i,a::as=>.tup [.int i,a]::iN (i+1) as
theorem kr:∀(as:List A)(i:Nat),(iN i as).length=as.length
 |[],_=>rfl
 |_::as,i=>by rw[iN,QU,QU,kr as]
theorem mr:∀(as:List A)(i j:Nat)(a:A),(iN i as)[j]?=some a->∃b,as[j]?=some b/\a=.tup [.int (i+j:Nat),b]
 |[],_,_,_,h=>by simp[iN] at h
 |b::as,i,0,a,h=>by cases h;exact⟨b,rfl,rfl⟩
 |b::as,i,j+1,a,h=>by obtain⟨c,h1,h2⟩:=mr as (i+1) j a h;exact⟨c,by rw[List.getElem?_cons_succ];exact h1,by rw[h2,show i+1+j=i+(j+1) by lia]⟩
def u3(ma:Mi Rr):Mi (List A):=aS ma λx=>λZ=>match dP [x] Z with
 |some ([.lst as],O)=>some (.ok (iN 0 as),O)
 |_=>none
theorem Ed{e1:Expr}{m:Mi Rr}{p pos:Pos}{es:List Expr}{kk:Nat}{tp:Pos}(hg:Gl X "enumerate")(hm:X.mg "enumerate" = none)(h1:JE X E e1 m)(hs:XG [e1] X.env=[(false,eval e1 X.env)]:=by rfl)(hs3:XG [e1] X.env=(false,eval e1 X.env)::XG [] X.env:=by rfl):
  JI X E (.Tuple es kk tp) (.Call (.Name "enumerate" p) [e1] [] pos) (u3 m):=⟨λpins s Y H R I h=>by
 refine Dr hg hm (aX h1.p cu hs3) hs pins s Y H R I ?_;obtain⟨c,Z,B,θ,o,O,ek,b,em,q⟩:=h;refine bj ek b em (λx v U H1 hv b1 em1=>?_) (da q);cases ef:dP [x] U with
 |none=>rw[ef] at em1;cases em1
 |some pr=>
  rw[ef] at em1;obtain⟨q1,N⟩:=pr;rcases q1 with _|⟨a1,_|_⟩
  .cases em1
  rotate_left
  .cases a1<;>exact ke em1
  cases a1 with
  |lst as=>
   cases em1;have eK:c.K=X.K:=Zx Kx.K ek;have b3:=(Bd.dP (rs:=[x]) (vs:=[v]) ⟨hv,trivial⟩ b1 ef).1;obtain⟨L0,bl0,v0⟩:=Bd.mid (xs:=[]) (ss:=[]) rfl b3;cases v0 with
   |lst ve vr=>
   rename_i pv ts;refine⟨pv,ts,rfl,by rw[<-eK];exact dN (g_same _ _ _) ve,q _ H1 [some (.ref pv)] [.lst as] rfl (λc' j H' O F D J T i ek' lx b'=>?_) b3⟩;have eK':c'.K=X.K:=Zx Kx.K ek';obtain⟨L,bl,v1⟩:=Bd.mid lx b';cases v1 with
   |lst ve vr=>
   rename_i ts';have sv:dm X.K H' pv ts':=by rw[<-eK'];exact dN (g_same _ _ _) ve
   refine⟨λhi=>⟨ts',sv,?_⟩,λa ha=>?_⟩
   .rw[kr] at hi;exact RQ (by rw[vr.len];exact hi)
   .obtain⟨b0,za,rfl⟩:=mr as 0 i a ha;obtain⟨t,g1,g2⟩:=vr.ta za;refine⟨⟨ts',t,sv,g1⟩,λx H2 yy=>?_⟩;obtain⟨tt,x',rfl,hn,rfl,hall⟩:=yy;have z1:=hall ts' sv;rw[g1] at z1;cases z1;obtain⟨b2,sm,np⟩:=bl.new hn;rw[Uj];exact b2.push (.tup (.inl (.inl (by rw[bE np (bl.LU hn)];exact aI))) ((bN.cons (.int _) (.cons g2 .nil)).sm sm))
  | _=>cases em1⟩
end
end M
set_option maxHeartbeats 1000000
namespace M
open PySem L2
variable{i j:Nat}{cn f:Str}
section
variable{c:Cn}{Y:St}{H:Hp}{Z:List Sl}{B:St}{θ:List Sl}{L:List Addr}
theorem dZ.Nd{fs:List (Str×A)}{ls:List (Str×List A)}{xs:List A}(b:dZ c Y H Z B θ L)(Q:aE Z i=some (.nob cn fs ls))(e1:fs.lookup f=none)(e2:ls.lookup f=some xs):
  ∃p C dx ws a ys,Y[i]?=some (some (.ref p))/\H p=some (.ins C dx ws)/\c.mg cn=some (.ref C)/\ws.lookup f=some (.ref a)/\H a=some (.lst ys)/\bN c.toKx (c.g H L) ys xs /\
   ∀n x,bN c.toKx (c.g H L) n x->Bd c Y (upd H a (.lst n)) (setAt Z i (.nob cn fs (iJ f x ls))) B θ:=by
 obtain⟨p,q0,h1,h2,o⟩:=b.live Q (.nob cn fs ls) (.lst []);cases h2 with
 |nob e m r l=>
  rename_i C dx ws us;obtain⟨a,ys,P,k2,G,V⟩:=l.get e2;have j:ws.lookup f=none:=by
   rcases r.get f with ⟨_,_,_,y,_⟩|⟨y,_⟩
   .rw[e1] at y;cases y
   .exact y
  refine⟨p,C,dx,ws++us,a,ys,h1,e,m,kG j P,G,V,λn x I=>?_⟩;have fin:∀(s t:Sl),Z[i]?=some s->(s=.lv (.nob cn fs ls)/\t=.lv (.nob cn fs (iJ f x ls))\/s=.pv (.nob cn fs ls)/\t=.pv (.nob cn fs (iJ f x ls)))->Bd c Y (upd H a (.lst n)) (Z.set i t) B θ:=by
   intro s t es T;obtain⟨p',q',w,R,nd,J⟩:=b.Mt es T;rw[h1] at w;cases w;cases R with
   |nob k X r' u=>
    rename_i C' S E h;rw[e] at k;have N:E=ws/\h=us:=by
     have v:E.length=ws.length:=by rw[r'.len,r.len]
     injection k with k;injection k with _ _ k;exact⟨(Ww k.symm v).1,(Ww k.symm v).2⟩
    obtain⟨rfl,rfl⟩:=N;obtain⟨a',O,K,D,w3,w4⟩:=u.get e2;rw[P] at K;cases K;injection k with k;injection k with eC edx _;subst eC edx;refine J a (QM _ D) λH' q sm=>?_;refine .nob (dx:=dx) ?_ X r' (eO.put u (Rf.mp nd).2 e2 P q (λb d F=>sm b (QM _ d) F) I);rw[sm p QV λz=>(Rf.mp nd).1 (z▸D)];exact e
  unfold aE at Q;unfold setAt;cases es:Z[i]? with
  |none=>rw[es] at Q;cases Q
  |some s=>
   rw[es] at Q;cases s with
   |un=>cases Q
   |cf _=>cases Q
   |fr a=>cases Q
   |lv U=>cases Q;exact fin _ _ es (.inl ⟨rfl,rfl⟩)
   |pv U=>cases Q;exact fin _ _ es (.inr ⟨rfl,rfl⟩)
theorem dZ.EH{a:A}(b:dZ c Y H Z B θ L)(e:Z[j]?=some (.fr a)):∃v,Y[j]?=some (some v)/\RA c.toKx (c.g H L) v a:=by
 obtain⟨X,L2,N,n,k⟩:=ax.split b.lt b.rel;obtain⟨x,_,_,_,hx,hs,_⟩:=k.at e;cases hs with
 |fr h=>exact⟨_,hx,h⟩
end
variable{α:Type}
theorem HH{xs:List α}{a:α}(h:gz xs.length k=some j)(e:xs[j]?=some a):iy xs k=some a:=by
 delta L2.iy
 rw[h];exact e
variable{cs:List Str}{Z:List Sl}{px py p1 p2 pos:Pos}{e:Expr}
section
variable{X:Cx}{E:XK}
def ownAt(cs:List Str)(Z:List Sl)(i:Nat)(f:Str):Option (List A):=match aE Z i with
 |some (.nob c fs ls)=>if cs.contains c&&(fs.lookup f).isNone then ls.lookup f else none
 |_=>none
theorem mT{xs:List A}(h:ownAt cs Z i f=some xs):∃c fs ls,aE Z i=some (.nob c fs ls)/\cs.contains c=true/\fs.lookup f=none/\ls.lookup f=some xs:=by
 delta ownAt at h
 cases Q:aE Z i with
 |none=>rw[Q] at h;cases h
 |some lo=>
  rw[Q] at h;cases lo with
  |nob cn fs ls=>
   by_cases e:(cs.contains cn&&(fs.lookup f).isNone)=true
   .have h:(if (cs.contains cn&&(fs.lookup f).isNone)=true then ls.lookup f else none)=some xs:=h;rw[Zt e] at h;rw[QE,RE] at e;exact⟨cn,fs,ls,rfl,e.1,e.2,h⟩
   .have h:(if (cs.contains cn&&(fs.lookup f).isNone)=true then ls.lookup f else none)=some xs:=h;rw[Zu e] at h;cases h
  |_=>cases h
noncomputable def intAt(Z:List Sl)(j:Nat):Option Int:=match Z[j]? with
 |some (.fr (.int k))=>some k
 |_=>none
theorem jg(h:intAt Z j=some k):Z[j]?=some (.fr (.int k)):=by
 delta intAt at h
 cases e:Z[j]? with
 |none=>rw[e] at h;cases h
 |some s=>
  rw[e] at h;cases s with
  |fr a=>cases a with
   |int i=>cases h;rfl
   |_=>cases h
  |_=>cases h
def Qb(cs:List Str)(i:Nat)(f:Str)(j:Nat):Mi Rr:=λZ=>match ownAt cs Z i f,intAt Z j with
 |some xs,some k=>match iy xs k with
  |some a=>some (.ok (.fr a),Z)
  |none=>none
 |_,_=>none
def gi(Z:List Sl)(i:Nat)(f:Str)(xs:List A):List Sl:=match aE Z i with
 |some (.nob c fs ls)=>setAt Z i (.nob c fs (iJ f xs ls))
 |_=>Z
theorem kl{c:Str}{fs:List (Str×A)}{ls:List (Str×List A)}(xs:List A)(h:aE Z i=some (.nob c fs ls)):gi Z i f xs=setAt Z i (.nob c fs (iJ f xs ls)):=by delta gi;rw[h]
def fA(cs:List Str)(i:Nat)(f:Str)(j:Nat)(m:Mi Rr):Ms:=cZ m λr Z=>match bR r Z with
 |some (a,U)=>match ownAt cs U i f,intAt U j with
  |some xs,some k=>match gz xs.length k with
   |some n=>some (.nx,gi U i f (xs.set n a))
   |none=>none
  |_,_=>none
 |none=>none
theorem wo{x y:Str}{m:Mi Rr}(hN:X.N[i]?=some x)(A:kq X.env.scope x)(hd:fC x)(R:k9 x)
  (z:X.N[j]?=some y)(Q:kq X.env.scope y)(s:fC y)(o:k9 y)
  (hc:∀c C,cs.contains c=true->X.mg c=some (.ref C)->hJ X.K C/\bV X.K C f)
  (d:XM (.Name x px) f X.env (eval (.Name x px) X.env)=eval (.Name x px) X.env)(he:JE X E e m)
  (hp:∀{t F T:TE},PE X (.Attribute (.Name x px) f p2) t->PE X (.Name y py) F->PE X e T->PS X (.Assign [.Subscript (.Attribute (.Name x px) f p2) (.Name y py) p1] e pos) (qP T (ya t F qT))):
  JS X E (.Assign [.Subscript (.Attribute (.Name x px) f p2) (.Name y py) p1] e pos) (fA cs i f j m):=
 ⟨PS.weaken (hp (eV (bM hN A hd R) d) (bM z Q s o) he.p) λD Y H h=>by
  obtain⟨c,Z,B,θ,fl,O,l,b,em,q⟩:=h;refine d0 l b em q λr v U H1 A b1 P=>?_;cases I:bR r U with
  |none=>rw[I] at P;cases P
  |some pr=>
   obtain⟨a,Z0⟩:=pr;rw[I] at P;dsimp only at P;have b2:=Bd.bR (xs:=[]) (ss:=[]) rfl b1 A I;cases e1:ownAt cs Z0 i f with
   |none=>rw[e1] at P;cases P
   |some xs=>
    rw[e1] at P;cases e2:intAt Z0 j with
    |none=>rw[e2] at P;cases P
    |some k=>
     rw[e2] at P;dsimp only at P;cases G:gz xs.length k with
     |none=>rw[G] at P;cases P
     |some n=>
      rw[G] at P;cases P;obtain⟨cn,fs,ls,J,u,g,V⟩:=mT e1;obtain⟨L,bl,ra⟩:=Bd.ur b2;obtain⟨p,C,dx,ws,a',ys,h1,h2,h3,h4,h5,S,h7⟩:=bl.Nd J g V;obtain⟨w,k1,k2⟩:=bl.EH (jg e2);cases k2;have e4:X.mg cn=some (.ref C):=by have:=Zx (λk:Kx=>k.mg cn) l;simp only at this;rw[<-this];exact h3
      obtain⟨c1,c2⟩:=hc cn C u e4;rw[kl _ J] at q;exact⟨_,h1,p,C,dx,ws,_,rfl,h2,c1,c2,h4,_,k1,a',ys,k,n,rfl,rfl,h5,by rw[S.len];exact G,q Y _ (h7 _ _ (S.set ra n))⟩⟩
end
variable{K:Kx}
section
open PyProof.Rows
noncomputable def tG(ns:List Int):Int:=ns.getD (argBest (λi j=>decide (ns.getD i 0 > ns.getD j 0)) (ns.length-1)) 0
section
variable{X:Cx}{E:XK}
def Fp(K:QF):List V->Hp->VK->Prop:=λus H Q=>∃(a:Addr)(ns:List Int),us=[.ref a]/\dm K H a (ns.map V.int)/\ns≠[]/\Q (.int (sd ns)) H
theorem xk(hc:X.calm=true):dg X (.builtin "min") (Fp X.K):=by
 intro pins s Y H vs us Q I w h;obtain⟨a,ns,rfl,V,F,q⟩:=h;obtain⟨u,rfl,D⟩:=w.one;cases D;obtain⟨j,r,p,hz⟩:=I.list V;obtain⟨xs,e1,e2⟩:=iX r;rw[e1] at p;have G:=p.isList;have Z:=let ⟨_,e,_⟩:=G;QZ e
 have hsz:xs.length=ns.length:=by rw[<-e2,QK]
 have b:=VY.mpr F;refine call_min_walk (Ye G ?_);refine⟨_,[_,a],[_],_,_,_,_,rfl,U7 (A:=X.A.in1) (I.ok.hd hc) _ a (Rl Z) (Ys xs.toArray),
  ⟨⟨_,Q3 _ rfl,rfl,rfl⟩,G.push _⟩,λc hc=>?_,by simp[Ys,hsz,b],CmpOf.ints_lt (numAt xs.toArray) (λ_ _=>Y0),λv h' tk L hk=>?_⟩
 .show c<(s.heap.push _).objs.size;rw[RW];rcases QL.mp hc with rfl|hc
  .exact Sd _
  .rcases QL.mp hc with rfl|hc
   .exact TN Z
   .cases hc
 .have m:=λc o e=>by
   refine hk c o (λhm=>?_) (QR _ e);rcases QL.mp hm with e1|hm
   .have:=QZ e;rw[e1] at this;exact Q6 _ this
   .cases hm
  have en:numAt xs.toArray=λi=>ns.getD i 0:=funext λi=>by rw[<-e2];unfold numAt;rw[VG,Rg,Rc]
  have y:∃t,v=.int (sd ns) t:=by obtain⟨t,l⟩:=Y0 L;rw[l,en];unfold sd;simp[Ys,hsz]
  obtain⟨t,rfl⟩:=y;exact⟨.int (sd ns),H,I.kept m,⟨t,rfl⟩,q⟩
def rP:A->Option Rr
 | .lst as=>match eu as with
  |some ns=>if ns=[] then none else some (.fr (.int (sd ns)))
  |none=>none
 |_=>none
theorem Ea:sE K (λv=>Fp K.K [v]) rP:=.scalar λH v a q n h=>by
 cases a<;>first|(cases h;done)|skip
 rename_i as;cases n with
 |lst e r=>
  unfold rP at h;cases e1:eu as with
  |none=>simp only[e1] at h;cases h
  |some ns=>
   simp only[e1] at h;split at h
   .cases h
   .rename_i hn;cases h;have o:=jR r e1;subst o;exact⟨_,_,rfl,λ_=>.int _,λQ k=>⟨_,ns,rfl,e,hn,k⟩⟩
def Fy(K:QF):List V->Hp->VK->Prop:=λus H Q=>∃(a:Addr)(ns:List Int),us=[.ref a]/\dm K H a (ns.map V.int)/\ns≠[]/\Q (.int (tG ns)) H
theorem wJ(hc:X.calm=true):dg X (.builtin "max") (Fy X.K):=by
 intro pins s Y H vs us Q I w h;obtain⟨a,ns,rfl,V,F,q⟩:=h;obtain⟨u,rfl,D⟩:=w.one;cases D;obtain⟨j,r,p,hz⟩:=I.list V;obtain⟨xs,e1,e2⟩:=iX r;rw[e1] at p;have G:=p.isList;have Z:=let ⟨_,e,_⟩:=G;QZ e
 have hsz:xs.length=ns.length:=by rw[<-e2,QK]
 have b:=VY.mpr F;refine call_max_walk (Ye G ?_);refine⟨_,[_,a],[_],_,_,_,_,rfl,U7 (A:=X.A.in1) (I.ok.hd hc) _ a (Rl Z) (Ys xs.toArray),
  ⟨⟨_,Q3 _ rfl,rfl,rfl⟩,G.push _⟩,λc hc=>?_,by simp[Ys,hsz,b],CmpOf.ints_gt (numAt xs.toArray) (λ_ _=>Y0),λv h' tk L hk=>?_⟩
 .show c<(s.heap.push _).objs.size;rw[RW];rcases QL.mp hc with rfl|hc
  .exact Sd _
  .rcases QL.mp hc with rfl|hc
   .exact TN Z
   .cases hc
 .have m:=λc o e=>by
   refine hk c o (λhm=>?_) (QR _ e);rcases QL.mp hm with e1|hm
   .have:=QZ e;rw[e1] at this;exact Q6 _ this
   .cases hm
  have en:numAt xs.toArray=λi=>ns.getD i 0:=funext λi=>by rw[<-e2];unfold numAt;rw[VG,Rg,Rc]
  have y:∃t,v=.int (tG ns) t:=by obtain⟨t,l⟩:=Y0 L;rw[l,en];unfold tG;simp[Ys,hsz]
  obtain⟨t,rfl⟩:=y;exact⟨.int (tG ns),H,I.kept m,⟨t,rfl⟩,q⟩
def qJ:A->Option Rr
 | .lst as=>match eu as with
  |some ns=>if ns=[] then none else some (.fr (.int (tG ns)))
  |none=>none
 |_=>none
theorem DC:sE K (λv=>Fy K.K [v]) qJ:=.scalar λH v a q n h=>by
 cases a<;>first|(cases h;done)|skip
 rename_i as;cases n with
 |lst e r=>
  unfold qJ at h;cases e1:eu as with
  |none=>simp only[e1] at h;cases h
  |some ns=>
   simp only[e1] at h;split at h
   .cases h
   .rename_i hn;cases h;have o:=jR r e1;subst o;exact⟨_,_,rfl,λ_=>.int _,λQ k=>⟨_,ns,rfl,e,hn,k⟩⟩
end
end
section
open PyProof.Rows PySem.W
theorem vy:∀{ns:List Int}{us:List Value}{i:Int}{j:Nat},Vals (ns.map V.int) us->sN ns i=some j->kf_ints us=true/\kf_at i us=some j
 |[],_,_,_,.nil,h=>nomatch h
 |n::ns,_,i,j,.cons h r,e=>by
  obtain⟨t,rfl⟩:=h;have H:∀{ns:List Int}{us:List Value},Vals (ns.map V.int) us->kf_ints us=true:=λ{ns}=>by
   induction ns with
   |nil=>intro us r;cases r;rfl
   |cons n ns m=>intro us r;cases r with|cons h r=>obtain⟨t,rfl⟩:=h;have z:=m r;exact z
  refine⟨H (ns:=n::ns) (.cons ⟨t,rfl⟩ r),?_⟩;by_cases c:n=i
  .subst c;have e:(if n=n then some 0 else (sN ns n).map (·+1))=some j:=e;rw[Zt rfl] at e;cases e;show cond (n==n) _ _=_;rw[beq_self_eq_true];rfl
  .have e:(if n=i then some 0 else (sN ns i).map (·+1))=some j:=e;rw[Zu c] at e;cases e2:sN ns i with
   |none=>rw[e2] at e;cases e
   |some R=>rw[e2] at e;cases e;have:=(vy r e2).2;show cond (n==i) _ (match kf_at i _ with|some j=>some (j+1)|none=>none)=_;rw[this,beq_eq_false_iff_ne.mpr c];rfl
section
open PySem.Builtin PyProof.Rows PySem.W
noncomputable def Pc(b:Array Value)(n:Nat)(sl:Array (Option Value)):Obj:={ cls:=.type "list",dict:=none,data:=.seq b n,slots:=sl }
theorem rX{a:Addr}{b:Array Value}{n:Nat}{sl:Array (Option Value)}{v:Int}{t:Tok}(hi:kf_ints b.toList=true){j:Nat}(N:j<b.size)(b1:isInt v b[j]=true)(J:∀m (h:m<b.size),m<j->isInt v b[m]=false){up:Int}(G:(j:Int)<up):
  ∀d i,i+d=j->Meets (Builtin.«list.index.loop» ⟨[.ref a,.int v t,Ze ((i:Nat):Int),Ze up],[]⟩) λ_ R s=>s.heap.get? a=some (Pc b n sl)/\R (.ok (.ret (.int j s.toks))) { s with toks:=s.toks+1 }
 |0,i,e=>by
  obtain rfl:i=j:=e;rintro prog w A R ⟨hp,g,dp,tk,os⟩ ⟨hl,h⟩
  wp_walk using YX hl
  rw[show (if ((i:Nat):Int)<up then b[((i:Nat):Int).toNat]? else none)=some b[i] by rw[Zt G,S2];exact Va N];refine XH (kf_eq hi _ Z5 prog w _ _ _ _ ?_);rw[b1]
  wp_walk
  exact h
 |d+1,i,e=>by
  rintro prog w A R ⟨hp,g,dp,tk,os⟩ ⟨hl,h⟩;have O:=hl
  delta Pc at hl
  wp_walk using YX hl
  have lt:i<b.size:=by lia
  rw[show (if ((i:Nat):Int)<up then b[((i:Nat):Int).toNat]? else none)=some b[i] by rw[Zt Q1,S2];exact Va lt];refine XH (kf_eq hi _ Z5 prog w _ _ _ _ ?_);rw[J i lt Q1]
  wp_walk
  exact⟨plainId_quiet To _,codeAny_builtin U0 (by rw[XU.under_plainId To _];exact rX hi N b1 J G d (i+1) Q1 prog w A R _ ⟨O,h⟩)⟩
theorem wq{a:Addr}{b:Array Value}{n:Nat}{sl:Array (Option Value)}{v:Int}{t:Tok}(hi:kf_ints b.toList=true)(N:j<b.size)(b1:isInt v b[j]=true)(J:∀m (h:m<b.size),m<j->isInt v b[m]=false)(G:(j:Int)<2^63-1):
  Meets (Builtin.«list.index» ⟨[.ref a,.int v t],[]⟩) λ_ R s=>s.heap.get? a=some (Pc b n sl)/\R (.ok (.ret (.int j s.toks))) { s with toks:=s.toks+1 }:=by
 rintro prog w A R ⟨hp,g,dp,tk,os⟩ ⟨hl,h⟩;have O:=hl
 wp_walk using YX hl
 exact⟨plainId_quiet To _,codeAny_builtin U0 (by exact rX hi N b1 J G j 0 (Uj j) prog w A R _ ⟨O,h⟩)⟩
end
section
variable{X:Cx}{E:XK}
def Fz(K:QF):V->List V->Hp->VK->Prop:=λx us H Q=>∃(a:Addr)(ns:List Int)(i:Int)(j:Nat),x=.ref a/\us=[.int i]/\dm K H a (ns.map V.int)/\sN ns i=some j/\Q (.int j) H
theorem BS:Od X "list.index" (Fz X.K):=by
 intro pins s Y H x vs v us Q I w c h;obtain⟨a,ns,i,j,rfl,rfl,V,N,q⟩:=h;cases w;obtain⟨u,rfl,D⟩:=c.one;obtain⟨t,rfl⟩:=D;obtain⟨b,r,⟨⟨oc,od,B,osl⟩,n,p,g,l,z⟩,hz⟩:=I.list V;cases g;cases l;cases z;obtain⟨h1,h2⟩:=vy r N;obtain⟨a1,b1,J⟩:=kf_at_spec h2;have hl:b.length<=sizeLine:=by rw[<-r.length];exact hz
 rw[Yd] at hl;refine YU TH ⟨_,p,rfl⟩ PySem.F.entry_list_index (PySem.F.args_list_index_2 _ _) (wq (n:=n) (sl:=osl) (by simpa using h1) (j:=j) (by simpa using a1) (by simpa using b1) (λm hm Z=>by simpa using J m (by simpa using hm) Z) Q1) ⟨p,?_⟩;exact⟨.int j,H,I.tok _,⟨_,rfl⟩,q⟩
end
end
variable{Y B:St}{H:Hp}{c:Cn}{θ:List Sl}{L:List Addr}{apos cpos:Pos}
section
variable{X:Cx}{E:XK}
def pM(X:Cx)(e:Expr)(g:List Sl->Option A):Prop:=∃u,PE X e u/\∀{c:Cn}{Y:St}{H:Hp}{Z:List Sl}{B:St}{θ:List Sl}{L:List Addr}{a:A},dZ c Y H Z B θ L->g Z=some a->∃v,(∀Q:VK,Q v H->u Y H Q)/\RA c.toKx (c.g H L) v a
noncomputable def xR(j:Nat)(Z:List Sl):Option A:=match Z[j]? with
 |some (.fr a)=>some a
 |_=>none
theorem BR{a:A}(h:xR j Z=some a):Z[j]?=some (.fr a):=by
 delta xR at h
 cases e:Z[j]? with
 |none=>rw[e] at h;cases h
 |some s=>
  rw[e] at h;cases s with
  |fr a=>cases h;rfl
  |_=>cases h
theorem xu{y:Str}(hN:X.N[j]?=some y)(r:kq X.env.scope y)(hd:fC y)(R:k9 y):pM X (.Name y py) (xR j):=
 ⟨_,bM hN r hd R,λb h=>by obtain⟨v,h1,h2⟩:=b.EH (BR h);exact⟨v,λQ q=>⟨v,h1,q⟩,h2⟩⟩
noncomputable def B2(k:Int)(_:List Sl):Option A:=some (.int k)
theorem zx(h:PE X e (tC (.int k))):pM X e (B2 k):=
 ⟨_,h,λ_ e=>by cases e;exact⟨_,λQ q=>q,.int _⟩⟩
def B8(Y:St)(H:Hp)(i:Nat)(f:Str)(a:Addr):Prop:=∃p C dx ws,Y[i]?=some (some (.ref p))/\H p=some (.ins C dx ws)/\ws.lookup f=some (.ref a)
theorem B8.one{a b:Addr}(h:B8 Y H i f a)(h':B8 Y H i f b):a=b:=by obtain⟨p,C,dx,ws,h1,h2,h3⟩:=h;obtain⟨Z,T,S,E,g,n,d⟩:=h';rw[h1] at g;cases g;rw[h2] at n;cases n;rw[h3] at d;cases d;rfl
theorem gx{xs:List A}(e:c.toKx=kx X)(hc:∀c C,cs.contains c=true->X.mg c=some (.ref C)->hJ X.K C/\bV X.K C f)(bl:dZ c Y H Z B θ L)(e1:ownAt cs Z i f=some xs):
  ∃a ys,B8 Y H i f a/\(∀Q:VK,Q (.ref a) H->En X.K (mQ i) f Y H Q)/\H a=some (.lst ys)/\bN c.toKx (c.g H L) ys xs/\∀n x,bN c.toKx (c.g H L) n x->Bd c Y (upd H a (.lst n)) (gi Z i f x) B θ:=by
 obtain⟨cn,fs,ls,v,h,E,D⟩:=mT e1;obtain⟨p,C,dx,ws,a,ys,h1,h2,h3,h4,h5,S,m⟩:=bl.Nd v E D;have j:X.mg cn=some (.ref C):=by have:=Zx (λk:Kx=>k.mg cn) e;simp only at this;rw[<-this];exact h3
 obtain⟨J,G⟩:=hc cn C h j;exact⟨a,ys,⟨p,C,dx,ws,h1,h2,h4⟩,λQ q=>⟨_,h1,p,C,dx,ws,_,rfl,h2,J,G,h4,q⟩,h5,S,λn x r=>by rw[kl _ v];exact m _ _ r⟩
def gy(cs:List Str)(i:Nat)(f:Str)(g:List Sl->Option A):Mi Rr:=λZ=>match ownAt cs Z i f,g Z with
 |some xs,some (.int k)=>match eu xs with
  |some ns=>match sN ns k with
   |some j=>some (.ok (.fr (.int j)),Z)
   |none=>none
  |none=>none
 |_,_=>none
theorem wz{x:Str}{g:List Sl->Option A}(hN:X.N[i]?=some x)(r:kq X.env.scope x)(hd:fC x)(R:k9 x)
  (hc:∀c C,cs.contains c=true->X.mg c=some (.ref C)->hJ X.K C/\bV X.K C f)
  (d:XM (.Name x px) f X.env (eval (.Name x px) X.env)=eval (.Name x px) X.env)(he:pM X e g)
  (m:XM (.Attribute (.Name x px) f p1) "index" X.env (eval (.Attribute (.Name x px) f p1) X.env)=eval (.Attribute (.Name x px) f p1) X.env)
  (z:((XQ cpos (XG [e] X.env)).all (λx=>!x.1)&&(X6 cpos (XW [] X.env)).all (λx=>x.1.isSome)&&decide (([e]:List Expr).length+([]:List X1).length+(if ([]:List X1).isEmpty then 0 else 1)<30))=true)
  (D:(apos.endLine==cpos.line)=true)(hs:XG [e] X.env=(false,eval e X.env)::XG [] X.env)(p:(XQ cpos (XG [] X.env)).any (·.1)=false):
  JE X E (.Call (.Attribute (.Attribute (.Name x px) f p1) "index" apos) [e] [] cpos) (gy cs i f g):=by
 obtain⟨T,he,V⟩:=he;exact⟨PE.weaken (oj R6 TH Vb BS (eV (bM hN r hd R) d) (aX he cu hs) m z D hs p) λY H Q h=>by
  obtain⟨c,Z,B,θ,o,O,I,b,em,q⟩:=h
  delta gy at em
  cases e1:ownAt cs Z i f with
  |none=>rw[e1] at em;cases em
  |some xs=>
   cases e2:g Z with
   |none=>rw[e1,e2] at em;cases em
   |some a=>
    rw[e1,e2] at em;cases a with
    |int k=>
     dsimp only at em;cases G:eu xs with
     |none=>rw[G] at em;cases em
     |some ns=>
      rw[G] at em;dsimp only at em;cases s:sN ns k with
      |none=>rw[s] at em;cases em
      |some j=>rw[s] at em;cases em;obtain⟨L,bl⟩:=b;obtain⟨a,ys,_,h1,h5,S,_⟩:=gx I hc bl e1;obtain⟨v,P,u⟩:=V bl e2;cases u;have y:=jR S G;subst y;refine h1 _ ⟨.inl ⟨rfl,_,.inl (.inl h5)⟩,?_⟩;exact P _ ⟨a,ns,k,j,rfl,rfl,.of h5,s,q _ H trivial (bl.push (.int _))⟩
    | _=>cases em⟩
def rp(cs:List Str)(i:Nat)(f:Str)(g:List Sl->Option A):Mi Rr:=λZ=>match ownAt cs Z i f,g Z with
 |some xs,some a=>if xs.length<=100000 then some (.ok (.fr .non),gi Z i f (xs++[a])) else none
 |_,_=>none
theorem EG{x:Str}{g:List Sl->Option A}(hN:X.N[i]?=some x)(r:kq X.env.scope x)(hd:fC x)(R:k9 x)
  (hc:∀c C,cs.contains c=true->X.mg c=some (.ref C)->hJ X.K C/\bV X.K C f)
  (d:XM (.Name x px) f X.env (eval (.Name x px) X.env)=eval (.Name x px) X.env)(he:pM X e g)
  (z:XM (.Attribute (.Name x px) f p1) "append" X.env (eval (.Attribute (.Name x px) f p1) X.env)=eval (.Attribute (.Name x px) f p1) X.env)
  (s:((XQ cpos (XG [e] X.env)).all (λx=>!x.1)&&(X6 cpos (XW [] X.env)).all (λx=>x.1.isSome)&&decide (([e]:List Expr).length+([]:List X1).length+(if ([]:List X1).isEmpty then 0 else 1)<30))=true)
  (D:(apos.endLine==cpos.line)=true)(hs:XG [e] X.env=(false,eval e X.env)::XG [] X.env)(m:(XQ cpos (XG [] X.env)).any (·.1)=false):
  JE X E (.Call (.Attribute (.Attribute (.Name x px) f p1) "append" apos) [e] [] cpos) (rp cs i f g):=by
 obtain⟨T,he,V⟩:=he;exact⟨PE.weaken (oj R6 Tw Tx km (eV (bM hN r hd R) d) (aX he cu hs) z s D hs m) λY H Q h=>by
  obtain⟨c,Z,B,θ,o,O,I,b,em,q⟩:=h
  delta rp at em
  cases e1:ownAt cs Z i f with
  |none=>rw[e1] at em;cases em
  |some xs=>
   cases e2:g Z with
   |none=>rw[e1,e2] at em;cases em
   |some a=>
    rw[e1,e2] at em;dsimp only at em;by_cases hl:xs.length<=100000
    .rw[Zt hl] at em;cases em;obtain⟨L,bl⟩:=b;obtain⟨p,ys,_,h1,h5,S,w⟩:=gx I hc bl e1;obtain⟨v,P,u⟩:=V bl e2;refine h1 _ ⟨.inl ⟨rfl,_,.inl (.inl h5)⟩,?_⟩;exact P _ ⟨p,ys,v,rfl,rfl,h5,by have:=S.len;have:=Yd;lia,q _ _ trivial (Bd.push (w _ _ (S.snoc u)) λ_=>.non)⟩
    .rw[Zu hl] at em;cases em⟩
def qY(cs:List Str)(i:Nat)(f:Str)(g:List Sl->Option A):Mi Rr:=λZ=>match ownAt cs Z i f,g Z with
 | some xs,some (.int k)=>if k.natAbs<2^62 then (match YJ k xs.length with
  |some n=>match xs[n]? with
   |some a=>some (.ok (.fr a),gi Z i f (xs.eraseIdx n))
   |none=>none
  | none=>none) else none
 |_,_=>none
theorem bN.one{k:Kx}{G:Hp}{a:A}:∀{vs:List V}{as:List A}{n:Nat},bN k G vs as->as[n]?=some a->∃v,vs[n]?=some v/\RA k G v a
 |_,_,_,.nil,h=>nomatch h
 |_,_,0,.cons h r,e=>by cases e;exact⟨_,rfl,h⟩
 |_,_,n+1,.cons h r,e=>bN.one r (n:=n) e
theorem CW{x:Str}{g:List Sl->Option A}(hN:X.N[i]?=some x)(r:kq X.env.scope x)(hd:fC x)(R:k9 x)
  (hc:∀c C,cs.contains c=true->X.mg c=some (.ref C)->hJ X.K C/\bV X.K C f)
  (d:XM (.Name x px) f X.env (eval (.Name x px) X.env)=eval (.Name x px) X.env)(he:pM X e g)
  (z:XM (.Attribute (.Name x px) f p1) "pop" X.env (eval (.Attribute (.Name x px) f p1) X.env)=eval (.Attribute (.Name x px) f p1) X.env)
  (s:((XQ cpos (XG [e] X.env)).all (λx=>!x.1)&&(X6 cpos (XW [] X.env)).all (λx=>x.1.isSome)&&decide (([e]:List Expr).length+([]:List X1).length+(if ([]:List X1).isEmpty then 0 else 1)<30))=true)
  (D:(apos.endLine==cpos.line)=true)(hs:XG [e] X.env=(false,eval e X.env)::XG [] X.env)(m:(XQ cpos (XG [] X.env)).any (·.1)=false):
  JE X E (.Call (.Attribute (.Attribute (.Name x px) f p1) "pop" apos) [e] [] cpos) (qY cs i f g):=by
 obtain⟨te,he,V⟩:=he;exact⟨PE.weaken (oj R6 PySem.F.slot_list_pop PySem.F.type_list_pop AK (eV (bM hN r hd R) d) (aX he cu hs) z s D hs m) λY H Q h=>by
  obtain⟨c,Z,B,θ,o,O,I,b,em,q⟩:=h
  delta qY at em
  cases e1:ownAt cs Z i f with
  |none=>rw[e1] at em;cases em
  |some xs=>
   cases e2:g Z with
   |none=>rw[e1,e2] at em;cases em
   |some a=>
    rw[e1,e2] at em;cases a with
    |int k=>
     dsimp only at em;by_cases hl:k.natAbs<2^62
     .rw[Zt hl] at em;cases G:YJ k xs.length with
      |none=>rw[G] at em;cases em
      |some n=>
       rw[G] at em;dsimp only at em;cases j:xs[n]? with
       |none=>rw[j] at em;cases em
       |some a=>rw[j] at em;cases em;obtain⟨L,bl⟩:=b;obtain⟨p,ys,l1,h1,h5,S,_⟩:=gx I hc bl e1;obtain⟨v,P,w⟩:=V bl e2;cases w;obtain⟨u,y,T⟩:=bN.one S j;refine h1 _ ⟨.inl ⟨rfl,_,.inl (.inl h5)⟩,?_⟩;obtain⟨L2,b2⟩:=bl.push T;obtain⟨p2,l,l2,_,t,J,U⟩:=gx I hc b2 e1;obtain rfl:=l1.one l2;rw[h5] at t;cases t;exact P _ ⟨p,ys,k,n,u,rfl,rfl,h5,by lia,by lia,by rw[S.len];exact G,y,q _ _ trivial (U _ _ (bN.erase n J))⟩
     .rw[Zu hl] at em;cases em
    | _=>cases em⟩
end
variable{te:TE}{p:Pos}
section
variable{X:Cx}{E:XK}
def wb(neg:Bool)(cs:List Str)(i:Nat)(f:Str)(g:List Sl->Option A):Mi Rr:=λZ=>match ownAt cs Z i f,g Z with
 |some xs,some a=>if fv a&&xs.all fv then some (.ok (.fr (.bl (if neg then !F2 (kR a) (xs.map kR) else F2 (kR a) (xs.map kR)))),Z) else none
 |_,_=>none
theorem BG{neg:Bool}{g:List Sl->Option A}(hc:∀c C,cs.contains c=true->X.mg c=some (.ref C)->hJ X.K C/\bV X.K C f)
  (V:∀{c:Cn}{Y:St}{H:Hp}{Z:List Sl}{B:St}{θ:List Sl}{L:List Addr}{a:A},dZ c Y H Z B θ L->g Z=some a->∃v,(∀Q:VK,Q v H->te Y H Q)/\RA c.toKx (c.g H L) v a)
  (Y:St)(H:Hp)(Q:VK)(h:kN (kx X) E (wb neg cs i f g) Y H Q):Hn (Kv X.K neg) te (En X.K (mQ i) f) Y H Q:=by
 obtain⟨c,Z,B,θ,o,O,e,b,em,q⟩:=h
 delta wb at em
 cases e1:ownAt cs Z i f with
 |none=>rw[e1] at em;cases em
 |some xs=>
  cases e2:g Z with
  |none=>rw[e1,e2] at em;cases em
  |some a=>
   rw[e1,e2] at em;dsimp only at em;by_cases hl:(fv a&&xs.all fv)=true
   .rw[Zt hl] at em;rw[QE] at hl;cases em;obtain⟨L,bl⟩:=b;obtain⟨p,ys,_,h1,h5,S,_⟩:=gx e hc bl e1;obtain⟨v,P,u⟩:=V bl e2;obtain⟨rfl,h2⟩:=tf u hl.1;obtain⟨rfl,h4⟩:=pY S hl.2;exact P _ (h1 _ ⟨p,_,rfl,.inl (.of h5),h2,h4,q _ H trivial (bl.push (.bl _))⟩)
   .rw[Zu hl] at em;cases em
theorem GI{x:Str}{g:List Sl->Option A}(hN:X.N[i]?=some x)(r:kq X.env.scope x)(hd:fC x)(R:k9 x)
  (hc:∀c C,cs.contains c=true->X.mg c=some (.ref C)->hJ X.K C/\bV X.K C f)
  (d:XM (.Name x px) f X.env (eval (.Name x px) X.env)=eval (.Name x px) X.env)(he:pM X e g)(hm:XY .In (.Attribute (.Name x px) f p1)=false):
  JT X E (.Compare e [.In] [.Attribute (.Name x px) f p1] pos) (ag (wb false cs i f g)):=by
 obtain⟨te,he,V⟩:=he;exact⟨PT.weaken (uZ j5 he (eV (bM hN r hd R) d) hm) λY H Q h=>BG hc V Y H _ (ir Y H Q h)⟩
def jy(cs:List Str)(i:Nat)(f:Str):Mi Rr:=λZ=>match ownAt cs Z i f with
 |some xs=>some (.ok (.fr (.int xs.length)),Z)
 |none=>none
theorem C0{x y:Str}(hN:X.N[i]?=some x)(hv:kq X.env.scope x)(hd:fC x)(hcd:k9 x)
  (hc:∀c C,cs.contains c=true->X.mg c=some (.ref C)->hJ X.K C/\bV X.K C f)
  (hb:XM (.Name x px) f X.env (eval (.Name x px) X.env)=eval (.Name x px) X.env)
  (hg:Gl X y)(hm:X.mg y=none)(hv2:XI y=some (.builtin "len"))(hn:y ≠ "__name__")(hdb:fC y)(hs:XG [.Attribute (.Name x px) f p1] X.env=(false,eval (.Attribute (.Name x px) f p1) X.env)::XG [] X.env:=by rfl)(hp:(XQ pos (XG [] X.env)).any (·.1)=false:=by rfl):
  JE X E (.Call (.Name y p) [.Attribute (.Name x px) f p1] [] pos) (jy cs i f):=
 ⟨PE.weaken (jM pD hg hm hv2 (aX (eV (bM hN hv hd hcd) hb) cu hs) hn hdb hs hp) λY H Q h=>by
  obtain⟨c,Z,B,θ,o,O,ek,b,em,q⟩:=h
  delta jy at em
  cases e1:ownAt cs Z i f with
  |none=>rw[e1] at em;cases em
  | some xs=>rw[e1] at em;cases em;obtain⟨L,bl⟩:=b;obtain⟨p,ys,_,h1,h5,h6,_⟩:=gx ek hc bl e1;exact h1 _ ⟨p,ys,rfl,.inl (.of h5),by rw[h6.len];exact q _ H trivial (bl.push (.int _))⟩⟩
def qe(cs:List Str)(i:Nat)(f:Str)(g:List Sl->Option A):Mi Rr:=λZ=>match ownAt cs Z i f,g Z with
 |some xs,some (.int k)=>match iy xs k with
  |some a=>some (.ok (.fr a),Z)
  |none=>none
 |_,_=>none
theorem JJ{x:Str}{g:List Sl->Option A}(hN:X.N[i]?=some x)(r:kq X.env.scope x)(hd:fC x)(R:k9 x)
  (hc:∀c C,cs.contains c=true->X.mg c=some (.ref C)->hJ X.K C/\bV X.K C f)
  (d:XM (.Name x px) f X.env (eval (.Name x px) X.env)=eval (.Name x px) X.env)(he:pM X e g)(hs:jZ e):
  JE X E (.Subscript (.Attribute (.Name x px) f p1) e pos) (qe cs i f g):=by
 obtain⟨te,he,V⟩:=he;exact⟨PE.weaken (zt qh (eV (bM hN r hd R) d) he hs) λY H Q h=>by
  obtain⟨c,Z,B,θ,o,O,I,b,em,q⟩:=h
  delta qe at em
  cases e1:ownAt cs Z i f with
  |none=>rw[e1] at em;cases em
  |some xs=>
   cases e2:g Z with
   |none=>rw[e1,e2] at em;cases em
   |some a=>
    rw[e1,e2] at em;cases a with
    |int k=>
     dsimp only at em;cases G:iy xs k with
     |none=>rw[G] at em;cases em
     |some a=>rw[G] at em;cases em;obtain⟨L,bl⟩:=b;obtain⟨p,ys,_,h1,h5,S,_⟩:=gx I hc bl e1;obtain⟨v,P,w⟩:=V bl e2;cases w;obtain⟨u,y,T⟩:=S.iy G;exact h1 _ (P _ ⟨p,ys,k,u,rfl,rfl,.of h5,y,q u H trivial (bl.push T)⟩)
    | _=>cases em⟩
end
section
variable{k:Kx}{G G' H:Hp}
theorem ax.FP:∀{Y:St}{Z:List Sl}{L:List Addr},(∀{x:Option V}{t:Sl}{L:List Addr}(j:Nat),Y[j]?=some x->Z[j]?=some t->fD k G H x t L->fD k G' H x t L)->ax k G H Y Z L->ax k G' H Y Z L
 |_,_,_,_,.nil=>.nil
 |_,_,_,f,.cons h r=>.cons (f 0 rfl rfl h) (ax.FP (λj hs N=>f (j+1) (by simpa using hs) (by simpa using N)) r)
theorem ax.Fu:∀{Y:St}{Z:List Sl}{L:List Addr}{j:Nat}{t:Sl},ax k G H Y Z L->Z[j]?=some t->∃x X c L2,Y[j]?=some x/\fD k G H x t c/\L=X++(c++L2) /\
  ∀{G':Hp}{t':Sl}{L':List Addr},(∀{x:Option V}{t:Sl}{L:List Addr}(n:Nat),Y[n]?=some x->Z[n]?=some t->n≠j->fD k G H x t L->fD k G' H x t L)->fD k G' H x t' L'->ax k G' H Y (Z.set j t') (X++(L'++L2))
 |_,_,_,j,t,.nil,e=>by simp at e
 |x::Y,u::Z,_,0,t,.cons (L:=La) (L':=Lb) h r,e=>by cases e;refine⟨x,[],La,Lb,rfl,h,rfl,λ{G2 w B} f h'=>?_⟩;rw[Ui];exact .cons h' (ax.FP (λn hs hn=>f (n+1) (by simpa using hs) (by simpa using hn) (U1 n)) r)
 |x::Y,u::Z,_,j+1,t,.cons (L:=La) h r,e=>by obtain⟨y,X,c,L2,h1,h3,h2,h4⟩:=ax.Fu r (by simpa using e);refine⟨y,La++X,c,L2,by simpa using h1,h3,by rw[h2,QJ],λf h'=>?_⟩;have:=h4 (λn hs hn F=>f (n+1) (by simpa using hs) (by simpa using hn) (λz=>F (Wg z))) h';rw[QJ];exact .cons (f 0 rfl rfl (U1 j).symm h) this
end
section
variable{c:Cn}{Y:St}{H:Hp}{Z:List Sl}{B:St}{θ:List Sl}
theorem Bd.LW{s:Sl}{fs:List (Str×A)}{ls:List (Str×List A)}(b:Bd c Y H Z B θ)(es:Z[i]?=some s)(hs:s=.lv (.nob cn fs ls)\/s=.pv (.nob cn fs ls)):
  ∃F:Cn,F.toKx=c.toKx/\Bd F Y H (Z.set i (.fr (LO.nob cn fs ls).a)) [] []/\∀H' U m X,Bd F Y H' U m X->(∃a,U[i]?=some (.fr a))->(∀j t,j≠i->U[j]?=some t->xN t=true\/∃a,t=.fr a/\Z[j]?=some (.fr a))->X.all xN=true->(∀f a,B8 Y H i f a->B8 Y H' i f a)/\Bd c Y H' (U.set i s) (m++B) (X++θ):=by
 obtain⟨L,b⟩:=b;obtain⟨Q,L2,e1,r1,r2⟩:=ax.split b.lt b.rel;obtain⟨x,M1,M2,k,hx,d,e2,ins⟩:=r2.at es;have key:∀p q,x=some (.ref p)->M2=p::q->LR c.toKx (c.g H L) H p (.nob cn fs ls) q->(∀G H',LR c.toKx G H' p (.nob cn fs ls) q->fD c.toKx G H' (some (.ref p)) s (p::q))->
   ∃F:Cn,F.toKx=c.toKx/\Bd F Y H (Z.set i (.fr (LO.nob cn fs ls).a)) [] []/\∀H' U m X,Bd F Y H' U m X->(∃a,U[i]?=some (.fr a))->(∀j t,j≠i->U[j]?=some t->xN t=true\/∃a,t=.fr a/\Z[j]?=some (.fr a))->X.all xN=true->(∀f a,B8 Y H i f a->B8 Y H' i f a)/\Bd c Y H' (U.set i s) (m++B) (X++θ):=by
  intro p q ex em lr mk;subst ex em;have nd:=b.nd;rw[e1,e2] at nd;obtain⟨n1,n2,n3⟩:=QQ.mp nd;obtain⟨m1,m2⟩:=i9 n2;have ndq:(p::q).Nodup:=(QQ.mp (QQ.mp n2).1).2.1;have E:∀a,a∈L↔a∈Q\/a∈p::q\/a∈M1++k:=λa=>by
   rw[e1,e2];simp only[QP];constructor
   .rintro(h|(h|h)|h)
    .exact .inl h
    .exact .inr (.inr (.inl h))
    .exact .inr (.inl h)
    .exact .inr (.inr (.inr h))
   .rintro(h|h|h|h)
    .exact .inl h
    .exact .inr (.inl (.inr h))
    .exact .inr (.inl (.inl h))
    .exact .inr (.inr h)
  have S:∀a∈L,∃u,H a=some u:=b.rel.is;have r:∀a∈L,a∉c.Hd:=λa V=>b.xV V;have nq:∀a∈p::q,a∉M1++k:=m2;have n1q:∀a∈Q,a∉p::q:=λa V hq=>n3 a V a (QI _ (QG _ hq)) rfl;have n1m:∀a∈Q,a∉M1++k:=λa V hq=>by
   rcases QP.mp hq with z|z
   .exact n3 a V a (QI _ (QI _ z)) rfl
   .exact n3 a V a (QG _ z) rfl
  let F:Cn:={ c with H0:=H,Lp:=M1++k,Hd:=Q++c.Hd,Wk:=[] }
  have g2in:∀{H':Hp}{K:List Addr}{a:Addr},a∈K\/a∈Q\/a∈c.Hd->F.g H' K a=none:=λ{H' K a} h=>gJ (c:=F) (by rcases h with h|h|h;exact .inl h;exact .inr (QI _ h);exact .inr (QG _ h));have D:∀{H':Hp}{K:List Addr}{a:Addr},a∉K->a∉Q->a∉c.Hd->F.g H' K a=H' a:=λ{H' K a} h1 h2 h3=>bE (c:=F) h1 (λy=>by rcases QP.mp y with z|z;exact h2 z;exact h3 z);have sm0:Sq (c.g H L) (F.g H (M1++k)):=λa u e=>by
   by_cases z:a∈L\/a∈c.Hd
   .rw[gJ z] at e;cases e
   .have T:a∉L:=λy=>z (.inl y);rw[bE T (λy=>z (.inr y))] at e;refine⟨u,?_,.inl rfl⟩;rw[D (λy=>T ((E a).mpr (.inr (.inr y)))) (λy=>T ((E a).mpr (.inl y))) (λy=>z (.inr y))];exact e
  have es2:Y.set i (some (.ref p))=Y:=by
   apply Sk;intro j;by_cases N:i=j
   .subst N;rw[Q0 (QH.mp hx).1,hx]
   .rw[Rb N]
  refine⟨F,rfl,⟨M1++k,m1,?_,λa V=>.inl V,⟨λa o e=>⟨o,e,λ_ _=>rfl⟩,λw P=>nomatch P⟩,λj o N w0=>?_,rfl,λa V=>?_⟩,?_⟩
  .have i1:=ins (G':=F.g H (M1++k)) (H':=H) (y:=some (.ref p)) (t:=.fr (LO.nob cn fs ls).a) (L':=[]) sm0 (λ_ _ _ e=>e) (.fr (lr.a' sm0 λa V u e=>by rw[D (nq a V) (λy=>n1q a y V) (r a ((E a).mpr (.inr (.inl V))))];exact e))
   rw[es2,RK] at i1;exact i1
  .by_cases J:i=j
   .subst J;rw[Q0 (QH.mp es).1] at N;cases N;cases w0
   .rw[Rb J] at N;exact b.kp j o N w0
  .rcases QP.mp V with z|z
   .exact⟨S a ((E a).mpr (.inl z)),n1m a z⟩
   .obtain⟨⟨u,O⟩,_⟩:=b.hd a z;obtain⟨u',h1,_⟩:=b.fr.st a u O;exact⟨⟨u',h1⟩,λy=>r a ((E a).mpr (.inr (.inr y))) z⟩
  .rintro H' U m X ⟨L',I⟩ ⟨a0,ea0⟩ hpl hp1;have iE:∀a u,H a=some u->a∉M1++k->H' a=some u:=λa u e na=>by obtain⟨u',h1,h2⟩:=I.fr.st a u e;rw[h1,h2 na λw P=>nomatch P]
   have l:∀a∈p::q,∀u,H a=some u->H' a=some u:=λa V u e=>iE a u e (nq a V);have h1':∀a∈Q,∀u,H a=some u->H' a=some u:=λa V u e=>iE a u e (n1m a V);have npL:∀a∈p::q,a∉L':=λa V y=>by
    rcases I.own a y with z|z
    .exact nq a V z
    .obtain⟨u,O⟩:=S a ((E a).mpr (.inr (.inl V)));have z:H a=none:=z;rw[O] at z;cases z
   have n1L:∀a∈Q,a∉L':=λa V y=>I.xV y (QI _ V);obtain⟨K1,K2,e5,t1,t2⟩:=ax.split I.lt I.rel;obtain⟨y,R,N2,N3,hy,hys,e4,ins2⟩:=t2.Fu ea0;have yp:y=some (.ref p):=by rw[hx] at hy;exact(Q9 hy).symm
   subst yp;cases hys with
   |fr hra=>
    have eL:L'=K1++(R++N3):=by rw[e5,e4];simp
    have pm:(K1++(Q++(R++((p::q)++N3)))).Perm (Q++((p::q)++L')):=by rw[eL,SO];intro a;simp only[SY];lia
    have hN:∀a,a∈K1++(Q++(R++((p::q)++N3)))↔a∈Q\/a∈p::q\/a∈L':=λa=>by rw[pm.mem_iff,QP,QP]
    have lq:Tq (F.g H' L') (c.g H' (K1++(Q++(R++((p::q)++N3))))):=λa u e nl ni=>by
     by_cases z:a∈L'\/a∈Q\/a∈c.Hd
     .rw[g2in z] at e;cases e
     .rw[D (λy=>z (.inl y)) (λy=>z (.inr (.inl y))) (λy=>z (.inr (.inr y)))] at e;rw[bE (λy=>?_) (λy=>z (.inr (.inr y)))]
      .exact e
      .rcases(hN a).mp y with w|w|w
       .exact z (.inr (.inl w))
       .rcases lr.kind a w with ⟨us,O⟩|⟨C,dx,fs,O⟩
        .rw[l a w _ O] at e;exact nl us (Q9 e).symm
        .rw[l a w _ O] at e;exact ni C dx fs (Q9 e).symm
       .exact z (.inl w)
    have sq:Sq (c.g H L) (c.g H' (K1++(Q++(R++((p::q)++N3))))):=λa u e=>by
     by_cases z:a∈L\/a∈c.Hd
     .rw[gJ z] at e;cases e
     .have T:a∉L:=λy=>z (.inl y);rw[bE T (λy=>z (.inr y))] at e;refine⟨u,?_,.inl rfl⟩;rw[bE (λy=>?_) (λy=>z (.inr y))]
      .exact iE a u e λy=>T ((E a).mpr (.inr (.inr y)))
      .rcases(hN a).mp y with w|w|w
       .exact T ((E a).mpr (.inl w))
       .exact T ((E a).mpr (.inr (.inl w)))
       .rcases I.own a w with v|v
        .exact T ((E a).mpr (.inr (.inr v)))
        .have v:H a=none:=v;rw[e] at v;cases v
    have Gr:ax c.toKx (c.g H' (K1++(Q++(R++((p::q)++N3))))) H' Y (U.set i s) (R++((p::q)++N3)):=by
     refine ins2 (λ{x t L} j hx N hne h=>?_) (mk _ _ (lr.sm sq l));rcases hpl j t hne N with z|⟨a1,rfl,ej⟩
     .exact h.pl lq z
     .obtain⟨x',_,_,_,hx',hs',_⟩:=r2.at ej;rw[hx] at hx';cases hx';cases hs' with
      |fr ra=>
       cases h with
       |fr _=>exact .fr (ra.sm sq)
    have tem:ax c.toKx (c.g H' (K1++(Q++(R++((p::q)++N3))))) H' m X K1:=t1.FR λj N h=>h.pl lq (R3.mp hp1 _ (Rw N));refine⟨λf a ⟨p',C,dx,ws,g1,g2,g3⟩=>?_,?_⟩
    .rw[hx] at g1;cases g1;exact⟨p,C,dx,ws,hx,l p QV _ g2,g3⟩
    refine⟨K1++(Q++(R++((p::q)++N3))),?_,(by rw[QJ,QJ];exact tem.app ((r1.sm sq h1').app Gr)),λa V=>?_,⟨λa o e=>?_,λw P=>?_⟩,λj o N w0=>?_,(by rw[Q2,Q2,I.lt,b.lt]),b.hd⟩
    .refine(pm.nodup_iff).mpr (QQ.mpr ⟨n1,QQ.mpr ⟨ndq,I.nd,λa V b hb z=>npL a V (by rw[z];exact hb)⟩,λa V b hb z=>?_⟩);subst z;rcases QP.mp hb with w|w
     .exact n1q a V w
     .exact n1L a V w
    .rcases(hN a).mp V with w|w|w
     .exact b.own a ((E a).mpr (.inl w))
     .exact b.own a ((E a).mpr (.inr (.inl w)))
     .rcases I.own a w with v|v
      .exact b.own a ((E a).mpr (.inr (.inr v)))
      .exact .inr (b.fr.fresh v)
    .obtain⟨u,f1,f2⟩:=b.fr.st a o e;obtain⟨u',g1,g2⟩:=I.fr.st a u f1;refine⟨u',g1,λk1 n=>?_⟩;rw[g2 (λy=>?_) λw P=>nomatch P]
     .exact f2 k1 n
     .rcases b.own a ((E a).mpr (.inr (.inr y))) with v|v
      .exact k1 v
      .rw[e] at v;cases v
    .obtain⟨k1,n,k3⟩:=b.fr.pk w P;refine⟨iE _ _ k1 λy=>?_,n,k3⟩;have hw2:=(E w.1).mpr (.inr (.inr y));obtain⟨ob,vs,n⟩:=n;exact b.rel.zm _ hw2 ob vs (by rw[k1,n])
    .by_cases J:i=j
     .subst J;have hlt:i<U.length:=(QH.mp ea0).1;rw[Q0 hlt] at N;cases N;exact b.kp i _ es w0
     .rw[Rb J] at N;exact I.kp j o N w0
 rcases hs with rfl|rfl
 .cases d with
  |lv h=>exact key _ _ rfl rfl h λG H' h=>.lv h
 .cases d with
  |pv h=>exact key _ _ rfl rfl h λG H' h=>.pv h
end
noncomputable def OL:Sl->Bool
 | .fr _=>true
 | .un=>true
 |_=>false
def GQ(i:Nat)(Z:List Sl):Bool:=(Z.set i .un).all OL
def oR(i:Nat)(Z:List Sl):Option LO:=match Z[i]? with
 |some (.lv (.nob c fs ls))=>some (.nob c fs ls)
 |some (.pv (.nob c fs ls))=>some (.nob c fs ls)
 |_=>none
variable{o:LO}
theorem tP(h:oR i Z=some o):∃s cn fs ls,o=.nob cn fs ls/\Z[i]?=some s/\(s=.lv (.nob cn fs ls)\/s=.pv (.nob cn fs ls)):=by
 delta oR at h
 cases e:Z[i]? with
 |none=>rw[e] at h;cases h
 |some s=>
  rw[e] at h;cases s with
  |lv o=>cases o with
   |nob cn fs ls=>cases h;exact⟨_,cn,fs,ls,rfl,rfl,.inl rfl⟩
   |_=>cases h
  |pv o=>cases o with
   |nob cn fs ls=>cases h;exact⟨_,cn,fs,ls,rfl,rfl,.inr rfl⟩
   |_=>cases h
  |_=>cases h
open Classical in
def iP(i:Nat)(m:Mi Rr)(Z:List Sl):Option Rr:=match oR i Z with
 |some o=>match m (Z.set i (.fr o.a)) with
  |some (.ok r,U)=>if U=Z.set i (.fr o.a)/\GQ i Z=true/\Om r=true then some r else none
  |_=>none
 |none=>none
variable{r:Rr}
theorem tN{m:Mi Rr}(h:iP i m Z=some r):∃o,oR i Z=some o/\m (Z.set i (.fr o.a))=some (.ok r,Z.set i (.fr o.a))/\GQ i Z=true/\Om r=true:=by
 delta iP at h
 cases e:oR i Z with
 |none=>rw[e] at h;cases h
 |some o=>
  rw[e] at h;dsimp only at h;cases e1:m (Z.set i (.fr o.a)) with
  |none=>rw[e1] at h;cases h
  |some p=>
   obtain⟨x,U⟩:=p;rw[e1] at h;cases x with
   |error _=>cases h
   |ok r'=>
    dsimp only at h;split at h
    .rename_i z;cases h;exact⟨o,rfl,by rw[z.1] at e1;exact e1,z.2.1,z.2.2⟩
    .cases h
variable{Q:VK}
section
variable{X:Cx}{E:XK}
theorem wy{E:XK}{m:Mi Rr}(I:c.toKx=K)(b:Bd c Y H Z B θ)(h:iP i m Z=some r)
  (q:∀v U,VR Y r v->(∀f a,B8 Y H i f a->B8 Y U i f a)->Bd c Y U Z (cO r v B) (cM r θ)->Q v U):kN K E m Y H Q:=by
 obtain⟨o,h1,h2,h3,h4⟩:=tN h;obtain⟨s,cn,fs,ls,rfl,es,hs⟩:=tP h1;obtain⟨F,P,S,G⟩:=Bd.LW b es hs;have hi:i<Z.length:=(QH.mp es).1;have back:(Z.set i (.fr (LO.nob cn fs ls).a)).set i s=Z:=by
  apply Sk;intro j;by_cases N:i=j
  .subst N;rw[Q0 (by simpa using hi),es]
  .rw[Rb N,Rb N]
 have cond:∀j t,j≠i->(Z.set i (.fr (LO.nob cn fs ls).a))[j]?=some t->xN t=true\/∃a,t=.fr a/\Z[j]?=some (.fr a):=λj t N e=>by
  rw[Rb (RH N)] at e;have z:=R3.mp h3 t (Rw (i:=j) (by rw[Rb (RH N)];exact e));cases t with
  |fr a=>exact .inr ⟨a,rfl,e⟩
  |un=>exact .inl rfl
  |_=>cases z
 refine⟨F,_,[],[],.ok r,_,P.trans I,S,h2,λv U A b1=>?_⟩;cases r with
 |rf j=>cases h4
 |fr a=>obtain⟨g,n⟩:=G U _ [some v] [.fr a] b1 ⟨_,Q0 hi⟩ cond (by simp only[Q7,Tp,SQ];exact h4);rw[back] at n;exact q v U A g n
 |nw o=>obtain⟨g,n⟩:=G U _ [some v] [.lv o] b1 ⟨_,Q0 hi⟩ cond (by simp only[Q7,Tp,SQ];exact h4);rw[back] at n;exact q v U A g n
end
section
variable{X:Cx}{pins:List (Addr×Obj)}{Y:St}{H:Hp}{s:Shared}{a C dx:Addr}{fs Z2:List (Str×V)}{f:Str}{o value:Expr}{ta tv:TE}{pos pos':Pos}
theorem nO(I:Inv X pins Y H s)(e:H a=some (.ins C dx fs))(hl:∀g,Z2.lookup g=fs.lookup g)(Z:∀g,g∈fs.map (·.1)->g∈Z2.map (·.1))(hz:Z2.length<=1000):Inv X pins Y (upd H a (.ins C dx Z2)) s:=by
 obtain⟨d,z,ne,ob,mA,n,r,q⟩:=(I.hok a _ e)
 exact I.write (by rw[e];exact V1) (.inr d) (λb u _ e=>e) (I.hok dx _ d) ⟨by rw[ao ne];exact d,hz,ne,ob,mA,n,λf=>by rw[hl];exact r f,λy hy=>Z y (q y hy)⟩
def Mf(K:QF)(ta tv:TE)(f:Str):TS:=λD Y H=>tv Y H λy U=>ta Y U λx S=>∃a C dx fs Z2,x=.ref a/\S a=some (.ins C dx fs)/\hJ K C/\bV K C f/\fs.length<1000 /\
 (∀g,Z2.lookup g=(dU f y fs).lookup g)/\(∀g,g∈(dU f y fs).map (·.1)->g∈Z2.map (·.1))/\Z2.length<=1000/\D.nx Y (upd S a (.ins C dx Z2))
theorem uO(H:Hp)(a:Addr)(x y:HO):upd (upd H a x) a y=upd H a y:=by
 funext b
 by_cases e:b=a
 .rw[e,aI,aI]
 .rw[ao e,ao e,ao e]
theorem vC(V:PE X o ta)(r:PE X value tv)(hs:X4 value (some (.Attribute o f pos')) pos.line X.env=pure false):PS X (.Assign [.Attribute o f pos'] value pos) (Mf X.K ta tv f):=by intro pins s Y H D I h;refine plainObj_wpAny_Assign_Attribute (cC (r pins s Y H _ I h) λu s1 ⟨y,U,T,P,q⟩=>cC (V pins s1 Y U _ T q) λZ s2 ⟨x,g,j,w,a,C,dx,fs,Z2,ex,O,c,n,l,t,S,G,p⟩=>?_) hs;subst ex;obtain rfl:Z=R0 a:=w;exact tX j O c n l P λE B=>⟨Y,_,by have z:=nO B aI t S G;rw[uO] at z;exact z,p⟩
end
section
variable{c:Cn}{Y:St}{H:Hp}{Z:List Sl}{B:St}{θ:List Sl}{L K:List Addr}
noncomputable def Pp(s:Sl)(o:LO):Sl:=match s with
 | .lv _=>.lv o
 |_=>.pv o
def qC(c:Cn)(Y:St)(H:Hp)(Z:List Sl)(B:St)(θ:List Sl)(i:Nat)(cn:Str)(fs:List (Str×A))(ls:List (Str×List A))(G:Hp)(K:List Addr):Prop:=
 ∃p C dx vs ws q,Y[i]?=some (some (.ref p))/\H p=some (.ins C dx (vs++ws))/\c.mg cn=some (.ref C)/\gZ c.toKx G vs fs/\eO c.toKx G H ws ls q/\q.Nodup/\p∉q/\p∉K/\(∀a∈K,a∉q) /\
  ∀b h x E t,(∀G',Sq G G'->(∀z∈q,z∉t->∀u,H z=some u->G' z=some u)->gZ c.toKx G' x b)->eO c.toKx G (upd H p (.ins C dx (x++E))) E h t->t.Nodup->(∀z∈t,z∈q\/z∈K)->Bd c Y (upd H p (.ins C dx (x++E))) (setAt Z i (.nob cn b h)) B θ
theorem mj{fs:List (Str×A)}{ls:List (Str×List A)}(xV:∀z∈K++L,z∉c.Hd)(nd:(K++L).Nodup)(lt:B.length=θ.length)(rel:ax c.toKx (c.g H (K++L)) H (B++Y) (θ++Z) L)(own:∀z∈K++L,z∈c.Lp\/c.H0 z=none)(fr:Fr c H)(kp:fq c.σ0 Y Z)
  (mkB:∀H' O L',L'.Nodup->ax c.toKx (c.g H' L') H' (B++Y) (θ++O) L'->(∀z∈L',z∈c.Lp\/c.H0 z=none)->Fr c H'->fq c.σ0 Y O->Bd c Y H' O B θ)
  (Q:aE Z i=some (.nob cn fs ls)):qC c Y H Z B θ i cn fs ls (c.g H (K++L)) K:=by
 have ndL:L.Nodup:=(QQ.mp nd).2.1;obtain⟨X,L2,e1,r1,r2⟩:=ax.split lt rel;have key:∀(s:Sl),Z[i]?=some s->(s=.lv (.nob cn fs ls)\/s=.pv (.nob cn fs ls))->(∀o',setAt Z i o'=Z.set i (Pp s o'))->qC c Y H Z B θ i cn fs ls (c.g H (K++L)) K:=by
  intro s es T F;obtain⟨x,M1,M2,k,hx,hs,e2,ins⟩:=r2.at es;have D:∀p q,x=some (.ref p)->M2=p::q->LR c.toKx (c.g H (K++L)) H p (.nob cn fs ls) q->(∀G H' o' t,LR c.toKx G H' p o' t->fD c.toKx G H' (some (.ref p)) (Pp s o') (p::t))->qC c Y H Z B θ i cn fs ls (c.g H (K++L)) K:=by
   intro p q ex em2 lr mk;subst ex em2;cases lr with
   |nob e m r l=>
    rename_i C dx vs ws;have I:=ndL;rw[e1,e2] at I;obtain⟨n1,n2,n⟩:=QQ.mp I;obtain⟨m1,d⟩:=i9 n2;have b:(p::q).Nodup:=(QQ.mp (QQ.mp n2).1).2.1;have pL:p∈L:=by rw[e1,e2];simp
    have qL:∀z∈q,z∈L:=λz hz=>by rw[e1,e2];simp[hz]
    have J:∀z∈K,z∉L:=λz hz hy=>(QQ.mp nd).2.2 z hz z hy rfl;refine⟨p,C,dx,vs,ws,q,hx,e,m,r,l,(Rf.mp b).2,(Rf.mp b).1,λhp=>J p hp pL,λa ha hq=>J a ha (qL a hq),λZ2 ls' v E t rf ol R sub=>?_⟩;have P:p∉t:=λhp=>by
     rcases sub p hp with z|z
     .exact(Rf.mp b).1 z
     .exact J p z pL
    have S:∀z∈X++(M1++(p::t)++k),z∈K++L:=λz hz=>by
     have:z∈L\/z∈t:=by
      rw[e1,e2];simp only[QP,QL] at hz ⊢;rcases hz with h|(h|h|h)|h
      .exact .inl (.inl h)
      .exact .inl (.inr (.inl (.inl h)))
      .exact .inl (.inr (.inl (.inr (.inl h))))
      .exact .inr h
      .exact .inl (.inr (.inr h))
     rcases this with h|h
     .exact QG _ h
     .rcases sub z h with h|h
      .exact QG _ (qL z h)
      .exact QI _ h
    have sq:Sq (c.g H (K++L)) (c.g (upd H p (.ins C dx (v++E))) (X++(M1++(p::t)++k))):=λz u ez=>by
     by_cases hz:z∈K++L\/z∈c.Hd
     .rw[gJ hz] at ez;cases ez
     .rw[bE (λy=>hz (.inl y)) (λy=>hz (.inr y))] at ez;refine⟨u,?_,.inl rfl⟩;rw[bE (λy=>hz (.inl (S z y))) (λy=>hz (.inr y)),ao λ(y:z=p)=>hz (.inl (by rw[y];exact QG _ pL))];exact ez
    have V:∀z∈t,z∉X/\z∉M1++k:=λz hz=>by
     rcases sub z hz with h|h
     .exact⟨λy=>n z y z (by simp[h]) rfl,d z (QM _ h)⟩
     .refine⟨λy=>J z h (by rw[e1];simp[y]),λy=>J z h ?_⟩;rw[e1,e2];rcases QP.mp y with w|w<;>simp[w]
    have U:∀z∈X++(M1++k),z≠p:=λz hz y=>by
     subst y;rcases QP.mp hz with w|w
     .exact n _ w _ Z5 rfl
     .exact d z Z5 w
    have keep:∀z∈X++(M1++k),∀u,H z=some u->upd H p (.ins C dx (v++E)) z=some u:=λz hz u e=>by rw[ao (U z hz)];exact e
    refine mkB _ _ (X++(M1++(p::t)++k)) ?_ ?_ (λz hz=>own z (S z hz)) ?_ ?_
    .have pm:(X++(M1++(p::t)++k)).Perm ((p::t)++(X++(M1++k))):=by rw[SO];intro z;simp only[SY];lia
     refine pm.nodup_iff.mpr (QQ.mpr ⟨Rf.mpr ⟨P,R⟩,?_,λz hz y hy e=>?_⟩)
     .refine QQ.mpr ⟨n1,m1,λz hz y hy e=>?_⟩;subst e;exact n z hz z (by rcases QP.mp hy with w|w<;>simp[w]) rfl
     .subst e;rcases QL.mp hz with rfl|hz
      .exact U z hy rfl
      .rcases QP.mp hy with w|w
       .exact(V z hz).1 w
       .exact(V z hz).2 w
    .rw[F];have rf':=rf (c.g (upd H p (.ins C dx (v++E))) (X++(M1++(p::t)++k))) sq λz hz nz u e=>by
      have zp:z≠p:=λy=>(Rf.mp b).1 (y▸hz);rw[bE (λy=>?_) (xV z (QG _ (qL z hz))),ao zp]
      .exact e
      .simp only[QP,QL] at y;rcases y with y|(y|y|y)|y
       .exact n z y z (by simp[hz]) rfl
       .exact d z (QM _ hz) (by simp[y])
       .exact zp y
       .exact nz y
       .exact d z (QM _ hz) (by simp[y])
     have i1:=ins (G':=c.g (upd H p (.ins C dx (v++E))) (X++(M1++(p::t)++k))) (H':=upd H p (.ins C dx (v++E))) (y:=some (.ref p)) (L':=p::t) sq (λz hz=>keep z (QG _ hz)) (mk _ _ (.nob cn Z2 ls') t (.nob (by rw[aI]) m rf' (ol.sm sq λz _ u e=>e)));have es2:Y.set i (some (.ref p))=Y:=by
      apply Sk;intro j;by_cases N:i=j
      .subst N;rw[Q0 (QH.mp hx).1,hx]
      .rw[Rb N]
     rw[es2] at i1;exact(r1.sm sq λz hz=>keep z (QI _ hz)).app i1
    .refine⟨λz o e'=>?_,λw hw=>?_⟩
     .obtain⟨u,u1,u2⟩:=fr.st z o e';by_cases hz:z=p
      .subst hz;refine⟨_,aI,λna _=>?_⟩;rcases own z (QG _ pL) with y|y
       .exact absurd y na
       .rw[y] at e';cases e'
      .exact⟨u,by rw[ao hz];exact u1,u2⟩
     .obtain⟨k1,k2,k3⟩:=fr.pk w hw;refine⟨?_,k2,k3⟩;rw[ao λz=>?_]
      .exact k1
      .obtain⟨ob,us',k2⟩:=k2;rw[z,e] at k1;rw[k2] at k1;cases k1
    .rw[F];intro j o N w;by_cases f:i=j
     .subst f;rw[Q0 (QH.mp es).1] at N;rcases T with rfl|rfl
      .cases N;cases w
      .exact kp i _ es rfl
     .rw[Rb f] at N;exact kp j o N w
  rcases T with rfl|rfl
  .cases hs with
   |lv h=>exact D _ _ rfl rfl h λG H' o' t h=>.lv h
  .cases hs with
   |pv h=>exact D _ _ rfl rfl h λG H' o' t h=>.pv h
 unfold aE at Q;cases es:Z[i]? with
 |none=>rw[es] at Q;cases Q
 |some s=>
  rw[es] at Q;cases s with
  |un=>cases Q
  |cf _=>cases Q
  |fr a=>cases Q
  |lv o1=>cases Q;exact key _ es (.inl rfl) λo'=>by unfold setAt;rw[es];rfl
  |pv o1=>cases Q;exact key _ es (.inr rfl) λo'=>by unfold setAt;rw[es];rfl
theorem Bd.Ha{fs:List (Str×A)}{ls:List (Str×List A)}{a:Addr}{xs:List A}(b:Bd c Y H Z (some (.ref a)::B) (.lv (.lst xs)::θ))(Q:aE Z i=some (.nob cn fs ls)):
  ∃G us,H a=some (.lst us)/\bN c.toKx G us xs/\qC c Y H Z B θ i cn fs ls G [a]:=by
 obtain⟨L,b⟩:=b;have rel:ax c.toKx (c.g H L) H (some (.ref a)::(B++Y)) (.lv (.lst xs)::(θ++Z)) L:=b.rel;have lt:B.length=θ.length:=by simpa using b.lt
 cases rel with
 |cons h r=>
  rename_i y L';cases h with
  |lv R=>
   cases R with
   |lst o x=>rename_i us;exact⟨_,us,o,x,mj (K:=[a]) (λz hz=>b.xV hz) b.nd lt r b.own b.fr b.kp (λH' O L2 e C n q p=>⟨L2,e,C,n,q,p,lt,b.hd⟩) Q⟩
theorem dZ.zE{fs:List (Str×A)}{ls:List (Str×List A)}(b:dZ c Y H Z B θ L)(Q:aE Z i=some (.nob cn fs ls)):qC c Y H Z B θ i cn fs ls (c.g H L) []:=
 mj (K:=[]) (λz hz=>b.xV hz) b.nd b.lt b.rel b.own b.fr b.kp (λH' O L2 e C n q p=>⟨L2,e,C,n,q,p,b.lt,b.hd⟩) Q
end
noncomputable def cH{α:Type}(f:Str):List (Str×α)->List (Str×α)
 |[]=>[]
 |(y,v)::r=>if f==y then cH f r else (y,v)::cH f r
section
variable{α:Type}{f g:Str}{k:Kx}{G H H':Hp}
theorem jY:∀{l:List (Str×α)},(cH f l).lookup g=if g=f then none else l.lookup g
 |[]=>by split<;>rfl
 |(y,v)::r=>by
  have m:=jY (l:=r);unfold cH;by_cases c:(f==y)=true
  .rw[Zt c,m,QY];have:=eq_of_beq c;subst this;by_cases e:g=f
   .rw[Zt e,Zt e]
   .rw[Zu e,Zu e,beq_eq_false_iff_ne.mpr e]
  .rw[Zu c,QY,QY,m];by_cases e:g=f
   .subst e;cases z:(g==y) with
    |true=>exact absurd z c
    |false=>rfl
   .rw[Zu e,Zu e]
theorem gK:∀{l:List (Str×α)},(cH f l).length<=l.length
 |[]=>QN _
 |(y,v)::r=>by
  have m:=gK (l:=r);unfold cH;split
  .exact We m
  .exact T6 m
theorem lG:∀{l:List (Str×α)},g∈l.map (·.1)↔l.lookup g≠none
 |[]=>by simp
 |(y,v)::r=>by
  have m:=lG (l:=r);rw[Rv,QL,QY];cases c:(g==y) with
  |true=>simp[eq_of_beq c]
  |false=>simp only[beq_eq_false_iff_ne.mp c,false_or];exact m
theorem mD{l u:List (Str×α)}(h:∀g,u.lookup g=l.lookup g)(g:Str):g∈l.map (·.1)->g∈u.map (·.1):=λz=>lG.mpr (by rw[h];exact lG.mp z)
theorem gZ.del:∀{vs:List (Str×V)}{fs:List (Str×A)},gZ k G vs fs->gZ k G (cH f vs) (cH f fs)
 |_,_,.nil=>.nil
 |(y,v)::vs,_,.cons h r=>by
  have m:=gZ.del r;unfold cH;split
  .exact m
  .exact .cons h m
theorem eO.del:∀{ws:List (Str×V)}{ls:List (Str×List A)}{q:List Addr},eO k G H ws ls q->q.Nodup->∃U,eO k G H (cH f ws) (cH f ls) U/\U.Nodup/\∀z∈U,z∈q
 |_,_,_,.nil,_=>⟨[],.nil,.nil,λ_ h=>h⟩
 |(y,_)::ws,_,_,.cons (a:=a) e r t,nd=>by
  obtain⟨U,h1,h2,h3⟩:=eO.del t (Rf.mp nd).2;unfold cH;split
  .exact⟨U,h1,h2,λz hz=>QM _ (h3 z hz)⟩
  .exact⟨a::U,.cons e r h1,Rf.mpr ⟨λz=>(Rf.mp nd).1 (h3 _ z),h2⟩,λz hz=>by
    rcases QL.mp hz with rfl|hz
    .exact QV
    .exact QM _ (h3 z hz)⟩
theorem eO.snoc{a:Addr}{us:List V}{xs:List A}(e:H a=some (.lst us))(r:bN k G us xs):∀{ws:List (Str×V)}{ls:List (Str×List A)}{q:List Addr},eO k G H ws ls q->eO k G H (ws++[(f,.ref a)]) (ls++[(f,xs)]) (q++[a])
 |_,_,_,.nil=>.cons e r .nil
 |_,_,_,.cons e' r' t=>.cons e' r' (eO.snoc e r t)
theorem eO.sC:∀{ws:List (Str×V)}{ls:List (Str×List A)}{q:List Addr},eO k G H ws ls q->ws.length=ls.length
 |_,_,_,.nil=>rfl
 |_,_,_,.cons _ _ t=>Zx (·+1) (eO.sC t)
end
section
variable{X:Cx}{E:XK}
def iQ(cs:List Str)(i:Nat)(f:Str)(m:Mi Rr):Ms:=cZ m λr Z=>match r,aE Z i with
 | .nw (.lst xs),some (.nob c fs ls)=>if cs.contains c&&So (fs.length+ls.length) 900 then some (.nx,setAt Z i (.nob c (cH f fs) (cH f ls++[(f,xs)]))) else none
 | .nw (.lst xs),some (.obj c fs)=>if cs.contains c&&So fs.length 900&&(fs.lookup f).isNone then some (.nx,setAt Z i (.nob c fs [(f,xs)])) else none
 |_,_=>none
theorem DH{x:Str}{m:Mi Rr}(hN:X.N[i]?=some x)(n:kq X.env.scope x)(hd:fC x)(R:k9 x)(hc:∀c C,cs.contains c=true->X.mg c=some (.ref C)->hJ X.K C/\bV X.K C f)(he:JE X E e m)
  (hs:X4 e (some (.Attribute (.Name x px) f p1)) pos.line X.env=pure false):JS X E (.Assign [.Attribute (.Name x px) f p1] e pos) (iQ cs i f m):=
 ⟨PS.weaken (vC (bM hN n hd R) he.p hs) λD Y H h=>by
  obtain⟨c,Z,B,θ,fl,O,I,b,em,q⟩:=h;refine d0 I b em q λr v U H1 n b1 P=>?_;cases r with
  |rf j=>cases P
  |fr a=>cases P
  |nw o=>
   cases o with
   |lst xs=>
    cases Q:aE U i with
    |none=>rw[Q] at P;cases P
    |some lo=>
     rw[Q] at P;cases lo with
     |nob cn fs ls=>
      dsimp only at P;by_cases hl:(cs.contains cn&&So (fs.length+ls.length) 900)=true
      .rw[Zt hl] at P;cases P;rw[QE] at hl;have L:=RI hl.2;obtain⟨a,rfl⟩:=Bd.tI b1;obtain⟨G,us,ha,ra,p,C,dx,vs,ws,q0,h1,h2,h3,h4,h5,S,h7,h8,h9,fin⟩:=b1.Ha Q;have A:X.mg cn=some (.ref C):=by have:=Zx (λk:Kx=>k.mg cn) I;simp only at this;rw[<-this];exact h3
       obtain⟨J,F⟩:=hc cn C hl.1 A;obtain⟨q',o1,o2,t⟩:=eO.del (f:=f) h5 S;have lv:=h4.len;have lw:=h5.sC;have T:p≠a:=λz=>h8 (Q8.mpr z);have d:∀g,(cH f vs++(cH f ws++[(f,V.ref a)])).lookup g=(dU f (.ref a) (vs++ws)).lookup g:=λg=>by
        rw[d5,Ry,Ry,jY,jY,Ry];by_cases e:g=f
        .simp only[Zt e];rw[e];simp
        .simp only[Zu e];rw[QY,beq_eq_false_iff_ne.mpr e];simp
       refine⟨_,h1,p,C,dx,vs++ws,cH f vs++(cH f ws++[(f,V.ref a)]),rfl,h2,J,F,by rw[Q2];lia,d,mD d,?_,q Y _ (fin _ _ _ _ (q'++[a]) (λ_ s _=>h4.del.sm s) (eO.snoc ?_ ra (o1.sm (Sq.refl _) λz hz u e=>?_)) ?_ ?_)⟩
       .have:=gK (f:=f) (l:=vs);have:=gK (f:=f) (l:=ws);simp only[Q2,Ta];lia
       .rw[ao T.symm];exact ha
       .rw[ao λ(y:z=p)=>h7 (by rw[<-y];exact t z hz)];exact e
       .exact QQ.mpr ⟨o2,by simp,λz hz y hy e=>h9 a (Q8.mpr rfl) (by rw[<-Q8.mp hy,<-e];exact t z hz)⟩
       .intro z hz;rcases QP.mp hz with w|w
        .exact .inl (t z w)
        .exact .inr w
      .rw[Zu hl] at P;cases P
     |obj cn fs=>
      dsimp only at P;by_cases hl:(cs.contains cn&&So fs.length 900&&(fs.lookup f).isNone)=true
      .rw[Zt hl] at P;cases P;rw[QE,QE,RE] at hl;have L:=RI hl.1.2;obtain⟨a,rfl⟩:=Bd.tI b1;obtain⟨p,C,dx,vs,h1,h2,h3,h4,h5,S⟩:=Bd.give (f:=f) b1 Q;have A:X.mg cn=some (.ref C):=by have:=Zx (λk:Kx=>k.mg cn) I;simp only at this;rw[<-this];exact h3
       obtain⟨J,F⟩:=hc cn C hl.1.1 A;have z:=qA f (.ref a) (h5 hl.2);exact⟨_,h1,p,C,dx,vs,vs++[(f,.ref a)],rfl,h2,J,F,by lia,λg=>by rw[z],λg hg=>by rw[z] at hg;exact hg,by simp only[Q2,Ta];lia,q Y _ S⟩
      .rw[Zu hl] at P;cases P
     |_=>cases P
   | _=>cases P⟩
def dH(cs:List Str)(i:Nat)(f:Str)(m:Mi Rr):Ms:=cZ m λr Z=>match bR r Z with
 |some (a,U)=>match aE U i with
  |some (.nob c fs ls)=>if cs.contains c&&So (fs.length+ls.length) 900 then some (.nx,setAt U i (.nob c (kL f a fs) (cH f ls))) else none
  |some (.obj c fs)=>if cs.contains c&&So fs.length 900 then some (.nx,setAt U i (.obj c (kL f a fs))) else none
  |_=>none
 |none=>none
theorem DY{x:Str}{m:Mi Rr}(hN:X.N[i]?=some x)(j:kq X.env.scope x)(hd:fC x)(R:k9 x)(hc:∀c C,cs.contains c=true->X.mg c=some (.ref C)->hJ X.K C/\bV X.K C f)(he:JE X E e m)
  (hs:X4 e (some (.Attribute (.Name x px) f p1)) pos.line X.env=pure false):JS X E (.Assign [.Attribute (.Name x px) f p1] e pos) (dH cs i f m):=
 ⟨PS.weaken (vC (bM hN j hd R) he.p hs) λD Y H h=>by
  obtain⟨c,Z,B,θ,fl,O,I,b,em,q⟩:=h;refine d0 I b em q λr v U S j b1 P=>?_;cases e1:bR r U with
  |none=>rw[e1] at P;cases P
  |some pr=>
   obtain⟨a,Z0⟩:=pr;rw[e1] at P;dsimp only at P;have b2:=Bd.bR (xs:=[]) (ss:=[]) rfl b1 j e1;cases Q:aE Z0 i with
   |none=>rw[Q] at P;cases P
   |some lo=>
    rw[Q] at P;cases lo with
    |nob cn fs ls=>
     dsimp only at P;by_cases hl:(cs.contains cn&&So (fs.length+ls.length) 900)=true
     .rw[Zt hl] at P;cases P;rw[QE] at hl;have o:=RI hl.2;obtain⟨L,bl,A⟩:=Bd.ur b2;obtain⟨p,C,dx,vs,ws,q0,h1,h2,h3,h4,h5,V,n,h8,h9,fin⟩:=bl.zE Q;have G:X.mg cn=some (.ref C):=by have:=Zx (λk:Kx=>k.mg cn) I;simp only at this;rw[<-this];exact h3
      obtain⟨J,F⟩:=hc cn C hl.1 G;obtain⟨q',o1,o2,t⟩:=eO.del (f:=f) h5 V;have lv:=h4.len;have lw:=h5.sC;have d:∀g,(dU f v vs++cH f ws).lookup g=(dU f v (vs++ws)).lookup g:=λg=>by
       rw[d5,Ry,jY,d5,Ry];by_cases e:g=f
       .simp only[Zt e];simp
       .simp only[Zu e]
      refine⟨_,h1,p,C,dx,vs++ws,dU f v vs++cH f ws,rfl,h2,J,F,by rw[Q2];lia,d,mD d,?_,q Y _ (fin _ _ _ _ q' (λ_ s _=>(h4.put A).sm s) (o1.sm (Sq.refl _) λz hz u e=>?_) o2 λz hz=>.inl (t z hz))⟩
      .have:=gK (f:=f) (l:=ws);have:=fB f v vs;simp only[Q2];lia
      .rw[ao λ(y:z=p)=>n (by rw[<-y];exact t z hz)];exact e
     .rw[Zu hl] at P;cases P
    |obj cn fs=>
     dsimp only at P;by_cases hl:(cs.contains cn&&So fs.length 900)=true
     .rw[Zt hl] at P;cases P;rw[QE] at hl;have o:=RI hl.2;obtain⟨L,bl,A⟩:=Bd.ur b2;obtain⟨p,_,h1,h2,h3⟩:=bl.live Q (.obj cn (kL f a fs)) (match S (match Y[i]? with|some (some (.ref p))=>p|_=>0) with|some (.ins C dx ws)=>.ins C dx (dU f v ws)|_=>.lst []);cases h2 with
      |obj w mm T=>
       rename_i C dx ws;simp only[h1,w] at h3;have G:X.mg cn=some (.ref C):=by have:=Zx (λk:Kx=>k.mg cn) I;simp only at this;rw[<-this];exact mm
       obtain⟨J,F⟩:=hc cn C hl.1 G;have lw:=T.len;exact⟨_,h1,p,C,dx,ws,dU f v ws,rfl,w,J,F,by lia,λg=>rfl,λg hg=>hg,by have:=fB f v ws;lia,q Y _ (h3 λH' hh=>.obj hh mm (T.put A))⟩
     .rw[Zu hl] at P;cases P
    | _=>cases P⟩
end
def Ap:A->A->Option Rr
 | .lst as,.int i=>match eu as with
  |some ns=>match sN ns i with
   |some j=>some (.fr (.int j))
   |none=>none
  |none=>none
 |_,_=>none
noncomputable def Ft:A->Bool
 | .lst _=>true
 |_=>false
section
variable{X:Cx}{E:XK}
theorem Ia:jc K (λx y H Q=>Fz K.K x [y] H Q) Ap:=.scalar λH v w a b q n O h=>by
 cases a with
 |lst as=>
  cases b with
  |int i=>
   have h:(match eu as with
    |some ns=>match sN ns i with
     |some j=>some (Rr.fr (.int j))
     |none=>none
    | none=>none)=some q:=h
   cases e1:eu as with
   |none=>rw[e1] at h;cases h
   |some ns=>
    rw[e1] at h;dsimp only at h;cases e2:sN ns i with
    |none=>rw[e2] at h;cases h
    |some j=>
     rw[e2] at h;cases h;cases O;cases n with
     |lst e r=>have o:=jR r e1;subst o;exact⟨_,_,rfl,λ_=>.int _,λQ k=>⟨_,ns,i,j,rfl,rfl,e,e2,k⟩⟩
  |_=>cases h
 |_=>cases h
def uQ(mo m:Mi Rr):Mi Rr:=aS mo λx S=>match res S x with
 | some a0=>if Ft a0=true then aS m (λy Z=>match res Z x,res Z y with
  |some a,some b=>match Ap a b with
   |some q=>some (.ok q,Z)
   |none=>none
  | _,_=>none) S else none
 |none=>none
theorem CT{o:Expr}{mo m:Mi Rr}(ho:JE X E o mo)(he:JE X E e m)
  (hbase:XM o "index" X.env (eval o X.env)=eval o X.env:=by rfl)(hfew:((XQ cpos (XG [e] X.env)).all (λx=>!x.1)&&(X6 cpos (XW [] X.env)).all (λx=>x.1.isSome)&&decide (([e]:List Expr).length+([]:List X1).length+(if ([]:List X1).isEmpty then 0 else 1)<30))=true:=by rfl)
  (hline:(apos.endLine==cpos.line)=true:=by rfl)(hs:XG [e] X.env=(false,eval e X.env)::XG [] X.env:=by rfl)(hplain:(XQ cpos (XG [] X.env)).any (·.1)=false:=by rfl):JE X E (.Call (.Attribute o "index" apos) [e] [] cpos) (uQ mo m):=
 ⟨PE.weaken (oj R6 TH Vb BS ho.p (aX he.p cu hs) hbase hfew hline hs hplain) λY H Q h=>by
  obtain⟨c,Z,B,θ,oo,O,ek,b,em,q⟩:=h;refine bj ek b em (λx v U H1 hv b1 em1=>?_) (bQ q);cases e0:res U x with
  |none=>rw[e0] at em1;cases em1
  |some a0=>
   rw[e0] at em1;dsimp only at em1;by_cases ht:Ft a0=true
   .rw[Zt ht] at em1;have r0:=Bd.rd b1 hv e0;rw[ek] at r0;cases a0 with
    |lst as=>
     cases r0 with
     |lst sq0 _=>refine⟨.inl ⟨rfl,_,sq0⟩,?_⟩;refine bj ek b1 em1 (λy w Z0 H2 hw b2 em2=>?_) (c6 (bQ q));obtain⟨a,d,r,e1,e2,e3,rfl,rfl⟩:=vp em2;exact Ia c Y H2 _ B θ x y _ w a d r Q ek hv hw b2 e1 e2 e3 q
    |_=>cases ht
   .rw[Zu ht] at em1;cases em1⟩
end
section
variable{k:Kx}{G H:Hp}{f:Str}
theorem eO.MH:∀{ws:List (Str×V)}{ls:List (Str×List A)}{q:List Addr}{xs:List A},eO k G H ws ls q->q.Nodup->ls.lookup f=some xs->∃a ys U,ws.lookup f=some (.ref a)/\H a=some (.lst ys)/\bN k G ys xs/\a∈q/\a∉U/\eO k G H (cH f ws) (cH f ls) U/\U.Nodup/\∀z∈U,z∈q
 |_,_,_,_,.nil,_,h=>nomatch h
 |_,_,_,_,.cons (y:=y) (a:=a0) (us:=us) e r t,nd,h=>by
  have Y:=Rf.mp nd;rw[QY] at h;rw[QY];unfold cH;cases hc:f==y with
  |true=>rw[hc] at h;cases h;obtain⟨U,h1,h2,h3⟩:=eO.del t Y.2;exact⟨a0,us,U,rfl,e,r,QV,λz=>Y.1 (h3 _ z),h1,h2,λz hz=>QM _ (h3 z hz)⟩
  |false=>
   rw[hc] at h;obtain⟨a,ys,U,h1,h2,h3,h4,h5,S,m,c⟩:=eO.MH t Y.2 h;refine⟨a,ys,a0::U,h1,h2,h3,QM _ h4,λz=>?_,.cons e r S,Rf.mpr ⟨λz=>Y.1 (c _ z),m⟩,λz hz=>?_⟩
   .rcases QL.mp z with rfl|z
    .exact Y.1 h4
    .exact h5 z
   .rcases QL.mp hz with rfl|hz
    .exact QV
    .exact QM _ (c z hz)
end
section
variable{c:Cn}{Y:St}{H:Hp}{Z:List Sl}{B:St}{θ:List Sl}
theorem Bd.Dk{fs:List (Str×A)}{ls:List (Str×List A)}{xs:List A}(b:Bd c Y H Z B θ)(Q:aE Z i=some (.nob cn fs ls))(e1:fs.lookup f=none)(e2:ls.lookup f=some xs):
  ∃p C dx ws E,Y[i]?=some (some (.ref p))/\H p=some (.ins C dx ws)/\(∀g,E.lookup g=ws.lookup g)/\(∀g,g∈ws.map (·.1)->g∈E.map (·.1))/\E.length<=fs.length+ls.length+1/\Bd c Y (upd H p (.ins C dx E)) (setAt Z i (.nob cn (fs++[(f,.lst xs)]) (cH f ls))) B θ:=by
 obtain⟨L,bl⟩:=b;obtain⟨p,C,dx,vs,ws,o,h1,h2,h3,h4,h5,S,m,D,j,fin⟩:=bl.zE Q;obtain⟨a,ys,t,P,w,G,h,R,q,v,x⟩:=eO.MH h5 S e2;have lv:=h4.len;have F:=h5.sC;have K:vs.lookup f=none:=by
  rcases h4.get f with ⟨_,_,_,y,_⟩|⟨y,_⟩
  .rw[e1] at y;cases y
  .exact y
 have d:∀g,(vs++[(f,V.ref a)]++cH f ws).lookup g=(vs++ws).lookup g:=λg=>by
  by_cases e:g=f
  .subst e;rw[Ry,Ry,Ry,K,P];simp
  .rw[Ry,Ry,Ry,jY,Zu e,QY,beq_eq_false_iff_ne.mpr e];simp
 refine⟨p,C,dx,vs++ws,vs++[(f,V.ref a)]++cH f ws,h1,h2,d,mD d,?_,fin (fs++[(f,.lst xs)]) (cH f ls) (vs++[(f,V.ref a)]) (cH f ws) t (λG' s kp=>gZ.app (h4.sm s) (.cons (.lst (.inl (.inl (kp a h R _ w))) (G.sm s)) .nil)) (q.sm (Sq.refl _) λz hz u e=>?_) v λz hz=>.inl (x z hz)⟩
 .have:=gK (f:=f) (l:=ws);simp only[Q2,Ta];lia
 .rw[ao λ(y:z=p)=>m (by rw[<-y];exact x z hz)];exact e
end
theorem Ac{o':LO}(h:aE Z i=some o):aE (setAt Z i o') i=some o':=by
 delta aE at h
 delta aE setAt
 cases e:Z[i]? with
 |none=>rw[e] at h;cases h
 |some s=>
  rw[e] at h;have hi:=(QH.mp e).1;cases s with
  |lv x=>dsimp only;rw[Q0 hi]
  |pv x=>dsimp only;rw[Q0 hi]
  |_=>cases h
theorem set_set{x o2:LO}(h:aE Z i=some o):setAt (setAt Z i x) i o2=setAt Z i o2:=by
 delta aE at h
 delta setAt
 cases e:Z[i]? with
 |none=>rw[e] at h;cases h
 |some s=>
  rw[e] at h;have hi:=(QH.mp e).1;cases s with
  |lv x=>dsimp only;rw[Q0 hi];simp
  |pv x=>dsimp only;rw[Q0 hi];simp
  |_=>cases h
theorem vO{f:Str}{xs x:List A}:∀{ls:List (Str×List A)},ls.lookup f=some xs->(iJ f x ls).lookup f=some x
 |[],h=>nomatch h
 |(y,zs)::r,h=>by
  rw[QY] at h;unfold iJ;cases hc:f==y with
  |true=>rw[Zt rfl,QY,hc]
  |false=>rw[hc] at h;rw[Zu Z5,QY,hc];exact vO h
theorem nV{f:Str}{x:List A}:∀{ls:List (Str×List A)},cH f (iJ f x ls)=cH f ls
 |[]=>rfl
 |(y,zs)::r=>by
  unfold iJ;cases hc:f==y with
  |true=>rw[Zt rfl];delta cH;show (if (f==y)=true then _ else _)=(if (f==y)=true then _ else _);rw[hc];rfl
  |false=>show (if (f==y)=true then cH f (iJ f x r) else (y,zs)::cH f (iJ f x r))=(if (f==y)=true then cH f r else (y,zs)::cH f r);rw[hc,nV]
theorem rM{f:Str}{x:List A}:∀{ls:List (Str×List A)},(iJ f x ls).length=ls.length
 |[]=>rfl
 |(y,zs)::r=>by
  unfold iJ;split
  .rfl
  .rw[QU,QU,rM]
section
variable{X:Cx}{E:XK}
theorem AU{t:TE}(h:PE X e t):PE X e (λY H Q=>t Y H λv U=>∃a C dx fs b,U a=some (.ins C dx fs)/\(∀g,b.lookup g=fs.lookup g)/\(∀g,g∈fs.map (·.1)->g∈b.map (·.1))/\b.length<=1000/\Q v (upd U a (.ins C dx b))):=
 λpins s Y H Q I q=>cC (h pins s Y H _ I q) λu s1 ⟨y,U,T,z,a,C,dx,fs,b,e,P,S,G,q⟩=>⟨y,_,nO T e P S G,z,q⟩
def so(cs:List Str)(Z:List Sl)(i:Nat)(f:Str)(a:A):Option (List Sl):=match aE Z i with
 | some (.nob c fs ls)=>if cs.contains c&&(fs.lookup f).isNone&&So (fs.length+ls.length) 900 then (match ls.lookup f with
  |some xs=>if xs.length<=100000 then some (setAt Z i (.nob c (fs++[(f,.lst (xs++[a]))]) (cH f ls))) else none
  | none=>none) else none
 |_=>none
theorem sO{O:List Sl}{a:A}(h:so cs Z i f a=some O):∃c fs ls xs,aE Z i=some (.nob c fs ls)/\fs.lookup f=none/\fs.length+ls.length<=900/\ls.lookup f=some xs/\xs.length<=100000/\ownAt cs Z i f=some xs/\O=setAt Z i (.nob c (fs++[(f,.lst (xs++[a]))]) (cH f ls)):=by
 delta so at h
 delta ownAt
 cases Q:aE Z i with
 |none=>rw[Q] at h;cases h
 |some lo=>
  rw[Q] at h;cases lo with
  |nob cn fs ls=>
   dsimp only at h;by_cases e:(cs.contains cn&&(fs.lookup f).isNone&&So (fs.length+ls.length) 900)=true
   .rw[Zt e] at h;rw[QE] at e;have k:=e.1;rw[QE,RE] at k;cases H:ls.lookup f with
    |none=>rw[H] at h;cases h
    |some xs=>
     rw[H] at h;dsimp only at h;by_cases hl:xs.length<=100000
     .rw[Zt hl] at h;cases h;exact⟨cn,fs,ls,xs,rfl,k.2,RI e.2,H,hl,by dsimp only;rw[Zt e.1];exact H,rfl⟩
     .rw[Zu hl] at h;cases h
   .rw[Zu e] at h;cases h
  |_=>cases h
def mR(cs:List Str)(i:Nat)(f:Str)(m:Mi Rr):Mi Rr:=λZ=>match ownAt cs Z i f,iP i m Z with
 |some _,some r=>match bR r Z with
  |some (a,U)=>match so cs U i f a with
   |some Z0=>some (.ok (.fr .non),Z0)
   |none=>none
  |none=>none
 |_,_=>none
theorem Ei{x:Str}{m:Mi Rr}(hN:X.N[i]?=some x)(j:kq X.env.scope x)(hd:fC x)(R:k9 x)
  (hc:∀c C,cs.contains c=true->X.mg c=some (.ref C)->hJ X.K C/\bV X.K C f)
  (d:XM (.Name x px) f X.env (eval (.Name x px) X.env)=eval (.Name x px) X.env)(he:JE X E e m)
  (s:XM (.Attribute (.Name x px) f p1) "append" X.env (eval (.Attribute (.Name x px) f p1) X.env)=eval (.Attribute (.Name x px) f p1) X.env)
  (u:((XQ cpos (XG [e] X.env)).all (λx=>!x.1)&&(X6 cpos (XW [] X.env)).all (λx=>x.1.isSome)&&decide (([e]:List Expr).length+([]:List X1).length+(if ([]:List X1).isEmpty then 0 else 1)<30))=true)
  (D:(apos.endLine==cpos.line)=true)(hs:XG [e] X.env=(false,eval e X.env)::XG [] X.env)(z:(XQ cpos (XG [] X.env)).any (·.1)=false):
  JE X E (.Call (.Attribute (.Attribute (.Name x px) f p1) "append" apos) [e] [] cpos) (mR cs i f m):=
 ⟨PE.weaken (AU (oj R6 Tw Tx km (eV (bM hN j hd R) d) (aX he.p cu hs) s u D hs z)) λY H Q h=>by
  obtain⟨c,Z,B,θ,o,O,I,b,em,q⟩:=h
  delta mR at em
  cases e1:ownAt cs Z i f with
  |none=>rw[e1] at em;cases em
  |some xs=>
   cases e2:iP i m Z with
   |none=>rw[e1,e2] at em;cases em
   |some r=>
    rw[e1,e2] at em;dsimp only at em;cases G:bR r Z with
    |none=>rw[G] at em;cases em
    |some pr=>
     obtain⟨a,U⟩:=pr;rw[G] at em;dsimp only at em;cases A:so cs U i f a with
     |none=>rw[A] at em;cases em
     | some Z0=>rw[A] at em;cases em;obtain⟨cn,fs,ls,P,J,S,l9,g,hl,V,rfl⟩:=sO A;obtain⟨L,bl⟩:=id b;obtain⟨p,ys,l1,h1,h5,h6,_⟩:=gx I hc bl e1;refine h1 _ ⟨.inl ⟨rfl,_,.inl (.inl h5)⟩,?_⟩;refine wy I b e2 λv H1 j y b1=>?_;have b2:=Bd.bR (xs:=[]) (ss:=[]) rfl b1 j G;obtain⟨L2,w,n⟩:=Bd.ur b2;obtain⟨p2,l,l2,_,g5,F,g7⟩:=gx I hc w V;obtain rfl:=(y f p l1).one l2;have T:=g7 _ _ (F.snoc n);rw[kl _ J] at T;obtain⟨p',C,dx,ws,t,w1,w2,w3,w4,w5,k⟩:=Bd.Dk T (Ac J) S (vO g);rw[set_set J,nV] at k;rw[rM] at w5;exact⟨p,l,v,rfl,rfl,g5,by have:=F.len;have:=Yd;lia,p',C,dx,ws,t,w2,w3,w4,by lia,q _ _ trivial (Bd.push k λ_=>.non)⟩⟩
end
section
variable{c:Cn}{Y:St}{H:Hp}{Z:List Sl}{B:St}{θ:List Sl}
theorem Bd.IY{p:Addr}{as:List A}(b:Bd c Y H Z (some (.ref p)::B) (.lv (.lst as)::θ)):∃us,H p=some (.lst us)/\us.length=as.length/\∀(q:Nat)(s:Int),Bd c Y (upd H p (.lst (us.set q (.int s)))) Z (some (.ref p)::B) (.lv (.lst (as.set q (.int s)))::θ):=by
 obtain⟨L,b⟩:=b;have rel:=b.rel;cases rel with
 |cons h r=>
  rename_i K L';cases h with
  |lv R=>
   cases R with
   |lst e x=>
    rename_i us;refine⟨us,e,x.len,λq s=>?_⟩;have nd:=Rf.mp b.nd;have a:p∈[p]++L':=by simp
    have sq:Sq (c.g H ([p]++L')) (c.g (upd H p (.lst (us.set q (.int s)))) ([p]++L')):=λz u C=>by
     by_cases hz:z∈[p]++L'\/z∈c.Hd
     .rw[gJ hz] at C;cases C
     .rw[bE (λy=>hz (.inl y)) (λy=>hz (.inr y))] at C;refine⟨u,?_,.inl rfl⟩;rw[bE (λy=>hz (.inl y)) (λy=>hz (.inr y)),ao λ(y:z=p)=>hz (.inl (by rw[y];exact a))];exact C
    refine⟨[p]++L',b.nd,?_,b.own,⟨λz o k=>?_,λw V=>?_⟩,b.kp,b.lt,b.hd⟩
    .exact .cons (.lv (.lst aI ((x.sm sq).set (.int s) q))) (r.sm sq λz hz u e=>by rw[ao λ(y:z=p)=>nd.1 (y▸hz)];exact e)
    .obtain⟨u,v,T⟩:=b.fr.st z o k;by_cases hz:z=p
     .subst hz;refine⟨_,aI,λN _=>?_⟩;rcases b.own z a with y|y
      .exact absurd y N
      .rw[y] at k;cases k
     .exact⟨u,by rw[ao hz];exact v,T⟩
    .obtain⟨P,S,G⟩:=b.fr.pk w V;refine⟨?_,S,G⟩;rw[ao λz=>?_]
     .exact P
     .obtain⟨ob,E,S⟩:=S;rw[z,e] at P;rw[S] at P;cases P
end
section
variable{X:Cx}{E:XK}
def Cy(cs:List Str)(Z:List Sl)(o:Nat)(f:Str):Option Int:=match aE Z o with
 | some (.nob c fs _)=>if cs.contains c then (match fs.lookup f with
  |some (.int s)=>some s
  | _=>none) else none
 |_=>none
theorem wd{o:Nat}{s:Int}(h:Cy cs Z o f=some s):∃c fs ls,aE Z o=some (.nob c fs ls)/\cs.contains c=true/\fs.lookup f=some (.int s):=by
 delta Cy at h
 cases Q:aE Z o with
 |none=>rw[Q] at h;cases h
 |some lo=>
  rw[Q] at h;cases lo with
  |nob cn fs ls=>
   dsimp only at h;by_cases e:cs.contains cn=true
   .rw[Zt e] at h;cases e2:fs.lookup f with
    |none=>rw[e2] at h;cases h
    |some a=>
     rw[e2] at h;cases a with
     |int i=>cases h;exact⟨cn,fs,ls,rfl,e,e2⟩
     |_=>cases h
   .rw[Zu e] at h;cases h
  |_=>cases h
theorem dZ.OY{fs:List (Str×A)}{ls:List (Str×List A)}{a:A}(bl:dZ c Y H Z B θ L)(Q:aE Z i=some (.nob cn fs ls))(e2:fs.lookup f=some a):
  ∃p C dx ws v,Y[i]?=some (some (.ref p))/\H p=some (.ins C dx ws)/\c.mg cn=some (.ref C)/\ws.lookup f=some v/\RA c.toKx (c.g H L) v a:=by
 obtain⟨p,_,h1,h2,o⟩:=bl.live Q (.nob cn fs ls) (.lst []);cases h2 with
 |nob e m r l=>
  rename_i C dx vs ws;rcases r.get f with ⟨u,a',E,n,d⟩|⟨_,n⟩
  .rw[e2] at n;cases n;exact⟨p,C,dx,vs++ws,u,h1,e,m,i4 E,d⟩
  .rw[e2] at n;cases n
def u9(cs:List Str)(i j z o:Nat)(f:Str)(m:Mi Rr):Ms:=cZ m λr Z=>match r with
 | .nw (.lst as)=>match aE Z i,intAt Z j,intAt Z z,Cy cs Z o f with
  |some (.lst xs),some k,some l,some s=>match gz xs.length k,gz as.length l with
   |some n,some q=>some (.nx,setAt Z i (.lst (xs.set n (.lst (as.set q (.int s))))))
   |_,_=>none
  |_,_,_,_=>none
 |_=>none
theorem yH{a b:Addr}{x y:HO}(h:a≠b):upd (upd H a x) b y=upd (upd H b y) a x:=by
 funext d
 by_cases e:d=b
 .subst e;rw[aI,ao (λz=>h z.symm),aI]
 .by_cases e2:d=a
  .subst e2;rw[ao e,aI,aI]
  .rw[ao e,ao e2,ao e2,ao e]
theorem xG{z o:Nat}{m:Mi Rr}(hc:∀c C,cs.contains c=true->X.mg c=some (.ref C)->hJ X.K C/\bV X.K C f)(hw:∀Y H Q,kN (kx X) E m Y H Q->te Y H Q)(D:Ends)(Y:St)(H:Hp)
  (h:Gf (kx X) E (u9 cs i j z o f m) D Y H):zI (qP te (ya (mQ i) (mQ j) qT)) (qP (En X.K (mQ o) f) (ya (Hn (H9 X.K) (mQ i) (mQ j)) (mQ z) qT)) D Y H:=by
 obtain⟨c,Z,B,θ,fl,O,ek,b,em,q⟩:=h;refine hw _ _ _ (d0 ek b em q λr v U S hv b1 P=>?_);cases r with
 |rf j=>cases P
 |fr a=>cases P
 |nw lo=>
  cases lo with
  |lst as=>
   cases e1:aE U i with
   |none=>rw[e1] at P;cases P
   |some lo=>
    cases e2:intAt U j with
    |none=>rw[e1,e2] at P;cases lo<;>cases P
    |some k=>
     cases N:intAt U z with
     |none=>rw[e1,e2,N] at P;cases lo<;>cases P
     |some l=>
      cases T:Cy cs U o f with
      |none=>rw[e1,e2,N,T] at P;cases lo<;>cases P
      |some s=>
       rw[e1,e2,N,T] at P;cases lo with
       |lst xs=>
        dsimp only at P;cases I:gz xs.length k with
        |none=>rw[I] at P;cases P
        |some n=>
         cases J:gz as.length l with
         |none=>rw[I,J] at P;cases P
         |some A=>
          rw[I,J] at P;cases P;obtain⟨p,rfl⟩:=Bd.tI b1;obtain⟨us,k1,k2,k3⟩:=Bd.IY b1;have b2:=k3 A s;have b3:Bd c Y (upd S p (.lst (us.set A (.int s)))) U (some (.ref p)::B) (.fr (.lst (as.set A (.int s)))::θ.map Sl.fr):=Bd.bR (xs:=[]) (ss:=[]) (r:=.nw (.lst (as.set A (.int s)))) rfl b2 (by trivial) rfl;obtain⟨L3,G,ra⟩:=Bd.ur b3;obtain⟨y,vs,s1,s2⟩:=mE b1 e1;obtain⟨L1,t⟩:=id b1;obtain⟨cn,fs,ls,f1,f2,f3⟩:=wd T;obtain⟨po,C,dx,ws,vo,o1,o2,o3,o4,o5⟩:=t.OY f1 f3;obtain⟨vj,j1,j2⟩:=t.EH (jg e2);obtain⟨vz,z1,z2⟩:=t.EH (jg N);cases j2;cases z2;cases o5;have R:X.mg cn=some (.ref C):=by have:=Zx (λk:Kx=>k.mg cn) ek;simp only at this;rw[<-this];exact o3
          obtain⟨c1,c2⟩:=hc cn C f2 R;have d:y≠po:=λw=>by rw[w,o2] at s2;cases s2
          have yp:y≠p:=λw=>by
           obtain⟨L,bb⟩:=b1;have rel:ax c.toKx (c.g S L) S (some (.ref p)::(B++Y)) (.lv (.lst as)::(θ.map Sl.fr++U)) L:=bb.rel;cases rel with
           |cons h r=>
            cases h with
            |lv lr=>
             obtain⟨L1,L2,g1,r1,r2⟩:=ax.split (by have:(some (V.ref p)::B).length=(Sl.lv (.lst as)::θ.map Sl.fr).length:=bb.lt;simpa using this) r;have key:∀s:Sl,U[i]?=some s->(s=.lv (.lst xs)\/s=.pv (.lst xs))->False:=λs es hst=>by
              obtain⟨x,M1,M2,M3,hx,hs,g2,_⟩:=r2.at es;rw[s1] at hx;cases hx;have:y∈M2:=by
               rcases hst with rfl|rfl
               .cases hs;exact QV
               .cases hs;exact QV
              have nd:=bb.nd;rw[g1,g2] at nd;have:=(QQ.mp nd).2.2 p QV y (by simp[this]);exact this w.symm
             delta aE at e1
             cases es:U[i]? with
             |none=>rw[es] at e1;cases e1
             |some s=>
              rw[es] at e1;cases s with
              |lv o=>cases e1;exact key _ es (.inl rfl)
              |pv o=>cases e1;exact key _ es (.inr rfl)
              |_=>cases e1
          obtain⟨y',_,h1,h2,h3⟩:=G.live e1 (.lst (xs.set n (.lst (as.set A (.int s))))) (.lst (vs.set n (.ref p)));rw[s1] at h1;cases h1;have hvs:∃vl,bN c.toKx (c.g (upd S p (.lst (us.set A (.int s)))) L3) vl xs/\vl=vs:=by
           cases h2 with
           |lst e r=>rw[ao yp,s2] at e;cases e;exact⟨_,r,rfl⟩
          obtain⟨vl,F,evl⟩:=hvs;rw[evl] at F;have u:=F.len;have hn:n<vs.length:=by rw[u];exact(lg I).2.1
          refine⟨_,s1,_,j1,y,vs,k,n,rfl,rfl,s2,by rw[u];exact I,?_⟩;refine⟨_,o1,po,C,dx,ws,_,rfl,by rw[ao d.symm];exact o2,c1,c2,o4,?_⟩;refine⟨_,s1,_,j1,y,vs.set n (.ref p),k,.ref p,rfl,rfl,.of aI,HH (by rw[U2,u];exact I) (by rw[Q0 hn]),_,z1,p,us,l,A,rfl,rfl,by rw[ao yp.symm];exact k1,by rw[k2];exact J,?_⟩;rw[yH yp];cases h2 with
          |lst e r=>exact q Y _ (h3 λH' hh=>.lst hh (F.set ra n))
       |_=>cases P
  |_=>cases P
theorem Ak{a b:Stmt}{r:List Stmt}{ta tb:TS}{m n:Ms}(C:PS X a ta)(v:PS X b tb)(w:∀D Y H,Gf (kx X) E m D Y H->zI ta tb D Y H)(h':rb X E r n):rb X E (a::b::r) (av m n):=⟨qN.weaken (mF C (mF v h'.p)) λD Y H h=>by
 refine w { D with nx:=Gf (kx X) E n D } Y H ?_;obtain⟨c,Z,B,θ,f,O,I,b,em,q⟩:=h
 delta av at em
 cases e:m Z with
 |none=>rw[e] at em;cases em
 |some p=>
  obtain⟨o,U⟩:=p;rw[e] at em;refine⟨c,Z,B,θ,o,U,I,b,e,?_⟩;cases o with
  |nx=>exact λj H' J=>⟨c,U,B,θ,f,O,I,J,em,q⟩
  |rt s=>cases em;exact q
  |bk=>cases em;exact q
  |ct=>cases em;exact q
  | ex x=>cases em;exact q⟩
end
variable{w:XR}{lo hi:Int}{u:Tok}{q1 q2:Pos}
section
open PyProof.Rows
noncomputable def NJ(p:Addr)(lo hi:Int):HO:=.exd λh=>∃t u v,IsRange h p lo hi 1 t u v
section
variable{X:Cx}{E:XK}
theorem EY{prog:Program}{h:Heap}{p:Addr}{t v:Tok}(e:IsRange h p lo hi 1 t u v):dD prog w H h p (NJ p lo hi):=
 ⟨⟨t,u,v,e⟩,⟨_,e⟩,λ_ _ ⟨t,u,v,q⟩ k=>⟨t,u,v,k _ q⟩⟩
theorem xa:dg X (.type "range") (λxs H Q=>∃j:Int,xs=[.int j]/\∀p,H p=none->Q (.ref p) (upd H p (NJ p 0 j))):=by intro pins s Y H xs us Q I r h;obtain⟨j,rfl,q⟩:=h;obtain⟨u,rfl,K⟩:=vals1 r;obtain⟨t,rfl⟩:=K;exact call_range_1 ⟨.ref s.heap.objs.size,_,I.laid (λb o e=>QR _ e) (QN _) (EY (Q3 _ rfl)),rfl,q _ (I.hok.fresh (QN _))⟩
theorem xf:dg X (.type "range") (λxs H Q=>∃i j:Int,xs=[.int i,.int j]/\∀p,H p=none->Q (.ref p) (upd H p (NJ p i j))):=by
 intro pins s Y H xs us Q I r h;obtain⟨i,j,rfl,q⟩:=h;cases r with
 |cons r T=>
  cases T with
  |cons k T=>cases T;obtain⟨t,rfl⟩:=r;obtain⟨w,rfl⟩:=k;exact call_range_2 ⟨.ref s.heap.objs.size,_,I.laid (λb o e=>QR _ e) (QN _) (EY (Q3 _ rfl)),rfl,q _ (I.hok.fresh (QN _))⟩
noncomputable def tw(lo:Int)(n:Nat):List V:=(Q4 n).map λi=>.int (lo+(i:Nat))
theorem A0{n:Nat}{acc:Array Value}(h:ItemsOf (λi v=>∃t,v=TV (lo+(i:Nat)*1) t) acc n):Vals (tw lo n) acc.toList:=by
 obtain⟨h1,h2⟩:=h;obtain⟨l⟩:=acc;have key:∀(l:List Value)(k n:Nat),l.length=n->(∀(j:Nat)(v:Value),l[j]?=some v->∃t,v=TV (lo+((j+k:Nat):Int)*1) t)->Vals ((List.range' k n).map λi=>V.int (lo+(i:Nat))) l:=by
  intro l;induction l with
  |nil=>intro k n e _;subst e;exact .nil
  |cons a l m=>
   intro k n e h;subst e;refine .cons ?_ (m (k+1) _ rfl λj v e=>?_)
   .obtain⟨t,rfl⟩:=h 0 a rfl;exact⟨t,by simp⟩
   .obtain⟨t,rfl⟩:=h (j+1) v e;exact⟨t,by rw[show j+1+k=j+(k+1) by lia]⟩
 have:=key l 0 n h1 (by simpa using h2);rw[<-List.range_eq_range'] at this;exact this
theorem nL(hc:X.calm=true):dg X (.type "list") (λxs H Q=>∃(p:Addr)(lo hi:Int),xs=[.ref p]/\H p=some (NJ p lo hi) /\ -(2^60)<=lo/\lo<2^60 /\ -(2^60)<=hi/\hi<2^60/\(hi-lo).toNat<=100000/\∀l,H l=none->Q (.ref l) (upd H l (.lst (tw lo (hi-lo).toNat)))):=by
 intro pins s Y H xs us Q I r h;obtain⟨p,lo,hi,rfl,hp,b1,b2,T,J,F,q⟩:=h;obtain⟨u,rfl,K⟩:=vals1 r;cases K;obtain⟨⟨t,u,v,e⟩,_,_⟩:=(I.hok p _ hp)
 have hn:Si lo hi 1=((hi-lo).toNat:Nat):=by rw[rangeSize_one];split<;>lia
 refine call_list_range (I.ok.hd hc) e (small_one Q1 Q1 Q1 Q1) hn Q1 λh' tk c i kp Z b=>?_;refine⟨.ref s.heap.objs.size,_,I.laid kp (QN _) (show dD X.prog X.w _ h' _ (.lst (tw lo (hi-lo).toNat)) from ⟨?_,c.toList,i,A0 b,by simpa using Z⟩),rfl,q _ (I.hok.fresh (QN _))⟩;have:=Yd;unfold tw;rw[QK,TJ];lia
theorem CN{k:Kx}{G:Hp}(lo:Int)(n:Nat):bN k G (tw lo n) (bP lo n):=by
 unfold tw bP;generalize Q4 n=l;induction l with
 |nil=>exact .nil
 |cons i l m=>exact .cons (.int _) m
theorem rZ{Y:L2.St}{B:L2.St}{n:Nat}(b:Bd c Y H Z B θ)(q:∀v H',VR Y (.nw (.lst (bP lo n))) v->Bd c Y H' Z (some v::B) (.lv (.lst (bP lo n))::θ)->Q v H')(l:Addr)(h:H l=none):Q (.ref l) (upd H l (.lst (tw lo n))):=by obtain⟨L,bl⟩:=b;exact q _ _ trivial (bl.kO h λG H' _ e=>.lst e (CN lo n))
noncomputable def ET(lo hi:Int):Bool:=decide (-(2^60)<=lo/\lo<2^60 /\ -(2^60)<=hi/\hi<2^60/\(hi-lo).toNat<=100000)
def mZ(m:Mi Rr):Mi Rr:=aS m λr Z=>match res Z r with
 |some (.int j)=>if ET 0 j=true then some (.ok (.nw (.lst (bP 0 (j-0).toNat))),Z) else none
 |_=>none
theorem zC{a:Expr}{m:Mi Rr}(hc:X.calm=true)(J:Gl X "list")(hm:X.mg "list" = none)(r:XI "list" = some (.type "list"))(C:Gl X "range")(L:X.mg "range" = none)(f:JE X E a m)
  (hs:XG [a] X.env=(false,eval a X.env)::XG [] X.env):JE X E (.Call (.Name "list" p1) [.Call (.Name "range" p2) [a] [] q2] [] q1) (mZ m):=
 ⟨PE.weaken (fT (nL hc) J hm r (aX (fT xa C L YQ (aX f.p cu hs) Z3 Z3 hs rfl) cu rfl) Z3 Z3 rfl rfl) λY H Q h=>by
  obtain⟨c,Z,B,θ,o,O,e,b,em,q⟩:=h;refine bj e b em (λx v U S r b1 P=>?_) (bQ q);obtain⟨j,e1,i⟩:=zH P;have n:=Bd.rd b1 r e1;cases n;by_cases hl:ET 0 j=true
  .rw[Zt hl] at i;cases i;have hl:=Zz hl;refine⟨j,rfl,λp hp=>⟨p,0,j,rfl,aI,by lia,by lia,by lia,by lia,hl.2.2.2.2,λl hl=>?_⟩⟩;exact rZ (b1.drop.new hp) q l hl
  .rw[Zu hl] at i;cases i⟩
def lV(m n:Mi Rr):Mi Rr:=aS m λr=>aS n λt=>λZ=>match res Z r,res Z t with
 |some (.int i),some (.int j)=>if ET i j=true then some (.ok (.nw (.lst (bP i (j-i).toNat))),Z) else none
 |_,_=>none
theorem yZ{a r:Expr}{m n:Mi Rr}(hc:X.calm=true)(J:Gl X "list")(hm:X.mg "list" = none)(A:XI "list" = some (.type "list"))(C:Gl X "range")(L:X.mg "range" = none)(f:JE X E a m)(z:JE X E r n)
  (hs:XG [a,r] X.env=(false,eval a X.env)::XG [r] X.env)(K:XG [r] X.env=(false,eval r X.env)::XG [] X.env)(hp:(XQ q2 (XG [r] X.env)).any (·.1)=false):JE X E (.Call (.Name "list" p1) [.Call (.Name "range" p2) [a,r] [] q2] [] q1) (lV m n):=
 ⟨PE.weaken (fT (nL hc) J hm A (aX (fT xf C L YQ (aX f.p (aX z.p cu K) hs) Z3 Z3 hs hp) cu rfl) Z3 Z3 rfl rfl) λY H Q h=>by
  obtain⟨c,Z,B,θ,o,O,e,b,em,q⟩:=h;refine bj e b em (λx v U S A b1 P=>?_) (bQ q);refine bj e b1 P (λy w Z0 g s b2 I=>?_) (c6 (bQ q));obtain⟨i,j,e1,e2,I⟩:=qz I;obtain⟨rfl,rfl⟩:v=.int i/\w=.int j:=by have k:=Bd.rd b2 s e2;have u:=Bd.rd b2.drop A e1;cases u;cases k;exact⟨rfl,rfl⟩
  by_cases hl:ET i j=true
  .rw[Zt hl] at I;cases I;have hl:=Zz hl;refine⟨i,j,rfl,λp hp=>⟨p,i,j,rfl,aI,by lia,by lia,by lia,by lia,hl.2.2.2.2,λl hl=>?_⟩⟩;exact rZ (b2.drop.drop.new hp) q l hl
  .rw[Zu hl] at I;cases I⟩
end
end
variable{d:Expr}
section
open PyProof.Rows
noncomputable def D6(lo c:Int)(n:Nat):It:=⟨λi _=>i<n,λi H x H'=>H'=H/\x=.int (lo+i*c),λi _=>n<=i⟩
theorem rY{P:Program}{K:QF}{tg:Expr}(it:Addr)(lo c:Int)(n:Nat):Turn P w K tg (D6 lo c n) [it] it (λi h=>Zf h it (lo+(i:Nat)*c) ((n:Int)-(i:Nat)) c) where
 mem:=by simp
 obj:=λi h st b d=>by
  have e:b=it:=by simpa using d
  subst e;exact⟨_,st,λv z=>by have a:=z;cases a⟩
 keep:=λi h h' st k=>k it Z5 _ st
 item:=by intro X L Z m hc i pins s Y H E I hf st J;subst L Z m;obtain⟨f0,r,p,F,B,C⟩:=hf it Z5;have W:=WW (prog:=X.prog) (w:=X.w) (I.ok.hd hc) it lo c n;refine W.item i s _ _ J st λv h' tk j N u=>?_;obtain⟨t,rfl⟩:=j;have T:Inv X pins Y H { s with heap:=h',toks:=tk }:=I.turned (λb o d e=>u b o (by simpa using d) e) f0 r F B C;exact⟨_,rfl,vL N rfl rfl Z3 ⟨.int (lo+i*c),H,T,⟨t,rfl⟩,⟨rfl,rfl⟩,N,λb d=>(hf b d).1⟩⟩
 done:=by intro X L Z m hc i pins s Y H E I hf st J;obtain⟨f0,r,p,F,B,C⟩:=hf it Z5;exact YN (I.ok.hd hc) st (by have:n<=i:=J;lia) λh' G=>⟨rfl,I.turned (λb o d e=>G b o d e) f0 r F B C⟩
 self:=λ_ _ _ _ _ st h=>YO st h
noncomputable def zP(lo hi c:Int):Nat:=if lo<hi then ((hi-lo-1) / c+1).toNat else 0
theorem GP{c:Int}(h:0<c):Si lo hi c=(zP lo hi c:Nat):=by
 unfold Si zP;rw[Zt h];by_cases e:lo<hi
 .rw[Zt e,Zt e];have:=Int.ediv_nonneg (show 0<=hi-lo-1 by lia) (show 0<=c by lia);lia
 .rw[Zu e,Zu e];rfl
section
variable{X:Cx}{E:XK}{tg:Expr}
theorem wx{pins:List (Addr×Obj)}{Y:L2.St}{s:Shared}{R:It->Hp->Prop}{E:Value->Shared->Prop}{c:Int}{t v:Tok}{tk:Nat}(I:Inv X pins Y H s)(h:TZ lo hi c=true)(hc:0<c)
  (q:R (D6 lo c (zP lo hi c)) H):XJ (XO X.prog X.w) X.A (pyIter (.ref s.heap.objs.size)) (NT X pins Y tg R) E { s with heap:=s.heap.push { cls:=.type "range",data:=.fields #[.int lo t,.int hi u,.int c v] },toks:=tk }:=by
 refine Y5 (Wz ..) h ?_;have T:Inv X pins Y H { s with heap:=s.heap.push { cls:=.type "range",data:=.fields #[.int lo t,.int hi u,.int c v] },toks:=tk }:=I.kept λb o e=>QR _ e;refine⟨(s.heap.push { cls:=.type "range",data:=.fields #[.int lo t,.int hi u,.int c v] }).objs.size,[(s.heap.push { cls:=.type "range",data:=.fields #[.int lo t,.int hi u,.int c v] }).objs.size],_,_,H,rfl,
  T.kept λb o e=>QR _ e,rY _ lo c (zP lo hi c),?_,λb d=>?_,q⟩
 .have e1:lo+((0:Nat):Int)*c=lo:=by simp
  have e2:((zP lo hi c:Nat):Int)-((0:Nat):Int)=Si lo hi c:=by rw[GP hc];simp
  rw[e1,e2];exact Q3 _ rfl
 .have e:b=(s.heap.push { cls:=.type "range",data:=.fields #[.int lo t,.int hi u,.int c v] }).objs.size:=by simpa using d
  subst e;exact T.wU (QN _) (T.hok.fresh (QN _))
noncomputable def HP(lo hi c:Int):Bool:=decide (0<c)&&decide (c.natAbs<2^60)&&TZ lo hi c
def Ml(ta:TA):TI:=λY H R=>ta Y H λvs U=>∃i j c:Int,vs=[.int i,.int j,.int c]/\HP i j c=true/\R (D6 i c (zP i j c)) U
theorem zf{c:Int}(h:HP lo hi c=true):0<c/\TZ lo hi c=true/\∀x,UX x c=false:=by unfold HP at h;rw[QE,QE,decide_eq_true_eq,decide_eq_true_eq] at h;refine⟨h.1.1,h.2,λx=>?_⟩;unfold UX;have:c.natAbs.log2<60:=(VW Q1).mpr h.1.2;rw[Bool.and_eq_false_iff];left;refine Zv ?_;show ¬ (if (c==0)=true then 0 else c.natAbs.log2 / 30+1) > 300;split<;>lia
theorem xb{a b:Expr}{ta:TA}(J:Gl X "range")(hm:X.mg "range" = none)(f:PA X [a,b,d] ta)(hs:XG [a,b,d] X.env=(false,eval a X.env)::XG [b,d] X.env)(hp:(XQ pos (XG [b,d] X.env)).any (·.1)=false):
  PI X tg (.Call (.Name "range" p) [a,b,d] [] pos) (Ml ta):=by
 intro pins s Y H R I h;refine Call_ (hV I J hm YQ (RP (cC (f pos pins s Y H _ I h) λus s1 ⟨vs,U,T,n,q1⟩=>?_) hs hp));obtain⟨i,j,c,e,ok,q⟩:=q1;subst e;obtain⟨P,S,G⟩:=zf ok;cases n with
 |cons r o=>
  cases o with
  |cons r' o=>
   cases o with
   |cons Z o=>cases o;obtain⟨t,rfl⟩:=r;obtain⟨t',rfl⟩:=r';obtain⟨B,rfl⟩:=Z;exact call_range_3 Q1 (wx T S P q) (.inl (G _))
noncomputable def rA(lo c:Int)(n:Nat):List A:=(Q4 n).map λi=>.int (lo+(i:Nat)*c)
theorem Cq{c:Int}{n:Nat}:G0 K (D6 lo c n) [] [] (rA lo c n):=λcn Y H Z F D B θ i e A b=>by
 have hl:(rA lo c n).length=n:=by simp[rA]
 refine⟨λh=>by rw[hl] at h;exact h,λa f=>?_⟩;have hi:i<n:=by rw[<-hl];exact(QH.mp f).1
 refine⟨hi,λx H' y=>?_⟩;obtain⟨rfl,rfl⟩:=y;have:a=.int (lo+i*c):=by unfold rA at f;rw[Rc,Ss hi] at f;exact(Q9 f).symm
 subst this;exact b.push λ_=>.int _
theorem A8{u w x:Option A}{F:Int->Int->Int->Option α}{r:α} (h:(match u,w,x with
 |some (.int i),some (.int j),some (.int k)=>F i j k
 | _,_,_=>none)=some r):∃i j k,u=some (.int i)/\w=some (.int j)/\x=some (.int k)/\F i j k=some r:=by
 split at h
 .rename_i i j k;exact⟨i,j,k,rfl,rfl,rfl,h⟩
 .cases h
def qU(m n o:Mi Rr):Mi (List A):=aS m λr=>aS n λt=>aS o λu=>λZ=>match res Z r,res Z t,res Z u with
 |some (.int i),some (.int j),some (.int c)=>if HP i j c=true then some (.ok (rA i c (zP i j c)),Z) else none
 |_,_,_=>none
theorem Ck{a b:Expr}{m n o:Mi Rr}(J:Gl X "range")(hm:X.mg "range" = none)(f:JE X E a m)(A:JE X E b n)(hd:JE X E d o)
  (K:XG [a,b,d] X.env=(false,eval a X.env)::XG [b,d] X.env)(L:XG [b,d] X.env=(false,eval b X.env)::XG [d] X.env)(Q:XG [d] X.env=(false,eval d X.env)::XG [] X.env)(hp:(XQ pos (XG [b,d] X.env)).any (·.1)=false):JI X E tg (.Call (.Name "range" p) [a,b,d] [] pos) (qU m n o):=⟨λpins s Y H R I h=>by
 refine xb J hm (aX f.p (aX A.p (aX hd.p cu Q) L) K) K hp pins s Y H R I ?_;obtain⟨c,Z,B,θ,o,O,e,b,em,q⟩:=h;refine bj e b em (λx v U H1 r b1 P=>?_) (da q);refine bj e b1 P (λy w Z0 H2 V b2 l=>?_) (c6 (da q));refine bj e b2 l (λz u Z1 t g T C=>?_) (c6 (c6 (da q)));obtain⟨i,j,k,e1,e2,G,C⟩:=A8 C;obtain⟨rfl,rfl,rfl⟩:v=.int i/\w=.int j/\u=.int k:=by have D:=Bd.rd T g G;have F:=Bd.rd T.drop V e2;have S:=Bd.rd T.drop.drop r e1;cases S;cases F;cases D;exact⟨rfl,rfl,rfl⟩
 by_cases N:HP i j k=true
 .rw[Zt N] at C;cases C;exact⟨i,j,k,rfl,N,q _ t [] [] rfl Cq T.drop.drop.drop⟩
 .rw[Zu N] at C;cases C⟩
end
end
end M
set_option maxHeartbeats 4000000
namespace L2
open PySem PySem.Spec PyProof.Rows PySem.W
variable{i j:Addr}{xs ys:Array Value}{Q:Value->Shared->Prop}
section
variable{prog:Program}{w:XR}{A:XU}{E:Value->Shared->Prop}{s:Shared}
structure mX(h:Heap)(z TI TO i j l m:Addr)(k:Nat)(f0:Value):Prop where
 hz:Zh h z TI TO f0
 hi:Yy h TI (.ref i) (.ref j)
 ho:∃a b,Yy h TO a b
 h1:h.IsListIter i l k
 h2:h.IsTupleIter j m k
theorem BA{z TI TO l m:Addr}{k:Nat}{x y:Value}(D:Zs z TI TO i j l m)(Z:mX s.heap z TI TO i j l m k .none)
  (hl:s.heap.IsList l xs)(hm:s.heap.IsTuple m ys)(hx:xs[k]?=some x)(hy:ys[k]?=some y)
  (q:∀h',mX h' z TI TO i j l m (k+1) (Ze s.heap.objs.size)->Yy h' s.heap.objs.size x y->(∀c o,c≠z->c≠TO->c≠i->c≠j->s.heap.get? c=some o->h'.get? c=some o)->Q (.ref s.heap.objs.size) { s with heap:=h' }):
  XJ (XO prog w) A (Builtin.«zip.__next__» ⟨[.ref z],[]⟩) (λfin s'=>∃v,fin=.done (.ret v)/\Q v s') E s:=by
 obtain⟨hz,X,⟨a,b,S⟩,g1,g2⟩:=Z;show XJ _ _ (field (.ref z) 2 >>= _) _ _ _;refine XH (X7 hz rfl (x:=.bool false) rfl ?_);refine XH (X7 hz rfl (x:=.ref TI) rfl (XH (X9 X rfl ?_)));refine XH ?_;refine XH (X7 hz rfl (x:=.none) rfl (XN ?_));refine XH (Y4 (XH (X7 hz rfl (x:=.ref TO) rfl (XH (Yb hz Z5 λk1 g s1=>?_)))));refine XH ?_;refine XH (XH (YG ?_));show XJ _ _ (RC (.ref i) >>= _) _ _ _;refine XH (YW (g1.extBut s1.extBut D.i1z) (hl.extBut s1.extBut D.l1z) hx λk2 V s2=>XN ?_);have B:Yy k2 TO a b:=s2.extBut _ _ D.TOi1 (s1.extBut _ _ D.TOz S);refine XH (X9 B rfl (XH (Yt B λk3 Y L=>?_)));have Y:Yy k3 TO x b:=Y;refine XH (Zi (XN (XH (XH (YG ?_)))));show XJ _ _ (RC (.ref j) >>= _) _ _ _;refine XH (CO (((g2.extBut s1.extBut D.i2z).extBut s2.extBut D.i12.symm).extBut L.extBut D.TOi2.symm) (((hm.extBut s1.extBut D.l2z).extBut s2.extBut D.l2i1).extBut L.extBut D.l2TO) hy λk4 U F=>XN ?_);have p:Yy k4 TO x b:=F.extBut _ _ D.TOi2 Y;refine XH (X9 p rfl (XH (Yt p λR H I=>?_)));have H:Yy R TO x y:=H;refine XH (Zi (XN (XN (XH (X9 H rfl (XH (wpAny_newTuple ?_)))))));have sz:R.objs.size=s.heap.objs.size:=by rw[I.1,F.1,L.1,s2.1,s1.1]
 have O:Zh R z TI TO .ellipsis:=I.extBut _ _ D.TOz.symm (F.extBut _ _ D.i2z.symm (L.extBut _ _ D.TOz.symm (s2.extBut _ _ D.i1z.symm g)));have keep:∀c o,c≠z->c≠TO->c≠i->c≠j->s.heap.get? c=some o->R.get? c=some o:=λc o J P f d e=>I.extBut _ _ P (F.extBut _ _ d (L.extBut _ _ P (s2.extBut _ _ f (s1.extBut _ _ J e))));have g15:R.IsListIter i l (k+1):=((V.extBut L.extBut D.TOi1.symm).extBut F.extBut D.i12).extBut I.extBut D.TOi1.symm;have g25:R.IsTupleIter j m (k+1):=U.extBut I.extBut D.TOi2.symm;show XJ _ _ (Tu (.ref z) (.ref R.objs.size) >>= _) _ _ _;refine XH ?_;unfold Tu;have hz6:Zh (R.push { cls:=.type "tuple",data:=.seq #[x,y] }) z TI TO .ellipsis:=QR _ O;refine XH (Yb hz6 Z5 λk7 C s7=>?_);have C:Zh k7 z TI TO (Ze R.objs.size):=C;refine Yb C Z5 λu h s8=>?_;have h:Zh u z TI TO (Ze R.objs.size):=h;have G:R.objs.size≠z:=VB (QZ O);have up:∀c o,c≠z->R.get? c=some o->u.get? c=some o:=λc o J e=>s8.extBut _ _ J (s7.extBut _ _ J (QR _ e));have T:Yy u R.objs.size x y:=s8.extBut _ _ G (s7.extBut _ _ G (Q3 _ rfl));rw[sz] at h T;refine XN ⟨_,rfl,?_⟩;show Q (.ref R.objs.size) _;rw[sz];have N:∀{b t:Addr}{n:Nat},b≠z->R.IsTupleIter b t n->u.IsTupleIter b t n:=λhb ⟨o,e,r⟩=>⟨o,up _ o hb e,r⟩
 have K:∀{b t:Addr}{n:Nat},b≠z->R.IsListIter b t n->u.IsListIter b t n:=λhb ⟨o,e,r⟩=>⟨o,up _ o hb e,r⟩
 exact q u ⟨h,up _ _ D.TIz (keep _ _ D.TIz D.TITO D.TIi1 D.TIi2 X),⟨_,_,up _ _ D.TOz H⟩,K D.i1z g15,N D.i2z g25⟩ T λc o J P f d e=>up c o J (keep c o J P f d e)
theorem Bz{z TI TO l m:Addr}{k:Nat}{Q:Fin->Shared->Prop}(u:A.handled=none)(D:Zs z TI TO i j l m)(Z:mX s.heap z TI TO i j l m k .none)
  (hl:s.heap.IsList l xs)(hm:s.heap.IsTuple m ys)(T:xs[k]?=none\/ys[k]?=none)
  (q:∀h' e,(∀c o,c≠z->c≠TO->c≠i->c≠j->s.heap.get? c=some o->h'.get? c=some o)->(∃o,h'.get? e=some o/\o.cls=.type "StopIteration")->E (.ref e) { s with heap:=h' }):
  XJ (XO prog w) A (Builtin.«zip.__next__» ⟨[.ref z],[]⟩) Q E s:=by
 obtain⟨hz,X,⟨a,b,F⟩,C,n⟩:=Z;show XJ _ _ (field (.ref z) 2 >>= _) _ _ _;refine XH (X7 hz rfl (x:=.bool false) rfl ?_);refine XH (X7 hz rfl (x:=.ref TI) rfl (XH (X9 X rfl ?_)));refine XH ?_;refine XH (X7 hz rfl (x:=.none) rfl (XN ?_));refine XH (Y4 (XH (X7 hz rfl (x:=.ref TO) rfl (XH (Yb hz Z5 λr g s1=>?_)))));refine XH ?_;refine XH (XH (YG ?_));show XJ _ _ (RC (.ref i) >>= _) _ _ _;cases hx:xs[k]? with
 |none=>
  refine XH (wpAny_nextOf_list_end u (C.extBut s1.extBut D.i1z) (hl.extBut s1.extBut D.l1z) hx λS e s2 ⟨v,he,H⟩=>?_);have Y:Zh S z TI TO .ellipsis:=s2 _ _ D.i1z.symm g;have ne:e≠z:=λx=>by subst x;rw[Y] at he;cases he;simp at H
  exact Yb Y Z5 λG _ L=>q G e (λc o J _ f _ x=>L.extBut _ _ J (s2 _ _ f (s1.extBut _ _ J x))) ⟨v,L.extBut _ _ ne he,H⟩
 |some x=>
  have hy:ys[k]?=none:=by rcases T with h|h;rw[hx] at h;cases h;exact h
  refine XH (YW (C.extBut s1.extBut D.i1z) (hl.extBut s1.extBut D.l1z) hx λS V s2=>XN ?_);have B:Yy S TO a b:=s2.extBut _ _ D.TOi1 (s1.extBut _ _ D.TOz F);refine XH (X9 B rfl (XH (Yt B λG y L=>?_)));refine XH (Zi (XN (XH (XH (YG ?_)))));show XJ _ _ (RC (.ref j) >>= _) _ _ _;refine XH (CJ u (((n.extBut s1.extBut D.i2z).extBut s2.extBut D.i12.symm).extBut L.extBut D.TOi2.symm) (((hm.extBut s1.extBut D.l2z).extBut s2.extBut D.l2i1).extBut L.extBut D.l2TO) hy λd e K ⟨v,he,H⟩=>?_);have p:Zh d z TI TO .ellipsis:=K _ _ D.i2z.symm (L.extBut _ _ D.TOz.symm (s2.extBut _ _ D.i1z.symm g));have ne:e≠z:=λx=>by subst x;rw[p] at he;cases he;simp at H
  exact Yb p Z5 λR _ I=>q R e (λc o J P f t x=>I.extBut _ _ J (K _ _ t (L.extBut _ _ P (s2.extBut _ _ f (s1.extBut _ _ J x))))) ⟨v,I.extBut _ _ ne he,H⟩
noncomputable abbrev NV(h:Heap)(l:Addr):Heap:=h.push { cls:=.type "list_iterator",data:=.fields #[.ref l,.int 0 0] }
abbrev NP(h:Heap)(l m:Addr):Heap:=(NV h l).push { cls:=.type "tuple_iterator",data:=.fields #[.ref m,.int 0 0] }
abbrev NM(h:Heap)(l m:Addr):Heap:=(NP h l m).push { cls:=.type "tuple",data:=.seq #[.ref h.objs.size,.ref (NV h l).objs.size] }
abbrev NF(h:Heap)(l m:Addr):Heap:=(NM h l m).push { cls:=.type "tuple",data:=.seq #[.none,.none] }
abbrev Ku(h:Heap)(l m:Addr):Heap:=(NF h l m).push { cls:=.type "zip",data:=.fields #[.none,.bool false,.bool false,.ref (NP h l m).objs.size,.ref (NM h l m).objs.size] }
theorem sM(l m:Addr)(xs ys:Array Value):Meets (Builtin.«zip.__new__» ⟨[.type "zip",.ref l,.ref m],[]⟩) (λ_ R s=>s.heap.IsList l xs/\s.heap.IsTuple m ys /\
  R (.ok (.ret (.ref (NF s.heap l m).objs.size))) { s with heap:=Ku s.heap l m }):=
 .of_wp λprog w A R s h=>by
  obtain⟨hp,g,d,tk,os⟩:=s;obtain⟨hl,hm,h⟩:=h;have H:=sub_zip;have e1:Heap.IsList (WM ⟨hp,g,d,tk,os⟩) l xs:=hl;have e2:Heap.IsTuple (WM ⟨hp.push { cls:=.type "list_iterator",data:=.fields #[.ref l,.int 0 0] },g,d,tk,os⟩) m ys:=Xh hm _
  wp_walk using Ye e1,Y6 e2
  exact⟨_,rfl,h⟩
theorem v9{l m:Addr}(hl:s.heap.IsList l xs)(hm:s.heap.IsTuple m ys)
  (q:∀h',mX h' (s.heap.objs.size+4) (s.heap.objs.size+2) (s.heap.objs.size+3) s.heap.objs.size (s.heap.objs.size+1) l m 0 .none->(∀c o,s.heap.get? c=some o->h'.get? c=some o)->Q (.ref (s.heap.objs.size+4)) { s with heap:=h' }):
  XJ (XO prog w) A (call (.type "zip") [.ref l,.ref m]) Q E s:=by
 refine callType_new F.called_zip Z3 (F.typeCall_zip_2 _ _) (F.newCall_zip_2 _ _) (λobj=>F.args_object_init_3 obj _ _) F.entry_zip_new (sM l m xs ys) ⟨hl,hm,?_⟩;have d:(NV s.heap l).objs.size=s.heap.objs.size+1:=RW ..;have C:(NP s.heap l m).objs.size=s.heap.objs.size+2:=by rw[RW,d]
 have n:(NM s.heap l m).objs.size=s.heap.objs.size+3:=by rw[RW,C]
 have Y:(NF s.heap l m).objs.size=s.heap.objs.size+4:=by rw[RW,n]
 have up:∀{h:Heap}{o o':Obj}{b:Addr},h.get? b=some o->(h.push o').get? b=some o:=λe=>QR _ e;have H:(Ku s.heap l m).get? (NF s.heap l m).objs.size=some _:=Q3 _ rfl;have Z:(Ku s.heap l m).get? (NM s.heap l m).objs.size=some _:=up (Q3 _ rfl);have a:(Ku s.heap l m).get? (NP s.heap l m).objs.size=some _:=up (up (Q3 _ rfl));have r:(Ku s.heap l m).get? (NV s.heap l).objs.size=some _:=up (up (up (Q3 _ rfl)));have a1:(Ku s.heap l m).get? s.heap.objs.size=some _:=up (up (up (up (Q3 _ rfl))));rw[C,n,Y] at H;rw[d,C] at a;rw[n] at Z;rw[d] at r;rw[Y];exact⟨⟨_,H,rfl⟩,q _ ⟨H,a,⟨_,_,Z⟩,⟨_,a1,rfl,rfl⟩,⟨_,r,rfl,rfl⟩⟩ λc o e=>up (up (up (up (up e))))⟩
end
def MG(K:QF)(a b:Addr):It:=
  ⟨λi H=>∃xs ys x y,dm K H a xs/\gW K H b ys/\xs[i]?=some x/\ys[i]?=some y,
   λi H v H'=>∃t x y,v=.ref t/\H t=none/\H'=upd H t (.tup [x,y])/\∀xs ys,dm K H a xs->gW K H b ys->xs[i]?=some x/\ys[i]?=some y,
   λi H=>∃xs ys,dm K H a xs/\gW K H b ys/\(xs[i]?=none\/ys[i]?=none)⟩
theorem xB{P:Program}{w:XR}{K:QF}{es:List Expr}{kk:Nat}{tp:Pos}{z TI TO a b:Addr}(D:Zs z TI TO i j a b):
  Turn P w K (.Tuple es kk tp) (MG K a b) [z,TI,TO,i,j] z (λn h=>mX h z TI TO i j a b n .none) where
 mem:=by simp
 obj:=λn h Z c hc=>by
  obtain⟨hz,hi,⟨u,v,ho⟩,⟨t,e1,_,d1⟩,⟨o2,e2,_,d2⟩⟩:=Z;simp only[QL,Rj,or_false] at hc;rcases hc with rfl|rfl|rfl|rfl|rfl
  .exact⟨_,hz,λv q=>by cases q⟩
  .exact⟨_,hi,λv q=>by cases q⟩
  .exact⟨_,ho,λv q=>by cases q⟩
  .exact⟨_,e1,λv q=>by rw[d1] at q;cases q⟩
  .exact⟨_,e2,λv q=>by rw[d2] at q;cases q⟩
 keep:=λn h h' Z k=>by obtain⟨hz,hi,⟨u,v,ho⟩,⟨t,e1,f⟩,⟨o2,e2,N⟩⟩:=Z;exact⟨k _ Z5 _ hz,k _ Z5 _ hi,⟨u,v,k _ Z5 _ ho⟩,⟨t,k _ Z5 _ e1,f⟩,⟨o2,k _ Z5 _ e2,N⟩⟩
 item:=by
  intro X V U hK hc n pins s Y H E I hf Z hg;subst V U hK;obtain⟨xs,ys,x,y,R,J,hx,hy⟩:=hg;obtain⟨its,rv,p,_⟩:=I.list R;obtain⟨L,Q,p',_⟩:=I.tuple J;obtain⟨u,hu,ru⟩:=rv.get hx;obtain⟨v,hv,rv'⟩:=Q.get hy;have G:s.TypeIs (.ref z) "zip" := ⟨_,Z.hz,rfl⟩
  unfold pyNext;refine XH (wpAny_attempt (Yg (name:=UU "__next__") G Ur (Yp Ur G WN
   (BA D Z p.isList (show s.heap.IsTuple b L.toArray from p') (x:=u) (y:=v) (by simpa using hu) (by simpa using hv) λh' Z' T' keep=>XN ?_) (WE _))))
  refine⟨_,rfl,Yz (s:={ s with heap:=h' }) Z'.hz λh2 hz2 sb=>?_⟩;have ch:∀c∈[z,TO,i,j],c∈[z,TI,TO,i,j]:=λc hc=>by simp only[QL,Rj,or_false] at hc ⊢;rcases hc with e|e|e|e<;>simp[e]
  have S:∀c o,c∉[z,TO,i,j]->s.heap.get? c=some o->h2.get? c=some o:=λc o hc e=>by simp only[QL,Rj,or_false,not_or] at hc;exact sb.extBut c o hc.1 (keep c o hc.1 hc.2.1 hc.2.2.1 hc.2.2.2 e)
  have l:∀c o,s.heap.get? c=some o->c≠s.heap.objs.size:=λc o e=>Rl (QZ e);have C:∀c o,H c=some o->c∉[z,TO,i,j]:=λc o e hc=>by have:=(hf c (ch c hc)).1;rw[e] at this;cases this
  have hn:H s.heap.objs.size=none:=I.fresh;have nzT:s.heap.objs.size≠z:=(l _ _ Z.hz).symm;have I2:Inv X pins Y (upd H s.heap.objs.size (.tup [x,y])) { s with heap:=h2,gens:=s.gens,drawn:=s.drawn,toks:=s.toks }:=by
   refine I.step (ch:=[z,TO,i,j]) (λc hc=>?_) (λc o _ _ hc e _=>S c o hc e) (λc o _ _ hc e _=>⟨o.slots,S c o hc e⟩) (λc o _ e q=>by rw[ao (l c o e)];exact q) (λc o hc e=>⟨o,S c o hc e⟩)
    (λc q e=>by rw[ao (aD e hn)];exact e) (λc o q e=>by rw[ao (aD e hn)];exact e) (λc q e=>⟨#[],by rw[ao (aD e hn),e];simp⟩) (λm hm=>?_) (λc o e=>?_) I.bare
   .obtain⟨f0,f1,f2,f3,f4,f5⟩:=hf c (ch c hc);exact⟨f3,f1,f4,f5⟩
   .obtain⟨o,g,F,ho,r⟩:=hm;exact⟨o,g,F,S _ o (λhc=>(hf _ (ch _ hc)).2.1 rfl) ho,r⟩
   .by_cases hc:c=s.heap.objs.size
    .subst hc;rw[aI] at e;cases e;refine⟨(show 2<=sizeLine by decide),[u,v],.cons ru (.cons rv' .nil),?_⟩;exact⟨_,sb.extBut _ _ nzT T',rfl,_,rfl,rfl⟩
    .rw[ao hc] at e;refine(I.hok c o e).iE (λd w hd q=>S d w ?_ q) (λd q=>by rw[ao (aD q hn)];exact q) λd q r=>by rw[ao (aD r hn)];exact r
     rcases hd with rfl|hd
     .exact C _ _ e
     .exact C _ _ hd
  have B:∀c o,c≠z->h'.get? c=some o->h2.get? c=some o:=λc o hc e=>sb.extBut c o hc e;obtain⟨_,hi',⟨u',v',ho'⟩,⟨t,e1,f⟩,⟨o2,e2,N⟩⟩:=Z';refine⟨.ref s.heap.objs.size,_,I2,rfl,⟨s.heap.objs.size,x,y,rfl,hn,rfl,λxs' ys' g F=>?_⟩,⟨hz2,B _ _ D.TIz hi',⟨u',v',B _ _ D.TOz ho'⟩,⟨t,B _ _ D.i1z e1,f⟩,⟨o2,B _ _ D.i2z e2,N⟩⟩,λc hc=>?_⟩
  .rw[I.fR g R,I.kg F J];exact⟨hx,hy⟩
  .rw[ao]
   .exact(hf c hc).1
   .rintro rfl;obtain⟨hz,hi,⟨u,v,ho⟩,⟨t,e1,_⟩,⟨o2,e2,_⟩⟩:=Z;simp only[QL,Rj,or_false] at hc;rcases hc with q|q|q|q|q
    .rw[<-q] at hz;exact l _ _ hz rfl
    .rw[<-q] at hi;exact l _ _ hi rfl
    .rw[<-q] at ho;exact l _ _ ho rfl
    .rw[<-q] at e1;exact l _ _ e1 rfl
    .rw[<-q] at e2;exact l _ _ e2 rfl
 done:=by
  intro X V U hK hc n pins s Y H E I hf Z hg;subst V U hK;obtain⟨xs,ys,R,J,O⟩:=hg;obtain⟨its,rv,p,_⟩:=I.list R;obtain⟨L,Q,p',_⟩:=I.tuple J;have G:s.TypeIs (.ref z) "zip" := ⟨_,Z.hz,rfl⟩
  have ch:∀c∈[z,TO,i,j],c∈[z,TI,TO,i,j]:=λc hc=>by simp only[QL,Rj,or_false] at hc ⊢;rcases hc with e|e|e|e<;>simp[e]
  unfold pyNext;refine XH (wpAny_attempt (Yg (name:=UU "__next__") G Ur (Yp Ur G WN
   (Bz (A:=X.A.in1) (I.ok.hd hc) D Z p.isList (show s.heap.IsTuple b L.toArray from p') (O.imp (λq=>by simpa using rv.none_of q) (λq=>by simpa using Q.none_of q)) λh' e keep ⟨o,ho,hcl⟩=>?_) (WE _))))
  refine XH (wpAny_isInstance (T:= "StopIteration") (b:=true) ⟨o,ho,hcl⟩ isSubtype_stop (XN ⟨rfl,?_⟩));have S:∀c o,c∉[z,TO,i,j]->s.heap.get? c=some o->h'.get? c=some o:=λc o hc e=>by simp only[QL,Rj,or_false,not_or] at hc;exact keep c o hc.1 hc.2.1 hc.2.2.1 hc.2.2.2 e
  have C:∀c o,H c=some o->c∉[z,TO,i,j]:=λc o e hc=>by have:=(hf c (ch c hc)).1;rw[e] at this;cases this
  refine I.step (g':=s.gens) (d':=s.drawn) (t':=s.toks) (ch:=[z,TO,i,j]) (λc hc=>?_) (λc o _ _ hc e _=>S c o hc e) (λc o _ _ hc e _=>⟨o.slots,S c o hc e⟩) (λc o _ e q=>q) (λc o hc e=>⟨o,S c o hc e⟩)
   (λc q e=>e) (λc o q e=>e) (λc q e=>⟨#[],by rw[e];simp⟩) (λm hm=>?_) (λc o e=>?_) I.bare
  .obtain⟨f0,f1,f2,f3,f4,f5⟩:=hf c (ch c hc);exact⟨f3,f1,f4,f5⟩
  .obtain⟨o,g,F,ho,r⟩:=hm;exact⟨o,g,F,S _ o (λhc=>(hf _ (ch _ hc)).2.1 rfl) ho,r⟩
  .refine(I.hok c o e).iE (λd w hd q=>S d w ?_ q) (λd q=>q) λd q r=>r;rcases hd with rfl|hd
   .exact C _ _ e
   .exact C _ _ hd
 self:=λ_ _ _ _ _ Z q=>YK Z.hz q
end L2
set_option maxHeartbeats 1000000
namespace M
open PySem L2
section
variable{X:Cx}{E:XK}
def FW(K:QF):R2:=λx y H Q=>∃l k xs,x=.ref l/\y=.int k/\dm K H l xs /\ -(2^63)<=k/\k<2^63/\xs.length*k.toNat<=sizeLine/\∀p,H p=none->Q (.ref p) (upd H p (.lst (QW k.toNat xs).flatten))
theorem DL:iR X (Yj .Mult) (FW X.K):=by
 intro pins s Y H x y v u Q I w P h;obtain⟨l,k,xs,rfl,rfl,G,h1,h2,hz,q⟩:=h;cases w;obtain⟨t,rfl⟩:=P;obtain⟨b,r,A,_⟩:=I.list G;obtain⟨⟨i,U,D,l1⟩,n,e,o,z,C⟩:=id A;subst o C z;have hl:=r.length;have Z:b.toArray.size*k.toNat<=sizeLine:=by rw[QO,<-hl];exact hz
 have p:¬ b.toArray.size*k.toNat > (2^63-1) / 8:=by
  have:(sizeLine:Nat)<=(2^63-1) / 8:=by decide
  lia
 have B:¬ (!Xi k)=true:=by rw[fitsIndex_both h1 h2];exact Rp
 have c:¬ Th (b.toArray.size*k.toNat)=true:=by rw[Bj Z];exact Rp
 have E:UC (λJ L=>J++L) #[] (QW (if b.toArray.isEmpty=true then 0 else k.toNat) b.toArray)=(QW k.toNat b).flatten.toArray:=by
  have f0:∀m:Nat,UC (λJ L=>J++L) #[] (QW m b.toArray)=(QW m b).flatten.toArray:=λm=>by have:=foldl_rep b m [];exact this
  rw[f0];cases b with
  |nil=>simp
  |cons a r'=>rw[Zu Z5]
 refine wpAny_binaryOp_repeat_ref Z3 ⟨_,e,rfl⟩ (λs'=>Zq s' k t) noFill_list_mul F.fills_int_mul W0 repeat_list F.slot_int_index.lookup
  (YU W0 (Zq s k t) F.entry_int_rmul (F.args_int_rmul_2 _ _) (lm_int_rmul_list_any k t l b.toArray n _ _)
   ⟨e,rfl,⟨_,e,rfl⟩,YU F.slot_list_mul ⟨_,e,rfl⟩ F.entry_list_mul (F.args_list_mul_2 _ _) (lm_list_mul_any l b.toArray n _ _ k t B p c) ⟨e,?_⟩⟩)
 rw[E];exact⟨.ref _,_,I.Jh (r.rep k.toNat) (by rw[len_rep,Ts];exact hz),rfl,q _ I.fresh⟩
theorem bN.rep{k:Kx}{G:Hp}{vs:List V}{as:List A}(r:bN k G vs as):∀n:Nat,bN k G (QW n vs).flatten (QW n as).flatten
 |0=>.nil
 |n+1=>by exact r.app (bN.rep r n)
noncomputable def Cc:A->A->Option Rr
 | .lst xs,.int k=>if 0<=k/\k<=1000/\xs.length<=100 then some (.nw (.lst (QW k.toNat xs).flatten)) else none
 |_,_=>none
theorem J7{K:Kx}:jc K (FW K.K) Cc:=by
 intro c Y H Z B θ x y v w a b q Q I r s bd e1 e2 N k;cases a<;>first|(cases N;done)|(cases b<;>first|(cases N;done)|skip)
 rename_i xs n
 delta Cc at N
 dsimp only at N;by_cases hc:0<=n/\n<=1000/\xs.length<=100
 .rw[Zt hc] at N;cases N;obtain⟨L,bl,D,E⟩:=Bd.Bi bd r s e1 e2;obtain⟨A,h,rfl,s1,e⟩:=D.1 xs rfl;have O:=Bd.rd bd s e2;cases O;have l1:=e.len;subst I;have hz:=Ru (WO (show h.length<=100 by lia) (show n.toNat<=1000 by lia)) oM;exact⟨A,n,h,rfl,rfl,s1,by lia,by lia,hz,λp hp=>k _ _ trivial (bl.kO hp λG H' sm q=>.lst q ((e.rep n.toNat).sm sm))⟩
 .rw[Zu hc] at N;cases N
theorem G7{a b:Expr}{ma mb:Mi Rr}{pos:Pos}(f:JE X E a ma)(d:JE X E b mb):JE X E (.BinOp a .Mult b pos) (az Cc ma mb):=lF DL J7 f d
end
end M
set_option maxHeartbeats 4000000
namespace M
open PySem L2
def L6(K:QF)(ta:TA):TI:=λY H R=>ta Y H λvs U=>∃a b xs ys,vs=[.ref a,.ref b]/\((dm K U a xs/\dm K U b ys/\R (KC K a b) U)\/(dm K U a xs/\gW K U b ys/\R (MG K a b) U))
variable{e1 e2:Expr}{p pos tp:Pos}{es:List Expr}{kk:Nat}{ma mb:Mi Rr}
section
variable{X:Cx}{E:XK}
theorem Cg{ta:TA}(S:Gl X "zip")(hm:X.mg "zip" = none)(f:PA X [e1,e2] ta)(hs:XG [e1,e2] X.env=[(false,eval e1 X.env),(false,eval e2 X.env)])(O:XG [e2] X.env=[(false,eval e2 X.env)]):
  PI X (.Tuple es kk tp) (.Call (.Name "zip" p) [e1,e2] [] pos) (L6 X.K ta):=by
 intro pins s Y H R I h;refine Xj (hV I S hm J6 (RP (cC (f pos pins s Y H _ I h) λus s1 ⟨vs,U,B,n,g⟩=>?_) (by rw[hs,O]) (by rw[O];rfl)));obtain⟨a,b,xs,ys,rfl,g⟩:=g;obtain⟨u,v,rfl,r,r'⟩:=n.two;cases r;cases r';have fin:∀{J:It}{St:Nat->Heap->Prop}{h':Heap},a<s1.heap.objs.size->b<s1.heap.objs.size->(∀c o,s1.heap.get? c=some o->h'.get? c=some o)->Zh h' (s1.heap.objs.size+4) (s1.heap.objs.size+2) (s1.heap.objs.size+3) .none->St 0 h'->
   Turn X.prog X.w X.K (.Tuple es kk tp) J [s1.heap.objs.size+4,s1.heap.objs.size+2,s1.heap.objs.size+3,s1.heap.objs.size,s1.heap.objs.size+1] (s1.heap.objs.size+4) St->R J U->XJ (XO X.prog X.w) X.A (pyIter (.ref (s1.heap.objs.size+4))) (NT X pins Y (.Tuple es kk tp) R) X.xe { s1 with heap:=h' }:=by
  intro J St h' x E keep Z L T q;have t:=B.kept (t':=s1.toks) keep;refine YK Z ⟨_,[s1.heap.objs.size+4,s1.heap.objs.size+2,s1.heap.objs.size+3,s1.heap.objs.size,s1.heap.objs.size+1],_,_,U,rfl,t,T,L,λc hc=>?_,q⟩;have z:s1.heap.objs.size<=c:=by simp only[QL,Rj,or_false] at hc;rcases hc with rfl|rfl|rfl|rfl|rfl<;>first|exact SM _ _|exact QN _
  exact B.wU z (B.hok.fresh z)
 rcases g with ⟨G,m,q⟩|⟨G,m,q⟩
 .obtain⟨j,D,C,_⟩:=B.list G;obtain⟨Q,i,y,_⟩:=B.list m;have x:a<s1.heap.objs.size:=by obtain⟨o,e,_⟩:=C.isList;exact QZ e
  have E:b<s1.heap.objs.size:=by obtain⟨o,e,_⟩:=y.isList;exact QZ e
  exact call_zip_2 C.isList y.isList λh' l F k N P V keep=>fin x E keep l (⟨l,F,⟨_,_,k⟩,N,P⟩:yY h' _ _ _ _ _ a b 0) (xx (UL x E)) q
 .obtain⟨j,D,C,_⟩:=B.list G;obtain⟨Q,i,y,_⟩:=B.tuple m;have x:a<s1.heap.objs.size:=by obtain⟨o,e,_⟩:=C.isList;exact QZ e
  have E:b<s1.heap.objs.size:=by obtain⟨o,e,_⟩:=y;exact QZ e
  exact v9 C.isList (y) λh' Z keep=>fin x E keep Z.hz Z (xB (UL x E)) q
def hZ(ma mb:Mi Rr):Mi (List A):=aS ma λx=>aS mb λy=>λZ=>match dP [x,y] Z with
 |some ([.lst as,.lst bs],O)=>some (.ok (iI as bs),O)
 |some ([.lst as,.tup bs],O)=>some (.ok (iI as bs),O)
 |_=>none
theorem ED{m n:Mi Rr}(hg:Gl X "zip")(hm:X.mg "zip" = none)(h1:JE X E e1 m)(h2:JE X E e2 n)(hs:XG [e1,e2] X.env=[(false,eval e1 X.env),(false,eval e2 X.env)])(hs2:XG [e2] X.env=[(false,eval e2 X.env)])(hs3:XG [e1,e2] X.env=(false,eval e1 X.env)::XG [e2] X.env)(hs4:XG [e2] X.env=(false,eval e2 X.env)::XG [] X.env):
  JI X E (.Tuple es kk tp) (.Call (.Name "zip" p) [e1,e2] [] pos) (hZ m n):=⟨λpins s Y H R I h=>by
 refine Cg hg hm (aX h1.p (aX h2.p cu hs4) hs3) hs hs2 pins s Y H R I ?_;obtain⟨c,Z,B,θ,o,O,ek,b,em,q⟩:=h;refine bj ek b em (λx v U H1 hv b1 em1=>?_) (da q);refine bj ek b1 em1 (λy w Z0 H2 hw b2 l=>?_) (c6 (da q));cases ef:dP [x,y] Z0 with
 |none=>simp only[ef] at l;cases l
 |some pr=>
  simp only[ef] at l;split at l
  .rename_i as bs N k;cases k;cases l;have eK:c.K=X.K:=Zx Kx.K ek;have b3:Bd c Y H2 _ ([some w,some v]++B) ([Sl.fr (.lst bs),Sl.fr (.lst as)]++θ):=(Bd.dP (rs:=[x,y]) (vs:=[v,w]) ⟨hv,hw,trivial⟩ b2 ef).1;obtain⟨L0,bl0,w0,v0⟩:=Bd.Ci (xs:=[]) (ss:=[]) rfl b3;cases w0 with
   |lst r e=>
   cases v0 with
   |lst P S=>
   rename_i pw us pv ts;refine⟨pv,pw,ts,us,rfl,.inl ⟨by rw[<-eK];exact dN (g_same _ _ _) P,by rw[<-eK];exact dN (g_same _ _ _) r,q _ H2 [some (.ref pw),some (.ref pv)] [.lst bs,.lst as] rfl (λc' j H' O F D J T i g lx b'=>?_) b3⟩⟩;have G:c'.K=X.K:=Zx Kx.K g;obtain⟨L,bl,w1,v1⟩:=Bd.Ci (B:=J) (θ:=T) lx b';cases w1 with
   |lst r e=>
   cases v1 with
   |lst P S=>
   rename_i C Q;have V:dm X.K H' pw C:=by rw[<-G];exact dN (g_same _ _ _) r
   have d:dm X.K H' pv Q:=by rw[<-G];exact dN (g_same _ _ _) P
   refine⟨λhi=>⟨Q,C,d,V,?_⟩,λa f=>?_⟩
   .unfold iI at hi;rw[QK,Sv] at hi;by_cases z:as.length<=i
    .exact .inl (RQ (by rw[S.len];exact z))
    .exact .inr (RQ (by rw[e.len];lia))
   .unfold iI at f;rw[Rc] at f;cases ez:(as.zip bs)[i]? with
    |none=>rw[ez] at f;cases f
    |some pr=>rw[ez] at f;cases f;obtain⟨za,zb⟩:=RZ.mp ez;obtain⟨t,g1,g2⟩:=S.ta za;obtain⟨u,k1,k2⟩:=e.ta zb;refine⟨⟨Q,C,t,u,d,V,g1,k1⟩,λx H2 yy=>?_⟩;obtain⟨tt,x',y',rfl,hn,rfl,A⟩:=yy;obtain⟨z1,z2⟩:=A Q C d V;rw[g1] at z1;cases z1;rw[k1] at z2;cases z2;obtain⟨b2,sm,np⟩:=bl.new (o:=.tup [t,u]) hn;exact b2.push (.tup (.inl (.inl (by rw[bE np (bl.LU hn)];exact aI))) ((bN.cons g2 (.cons k2 .nil)).sm sm))
  .rename_i as bs N k;cases k;cases l;have eK:c.K=X.K:=Zx Kx.K ek;have b3:Bd c Y H2 _ ([some w,some v]++B) ([Sl.fr (.tup bs),Sl.fr (.lst as)]++θ):=(Bd.dP (rs:=[x,y]) (vs:=[v,w]) ⟨hv,hw,trivial⟩ b2 ef).1;obtain⟨L0,bl0,w0,v0⟩:=Bd.Ci (xs:=[]) (ss:=[]) rfl b3;cases w0 with
   |tup r e=>
   cases v0 with
   |lst P S=>
   rename_i pw us pv ts;refine⟨pv,pw,ts,us,rfl,.inr ⟨by rw[<-eK];exact dN (g_same _ _ _) P,by rw[<-eK];exact fL (g_same _ _ _) r,q _ H2 [some (.ref pw),some (.ref pv)] [.tup bs,.lst as] rfl (λc' j H' O F D J T i g lx b'=>?_) b3⟩⟩;have G:c'.K=X.K:=Zx Kx.K g;obtain⟨L,bl,w1,v1⟩:=Bd.Ci (B:=J) (θ:=T) lx b';cases w1 with
   |tup r e=>
   cases v1 with
   |lst P S=>
   rename_i C Q;have V:gW X.K H' pw C:=by rw[<-G];exact fL (g_same _ _ _) r
   have d:dm X.K H' pv Q:=by rw[<-G];exact dN (g_same _ _ _) P
   refine⟨λhi=>⟨Q,C,d,V,?_⟩,λa f=>?_⟩
   .unfold iI at hi;rw[QK,Sv] at hi;by_cases z:as.length<=i
    .exact .inl (RQ (by rw[S.len];exact z))
    .exact .inr (RQ (by rw[e.len];lia))
   .unfold iI at f;rw[Rc] at f;cases ez:(as.zip bs)[i]? with
    |none=>rw[ez] at f;cases f
    |some pr=>rw[ez] at f;cases f;obtain⟨za,zb⟩:=RZ.mp ez;obtain⟨t,g1,g2⟩:=S.ta za;obtain⟨u,k1,k2⟩:=e.ta zb;refine⟨⟨Q,C,t,u,d,V,g1,k1⟩,λx H2 yy=>?_⟩;obtain⟨tt,x',y',rfl,hn,rfl,A⟩:=yy;obtain⟨z1,z2⟩:=A Q C d V;rw[g1] at z1;cases z1;rw[k1] at z2;cases z2;obtain⟨b2,sm,np⟩:=bl.new (o:=.tup [t,u]) hn;exact b2.push (.tup (.inl (.inl (by rw[bE np (bl.LU hn)];exact aI))) ((bN.cons g2 (.cons k2 .nil)).sm sm))
  .cases l⟩
def cE(m:Mi Rr)(H Y:Mi (Option Int)):Mi Rr:=aS m λx=>aS H λlo=>aS Y λhi=>λZ=>match res Z x with
 |some (.lst xs)=>some (.ok (.nw (.lst (je xs lo hi))),Z)
 |_=>none
theorem HU{e:Expr}{lo hi:Option Expr}{m:Mi Rr}{s z:Mi (Option Int)}{w:Pos}(h:JE X E e m)(hl:JP X E lo s)(R:JP X E hi z):JE X E (.Subscript e (.Slice lo hi none w) pos) (cE m s z):=
 ⟨PE.weaken (B1 Dy h.p hl.p R.p) λY H Q h=>by
  obtain⟨c,Z,B,θ,o,O,I,b,em,q⟩:=h;refine bj I b em (λx v U S r b1 P=>?_) (bQ q);refine uE I b1 P (λl Z0 g b2 i=>?_) (c6 (bQ q));refine uE I b2 i (λu Z1 y T C=>?_) (c6 (bQ q));have eK:c.K=X.K:=Zx Kx.K I;cases e1:res Z1 x with
  |none=>rw[e1] at C;cases C
  |some a=>
   rw[e1] at C;cases a with
   |lst xs=>cases C;obtain⟨L,bl,D⟩:=Bd.open T r e1;obtain⟨p,vs,rfl,s1,t⟩:=D.1 xs rfl;exact⟨p,vs,rfl,by rw[<-eK];exact s1,λj hp=>q _ _ trivial (bl.kO hp λG H' sm q=>.lst q ((HD t l u).sm sm))⟩
   | _=>cases C⟩
abbrev a9:=OJ FX yb
theorem DX{a b:Expr}(f:JE X E a ma)(d:JE X E b mb):JE X E (.BinOp a .Add b pos) (az a9 ma mb):=lF (iR.or' GJ yo) (CP.or Dl) f d
theorem Ej{a b:Expr}(f:JE X E a ma)(d:JE X E b mb):JE X E (.BinOp a .Mult b pos) (az bD ma mb):=lF EC Eg f d
end
end M
set_option maxHeartbeats 1000000
namespace M
open PySem L2 W
def fE(f:Ms)(I:List A):List Rr->Mi Rr:=λrs Z=>match cw (rs++I.map Rr.fr) Z with
 |some (as,T)=>match f (as.map rF) with
  |some (.rt s,U)=>match pz s,putL Z (rs++I.map Rr.fr) (aA as.length U) T with
   |some r,some O=>some (.ok r,O)
   |_,_=>none
  |some (.ex x,U)=>match putL Z (rs++I.map Rr.fr) (aA as.length U) T with
   |some O=>some (.error x,O)
   |none=>none
  |_=>none
 |none=>none
def Val(f:Ms)(as:List A)(a:A):Prop:=∃Z,f (as.map Sl.fr)=some (.rt (.fr a),Z)
def m9(f:Ms)(as:List A)(o:LO):Prop:=∃Z,f (as.map Sl.fr)=some (.rt (.lv o),Z)
def cX(f:Ms)(o:LO)(as:List A)(s:Sl)(o':LO):Prop:=∃Z,f (.pv o::as.map Sl.fr)=some (.rt s,.pv o'::Z)
theorem jF(as:List A)(Z:List Sl):cw (as.map Rr.fr) Z=some (as.map Sl.fr,Z):=by
 induction as generalizing Z with
 |nil=>rfl
 |cons a as m=>simp only[Rv,cw,take1,m]
theorem qc(as:List A):(as.map Sl.fr).map rF=as.map Sl.fr:=by rw[Rm];rfl
theorem jQ(S:List Sl):∀(as:List A)(ss:List Sl)(Z:List Sl),as.length=ss.length->putL S (as.map Rr.fr) ss Z=some Z
 |[],[],Z,_=>rfl
 |a::as,s::ss,Z,h=>by rw[Rv,putL,jQ S as ss Z (by simpa using h)];rfl
 |[],_::_,_,h=>by simp at h
 |_::_,[],_,h=>by simp at h
variable{f:Ms}
theorem aQ{as:List A}{a:A}(h:Val f as a)(Z:List Sl):fE f [] (as.map Rr.fr) Z=some (.ok (.fr a),Z):=by
 obtain⟨U,h⟩:=h
 delta fE
 rw[Tn,RK,jF];simp only[qc,h,pz];rw[jQ _ _ _ _ (by rw[cK,QK])]
variable{o:LO}
theorem jz{as:List A}(h:m9 f as o)(Z:List Sl):fE f [] (as.map Rr.fr) Z=some (.ok (.nw o),Z):=by
 obtain⟨U,h⟩:=h
 delta fE
 rw[Tn,RK,jF];simp only[qc,h,pz];rw[jQ _ _ _ _ (by rw[cK,QK])]
variable{i:Nat}{Z:List Sl}
theorem cG{as:List A}{o':LO}{s:Sl}{r:Rr}(h:cX f o as s o')(hr:pz s=some r)(hl:aE Z i=some o):fE f [] (.rf i::as.map Rr.fr) Z=some (.ok r,setAt Z i o'):=by
 obtain⟨U,h⟩:=h;unfold aE at hl;unfold setAt;have hi:∀s,Z[i]?=some s->(Z.set i Sl.un)[i]?=some .un:=λs e=>Q0 (QH.mp e).1;have key:∀(n:Sl)(k:LO->Sl),Z[i]?=some n->take1 (.rf i) Z=some (.lv o,Z.set i .un)->(∀s O,O[i]?=some Sl.un->rq Z (.rf i) (.pv s) O=some (O.set i (k s)))->fE f [] (.rf i::as.map Rr.fr) Z=some (.ok r,Z.set i (k o')):=by
  intro n k es l hp;unfold fE;rw[Tn,RK,cw,l];simp only[jF];have h':f (WG rF (Sl.lv o::WG Sl.fr as))=some (.rt s,.pv o'::U):=by rw[Rv,qc];exact h
  rw[h'];simp only[hr];have d:aA (Sl.lv o::WG Sl.fr as).length (.pv o'::U)=.pv o'::aA as.length U:=by rw[QU,QK];rfl
  rw[d,putL,jQ _ _ _ _ (by rw[cK])];simp only[hp _ _ (hi n es),List.set_set]
 cases es:Z[i]? with
 |none=>simp only[es] at hl;cases hl
 |some t=>
  cases t with
  |un=>simp only[es] at hl;cases hl
  |cf _=>simp only[es] at hl;cases hl
  |fr a=>simp only[es] at hl;cases hl
  |lv x=>simp only[es] at hl;cases hl;refine key _ Sl.lv es (by unfold take1;simp only[es]) λs O e=>?_;unfold rq;simp only[es,e]
  |pv x=>simp only[es] at hl;cases hl;refine key _ Sl.pv es (by unfold take1;simp only[es]) λs O e=>?_;unfold rq;simp only[es,e]
variable{G:Mg}
theorem Bh{b:Ms}{as:List A}(P:Nat->List Sl->Prop)(R:P 0 Z)(hs:∀i a Z,as[i]?=some a->P i Z->∃U Z0,G a Z=some U/\(b U=some (.nx,Z0)\/b U=some (.ct,Z0))/\P (i+1) Z0):
  ∃O,forL G b as Z=some (.nx,O)/\P as.length O:=by
 have key:∀n i Z,as.length-i=n->i<=as.length->P i Z->∃O,forL G b (as.drop i) Z=some (.nx,O)/\P as.length O:=by
  intro n;induction n with
  |zero=>
   intro i Z e hi p;have:i=as.length:=by lia
   subst this;exact⟨Z,by rw[T3];rfl,p⟩
  |succ n m=>
   intro i Z e hi p;have o:i<as.length:=by lia
   obtain⟨U,Z0,h1,h2,h3⟩:=hs i as[i] Z (by simp[o]) p;obtain⟨O,h4,h5⟩:=m (i+1) Z0 Q1 o h3;refine⟨O,?_,h5⟩;rw[SK o,forL,h1];rcases h2 with h2|h2
   .simp only[h2];exact h4
   .simp only[h2];exact h4
 simpa using key as.length 0 Z Z5 (SD _) R
theorem fX{t:Mi Bool}{e:Mi Rr}{as:List A}(P:Nat->List A->List Sl->Prop)(R:P 0 [] Z)
  (hs:∀i a acc Z,as[i]?=some a->P i acc Z->∃U,G a Z=some U/\((∃Z0 r Z1 d N,t U=some (.ok true,Z0)/\e Z0=some (.ok r,Z1)/\bR r Z1=some (d,N)/\P (i+1) (acc++[d]) N)\/∃Z0,t U=some (.ok false,Z0)/\P (i+1) acc Z0)):
  ∃ys O,dw G t e as [] Z=some (ys,O)/\P as.length ys O:=by
 have key:∀n i acc Z,as.length-i=n->i<=as.length->P i acc Z->∃ys O,dw G t e (as.drop i) acc Z=some (ys,O)/\P as.length ys O:=by
  intro n;induction n with
  |zero=>
   intro i acc Z k hi p;have:i=as.length:=by lia
   subst this;exact⟨acc,Z,by rw[T3];rfl,p⟩
  |succ n m=>
   intro i acc Z k hi p;have o:i<as.length:=by lia
   obtain⟨U,h1,h2⟩:=hs i as[i] acc Z (by simp[o]) p;rw[SK o,dw,h1];rcases h2 with ⟨Z0,r,Z1,d,N,g,l,z,c⟩|⟨Z0,g,l⟩
   .simp only[g,l,z];exact m (i+1) _ N Q1 o c
   .simp only[g];exact m (i+1) _ Z0 Q1 o l
 simpa using key as.length 0 [] Z Z5 (SD _) R
theorem om{t:Mi Bool}{b:Ms}(P:Nat->List Sl->Prop)(Q:List Sl->Prop)(hs:∀k Z,P k Z->(∃U,t Z=some (.ok false,U)/\Q U)\/∃U Z0 H,t Z=some (.ok true,U)/\(b U=some (.nx,Z0)\/b U=some (.ct,Z0))/\H<k/\P H Z0):
  ∀{n k:Nat}{Z:List Sl},P k Z->k<n->∃O,dB t b n Z=some (.nx,O)/\Q O:=by
 intro n;induction n with
 |zero=>intro k Z _ h;lia
 |succ n m=>
  intro k Z p hk;rcases hs k Z p with ⟨U,h1,h2⟩|⟨U,Z0,H,h1,h2,h3,h4⟩
  .exact⟨U,by rw[dB,h1],h2⟩
  .obtain⟨O,h5,S⟩:=m h4 Q1;refine⟨O,?_,S⟩;rw[dB,h1];rcases h2 with h2|h2
   .simp only[h2];exact h5
   .simp only[h2];exact h5
theorem uq{n:Nat}(h:n<2^9500):n<zK:=QX h (by delta zK;exact R7 Z3 Z3)
noncomputable def nm(x:Num):A:=.tup [.int x.1,.int x.2]
theorem HY(x:Num):toD (nm x)=some (.tup [.int x.1,.int x.2]):=by simp[nm,toD,j8]
theorem Hm(x y:Num):tM (nm x) (nm y)=some (decide (x=y)):=by
 delta tM
 simp only[HY]
 obtain⟨J,I⟩:=x
 obtain⟨E,Y⟩:=y
 show some ((J==E)&&((I==Y)&&true))=_
 simp[VH]
theorem oZ(i j:Int):tM (.int i) (.int j)=some (decide (i=j)):=by
 delta tM
 simp only[toD]
 show some (i==j)=_
 simp[VH]
section
variable{α β:Type}{Z:List Sl}
def my(f:A->A->Option Rr)(x y:Rr)(Z:List Sl):Option (Except Str Rr×List Sl):=match res Z x,res Z y with
 |some a,some b=>match f a b with
  |some r=>some (.ok r,Z)
  |none=>none
 |_,_=>none
def OA(f:A->Option Rr)(x:Rr)(Z:List Sl):Option (Except Str Rr×List Sl):=match res Z x with
 |some a=>match f a with
  |some r=>some (.ok r,Z)
  |none=>none
 |none=>none
theorem PL(m n:Mi Bool):eW m n Z=(match m Z with|some (.ok true,U)=>n U|some (.ok false,U)=>some (.ok false,U)|some (.error e,U)=>some (.error e,U)|none=>none):=by
 unfold eW aS;cases m Z with
 |none=>rfl
 |some p=>obtain⟨o,U⟩:=p;cases o with|error e=>rfl|ok k=>cases k<;>rfl
theorem Jy(m n:Mi Rr):mU m n Z=(match ag m Z with|some (.ok true,U)=>n U|some (.ok false,U)=>some (.ok (.fr (.bl false)),U)|some (.error e,U)=>some (.error e,U)|none=>none):=by
 unfold mU aS;cases ag m Z with
 |none=>rfl
 |some p=>obtain⟨o,U⟩:=p;cases o with|error e=>rfl|ok k=>cases k<;>rfl
theorem K0(t:Mi Bool)(m n:Mi Rr):Ma t m n Z=(match t Z with|some (.ok true,U)=>m U|some (.ok false,U)=>n U|some (.error e,U)=>some (.error e,U)|none=>none):=by
 unfold Ma aS;cases t Z with
 |none=>rfl
 |some p=>obtain⟨o,U⟩:=p;cases o with|error e=>rfl|ok k=>cases k<;>rfl
def tupK(rs:List Rr)(Z:List Sl):Option (Except Str Rr×List Sl):=match dP rs Z with
 |some (as,O)=>if as.length<=1000 then some (.ok (.fr (.tup as)),O) else none
 |none=>none
def lstK(rs:List Rr)(Z:List Sl):Option (Except Str Rr×List Sl):=match dP rs Z with
 |some (as,O)=>if as.length<=1000 then some (.ok (.nw (.lst as)),O) else none
 |none=>none
theorem Fw(m n:Ms):av m n Z=(match m Z with|some (.nx,U)=>n U|r=>r):=rfl
def Dn(i:Nat)(r:Rr)(Z:List Sl):Option (Fl×List Sl):=match xM r Z with
 |some (t,U)=>match put i t U with
  |some Z0=>some (.nx,Z0)
  |none=>none
 |none=>none
def Ou(r:Rr)(Z:List Sl):Option (Fl×List Sl):=match Ig r Z with
 |some (s,O)=>some (.rt s,O)
 |none=>none
theorem Nb(loc:Nat)(m:Ms):cq loc m Z=(match m (Z++QW loc .un) with|some (.nx,O)=>some (.rt (.fr .non),O)|some (.rt s,O)=>some (.rt s,O)|some (.ex x,O)=>some (.ex x,O)|_=>none):=by
 delta cq
 cases m (Z++QW loc .un) with
 |none=>rfl
 |some p=>obtain⟨f,U⟩:=p;cases f<;>rfl
theorem L8(m:Mi (List A))(G:Mg)(b:Ms):iG m G b Z=(match m Z with|some (.ok as,U)=>forL G b as U|some (.error e,U)=>some (.ex e,U)|none=>none):=by
 delta iG cZ
 cases m Z with
 |none=>rfl
 |some p=>
  obtain⟨o,U⟩:=p;cases o with
  |error e=>rfl
  |ok x=>rfl
def O4(r:Rr)(Z:List Sl):Option (Except Str (List A)×List Sl):=match bR r Z with
 |some (a,O)=>match Iu a with
  |some as=>some (.ok as,O)
  |none=>none
 |none=>none
def PU(r:Rr)(Z:List Sl):Option (Except Str (List A)×List Sl):=match res Z r with
 |some (.int j)=>if -(2^60)<=j/\j<2^60 then some (.ok (bP 0 j.toNat),Z) else none
 |_=>none
def gF(n:Nat)(G:Mg)(t:Mi Bool)(e:Mi Rr)(as:List A)(Z:List Sl):Option (Except Str Rr×List Sl):=if as.length<=100000 then match dw G t e as [] (Z++QW n .un) with
 |some (ys,O)=>some (.ok (.nw (.lst ys)),O.take Z.length)
 |none=>none else none
def Qr(i:Nat)(r:Rr)(Z:List Sl):Option (Except Str Rr×List Sl):=match bR r Z with
 |some (a,U)=>match aE U i with
  |some (.lst xs)=>if xs.length<=16000000 then some (.ok (.fr .non),setAt U i (.lst (xs++[a]))) else none
  |_=>none
 |none=>none
def PJ(i:Nat)(r c:Rr)(Z:List Sl):Option (Fl×List Sl):=match bR r Z with
 |some (a,U)=>match res U c,aE U i with
  |some (.int k),some (.lst xs)=>match gz xs.length k with
   |some j=>some (.nx,setAt U i (.lst (xs.set j a)))
   |none=>none
  |_,_=>none
 |none=>none
def Qn(r:Rr)(Z:List Sl):Option (Except Str Rr×List Sl):=match bR r Z with
 |some (a,O)=>some (.ok (.fr a),O)
 |none=>none
end
section
variable{Z:List Sl}
def PB(cs:List Str)(i:Nat)(f:Str)(r:Rr)(Z:List Sl):Option (Fl×List Sl):=match bR r Z with
 |some (a,U)=>match aE U i with
  |some (.obj c fs)=>if cs.contains c&&So fs.length 900 then some (.nx,setAt U i (.obj c (kL f a fs))) else none
  |_=>none
 |none=>none
def vD(cn:Str)(f:Ms)(I:List A)(rs:List Rr)(Z:List Sl):Option (Except Str Rr×List Sl):=match cw (rs++I.map Rr.fr) Z with
 |some (as,T)=>match f (.pv (.obj cn [])::as.map rF) with
  |some (.rt (.fr .non),.pv o2::Y)=>match putL Z (rs++I.map Rr.fr) (aA as.length Y) T with
   |some O=>some (.ok (.nw o2),O)
   |none=>none
  |some (.ex x,s::Y)=>match putL Z (rs++I.map Rr.fr) (aA as.length Y) T with
   |some O=>some (.error x,O)
   |none=>none
  |_=>none
 |none=>none
def Nq(cn mn:Str)(r:Rr)(Z:List Sl):Option (Except Str Rr×List Sl):=match res Z r with
 |some (.obj c fs)=>if c==cn&&(fs.lookup mn).isNone then some (.ok r,Z) else none
 |_=>none
theorem Hk(a b:A):iF a b=(oH λi j=>if j != 0&&fits 9000 j then some (.fr (.int (i.fdiv j))) else none) a b:=rfl
theorem KP(a b:A):jV a b=(oH λi j=>some (.fr (.bl (decide (j<i))))) a b:=rfl
end
noncomputable def np:Sl->Bool
 | .pv _=>false
 |_=>true
theorem uT(a:A):np (.fr a)=true:=rfl
theorem Ge(o:LO):np (.lv o)=true:=rfl
theorem E8(i:Nat)(s:Sl)(Z:List Sl):put i s Z=(match Z[i]? with|some t=>if np t=true then some (Z.set i s) else none|none=>none):=by
 delta put
 cases Z[i]? with
 |none=>rfl
 |some t=>cases t<;>rfl
def Wp(m:Ms)(Z:List Sl)(Q:Fl->List Sl->Prop):Prop:=∃f O,m Z=some (f,O)/\Q f O
section
variable{m n b:Ms}{Z U:List Sl}{Q:Fl->List Sl->Prop}
theorem Wp.st(h:m Z=some (.nx,U))(k:Wp n U Q):Wp (av m n) Z Q:=by obtain⟨f,O,e,q⟩:=k;exact⟨f,O,by rw[Fw,h];exact e,q⟩
theorem Wp.sq(k:Wp m Z λf U=>f=.nx/\Wp n U Q):Wp (av m n) Z Q:=by obtain⟨f,U,e,rfl,F,Z0,e2,q⟩:=k;exact⟨F,Z0,by rw[Fw,e];exact e2,q⟩
theorem Wp.en{f:Fl}(h:m Z=some (f,U))(q:Q f U):Wp m Z Q:=⟨_,_,h,q⟩
theorem Wp.mono{H:Fl->List Sl->Prop}(k:Wp m Z Q)(h:∀f U,Q f U->H f U):Wp m Z H:=by obtain⟨f,U,e,q⟩:=k;exact⟨f,U,e,h f U q⟩
theorem Wp.fr{m:Mi (List A)}{as:List A}(P:Nat->List Sl->Prop)(h:m Z=some (.ok as,U))(R:P 0 U)(hs:∀i a Z,as[i]?=some a->P i Z->∃U,G a Z=some U/\Wp b U λf Z0=>(f=.nx\/f=.ct)/\P (i+1) Z0)(V:∀O,P as.length O->Q .nx O):Wp (iG m G b) Z Q:=by
 obtain⟨O,h1,h2⟩:=Bh P R (λi a Z Y p=>by
  obtain⟨U,g,f,Z0,e,hf,j⟩:=hs i a Z Y p;refine⟨U,Z0,g,?_,j⟩;rcases hf with rfl|rfl
  .exact .inl e
  .exact .inr e)
 exact⟨_,O,by rw[L8,h];exact h1,V O h2⟩
theorem Wp.P1{m:Mi (List A)}(as:List A)(P:List Sl->Prop)(h:m Z=some (.ok as,U))(R:P U)(hs:∀a∈as,∀Z,P Z->∃U,G a Z=some U/\Wp b U λf Z0=>(f=.nx\/f=.ct)/\P Z0)(V:∀O,P O->Q .nx O):Wp (iG m G b) Z Q:=
 Wp.fr (λ_=>P) h R (λ_ a Z Y p=>hs a (Rw Y) Z p) V
theorem Wp.df{loc:Nat}(k:Wp m (Z++QW loc .un) λf O=>match f with | .nx=>Q (.rt (.fr .non)) O | .rt s=>Q (.rt s) O | .ex x=>Q (.ex x) O|_=>False):Wp (cq loc m) Z Q:=by
 obtain⟨f,O,e,q⟩:=k
 delta Wp
 rw[Nb,e];cases f with
 |nx=>exact⟨_,_,rfl,q⟩
 |rt s=>exact⟨_,_,rfl,q⟩
 |ex x=>exact⟨_,_,rfl,q⟩
 |bk=>exact q.elim
 |ct=>exact q.elim
theorem Val.of{as:List A}{a:A}(k:Wp f (as.map Sl.fr) λg _=>g=.rt (.fr a)):Val f as a:=by obtain⟨g,O,e,rfl⟩:=k;exact⟨O,e⟩
theorem m9.of{as:List A}(k:Wp f (as.map Sl.fr) λg _=>g=.rt (.lv o)):m9 f as o:=by obtain⟨g,O,e,rfl⟩:=k;exact⟨O,e⟩
theorem cX.of{as:List A}{R:Sl->LO->Prop}(k:Wp f (.pv o::as.map Sl.fr) λg Z=>∃s o' U,g=.rt s/\Z=.pv o'::U/\R s o'):∃s o',cX f o as s o'/\R s o':=by obtain⟨g,O,e,s,o',U,rfl,rfl,r⟩:=k;exact⟨s,o',⟨U,e⟩,r⟩
end
def Dt(n:Nat)(a:A):Prop:=∃d,toD a=some d/\D.depth d<=n
def yA(n:Nat)(as:List A):Prop:=∃ds,j8 as=some ds/\D.gu ds<=n
theorem Dt.int{n:Nat}(i:Int):Dt n (.int i):=⟨.int i,by rw[toD],by simp[D.depth]⟩
theorem yA.nil{n:Nat}:yA n []:=⟨[],by rw[j8],by simp[D.gu]⟩
theorem yA.cons{n:Nat}{a:A}{as:List A}(h:Dt n a)(k:yA n as):yA n (a::as):=by obtain⟨d,h1,h2⟩:=h;obtain⟨ds,h3,h4⟩:=k;exact⟨d::ds,by rw[j8,h1,h3],by rw[D.gu];lia⟩
theorem yA.of{n:Nat}:∀{as:List A},(∀a∈as,Dt n a)->yA n as
 |[],_=>.nil
 |a::as,h=>.cons (h a QV) (yA.of λb d=>h b (QM _ d))
theorem Dt.lst{n:Nat}{as:List A}(h:yA n as):Dt (n+1) (.lst as):=by obtain⟨ds,h1,h2⟩:=h;exact⟨.lst ds,by rw[toD,h1],by rw[D.depth];lia⟩
theorem Ao{a:A}(h:Dt 40 a):tM a a=some true:=by
 obtain⟨d,h1,h2⟩:=h
 delta tM
 simp only[h1];rw[Zt h2,D.kU]
theorem ly(n:Nat):(bP 0 n).length=n:=by simp[bP]
theorem BV{n:Nat}{a:A}(h:(bP 0 n)[i]?=some a):i<n/\a=.int i:=by
 have hi:=(QH.mp h).1;rw[ly] at hi
 delta bP at h
 rw[Rc,Ss hi] at h;simp at h;exact⟨hi,h.symm⟩
open PySem L2
section
variable{G:Mg}{b:Ms}{g:Key×A->A}{j:Nat}{Z:List Sl}{kvs:List (Key×A)}
theorem El{a:A}(h:Z[j]?=some (.fr a)):ai j Z=some (.ok (.fr a),Z):=by unfold ai;rw[h]
end
variable{rs:List Rr}{cn:Str}
section
variable{α β:Type}{Z S U Z0 Z1:List Sl}{m n mk:Mi Rr}{t u:Mi Bool}{x y r rk:Rr}
theorem bk{m:Mi α}{f:α->Mi β}{x:α}{q:Option (Except Str β×List Sl)}(h:m Z=some (.ok x,U))(k:f x U=q):aS m f Z=q:=by unfold aS;rw[h];exact k
theorem sk{m:Mi α}{f:α->Ms}{x:α}{q:Option (Fl×List Sl)}(h:m Z=some (.ok x,U))(k:f x U=q):cZ m f Z=q:=by unfold cZ;rw[h];exact k
theorem aB{I:List A}{ms:Mi (List Rr)}(h:ms Z=some (.ok rs,U))(c:fE f I rs U=some (.ok r,Z0)):aY f I ms Z=some (.ok r,Z0):=bk h c
theorem ae{ms:Mi (List Rr)}(h:m Z=some (.ok x,U))(k:ms U=some (.ok rs,Z0)):c7 m ms Z=some (.ok (x::rs),Z0):=bk h (bk k rfl)
theorem ah{f:A->A->Option Rr}(h:m Z=some (.ok x,U))(k:n U=some (.ok y,Z0))(o:my f x y Z0=some (.ok r,Z1)):az f m n Z=some (.ok r,Z1):=bk h (bk k o)
theorem fG{f:A->Option Rr}(h:m Z=some (.ok x,U))(o:OA f x U=some (.ok r,Z0)):aJ f m Z=some (.ok r,Z0):=bk h o
theorem n0(h:m Z=some (.ok x,U))(o:Qn x U=some (.ok r,Z0)):nA m Z=some (.ok r,Z0):=bk h o
theorem fg{ms:Mi (List Rr)}(h:ms Z=some (.ok rs,U))(o:tupK rs U=some (.ok r,Z0)):fQ ms Z=some (.ok r,Z0):=bk h o
theorem kz{ms:Mi (List Rr)}(h:ms Z=some (.ok rs,U))(o:lstK rs U=some (.ok r,Z0)):dj ms Z=some (.ok r,Z0):=bk h o
theorem CK{I:List A}{ms:Mi (List Rr)}(h:ms Z=some (.ok rs,U))(c:vD cn f I rs U=some (.ok r,Z0)):oJ cn f I ms Z=some (.ok r,Z0):=bk h c
theorem jC{mn:Str}(h:m Z=some (.ok x,U))(c:Nq cn mn x U=some (.ok r,Z0)):bH cn mn m Z=some (.ok r,Z0):=bk h c
theorem au{b:Bool}(h:m Z=some (.ok (.fr (.bl b)),U)):ag m Z=some (.ok b,U):=bk h rfl
theorem fJ{b:Bool}(h:t Z=some (.ok b,U)):gr t Z=some (.ok (!b),U):=bk h rfl
theorem ye(h:t Z=some (.ok true,U)):iT t u Z=some (.ok true,U):=bk h rfl
theorem cU{b:Bool}(h:t Z=some (.ok false,U))(k:u U=some (.ok b,Z0)):iT t u Z=some (.ok b,Z0):=bk h k
theorem iw(h:t Z=some (.ok false,U)):eW t u Z=some (.ok false,U):=bk h rfl
theorem cL{b:Bool}(h:t Z=some (.ok true,U))(k:u U=some (.ok b,Z0)):eW t u Z=some (.ok b,Z0):=bk h k
theorem kX(h:m Z=none)(k:n Z=some (.ok r,U)):aM m n Z=some (.ok r,U):=by unfold aM;rw[h];exact k
theorem bI(h:m Z=some (.ok r,U)):aM m n Z=some (.ok r,U):=by unfold aM;rw[h]
theorem By(h:m Z=some (.ok r,U))(k:Dn i r U=some (.nx,Z0)):aF i m Z=some (.nx,Z0):=sk h k
theorem aK{f:Fl}(h:m Z=some (.ok r,U))(k:Ou r U=some (f,Z0)):bB m Z=some (f,Z0):=sk h k
theorem eM(h:m Z=some (.ok r,U)):dC m Z=some (.nx,U):=sk h rfl
theorem Mx{a:Sl}(h:xM r Z=some (a,U))(k:U[i]?=some s)(hn:np s=true):Dn i r Z=some (.nx,U.set i a):=by unfold Dn;rw[h];dsimp only;rw[E8,k];dsimp only;rw[Zt hn]
end
end M
namespace W
open PySem L2
noncomputable def zB(o:Obj):Bool:=match o.data with
 | .freed=>false
 |_=>true
def oC:List Nat->List Obj->QF->QF
 |a::as,o::os,K=>oC as os (match zB o with|true=>(a,o)::K|false=>K)
 |_,_,K=>K
def ig(h:Heap):QF:=match h.get? XT with
 |some o=>(XT,o)::oC (Q4 h.objs.size) h.objs.toList []
 |none=>[]
theorem n8{o:Obj}{a:Addr}:∀{K:QF},K.lookup a=some o->(a,o)∈K
 |(b,u)::K,e=>by
  rw[QY] at e;split at e
  .rename_i q;cases e;rw[Zy.mp q];exact QV
  .exact QM _ (n8 e)
theorem qR{h:Heap}:∀{as:List Nat}{os:List Obj}{K:QF},(∀(i a:Nat)(o:Obj),as[i]?=some a->os[i]?=some o->h.objs[a]?=some o)->(∀(a:Nat)(o:Obj),(a,o)∈K->h.get? a=some o)->∀a o,(a,o)∈oC as os K->h.get? a=some o
 |[],_,K,_,k=>by delta oC;exact k
 |_::_,[],K,_,k=>by delta oC;exact k
 |a::as,o::os,K,e,k=>by
  unfold oC;refine qR (λi b u h1 h2=>e (i+1) b u h1 h2) ?_;cases c:zB o with
  |false=>exact k
  |true=>
   intro b u m;rcases QL.mp m with m|m
   .cases m
    delta Heap.get?
    rw[e 0 a o rfl rfl];obtain⟨Q,T,q,H⟩:=o;cases q<;>first|rfl|cases c
   .exact k b u m
theorem mJ(h:Heap):(ig h).In h:=λa o e=>by
 have m:=n8 e;unfold ig at m;split at m
 .rename_i o' C;rcases QL.mp m with m|m
  .cases m;exact C
  .refine qR (λi b u h1 h2=>?_) (λ_ _ q=>by cases q) a o m;have hi:=(QH.mp h1).1 |> λq=>by rwa[TJ] at q
   rw[Ss hi] at h1;cases h1;rw[<-Vw];exact h2
 .cases m
noncomputable def Lh(K:QF)(n:Str):Option (Str×Str×Arguments×Zc×Scope×Addr×List (Str×Addr)×Value×Addr×Bool):=
 match Vg K XT n with
 | some (some (.ref f))=>(match K.lookup f with
  |some ⟨_,_,.func d,_⟩=>some (d.name,d.qualname,d.params,d.body,d.scope,d.globals,d.closure,d.defaults,d.builtins,Ug K d.code n&&Sa K (.ref f))
  | _=>none)
 |_=>none
def Ky(n:Str)(st:Stmt):Option (Str×Str×Arguments×Zc×Scope×Addr×List (Str×Addr)×Value×Addr×Bool):=some (n,n,dY st,.stmts (fw st),bh st,XT,[],.none,YM,true)
noncomputable def Ow(K:QF)(a:Addr)(i j:Int):Bool:=match K.lookup a with
 | some ⟨.type "tuple",none,.seq its _,_⟩=>(match its.toList with
  |[.int x _,.int y _]=>x==i&&y==j
  | _=>false)
 |_=>false
def Kp(ds:List (Str×Stmt))(c:QF->Bool)(K:QF):=(ds.map λx=>Lh K x.1,c K)
def Kq(ds:List (Str×Stmt)):List (Option (Str×Str×Arguments×Zc×Scope×Addr×List (Str×Addr)×Value×Addr×Bool))×Bool:=(ds.map λx=>Ky x.1 x.2,true)
def hk(ds:List (Str×Stmt))(c:QF->Bool):Wx where
 α:=List (Option (Str×Str×Arguments×Zc×Scope×Addr×List (Str×Addr)×Value×Addr×Bool))×Bool
 obs:=λs=>Kp ds c (ig s.heap)
 val:=λ_=>Kq ds
 says:=λ_ h=>∃K:QF,Kp ds c K=Kq ds/\K.In h
 of:=λ_ s e=>⟨ig s.heap,e,mJ _⟩
 keeps:=λ_ _ _ ⟨K,e,i⟩ k=>⟨K,e,i.keeps k⟩
noncomputable def Np(p:Program):List Stmt:=p.main.body.filter λs=>match s with | .FunctionDef n ..=>n==("law" : Str)|_=>false
noncomputable def LM:Stmt->List Str
 | .FunctionDef n ..=>[n]
 | .ClassDef n ..=>[n]
 | .Assign [.Name n _] _ _=>[n]
 |_=>[]
def My(p:Program):Program:={ p with main:={ p.main with body:=Np p } }
def vW(p:Program):List Str:=(p.main.body.flatMap LM).filter λn=>n != ("law" : Str)
open PySem PySem.W PyProof.Rows
noncomputable abbrev E5:=Xk
noncomputable abbrev sH:=Xl
noncomputable abbrev MI:=Xm
noncomputable abbrev yD:=Xn
noncomputable abbrev FC:=Xo
noncomputable abbrev Fs:=Xp
noncomputable abbrev AG:=Xq
theorem Aa:denote=E5:=Xr
theorem nY:YL=sH:=Xs
theorem EL:stepOk=MI:=Xu
theorem xq:stepT=yD:=Xv
theorem Bx:importEnds=FC:=Xw
theorem AA:fenceModules?=Fs:=Xx
theorem wI:openSeen=AG:=Xy
def A7(p:Program)(w:XR)(Z:Nat)(q:Option Value):Nat->Zk->Thread->Option Zk
 |0,_,_=>none
 |m+1,s,t=>match through t with
  |true=>some s
  |false=>match MI Z q t with
   |false=>none
   |true=>match yD (E5 sH) p w s t with
    |some (s',t')=>A7 p w Z q m s' t'
    |none=>none
theorem uL{p:Program}{w:XR}{Z:Nat}{H:Option Value}:∀{m:Nat}{s s2:Zk}{t:Thread},A7 p w Z H m s t=some s2->topRun YL p w Z H m s.abs t=some s2.abs
 |0,_,_,_,e=>by cases e
 |m+1,s,s2,t,e=>by
  unfold A7 at e;rw[<-EL,<-xq,<-Aa,<-nY] at e;unfold topRun;cases Y:through t with
  |true=>rw[Y] at e;cases e;rfl
  |false=>
   rw[Y] at e;cases a:stepOk Z H t with
   |false=>rw[a] at e;cases e
   |true=>
    rw[a] at e;cases es:stepT (denote YL) p w s t with
    |none=>rw[es] at e;cases e
    |some q=>rw[es] at e;rw[stepT_spec es];exact uL e
noncomputable def Kr:List Obj->Nat->BT->Option BT
 |[],_,t=>some t
 |o::os,n,t=>match ((t.ins n o).get n).isSome with
  |true=>Kr os (n+1) (t.ins n o)
  |false=>none
theorem Bp(l:Life):∀{os:List Obj}{n:Nat}{t t':BT},Kr os n t=some t'->absHeap t' (n+os.length) l=⟨(absHeap t n l).objs++os.toArray,l⟩
 |[],n,t,t',e=>by cases e;rfl
 |o::os,n,t,t',e=>by
  unfold Kr at e;cases C:((t.ins n o).get n).isSome with
  |false=>rw[C] at e;cases e
  |true=>
   rw[C] at e;have i:=Bp l e;rw[absHeap_ins C] at i;have e2:n+1+os.length=n+(o::os).length:=by rw[QU];lia
   rw[<-e2,i];show Heap.mk (((absHeap t n l).objs.push o)++os.toArray) l=_;simp
theorem zG{h:Heap}{t:BT}(e:Kr h.objs.toList 0 .nil=some t):absHeap t h.objs.size h.life=h:=by have i:=Bp h.life e;rw[Uj,Us] at i;rw[i];obtain⟨objs,l⟩:=h;show Heap.mk (#[]++objs.toList.toArray) l=_;simp
def GR(p:Program)(w:XR)(N:Nat)(s₀:Shared):Option Shared:=match s₀.heap.isNs XT&&s₀.gens.size==0 with
 |true=>match Kr s₀.heap.objs.toList 0 .nil with
  |some t=>(A7 p w s₀.heap.objs.size (s₀.heap.nsMap XT "__annotations__") N ⟨t,s₀.heap.objs.size,s₀.heap.life,s₀.gens,s₀.drawn,s₀.toks,s₀.os⟩ (topStub p)).bind λq=>match staticsOk (importedModules p.main.body) s₀.heap q.abs.heap&&namesBound p q.abs.heap&&gensDone q.abs&&laidKept s₀.heap q.abs.heap with
   |true=>some q.abs
   |false=>none
  |none=>none
 |false=>none
variable{p:Program}{w:XR}{N:Nat}{s:Shared}
theorem CV{s₀:Shared}(e:GR p w N s₀=some s):topFrom YL p w N s₀=some s:=by
 delta GR at e
 delta topFrom
 cases e1:s₀.heap.isNs XT&&s₀.gens.size==0 with
 |false=>rw[e1] at e;cases e
 |true=>
  rw[e1] at e;cases e2:Kr s₀.heap.objs.toList 0 .nil with
  |none=>rw[e2] at e;cases e
  |some t=>
   rw[e2] at e;simp only at e;cases G:A7 p w s₀.heap.objs.size (s₀.heap.nsMap XT "__annotations__") N ⟨t,s₀.heap.objs.size,s₀.heap.life,s₀.gens,s₀.drawn,s₀.toks,s₀.os⟩ (topStub p) with
   |none=>rw[G] at e;cases e
   |some q=>
    rw[G] at e;have k:=uL G;have Z:WH ⟨t,s₀.heap.objs.size,s₀.heap.life,s₀.gens,s₀.drawn,s₀.toks,s₀.os⟩=s₀:=by
     delta WH
     rw[zG e2]
    rw[Z] at k;rw[k];exact e
def v5(p:Program)(w:XR)(N:Nat):Option Shared:=((FC sH (opening p) w N (start (opening p)).1 (start (opening p)).2).bind (Fs p)).bind (GR p w N)
theorem z8(e:v5 p w N=some s):openEnds YL p w N=some s:=by
 delta v5 at e
 delta openEnds fencedOpening
 rw[<-Bx,<-nY,<-AA] at e
 cases e1:(importEnds YL (opening p) w N (start (opening p)).1 (start (opening p)).2).bind (fenceModules? p) with
 |none=>rw[e1] at e;cases e
 |some n=>rw[e1] at e;exact CV e
theorem Ah{q:Program}{loose:List Str}{Xt:Shared->Bool}{α:Type}{Yf:Shared->α}{Ya:XR->α}
  (h:∀w,Option.map (λs=>(AG q loose (importedModules p.main.body) Xt true s,Yf s)) (v5 p w N)=some (openGood q loose,Ya w)):LeftO p q loose Xt Yf Ya N:=λw=>by
 have h:=h w;rw[<-wI] at h;cases e:v5 p w N with
 |none=>rw[e] at h;cases h
 |some s=>rw[e] at h;rw[z8 e];exact h
end W
namespace L2
open PySem PySem.Spec PyProof.Rows
section
variable{P:Program}{w:XR}{K:QF}{mg:Str->Option Value}{base:Heap}{dV:Value}
theorem pH.Qg{CX:qr}{x qual:Str}{st:Stmt}{f:Addr}{fd:XX}{N ps:List Str}{k:Nat}{sp:Sp}(F:pH K x qual st f fd dV)(S:j0 N ps (bh st))(len:∀vs H Q E,sp vs H Q E->vs.length=ps.length)
  (X:∀(cdv:Value)(A:XU)(outer:List Env)(s:Shared)(H:Hp)(vs:List V)(Q:VK)(E:XK),cY k (A.deeper (YZ qual (bh st) s.heap.objs.size f cdv))->sp vs H Q E->
   ∃t,qN (tS CX P w K mg base N qual (bh st) f cdv A outer s H E) (fw st) t/\t { nx:=λ_ H'=>Q .non H',rt:=Q } (start N vs) H):dJ P w K mg base CX (k+1) f fd ps sp:=by
 obtain⟨oc,od,kV,doc,pm,an,cdv,ct,osl,rfl,d,R⟩:=F.ex;exact Lf d R S len λA outer s H vs Q E hr L=>X cdv A outer s H vs Q E hr L
end
end L2
namespace M
open PySem L2
section
variable{X:Cx}{E:XK}
theorem Cu{CX:qr}{P:Program}{w:XR}{K:QF}{mg:Str->Option Value}{base:Heap}{dV:Value}{x qual:Str}{st:Stmt}{f:Addr}{fd:XX}{N ps:List Str}{k:Nat}{m:Ms}(F:pH K x qual st f fd dV)(S:j0 N ps (bh st))
  (d:∀(cdv:Value)(A:XU)(outer:List Env)(s:Shared)(H:Hp)(E:XK),cY k (A.deeper (Xz qual (bh st) s.heap.objs.size f cdv))->
   rb (tS CX P w K mg base N qual (bh st) f cdv A outer s H E) E (fw st) m):dJ P w K mg base CX (k+1) f fd ps (jb ⟨K,mg,P,w⟩ ps.length (cq (N.length-ps.length) m)):=
 F.Qg S (λvs H Q E h=>h.1) λcdv A outer s H vs Q E hr h=>by
  obtain⟨hn,c,Z,f,O,l,G,e1,b,em,q⟩:=h;refine⟨_,(d cdv A outer s H E hr).p,?_⟩;have bs:=b.start N G;rw[hn] at bs
  delta cq at em
  cases e:m (Z++QW (N.length-ps.length) .un) with
  |none=>rw[e] at em;cases em
  |some p=>
   obtain⟨r,U⟩:=p;rw[e] at em;refine⟨c,_,[],[],r,U,l,bs,e,?_⟩;have bk:∀{j:St}{H':Hp}{J:St}{T:List Sl},Bd c j H' U J T->Bd c (vs.map some) H' (aA vs.length U) J T:=λI=>by have:=I.back;rw[G,QK] at this;exact this
   cases r with
   |nx=>cases em;exact λj H' I=>q .non H' (λo z=>by cases z) ((bk I).push λ_=>.non)
   |rt s=>cases em;exact λv j H' hs I=>q v H' hs (bk I)
   |ex x=>cases em;exact λC j H' hm I=>q C H' hm (bk I)
   |bk=>cases em
   |ct=>cases em
noncomputable def B7:qr:=λ_ _ _ _ _ _=>False
noncomputable def sA:Ms:=λ_=>none
theorem Dj{s:Stmt}:JS X E s sA:=⟨λpins s Y H D I h=>by obtain⟨c,Z,B,θ,f,O,e,b,em,q⟩:=h;cases em⟩
end
end M
namespace W
open PySem L2
theorem xr{CX:qr}{l:V3}{n k:Nat}{q:Program}{loose:List Str}{XP:(Str->Option Value)->Heap->Prop}{YP:XR->Heap->Prop}{d:DefRec}{x:Str}{sp:QF->Sp}
  (hn:l.most=some n)(E:n<=sizeLine)(I:d.params.defaults=[])(hr:cY k YV)
  (F:∀(w:XR)(mg:Str->Option Value)(B:Addr)(h:Heap),YP w h->h.Ns XT mg->mg d.name=some (.ref B)->
   ∃K:QF,K.In h/\∃fd:XX,(∀(s:Shared)(u:Value),YR s fd ⟨[u],[]⟩ [(x,u)])/\∀base:Heap,K.In base->base.Ns XT mg->dJ l.prog w K mg base CX k B fd [x] (sp K))
  (hx:∀l H s e s',CX l H s (λ_ _ _=>False) e s'->False) (L:∀(K:QF)(H:Hp)(a:Addr)(ns:List Int),ns.length<=n->HE H->dm K H a (ns.map V.int)->sp K [.ref a] H (λv _=>v=.bl true) λ_ _ _=>False):
  Wh q loose XP YP l.row.toRowW d [] (λf vs=>VV f vs):=by
 refine Att.rh hn I λw s₀ Z mg mb B o pm cd doc a vs ns G Y ho hd R X p c y J=>?_;obtain⟨K,i,fd,A,C⟩:=F w mg B _ Y G.T.g X;exact zO i G.T.g G.T.b G.T.builtins G.T.nolimit J p c (Ru y E) hr C A (λH D j=>L K H a ns y D j) λH e s' z=>hx _ _ _ _ _ z
end W
namespace M
open PySem L2
structure FI where
 n:Nat
 m:Ms
 mu:List Bool
 df:List A
 hf:Bool
structure Tb where
 fns:List (Str×FI)
 cst:List (Str×A)
 exs:List Str
 kit:List (Str×List (Str×Bool))
 exm:List (Str×List Str)
 fld:List (Str×List Str)
 fM:List (Str×FI)
 mts:List (Str×Str×FI)
structure Sc where
 N:List Str
 nm:List (Str×NameKind)
 di:List Str
 ca:List Str
 hd:Bool
 lv:List Str
 tp:Bool:=false
noncomputable def Oo(s:Sc):Sc:={ s with tp:=false }
noncomputable def af{α β:Type}(x:Option α)(f:α->Option β):Option β:=match x with
 |some a=>f a
 |none=>none
noncomputable def dd{α:Type}(b:Bool)(x:Option α):Option α:=match b with
 |true=>x
 |false=>none
variable{α:Type}
theorem aa{β:Type}{x:Option α}{f:α->Option β}{y:β}(h:af x f=some y):∃a,x=some a/\f a=some y:=by
 cases x with
 |none=>cases h
 |some a=>exact⟨a,rfl,h⟩
theorem aj{b:Bool}{x:Option α}{y:α}(h:dd b x=some y):b=true/\x=some y:=by
 cases b with
 |false=>cases h
 |true=>exact⟨rfl,h⟩
def qq(s:Sc)(x:Str)(k:NameKind):Bool:=s.nm.lookup x==some k
def Cj(s:Sc)(x:Str):Bool:=qq s x .local || qq s x .cell || qq s x .free
def sZ(s:Sc)(x:Str):Bool:=qq s x .local || qq s x .cell
noncomputable def okN(x:Str):Bool:=!(x==("__debug__" : Str))&&!(x==("__classdict__" : Str))
def nD(s:Sc)(x:Str):Bool:=qq s x .globalImplicit&&okN x
def gz(x:Str):List Str->Nat->Option Nat
 |[],_=>none
 |y::ys,i=>if x==y then some i else gz x ys (i+1)
theorem mS{x:Str}:∀{N:List Str}{k i:Nat},gz x N k=some i->∃j,i=k+j/\N[j]?=some x
 |[],_,_,h=>by cases h
 |y::ys,k,i,h=>by
  unfold gz at h;split at h
  .rename_i e;cases h;exact⟨0,rfl,by rw[Zy.mp e];rfl⟩
  .obtain⟨j,e1,e2⟩:=mS h;exact⟨j+1,by lia,by simpa using e2⟩
def slot(s:Sc)(x:Str):Option Nat:=dd (Cj s x&&okN x) (gz x s.N 0)
def iS(s:Sc)(x:Str):Option Nat:=dd (sZ s x&&okN x) (gz x s.N 0)
noncomputable def D2:List Str:=["len", "isinstance", "abs", "max", "min", "int", "bool", "str", "tuple", "list", "dict", "range", "ValueError", "sorted", "all", "zip", "set", "sum", "enumerate", "any", "reversed"]
def lH(P:Program)(w:XR)(K:QF)(mg:Str->Option Value)(fd:XX)(ps:List Str)(df:List A):Prop:=∀j,j<=df.length->∃ds dvs,Binds K fd ps ds/\Vals dvs ds/\∀G,bN ⟨K,mg,P,w⟩ G dvs (df.drop j)
noncomputable def nj(fi:FI)(n:Nat):List A:=fi.df.drop (fi.df.length-(fi.n-n))
variable{w:XR}{K:QF}{mg:Str->Option Value}{fd:XX}{ps:List Str}
theorem lH.of{P:Program}{fi:FI}(h:lH P w K mg fd ps fi.df)(n:Nat):∃ds dvs,Binds K fd ps ds/\Vals dvs ds/\∀G,bN ⟨K,mg,P,w⟩ G dvs (nj fi n):=h _ (Nat.sub_le _ _)
noncomputable def fe(tb:Tb)(f:Str):List Str:=(tb.fld.filter λp=>p.2.contains f).map (·.1)
noncomputable def F5(tb:Tb)(m:Str):List (Str×FI):=tb.mts.filterMap λp=>if p.1==m then some p.2 else none
structure Gd(tb:Tb)(k:Nat)(P:Program)(w:XR)(K:QF)(mg:Str->Option Value)(base:Heap):Prop where
 fn:∀x f,tb.fns.lookup x=some f->∃a fd ps,dJ P w K mg base B7 k a fd ps (jb ⟨K,mg,P,w⟩ f.n f.m)/\mg x=some (.ref a)/\Sa K (.ref a)=true/\lH P w K mg fd ps f.df
 cs:∀x a,tb.cst.lookup x=some a->∃v u,mg x=some u/\RelV v u/\∀G,RA ⟨K,mg,P,w⟩ G v a
 bl:∀x∈D2,mg x=none
 fl:∀f c C,(fe tb f).contains c=true->mg c=some (.ref C)->hJ K C/\bV K C f
 im:∀c f,tb.fM.lookup c=some f->∃C a fd ps j,j+1<=k/\dJ P w K mg base B7 j a fd ps (jb ⟨K,mg,P,w⟩ f.n f.m)/\mg c=some (.ref C)/\Mk K C a/\lH P w K mg fd ps f.df
 mt:∀m c f,(m,c,f)∈tb.mts->∃C a fd ps,dJ P w K mg base B7 k a fd ps (jb ⟨K,mg,P,w⟩ f.n f.m)/\mg c=some (.ref C)/\hJ K C/\Meth K C m a/\lH P w K mg fd ps f.df
structure Sit(tb:Tb)(k:Nat)(X:Cx)(E:XK)(s:Sc):Prop where
 n:X.N=s.N
 nd:s.N.Nodup
 gl:∀x,s.nm.lookup x=some .globalImplicit->Gl X x
 vs:∀x,Cj s x=true->kq X.env.scope x
 lo:∀x,sZ s x=true->Loc X.env.scope x
 lc:∀x,s.nm.lookup x=some .local->X.env.scope.names.lookup x=some .local
 ce:∀x,(s.nm.lookup x=some .cell->X.env.scope.names.lookup x=some .cell)/\(s.nm.lookup x=some .free->X.env.scope.names.lookup x=some .cell\/X.env.scope.names.lookup x=some .free)
 fx:∀x,sZ s x=true->X.fn x=true\/X.env.scope.names.lookup x=some .local
 cm:s.hd=false->X.calm=true
 rm:s.hd=false->cY k X.A
 ps:s.hd=false->Passes B7 X E
 gd:Gd tb k X.prog X.w X.K X.mg X.base
variable{i:Nat}
section
variable{tb:Tb}{k:Nat}{X:Cx}{E:XK}{s:Sc}
theorem pf{x:Str}(h:okN x=true):fC x/\k9 x:=by unfold okN at h;rw[QE] at h;exact⟨by simpa using h.1,by simpa using h.2⟩
theorem Sit.slot(S:Sit tb k X E s){x:Str}(h:M.slot s x=some i):X.N[i]?=some x/\kq X.env.scope x/\fC x/\k9 x:=by
 obtain⟨h1,h2⟩:=aj h;rw[QE] at h1;obtain⟨j,e1,e2⟩:=mS h2;obtain rfl:i=j:=by lia
 exact⟨by rw[S.n];exact e2,S.vs x h1.1,(pf h1.2).1,(pf h1.2).2⟩
theorem Sit.iS(S:Sit tb k X E s){x:Str}(h:M.iS s x=some i):X.N[i]?=some x/\Loc X.env.scope x/\fC x/\(X.fn x=true\/X.env.scope.names.lookup x=some .local):=by
 obtain⟨h1,h2⟩:=aj h;rw[QE] at h1;obtain⟨j,e1,e2⟩:=mS h2;obtain rfl:i=j:=by lia
 exact⟨by rw[S.n];exact e2,S.lo x h1.1,(pf h1.2).1,S.fx x h1.1⟩
theorem Sit.glob(S:Sit tb k X E s){x:Str}(h:nD s x=true):Gl X x/\fC x:=by unfold nD qq at h;rw[QE,Zy] at h;exact⟨S.gl x h.1,(pf h.2).1⟩
end
noncomputable def notStar:Expr->Bool
 | .Starred _ _=>false
 |_=>true
variable{e:Expr}
theorem ay(h:notStar e=true)(es:List Expr)(env:Env):XG (e::es) env=(false,eval e env)::XG es env:=by cases e<;>first|rfl|cases h
theorem dz{env:Env}{pos:Pos}:∀{es:List Expr},es.all notStar=true->(XQ pos (XG es env)).any (·.1)=false
 |[],_=>rfl
 |e::es,h=>by rw[Q7,QE] at h;rw[ay h.1];show (false || (XQ pos (XG es env)).any (·.1))=false;rw[dz h.2];rfl
noncomputable def jI:Expr->Bool
 | .ListComp _ _ _ _=>false
 | .SetComp _ _ _ _=>false
 | .DictComp _ _ _ _ _=>false
 |_=>true
theorem kC(h:jI e=true)(t:Option Expr)(l:Nat)(env:Env):X4 e t l env=pure false:=by cases e<;>first|rfl|cases h
noncomputable def j9:Expr->Bool
 | .Set _ _ _=>false
 |_=>true
theorem mI(h:j9 e=true)(env:Env)(x:Value):X0 e env x=pure x:=by cases e<;>first|rfl|cases h
noncomputable def plainT:Expr->Bool
 | .UnaryOp _ _ _=>false
 | .BoolOp _ _ _=>false
 | .IfExp _ _ _ _=>false
 | .Compare _ _ _ _=>false
 |_=>true
theorem tm(h:plainT e=true)(env:Env):∀z,Zd e env z=(do let v <- z;YB e.pos;holding [v] (truthy v)):=by intro z;cases e<;>first|rfl|cases h
noncomputable def jq:Expr->Bool
 | .Slice _ _ _ _=>false
 |_=>true
theorem ue(h:jq e=true):jZ e:=by intro o i;cases e<;>first|rfl|cases h
variable{op:Yw}
theorem jO(h:j9 e=true):XY op e=false:=by cases e<;>first|rfl|cases h
theorem u4{env:Env}:∀es:List Expr,(XZ es env).length=es.length
 |[]=>rfl
 |e::es=>by cases e<;>(show (_::XZ es env).length=_;rw[QU,QU,u4 es])
theorem qF{env:Env}:∀es:List Expr,es.all notStar=true->(XZ es env).findIdx? (·.1)=none
 |[],_=>rfl
 |e::es,h=>by
  rw[Q7,QE] at h;have m:=qF (env:=env) es h.2;have e1:XZ (e::es) env=(false,assign e env)::XZ es env:=by cases e<;>first|rfl|cases h.1
  rw[e1,List.findIdx?_cons];simp[m]
variable{env:Env}
theorem Bg{es:List Expr}(h:notStar e=true):(XZ (e::es) env).map (·.2)=assign e env::(XZ es env).map (·.2):=by cases e<;>first|rfl|cases h
variable{q:Mi Rr}{pos p:Pos}{f:Str}
section
variable{tb:Tb}{k:Nat}{X:Cx}{E:XK}{s:Sc}
def zw(F:Expr->Option (Mi Rr)):List Expr->Option (Mi (List Rr))
 |[]=>some nh
 |e::es=>dd (notStar e) (af (F e) λm=>af (zw F es) λn=>some (c7 m n))
def CA(F G:Expr->Option (Mi Rr)):List Expr->List Bool->Option (Mi (List Rr))
 |[],_=>some nh
 |e::es,b::bs=>dd (notStar e) (af (match b with|true=>F e|false=>G e) λm=>af (CA F G es bs) λn=>some (c7 m n))
 |_::_,[]=>none
def NL(m:Mi (List Rr))(n:Nat):Prop:=∀Z rs O,m Z=some (.ok rs,O)->rs.length=n
theorem lh{F:Expr->Option (Mi Rr)}(h:∀e m,F e=some m->JE X E e m):∀{es:List Expr}{m:Mi (List Rr)},zw F es=some m->JA X E es m/\NL m es.length/\es.all notStar=true
 |[],m,e=>by cases e;exact⟨yL,zD,rfl⟩
 |a::es,m,e=>by obtain⟨h1,e⟩:=aj e;obtain⟨K,e1,e⟩:=aa e;obtain⟨L,e2,e⟩:=aa e;cases e;obtain⟨s,I,q⟩:=lh h e2;exact⟨uD (h _ _ e1) s (ay h1 _ _),uX I,by rw[Q7,h1,q];rfl⟩
theorem lB{F G:Expr->Option (Mi Rr)}(h:∀e m,F e=some m->JE X E e m)(g:∀e m,G e=some m->JE X E e m):∀{es:List Expr}{bs:List Bool}{m:Mi (List Rr)},CA F G es bs=some m->JA X E es m/\NL m es.length/\es.all notStar=true
 |[],_,m,e=>by cases e;exact⟨yL,zD,rfl⟩
 |_::_,[],m,e=>by cases e
 |a::es,b::bs,m,e=>by
  obtain⟨h1,e⟩:=aj e;obtain⟨K,e1,e⟩:=aa e;obtain⟨L,e2,e⟩:=aa e;cases e;obtain⟨s,I,q⟩:=lB h g e2;refine⟨uD ?_ s (ay h1 _ _),uX I,by rw[Q7,h1,q];rfl⟩;cases b
  .exact g _ _ e1
  .exact h _ _ e1
def OQ(op:BoolOp)(F:Expr->Option (Mi Rr)):List Expr->Option (Mi Rr)
 |[]=>none
 |[a]=>F a
 |a::b::r=>af (F a) λm=>af (OQ op F (b::r)) λn=>(match op with | .And=>some (mU m n) | .Or=>none)
theorem Af{op:BoolOp}{F:Expr->Option (Mi Rr)}{pos:Pos}(h:∀e m,F e=some m->JE X E e m):∀{es:List Expr}{m:Mi Rr},OQ op F es=some m->JE X E (.BoolOp op es pos) m
 |[],m,e=>by cases e
 |[a],m,e=>Hr (h _ _ e)
 |a::b::r,m,e=>by
  obtain⟨K,e1,e⟩:=aa e;obtain⟨L,e2,e⟩:=aa e;have i:=Af (pos:=pos) h e2;cases op
  .cases e;exact IA (h _ _ e1) i
  .cases e
def Of(op:BoolOp)(F:Expr->Option (Mi Bool)):List Expr->Option (Mi Bool)
 |[]=>none
 |[a]=>F a
 |a::b::r=>af (F a) λm=>af (Of op F (b::r)) λn=>some (match op with | .And=>eW m n | .Or=>iT m n)
theorem yI{op:BoolOp}{F:Expr->Option (Mi Bool)}{pos:Pos}(h:∀e m,F e=some m->JT X E e m):∀{es:List Expr}{m:Mi Bool},Of op F es=some m->JW X E (.BoolOp op es pos) m
 |[],m,e=>by cases e
 |[a],m,e=>by cases op;exact Eu (h _ _ e);exact Kc (h _ _ e)
 |a::b::r,m,e=>by
  obtain⟨K,e1,e⟩:=aa e;obtain⟨L,e2,e⟩:=aa e;have i:=yI (pos:=pos) h e2;cases op
  .cases e;exact JV (h _ _ e1) i
  .cases e;exact KR (h _ _ e1) i
def Pz(s:Sc)(op:Yw)(a b:Expr)(m n:Mi Rr):Option (Mi Rr):=match op with
 | .Eq=>dd (!s.hd) (some (az m5 m n))
 | .NotEq=>dd (!s.hd) (some (az eY m n))
 | .Lt=>some (az iH m n)
 | .LtE=>none
 | .Gt=>some (az jV m n)
 | .GtE=>some (az F8 m n)
 | .Is=>some (az (jk false) m n)
 | .IsNot=>some (az (jk true) m n)
 | .In=>dd (!s.hd&&j9 b) (some (az (xJ false) m n))
 | .NotIn=>dd (!s.hd&&j9 b) (some (az (xJ true) m n))
theorem Hh(S:Sit tb k X E s){a b:Expr}{m n:Mi Rr}(h:Pz s op a b m n=some q)(f:JE X E a m)(d:JE X E b n):JE X E (.Compare a [op] [b] pos) q/\JT X E (.Compare a [op] [b] pos) (ag q):=by
 cases op
 case Eq=>obtain⟨h1,h⟩:=aj h;have g:=(S.rm (by simpa using h1)).units;cases h;exact⟨MF g f d,Mm g f d⟩
 case NotEq=>obtain⟨h1,h⟩:=aj h;have g:=(S.rm (by simpa using h1)).units;cases h;exact⟨LF g f d,MJ g f d⟩
 case Lt=>cases h;exact⟨LZ f d,Ln f d⟩
 case LtE=>cases h
 case Gt=>cases h;exact⟨L9 f d,KO f d⟩
 case GtE=>cases h;exact⟨Mb f d,Ll f d⟩
 case Is=>cases h;exact⟨Mr f d,MT f d⟩
 case IsNot=>cases h;exact⟨Ds f d,D5 f d⟩
 case In=>obtain⟨h1,h⟩:=aj h;rw[QE] at h1;cases h;exact⟨gh j5 qo f d (jO h1.2),gp j5 qo f d (jO h1.2)⟩
 case NotIn=>obtain⟨h1,h⟩:=aj h;rw[QE] at h1;cases h;exact⟨gh jP qo f d (jO h1.2),gp jP qo f d (jO h1.2)⟩
def OG(f:Str):Option (A->Option Rr):=
 if f==("len" : Str) then some cW else if f==("abs" : Str) then some zJ else if f==("int" : Str) then some tT else if f==("tuple" : Str) then some lN else
 if f==("list" : Str) then some gE else if f==("any" : Str) then some (kQ λbs=>bs.any id) else none
theorem bx(S:Sit tb k X E s){x:Str}(h:D2.contains x=true):X.mg x=none:=S.gd.bl x (Sz.mp h)
theorem HQ(S:Sit tb k X E s){g:A->Option Rr}{a:Expr}{m:Mi Rr}(h:OG f=some g)(J:nD s f=true)(u:s.hd=false)(hs:notStar a=true)(V:JE X E a m):JE X E (.Call (.Name f p) [a] [] pos) (cP g m):=by
 obtain⟨C,n⟩:=S.glob J;have hc:=S.cm u;have h1:=ay hs [] X.env;have h2:(XQ pos (XG [] X.env)).any (·.1)=false:=rfl;unfold OG at h;split at h
 .rename_i z;rw[Zy] at z;subst z;cases h;exact nF AV Ke C (bx S Z4) zi V Z4 n h1 h2
 split at h
 .rename_i z;rw[Zy] at z;subst z;cases h;exact nF zk Ji C (bx S Z4) Gg V Z4 n h1 h2
 split at h
 .rename_i z;rw[Zy] at z;subst z;cases h;exact Al xj Js C (bx S Z4) AO V Z4 n h1 h2
 split at h
 .rename_i z;rw[Zy] at z;subst z;cases h;exact Al nB zS C (bx S Z4) rQ V Z4 n h1 h2
 split at h
 .rename_i z;rw[Zy] at z;subst z;cases h;exact Al oY Ef C (bx S Z4) kY V Z4 n h1 h2
 split at h
 .rename_i z;rw[Zy] at z;subst z;cases h;exact nF (yg hc) Kd C (bx S Z4) zd V Z4 n h1 h2
 .cases h
def NQ(f:Str):Option (A->A->Option Rr):=if f==("max" : Str) then some Mv else if f==("min" : Str) then some xy else none
theorem yu(S:Sit tb k X E s){g:A->A->Option Rr}{a b:Expr}{m n:Mi Rr}(h:NQ f=some g)(J:nD s f=true)(u:s.hd=false)(hs:notStar a=true)(w:notStar b=true)(V:JE X E a m)(d:JE X E b n):JE X E (.Call (.Name f p) [a,b] [] pos) (Fv g m n):=by
 obtain⟨C,D⟩:=S.glob J;have hc:=S.cm u;have h1:=ay hs [b] X.env;have h3:=ay w [] X.env;have h2:(XQ pos (XG [b] X.env)).any (·.1)=false:=dz (by rw[Q7,w];rfl);unfold NQ at h;split at h
 .rename_i z;rw[Zy] at z;subst z;cases h;exact EZ (wt hc) Jn C (bx S Z4) yf V d Z4 D h1 h3 h2
 split at h
 .rename_i z;rw[Zy] at z;subst z;cases h;exact EZ (wL hc) Jd C (bx S Z4) yV V d Z4 D h1 h3 h2
 .cases h
noncomputable def Pf(x:Str):Option Ty:=if x==("int" : Str) then some .int else if x==("bool" : Str) then some .bool else if x==("str" : Str) then some .str else if x==("tuple" : Str) then some .tuple else if x==("list" : Str) then some .list else if x==("dict" : Str) then some .dict else none
theorem J8{x:Str}{T:Ty}(h:Pf x=some T):XI x=some (.type T.n)/\D2.contains x=true/\x ≠ "__name__" := by
 unfold Pf at h;split at h
 .rename_i z;rw[Zy] at z;subst z;cases h;exact⟨AO,by decide +kernel,by decide +kernel⟩
 split at h
 .rename_i z;rw[Zy] at z;subst z;cases h;exact⟨Ex,by decide +kernel,by decide +kernel⟩
 split at h
 .rename_i z;rw[Zy] at z;subst z;cases h;exact⟨GX,by decide +kernel,by decide +kernel⟩
 split at h
 .rename_i z;rw[Zy] at z;subst z;cases h;exact⟨rQ,by decide +kernel,by decide +kernel⟩
 split at h
 .rename_i z;rw[Zy] at z;subst z;cases h;exact⟨kY,by decide +kernel,by decide +kernel⟩
 split at h
 .rename_i z;rw[Zy] at z;subst z;cases h;exact⟨DZ,by decide +kernel,by decide +kernel⟩
 .cases h
end
structure Tr where
 E:Sc->Expr->Option (Mi Rr)
 T:Sc->Expr->Option (Mi Bool)
 I:Sc->Expr->Expr->Option (Mi (List A))
structure cD(tb:Tb)(k:Nat)(r:Tr):Prop where
 E:∀{X E s e m},Sit tb k X E s->r.E s e=some m->JE X E e m
 T:∀{X E s e m},Sit tb k X E s->r.T s e=some m->JT X E e m
 I:∀{X E s tg e m},Sit tb k X E s->r.I s tg e=some m->JI X E tg e m
def Dx(s:Sc)(lo:Nat):Nat->Expr->Option Mg
 |0,_=>none
 |d+1,.Name x _=>af (iS s x) λi=>dd (So lo i) (some (aW i))
 |d+1,.Tuple es _ _=>dd (!s.hd) (af (trGs (Dx s lo d) es) λgs=>some (gD es.length gs))
 |_+1,_=>none
where trGs (F:Expr->Option Mg):List Expr->Option B9
 |[]=>some f6
 |e::es=>dd (notStar e) (af (F e) λg=>af (trGs F es) λgs=>some (bU g gs))
variable{r:Tr}{tg:Expr}
section
variable{tb:Tb}{k:Nat}{X:Cx}{E:XK}{s:Sc}
theorem vX{lo:Nat}{F:Expr->Option Mg}(h:∀e g,F e=some g->JG X lo e g):∀{es:List Expr}{gs:B9},Dx.trGs F es=some gs->LG X lo es gs/\es.all notStar=true
 |[],gs,e=>by cases e;exact⟨EN,rfl⟩
 |a::es,gs,e=>by obtain⟨h1,e⟩:=aj e;obtain⟨g,e1,e⟩:=aa e;obtain⟨H,e2,e⟩:=aa e;cases e;obtain⟨s,I⟩:=vX h e2;exact⟨Bc (h _ _ e1) s (λx y=>yh x y (Bg h1)),by rw[Q7,h1,I];rfl⟩
theorem oU(S:Sit tb k X E s){lo:Nat}:∀{d:Nat}{e:Expr}{g:Mg},Dx s lo d e=some g->JG X lo e g
 |0,e,g,h=>by cases h
 |d+1,e,g,h=>by
  unfold Dx at h;split at h
  .rename_i Y;cases Y
  .rename_i Y;cases Y;obtain⟨i,e1,h⟩:=aa h;obtain⟨h1,h⟩:=aj h;cases h;obtain⟨a1,r,a,Z⟩:=S.iS e1;exact CL (by rw[S.n];exact S.nd) a1 r (RI h1) Z
  .rename_i Y;cases Y;obtain⟨R,h⟩:=aj h;obtain⟨gs,e1,h⟩:=aa h;cases h;obtain⟨D,I⟩:=vX (λe g h=>oU S h) e1;have hc:=S.cm (by simpa using R);exact IJ hc D (u4 _) (qF _ I)
  .cases h
noncomputable def A9:Expr->Bool
 | .Tuple _ _ _=>true
 |_=>false
noncomputable def PZ:Expr->Bool
 | .Name _ _=>true
 |_=>false
def Ka(r:Tr)(s:Sc)(tg:Expr):Expr->Option (Mi (List A))
 | .Call (.Name f p) [a] [] pos=>match f==("range" : Str) with
  |true=>dd (nD s f&&notStar a) (af (r.E s a) λm=>some (gC m))
  |false=>af (r.E s (.Call (.Name f p) [a] [] pos)) λm=>some (cQ m)
 | .Call (.Name f p) [a,b] [] pos=>match f==("range" : Str) with
  |true=>dd (nD s f&&notStar a&&notStar b) (af (r.E s a) λm=>af (r.E s b) λn=>some (qu m n))
  |false=>match f==("zip" : Str) with
   |true=>dd (nD s f&&notStar a&&notStar b&&A9 tg) (af (r.E s a) λm=>af (r.E s b) λn=>some (hZ m n))
   |false=>af (r.E s (.Call (.Name f p) [a,b] [] pos)) λm=>some (cQ m)
 |e=>af (r.E s e) λm=>some (cQ m)
theorem CH(R:cD tb k r)(S:Sit tb k X E s){m:Mi (List A)}(h:Ka r s tg e=some m):JI X E tg e m:=by
 unfold Ka at h;split at h
 .split at h
  .rename_i z;rw[Zy] at z;subst z;obtain⟨h1,h⟩:=aj h;rw[QE] at h1;obtain⟨K,e1,h⟩:=aa h;cases h;exact DK (S.glob h1.1).1 (bx S Z4) (R.E S e1) (ay h1.2 _ _) (ay h1.2 _ _)
  .obtain⟨K,e1,h⟩:=aa h;cases h;exact sI (R.E S e1)
 .split at h
  .rename_i z;rw[Zy] at z;subst z;obtain⟨h1,h⟩:=aj h;rw[QE,QE] at h1;obtain⟨K,e1,h⟩:=aa h;obtain⟨L,e2,h⟩:=aa h;cases h;have P:=ay h1.1.2;have u:=ay h1.2;exact Ew (S.glob h1.1.1).1 (bx S Z4) (R.E S e1) (R.E S e2) (by rw[P,u];rfl) (by rw[u];rfl) (P _ _) (u _ _)
  .split at h
   .rename_i z;rw[Zy] at z;subst z;obtain⟨h1,h⟩:=aj h;rw[QE,QE,QE] at h1;obtain⟨K,e1,h⟩:=aa h;obtain⟨L,e2,h⟩:=aa h;cases h;have P:=ay h1.1.1.2;have u:=ay h1.1.2;cases tg<;>first|(cases h1.2;done)|skip
    exact ED (S.glob h1.1.1.1).1 (bx S Z4) (R.E S e1) (R.E S e2) (by rw[P,u];rfl) (by rw[u];rfl) (P _ _) (u _ _)
   .obtain⟨K,e1,h⟩:=aa h;cases h;exact sI (R.E S e1)
 .obtain⟨K,e1,h⟩:=aa h;cases h;exact sI (R.E S e1)
noncomputable def lD{α:Type}(a b:Option α):Option α:=match a with
 |some x=>some x
 |none=>b
theorem a6{a b:Option α}{x:α}(h:lD a b=some x):a=some x\/b=some x:=by
 cases a with
 |none=>exact .inr h
 |some y=>exact .inl h
def OR(r:Tr)(s:Sc)(tg e:Expr):Option (Mi (List A)):=lD (r.I s tg e) (Ka r s tg e)
theorem AL(R:cD tb k r)(S:Sit tb k X E s){m:Mi (List A)}(h:OR r s tg e=some m):JI X E tg e m:=by
 rcases a6 h with h|h
 .exact R.I S h
 .exact CH R S h
noncomputable def Pq:Nat->Expr->List Str
 |0,_=>[]
 |_+1,.Name x _=>[x]
 |d+1,.Tuple es _ _=>es.flatMap (Pq d)
 |_+1,_=>[]
noncomputable def OC(N own:List Str):List Str:=N.map (λn=>if own.contains n then n++(" (of the def)" : Str) else n)++own
def AF(s:Sc)(N:List Str)(own:Nat)(sc:Scope):Bool:=
 sc.kind==.function&&sc.names.all (λy=>y.2 != .cell)&&sc.names.all (λy=>y.2 != .local || sc.names.lookup y.1==some .local)&&N.length==s.N.length+own&&decide N.Nodup &&
 ((N.take s.N.length).zip s.N).all (λp=>p.1==p.2 || sc.names.lookup p.1==none)&&(N.take s.N.length).all (λn=>sc.names.lookup n != some .local)&&sc.names.all (λy=>y.2 != .free || (s.nm.lookup y.1==some .cell || s.nm.lookup y.1==some .free))
def Ay(s:Sc)(N:List Str)(sc:Scope):Sc:={ N:=N,nm:=sc.names,di:=s.di,ca:=[],hd:=false,lv:=s.lv }
end
variable{elt:Expr}{gs:List YF}{args:List Expr}
section
variable{tb:Tb}{k:Nat}{X:Cx}{E:XK}{s:Sc}
theorem d6{α:Type}{x:Str}{v:α}:∀{l:List (Str×α)},l.lookup x=some v->(x,v)∈l
 |(y,u)::l,h=>by
  rw[QY] at h;split at h
  .rename_i e;cases h;rw[Zy.mp e];exact QV
  .exact QM _ (d6 h)
theorem Sit.comp(S:Sit tb k X E s){N:List Str}{sc:Scope}{own:Nat}(h:AF s N own sc=true)(u:s.hd=false):
  gk X.N N own sc X.env.scope/\∀cl C c H fp,Sit tb k (jl X N sc cl C c H fp) uV (Ay s N sc):=by
 unfold AF at h;simp only[QE,Zy,decide_eq_true_eq,R3,Sj,bne_iff_ne,ne_eq] at h;obtain⟨⟨⟨⟨⟨⟨⟨h1,h2⟩,h3⟩,h4⟩,h5⟩,V⟩,m⟩,D⟩:=h;refine⟨⟨h1,h2,λy hy e=>?_,by rw[S.n];exact h4,h5,by rw[S.n];exact V,by rw[S.n];exact m,λy hy e=>?_⟩,λcl C c H fp=>?_⟩
 .rcases h3 y hy with z|z
  .exact absurd e z
  .exact z
 .rcases D y hy with z|z
  .exact absurd e z
  .rcases z with z|z
   .exact .inl ((S.ce _).1 z)
   .exact(S.ce _).2 z
 .have loc:∀x,sZ (Ay s N sc) x=true->sc.names.lookup x=some .local:=λx hx=>by
   unfold sZ qq Ay at hx;simp only[Sj,Zy] at hx;rcases hx with z|z
   .exact z
   .exact absurd rfl (h2 _ (d6 z))
  refine⟨rfl,h5,λx hx=>AS hx,λx hx=>?_,λx hx=>.inl (iz (loc x hx)),λx hx=>iz hx,λx=>⟨λhx=>absurd rfl (h2 _ (d6 hx)),λhx=>by rcases eD (env:=X.env) hx with z|⟨_,z⟩;exact .inr z;exact .inl z⟩,λx hx=>.inr (iz (loc x hx)),λ_=>S.cm u,λ_=>S.rm u,λ_=>(λ_ _ _ _ _ _ _ x=>x.elim),S.gd⟩;unfold Cj qq Ay at hx;simp only[Sj,Zy] at hx;rcases hx with (z|z)|z
  .exact .inl (iz z)
  .exact absurd rfl (h2 _ (d6 z))
  .exact si z
def Hx(r:Tr)(s:Sc):List Expr->Option (Mi Bool)
 |[]=>some aV
 |[t]=>r.T s t
 |_=>none
def pP(r:Tr)(s:Sc)(elt:Expr)(gs:List YF)(sc:Scope):Option (Mi Rr):=match gs with
 |[g]=>
  let own:=Pq 9 g.target
  let N:=OC s.N own
  let s':=Ay s N sc
  dd (!s.hd&&g.is_async==0&&j9 g.iter&&AF s N own.length sc) (af (OR r s g.target g.iter) λm=>af (Dx s' s.N.length 9 g.target) λG=>af (Hx r s' g.ifs) λmt=>af (r.E s' elt) λh=>some (aU own.length m G mt h))
 |_=>none
theorem Dz(R:cD tb k r)(S:Sit tb k X E s){ifs:List Expr}{m:Mi Bool}(h:Hx r s ifs=some m):JF X E ifs m:=by
 unfold Hx at h;split at h
 .cases h;exact JK
 .exact JR (R.T S h)
 .cases h
theorem oS(R:cD tb k r)(S:Sit tb k X E s){sc:Scope}{m:Mi Rr}(h:pP r s elt gs sc=some m):
  s.hd=false/\∃N own tg iter ifs b G mt Y,gs=[⟨tg,iter,ifs,0⟩]/\m=aU own b G mt Y/\gk X.N N own sc X.env.scope/\JI X E tg iter b/\(∀cl C c H fp,JG (jl X N sc cl C c H fp) X.N.length tg G) /\
   (∀cl C c H fp,JF (jl X N sc cl C c H fp) uV ifs mt)/\(∀cl C c H fp,JE (jl X N sc cl C c H fp) uV elt Y)/\∀x,X0 iter X.env x=pure x:=by
 unfold pP at h;split at h
 .rename_i g;obtain⟨tg,iter,ifs,v⟩:=g;obtain⟨a,h⟩:=aj h;simp only[QE,Zy,Ri] at a;obtain⟨⟨⟨h1,rfl⟩,h3⟩,h4⟩:=a;obtain⟨b,e1,h⟩:=aa h;obtain⟨G,e2,h⟩:=aa h;obtain⟨mt,A,h⟩:=aa h;obtain⟨Y,j,h⟩:=aa h;cases h;obtain⟨q,Z⟩:=S.comp h4 h1;exact⟨h1,_,_,tg,iter,ifs,b,G,mt,Y,rfl,rfl,q,AL R S e1,λcl C c H fp=>by rw[S.n];exact oU (Z cl C c H fp) e2,λcl C c H fp=>Dz R (Z cl C c H fp) A,λcl C c H fp=>R.E (Z cl C c H fp) j,mI h3 _⟩
 .cases h
def Pd(F:Expr->Option (Mi Rr)):Option Expr->Option (Mi (Option Int))
 |none=>some aH
 |some e=>af (F e) λm=>some (bz m)
theorem zQ{F:Expr->Option (Mi Rr)}(h:∀e m,F e=some m->JE X E e m){o:Option Expr}{m:Mi (Option Int)}(e:Pd F o=some m):JP X E o m:=by
 cases o with
 |none=>cases e;exact DS
 |some a=>obtain⟨K,e1,e⟩:=aa e;cases e;exact Cz (h _ _ e1)
def Aw(r:Tr)(s:Sc)(a:Expr):Expr->Option (Mi Rr)
 | .Slice lo hi none _=>af (r.E s a) λm=>af (Pd (r.E s) lo) λH=>af (Pd (r.E s) hi) λY=>some (cE m H Y)
 |b=>dd (jq b&&!s.hd) (af (r.E s a) λm=>af (r.E s b) λn=>some (az Dw m n))
theorem A5(R:cD tb k r)(S:Sit tb k X E s){a b:Expr}{m:Mi Rr}(h:Aw r s a b=some m):JE X E (.Subscript a b pos) m:=by
 unfold Aw at h;split at h
 .obtain⟨K,e1,h⟩:=aa h;obtain⟨L,e2,h⟩:=aa h;obtain⟨p,N,h⟩:=aa h;cases h;exact HU (R.E S e1) (zQ (λ_ _=>R.E S) e2) (zQ (λ_ _=>R.E S) N)
 .obtain⟨H,h⟩:=aj h;simp only[QE,Ri] at H;obtain⟨K,e1,h⟩:=aa h;obtain⟨L,e2,h⟩:=aa h;cases h;exact Ja (R.E S e1) (R.E S e2) (ue H.1)
noncomputable def Qt(f:Str):Bool:=match f.cps[0]? with
 |some c=>So 65 c&&So c 90
 |none=>false
def JC:Expr->Bool
 | .ListComp _ _ _ _=>true
 | .List _ _=>true
 | .Dict _ _ _=>true
 | .BinOp _ .Add _ _=>true
 | .Subscript _ (.Slice _ _ _ _) _=>true
 | .Call (.Name f _) _ _ _=>f==("list" : Str) || f==("sorted" : Str) || f==("dict" : Str) || Qt f
 | .Call (.Attribute _ _ _) _ _ _=>true
 |_=>false
def KG(r:Tr)(s:Sc)(e:Expr):Option (Mi Rr):=match e with
 | .Name x _=>match s.lv.contains x with
  |true=>r.E s e
  |false=>match slot s x with
   |some i=>some (ai i)
   |none=>r.E s e
 |e=>match JC e with
  |true=>af (r.E s e) λm=>some (nA m)
  |false=>r.E s e
theorem o6(R:cD tb k r)(S:Sit tb k X E s){m:Mi Rr}(h:KG r s e=some m):JE X E e m:=by
 unfold KG at h;split at h
 .split at h
  .exact R.E S h
  split at h
  .rename_i e1;cases h;obtain⟨a1,Z,a,b⟩:=S.slot e1;exact EJ a1 Z a b
  .exact R.E S h
 .split at h
  .obtain⟨K,e1,h⟩:=aa h;cases h;exact NA (R.E S e1)
  .exact R.E S h
noncomputable def fH(s:Sc):Nat->List Expr->List Bool->List Nat
 |j,.Name x _::es,false::bs=>match s.lv.contains x with
  |true=>j::fH s (j+1) es bs
  |false=>fH s (j+1) es bs
 |j,_::es,_::bs=>fH s (j+1) es bs
 |_,_,_=>[]
def eJ:List Nat->Ms->Ms
 |[],m=>m
 |j::js,m=>bu j (eJ js m)
theorem jb.eJ{K:Kx}{n:Nat}{m:Ms}{vs:List V}{H:Hp}{Q:VK}{E:XK}:∀{Z:List Nat},jb K n (M.eJ Z m) vs H Q E->jb K n m vs H Q E
 |[],h=>h
 |_::_,h=>jb.eJ (jb.Bv h)
def Gi(tb:Tb)(r:Tr)(s:Sc)(fi:FI)(args:List Expr):Option (Mi (List Rr)):=dd (args.length+(nj fi args.length).length==fi.n) (CA (r.E s) (KG r s) args fi.mu)
def Bn(tb:Tb)(r:Tr)(s:Sc)(fi:FI)(args:List Expr):Option (Mi (List Rr)):=dd (args.length+1+(nj fi (args.length+1)).length==fi.n) (CA (r.E s) (KG r s) args (fi.mu.drop 1))
def zR(tb:Tb)(r:Tr)(s:Sc)(f:Str):List Expr->Option (Mi Rr)
 |[]=>none
 |a::as=>af (tb.fM.lookup f) λfi=>dd (!s.hd) (af (Bn tb r s fi (a::as)) λm=>some (oJ f (eJ (fH s 1 (a::as) (fi.mu.drop 1)) fi.m) (nj fi ((a::as).length+1)) m))
def EU(tb:Tb)(r:Tr)(s:Sc)(a:Expr)(x:Str):Option (Mi Rr):=match Pf x with
 |some T=>af (r.E s a) λm=>some (cP (oT T) m)
 |none=>none
def AY(tb:Tb)(r:Tr)(s:Sc)(f:Str)(args:List Expr):Option (Mi Rr):=dd (nD s f) (match tb.fns.lookup f with
 |some fi=>match args with
  |[]=>none
  |a::as=>match s.hd with
   |true=>none
   |false=>af (Gi tb r s fi (a::as)) λm=>some (aY (eJ (fH s 0 (a::as) fi.mu) fi.m) (nj fi (a::as).length) m)
 |none=>match tb.fM.lookup f with
 |some _=>zR tb r s f args
 |none=>match args with
  |[a]=>dd (notStar a&&!s.hd) (af (OG f) λg=>af (r.E s a) λm=>some (cP g m))
  |[a,.Name x p]=>match f==("isinstance" : Str) with
   |true=>dd (notStar a&&nD s x) (EU tb r s a x)
   |false=>dd (notStar a&&!s.hd) (af (NQ f) λg=>af (r.E s a) λm=>af (r.E s (.Name x p)) λn=>some (Fv g m n))
  |[a,b]=>dd (notStar a&&notStar b&&!s.hd) (af (NQ f) λg=>af (r.E s a) λm=>af (r.E s b) λn=>some (Fv g m n))
  | _=>none)
theorem xH(R:cD tb k r)(S:Sit tb k X E s){m:Mi Rr}(h:AY tb r s f args=some m):JE X E (.Call (.Name f p) args [] pos) m:=by
 have h':=aj h;clear h;obtain⟨J,h⟩:=h';split at h
 .rename_i fi B;split at h
  .cases h
  .rename_i a as;split at h
   .cases h
   rename_i u;obtain⟨ma,e1,h⟩:=aa h;cases h;obtain⟨h1,e1⟩:=aj e1;obtain⟨n,I,b⟩:=lB (λ_ _=>R.E S) (λ_ _=>o6 R S) e1;obtain⟨x,fd,ps,F,hm,hk,d⟩:=S.gd.fn f fi B;obtain⟨ds,dvs,v,D,Y⟩:=d.of (a::as).length;have c:=b;rw[Q7,QE] at c;exact DR (F.imp λ_ _ _ _ q=>jb.eJ q) (S.rm u) (S.glob J).1 hm hk v D Y (S.ps u) n (Kk I (by rw[Zy] at h1;exact h1)) (S.glob J).2 (ay c.1 _ _) (dz c.2)
 split at h
 .unfold zR at h;split at h
  .cases h
  .rename_i a as;obtain⟨fi,B,h⟩:=aa h;obtain⟨u,h⟩:=aj h;have u:s.hd=false:=by simpa using u
   obtain⟨ma,e1,h⟩:=aa h;cases h;obtain⟨h1,e1⟩:=aj e1;rw[Zy] at h1;obtain⟨n,I,b⟩:=lB (λ_ _=>R.E S) (λ_ _=>o6 R S) e1;obtain⟨C,x,fd,ps,j,o,F,hm,hk,d⟩:=S.gd.im f fi B;obtain⟨ds,dvs,v,D,Y⟩:=d.of ((a::as).length+1);have c:=b;rw[Q7,QE] at c;exact De hk (F.imp λ_ _ _ _ q=>jb.eJ q) ((S.rm u).mono o) (S.glob J).1 hm v D Y (S.ps u) n (λZ rs O q=>by rw[I Z rs O q];exact h1) (S.glob J).2 (ay c.1 _ _) (dz c.2)
 .split at h
  .obtain⟨H,h⟩:=aj h;simp only[QE,Ri] at H;obtain⟨g,e1,h⟩:=aa h;obtain⟨K,e2,h⟩:=aa h;cases h;exact HQ S e1 J H.2 H.1 (R.E S e2)
  .split at h
   .rename_i z;rw[Zy] at z;subst z;obtain⟨H,h⟩:=aj h;simp only[QE] at H;obtain⟨y,V⟩:=S.glob J;obtain⟨t,l⟩:=S.glob H.2;unfold EU at h;split at h
    .rename_i T w;obtain⟨K,e2,h⟩:=aa h;cases h;obtain⟨L,Q,i⟩:=J8 w;exact Jf T y (bx S Z4) nE t (bx S Q) L (R.E S e2) Z4 V i l (ay H.1 _ _)
    .cases h
   .obtain⟨H,h⟩:=aj h;simp only[QE,Ri] at H;obtain⟨g,e1,h⟩:=aa h;obtain⟨K,e2,h⟩:=aa h;obtain⟨A,N,h⟩:=aa h;cases h;exact yu S e1 J H.2 H.1 rfl (R.E S e2) (R.E S N)
  .obtain⟨H,h⟩:=aj h;simp only[QE,Ri] at H;obtain⟨g,e1,h⟩:=aa h;obtain⟨K,e2,h⟩:=aa h;obtain⟨A,N,h⟩:=aa h;cases h;exact yu S e1 J H.2 H.1.1 H.1.2 (R.E S e2) (R.E S N)
  .cases h
end
variable{o:Expr}{apos cpos px:Pos}
section
variable{tb:Tb}{k:Nat}{X:Cx}{E:XK}{s:Sc}
noncomputable def oK(o:Expr):Bool:=match o with
 | .Call f args kw _=>match f with
  | .Name _ _=>!(args.isEmpty&&kw.isEmpty)
  |_=>true
 |_=>true
theorem a8(h:oK o=true)(m:Str)(env:Env)(w:Sem Value):XM o m env w=w:=by
 cases o with
 |Call f args j p=>cases f with
  |Name _ _=>cases args with
   |cons _ _=>rfl
   |nil=>cases j with
    |cons _ _=>rfl
    |nil=>cases h
  |_=>rfl
 |_=>rfl
theorem O5(h:notStar e=true)(cpos:Pos)(env:Env):((XQ cpos (XG [e] env)).all (λx=>!x.1)&&(X6 cpos (XW [] env)).all (λx=>x.1.isSome)&&decide (([e]:List Expr).length+([]:List X1).length+(if ([]:List X1).isEmpty then 0 else 1)<30))=true:=by rw[ay h];rfl
def P2(e:Expr):Option (Expr×Str×Pos×Pos):=match e with
 | .Call f args kw cpos=>match f with
  | .Attribute o m apos=>dd (args.isEmpty&&kw.isEmpty) (some (o,m,apos,cpos))
  |_=>none
 |_=>none
def Io(e:Expr):Option (Expr×Str×Pos×Expr×Pos):=match e with
 | .Call f args kw cpos=>match f with
  | .Attribute o m apos=>match args with
   |[a]=>dd (kw.isEmpty&&notStar a) (some (o,m,apos,a,cpos))
   |_=>none
  |_=>none
 |_=>none
theorem wA{a:Expr}{m:Str}(h:Io e=some (o,m,apos,a,cpos)):e=.Call (.Attribute o m apos) [a] [] cpos/\notStar a=true:=by
 unfold Io at h;split at h
 .rename_i f args j c;split at h
  .split at h
   .obtain⟨R,h⟩:=aj h;rw[QE,R4] at R;cases h;rw[R.1];exact⟨rfl,R.2⟩
   .cases h
  .cases h
 .cases h
def o7(e:Expr):Option (Str×Pos×Expr×Pos):=match e with
 | .Call f args kw cpos=>match f with
  | .Name x p=>match args with
   |[a]=>dd (kw.isEmpty&&notStar a) (some (x,p,a,cpos))
   |_=>none
  |_=>none
 |_=>none
theorem dQ{a:Expr}{x:Str}(h:o7 e=some (x,p,a,cpos)):e=.Call (.Name x p) [a] [] cpos/\notStar a=true:=by
 unfold o7 at h;split at h
 .rename_i f args j c;split at h
  .split at h
   .obtain⟨R,h⟩:=aj h;rw[QE,R4] at R;cases h;rw[R.1];exact⟨rfl,R.2⟩
   .cases h
  .cases h
 .cases h
noncomputable def u0(e:Expr):Option (Str×Pos):=match e with
 | .Name x p=>some (x,p)
 |_=>none
theorem cI{x:Str}(h:u0 e=some (x,p)):e=.Name x p:=by
 unfold u0 at h;split at h
 .cases h;rfl
 .cases h
def JY(e:Expr):Option (Str×Pos×Expr×Expr×Pos):=match e with
 | .Call f args kw cpos=>match f with
  | .Name x p=>match args with
   |[a,b]=>dd (kw.isEmpty&&notStar a&&notStar b) (some (x,p,a,b,cpos))
   |_=>none
  |_=>none
 |_=>none
theorem xF{a b:Expr}{x:Str}(h:JY e=some (x,p,a,b,cpos)):e=.Call (.Name x p) [a,b] [] cpos/\notStar a=true/\notStar b=true:=by
 unfold JY at h;split at h
 .rename_i f args j c;split at h
  .split at h
   .obtain⟨R,h⟩:=aj h;rw[QE,QE,R4] at R;cases h;rw[R.1.1];exact⟨rfl,R.1.2,R.2⟩
   .cases h
  .cases h
 .cases h
def vi(_:Tb)(r:Tr)(s:Sc)(tg e:Expr):Option (Mi (List A)):=af (o7 e) λ(f,_,a,_)=>dd (f==("enumerate" : Str)&&nD s f&&A9 tg) (af (r.E s a) λn=>some (u3 n))
theorem sL(R:cD tb k r)(S:Sit tb k X E s){q:Mi (List A)}(h:vi tb r s tg e=some q):JI X E tg e q:=by
 obtain⟨⟨f,p,a,cpos⟩,h1,g⟩:=aa h;clear h;obtain⟨rfl,hs⟩:=dQ h1;obtain⟨h2,g⟩:=aj g;simp only[QE,Zy] at h2;obtain⟨n,e2,g⟩:=aa g;cases g;obtain⟨⟨rfl,J⟩,l⟩:=h2;cases tg<;>first|(cases l;done)|skip
 exact Ed (S.glob J).1 (bx S Z4) (R.E S e2) (ay hs _ _) (ay hs _ _)
def Br(_:Tb)(r:Tr)(s:Sc)(e:Expr):Option (Mi Rr):=af (o7 e) λ(f,_,a,_)=>dd (f==("sum" : Str)&&nD s f&&!s.hd) (af (r.E s a) λn=>some (cP zM n))
theorem wC(R:cD tb k r)(S:Sit tb k X E s)(h:Br tb r s e=some q):JE X E e q:=by obtain⟨⟨f,p,a,cpos⟩,h1,g⟩:=aa h;clear h;obtain⟨rfl,hs⟩:=dQ h1;obtain⟨h2,h⟩:=aj g;rw[QE,QE,Zy,Ri] at h2;obtain⟨n,e2,h⟩:=aa h;cases h;obtain⟨⟨rfl,J⟩,u⟩:=h2;exact nF (AR (S.cm u)) ID (S.glob J).1 (bx S Z4) GG (R.E S e2) Z4 (S.glob J).2 (ay hs _ _) rfl
def vV(_:Tb)(r:Tr)(s:Sc)(e:Expr):Option (Mi Rr):=af (o7 e) λ(f,_,a,_)=>dd (f==("min" : Str)&&nD s f&&!s.hd) (af (r.E s a) λn=>some (cP rP n))
theorem sR(R:cD tb k r)(S:Sit tb k X E s)(h:vV tb r s e=some q):JE X E e q:=by obtain⟨⟨f,p,a,cpos⟩,h1,g⟩:=aa h;clear h;obtain⟨rfl,hs⟩:=dQ h1;obtain⟨h2,g⟩:=aj g;simp only[QE,Zy,Ri] at h2;obtain⟨n,e2,g⟩:=aa g;cases g;obtain⟨⟨rfl,J⟩,u⟩:=h2;exact nF (xk (S.cm u)) Ea (S.glob J).1 (bx S Z4) yV (R.E S e2) Z4 (S.glob J).2 (ay hs _ _) rfl
def uz(_:Tb)(r:Tr)(s:Sc)(e:Expr):Option (Mi Rr):=af (o7 e) λ(f,_,a,_)=>dd (f==("max" : Str)&&nD s f&&!s.hd) (af (r.E s a) λn=>some (cP qJ n))
theorem uf(R:cD tb k r)(S:Sit tb k X E s)(h:uz tb r s e=some q):JE X E e q:=by obtain⟨⟨f,p,a,cpos⟩,h1,g⟩:=aa h;clear h;obtain⟨rfl,hs⟩:=dQ h1;obtain⟨h2,g⟩:=aj g;simp only[QE,Zy,Ri] at h2;obtain⟨n,e2,g⟩:=aa g;cases g;obtain⟨⟨rfl,J⟩,u⟩:=h2;exact nF (wJ (S.cm u)) DC (S.glob J).1 (bx S Z4) yf (R.E S e2) Z4 (S.glob J).2 (ay hs _ _) rfl
def uA(_:Tb)(r:Tr)(s:Sc)(e:Expr):Option (Mi Rr):=af (Io e) λ(o,m,apos,a,cpos)=>dd (m==("index" : Str)&&apos.endLine==cpos.line) (dd (oK o) <| af (r.E s o) λn=>af (r.E s a) λq=>some (uQ n q))
theorem sW(R:cD tb k r)(S:Sit tb k X E s)(h:uA tb r s e=some q):JE X E e q:=by obtain⟨⟨o,m,apos,a,cpos⟩,h1,g⟩:=aa h;clear h;obtain⟨rfl,hs⟩:=wA h1;obtain⟨h2,h⟩:=aj g;rw[QE,Zy] at h2;obtain⟨d,D⟩:=aj h;clear h;obtain⟨n,e1,h⟩:=aa D;obtain⟨P,e2,h⟩:=aa h;cases h;obtain⟨rfl,hl⟩:=h2;exact CT (R.E S e1) (R.E S e2) (a8 d _ _ _) (O5 hs _ _) hl (ay hs _ _) rfl
def Ks(tb:Tb)(s:Sc)(e:Expr):Option (List Sl->Option A):=af (u0 e) λ(x,_)=>match slot s x with
 |some j=>some (xR j)
 |none=>af (tb.cst.lookup x) λa=>match a with
  | .int i=>dd (nD s x) (some (B2 i))
  |_=>none
theorem wR{x:Str}{v:V}{u:Value}{i:Int}(J:Gl X x)(hm:X.mg x=some u)(r:RelV v u)(b:∀G,RA (kx X) G v (.int i))(hd:fC x):pM X (.Name x pos) (B2 i):=by have z:=b λ_=>none;cases z;exact zx (uF J hm r hd)
theorem lC(S:Sit tb k X E s){g:List Sl->Option A}(h:Ks tb s e=some g):pM X e g/\jZ e/\notStar e=true:=by
 obtain⟨⟨x,p⟩,h1,w⟩:=aa h;clear h;obtain rfl:=cI h1;refine⟨?_,λ_ _=>rfl,rfl⟩;dsimp only at w;cases e1:slot s x with
 |some j=>rw[e1] at w;cases w;obtain⟨a1,r,q,Z⟩:=S.slot e1;exact xu a1 r q Z
 |none=>
  rw[e1] at w;obtain⟨a,e2,D⟩:=aa w;clear w;cases a with
  |int i=>obtain⟨J,F⟩:=aj D;cases F;obtain⟨v,u,C,n,d⟩:=S.gd.cs _ _ e2;exact wR (S.glob J).1 C n d (S.glob J).2
  |_=>cases D
def wF(s:Sc)(e:Expr):Option (Nat×Str×Str×Pos×Pos):=match e with
 | .Attribute o f p=>af (u0 o) λ(x,px)=>dd (s.lv.contains ("*nob" : Str)&&s.lv.contains f) (af (slot s x) λi=>some (i,x,f,px,p))
 |_=>none
theorem fY(S:Sit tb k X E s){x:Str}(h:wF s e=some (i,x,f,px,p)):e=.Attribute (.Name x px) f p/\X.N[i]?=some x/\kq X.env.scope x/\fC x/\k9 x:=by
 cases e with
 |Attribute o c j=>obtain⟨⟨v,a⟩,h1,w⟩:=aa h;clear h;obtain⟨_,D⟩:=aj w;obtain⟨H,e1,F⟩:=aa D;cases F;obtain rfl:=cI h1;obtain⟨a1,r,q,Z⟩:=S.slot e1;exact⟨rfl,a1,r,q,Z⟩
 |_=>cases h
noncomputable def oO(e:Expr):Option (Expr×Expr×Pos):=match e with
 | .Subscript a b p=>some (a,b,p)
 |_=>none
theorem fk{a b:Expr}(h:oO e=some (a,b,p)):e=.Subscript a b p:=by
 cases e with
 |Subscript=>cases h;rfl
 |_=>cases h
def FN(e:Expr):Option (Expr×Str×Pos×Expr×Pos):=match e with
 | .Call c as ks cpos=>match c with
  | .Attribute o m apos=>match as,ks with
   |[a],[]=>dd (apos.endLine==cpos.line) (some (o,m,apos,a,cpos))
   |_,_=>none
  |_=>none
 |_=>none
theorem tO{a:Expr}{m:Str}(h:FN e=some (o,m,apos,a,cpos)):e=.Call (.Attribute o m apos) [a] [] cpos/\(apos.endLine==cpos.line)=true:=by
 cases e with
 |Call c as q p=>
  cases c with
  |Attribute o' P Y=>
   rcases as with _|⟨a',_|_⟩
   .cases h
   .cases q with
    |nil=>obtain⟨R,h⟩:=aj h;cases h;exact⟨rfl,R⟩
    |cons=>cases h
   .cases h
  |_=>cases h
 |_=>cases h
def NC(tb:Tb)(r:Tr)(s:Sc)(i:Nat)(f m:Str)(a:Expr):Option (Mi Rr):=match m==("index" : Str) with
 |true=>af (Ks tb s a) λg=>some (gy (fe tb f) i f g)
 |false=>match m==("pop" : Str) with
  |true=>af (Ks tb s a) λg=>some (qY (fe tb f) i f g)
  |false=>match m==("append" : Str) with
   |true=>lD (af (Ks tb s a) λg=>some (rp (fe tb f) i f g)) (dd (notStar a) (af (r.E s a) λq=>some (mR (fe tb f) i f q)))
   |false=>none
def zy(tb:Tb)(r:Tr)(s:Sc)(e:Expr):Option (Mi Rr):=lD (af (oO e) λ(a,b,_)=>af (wF s a) λ(i,_,f,_,_)=>af (Ks tb s b) λg=>some (qe (fe tb f) i f g))
 (lD (af (FN e) λ(o,m,_,a,_)=>af (wF s o) λ(i,_,f,_,_)=>NC tb r s i f m a)
 (af (o7 e) λ(l,_,a,_)=>dd (l==("len" : Str)&&nD s l) (af (wF s a) λ(i,_,f,_,_)=>some (jy (fe tb f) i f))))
theorem wm(R:cD tb k r)(S:Sit tb k X E s){m:Mi Rr}(h:zy tb r s e=some m):JE X E e m:=by
 rcases a6 h with w|w
 .obtain⟨⟨a,b,p⟩,h1,Q⟩:=aa w;clear w h;obtain rfl:=fk h1;obtain⟨⟨i,x,f,px,A⟩,h2,D⟩:=aa Q;clear Q;obtain⟨rfl,a1,Z,v,B⟩:=fY S h2;obtain⟨g,h3,F⟩:=aa D;cases F;obtain⟨P,u,_⟩:=lC S h3;exact JJ a1 Z v B (λc C=>S.gd.fl _ c C) (a8 rfl _ _ _) P u
 clear h;rcases a6 w with z|z
 .obtain⟨⟨o,mm,apos,a,cpos⟩,h1,Q⟩:=aa z;clear w z;obtain⟨rfl,hl⟩:=tO h1;obtain⟨⟨i,x,f,px,A⟩,h2,h⟩:=aa Q;clear Q;obtain⟨rfl,a1,Z,v,B⟩:=fY S h2;dsimp only at h
  delta NC at h
  cases J:mm==("index" : Str) with
  |true=>rw[J] at h;obtain⟨g,h3,h⟩:=aa h;cases h;obtain rfl:=eq_of_beq J;obtain⟨P,_,H⟩:=lC S h3;exact wz a1 Z v B (λc C=>S.gd.fl _ c C) (a8 rfl _ _ _) P (a8 rfl _ _ _) (by rw[ay H _ _];rfl) hl (ay H _ _) rfl
  |false=>
   rw[J] at h;dsimp only at h;cases G:mm==("pop" : Str) with
   |true=>rw[G] at h;obtain⟨g,h3,h⟩:=aa h;cases h;obtain rfl:=eq_of_beq G;obtain⟨P,_,H⟩:=lC S h3;exact CW a1 Z v B (λc C=>S.gd.fl _ c C) (a8 rfl _ _ _) P (a8 rfl _ _ _) (by rw[ay H _ _];rfl) hl (ay H _ _) rfl
   |false=>
    rw[G] at h;dsimp only at h;cases y:mm==("append" : Str) with
    |true=>
     rw[y] at h;obtain rfl:=eq_of_beq y;rcases a6 h with h|h
     .obtain⟨g,h3,h⟩:=aa h;cases h;obtain⟨P,_,H⟩:=lC S h3;exact EG a1 Z v B (λc C=>S.gd.fl _ c C) (a8 rfl _ _ _) P (a8 rfl _ _ _) (by rw[ay H _ _];rfl) hl (ay H _ _) rfl
     .obtain⟨Y,h⟩:=aj h;obtain⟨q,h3,h⟩:=aa h;cases h;exact Ei a1 Z v B (λc C=>S.gd.fl _ c C) (a8 rfl _ _ _) (R.E S h3) (a8 rfl _ _ _) (by rw[ay Y _ _];rfl) hl (ay Y _ _) rfl
    |false=>rw[y] at h;cases h
 .obtain⟨⟨l,p,a,cpos⟩,h1,Q⟩:=aa z;clear w z;obtain⟨rfl,hs⟩:=dQ h1;obtain⟨Y,D⟩:=aj Q;clear Q;rw[QE,Zy] at Y;obtain⟨⟨i,x,f,px,A⟩,h2,F⟩:=aa D;obtain⟨rfl,a1,Z,v,B⟩:=fY S h2;cases F;obtain⟨rfl,L⟩:=Y;exact C0 a1 Z v B (λc C=>S.gd.fl _ c C) (a8 rfl _ _ _) (S.glob L).1 (bx S Z4) zi Z4 (S.glob L).2 (ay rfl _ _) rfl
def yt(tb:Tb)(_:Tr)(s:Sc)(e:Expr):Option (Mi Bool):=match e with
 | .Compare a ops bs _=>match ops,bs with
  |[op],[b]=>match op with
   | .In=>af (wF s b) λ(i,_,f,_,_)=>af (Ks tb s a) λg=>some (ag (wb false (fe tb f) i f g))
   |_=>none
  |_,_=>none
 |_=>none
theorem wO(R:cD tb k r)(S:Sit tb k X E s){q:Mi Bool}(h:yt tb r s e=some q):JT X E e q:=by
 cases e with
 |Compare a ops bs p=>
  rcases ops with _|⟨op,_|_⟩
  .cases h
  .rcases bs with _|⟨b,_|_⟩
   .cases h
   .cases op with
    |In=>obtain⟨⟨i,x,f,px,A⟩,h2,w⟩:=aa h;clear h;obtain⟨rfl,a1,Z,v,B⟩:=fY S h2;obtain⟨g,h3,D⟩:=aa w;cases D;exact GI a1 Z v B (λc C=>S.gd.fl _ c C) (a8 rfl _ _ _) (lC S h3).1 rfl
    |_=>cases h
   .cases h
  .cases h
 |_=>cases h
def u7(_:Tb)(r:Tr)(s:Sc)(e:Expr):Option (Mi Rr):=af (o7 e) λ(f,_,a,_)=>dd (f==("list" : Str)&&nD s f&&!s.hd) (lD
 (af (o7 a) λ(g,_,b,_)=>dd (g==("range" : Str)&&nD s g) (af (r.E s b) λn=>some (mZ n)))
 (af (JY a) λ(g,_,b,c,_)=>dd (g==("range" : Str)&&nD s g) (af (r.E s b) λn=>af (r.E s c) λq=>some (lV n q))))
theorem ub(R:cD tb k r)(S:Sit tb k X E s)(h:u7 tb r s e=some q):JE X E e q:=by
 obtain⟨⟨f,p,a,cpos⟩,h1,Y⟩:=aa h;clear h;obtain⟨rfl,hs⟩:=dQ h1;obtain⟨h2,H⟩:=aj Y;clear Y;simp only[QE,Zy,Ri] at h2;obtain⟨⟨rfl,J⟩,u⟩:=h2;rcases a6 H with w|w
 .clear H;obtain⟨⟨P,v,b,x⟩,h3,Q⟩:=aa w;clear w;obtain⟨rfl,O⟩:=dQ h3;obtain⟨h4,D⟩:=aj Q;clear Q;rw[QE,Zy] at h4;obtain⟨n,e2,F⟩:=aa D;cases F;obtain⟨rfl,C⟩:=h4;exact zC (S.cm u) (S.glob J).1 (bx S Z4) kY (S.glob C).1 (bx S Z4) (R.E S e2) (ay O _ _)
 .clear H;obtain⟨⟨P,v,b,c,x⟩,h3,Q⟩:=aa w;clear w;obtain⟨rfl,O,K⟩:=xF h3;obtain⟨h4,D⟩:=aj Q;clear Q;rw[QE,Zy] at h4;obtain⟨n,e2,F⟩:=aa D;obtain⟨o,N,B⟩:=aa F;cases B;obtain⟨rfl,C⟩:=h4;exact yZ (S.cm u) (S.glob J).1 (bx S Z4) kY (S.glob C).1 (bx S Z4) (R.E S e2) (R.E S N) (ay O _ _) (ay K _ _) (dz (by rw[Q7,K];rfl))
def Je(e:Expr):Option (Str×Pos×Expr×Expr×Expr×Pos):=match e with
 | .Call f args kw cpos=>match f with
  | .Name x p=>match args with
   |[a,b,d]=>dd (kw.isEmpty&&notStar a&&notStar b&&notStar d) (some (x,p,a,b,d,cpos))
   |_=>none
  |_=>none
 |_=>none
theorem wH{a b d:Expr}{x:Str}(h:Je e=some (x,p,a,b,d,cpos)):e=.Call (.Name x p) [a,b,d] [] cpos/\notStar a=true/\notStar b=true/\notStar d=true:=by
 unfold Je at h;split at h
 .rename_i f args j c;split at h
  .split at h
   .obtain⟨R,h⟩:=aj h;rw[QE,QE,QE,R4] at R;cases h;obtain⟨⟨⟨rfl,h1⟩,h2⟩,h3⟩:=R;exact⟨rfl,h1,h2,h3⟩
   .cases h
  .cases h
 .cases h
def vf(_:Tb)(r:Tr)(s:Sc)(_ e:Expr):Option (Mi (List A)):=af (Je e) λ(f,_,a,b,d,_)=>dd (f==("range" : Str)&&nD s f) (af (r.E s a) λm=>af (r.E s b) λn=>af (r.E s d) λo=>some (qU m n o))
theorem uh(R:cD tb k r)(S:Sit tb k X E s){q:Mi (List A)}(h:vf tb r s tg e=some q):JI X E tg e q:=by obtain⟨⟨f,p,a,b,d,cpos⟩,h1,g⟩:=aa h;clear h;obtain⟨rfl,hs,O,K⟩:=wH h1;obtain⟨h2,D⟩:=aj g;clear g;simp only[QE,Zy] at h2;obtain⟨m,e1,t⟩:=aa D;obtain⟨n,e2,l⟩:=aa t;obtain⟨o,N,c⟩:=aa l;cases c;obtain⟨rfl,J⟩:=h2;exact Ck (S.glob J).1 (bx S Z4) (R.E S e1) (R.E S e2) (R.E S N) (ay hs _ _) (ay O _ _) (ay K _ _) (dz (by rw[Q7,O,Q7,K];rfl))
noncomputable def HK:Expr->Bool
 | .List _ _=>true
 |_=>false
noncomputable def BJ:Expr->Option (Expr×Expr×Pos)
 | .BinOp a .Mult b p=>some (a,b,p)
 |_=>none
theorem sT{a b:Expr}(h:BJ e=some (a,b,p)):e=.BinOp a .Mult b p:=by
 unfold BJ at h;split at h
 .cases h;rfl
 .cases h
def zF(_:Tb)(r:Tr)(s:Sc)(e:Expr):Option (Mi Rr):=af (BJ e) λ(a,b,_)=>dd (HK a) (af (r.E s a) λm=>af (r.E s b) λn=>some (az Cc m n))
theorem wg(R:cD tb k r)(S:Sit tb k X E s)(h:zF tb r s e=some q):JE X E e q:=by obtain⟨⟨a,b,p⟩,h1,g⟩:=aa h;clear h;obtain rfl:=sT h1;obtain⟨_,D⟩:=aj g;obtain⟨m,e1,d⟩:=aa D;obtain⟨n,e2,l⟩:=aa d;cases l;exact G7 (R.E S e1) (R.E S e2)
def xP(tb:Tb)(r:Tr)(s:Sc)(e:Expr):Option (Mi Rr):=lD (zy tb r s e) (lD (zF tb r s e) (none))
theorem MO(R:cD tb k r)(S:Sit tb k X E s){m:Mi Rr}(h:xP tb r s e=some m):JE X E e m:=by
 rcases a6 h with h|h
 .exact wm R S h
 rcases a6 h with h|h
 .exact wg R S h
 cases h
def xE(tb:Tb)(r:Tr)(s:Sc)(e:Expr):Option (Mi Rr):=lD (Br tb r s e) (lD (vV tb r s e) (lD (uz tb r s e) (lD (uA tb r s e) (lD (u7 tb r s e) (none)))))
theorem MV(R:cD tb k r)(S:Sit tb k X E s){m:Mi Rr}(h:xE tb r s e=some m):JE X E e m:=by
 rcases a6 h with h|h
 .exact wC R S h
 rcases a6 h with h|h
 .exact sR R S h
 rcases a6 h with h|h
 .exact uf R S h
 rcases a6 h with h|h
 .exact sW R S h
 rcases a6 h with h|h
 .exact ub R S h
 cases h
def xT(tb:Tb)(r:Tr)(s:Sc)(e:Expr):Option (Mi Bool):=lD (yt tb r s e) (none)
theorem KU(R:cD tb k r)(S:Sit tb k X E s){m:Mi Bool}(h:xT tb r s e=some m):JT X E e m:=by
 rcases a6 h with h|h
 .exact wO R S h
 cases h
def xI(tb:Tb)(r:Tr)(s:Sc)(tg e:Expr):Option (Mi (List A)):=lD (vi tb r s tg e) (lD (vf tb r s tg e) (none))
theorem K7(R:cD tb k r)(S:Sit tb k X E s){m:Mi (List A)}(h:xI tb r s tg e=some m):JI X E tg e m:=by
 rcases a6 h with h|h
 .exact sL R S h
 rcases a6 h with h|h
 .exact uh R S h
 cases h
end
variable{mn:Str}
section
variable{tb:Tb}{k:Nat}{X:Cx}{E:XK}{s:Sc}
noncomputable def Nf:Expr->Bool
 | .Name x _=>x==("self" : Str)
 |_=>false
def zv(r:Tr)(s:Sc)(fi:FI)(o:Expr):Option (Mi Rr):=match Nf o || fi.mu.headD true with
 |true=>r.E s o
 |false=>KG r s o
def JD(s:Sc)(o:Expr):Option (Str×Pos×Nat):=match o with
 | .Name x p=>dd (s.lv.contains ("*nob" : Str)) (af (slot s x) λi=>some (x,p,i))
 |_=>none
theorem nZ{s:Sc}{x:Str}(h:JD s o=some (x,p,i)):o=.Name x p/\slot s x=some i:=by
 cases o<;>first|(cases h;done)|skip
 obtain⟨_,h⟩:=aj h;obtain⟨j,e,h⟩:=aa h;cases h;exact⟨rfl,e⟩
def tL(tb:Tb)(r:Tr)(s:Sc)(o:Expr)(m:Str)(args:List Expr)(c:Str)(fi:FI):Option (Mi Rr):=dd (!s.hd&&So args.length 20) (af (zv r s fi o) λmo=>af (Bn tb r s fi args) λma=>(match JD s o with
 |some (_,_,i)=>some (aM (aY (eJ (fH s 1 args (fi.mu.drop 1)) fi.m) (nj fi (args.length+1)) (c7 (aP c m i) ma)) (aM (aY (bu 0 (eJ (fH s 1 args (fi.mu.drop 1)) fi.m)) (nj fi (args.length+1)) (c7 (aP c m i) ma)) (aY (eJ (fH s 1 args (fi.mu.drop 1)) fi.m) (nj fi (args.length+1)) (c7 (bH c m mo) ma))))
 | none=>some (aY (eJ (fH s 1 args (fi.mu.drop 1)) fi.m) (nj fi (args.length+1)) (c7 (bH c m mo) ma))))
def zN(tb:Tb)(r:Tr)(s:Sc)(o:Expr)(m:Str)(args:List Expr):List (Str×FI)->Option (Mi Rr)
 |[]=>none
 |[p]=>tL tb r s o m args p.1 p.2
 |p::q::ps=>af (tL tb r s o m args p.1 p.2) λa=>af (zN tb r s o m args (q::ps)) λb=>some (aM a b)
theorem pW(h:args.all notStar=true)(hl:args.length<=20)(pos:Pos)(env:Env):Yo (args.length+([]:List X1).length) (XQ pos (XG args env)) (X6 pos (XW [] env))=true:=by
 have:∀{es:List Expr},es.all notStar=true->(XQ pos (XG es env)).all (λx=>!x.1)=true:=by
  intro es;induction es with
  |nil=>intro _;rfl
  |cons e es m=>intro h;rw[Q7,QE] at h;rw[ay h.1];show (true&&(XQ pos (XG es env)).all (λx=>!x.1))=true;rw[m h.2];rfl
 unfold Yo;rw[this h];show (true&&(true&&decide (args.length+0+0<30)))=true;rw[show decide (args.length+0+0<30)=true from Zw Q1];rfl
theorem nM(R:cD tb k r)(S:Sit tb k X E s){m:Mi Rr}{c:Str}{fi:FI}(hl:(apos.endLine==cpos.line)=true)(d:oK o=true)(hc:(mn,c,fi)∈tb.mts)(h:tL tb r s o mn args c fi=some m):JE X E (.Call (.Attribute o mn apos) args [] cpos) m:=by
 obtain⟨H,h⟩:=aj h;simp only[QE,Ri] at H;obtain⟨mo,e1,h⟩:=aa h;obtain⟨ma,e2,h⟩:=aa h;obtain⟨h1,e2⟩:=aj e2;rw[Zy] at h1;obtain⟨n,I,b⟩:=lB (λ_ _=>R.E S) (λ_ _=>o6 R S) e2;obtain⟨C,t,fd,ps,F,hm,y,g,Q⟩:=S.gd.mt _ _ _ hc;obtain⟨ds,dvs,v,D,Y⟩:=Q.of (args.length+1);have ho:JE X E o mo:=by
  unfold zv at e1;split at e1
  .exact R.E S e1
  .exact o6 R S e1
 have len:=RI H.2;have old:JE X E (.Call (.Attribute o mn apos) args [] cpos) (aY (eJ (fH s 1 args (fi.mu.drop 1)) fi.m) (nj fi (args.length+1)) (c7 (bH c mn mo) ma)):=by
  cases args with
  |nil=>cases e2;exact B3 hm y g F (S.rm H.1) v D Y (S.ps H.1) ho (by simpa using h1) (a8 d _ _ _) hl
  |cons a as=>have p:=b;rw[Q7,QE] at p;exact DA hm y g (F.imp λ_ _ _ _ q=>jb.eJ q) (S.rm H.1) v D Y (S.ps H.1) ho n (λZ rs O q=>by rw[I Z rs O q];exact h1) (a8 d _ _ _) (pW b len _ _) hl (ay p.1 _ _) (dz p.2)
 split at h
 .rename_i x px i en;cases h;obtain⟨rfl,sl⟩:=nZ en;obtain⟨a1,B,z,w⟩:=S.slot sl;refine pQ ?_ (pQ ?_ old)
  .cases args with
   |nil=>cases e2;exact oq hm y g F (S.rm H.1) v D Y (S.ps H.1) a1 B z w (by simpa using h1) (a8 d _ _ _) hl
   |cons a as=>have p:=b;rw[Q7,QE] at p;exact rz hm y g (F.imp λ_ _ _ _ q=>jb.eJ q) (S.rm H.1) v D Y (S.ps H.1) a1 B z w n (λZ rs O q=>by rw[I Z rs O q];exact h1) (a8 d _ _ _) (pW b len _ _) hl (ay p.1 _ _) (dz p.2)
  .cases args with
   |nil=>cases e2;exact oq hm y g (F.imp λ_ _ _ _ q=>jb.Bv q) (S.rm H.1) v D Y (S.ps H.1) a1 B z w (by simpa using h1) (a8 d _ _ _) hl
   |cons a as=>have p:=b;rw[Q7,QE] at p;exact rz hm y g (F.imp λ_ _ _ _ q=>jb.eJ (jb.Bv q)) (S.rm H.1) v D Y (S.ps H.1) a1 B z w n (λZ rs O q=>by rw[I Z rs O q];exact h1) (a8 d _ _ _) (pW b len _ _) hl (ay p.1 _ _) (dz p.2)
 .cases h;exact old
theorem qy{r:Tr}(R:cD tb k r)(S:Sit tb k X E s){o:Expr}{mn:Str}{args:List Expr}{apos cpos:Pos}(hl:(apos.endLine==cpos.line)=true)(d:oK o=true):∀{cs:List (Str×FI)}{m:Mi Rr},(∀p∈cs,(mn,p.1,p.2)∈tb.mts)->zN tb r s o mn args cs=some m->JE X E (.Call (.Attribute o mn apos) args [] cpos) m
 |[],m,_,h=>by cases h
 |[p],m,hc,h=>nM R S hl d (hc p QV) h
 |p::q::ps,m,hc,h=>by obtain⟨a,e1,h⟩:=aa h;obtain⟨b,e2,h⟩:=aa h;cases h;exact pQ (nM R S hl d (hc p QV) e1) (qy R S hl d (λx hx=>hc x (QM _ hx)) e2)
def zj(tb:Tb)(r:Tr)(s:Sc)(o:Expr)(m:Str)(apos:Pos)(args:List Expr)(cpos:Pos):Option (Mi Rr):=dd (apos.endLine==cpos.line&&oK o) (match F5 tb m with
 |p::ps=>zN tb r s o m args (p::ps)
 | []=>none)
theorem xc(R:cD tb k r)(S:Sit tb k X E s){m:Mi Rr}(h:zj tb r s o mn apos args cpos=some m):JE X E (.Call (.Attribute o mn apos) args [] cpos) m:=by
 have h':=aj h;clear h;obtain⟨H,h⟩:=h';rw[QE] at H;split at h
 .rename_i p ps i;refine qy R S H.1 H.2 (λx hx=>?_) h;rw[<-i] at hx;unfold F5 at hx;obtain⟨⟨a,b⟩,h1,h2⟩:=UB.mp hx;simp only at h2;split at h2
  .rename_i z;cases h2;rw[Zy] at z;subst z;exact h1
  .cases h2
 .cases h
def stK:Const->Option (Mi Rr)
 | .none=>some (mC .non)
 | .bool b=>some (mC (.bl b))
 | .int i=>some (mC (.int i))
 | .str x=>some (mC (.str x))
 |_=>none
def MR(m n:Mi Rr):Zn->Option (Mi Rr)
 | .Add=>some (az a9 m n)
 | .Sub=>some (az ji m n)
 | .Mult=>some (az bD m n)
 | .FloorDiv=>some (az iF m n)
 | .Mod=>some (az kS m n)
 | .Pow=>some (az qf m n)
 |_=>none
theorem Eo{a b:Expr}{m n:Mi Rr}{op:Zn}(h:MR m n op=some q)(f:JE X E a m)(d:JE X E b n):JE X E (.BinOp a op b pos) q:=by
 cases op<;>first|(cases h;done)|skip
 .cases h;exact DX f d
 .cases h;exact IU f d
 .cases h;exact Ej f d
 .cases h;exact G4 f d
 .cases h;exact IS f d
 .cases h;exact IB f d
def vm(r:Tr)(s:Sc)(a:Expr)(ops:List Yw)(bs:List Expr):Option (Mi Rr):=match ops,bs with
 |[op],[b]=>af (r.E s a) λm=>af (r.E s b) λn=>Pz s op a b m n
 |_,_=>none
theorem qt(R:cD tb k r)(S:Sit tb k X E s){a:Expr}{ops:List Yw}{bs:List Expr}{m:Mi Rr}(h:vm r s a ops bs=some m):JE X E (.Compare a ops bs pos) m/\JT X E (.Compare a ops bs pos) (ag m):=by
 unfold vm at h;split at h
 .obtain⟨K,e1,h⟩:=aa h;obtain⟨L,e2,h⟩:=aa h;exact Hh S h (R.E S e1) (R.E S e2)
 .cases h
def Ho(tb:Tb)(r:Tr)(s:Sc)(f:Expr)(args:List Expr)(j:List X1)(cpos:Pos):Option (Mi Rr):=match j with
 |[]=>match f with
  | .Name f _=>AY tb r s f args
  | .Attribute o m apos=>zj tb r s o m apos args cpos
  |_=>none
 |_::_=>none
theorem CM(R:cD tb k r)(S:Sit tb k X E s){f:Expr}{j:List X1}{m:Mi Rr}(h:Ho tb r s f args j pos=some m):JE X E (.Call f args j pos) m:=by
 unfold Ho at h;split at h
 .split at h
  .exact xH R S h
  .exact xc R S h
  .cases h
 .cases h
def Pj(tb:Tb)(r:Tr)(s:Sc):Expr->Option (Mi Rr)
 | .Name x _=>match slot s x with
  |some i=>some (ab i)
  |none=>af (tb.cst.lookup x) λa=>dd (nD s x) (some (mC a))
 | .Constant c _ _=>stK c
 | .BinOp a op b _=>af (r.E s a) λm=>af (r.E s b) λn=>MR m n op
 | .UnaryOp op a _=>match op with
  | .USub=>af (r.E s a) λm=>some (aJ aT m)
  | .Not=>af (r.E s a) λm=>some (z9 m)
  |_=>none
 | .BoolOp op vs _=>OQ op (r.E s) vs
 | .Compare a ops bs _=>vm r s a ops bs
 | .IfExp t a b _=>af (r.T s t) λmt=>af (r.E s a) λm=>af (r.E s b) λn=>some (Ma mt m n)
 | .Tuple es _ _=>af (zw (r.E s) es) λm=>some (fQ m)
 | .List es _=>af (zw (r.E s) es) λm=>some (dj m)
 | .Subscript a b _=>Aw r s a b
 | .Call f args kw cpos=>Ho tb r s f args kw cpos
 | .Attribute o f _=>dd (oK o) (af (r.E s o) λm=>match JD s o with
  |some (_,_,i)=>some (aM (aL (fe tb f) i f) (aJ (aq (fe tb f) f) m))
  | none=>some (aJ (aq (fe tb f) f) m))
 | .ListComp elt gs sc _=>pP r s elt gs sc
 |_=>none
theorem Jp(R:cD tb k r)(S:Sit tb k X E s){m:Mi Rr}(h:Pj tb r s e=some m):JE X E e m:=by
 cases e with
 |Name x _=>
  have h:(match slot s x with
   |some i=>some (ab i)
   | none=>af (tb.cst.lookup x) λa=>dd (nD s x) (some (mC a)))=some m:=h
  split at h
  .rename_i e1;cases h;obtain⟨a1,Z,q,B⟩:=S.slot e1;exact Km a1 Z q B
  .obtain⟨a,e1,h⟩:=aa h;obtain⟨J,h⟩:=aj h;cases h;obtain⟨v,u,h1,h2,h3⟩:=S.gd.cs _ _ e1;exact Cs (S.glob J).1 h1 h2 h3 (S.glob J).2
 |Constant c _ _=>
  cases c<;>first|(cases h;done)|skip
  .cases h;exact He
  .cases h;exact Mh
  .cases h;exact JU
  .cases h;exact Ii
 |BinOp a op b _=>obtain⟨K,e1,h⟩:=aa h;obtain⟨L,e2,h⟩:=aa h;exact Eo h (R.E S e1) (R.E S e2)
 |UnaryOp op a _=>
  cases op<;>first|(cases h;done)|skip
  .obtain⟨K,e1,h⟩:=aa h;cases h;exact Ju (R.E S e1)
  .obtain⟨K,e1,h⟩:=aa h;cases h;exact Hc (R.E S e1)
 |BoolOp op vs _=>exact Af (λ_ _=>R.E S) h
 |Compare a ops bs _=>exact(qt R S h).1
 |IfExp t a b _=>obtain⟨mt,e1,h⟩:=aa h;obtain⟨K,e2,h⟩:=aa h;obtain⟨L,A,h⟩:=aa h;cases h;exact MN (R.T S e1) (R.E S e2) (R.E S A)
 |Tuple es _ _=>obtain⟨K,e1,h⟩:=aa h;cases h;exact G5 (lh (λ_ _=>R.E S) e1).1
 |List es _=>obtain⟨K,e1,h⟩:=aa h;cases h;exact IX (lh (λ_ _=>R.E S) e1).1
 |Dict l vs _=>cases h
 |Subscript a b _=>exact A5 R S h
 |Call f args j cpos=>exact CM R S h
 |Attribute o f _=>
  obtain⟨d,h⟩:=aj h;obtain⟨K,e1,h⟩:=aa h;split at h
  .rename_i x px i en;cases h;obtain⟨rfl,sl⟩:=nZ en;obtain⟨a1,Z,q,B⟩:=S.slot sl;exact pQ (yS a1 Z q B (λc C=>S.gd.fl _ c C) (a8 d _ _ _)) (uK (λc C=>S.gd.fl _ c C) (R.E S e1) (a8 d _ _ _))
  .cases h;exact uK (λc C=>S.gd.fl _ c C) (R.E S e1) (a8 d _ _ _)
 |ListComp elt gs sc _=>obtain⟨p,N,own,tg,iter,ifs,F,G,mt,O,rfl,rfl,Y,H,z,y,w,Q⟩:=oS R S h;exact Es (S.cm p) Y rfl H z y w Q
 |JoinedStr es _=>cases h
 |_=>cases h
def IW(r:Tr)(s:Sc):Expr->Option (Mi Bool)
 | .Compare a ops bs _=>af (vm r s a ops bs) λq=>some (ag q)
 | .UnaryOp .Not a _=>af (r.T s a) λm=>some (gr m)
 | .BoolOp op vs _=>Of op (r.T s) vs
 |e=>dd (plainT e) (af (r.E s e) λm=>some (ag m))
theorem C9(R:cD tb k r)(S:Sit tb k X E s){m:Mi Bool}(h:IW r s e=some m):JT X E e m:=by
 unfold IW at h;split at h
 .obtain⟨q,e1,h⟩:=aa h;cases h;exact(qt R S e1).2
 .obtain⟨K,e1,h⟩:=aa h;cases h;exact HA (R.T S e1)
 .exact K8 (yI (λ_ _=>R.T S) h)
 .obtain⟨H,h⟩:=aj h;obtain⟨K,e1,h⟩:=aa h;cases h;exact GH (R.E S e1) (tm H _)
def tr(tb:Tb):Nat->Tr
 |0=>⟨λ_ _=>none,λ_ _=>none,λ_ _ _=>none⟩
 |n+1=>⟨λs e=>lD (xP tb (tr tb n) s e) (lD (Pj tb (tr tb n) s e) (xE tb (tr tb n) s e)),λs e=>lD (xT tb (tr tb n) s e) (IW (tr tb n) s e),xI tb (tr tb n)⟩
theorem jX:∀n,cD tb k (tr tb n)
 |0=>⟨λ_ h=>(by cases h),λ_ h=>(by cases h),λ_ h=>(by cases h)⟩
 | n+1=>⟨λS h=>by
   rcases a6 h with h|h
   .exact MO (jX n) S h
   rcases a6 h with h|h
   .exact Jp (jX n) S h
   .exact MV (jX n) S h,λS h=>by
   rcases a6 h with h|h
   .exact KU (jX n) S h
   .exact C9 (jX n) S h,λS h=>K7 (jX n) S h⟩
end
structure i5(tb:Tb)(k:Nat)(X:Cx)(E:XK)(s:Sc):Prop extends Sit tb k X E s where
 po:s.hd=false->YH (XO X.prog X.w) X.A X.env X.xe
 st:s.hd=false->X.stack=X.env::X.outer/\X.env.frame=some X.env.locals/\X.ex=[]
 bk:X.env.blockKind=.function
noncomputable def NS:Expr->Bool
 | .Starred ..=>true
 |_=>false
def O7(x y:Str)(px H:Pos)(a b:Expr):Bool:=x != y&&px.line==H.line&&notStar a&&notStar b&&!([a,b].all (foldedForSure 8))&&!([a,b].all (constantsAlone 8))
variable{py:Pos}{kt:Nat}
theorem Nk{x y:Str}{pt c:Pos}{S:Nat}{a b:Expr}(h:O7 x y px py a b=true)(hx:env.kindOf x=some .local)(hy:env.kindOf y=some .local)(d:env.blockKind=.function):
  Yh [.Tuple [.Name x px,.Name y py] kt pt] (.Tuple [a,b] S c) env=pure (some [x,y]):=by
 unfold O7 at h;simp only[QE,bne_iff_ne,ne_eq,Zy,Ri] at h;obtain⟨⟨⟨⟨⟨h1,h2⟩,h3⟩,h4⟩,h5⟩,V⟩:=h;have s1:(([a,b]:List Expr).any fun | .Starred ..=>true|_=>false)=false:=by
  rw[TB];intro e he;have hn:notStar e=true:=by
   rcases QL.mp he with z|z
   .rw[z];exact h3
   .rw[Q8.mp z];exact h4
  cases e<;>first|(cases hn;done)|exact Rp
 have q:(y==x)=false:=beq_eq_false_iff_ne.mpr λz=>h1 z.symm;have E:(x==y)=false:=beq_eq_false_iff_ne.mpr h1;unfold Yh;have pn:∀(n:Str)(p:Pos),(Expr.Name n p).pos=p:=λ_ _=>rfl;simp[d,s1,hx,hy,pn,<-h2,h5,V,List.eraseDups_cons,q,E];intro z;exfalso;rcases z with z|z
 .cases a<;>first|(cases h3;done)|cases z
 .cases b<;>first|(cases h4;done)|cases z
noncomputable def u5:Expr->Bool
 | .Tuple _ _ _=>false
 |_=>true
theorem mY(h:u5 e=true):Yh [tg] e env=pure none:=by cases tg<;>first|rfl|(cases e<;>first|rfl|cases h)
theorem gj{i:Expr}:Yh [.Subscript o i p] e env=pure none:=by cases e<;>rfl
theorem wX{i:Expr}{l:Nat}:X4 e (some (.Subscript o i p)) l env=pure false:=by cases e<;>rfl
theorem tZ{sc:Scope}{x:Str}{l:Nat}(h:env.kindOf x=some .cell):X4 (.ListComp elt gs sc pos) (some (.Name x px)) l env=pure false:=by unfold X4;show (pure (env.blockKind==.function&&env.kindOf x==some .local&&px.line==pos.line&&!(sc.names.any λp=>p.1==x&&(p.2==.local || p.2==.cell))):Sem Bool)=pure false;rw[h,show (some (NameKind.cell)==some (NameKind.local))=false from rfl,Uq,U8,U8]
theorem qG{t:Expr}(h:jI e=true)(l:Nat)(env:Env):Yr [t] e l env=pure false:=kC h (some t) l env
theorem jo{i:Expr}{l:Nat}:Yr [.Subscript o i p] e l env=pure false:=wX (e:=e) (o:=o) (i:=i) (p:=p) (l:=l) (env:=env)
theorem kZ{i:Expr}(h:jq i=true)(v:Value):assign (.Subscript o i p) env v=(do
   let ov <- holding [v] (eval o env)
   let iv <- holding [v,ov] (eval i env)
   YB p
   holding [v,ov,iv] (setItem ov iv v)
   release [v,ov,iv] []):=by cases i<;>first|rfl|cases h
variable{ts:List Expr}
section
variable{tb:Tb}{k:Nat}{X:Cx}{E:XK}{s:Sc}
def BQ(r:Tr)(s:Sc)(x:Str)(px:Pos)(e:Expr):Option Ms:=af (iS s x) λi=>match e with
 | .ListComp elt gs sc pos=>match qq s x .local with
  |true=>dd (px.line==pos.line&&!(sc.names.any λp=>p.1==x&&(p.2==.local || p.2==.cell))) (af (pP r s elt gs sc) λm=>some (aF i m))
  |false=>af (r.E s e) λm=>some (aF i m)
 |e=>dd (jI e) (af (r.E s e) λm=>some (aF i m))
theorem v8(R:cD tb k r)(S:i5 tb k X E s){x:Str}{m:Ms}(h:BQ r s x px e=some m):JS X E (.Assign [.Name x px] e pos) m:=by
 obtain⟨i,e1,h⟩:=aa h;obtain⟨a1,Z,v,B⟩:=S.iS e1;have hN:X.N.Nodup:=by rw[S.n];exact S.nd
 split at h
 .split at h
  .rename_i z;obtain⟨H,h⟩:=aj h;simp only[QE,Ri] at H;obtain⟨K,e2,h⟩:=aa h;have hl:X.env.scope.names.lookup x=some .local:=S.lc x (by unfold qq at z;simpa using z);obtain⟨u,N,own,tg,iter,ifs,F,G,mt,Y,rfl,rfl,q,a,b,c,w,Q⟩:=oS R S.toSit e2;cases h;exact Ce (S.cm u) q rfl hN a1 hl (tE S.bk hl H.1 H.2) a b c w Q
  .rename_i z;obtain⟨K,e2,h⟩:=aa h;cases h;refine Bk hN a1 Z (R.E S.toSit e2) (tZ ?_) B;obtain⟨g,_⟩:=aj e1;simp only[QE,sZ,Sj] at g;rcases g.1 with y|y
   .rw[y] at z;cases z
   .exact(S.ce x).1 (by unfold qq at y;simpa using y)
 .obtain⟨H,h⟩:=aj h;obtain⟨K,e2,h⟩:=aa h;cases h;exact Bk hN a1 Z (R.E S.toSit e2) (kC H _ _ _) B
noncomputable def JO(e:Expr):Option (Expr×Expr):=match e with
 | .Tuple es _ _=>match es with
  |[a,b]=>some (a,b)
  |_=>none
 |_=>none
theorem wZ{a b:Expr}(h:JO e=some (a,b)):∃c p,e=.Tuple [a,b] c p:=by
 cases e with
 |Tuple es c p=>match es,h with
  |[a,b],h=>cases h;exact⟨c,p,rfl⟩
 |_=>cases h
def HC(ts:List Expr):Option ((Str×Pos)×Str×Pos):=match ts with
 |[a,b]=>af (u0 a) λp=>af (u0 b) λq=>some (p,q)
 |_=>none
theorem wW{x y:Str}(h:HC ts=some ((x,px),y,py)):ts=[.Name x px,.Name y py]:=by
 match ts,h with
 |[a,b],h=>obtain⟨p,h1,h⟩:=aa h;obtain⟨q,h2,h⟩:=aa h;cases h;rw[cI h1,cI h2]
def t6(r:Tr)(s:Sc)(ts:List Expr)(e:Expr):Option Ms:=dd (u5 e&&jI e) (af (r.E s e) λm=>af (Dx s 0 9 (.Tuple ts 0 default)) λg=>some (Li m g))
def Ar(r:Tr)(s:Sc)(ts:List Expr)(e:Expr):Option Ms:=match HC ts with
 | some ((x,px),y,py)=>(match JO e with
  |some (a,b)=>dd (!s.hd&&qq s x .local&&qq s y .local&&okN x&&okN y&&O7 x y px py a b) (af (iS s x) λi=>af (iS s y) λj=>dd (i != j) (af (zw (r.E s) [a,b]) λm=>some (BZ i j m)))
  | none=>t6 r s ts e)
 |none=>t6 r s ts e
theorem IL{lo d:Nat}{n v:Nat}{j:Pos}{g:Mg}(h:Dx s lo d (.Tuple ts n p)=some g):Dx s lo d (.Tuple ts v j)=some g:=by
 cases d with
 |zero=>cases h
 |succ d=>exact h
theorem n6(R:cD tb k r)(S:i5 tb k X E s){pt:Pos}{m:Ms}(h:t6 r s ts e=some m):JS X E (.Assign [.Tuple ts kt pt] e pos) m:=by obtain⟨H,h⟩:=aj h;rw[QE] at H;obtain⟨K,e1,h⟩:=aa h;obtain⟨g,e2,h⟩:=aa h;cases h;exact G8 (R.E S.toSit e1) (oU S.toSit (IL e2)) (qG H.2 _ _) (mY H.1) (hp:=λx y=>lZ x y (qG H.2 _ _) (mY H.1))
theorem Bu(R:cD tb k r)(S:i5 tb k X E s){pt:Pos}{m:Ms}(h:Ar r s ts e=some m):JS X E (.Assign [.Tuple ts kt pt] e pos) m:=by
 unfold Ar at h;cases g:HC ts with
 |none=>rw[g] at h;exact n6 R S h
 |some p=>
  obtain⟨⟨x,px⟩,y,py⟩:=p;rw[g] at h;dsimp only at h;cases l:JO e with
  |none=>rw[l] at h;exact n6 R S h
  |some p=>
   obtain⟨a,b⟩:=p;rw[l] at h;obtain⟨H,h⟩:=aj h;simp only[QE,Ri] at H;obtain⟨⟨⟨⟨⟨h1,h2⟩,h3⟩,_⟩,_⟩,h4⟩:=H;obtain⟨i,e1,h⟩:=aa h;obtain⟨j,e2,h⟩:=aa h;obtain⟨J,h⟩:=aj h;obtain⟨ma,G,h⟩:=aa h;cases h;obtain rfl:=wW g;obtain⟨c,p,rfl⟩:=wZ l;have hN:X.N.Nodup:=by rw[S.n];exact S.nd
   have l1:=S.lc x (show s.nm.lookup _=_ by unfold qq at h2;simpa using h2);have l2:=S.lc y (show s.nm.lookup _=_ by unfold qq at h3;simpa using h3);have o:i≠j:=by simpa using J
   exact Gh (lh (λ_ _=>R.E S.toSit) G).1 o (λy=>Kl (S.cm h1) hN (S.iS e1).1 (S.iS e2).1 o l1 l2 y (Nk h4 l1 l2 S.bk))
def Mu(r:Tr)(s:Sc)(x:Str)(I e:Expr):Option Ms:=af (slot s x) λi=>af (r.E s I) λmk=>af (r.E s e) λm=>dd (!s.hd&&jq I) (some (gq i mk m))
theorem Cr(R:cD tb k r)(S:i5 tb k X E s){x:Str}{A:Pos}{I:Expr}{m:Ms}(h:Mu r s x I e=some m):JS X E (.Assign [.Subscript (.Name x px) I A] e pos) m:=by obtain⟨i,e1,h⟩:=aa h;obtain⟨mk,e2,h⟩:=aa h;obtain⟨K,N,h⟩:=aa h;obtain⟨u,h⟩:=aj h;simp only[QE,Ri] at u;obtain⟨a1,Z,a,B⟩:=S.slot e1;cases h;exact BK a1 Z a B (R.E S.toSit e2) (R.E S.toSit N) (λx y z=>lZ z (pG x y set_list (kZ u.2)) jo gj)
theorem oz{l:Nat}:X4 e (some (.Attribute o f p)) l env=pure false:=by cases e<;>rfl
def AW(tb:Tb)(r:Tr)(s:Sc)(t e:Expr):Option Ms:=match t with
 | .Name x px=>BQ r s x px e
 | .Tuple ts _ _=>Ar r s ts e
 | .Subscript (.Name x _) ek _=>Mu r s x ek e
 |_=>none
theorem ze(R:cD tb k r)(S:i5 tb k X E s){t:Expr}{m:Ms}(h:AW tb r s t e=some m):JS X E (.Assign [t] e pos) m:=by
 unfold AW at h;split at h
 .exact v8 R S h
 .exact Bu R S h
 .exact Cr R S h
 .cases h
end
section
variable{tb:Tb}{k:Nat}{X:Cx}{E:XK}{s:Sc}
def tH(F:Stmt->Option Ms):List Stmt->Option Ms
 |[]=>some ba
 |[a]=>F a
 |a::b::r=>af (F a) λm=>af (tH F (b::r)) λn=>some (av m n)
theorem iA{F:Stmt->Option Ms}(h:∀a m,F a=some m->JS X E a m):∀{l:List Stmt}{m:Ms},tH F l=some m->rb X E l m
 |[],m,e=>by cases e;exact uR
 |[a],m,e=>vc (h _ _ e)
 |a::b::r,m,e=>by obtain⟨K,e1,e⟩:=aa e;obtain⟨L,e2,e⟩:=aa e;cases e;exact sf (h _ _ e1) (iA h e2)
noncomputable def uN(st:Stmt):Option (Expr×Expr×Pos):=match st with
 | .Assign ts e pos=>match ts with
  |[t]=>some (t,e,pos)
  |_=>none
 |_=>none
theorem jd{st:Stmt}{t:Expr}(h:uN st=some (t,e,pos)):st=.Assign [t] e pos:=by
 cases st with
 |Assign ts k p=>
  rcases ts with _|⟨t',_|_⟩
  .cases h
  .cases h;rfl
  .cases h
 |_=>cases h
noncomputable def xY(e:Expr):Option (Expr×Str×Pos):=match e with
 | .Attribute o f p=>some (o,f,p)
 |_=>none
theorem lP(h:xY e=some (o,f,p)):e=.Attribute o f p:=by
 cases e with
 |Attribute=>cases h;rfl
 |_=>cases h
def uw(tb:Tb)(r:Tr)(s:Sc)(_:Sc->Stmt->Option Ms)(st:Stmt):Option Ms:=af (uN st) λ(t,e,_)=>lD
 (af (xY t) λ(o,f,_)=>af (u0 o) λ(x,_)=>dd (s.lv.contains ("*nob" : Str)) (af (slot s x) λi=>af (r.E s e) λm=>match s.lv.contains f with
  |true=>some (iQ (fe tb f) i f m)
  | false=>some (dH (fe tb f) i f m)))
 (af (oO t) λ(a,b,_)=>af (wF s a) λ(i,_,f,_,_)=>af (u0 b) λ(y,_)=>af (slot s y) λj=>af (r.E s e) λm=>some (fA (fe tb f) i f j m))
theorem um{F:Sc->Stmt->Option Ms}(R:cD tb k r)(S:i5 tb k X E s)(L:∀l,Passes B7 X l->∀a m,F (Oo s) a=some m->JS X l a m){st:Stmt}{m:Ms}(h:uw tb r s F st=some m):JS X E st m:=by
 obtain⟨⟨t,e,pos⟩,h1,w⟩:=aa h;clear h;obtain rfl:=jd h1;rcases a6 w with z|z
 .clear w;obtain⟨⟨o,f,p⟩,h2,D⟩:=aa z;clear z;obtain rfl:=lP h2;obtain⟨⟨x,px⟩,h3,v⟩:=aa D;clear D;obtain rfl:=cI h3;obtain⟨_,B⟩:=aj v;clear v;obtain⟨i,e1,Z⟩:=aa B;clear B;obtain⟨q,e2,Y⟩:=aa Z;clear Z;obtain⟨a1,H,Q,A⟩:=S.slot e1;cases J:s.lv.contains f with
  |true=>rw[J] at Y;cases Y;exact DH a1 H Q A (λc C=>S.gd.fl _ c C) (R.E S.toSit e2) oz
  |false=>rw[J] at Y;cases Y;exact DY a1 H Q A (λc C=>S.gd.fl _ c C) (R.E S.toSit e2) oz
 .clear w;obtain⟨⟨a,b,K⟩,h2,D⟩:=aa z;clear z;obtain rfl:=fk h2;obtain⟨⟨i,x,f,px,O⟩,h3,v⟩:=aa D;clear D;obtain⟨rfl,a1,H,Q,A⟩:=fY S.toSit h3;obtain⟨⟨y,py⟩,h4,B⟩:=aa v;clear v;obtain rfl:=cI h4;obtain⟨j,e1,Z⟩:=aa B;clear B;obtain⟨q,e2,Y⟩:=aa Z;cases Y;obtain⟨b1,b2,T,u⟩:=S.slot e1;exact wo a1 H Q A b1 b2 T u (λc C=>S.gd.fl _ c C) (a8 rfl _ _ _) (R.E S.toSit e2) (λx y z=>lZ z (pG x y set_list (kZ rfl)) jo gj)
def xS(tb:Tb)(r:Tr)(s:Sc)(F:Sc->Stmt->Option Ms)(st:Stmt):Option Ms:=lD (uw tb r s F st) (none)
theorem Nh{F:Sc->Stmt->Option Ms}(R:cD tb k r)(S:i5 tb k X E s)(L:∀C,Passes B7 X C->∀a m,F (Oo s) a=some m->JS X C a m){st:Stmt}{m:Ms}(h:xS tb r s F st=some m):JS X E st m:=by
 rcases a6 h with h|h
 .exact um R S L h
 cases h
end
variable{base:Heap}{dV:Value}
section
variable{tb:Tb}{k:Nat}{X:Cx}{E:XK}{s:Sc}
def Fm(r:Tr)(s:Sc)(tg it:Expr)(b:Ms):Option Ms:=dd (j9 it) (af (OR r s tg it) λm=>af (Dx s 0 9 tg) λG=>some (iG m G b))
theorem AZ(R:cD tb k r)(S:i5 tb k X E s)(u:s.hd=false){it:Expr}{body:List Stmt}{b m:Ms}(d:rb X E body b)(h:Fm r s tg it b=some m):JS X E (.For tg it body [] pos) m:=by obtain⟨H,h⟩:=aj h;obtain⟨K,e1,h⟩:=aa h;obtain⟨G,e2,h⟩:=aa h;cases h;exact GF (S.po u) (S.cm u) (AL R S.toSit e1) (oU S.toSit e2) d (mI H _)
def yR(tb:Tb)(r:Tr)(s:Sc)(ts:List Expr)(e:Expr):Option Ms:=match ts with
 |[t]=>AW tb r s t e
 |_=>none
def Ol(tb:Tb)(r:Tr)(s:Sc)(ex ca:Option Expr):Option Ms:=some sA
def Qd(tb:Tb)(r:Tr)(s:Sc)(F:Sc->Stmt->Option Ms):Stmt->Option Ms
 | .Assign ts e _=>yR tb r s ts e
 | .Return none _=>some FZ
 | .Return (some e) _=>af (r.E s e) λm=>some (bB m)
 | .If t a b _=>af (r.T s t) λmt=>af (tH (F s) a) λm=>af (tH (F s) b) λn=>some (eP mt m n)
 | .While t b els _=>dd (!s.hd&&els.isEmpty) (af (r.T s t) λmt=>af (tH (F s) b) λm=>some (g8 zK mt m))
 | .For tg it b els _=>dd (!s.hd&&els.isEmpty) (af (tH (F s) b) λm=>Fm r s tg it m)
 | .Raise ex ca _=>Ol tb r s ex ca
 | .Expr e _=>dd (jI e) (af (r.E s e) λm=>some (dC m))
 |_=>none
def Gj(tb:Tb)(r:Tr):Nat->Sc->Stmt->Option Ms
 |0,_,_=>none
 |d+1,s,st=>lD (xS tb r s (Gj tb r d) st) (Qd tb r s (Gj tb r d) st)
theorem i5.LV{l:XK}(S:i5 tb k X E s)(h1:Passes B7 X l):i5 tb k X l (Oo s):=⟨⟨S.n,S.nd,S.gl,S.vs,S.lo,S.lc,S.ce,S.fx,S.cm,S.rm,λ_=>h1,S.gd⟩,S.po,S.st,S.bk⟩
theorem o8{r:Tr}(R:cD tb k r):∀{d:Nat}{X:Cx}{E:XK}{s:Sc}{st:Stmt}{m:Ms},i5 tb k X E s->Gj tb r d s st=some m->JS X E st m
 |0,X,E,s,st,m,S,h=>by cases h
 |d+1,X,E,s,st,m,S,h=>by
  have p:∀a m,Gj tb r d s a=some m->JS X E a m:=λa m e=>o8 R S e;unfold Gj at h;have h':=a6 h;clear h;rcases h' with h|h
  .exact Nh R S (λl h1 a m e=>o8 R (S.LV h1) e) h
  cases st with
  |Assign ts e _=>
   have h:yR tb r s ts e=some m:=h;unfold yR at h;split at h
   .exact ze R S h
   .cases h
  |Return v _=>cases v with
   |none=>cases h;exact D3
   |some e=>obtain⟨K,e1,h⟩:=aa h;cases h;exact IP (R.E S.toSit e1)
  |If t a b _=>obtain⟨mt,e1,h⟩:=aa h;obtain⟨K,e2,h⟩:=aa h;obtain⟨L,N,h⟩:=aa h;cases h;exact MU (R.T S.toSit e1) (iA p e2) (iA p N)
  |While t b x _=>have h':=aj h;clear h;obtain⟨H,h⟩:=h';simp only[QE,Ri,R4] at H;obtain⟨u,rfl⟩:=H;obtain⟨mt,e1,h⟩:=aa h;obtain⟨K,e2,h⟩:=aa h;cases h;exact yK (S.po u) (R.T S.toSit e1) (iA p e2)
  |For tg it b x _=>have h':=aj h;clear h;obtain⟨H,h⟩:=h';simp only[QE,Ri,R4] at H;obtain⟨u,rfl⟩:=H;obtain⟨K,e2,h⟩:=aa h;exact AZ R S u (iA p e2) h
  |Raise ex ca _=>cases h;exact Dj
  |Expr e _=>obtain⟨H,h⟩:=aj h;obtain⟨K,e1,h⟩:=aa h;cases h;exact DW (R.E S.toSit e1) (kC H _ _ _)
  |Pass _=>cases h
  |Break _=>cases h
  |Continue _=>cases h
  |_=>cases h
structure DI where
 cl:Option Str
 name:Str
 st:Stmt
 N:List Str
 n:Nat
 di:List Str
 mu:List Bool
 df:List A
 lv:List Str
 m:Ms
 ce:List Str:=[]
 tp:Bool:=false
 sp:Bool:=false
 bo:Option (Nat×Nat×Nat×List Nat):=none
def DI.sc(d:DI):Sc:={ N:=d.N,nm:=(bh d.st).names,di:=d.di,ca:=[],hd:=false,lv:=d.lv }
def gQ(d:DI):Bool:=(bh d.st).kind==.function&&!(bh d.st).isCoroutine&&!(bh d.st).isGenerator&&decide d.N.Nodup&&So d.n d.N.length&&(d.N.take d.n).all (λx=>(bh d.st).names.lookup x==some .local || (bh d.st).names.lookup x==some .cell)&&(bh d.st).names.all (λy=>y.2 != .free)
variable{d:DI}
theorem iD(h:gQ d=true):j0 d.N (d.N.take d.n) (bh d.st)/\(d.N.take d.n).length=d.n:=by
 unfold gQ at h;simp only[QE,Zy,Ri,decide_eq_true_eq,R3,Sj,bne_iff_ne,ne_eq] at h;obtain⟨⟨⟨⟨⟨⟨h1,h2⟩,h3⟩,h4⟩,h5⟩,S⟩,m⟩:=h;have hl:(d.N.take d.n).length=d.n:=by rw[RL];have:=RI h5;lia
 exact⟨⟨h1,h2,h3,h4,by rw[hl],S,m⟩,hl⟩
def DI.M(d:DI):Ms:=cq (d.N.length-d.n) d.m
noncomputable def DI.fi(d:DI):FI:=⟨d.n,d.M,d.mu,d.df,!d.ce.isEmpty⟩
noncomputable def DI.qual(d:DI):Str:=match d.cl with
 |none=>d.name
 |some c=>c++(("." : Str)++d.name)
def Tb.add(tb:Tb)(d:DI):Tb:=match d.cl with
 |none=>{ tb with fns:=(d.name,d.fi)::tb.fns }
 |some c=>match d.name==("__init__" : Str) with
  |true=>{ tb with fM:=(c,d.fi)::tb.fM }
  |false=>{ tb with mts:=(d.name,c,d.fi)::tb.mts }
noncomputable def rj:Nat:=40
noncomputable def Fq:Ms:=λ_=>none
theorem zr{l:List Stmt}:rb X E l Fq:=⟨λpins s Y H D I h=>by obtain⟨c,Z,B,θ,f,O,e,b,em,q⟩:=h;cases em⟩
def vZ(tb:Tb)(r:Tr)(s:Sc)(a b:Stmt):Option Ms:=af (uN a) λ(t,e,_)=>af (oO t) λ(J,h,_)=>af (u0 J) λ(x,_)=>af (u0 h) λ(y,_)=>
 af (uN b) λ(w,e2,_)=>af (oO w) λ(u,T,_)=>af (oO u) λ(I,Y,_)=>af (u0 I) λ(v,_)=>af (u0 Y) λ(c,_)=>af (u0 T) λ(z,_)=>af (xY e2) λ(U,f,_)=>af (u0 U) λ(o,_)=>
 dd (s.lv.contains ("*nob" : Str)&&x==v&&y==c) (af (slot s x) λi=>af (slot s y) λj=>af (slot s z) λl=>af (slot s o) λq=>af (r.E s e) λm=>some (u9 (fe tb f) i j l q f m))
theorem tU(R:cD tb k r)(S:i5 tb k X E s){a b:Stmt}{m:Ms}(h:vZ tb r s a b=some m):∃ta Z,PS X a ta/\PS X b Z/\∀D Y H,Gf (kx X) E m D Y H->zI ta Z D Y H:=by
 obtain⟨⟨t,e,p1⟩,h1,G⟩:=aa h;clear h;obtain rfl:=jd h1;obtain⟨⟨x1,y1,p2⟩,h2,I⟩:=aa G;clear G;obtain rfl:=fk h2;obtain⟨⟨x,p3⟩,h3,N⟩:=aa I;clear I;obtain rfl:=cI h3;obtain⟨⟨y,p4⟩,h4,P⟩:=aa N;clear N;obtain rfl:=cI h4;obtain⟨⟨t2,e2,p5⟩,h5,g⟩:=aa P;clear P;obtain rfl:=jd h5;obtain⟨⟨u,z1,p6⟩,h6,U⟩:=aa g;clear g;obtain rfl:=fk h6;obtain⟨⟨x2,y2,p7⟩,h7,J⟩:=aa U;clear U;obtain rfl:=fk h7;obtain⟨⟨x',p8⟩,h8,V⟩:=aa J;clear J;obtain rfl:=cI h8;obtain⟨⟨y',p9⟩,h9,n⟩:=aa V;clear V;obtain rfl:=cI h9;obtain⟨⟨z,q1⟩,g1,v⟩:=aa n;clear n;obtain rfl:=cI g1;obtain⟨⟨o1,f,q2⟩,g2,B⟩:=aa v;clear v;obtain rfl:=lP g2;obtain⟨⟨o,q3⟩,g3,w⟩:=aa B;clear B;obtain rfl:=cI g3;obtain⟨d,A⟩:=aj w;clear w;rw[QE,QE,Zy,Zy] at d;obtain⟨⟨_,rfl⟩,rfl⟩:=d;obtain⟨i,e3,L⟩:=aa A;clear A;obtain⟨j,e4,F⟩:=aa L;clear L;obtain⟨l,e5,K⟩:=aa F;clear F;obtain⟨q,e6,T⟩:=aa K;clear K;obtain⟨m1,e7,O⟩:=aa T;clear T;cases O;obtain⟨a1,a2,a3,a4⟩:=S.slot e3;obtain⟨b1,b2,b3,b4⟩:=S.slot e4;obtain⟨c1,c2,c3,c4⟩:=S.slot e5;obtain⟨d1,d2,d3,d4⟩:=S.slot e6;exact⟨_,_,lZ (R.E S.toSit e7).p (pG (bM a1 a2 a3 a4) (bM b1 b2 b3 b4) set_list (kZ rfl)) jo gj,
  lZ (eV (bM d1 d2 d3 d4) (a8 rfl _ _ _)) (pG (zt qh (bM a1 a2 a3 a4) (bM b1 b2 b3 b4) (λ_ _=>rfl)) (bM c1 c2 c3 c4) set_list (kZ rfl)) jo gj,
  xG (λc C=>S.gd.fl _ c C) λY H Q h=>h⟩
def DF(P:Stmt->Stmt->Option Ms)(F:Stmt->Option Ms):List Stmt->Option Ms
 |[]=>some ba
 |[a]=>F a
 |a::b::r=>lD (af (P a b) λm=>af (DF P F r) λn=>some (av m n)) (af (F a) λm=>af (DF P F (b::r)) λn=>some (av m n))
theorem oV{P:Stmt->Stmt->Option Ms}{F:Stmt->Option Ms}(hp:∀a b m,P a b=some m->∃ta tb,PS X a ta/\PS X b tb/\∀D Y H,Gf (kx X) E m D Y H->zI ta tb D Y H)(h:∀a m,F a=some m->JS X E a m):∀{l:List Stmt}{m:Ms},DF P F l=some m->rb X E l m
 |[],m,e=>by cases e;exact uR
 |[a],m,e=>vc (h _ _ e)
 |a::b::r,m,e=>by
  rcases a6 e with e|e
  .obtain⟨K,e1,e⟩:=aa e;obtain⟨L,e2,e⟩:=aa e;cases e;obtain⟨ta,tb,C,v,w⟩:=hp _ _ _ e1;exact Ak C v w (oV hp h e2)
  .obtain⟨K,e1,e⟩:=aa e;obtain⟨L,e2,e⟩:=aa e;cases e;exact sf (h _ _ e1) (oV hp h e2)
def uj(tb:Tb)(d:DI):Option Ms:=match d.sp with
 |true=>some Fq
 |false=>DF (vZ tb (tr tb rj) d.sc) (Gj tb (tr tb rj) rj d.sc) (fw d.st)
theorem Du{m:Ms}(h:uj tb d=some m)(S:i5 tb k X E d.sc):rb X E (fw d.st) m:=by
 unfold uj at h;split at h
 .cases h;exact zr
 .have ok:∀{l:List Stmt}{m:Ms},tH (Gj tb (tr tb rj) rj d.sc) l=some m->rb X E l m:=λh=>iA (λa m e=>o8 (jX rj) S e) h;exact oV (λa b m e=>tU (jX rj) S e) (λa m e=>o8 (jX rj) S e) h
theorem E9{P:Program}{f:Addr}{qual:Str}(G:Gd tb k P w K mg base)(F:pH K d.name qual d.st f fd dV)(hs:gQ d=true)
  (h:uj tb d=some d.m):dJ P w K mg base B7 (k+1) f fd (d.N.take d.n) (jb ⟨K,mg,P,w⟩ d.n d.M):=by
 obtain⟨S,hl⟩:=iD hs;have key:=Cu (CX:=B7) (P:=P) (w:=w) (mg:=mg) (base:=base) (k:=k) (m:=d.m) F S (λcdv A outer s H E hr=>Du h (?_:i5 tb k _ E d.sc))
 .rw[hl] at key;exact key
 .refine⟨⟨rfl,S.nd,λx hx=>hx,λx hx=>?_,λx hx=>?_,λx hx=>hx,λx=>⟨λhx=>hx,.inr⟩,λx hx=>.inl rfl,λ_=>rfl,λ_=>hr,λ_ _ _ _ _ _ _ _ x=>x.elim,G⟩,λ_=>YH.leaving,λ_=>⟨rfl,rfl,rfl⟩,?_⟩
  .unfold Cj qq DI.sc at hx;simp only[Sj,Zy] at hx;rcases hx with (z|z)|z
   .exact .inl z
   .exact .inr (.inl z)
   .exact .inr (.inr z)
  .unfold sZ qq DI.sc at hx;simp only[Sj,Zy] at hx;exact hx
  .show (if (bh d.st).kind.isAnnotationScope then ScopeKind.function else (bh d.st).kind)=.function;rw[S.kind];rfl
end
theorem tW:∀{us:List Value}{n:Str},us.length=ps.length->n∈ps->((ps.zip us).lookup n).isSome=true:=by
 induction ps with
 |nil=>intro us n _ h;cases h
 |cons p ps m=>
  intro us n hl h;cases us with
  |nil=>cases hl
  |cons u us=>
   rw[SV,QY];split
   .rfl
   .rename_i z;rcases QL.mp h with y|y
    .rw[y,beq_self_eq_true] at z;cases z
    .exact m (by simpa using hl) y
theorem mO:∀{us:List Value}{pre:List (Str×Value)},us.length=ps.length->ps.Nodup->(∀n∈ps,pre.lookup n=none)->ps.filterMap (λn=>((pre++ps.zip us).lookup n).map (n,·))=ps.zip us:=by
 induction ps with
 |nil=>intro us pre _ _ _;rfl
 |cons p ps m=>
  intro us pre hl nd hp;cases us with
  |nil=>cases hl
  |cons u us=>
   obtain⟨e,C⟩:=Rf.mp nd;have e1:(pre++(p,u)::ps.zip us).lookup p=some u:=by rw[Ry,hp p QV,QY,beq_self_eq_true];rfl
   rw[SV,Ti,e1];show (p,u)::_=_
   congr 1
   have:=m (us:=us) (pre:=pre++[(p,u)]) (by simpa using hl) C (λn hn=>by rw[Ry,hp n (QM _ hn),QY];have:(n==p)=false:=beq_eq_false_iff_ne.mpr λz=>e (z▸hn);rw[this];rfl)
   simpa[QJ] using this
theorem kD{α β:Type}{f:α->β->Sem (ForInStep β)}{g:β->α->β}(h:∀a b,f a b=pure (.yield (g b a))):∀(l:List α)(b:β),(forIn l b f:Sem β)=pure (l.foldl g b)
 |[],_=>rfl
 |a::l,b=>by rw[Wv,h,pure_bind];exact kD h l _
noncomputable def qZ(S:List (Str×Value))(x:Str×Value):List (Str×Value):=if (S.lookup x.1).isNone=true then S++[(x.1,x.2)] else S
variable{us:List Value}
theorem pX(h1:fd.params.posonlyargs=[])(h2:fd.params.kwonlyargs=[])(h3:fd.params.vararg=none)(h4:fd.params.kwarg=none)(S:fd.params.args.map (·.arg)=ps)(hl:us.length<=ps.length):
  ∃k,bindArgs fd ⟨us,[]⟩=seqItems? fd.defaults >>= k/\∀(o:Option (Array Value))(ds:List Value),(o.getD #[]).toList.drop ((o.getD #[]).toList.length-ps.length)=ds->
   (ps.take (ps.length-ds.length)).filter (λn=>((ps.zip us).lookup n).isNone)=[]->
   k o=pure ((ps++[]).filterMap λn=>((((ps.drop (ps.length-ds.length)).zip ds).foldl qZ (ps.zip us)).lookup n).map (n,·)):=by
 obtain⟨nm,c,pr,bo,sc,gl,cl,de,q,s,pm,an,cd,ct,F⟩:=fd;obtain⟨po,h,p,x,E,j,df⟩:=pr;obtain rfl:h.map (·.arg)=ps:=S;obtain rfl:po=[]:=h1;obtain rfl:x=[]:=h2;obtain rfl:p=none:=h3;obtain rfl:j=none:=h4;refine⟨_,rfl,λo ds hd hm=>?_⟩;subst hd;refine(Zu (λz=>?_)).trans ?_
 .rw[QE,decide_eq_true_eq] at z;exact absurd z.1 (UH.mpr hl)
 refine(Zu (λz=>?_)).trans ?_
 .rw[Ri,List.isEmpty_eq_false_iff] at z;exact z hm
 refine(Zx (· >>= _) (kD (g:=qZ) (λa b=>?_) _ _)).trans ?_
 .unfold qZ;by_cases z:(b.lookup a.1).isNone=true
  .rw[Zt z];exact Zt z
  .rw[Zu z];exact Zu z
 .exact rfl
theorem ju(hl:us.length=ps.length):ps.filter (λn=>((ps.zip us).lookup n).isNone)=[]:=by
 rw[Su];intro n hn;have:=tW hl hn;cases e:(ps.zip us).lookup n with
 |none=>rw[e] at this;cases this
 |some v=>exact Rp
theorem qO(h1:fd.params.posonlyargs=[])(h2:fd.params.kwonlyargs=[])(h3:fd.params.vararg=none)(h4:fd.params.kwarg=none)(h5:fd.defaults=.none)(S:fd.params.args.map (·.arg)=ps)(nd:ps.Nodup)(hl:us.length=ps.length):
  bindArgs fd ⟨us,[]⟩=pure (ps.zip us):=by
 obtain⟨k,e1,e2⟩:=pX (us:=us) h1 h2 h3 h4 S (Ue hl);rw[e1,h5];refine(e2 none [] WQ (by rw[List.length_nil,VI,Wf];exact ju hl)).trans ?_;rw[RK,List.zip_nil_right];have F:=mO (pre:=[]) hl nd (λn _=>rfl);rw[Ui] at F;exact Zx pure F
theorem A3:∀{us:List Value}{z:Str},z∉ps->(ps.zip us).lookup z=none:=by
 induction ps with
 |nil=>intro us z _;rfl
 |cons p ps m=>
  intro us z hz;cases us with
  |nil=>rfl
  |cons u us=>rw[SV,QY];have:(z==p)=false:=beq_eq_false_iff_ne.mpr λy=>hz (y▸QV);rw[this];exact m λy=>hz (QM _ y)
theorem wK{qs:List Str}:∀{us:List Value},us.length=ps.length->(ps++qs).zip us=ps.zip us:=by
 induction ps with
 |nil=>intro us h;cases us with
  |nil=>cases qs<;>rfl
  |cons _ _=>cases h
 |cons p ps m=>intro us h;cases us with
  |nil=>cases h
  |cons u us=>rw[SH,SV,SV,m (by simpa using h)]
theorem zo{s:Shared}{qs:List Str}{z:Str}{a:Addr}{o:Obj}{h:Value}{p:Nat}(h1:fd.params.posonlyargs=[])(h2:fd.params.kwonlyargs=[])(h3:fd.params.vararg=none)(h4:fd.params.kwarg=none)(h5:fd.defaults=.ref a)(ho:s.heap.get? a=some o)(hs:o.data=.seq #[h] p)
  (V:fd.params.args.map (·.arg)=qs++[z])(nd:(qs++[z]).Nodup):
  (us.length=(qs++[z]).length->YR s fd ⟨us,[]⟩ ((qs++[z]).zip us))/\(us.length=qs.length->YR s fd ⟨us,[]⟩ ((qs++[z]).zip (us++[h]))):=by
 have nz:z∉qs:=λy=>(QQ.mp nd).2.2 z y z QV rfl;have e1:Wi (1-(qs++[z]).length) [h]=[h]:=by rw[show 1-(qs++[z]).length=0 by simp];rfl
 have e2:(qs++[z]).take ((qs++[z]).length - [h].length)=qs:=by simp
 have N:(qs++[z]).drop ((qs++[z]).length - [h].length)=[z]:=by simp
 refine⟨λhl=>?_,λhl=>?_⟩
 .obtain⟨k,P,S⟩:=pX (us:=us) h1 h2 h3 h4 V (Ue hl);refine .of_defaults h5 ho hs P ((S (some #[h]) [h] e1 ?_).trans ?_)
  .rw[e2,Su];exact λn hn=>Su.mp (ju hl) n (QI _ hn)
  .have F:¬ (((qs++[z]).zip us).lookup z).isNone=true:=Su.mp (ju hl) z (QG _ QV);rw[N];have A:UC qZ ((qs++[z]).zip us) ([z].zip [h])=(qs++[z]).zip us:=Zu F;rw[A,RK];exact Zx pure (mO (pre:=[]) hl nd (λn _=>rfl))
 .obtain⟨k,P,S⟩:=pX (us:=us) h1 h2 h3 h4 V (by rw[hl,Q2];exact SM _ _);have hz:(qs++[z]).zip us=qs.zip us:=wK hl;refine .of_defaults h5 ho hs P ((S (some #[h]) [h] e1 ?_).trans ?_)
  .rw[e2,hz];exact ju hl
  .have i:(us++[h]).length=(qs++[z]).length:=by rw[Q2,Q2,hl];rfl
   have B:(qs++[z]).zip (us++[h])=qs.zip us++[(z,h)]:=by rw[List.zip_append hl.symm];rfl
   rw[N,hz];have A:UC qZ (qs.zip us) ([z].zip [h])=qs.zip us++[(z,h)]:=Zt (by rw[A3 nz];rfl);rw[A,<-B,RK];exact Zx pure (mO (pre:=[]) i nd (λn _=>rfl))
mutual
noncomputable def AH(K:QF):Nat->Value->A->Bool
 |0,_,_=>false
 |n+1,v,a=>match v,a with
  | .none,.non=>true
  | .bool b,.bl c=>b==c
  | .int i _,.int j=>i==j
  | .str x _,.str y=>x==y
  | .ref p,.tup as=>(match K.lookup p with
   |some ⟨.type "tuple",none,.seq its _,_⟩=>So its.size 1000&&rJ K n its.toList as
   | _=>false)
  |_,_=>false
noncomputable def rJ(K:QF):Nat->List Value->List A->Bool
 |0,_,_=>false
 |_+1,[],[]=>true
 |n+1,v::vs,a::as=>AH K n v a&&rJ K n vs as
 |_+1,_,_=>false
end
mutual
theorem pN{P:Program}{w:XR}{K:QF}{mg:Str->Option Value}:∀{n:Nat}{v:Value}{a:A},AH K n v a=true->∃x,RelV x v/\∀G,RA ⟨K,mg,P,w⟩ G x a
 |0,v,a,h=>by cases h
 |n+1,v,a,h=>by
  cases v with
  |none=>cases a with
   |non=>exact⟨.non,rfl,λ_=>.non⟩
   |_=>exact JN h
  |bool b=>cases a with
   |bl c=>obtain rfl:b=c:=eq_of_beq h;exact⟨.bl _,rfl,λ_=>.bl _⟩
   |_=>exact JN h
  |int i t=>cases a with
   |int j=>obtain rfl:i=j:=eq_of_beq h;exact⟨.int _,⟨_,rfl⟩,λ_=>.int _⟩
   |_=>exact JN h
  |str x t=>cases a with
   |str y=>obtain rfl:x=y:=eq_of_beq h;exact⟨.str _,⟨_,rfl⟩,λ_=>.str _⟩
   |_=>exact JN h
  |ref p=>cases a with
   |tup as=>
    replace h:(match K.lookup p with
     |some ⟨.type "tuple",none,.seq r _,_⟩=>So r.size 1000&&rJ K n r.toList as
     | _=>false)=true:=h
    split at h
    .rename_i r E sl e
     rw[QE] at h
     obtain⟨xs,h1,h2⟩:=rT (P:=P) (w:=w) (mg:=mg) h.2
     refine⟨.ref _,rfl,λG=>.tup (.inr ⟨_,r,_,e,⟨rfl,rfl⟩,rfl,?_,h1⟩) (h2 G)⟩
     have:=RI h.1
     have:=oM
     lia
    .cases h
   |_=>exact JN h
  |_=>exact JN h
theorem rT{P:Program}{w:XR}{K:QF}{mg:Str->Option Value}:∀{n:Nat}{vs:List Value}{as:List A},rJ K n vs as=true->∃xs,Vals xs vs/\∀G,bN ⟨K,mg,P,w⟩ G xs as
 |0,vs,as,h=>by cases h
 |_+1,[],[],h=>⟨[],.nil,λ_=>.nil⟩
 |n+1,v::vs,a::as,h=>by
  replace h:(AH K n v a&&rJ K n vs as)=true:=h
  rw[QE] at h
  obtain⟨x,h1,h2⟩:=pN (P:=P) (w:=w) (mg:=mg) h.1
  obtain⟨xs,h3,h4⟩:=rT (P:=P) (w:=w) (mg:=mg) h.2
  exact⟨x::xs,.cons h1 h3,λG=>.cons (h2 G) (h4 G)⟩
 |_+1,[],_::_,h=>by cases h
 |_+1,_::_,[],h=>by cases h
end
noncomputable def gV(K:QF)(x:Str):Option Value:=match Vg K XT x with
 |some (some v)=>some v
 |_=>none
variable{h:Heap}
theorem uW(X:K.In h)(G:h.Ns XT mg){x:Str}{v:Value}(e:gV K x=some v):mg x=some v:=by
 unfold gV at e;split at e
 .rename_i q;cases e;exact PySem.W.mg_of X G q
 .cases e
def Md(K:QF)(p:Str×A):Bool:=match gV K p.1 with
 |some v=>AH K 20 v p.2
 |none=>false
noncomputable def pA(K:QF)(C:Addr):Bool:=S1 K C Str.empty&&Tt K C&&Uy K C&&RN K (.ref C) "__setattr__" == some (some (.builtin "object.__setattr__"))
theorem oQ{C:Addr}(h:pA K C=true):hJ K C:=by unfold pA at h;simp only[QE,Zy] at h;obtain⟨⟨⟨h1,h2⟩,h3⟩,h4⟩:=h;exact⟨h1,h2,h3,h4⟩
def ME(K:QF)(p:Str×List Str):Bool:=match gV K p.1 with
 |some (.ref C)=>pA K C&&p.2.all λf=>RN K (.ref C) f==some none
 |_=>false
def E4(tb:Tb)(K:QF):Bool:=tb.fns.isEmpty&&tb.cst.all (Md K)&&D2.all (λx=>Vg K XT x==some none)&&tb.fld.all (ME K)&&tb.fM.isEmpty&&tb.mts.isEmpty
variable{tb:Tb}
theorem G3{P:Program}(X:K.In h)(G:h.Ns XT mg)(e:E4 tb K=true):Gd tb 1 P w K mg base:=by
 unfold E4 at e;simp only[QE,R4,R3,Zy] at e;obtain⟨⟨⟨⟨⟨e1,e2⟩,N⟩,Y⟩,u⟩,b⟩:=e;refine⟨λx f q=>(by rw[e1] at q;cases q),λx a q=>?_,λx q=>PySem.W.mg_none_of X G (N x q),λf c C q hm=>?_,λc f q=>(by rw[u] at q;cases q),λm c f q=>(by rw[b] at q;cases q)⟩
 .have:=e2 _ (d6 q);unfold Md at this;split at this
  .rename_i v o;obtain⟨y,E,s⟩:=pN (P:=P) (w:=w) (mg:=mg) this;exact⟨y,v,uW X G o,E,s⟩
  .cases this
 .obtain⟨p,g,l⟩:=Rh.mp (Sz.mp q);obtain⟨z,Z⟩:=Uc.mp g;have t:=Y p z;subst l;unfold ME at t;split at t
  .rename_i T o;have:=uW X G o;rw[hm] at this;cases this;rw[QE,R3] at t;have:=t.2 f (Sz.mp Z);exact⟨oQ t.1,by rw[Zy] at this;exact this⟩
  .cases t
def tu(d:DI):Bool:=(dY d.st).posonlyargs.isEmpty&&(dY d.st).kwonlyargs.isEmpty&&(dY d.st).vararg.isNone&&(dY d.st).kwarg.isNone&&(dY d.st).args.map (·.arg)==d.N.take d.n
def JQ(K:QF)(dV:Value)(a:A):Bool:=match dV with
 | .ref td=>match K.lookup td with
  | some ⟨_,_,.seq its _,_⟩=>(match its.toList with
   |[v]=>AH K 20 v a
   | _=>false)
  |_=>false
 |_=>false
def wV(K:QF)(dV:Value):List A->Bool
 |[]=>match dV with
  | .none=>true
  |_=>false
 |[a]=>JQ K dV a
 |_=>false
variable{d:DI}
theorem Gm{P:Program}{qual:Str}{f:Addr}(h:tu d=true)(hs:gQ d=true)(F:pH K d.name qual d.st f fd dV)(hd:wV K dV d.df=true):lH P w K mg fd (d.N.take d.n) d.df:=by
 unfold tu at h;simp only[QE,R4,RE,Zy] at h;obtain⟨⟨⟨⟨h1,h2⟩,h3⟩,h4⟩,h5⟩:=h;obtain⟨S,hl⟩:=iD hs;have nd:=S.nd.sublist (UO d.n d.N);obtain⟨A,R⟩:fd.params=dY d.st/\fd.defaults=dV:=by obtain⟨oc,od,kV,doc,pm,an,cdv,ct,osl,e,_⟩:=F.ex;rw[e];exact⟨rfl,rfl⟩
 rw[<-A] at h1 h2 h3 h4 h5;clear F A S hl hs;cases e:d.df with
 |nil=>
  rw[e] at hd;have hd:dV=.none:=by cases dV<;>first|rfl|cases hd
  subst hd
  .intro j o;refine⟨[],[],Binds.all λus g=>qO h1 h2 h3 h4 R h5 nd g,.nil,λ_=>?_⟩;rw[WQ];exact .nil
 |cons a as=>
  cases as with
  |cons _ _=>rw[e] at hd;cases hd
  |nil=>
   rw[e] at hd
   replace hd:JQ K dV a=true:=hd
   unfold JQ at hd;split at hd
   .rename_i Y;split at hd
    .rename_i x y b i sl Q;split at hd
     .rename_i v c;obtain⟨p,u,O⟩:=pN (P:=P) (w:=w) (mg:=mg) hd;have hi:b=#[v]:=by rw[<-V8,c]
      subst hi;have bo:∀(s:Shared)(us:List Value),K.In s.heap->((us.length=(d.N.take d.n).length->YR s _ ⟨us,[]⟩ ((d.N.take d.n).zip us))/\(us.length+1=(d.N.take d.n).length->YR s _ ⟨us,[]⟩ ((d.N.take d.n).zip (us++[v])))):=λs us H=>by
       rcases List.eq_nil_or_concat (d.N.take d.n) with z|⟨qs,Z,z⟩
       .rw[z] at h5 ⊢;refine⟨λhl=>?_,λhl=>by cases hl⟩;cases us with
        |cons _ _=>cases hl
        |nil=>obtain⟨k,r,E⟩:=pX (us:=[]) h1 h2 h3 h4 h5 (QN 0);exact .of_defaults R (H _ _ Q) rfl r (E (some #[v]) [] rfl rfl)
       .rw[List.concat_eq_append] at z;rw[z] at h5 nd ⊢;have:=zo (s:=s) (us:=us) h1 h2 h3 h4 R (H _ _ Q) rfl h5 nd;exact⟨this.1,λq=>this.2 (by simpa using q)⟩
      intro j o;rcases Nat.le_one_iff_eq_zero_or_eq_one.mp o with rfl|rfl
      .exact⟨[v],[p],λs us H g=>(bo s us H).2 (by simpa using g),.cons u .nil,λG=>.cons (O G) .nil⟩
      .exact⟨[],[],λs us H g=>by rw[RK] at g ⊢;exact(bo s us H).1 g,.nil,λG=>.nil⟩
     .cases hd
    .cases hd
   .cases hd
def vM:Tb->List DI->List (Option Ms)
 |_,[]=>[]
 |tb,d::ds=>uj tb d::vM (tb.add d) ds
def vP:Tb->List DI->Tb
 |tb,[]=>tb
 |tb,d::ds=>vP (tb.add d) ds
def iY(K:QF)(mg:Str->Option Value)(d:DI)(f:Addr):Prop:=match d.cl with
 |none=>mg d.name=some (.ref f)
 |some c=>∃C,mg c=some (.ref C)/\hJ K C/\Meth K C d.name f/\(d.name=("__init__" : Str)->Mk K C f)
section
variable{P:Program}{w:XR}{K:QF}{mg:Str->Option Value}{base:Heap}
theorem Gd.up{j k:Nat}(G:Gd tb j P w K mg base)(h:j<=k):Gd tb k P w K mg base:=⟨λx f e=>by
 obtain⟨a,fd,ps,F,r⟩:=G.fn x f e;exact⟨a,fd,ps,F.mono h,r⟩,G.cs,G.bl,G.fl,λc f e=>by
 obtain⟨C,a,fd,ps,i,hi,r⟩:=G.im c f e;exact⟨C,a,fd,ps,i,Ru hi h,r⟩,λm c f e=>by
 obtain⟨C,a,fd,ps,F,r⟩:=G.mt m c f e;exact⟨C,a,fd,ps,F.mono h,r⟩⟩
theorem Gd.add{tb:Tb}{k:Nat}(G:Gd tb k P w K mg base){d:DI}{f:Addr}{fd:XX}{dV:Value}(m:iY K mg d f)(F:pH K d.name d.qual d.st f fd dV)(hd:wV K dV d.df=true)(hs:gQ d=true)(hp:tu d=true)
  (h:uj tb d=some d.m):Gd (tb.add d) (k+2) P w K mg base:=by
 have G2:=G.up (show k<=k+2 by lia);have a:=E9 G F hs h;have b:lH P w K mg fd (d.N.take d.n) d.df:=Gm hp hs F hd;unfold Tb.add;unfold iY at m;split
 .rename_i hc;rw[hc] at m;refine⟨λx fi e=>?_,G2.cs,G2.bl,G2.fl,G2.im,G2.mt⟩
  .have e:((d.name,d.fi)::tb.fns).lookup x=some fi:=e;rw[QY] at e;cases z:x==d.name with
   |true=>rw[z] at e;cases e;rw[Zy] at z;subst z;exact⟨f,fd,_,a.mono (Uu _),m,F.kp,b⟩
   |false=>rw[z] at e;exact G2.fn x fi e
 .rename_i c hc;rw[hc] at m;obtain⟨C,q,L,p,o⟩:=m;split
  .rename_i z;rw[Zy] at z;refine⟨G2.fn,G2.cs,G2.bl,G2.fl,λx fi e=>?_,G2.mt⟩;have e:((c,d.fi)::tb.fM).lookup x=some fi:=e;rw[QY] at e;cases y:x==c with
   |true=>rw[y] at e;cases e;rw[Zy] at y;subst y;exact⟨C,f,fd,_,k+1,QN _,a,q,o z,b⟩
   |false=>rw[y] at e;exact G2.im x fi e
  .refine⟨G2.fn,G2.cs,G2.bl,G2.fl,G2.im,λx y fi e=>?_⟩;rcases QL.mp e with e|e
   .cases e;exact⟨C,f,fd,_,a.mono (Uu _),q,L,p,b⟩
   .exact G2.mt x y fi e
theorem Gd.all:∀{ds:List DI}{tb:Tb}{k:Nat},Gd tb k P w K mg base->(∀d∈ds,∃f fd dV,iY K mg d f/\pH K d.name d.qual d.st f fd dV/\wV K dV d.df=true)->ds.all (λd=>gQ d&&tu d)=true->vM tb ds=ds.map (λd=>some d.m)->Gd (vP tb ds) (k+2*ds.length) P w K mg base
 |[],tb,k,G,_,_,_=>G
 |d::ds,tb,k,G,hf,hs,ht=>by rw[Q7,QE,QE] at hs;obtain⟨L,t⟩:=List.cons.inj ht;obtain⟨f,fd,dV,m,F,hd⟩:=hf d QV;have:=Gd.all (G.add m F hd hs.1.1 hs.1.2 L) (λe he=>hf e (QM _ he)) hs.2 t;rw[QU,show k+2*(ds.length+1)=k+2+2*ds.length by lia];exact this
end
noncomputable abbrev zZ:=Str×Str×Arguments×Zc×Scope×Addr×List (Str×Addr)×Addr×Bool
def Lu(K:QF)(d:DI):Option Addr:=match d.cl with
 |none=>match gV K d.name with
  |some (.ref f)=>some f
  |_=>none
 |some c=>match gV K c with
  |some (.ref C)=>match RN K (.ref C) d.name with
   |some (some (.ref f))=>some f
   |_=>none
  |_=>none
def NO(K:QF)(d:DI)(f:Addr):Bool:=match d.cl with
 |none=>true
 |some c=>match gV K c with
  |some (.ref C)=>pA K C&&Ux K (.ref f)&&(!(d.name==("__init__" : Str)) || (UT K C&&Sa K (.ref C)))
  |_=>false
def IV(K:QF)(d:DI):Option zZ:=match Lu K d with
 |some f=>match K.lookup f with
  |some ⟨_,_,.func x,_⟩=>some (x.name,x.qualname,x.params,x.body,x.scope,x.globals,x.closure,x.builtins,Ug K x.code d.qual&&Sa K (.ref f)&&wV K x.defaults d.df&&NO K d f)
  |_=>none
 |none=>none
def GS(d:DI):Option zZ:=some (d.name,d.qual,dY d.st,.stmts (fw d.st),bh d.st,XT,[],YM,true)
theorem DE(X:K.In h)(G:h.Ns XT mg)(e:IV K d=GS d):∃f fd dV,iY K mg d f/\pH K d.name d.qual d.st f fd dV/\wV K dV d.df=true:=by
 unfold IV GS at e;split at e
 .rename_i f B;split at e
  .rename_i a1 r x i Q;obtain⟨b1,b2,T,J,F,D,w,j,H,p,b,q,s,Y,v⟩:=x;simp only[Vo,Prod.mk.injEq] at e;obtain⟨rfl,rfl,rfl,rfl,rfl,rfl,rfl,rfl,E⟩:=e;simp only[QE] at E;obtain⟨⟨⟨g,n⟩,t⟩,l⟩:=E;refine⟨f,_,_,?_,⟨⟨_,_,_,_,_,_,_,_,_,rfl,Q,g⟩,n⟩,t⟩;unfold iY;unfold Lu at B;unfold NO at l;split
   .rename_i hc;rw[hc] at B;simp only at B;split at B
    .rename_i Z o;cases B;exact uW X G o
    .cases B
   .rename_i c hc;rw[hc] at B l;simp only at B l;split at B
    .rename_i C o;rw[o] at l;simp only[QE,Sj,Ri,beq_eq_false_iff_ne] at l;split at B
     .rename_i Z a;cases B;refine⟨C,uW X G o,oQ l.1.1,⟨a,l.1.2,n⟩,λz=>?_⟩;rcases l.2 with y|y
      .exact absurd z y
      .rw[z] at a;exact⟨y.1,a,l.1.2,y.2⟩
     .cases B
    .cases B
  .cases e
 .cases e
def Kp(ds:List DI)(c:QF->Bool)(K:QF):List (Option zZ)×Bool:=(ds.map (IV K),c K)
def Kq(ds:List DI):List (Option zZ)×Bool:=(ds.map GS,true)
def hk(ds:List DI)(c:QF->Bool):Wx where
 α:=List (Option zZ)×Bool
 obs:=λs=>Kp ds c (W.ig s.heap)
 val:=λ_=>Kq ds
 says:=λ_ h=>∃K:QF,Kp ds c K=Kq ds/\K.In h
 of:=λ_ s e=>⟨W.ig s.heap,e,W.mJ _⟩
 keeps:=λ_ _ _ ⟨K,e,i⟩ k=>⟨K,e,i.keeps k⟩
variable{ds:List DI}
theorem Ct{c:QF->Bool}(X:K.In h)(G:h.Ns XT mg)(e:Kp ds c K=Kq ds):c K=true/\∀d∈ds,∃f fd dV,iY K mg d f/\pH K d.name d.qual d.st f fd dV/\wV K dV d.df=true:=by obtain⟨e1,e2⟩:=Prod.mk.inj e;exact⟨e2,λd hd=>DE X G (List.map_eq_map_iff.mp e1 d hd)⟩
theorem yz{l:V3}{q:Program}{loose:List Str}{XP:(Str->Option Value)->Heap->Prop}{d:DefRec}{x:Str}{di:DI}(hn:l.most=some 63)(I:d.params.defaults=[])(dn:d.name = "law")
  (hs:(ds++[di]).all (λd=>gQ d&&tu d)=true)(L:vM tb ds=ds.map (λd=>some d.m))(hl:uj (vP tb ds) di=some di.m)(o:di.name = "law")(y:di.cl=none)(v:di.df=[])(hx:di.N.take di.n=[x])(hr:cY (2+2*ds.length) YV)
  (hm:∀ns:List Int,ns.length<=63->∃Z,di.M [.fr (.lst (ns.map A.int))]=some (.rt (.fr (.bl true)),Z)):
  Wh q loose XP (hk (ds++[di]) (E4 tb)).says l.row.toRowW d [] (λf vs=>VV f vs):=by
 refine W.xr (CX:=B7) (l:=l) (n:=63) (k:=2+2*ds.length) (x:=x) (sp:=Bf) hn Z3 I hr (λw mg Q h Y G E=>?_) (λ_ _ _ _ _ z=>z) (λ_ _ a ns hl _ j=>⟨a,ns,rfl,j,hl,λ_=>rfl⟩);obtain⟨K,e,i⟩:=Y;obtain⟨e1,e2⟩:=Ct i G e;refine⟨K,i,?_⟩;rw[List.all_append,QE] at hs;obtain⟨f,fd,dV,c,X,p⟩:=e2 di (QG _ QV);rw[v] at p;have p:dV=.none:=by cases dV<;>first|rfl|cases p
 subst p;unfold iY at c;rw[dn] at E;rw[y] at c;simp only at c;rw[o,E] at c;cases c;have b:=R3.mp hs.2 di QV;rw[QE] at b;have B:di.n=1:=by have:=(iD b.1).2;rw[hx] at this;exact this.symm
 refine⟨fd,λs u=>?_,λbase _ _=>?_⟩
 .obtain⟨oc,od,kV,doc,pm,an,cdv,ct,osl,rfl,O,R⟩:=X.ex;obtain⟨S,H⟩:=iD b.1;have hp:=b.2;unfold tu at hp;simp only[QE,R4,RE,Zy] at hp;obtain⟨⟨⟨⟨h1,h2⟩,h3⟩,h4⟩,h5⟩:=hp;have:=qO (fd:=Uz di.name di.qual (dY di.st) (fw di.st) (bh di.st) .none kV doc pm an cdv ct) (us:=[u]) h1 h2 h3 h4 rfl h5 (S.nd.sublist (UO _ _)) (by rw[hx];rfl);rw[hx] at this;exact .of_eq this
 .have t:=Gd.all (G3 (P:=l.prog) (w:=w) (base:=base) i G e1) (λd hd=>e2 d (QI _ hd)) hs.1 L;have C:=E9 t X b.1 hl;rw[hx,B,show 1+2*ds.length+1=2+2*ds.length by lia] at C;exact Iw C hm
end M
set_option maxHeartbeats 4000000
namespace W
open PySem L2 M
noncomputable def top(i:Nat):Stmt:=PySem.Challenge.pw_fitwhatever_k32_one_column.main.body.getD i (.Pass ⟨0,0,0,0⟩)
def topC(i j:Nat):Stmt:=match top i with
 | .ClassDef _ _ _ b _ _ _ _ _ _ _=>b.getD j (.Pass ⟨0,0,0,0⟩)
 |s=>s
abbrev mix(m n:Mi Rr):Mi Rr:=az Dw m n
abbrev aC(i:Int):Mi Rr:=mC (.int i)
abbrev bp(f:Ms)(m:Mi (List Rr)):Mi Rr:=aY f [] m
abbrev Ca(t:Mi Bool):Ms:=eP t (bB (mC (.bl false))) ba
abbrev cJ(a:Mi Rr):Mi (List Rr):=c7 a nh
abbrev cB(a b:Mi Rr):Mi (List Rr):=c7 a (cJ b)
abbrev fK(a b c:Mi Rr):Mi (List Rr):=c7 a (cB b c)
abbrev J5(a b c d:Mi Rr):Mi (List Rr):=c7 a (fK b c d)
def kI:Ms:=av (aF 2 (aC 0)) (av (eP (ag (az iH (ab 1) (cP cW (ab 0)))) (aF 2 (mix (ab 0) (ab 1))) ba) (bB (dj (fK (cP tT (az F8 (cP zJ (ab 2)) (az qf (aC 10) (aC 18)))) (ab 2) (az bD (aC 17) (ab 1))))))
def gR:Ms:=cq 1 kI
def kM:Ms:=av (eP (ag (az m5 (mix (ab 0) (aC 0)) (aC 1))) (av (aF 2 (az kS (mix (ab 0) (aC 1)) (ab 1))) (av (gq 0 (aC 1) (az iF (mix (ab 0) (aC 1)) (ab 1))) (bB (ab 2)))) ba) (av (aF 3 (az a9 (mix (ab 0) (aC 2)) (aC 1))) (av (gq 0 (aC 2) (ab 3)) (av (aF 4 (az kS (az bD (az a9 (az a9 (mix (ab 0) (aC 1)) (az bD (az bD (aC 7919) (ab 3)) (ab 3))) (ab 3)) (aC 48271)) (aC 2305843009213693951))) (bB (az kS (az iF (az kS (az a9 (az bD (ab 4) (aC 1442695040888963407)) (aC 4321)) (aC 2305843009213693921)) (aC 64)) (ab 1))))))
def cj:Ms:=cq 3 kM
def jw:Ms:=av (aF 1 (bp cj (cB (ab 0) (aC 8)))) (av (eP (ag (az iH (ab 1) (aC 3))) (bB (aC 0)) ba) (av (eP (ag (az iH (ab 1) (aC 7))) (bB (az ji (bp cj (cB (ab 0) (aC 9))) (aC 4))) ba) (bB (az ji (bp cj (cB (ab 0) (nA (az a9 (az bD (aC 2) (az qf (aC 10) (aC 9))) (aC 1))))) (az qf (aC 10) (aC 9))))))
def ck:Ms:=cq 1 jw
def jW:Ms:=av (dH ["Board"] 0 "long" (cP cW (ab 1))) (av (dH ["Board"] 0 "many" (cP cW (ab 2))) (av (dH ["Board"] 0 "scale" (aC 1)) (av (iQ ["Board"] 0 "across" (mZ (aM (aL ["Board"] 0 "long") (aJ (aq ["Board"] "long") (ab 0))))) (av (iQ ["Board"] 0 "down" (lV (aM (aL ["Board"] 0 "long") (aJ (aq ["Board"] "long") (ab 0))) (az a9 (aM (aL ["Board"] 0 "long") (aJ (aq ["Board"] "long") (ab 0))) (aM (aL ["Board"] 0 "many") (aJ (aq ["Board"] "many") (ab 0)))))) (av (iQ ["Board"] 0 "grid" (aU 2 (hZ (ab 2) (ab 3)) (gD 2 (bU (aW 4) (bU (aW 5) f6))) aV (az a9 (cP gE (ab 4)) (dj (cJ (ab 5)))))) (dC (mR ["Board"] 0 "grid" (az a9 (aU 1 (cQ (ab 1)) (aW 4) aV (aJ aT (ab 4))) (dj (cJ (aC 0)))))))))))
def dA:Ms:=cq 0 jW
def gP:Ms:=bB (az a9 (az bD (aJ (aq ["Board"] "scale") (ab 0)) (aJ (aq ["Board"] "scale") (ab 0))) (cP zM (aU 1 (cQ (cE (aJ (aq ["Board"] "grid") (ab 0)) aH (bz (aJ aT (aC 1))))) (aW 2) aV (az bD (mix (ab 2) (ab 1)) (mix (ab 2) (ab 1))))))
def eX:Ms:=cq 0 gP
def fP:Ms:=av (aF 2 (mC .non)) (av (aF 3 (fQ (cB (aC 0) (aC 1)))) (av (iG (u3 (ab 1)) (gD 2 (bU (aW 4) (bU (aW 5) f6))) (eP (ag (az jV (ab 5) (aC 0))) (av (aF 6 (fQ (cB (az bD (ab 5) (ab 5)) (bp eX (cB (bH "Board" "stride" (ai 0)) (ai 4)))))) (eP (ag (az jV (az bD (mix (ab 6) (aC 0)) (mix (ab 3) (aC 1))) (az bD (mix (ab 3) (aC 0)) (mix (ab 6) (aC 1))))) (av (aF 2 (ab 4)) (aF 3 (ab 6))) ba)) ba)) (bB (ab 2))))
def bF:Ms:=cq 5 fP
def hY:Ms:=av (eP (ag (az (xJ false) (ab 2) (aJ (aq ["Board"] "across") (ab 0)))) (bB (mix (mix (aJ (aq ["Board"] "grid") (ab 0)) (ab 1)) (uQ (aJ (aq ["Board"] "across") (ab 0)) (ab 2)))) ba) (bB (Ma (ag (az m5 (mix (aJ (aq ["Board"] "down") (ab 0)) (ab 1)) (ab 2))) (aJ (aq ["Board"] "scale") (ab 0)) (aC 0)))
def bX:Ms:=cq 0 hY
def gS:Ms:=av (aF 4 (az bD (mix (mix (aJ (aq ["Board"] "grid") (ab 0)) (ab 1)) (aJ aT (aC 1))) (mix (mix (aJ (aq ["Board"] "grid") (ab 0)) (ab 2)) (ab 3)))) (av (aF 5 (az bD (mix (mix (aJ (aq ["Board"] "grid") (ab 0)) (ab 2)) (aJ aT (aC 1))) (mix (mix (aJ (aq ["Board"] "grid") (ab 0)) (ab 1)) (ab 3)))) (av (eP (ag (az eY (ab 4) (ab 5))) (bB (az iH (ab 4) (ab 5))) ba) (av (iG (qu (aJ (aq ["Board"] "long") (ab 0)) (az a9 (aJ (aq ["Board"] "long") (ab 0)) (aJ (aq ["Board"] "many") (ab 0)))) (aW 6) (av (aF 4 (az bD (bp bX (fK (bH "Board" "top_of" (ai 0)) (ai 1) (ai 6))) (mix (mix (aJ (aq ["Board"] "grid") (ab 0)) (ab 2)) (ab 3)))) (av (aF 5 (az bD (bp bX (fK (bH "Board" "top_of" (ai 0)) (ai 2) (ai 6))) (mix (mix (aJ (aq ["Board"] "grid") (ab 0)) (ab 1)) (ab 3)))) (eP (ag (az eY (ab 4) (ab 5))) (bB (az iH (ab 4) (ab 5))) ba)))) (bB (mC (.bl false))))))
def fh:Ms:=cq 3 gS
def iV:Ms:=av (aF 2 (mC .non)) (av (iG (gC (aJ (aq ["Board"] "many") (ab 0))) (aW 3) (eP (eW (ag (az jV (mix (mix (aJ (aq ["Board"] "grid") (ab 0)) (ab 3)) (ab 1)) (aC 0))) (iT (ag (az (jk false) (ab 2) (mC .non))) (ag (bp fh (J5 (ai 0) (ai 3) (ai 2) (ai 1)))))) (aF 2 (ab 3)) ba)) (bB (ab 2)))
def aZ:Ms:=cq 2 iV
def jG:Ms:=av (aF 4 (mix (ab 1) (ab 2))) (av (aF 5 (mix (ab 0) (ab 2))) (av (eP (ag (az m5 (ab 5) (aC 0))) (bB (aU 1 (cQ (ab 0)) (aW 7) aV (az iF (az bD (ab 4) (ab 7)) (ab 3)))) ba) (av (aF 6 (aU 2 (hZ (ab 0) (ab 1)) (gD 2 (bU (aW 7) (bU (aW 8) f6))) aV (az iF (az ji (az bD (ab 4) (ab 7)) (az bD (ab 5) (ab 8))) (ab 3)))) (av (gq 6 (ab 2) (aJ aT (ab 5))) (bB (ab 6))))))
def eQ:Ms:=cq 3 jG
def hW:Ms:=bB (aU 1 (cQ (ab 0)) (aW 1) aV (aJ aT (ab 1)))
def aO:Ms:=cq 0 hW
def jx:Ms:=av (aF 3 (mix (aM (aL ["Board"] 0 "grid") (aJ (aq ["Board"] "grid") (ab 0))) (ab 1))) (av (aF 4 (aU 1 (cQ (aM (aL ["Board"] 0 "grid") (aJ (aq ["Board"] "grid") (ab 0)))) (aW 6) aV (bp eQ (J5 (ai 6) (ai 3) (ai 2) (aM (aL ["Board"] 0 "scale") (aJ (aq ["Board"] "scale") (ab 0))))))) (av (u9 ["Board"] 4 1 2 0 "scale" (cP gE (ab 3))) (av (dH ["Board"] 0 "scale" (mix (ab 3) (ab 2))) (av (dH ["Board"] 0 "grid" (ab 4)) (av (eP (ag (az iH (aM (aL ["Board"] 0 "scale") (aJ (aq ["Board"] "scale") (ab 0))) (aC 0))) (av (dH ["Board"] 0 "scale" (aJ aT (aM (aL ["Board"] 0 "scale") (aJ (aq ["Board"] "scale") (ab 0))))) (dH ["Board"] 0 "grid" (aU 1 (cQ (ab 4)) (aW 6) aV (bp aO (cJ (ai 6)))))) ba) (av (aF 5 (qe ["Board"] 0 "across" (xR 2))) (av (fA ["Board"] 0 "across" 2 (qe ["Board"] 0 "down" (xR 1))) (fA ["Board"] 0 "down" 1 (ab 5)))))))))
def aG:Ms:=cq 3 jx
def fV:Ms:=av (g8 zK (ag (az eY (ab 1) (aC 0))) (av (aF 2 (az kS (ab 0) (ab 1))) (av (aF 0 (ab 1)) (aF 1 (ab 2))))) (bB (ab 0))
def fW:Ms:=cq 1 fV
def gM:Ms:=av (aF 2 (bp fW (cB (ai 0) (ai 1)))) (bB (fQ (cB (az iF (ab 0) (ab 2)) (az iF (ab 1) (ab 2)))))
def cz:Ms:=cq 1 gM
def eH:Ms:=av (aF 2 (aU 1 (gC (aJ (aq ["Board"] "long") (ab 0))) (aW 5) aV (mC (.tup [.int 0,.int 1])))) (av (iG (hZ (aJ (aq ["Board"] "down") (ab 0)) (ab 1)) (gD 2 (bU (aW 3) (bU (aW 4) f6))) (eP (ag (az iH (ab 3) (aJ (aq ["Board"] "long") (ab 0)))) (gq 2 (ab 3) (bp cz (cB (ai 4) (aJ (aq ["Board"] "scale") (ab 0))))) ba)) (bB (cP lN (ab 2))))
def cx:Ms:=cq 3 eH
def iO:Ms:=bB (bp cx (cB (bH "Board" "spread_down" (ab 0)) (nA (aU 1 (cQ (aJ (aq ["Board"] "grid") (ab 0))) (aW 1) aV (mix (ab 1) (aJ aT (aC 1)))))))
def bq:Ms:=cq 0 iO
def gY:Ms:=av (aF 2 (aU 1 (gC (aJ (aq ["Board"] "many") (ab 0))) (aW 5) aV (mC (.tup [.int 0,.int 1])))) (av (iG (hZ (aJ (aq ["Board"] "across") (ab 0)) (ab 1)) (gD 2 (bU (aW 3) (bU (aW 4) f6))) (eP (ag (az F8 (ab 3) (aJ (aq ["Board"] "long") (ab 0)))) (gq 2 (az ji (ab 3) (aJ (aq ["Board"] "long") (ab 0))) (bp cz (cB (ai 4) (aJ (aq ["Board"] "scale") (ab 0))))) ba)) (bB (cP lN (ab 2))))
def aR:Ms:=cq 3 gY
def kK:Ms:=av (aF 2 (cP gE (bp cx (cB (bH "Board" "spread_down" (ab 0)) (nA (aU 1 (cQ (aJ (aq ["Board"] "grid") (ab 0))) (aW 3) aV (aJ aT (mix (ab 3) (ab 1))))))))) (av (eP (ag (az iH (mix (aJ (aq ["Board"] "across") (ab 0)) (ab 1)) (aJ (aq ["Board"] "long") (ab 0)))) (gq 2 (mix (aJ (aq ["Board"] "across") (ab 0)) (ab 1)) (mC (.tup [.int 1,.int 1]))) ba) (bB (cP lN (ab 2))))
def cV:Ms:=cq 1 kK
def oh:Ms:=g8 zK (ag (mC (.bl true))) (av (aF 1 (aY (bu 0 bF) [] (cB (ab 0) (bp aO (cJ (nA (cE (mix (aM (aL ["Board"] 0 "grid") (aJ (aq ["Board"] "grid") (ab 0))) (aJ aT (aC 1))) aH (bz (aJ aT (aC 1)))))))))) (av (eP (ag (az (jk false) (ab 1) (mC .non))) (av (aF 2 (bp cz (cB (mix (mix (aM (aL ["Board"] 0 "grid") (aJ (aq ["Board"] "grid") (ab 0))) (aJ aT (aC 1))) (aJ aT (aC 1))) (aM (aL ["Board"] 0 "scale") (aJ (aq ["Board"] "scale") (ab 0)))))) (bB (fQ (J5 (mC (.str "best")) (ab 2) (aM (bp bq (cJ (aP "Board" "point" 0))) (aM (aY (bu 0 bq) [] (cJ (aP "Board" "point" 0))) (bp bq (cJ (bH "Board" "point" (ab 0)))))) (aM (bp aR (cB (aP "Board" "prices" 0) (mix (aM (aL ["Board"] 0 "grid") (aJ (aq ["Board"] "grid") (ab 0))) (aJ aT (aC 1))))) (aM (aY (bu 0 aR) [] (cB (aP "Board" "prices" 0) (mix (aM (aL ["Board"] 0 "grid") (aJ (aq ["Board"] "grid") (ab 0))) (aJ aT (aC 1))))) (bp aR (cB (bH "Board" "prices" (ab 0)) (mix (aM (aL ["Board"] 0 "grid") (aJ (aq ["Board"] "grid") (ab 0))) (aJ aT (aC 1))))))))))) ba) (av (aF 3 (aY (bu 0 aZ) [] (cB (ab 0) (ai 1)))) (av (eP (ag (az (jk false) (ab 3) (mC .non))) (bB (fQ (fK (mC (.str "open")) (aM (bp bq (cJ (aP "Board" "point" 0))) (aM (aY (bu 0 bq) [] (cJ (aP "Board" "point" 0))) (bp bq (cJ (bH "Board" "point" (ab 0)))))) (aM (bp cV (cB (aP "Board" "way" 0) (ai 1))) (aM (aY (bu 0 cV) [] (cB (aP "Board" "way" 0) (ai 1))) (bp cV (cB (bH "Board" "way" (ab 0)) (ai 1)))))))) ba) (dC (aM (bp aG (fK (aP "Board" "turn" 0) (ai 3) (ai 1))) (aM (aY (bu 0 aG) [] (fK (aP "Board" "turn" 0) (ai 3) (ai 1))) (bp aG (fK (bH "Board" "turn" (ab 0)) (ai 3) (ai 1))))))))))
def ip:Ms:=cq 3 oh
def eU:Ms:=av (dC (rp ["Board"] 0 "across" (B2 (SX 0)))) (av (aF 1 (mix (aM (aL ["Board"] 0 "grid") (aJ (aq ["Board"] "grid") (ab 0))) (aJ aT (aC 1)))) (av (iQ ["Board"] 0 "grid" (aU 1 (cQ (cE (aM (aL ["Board"] 0 "grid") (aJ (aq ["Board"] "grid") (ab 0))) aH (bz (aJ aT (aC 1))))) (aW 2) aV (az a9 (az a9 (cE (ab 2) aH (bz (aJ aT (aC 1)))) (dj (cJ (aJ aT (aC 1))))) (cE (ab 2) (bz (aJ aT (aC 1))) aH)))) (dC (mR ["Board"] 0 "grid" (az a9 (az a9 (cE (ab 1) aH (bz (aJ aT (aC 1)))) (dj (cJ (aC 0)))) (cE (ab 1) (bz (aJ aT (aC 1))) aH))))))
def bf:Ms:=cq 1 eU
def eI:Ms:=av (aF 1 (gy ["Board"] 0 "across" (B2 (SX 0)))) (av (dC (qY ["Board"] 0 "across" (xR 1))) (dH ["Board"] 0 "grid" (aU 1 (cQ (aM (aL ["Board"] 0 "grid") (aJ (aq ["Board"] "grid") (ab 0)))) (aW 2) aV (az a9 (cE (ab 2) aH (bz (ab 1))) (cE (ab 2) (bz (az a9 (ab 1) (aC 1))) aH)))))
def a7:Ms:=cq 1 eI
def jT:Ms:=av (aF 1 (cP rP (ab 0))) (bB (cP qJ (aU 2 (u3 (ab 0)) (gD 2 (bU (aW 2) (bU (aW 3) f6))) (ag (az m5 (ab 3) (ab 1))) (ab 2))))
def dG:Ms:=cq 1 jT
def jr:Ms:=av (dC (aM (bp bf (cJ (aP "Board" "put_helper" 0))) (aM (aY (bu 0 bf) [] (cJ (aP "Board" "put_helper" 0))) (bp bf (cJ (bH "Board" "put_helper" (ab 0))))))) (av (dC (aM (bp aG (fK (aP "Board" "turn" 0) (bp dG (cJ (nA (aU 1 (cQ (cE (aM (aL ["Board"] 0 "grid") (aJ (aq ["Board"] "grid") (ab 0))) aH (bz (aJ aT (aC 1))))) (aW 3) aV (mix (ab 3) (aJ aT (aC 1))))))) (az ji (jy ["Board"] 0 "across") (aC 1)))) (aM (aY (bu 0 aG) [] (fK (aP "Board" "turn" 0) (bp dG (cJ (nA (aU 1 (cQ (cE (aM (aL ["Board"] 0 "grid") (aJ (aq ["Board"] "grid") (ab 0))) aH (bz (aJ aT (aC 1))))) (aW 3) aV (mix (ab 3) (aJ aT (aC 1))))))) (az ji (jy ["Board"] 0 "across") (aC 1)))) (bp aG (fK (bH "Board" "turn" (ab 0)) (bp dG (cJ (nA (aU 1 (cQ (cE (aM (aL ["Board"] 0 "grid") (aJ (aq ["Board"] "grid") (ab 0))) aH (bz (aJ aT (aC 1))))) (aW 3) aV (mix (ab 3) (aJ aT (aC 1))))))) (az ji (jy ["Board"] 0 "across") (aC 1))))))) (av (g8 zK (ag (wb false ["Board"] 0 "down" (B2 (SX 0)))) (av (aF 1 (mix (aM (aL ["Board"] 0 "grid") (aJ (aq ["Board"] "grid") (ab 0))) (gy ["Board"] 0 "down" (B2 (SX 0))))) (av (aF 2 (aY (bu 0 bF) [] (cB (ab 0) (nA (cE (ab 1) aH (bz (aJ aT (aC 1)))))))) (av (eP (ag (az (jk false) (ab 2) (mC .non))) (bB (aM (bp aR (cB (aP "Board" "prices" 0) (bp aO (cJ (ai 1))))) (aM (aY (bu 0 aR) [] (cB (aP "Board" "prices" 0) (bp aO (cJ (ai 1))))) (bp aR (cB (bH "Board" "prices" (ab 0)) (bp aO (cJ (ai 1)))))))) ba) (dC (aM (bp aG (fK (aP "Board" "turn" 0) (aY (bu 0 aZ) [] (cB (ab 0) (ai 2))) (ai 2))) (aM (aY (bu 0 aG) [] (fK (aP "Board" "turn" 0) (aY (bu 0 aZ) [] (cB (ab 0) (ai 2))) (ai 2))) (bp aG (fK (bH "Board" "turn" (ab 0)) (aY (bu 0 aZ) [] (cB (ab 0) (ai 2))) (ai 2)))))))))) (av (dC (aM (bp a7 (cJ (aP "Board" "drop_helper" 0))) (aM (aY (bu 0 a7) [] (cJ (aP "Board" "drop_helper" 0))) (bp a7 (cJ (bH "Board" "drop_helper" (ab 0))))))) (bB (mC .non)))))
def dy:Ms:=cq 2 jr
def sj:Ms:=av (aF 3 (oJ "Board" dA [] (fK (ai 0) (ai 1) (ai 2)))) (av (eP (ag (cP (kQ λbs=>VP bs id) (aU 1 (cQ (ab 2)) (aW 5) aV (az iH (ab 5) (aC 0))))) (av (aF 4 (bp dy (cJ (ab 3)))) (eP (ag (az (jk true) (ab 4) (mC .non))) (bB (fQ (cB (mC (.str "none")) (ab 4)))) ba)) ba) (bB (bp ip (cJ (ab 3)))))
def rE:Ms:=cq 2 sj
def oF:Ms:=av (eP (iT (ag (az jV (cP cW (ab 0)) (aC 48))) (ag (az jV (cP cW (ab 1)) (aC 48)))) sA ba) (av (eP (ag (az eY (cP cW (ab 2)) (cP cW (ab 1)))) sA ba) (av (eP (ag (cP (kQ λbs=>VP bs id) (aU 1 (cQ (ab 1)) (aW 3) aV (az eY (cP cW (ab 3)) (cP cW (ab 0)))))) sA ba) (bB (bp rE (fK (ai 0) (ai 1) (ai 2))))))
def kn:Ms:=cq 0 oF
def jD:Ms:=bB (az iH (az bD (mix (ab 0) (aC 0)) (mix (ab 1) (aC 1))) (az bD (mix (ab 1) (aC 0)) (mix (ab 0) (aC 1))))
def bT:Ms:=cq 0 jD
def iM:Ms:=av (g8 zK (ag (az eY (ab 1) (aC 0))) (BZ 0 1 (cB (ab 1) (az kS (ab 0) (ab 1))))) (bB (cP zJ (ab 0)))
def fN:Ms:=cq 0 iM
def mN:Ms:=av (eP (ag (az iH (ab 1) (aC 0))) (av (aF 0 (az ji (aC 0) (ab 0))) (aF 1 (az ji (aC 0) (ab 1)))) ba) (av (aF 2 (bp fN (cB (ai 0) (ai 1)))) (bB (fQ (cB (az iF (ab 0) (ab 2)) (az iF (ab 1) (ab 2))))))
def dR:Ms:=cq 1 mN
def kJ:Ms:=av (aF 2 (fQ (cB (aC 0) (aC 1)))) (av (aF 3 (mC .non)) (av (iG (hZ (ab 0) (ab 1)) (gD 2 (bU (aW 4) (bU (aW 5) f6))) (av (eP (eW (ag (az m5 (ab 4) (aC 0))) (ag (az iH (ab 5) (aC 0)))) (bB (mC .non)) ba) (eP (ag (az eY (ab 4) (aC 0))) (av (aF 6 (bp dR (cB (ai 5) (ai 4)))) (av (eP (eW (ag (az jV (ab 4) (aC 0))) (iT (ag (az (jk false) (ab 3) (mC .non))) (ag (bp bT (cB (ai 6) (ai 3)))))) (aF 3 (ab 6)) ba) (eP (eW (ag (az iH (ab 4) (aC 0))) (ag (bp bT (cB (ai 2) (ai 6))))) (aF 2 (ab 6)) ba))) ba))) (av (eP (eW (ag (az (jk true) (ab 3) (mC .non))) (ag (bp bT (cB (ai 3) (ai 2))))) (bB (mC .non)) ba) (bB (fQ (cB (ab 2) (ab 3)))))))
def ib:Ms:=cq 5 kJ
def lJ:Ms:=bB (bp dR (cB (az bD (mix (ab 0) (aC 0)) (mix (ab 1) (aC 0))) (az bD (mix (ab 0) (aC 1)) (mix (ab 1) (aC 1)))))
def i6:Ms:=cq 0 lJ
def jA:Ms:=bB (mU (cP (oT Ty.int) (ab 0)) (z9 (cP (oT Ty.bool) (ab 0))))
def gn:Ms:=cq 0 jA
def f9:Ms:=av (Ca (iT (gr (ag (cP (oT Ty.tuple) (ab 0)))) (iT (ag (az eY (cP cW (ab 0)) (aC 2))) (iT (gr (ag (bp gn (cJ (mix (ab 0) (aC 0)))))) (gr (ag (bp gn (cJ (mix (ab 0) (aC 1)))))))))) (bB (mU (az jV (mix (ab 0) (aC 1)) (aC 0)) (az m5 (bp dR (cB (mix (ab 0) (aC 0)) (mix (ab 0) (aC 1)))) (ab 0))))
def cy:Ms:=cq 0 f9
def eZ:Ms:=av (Ca (iT (gr (ag (cP (oT Ty.tuple) (ab 0)))) (ag (az eY (cP cW (ab 0)) (ab 1))))) (bB (az m5 (aU 1 (cQ (ab 0)) (aW 3) (iT (gr (ag (bp cy (cJ (ai 3))))) (eW (gr (ag (ab 2))) (ag (az iH (mix (ab 3) (aC 0)) (aC 0))))) (ab 3)) (dj nh)))
def bY:Ms:=cq 0 eZ
def FE:Ms:=av (iG (qU (aC 0) (az a9 (Fv xy (cP cW (ab 0)) (aC 60)) (aC 1)) (aC 4)) (aW 1) (av (aF 2 (bp gR (cB (ai 0) (ai 1)))) (av (aF 3 (bp cj (cB (ab 2) (aC 7)))) (av (aF 4 (bp ck (cJ (ab 2)))) (av (aF 5 (aU 1 (gC (ab 3)) (aW 11) aV (bp ck (cJ (ab 2))))) (av (aF 6 (aU 1 (gC (ab 3)) (aW 11) aV (bp ck (cJ (ab 2))))) (av (aF 7 (dj (fK (dj (cJ (ab 4))) (aU 1 (cQ (ab 5)) (aW 11) aV (dj (cJ (ab 11)))) (cP gE (ab 6))))) (av (aF 8 (bp kn (fK (mix (ab 7) (aC 0)) (mix (ab 7) (aC 1)) (mix (ab 7) (aC 2))))) (av (Ca (iT (ag (az eY (ab 7) (dj (fK (dj (cJ (ab 4))) (aU 1 (cQ (ab 5)) (aW 11) aV (dj (cJ (ab 11)))) (ab 6))))) (gr (ag (cP (oT Ty.tuple) (ab 8)))))) (av (aF 9 (bp ib (cB (ai 5) (ai 6)))) (eP (ag (az (jk false) (ab 9) (mC .non))) (Ca (iT (ag (az eY (mix (ab 8) (aC 0)) (mC (.str "none")))) (iT (ag (az eY (cP cW (ab 8)) (aC 2))) (gr (ag (bp bY (fK (mix (ab 8) (aC 1)) (ai 3) (mC (.bl false))))))))) (eP (eW (ag (az jV (ab 4) (aC 0))) (ag (az (jk false) (mix (ab 9) (aC 1)) (mC .non)))) (Ca (iT (ag (az eY (mix (ab 8) (aC 0)) (mC (.str "open")))) (iT (ag (az eY (cP cW (ab 8)) (aC 3))) (gr (ag (bp bY (fK (mix (ab 8) (aC 2)) (aC 1) (mC (.bl false))))))))) (av (aF 10 (bp i6 (cB (fQ (cB (ab 4) (aC 1))) (mix (ab 9) (cP tT (az jV (ab 4) (aC 0))))))) (Ca (iT (ag (az eY (mix (ab 8) (aC 0)) (mC (.str "best")))) (iT (ag (az eY (cP cW (ab 8)) (aC 4))) (iT (gr (ag (bp cy (cJ (mix (ab 8) (aC 1)))))) (ag (az eY (mix (ab 8) (aC 1)) (ab 10)))))))))))))))))))) (bB (mC (.bl true)))
def KA:Ms:=cq 10 FE
def GB:Tb:={ fns:=[],cst:=[("ZERO",(.tup [(.int 0),(.int 1)])),("ONE",(.tup [(.int 1),(.int 1)])),("MOST_LONG",(.int 48)),("HELPER",(.int (-1)))],exs:=["NoProgram"],kit:=[],exm:=[],fld:=[("Board",["long", "many", "scale", "across", "down", "grid"])],fM:=[],mts:=[] }
def EM:List DI:=[
 ⟨none, "_law_well",top 23,["_law_script", "_law_k", "_law_cell"],2,[],[false,false],[],[],kI,[],false,false,none⟩,
 ⟨none, "_law_take",top 24,["_law_well_here", "_law_many", "_law_digit", "_law_turn", "_law_number"],2,[],[true,false],[],[],kM,[],false,false,none⟩,
 ⟨none, "_law_entry",top 33,["_law_well_here", "_law_way"],1,[],[true],[],[],jw,[],false,false,none⟩,
 ⟨some "Board", "__init__",topC 13 0,["self", "goal", "rows", "limits"],4,[],[true,false,false,false],[],["*nob", "across", "down", "grid"],jW,[],false,false,none⟩,
 ⟨some "Board", "stride",topC 13 3,["self", "column"],2,[],[false,false],[],[],gP,[],false,false,none⟩,
 ⟨none, "gaining_column",top 16,["board", "gains", "found", "steepest", "k", "gain", "slope"],2,[],[false,false],[],[],fP,[],false,false,none⟩,
 ⟨some "Board", "top_of",topC 13 2,["self", "at", "name"],3,[],[false,false,false],[],[],hY,[],false,false,none⟩,
 ⟨none, "binds_before",top 18,["board", "one", "other", "column", "sooner", "later", "name"],4,[],[false,false,false,false],[],[],gS,[],false,false,none⟩,
 ⟨none, "binding_row",top 17,["board", "column", "found", "k"],2,[],[false,false],[],[],iV,[],false,false,none⟩,
 ⟨none, "turned_row",top 15,["row", "pivot_row", "column", "scale", "pivot", "factor", "turned"],4,[],[false,false,false,false],[],[],jG,[],false,false,none⟩,
 ⟨none, "negative_row",top 14,["row"],1,[],[false],[],[],hW,[],false,false,none⟩,
 ⟨some "Board", "turn",topC 13 1,["self", "at", "column", "pivot_row", "turned", "name"],3,[],[true,false,false],[],["*nob", "across", "down"],jx,[],false,false,none⟩,
 ⟨none, "common_divisor",top 6,["a", "b", "rest"],2,[],[false,false],[],[],fV,[],false,false,none⟩,
 ⟨none, "lowest_terms",top 7,["top", "bottom", "divisor"],2,[],[false,false],[],[],gM,[],false,false,none⟩,
 ⟨some "Board", "spread_down",topC 13 8,["self", "tops", "told", "name", "top"],2,[],[false,false],[],[],eH,[],false,false,none⟩,
 ⟨some "Board", "point",topC 13 6,["self"],1,[],[false],[],[],iO,[],false,false,none⟩,
 ⟨some "Board", "prices",topC 13 9,["self", "tops", "told", "name", "top"],2,[],[false,false],[],[],gY,[],false,false,none⟩,
 ⟨some "Board", "way",topC 13 7,["self", "column", "told"],2,[],[false,false],[],[],kK,[],false,false,none⟩,
 ⟨none, "climbed",top 21,["board", "column", "value", "at"],1,[],[true],[],["*nob", "board"],oh,[],false,false,none⟩,
 ⟨some "Board", "put_helper",topC 13 4,["self", "goal"],1,[],[true],[],["*nob", "across", "down", "grid"],eU,[],false,false,none⟩,
 ⟨some "Board", "drop_helper",topC 13 5,["self", "at"],1,[],[true],[],["*nob", "across", "down"],eI,[],false,false,none⟩,
 ⟨none, "last_least",top 19,["limits", "least"],1,[],[false],[],[],jT,[],false,false,none⟩,
 ⟨none, "find_point",top 20,["board", "row", "column"],1,[],[true],[],["*nob", "across", "down", "board"],jr,[],false,false,none⟩,
 ⟨none, "solved",top 12,["goal", "rows", "limits", "board", "prices"],3,[],[false,false,false],[],["*nob", "board"],sj,[],false,false,none⟩,
 ⟨none, "best_of",top 11,["goal", "rows", "limits"],3,[],[false,false,false],[],[],oF,[],false,false,none⟩,
 ⟨none, "_law_below",top 29,["_law_one", "_law_other"],2,[],[false,false],[],[],jD,[],false,false,none⟩,
 ⟨none, "_law_common",top 25,["_law_one", "_law_other"],2,[],[false,false],[],[],iM,[],false,false,none⟩,
 ⟨none, "_law_num",top 26,["_law_top", "_law_bottom", "_law_by"],2,[],[false,false],[],[],mN,[],false,false,none⟩,
 ⟨none, "_law_ends",top 34,["_law_rows", "_law_limits", "_law_low", "_law_high", "_law_row", "_law_limit", "_law_end"],2,[],[false,false],[],[],kJ,[],false,false,none⟩,
 ⟨none, "_law_mul",top 28,["_law_one", "_law_other"],2,[],[false,false],[],[],lJ,[],false,false,none⟩,
 ⟨none, "_law_whole",top 30,["_law_found"],1,[],[false],[],[],jA,[],false,false,none⟩,
 ⟨none, "_law_is_number",top 31,["_law_found"],1,[],[false],[],[],f9,[],false,false,none⟩,
 ⟨none, "_law_are_numbers",top 32,["_law_found", "_law_many", "_law_below_too"],3,[],[false,false,false],[],[],eZ,[],false,false,none⟩]
def nc:DI:=⟨none, "law",top 35,["_law_script", "_law_k", "_law_well_here", "_law_many", "_law_goal", "_law_rows", "_law_limits", "_law_handed", "_law_told", "_law_tips", "_law_due"],1,[],[false],[],[],FE,[],false,false,none⟩
theorem Jg:vM GB EM=EM.map (λd=>some d.m):=by kernel_rfl
theorem JH:uj (vP GB EM) nc=some nc.m:=by kernel_rfl
theorem HR:(EM++[nc]).all (λd=>gQ d&&tu d)=true:=by decide +kernel
end W
section
open PySem PySem.W PyProof.Rows L2
set_option maxRecDepth 100000 in
theorem W.hl:LeftO PySem.Challenge.rw_fitwhatever_k32_one_column.row.prog (W.My PySem.Challenge.pw_fitwhatever_k32_one_column) (W.vW PySem.Challenge.pw_fitwhatever_k32_one_column) (λs=>xlAt (W.My PySem.Challenge.pw_fitwhatever_k32_one_column) [] s&&recOk PySem.Challenge.rw_fitwhatever_k32_one_column.row.records s) (Hook.obs (M.hk (W.EM++[W.nc]) (M.E4 W.GB))) (Hook.val (M.hk (W.EM++[W.nc]) (M.E4 W.GB))) 20000:=W.Ah λw=>by kernel_rfl
set_option maxRecDepth 100000 in
set_option maxHeartbeats 0 in
theorem W.fin(LT:∀ns:List Int,ns.length<=63->∃Z,W.nc.M [.fr (.lst (ns.map M.A.int))]=some (.rt (.fr (.bl true)),Z)):PySem.Challenge.rw_fitwhatever_k32_one_column.Holds:=by
 w_on
 refine holds_law Z4 λh=>?_
 refine holds_open (q:=W.My PySem.Challenge.pw_fitwhatever_k32_one_column) (loose:=W.vW PySem.Challenge.pw_fitwhatever_k32_one_column) (Xt:=λs=>xlAt (W.My PySem.Challenge.pw_fitwhatever_k32_one_column) [] s&&recOk (RowW.records _) s) (XP:=XL (W.My PySem.Challenge.pw_fitwhatever_k32_one_column) []) (Yf:=Hook.obs (M.hk (W.EM++[W.nc]) (M.E4 W.GB))) (Ya:=Hook.val (M.hk (W.EM++[W.nc]) (M.E4 W.GB))) (YP:=Hook.says (M.hk (W.EM++[W.nc]) (M.E4 W.GB))) (N:=20000) W.hl (Hook.of _) (Hook.keeps _) (λs e=>xl_of s (VQ.mp e).1) XL.keeps (by rfl) (by rfl) (by rfl) (λs e=>recFacts_of (VQ.mp e).2) (by rfl) h Z4 ⟨rfl,rfl,rfl,rfl,rfl,by decide +kernel⟩ ?hw ?hc
 case hw=>w_witness2
 case hc=>exact M.yz rfl rfl rfl W.HR W.Jg W.JH rfl rfl rfl rfl ⟨rfl,by decide,by decide⟩ LT
end
set_option maxHeartbeats 1000000
set_option exponentiation.threshold 100000
namespace Sx
noncomputable def su(n:Nat)(f:Nat->Int):Int:=match n with
 |0=>0
 |n+1=>su n f+f n
variable{f:Nat->Int}
theorem bC{n:Nat}{g:Nat->Int}(h:∀i,i<n->f i=g i):su n f=su n g:=by
 induction n with
 |zero=>rfl
 |succ n m=>rw[su,su,m λi hi=>h i Q1,h n Q1]
theorem kc{n:Nat}{g:Nat->Int}{x y:Int}:su n (λi=>x*f i+y*g i)=x*su n f+y*su n g:=by
 induction n with
 |zero=>simp[su]
 |succ n m=>simp only[su,m];grind
theorem iK{n:Nat}(h:∀i,i<n->f i=0):su n f=0:=by
 induction n with
 |zero=>rfl
 |succ n m=>rw[su,m λi hi=>h i Q1,h n Q1];rfl
theorem iZ{n a:Nat}(V:a<n)(h:∀i,i<n->i≠a->f i=0):su n f=f a:=by
 induction n with
 |zero=>lia
 |succ n m=>
  by_cases e:a=n
  .subst e;rw[su,iK λi hi=>h i Q1 Q1];lia
  .rw[su,m Q1 λi hi=>h i Q1,h n Q1 Q1];lia
theorem N7{n a:Nat}(V:a+1<n)(h:∀i,i<n->i≠a->i≠a+1->f i=0)(e:f a+f (a+1)=0):su n f=0:=by
 induction n with
 |zero=>lia
 |succ n m=>
  by_cases c:a+1=n
  .subst c;rw[su,iZ (a:=a) Q1 λi hi hn=>h i Q1 hn Q1];exact e
  .rw[su,m Q1 λi hi=>h i Q1,h n Q1 Q1 Q1];rfl
noncomputable abbrev Ve:=Nat->Int
noncomputable def sk(i:Nat)(v:Nat->Ve):Nat->Ve:=λj=>if j<i then v j else v (j+1)
noncomputable def up(a:Nat)(u:Ve)(v:Nat->Ve):Nat->Ve:=λj=>if j=a then u else v j
noncomputable def sg(i:Nat):Int:=if i%2=0 then 1 else -1
def D:Nat->(Nat->Ve)->Int
 |0,_=>1
 |k+1,v=>su (k+1) λi=>sg i*v i k*D k (sk i v)
theorem D.eq(k:Nat)(v:Nat->Ve):D (k+1) v=su (k+1) λi=>sg i*v i k*D k (sk i v):=rfl
theorem D.congr:∀{k:Nat}{v w:Nat->Ve},(∀i j,i<k->j<k->v i j=w i j)->D k v=D k w
 |0,_,_,_=>rfl
 |k+1,v,w,h=>bC λi hi=>by
  rw[h i k hi Q1,D.congr (k:=k) (v:=sk i v) (w:=sk i w) λa b f d=>by
   unfold sk;split
   .exact h a b Q1 Q1
   .exact h _ b Q1 Q1]
variable{i:Nat}
theorem KL{a:Nat}(h:i≠a)(u:Ve)(v:Nat->Ve):sk i (up a u v)=up (if a<i then a else a-1) u (sk i v):=by funext j;unfold sk up;grind
theorem Jm(a:Nat)(u:Ve)(v:Nat->Ve):sk a (up a u v)=sk a v:=by funext j;unfold sk up;grind
theorem D.FG:∀{k a:Nat}{v:Nat->Ve}{u w:Ve}{x y:Int},a<k->D k (up a (λj=>x*u j+y*w j) v)=x*D k (up a u v)+y*D k (up a w v)
 |0,_,_,_,_,_,_,h=>absurd h Q1
 |k+1,a,v,u,w,x,y,h=>by
  rw[D.eq,D.eq,D.eq,<-kc];refine bC λi hi=>?_;by_cases e:i=a
  .subst e;simp only[Jm];simp only[up,Zt];grind
  .simp only[KL e];rw[D.FG (k:=k) (a:=if a<i then a else a-1) (by split<;>lia)];simp only[up,Zu e];grind
theorem O1(i:Nat):sg (i+1) =-sg i:=by unfold sg;split<;>split<;>lia
theorem D.Nc:∀{k a:Nat}{v:Nat->Ve},a+1<k->v a=v (a+1)->D k v=0
 |0,_,_,h,_=>absurd h Q1
 |k+1,a,v,h,e=>by
  rw[D.eq];refine N7 (a:=a) h (λi hi h1 h2=>?_) ?_
  .rw[D.Nc (k:=k) (a:=if a<i then a else a-1) (v:=sk i v) (by split<;>lia) (by
    unfold sk;split
    .rw[Zt Q1];exact e
    .rw[Zu Q1,Zu Q1];rw[show a-1+1=a by lia];exact e)]
   exact Rn _
  .have:sk a v=sk (a+1) v:=by
    funext j;unfold sk
    by_cases c:j=a
    .subst c;rw[Zu Q1,Zt Q1,e]
    .by_cases F:j<a
     .rw[Zt F,Zt Q1]
     .rw[Zu F,Zu Q1]
   rw[this,e,O1];grind
theorem B4{a b:Nat}(h:a≠b)(u w:Ve)(v:Nat->Ve):up a u (up b w v)=up b w (up a u v):=by funext j;unfold up;grind
theorem rn(a:Nat)(v:Nat->Ve):up a (v a) v=v:=by funext j;unfold up;split<;>simp_all
variable{w:Ve}
theorem D.add{k a:Nat}{v:Nat->Ve}{u:Ve}(h:a<k):D k (up a (λj=>u j+w j) v)=D k (up a u v)+D k (up a w v):=by have:=D.FG (v:=v) (u:=u) (w:=w) (x:=1) (y:=1) h;simpa using this
theorem D.swap{k a:Nat}{v:Nat->Ve}(h:a+1<k):D k (up a (v (a+1)) (up (a+1) (v a) v)) =-D k v:=by have z:=D.Nc (k:=k) (a:=a) (v:=up a (λj=>v a j+v (a+1) j) (up (a+1) (λj=>v a j+v (a+1) j) v)) h (by simp[up]);rw[D.add Q1,B4 Q1,D.add h,B4 (a:=a) (b:=a+1) Q1 (v (a+1)),D.add h] at z;rw[D.Nc (v:=up (a+1) (v a) (up a (v a) v)) h (by simp[up])] at z;rw[D.Nc (v:=up (a+1) (v (a+1)) (up a (v (a+1)) v)) h (by simp[up])] at z;rw[rn,rn,<-B4 Q1] at z;lia
theorem D.two:∀{d k a:Nat}{v:Nat->Ve},a+d+1<k->v a=v (a+d+1)->D k v=0
 |0,k,a,v,h,e=>D.Nc h e
 |d+1,k,a,v,h,e=>by
  have s:=D.swap (k:=k) (a:=a+d+1) (v:=v) h;have z:=D.two (d:=d) (k:=k) (a:=a) (v:=up (a+d+1) (v (a+d+1+1)) (up (a+d+1+1) (v (a+d+1)) v)) Q1 (by simp only[up];rw[Zu Q1,Zu Q1];simp only[if_true];exact e)
  lia
theorem D.alike{k a b:Nat}{v:Nat->Ve}(f:a<k)(E:b<k)(h:a≠b)(e:v a=v b):D k v=0:=by
 by_cases c:a<b
 .exact D.two (d:=b-a-1) (a:=a) Q1 (by rw[show a+(b-a-1)+1=b by lia];exact e)
 .exact D.two (d:=a-b-1) (a:=b) Q1 (by rw[show b+(a-b-1)+1=a by lia];exact e.symm)
variable{c:Nat->Int}
theorem D.sum{k a m:Nat}{v:Nat->Ve}{u:Nat->Ve}(h:a<k):D k (up a (λj=>su m λl=>c l*u l j) v)=su m λl=>c l*D k (up a (u l) v):=by
 induction m with
 |zero=>have:=D.FG (k:=k) (a:=a) (v:=v) (u:=λ_=>0) (w:=λ_=>0) (x:=0) (y:=0) h;simpa[su] using this
 |succ m b=>simp only[su];rw[D.add h,b];have:=D.FG (k:=k) (a:=a) (v:=v) (u:=u m) (w:=u m) (x:=c m) (y:=0) h;simp only[S5,RX] at this;rw[this]
variable{s:Int}
theorem D.HX{k a:Nat}{v:Nat->Ve}(h:a<k)(e:∀j,j<k->s*w j=su k λl=>c l*v l j):s*D k (up a w v)=c a*D k v:=by
 have e1:=D.FG (k:=k) (a:=a) (v:=v) (u:=w) (w:=w) (x:=s) (y:=0) h;simp only[S5,RX] at e1;rw[<-e1,D.congr (w:=up a (λj=>su k λl=>c l*v l j) v) λi j hi N=>by
  unfold up;split
  .exact e j N
  .rfl,D.sum h,iZ h λi hi hn=>by rw[D.alike (b:=i) h hi (RH hn) (by simp[up,hn]),Rn],rn]
noncomputable def mv(k c:Nat)(v:Nat->Ve):Nat->Ve:=λj=>if j<c then v j else if j+1<k then v (j+1) else if j+1=k then v c else v j
theorem D.mv:∀{d k c:Nat}{v:Nat->Ve},c+d+1=k->(D k (mv k c v)).natAbs=(D k v).natAbs
 |0,k,c,v,h=>by
  have:Sx.mv k c v=v:=by funext j;unfold Sx.mv;grind
  rw[this]
 |d+1,k,c,v,h=>by have s:=D.swap (k:=k) (a:=c) (v:=v) Q1;have z:=D.mv (d:=d) (k:=k) (c:=c+1) (v:=up c (v (c+1)) (up (c+1) (v c) v)) Q1;rw[s] at z;rw[show Sx.mv k c v=Sx.mv k (c+1) (up c (v (c+1)) (up (c+1) (v c) v)) by funext j;unfold Sx.mv up;grind,z];lia
noncomputable def un(i:Nat):Ve:=λj=>if j=i then 1 else 0
theorem D.un:∀{k:Nat}{v:Nat->Ve},(∀i,i<k->v i=un i)->(D k v).natAbs=1
 |0,_,_=>rfl
 |k+1,v,h=>by
  rw[D.eq,iZ (a:=k) Q1 λi hi hn=>by rw[h i hi];simp[Sx.un,RH hn]];rw[h k Q1];have z:=D.un (k:=k) (v:=sk k v) λi hi=>by unfold sk;rw[Zt hi];exact h i Q1
  simp only[Sx.un,Zt];rw[RS,z];unfold sg;split<;>rfl
theorem lE{k x:Nat}(h:x<k):su k f=f x+su k λl=>if l=x then 0 else f l:=by
 induction k with
 |zero=>lia
 |succ k m=>
  by_cases e:x=k
  .subst e;simp only[su,if_true];rw[bC (n:=x) (f:=λl=>if l=x then 0 else f l) (g:=f) λi hi=>Zu Q1];lia
  .simp only[su,Zu (RH e)];rw[m Q1];lia
theorem cF{k:Nat}{x:Int}:su k (λl=>x*f l)=x*su k f:=by have:=kc (n:=k) (f:=f) (g:=f) (x:=x) (y:=0);simpa using this
noncomputable def Gt(at' x:Nat)(s:Int)(G:Nat->Nat->Int):Nat->Nat->Int:=λi l=>if i=at' then (if l=x then s else G at' l) else if l=x then-G i x else (G at' x*G i l-G i x*G at' l) / s
def Id(k m:Nat)(q:Nat->Int)(s:Int)(W:Nat->Ve)(G:Nat->Nat->Int)(v:Nat->Ve):Prop:=∀i,i<=m->∀j,j<k->s*W i j=su k λl=>q l*G i l*v l j
variable{k m at' col:Nat}{q:Nat->Int}{s:Int}{W v:Nat->Ve}{G:Nat->Nat->Int}
theorem Id.mid(hk:col<k)(hc:q col = -1)(id:Id k m q s W G v)(f:at'<=m)(i:Nat)(hi:i<=m)(j:Nat)(N:j<k):(s*G at' col)*W i j=su k λl=>(if l=col then s*G i col else q l*(G at' col*G i l-G i col*G at' l))*up col (W at') v l j:=by
 have h1:=id i hi j N;have h2:=id at' f j N;rw[lE hk] at h1 h2 ⊢;simp only[if_true,hc,up] at h1 h2 ⊢;have e:(su k λl=>if l=col then 0 else (if l=col then s*G i col else q l*(G at' col*G i l-G i col*G at' l))*(if l=col then W at' else v l) j)=G at' col*(su k λl=>if l=col then 0 else q l*G i l*v l j)+(- G i col)*su k λl=>if l=col then 0 else q l*G at' l*v l j:=by
  rw[<-kc];refine bC λl hl=>?_;by_cases c:l=col
  .simp[c]
  .simp only[Zu c];grind
 rw[e];grind
theorem Id.det(hk:col<k)(hc:q col = -1)(hs:s≠0)(i:(D k v).natAbs=s.natAbs)(id:Id k m q s W G v)(f:at'<=m):(D k (up col (W at') v)).natAbs=(G at' col).natAbs:=by
 have h:=D.HX (v:=v) (w:=W at') (s:=s) (c:=λl=>q l*G at' l) hk λj N=>id at' f j N;simp only[hc] at h;have e:=Zx XE h;rw[RS,RS,RS,i] at e;have:0<s.natAbs:=by lia
 apply Vm this;rw[e];simp;exact Ts _ _
theorem Id.dvd(hk:col<k)(V:∀l,q l=1\/q l = -1)(hc:q col = -1)(hs:s≠0)(u:(D k v).natAbs=s.natAbs)(id:Id k m q s W G v)(f:at'<=m)(hp:G at' col≠0)(i:Nat)(hi:i<=m)(l:Nat)(hl:l<k)(hn:l≠col):s ∣ G at' col*G i l-G i col*G at' l:=by
 have d:=id.det hk hc hs u f;have c:=D.HX (v:=up col (W at') v) (w:=W i) (s:=s*G at' col) hl (id.mid hk hc f i hi);simp only[Zu hn] at c;generalize D k (up l (W i) (up col (W at') v))=x at c;generalize D k (up col (W at') v)=y at c d;generalize G at' col*G i l-G i col*G at' l=z at c ⊢;have e:y=G at' col\/y =-G at' col:=by lia
 have e2:q l*z=s*x\/q l*z=s*(-x):=by
  rcases e with e|e<;>subst e
  .exact .inl (Sf hp (by grind))
  .exact .inr (Sf hp (by grind))
 rcases V l with N|N<;>rw[N] at e2<;>rcases e2 with e2|e2
 .exact⟨x,by grind⟩
 .exact⟨-x,by grind⟩
 .exact⟨-x,by grind⟩
 .exact⟨x,by grind⟩
theorem Id.turn(hk:col<k)(V:∀l,q l=1\/q l = -1)(hc:q col = -1)(hs:s≠0)(u:(D k v).natAbs=s.natAbs)(id:Id k m q s W G v)(f:at'<=m)(hp:G at' col≠0):Id k m q (G at' col) (up at' (v col) W) (Gt at' col s G) (up col (W at') v):=λi hi j N=>by
 by_cases e:i=at'
 .subst e;have h:=id i hi j N;rw[lE hk] at h ⊢;simp only[if_true,hc,up,Gt] at h ⊢;rw[bC (g:=λl=>if l=col then 0 else q l*G i l*v l j) λl hl=>by by_cases c:l=col<;>simp[c]]
  grind
 .have h:=id.mid hk hc f i hi j N;rw[show up at' (v col) W i=W i by simp[up,e]];apply Int.eq_of_mul_eq_mul_left hs;rw[<-cF,<-TY,h];refine bC λl hl=>?_;simp only[Gt,Zu e];by_cases c:l=col
  .simp only[c,if_true,hc];grind
  .simp only[Zu c];have z:=Uv (id.dvd hk V hc hs u f hp i hi l hl c);generalize (G at' col*G i l-G i col*G at' l) / s=x at z ⊢;rw[<-z];grind
def LP(M:Nat)(f:Nat->Int):Prop:=∃t,t<M/\0<f t/\∀u,u<t->f u=0
def LN(M:Nat)(f:Nat->Int):Prop:=¬ LP M λt=>- f t
variable{M:Nat}{f g h:Nat->Int}{x y:Int}
theorem LP.congr(e:∀t,t<M->f t=g t)(h:LP M f):LP M g:=by obtain⟨t,a,b,c⟩:=h;exact⟨t,a,by rw[<-e t a];exact b,λu G=>by rw[<-e u Q1];exact c u G⟩
theorem LP.mul(hx:0<x)(h:LP M f):LP M λt=>x*f t:=by obtain⟨t,a,b,c⟩:=h;exact⟨t,a,U3 hx b,λu g=>by simp only[c u g,Rn]⟩
theorem LP.tY(hx:0<x)(h:LP M λt=>x*f t):LP M f:=by obtain⟨t,a,b,c⟩:=h;exact⟨t,a,Int.pos_of_mul_pos_right b hx,λu g=>(WI.mp (c u g)).resolve_left Q1⟩
theorem LN.or(h:LN M f):LP M f\/∀t,t<M->f t=0:=by
 induction M with
 |zero=>exact .inr λt l=>absurd l Q1
 |succ M m=>
  rcases m λ⟨t,a,b⟩=>h ⟨t,by lia,b⟩ with ⟨t,a,b⟩|z
  .exact .inl ⟨t,by lia,b⟩
  .rcases Int.lt_trichotomy (f M) 0 with c|c|c
   .exact absurd ⟨M,by lia,by show-f M > 0;lia,λu g=>by show-f u=0;rw[z u g];rfl⟩ h
   .exact .inr λt l=>by
     by_cases e:t=M
     .rw[e];exact c
     .exact z t Q1
   .exact .inl ⟨M,by lia,c,λu g=>z u g⟩
theorem LP.add(a:LP M f)(b:LP M g):LP M λt=>f t+g t:=by
 obtain⟨t,a1,r,q⟩:=a;obtain⟨u,b1,b2,T⟩:=b;rcases Wj t u with c|c|c
 .exact⟨t,a1,by show 0<f t+g t;rw[T t c];lia,λw Z=>by show f w+g w=0;rw[q w Z,T w Q1];rfl⟩
 .subst c;exact⟨t,a1,by show 0<f t+g t;lia,λw Z=>by show f w+g w=0;rw[q w Z,T w Z];rfl⟩
 .exact⟨u,b1,by show 0<f u+g u;rw[q u c];lia,λw Z=>by show f w+g w=0;rw[q w Q1,T w Z];rfl⟩
theorem LP.Oc(a:LP M f)(b:LN M g):LP M λt=>f t+g t:=by
 rcases b.or with b|b
 .exact a.add b
 .exact a.congr λt l=>by rw[b t l];lia
theorem LP.ln(a:LP M f):LN M f:=λb=>by obtain⟨t,_,c,_⟩:=a.add b;have c:0<f t +-f t:=c;lia
theorem LN.mul(hx:0<=x)(h:LN M f):LN M λt=>x*f t:=by
 rcases h.or with h|h
 .by_cases e:x=0
  .subst e;rintro⟨t,_,c,_⟩;simp at c
  .exact(LP.mul Q1 h).ln
 .rintro⟨t,a,c,_⟩;simp only[h t a] at c;simp at c
def LL(M:Nat)(f:Nat->Int)(s:Int)(g:Nat->Int)(s':Int):Prop:=LP M λt=>s*g t-s'*f t
theorem LL.PY:¬ LL M f s f s:=λ⟨t,_,b,_⟩=>by have b:0<s*f t-s*f t:=b;lia
variable{s' s'':Int}
theorem LL.trans(h1:0<s)(h2:0<s')(h3:0<s'')(a:LL M f s g s')(b:LL M g s' h s''):LL M f s h s'':=
 LP.tY (x:=s') h2 (((LP.mul h1 b).add (LP.mul h3 a)).congr λt _=>by grind)
theorem LL.nt(h1:0<s)(h2:0<s')(h3:0<s'')(a:¬ LL M f s g s')(b:LL M h s'' g s'):¬ LL M f s h s'':=λc=>a (LL.trans h1 h3 h2 c b)
def F(N m:Nat)(ac dn:Nat->Int)(G:Nat->Nat->Int)(s:Int)(i:Nat)(u:Int):Int:=(su N λl=>if ac l=u then G i l else 0)+if i<m/\dn i=u then s else 0
noncomputable def qp(a:Nat)(u:Int)(v:Nat->Int):Nat->Int:=λj=>if j=a then u else v j
variable{N m at' col i:Nat}{ac dn:Nat->Int}{G:Nat->Nat->Int}{s u:Int}
theorem F.own(hk:col<N)(V:at'<m):F N m (qp col (dn at') ac) (qp at' (ac col) dn) (Gt at' col s G) (G at' col) at' u=F N m ac dn G s at' u:=by
 unfold F;rw[lE hk,lE (f:=λl=>if ac l=u then G at' l else 0) hk];rw[bC (g:=λl=>if l=col then 0 else if ac l=u then G at' l else 0) λl hl=>by
  by_cases c:l=col
  .simp only[Zt c]
  .simp only[Zu c,qp,Gt,if_true]]
 simp only[qp,Gt,if_true,V,true_and];lia
theorem F.P4(hk:col<N)(V:at'<m)(hn:i≠at')(hd:∀l,l<N->l≠col->s ∣ G at' col*G i l-G i col*G at' l):s*F N m (qp col (dn at') ac) (qp at' (ac col) dn) (Gt at' col s G) (G at' col) i u=G at' col*F N m ac dn G s i u-G i col*F N m ac dn G s at' u:=by
 unfold F;rw[lE hk,lE (f:=λl=>if ac l=u then G at' l else 0) hk,lE (f:=λl=>if ac l=u then G i l else 0) hk];have e:s*(su N λl=>if l=col then 0 else if qp col (dn at') ac l=u then Gt at' col s G i l else 0)=G at' col*(su N λl=>if l=col then 0 else if ac l=u then G i l else 0)+(- G i col)*(su N λl=>if l=col then 0 else if ac l=u then G at' l else 0):=by
  rw[<-kc,<-cF];refine bC λl hl=>?_;by_cases c:l=col
  .simp[c]
  .simp only[Zu c,qp,Gt,Zu hn];by_cases P:ac l=u
   .simp only[Zt P];have z:=Uv (hd l hl c);rw[z];grind
   .simp[Zu P]
 simp only[qp,if_true,Zu hn,V,true_and,Gt] at e ⊢;rw[U4,U4,e];by_cases J:dn at'=u<;>by_cases P:ac col=u<;>by_cases y:i<m/\dn i=u<;>simp only[J,P,y,if_true,if_false]<;>grind
structure Bo where
 ac:List Int
 dn:List Int
 g:List (List Int)
 s:Int
noncomputable def Bo.Gq(b:Bo)(i l:Nat):Int:=(b.g.getD i []).getD l 0
noncomputable def Bo.Aq(b:Bo)(l:Nat):Int:=b.ac.getD l 0
noncomputable def Bo.Bq(b:Bo)(i:Nat):Int:=b.dn.getD i 0
structure Sh(N m:Nat)(b:Bo):Prop where
 ac:b.ac.length=N
 dn:b.dn.length=m
 g:b.g.length=m+1
 r:∀x∈b.g,x.length=N+1
noncomputable def kh(row pr:List Int)(c:Nat)(s:Int):List Int:=
 if row.getD c 0=0 then row.map λx=>(pr.getD c 0*x).fdiv s
 else ((row.zip pr).map λp=>(pr.getD c 0*p.1-row.getD c 0*p.2).fdiv s).set c (- row.getD c 0)
def Bo.raw(b:Bo)(a c:Nat):List (List Int):=(b.g.map λrow=>kh row (b.g.getD a []) c b.s).set a ((b.g.getD a []).set c b.s)
noncomputable def gf(row:List Int):List Int:=row.map λx=>- x
def Bo.turn(b:Bo)(a c:Nat):Bo:=
 ⟨b.ac.set c (b.dn.getD a 0),b.dn.set a (b.ac.getD c 0),if b.Gq a c<0 then (b.raw a c).map gf else b.raw a c,if b.Gq a c<0 then-b.Gq a c else b.Gq a c⟩
variable{α:Type}
theorem getD_map{β:Type}{f:α->β}{xs:List α}{d:α}{e:β}(h:i<xs.length):(xs.map f).getD i e=f (xs.getD i d):=by simp[Rg,h]
variable{j:Nat}
theorem gL{xs:List α}{v d:α}(h:i<xs.length):(xs.set i v).getD j d=if j=i then v else xs.getD j d:=by
 by_cases e:j=i
 .subst e;simp[Rg,h]
 .simp[Rg,e,Rb (RH e)]
theorem getD_mem{xs:List (List Int)}(h:i<xs.length):xs.getD i []∈xs:=by simp[Rg,h]
variable{N m a c i l:Nat}{b:Bo}
theorem Sh.row(h:Sh N m b)(hi:i<=m):(b.g.getD i []).length=N+1:=h.r _ (getD_mem (by rw[h.g];lia))
variable{pr:List Int}
theorem CB{row:List Int}(h1:row.length=N+1)(h2:pr.length=N+1)(hc:c<N+1)(hl:l<N+1)(hs:s≠0)(hd:l≠c->s ∣ pr.getD c 0*row.getD l 0-row.getD c 0*pr.getD l 0):
  (kh row pr c s).getD l 0=if l=c then-row.getD c 0 else (pr.getD c 0*row.getD l 0-row.getD c 0*pr.getD l 0) / s:=by
 unfold kh;by_cases e:row.getD c 0=0
 .rw[Zt e,getD_map (d:=0) Q1,e];by_cases e2:l=c
  .subst e2;rw[Zt rfl,e];simp
  .rw[Zu e2];have z:=hd e2;rw[e] at z;simp only[S5,Int.sub_zero] at z ⊢;exact Vy z
 .rw[Zu e,gL (by simp;lia)];by_cases e2:l=c
  .rw[Zt e2,Zt e2]
  .rw[Zu e2,Zu e2,getD_map (d:=(0,0)) (by simp;lia)];rw[Vy (by have z:=hd e2;simpa[Rg,RZ,h1,h2,hl,Q5] using z)]
   simp[Rg,h1,h2,hl]
theorem BX{row:List Int}(h1:row.length=N+1)(h2:pr.length=N+1):(kh row pr c s).length=N+1:=by unfold kh;split<;>simp[h1,h2]
theorem Bo.IT(h:Sh N m b)(f:a<=m)(hc:c<N+1)(hs:b.s≠0)(hd:∀i,i<=m->∀l,l<N+1->l≠c->b.s ∣ b.Gq a c*b.Gq i l-b.Gq i c*b.Gq a l)(hi:i<=m)(hl:l<N+1):((b.raw a c).getD i []).getD l 0=Gt a c b.s b.Gq i l:=by
 unfold Bo.raw;rw[gL (by simp[h.g];lia)];by_cases e:i=a
 .subst e;rw[Zt rfl,gL (by rw[h.row f];lia)];simp only[Gt,if_true];rfl
 .rw[Zu e,getD_map (d:=[]) (by rw[h.g];lia),CB (h.row hi) (h.row f) hc hl hs (hd i hi l hl)];simp only[Gt,Zu e];rfl
theorem Sh.raw(h:Sh N m b)(f:a<=m)(x:List Int)(hx:x∈b.raw a c):x.length=N+1:=by
 rcases List.mem_or_eq_of_mem_set hx with z|z
 .obtain⟨r,hr,rfl⟩:=Rh.mp z;exact BX (h.r r hr) (h.row f)
 .subst z;rw[U2];exact h.row f
theorem Sh.turn(h:Sh N m b)(f:a<=m):Sh N m (b.turn a c):=by
 refine⟨by simp[Bo.turn,h.ac],by simp[Bo.turn,h.dn],?_,?_⟩
 .show W7 (ite _ _ _)=_;split<;>simp[Bo.raw,h.g]
 .intro x hx;have hx:x∈(if b.Gq a c<0 then (b.raw a c).map gf else b.raw a c):=hx;split at hx
  .obtain⟨y,hy,rfl⟩:=Rh.mp hx;simpa[gf] using h.raw f y hy
  .exact h.raw f x hx
noncomputable def sn(x:Int):Int:=if x<0 then -1 else 1
theorem Bo.lY(h:Sh N m b)(f:a<=m)(hc:c<N+1)(hs:b.s≠0)(hd:∀i,i<=m->∀l,l<N+1->l≠c->b.s ∣ b.Gq a c*b.Gq i l-b.Gq i c*b.Gq a l)(hi:i<=m)(hl:l<N+1):(b.turn a c).Gq i l=sn (b.Gq a c)*Gt a c b.s b.Gq i l:=by
 have z:=b.IT h f hc hs hd hi hl;have R:i<(b.raw a c).length:=by simp[Bo.raw,h.g];lia
 show (Rg (ite _ _ _) i []).getD l 0=_;unfold sn;by_cases e:b.Gq a c<0
 .rw[Zt e,Zt e,getD_map (d:=[]) R];unfold gf;rw[getD_map (d:=0) (by rw[h.raw f _ (getD_mem R)];exact hl),z];lia
 .rw[Zu e,Zu e,z];lia
theorem Bo.iW:(b.turn a c).s=sn (b.Gq a c)*b.Gq a c:=by show ite _ _ _=_;unfold sn;split<;>lia
theorem Bo.ql(h:Sh N m b)(hc:c<N):(b.turn a c).Aq=qp c (b.Bq a) b.Aq:=by funext l;exact gL (by rw[h.ac];exact hc)
theorem Bo.mH(h:Sh N m b)(f:a<m):(b.turn a c).Bq=qp a (b.Aq c) b.Bq:=by funext l;exact gL (by rw[h.dn];exact f)
structure Pb where
 n:Nat
 m:Nat
 c:Nat->Int
 R:Nat->Nat->Int
 L:Nat->Int
def Pb.Yq(P:Pb)(u:Int):Ve:=if u = -1 then un (P.n+1) else if u<P.n then un u.toNat else λj=>if j<P.n then-P.R (u-P.n).toNat j else if j=P.n then P.L (u-P.n).toNat else 1
noncomputable def Pb.zq(P:Pb):Ve:=λj=>if j<P.n then P.c j else 0
def Pb.vec(P:Pb)(N:Nat)(b:Bo):Nat->Ve:=λl=>if l<N then P.Yq (b.Aq l) else if l=N then un P.n else un (P.n+1)
def Pb.Wq(P:Pb)(b:Bo):Nat->Ve:=λi=>if i<P.m then P.Yq (b.Bq i) else P.zq
def Gx(N:Nat)(b:Bo)(T:Nat->Int):Nat->Nat->Int:=λi l=>if l<=N then b.Gq i l else T i
noncomputable def qs(N l:Nat):Int:=if l<N then -1 else 1
structure Ok(P:Pb)(N:Nat)(b:Bo):Prop where
 sh:Sh N P.m b
 nd:(b.ac++b.dn).Nodup
 nm:∀u,u∈b.ac++b.dn↔(if N=P.n then 0 else -1)<=u/\u<(P.n+P.m:Nat)
 pos:0<b.s
 hN:N=P.n\/N=P.n+1
 det:(D (P.n+2) (P.vec N b)).natAbs=b.s.natAbs
 id:∃T,Id (P.n+2) P.m (qs N) b.s (P.Wq b) (Gx N b T) (P.vec N b)
variable{P:Pb}{N a c i l:Nat}{b:Bo}
theorem Ok.hc(h:Ok P N b)(hc:c<N):c<P.n+2:=by have:=h.hN;lia
theorem Ok.dvd(h:Ok P N b)(f:a<P.m)(hc:c<N)(hp:b.Gq a c≠0)(i:Nat)(hi:i<=P.m)(l:Nat)(hl:l<N+1)(hn:l≠c):b.s ∣ b.Gq a c*b.Gq i l-b.Gq i c*b.Gq a l:=by obtain⟨T,id⟩:=h.id;have:=h.hN;have hs:=h.pos;have z:=Id.dvd (at':=a) (h.hc hc) (λl=>by unfold qs;split<;>simp) (by simp[qs,hc]) Q1 h.det id Q1 (by simpa[Gx,Rk hc] using hp) i hi l Q1 hn;simpa[Gx,Rk hc,Wa hl] using z
theorem qW(h:Sh N P.m b)(f:a<P.m)(hc:c<N):P.vec N (b.turn a c)=up c (P.Wq b a) (P.vec N b):=by
 funext l
 unfold Pb.vec up Pb.Wq
 rw[Bo.ql h hc,Zt f]
 by_cases e:l=c
 .subst e;simp[qp,hc]
 .simp[qp,e]
theorem Hv(h:Sh N P.m b)(f:a<P.m)(hc:c<N):P.Wq (b.turn a c)=up a (P.vec N b c) (P.Wq b):=by
 funext i
 unfold Pb.vec up Pb.Wq
 rw[Bo.mH h f,Zt hc]
 by_cases e:i=a
 .subst e;simp[qp,f]
 .simp[qp,e]
theorem Nm(h:x≠0):0<sn x*x:=by unfold sn;split<;>lia
theorem K3(x:Int):sn x=1\/sn x = -1:=by unfold sn;split<;>simp
theorem swap_perm[DecidableEq α]{xs ys:List α}{c a:Nat}(hc:c<xs.length)(f:a<ys.length)(d:α):(xs.set c (ys.getD a d)++ys.set a (xs.getD c d)).Perm (xs++ys):=by
 have e1:xs.getD c d=xs[c]:=by simp[Rg,hc]
 have e2:ys.getD a d=ys[a]:=by simp[Rg,f]
 rw[e1,e2];have A:(xs.set c ys[a]).Perm (ys[a]::xs.eraseIdx c):=by rw[UM,Zt hc,Rt];exact R1
 have w:(ys.set a xs[c]).Perm (xs[c]::ys.eraseIdx a):=by rw[UM,Zt f,Rt];exact R1
 have h:xs.Perm (xs[c]::xs.eraseIdx c):=by rw[Rt];have:=R1 (a:=xs[c]) (l₁:=xs.take c) (l₂:=xs.drop (c+1));rw[Ua,Sy] at this;exact this
 have x:ys.Perm (ys[a]::ys.eraseIdx a):=by rw[Rt];have:=R1 (a:=ys[a]) (l₁:=ys.take a) (l₂:=ys.drop (a+1));rw[Ua,Sy] at this;exact this
 refine(A.append w).trans (List.Perm.trans ?_ (h.append x).symm);generalize xs.eraseIdx c=X;generalize ys.eraseIdx a=Z;show (ys[a]::(X++xs[c]::Z)).Perm (xs[c]::(X++ys[a]::Z));exact((R1.cons _).trans (List.Perm.swap _ _ _)).trans (R1.symm.cons _)
theorem Ok.turn(h:Ok P N b)(f:a<P.m)(hc:c<N)(hp:b.Gq a c≠0):Ok P N (b.turn a c):=by
 have hs:=h.pos;have hN:=h.hN;have pm:((b.turn a c).ac++(b.turn a c).dn).Perm (b.ac++b.dn):=swap_perm (by rw[h.sh.ac];exact hc) (by rw[h.sh.dn];exact f) 0;have g:∀l,qs N l=1\/qs N l = -1:=λl=>by unfold qs;split<;>simp
 have p:qs N c = -1:=by simp[qs,hc]
 obtain⟨T,id⟩:=h.id;have x:∀i,Gx N b T i c=b.Gq i c:=λi=>by simp[Gx,Rk hc]
 have t:Gx N b T a c≠0:=by rw[x];exact hp
 refine⟨h.sh.turn Q1,pm.nodup_iff.mpr h.nd,λu=>by rw[pm.mem_iff];exact h.nm u,?_,hN,?_,?_⟩
 .rw[Bo.iW];exact Nm hp
 .rw[qW h.sh f hc,Id.det (G:=Gx N b T) (h.hc hc) p Q1 h.det id Q1,x,Bo.iW];rcases K3 (b.Gq a c) with e|e<;>rw[e]<;>lia
 .refine⟨λi=>sn (b.Gq a c)*Gt a c b.s (Gx N b T) i (N+1),λi hi j o=>?_⟩;have z:=Id.turn (h.hc hc) g p Q1 h.det id Q1 t i hi j o;rw[qW h.sh f hc,Hv h.sh f hc,Bo.iW,TY,<-x a,z,<-cF];refine bC λl hl=>?_;have e:Gx N (b.turn a c) (λi=>sn (b.Gq a c)*Gt a c b.s (Gx N b T) i (N+1)) i l=sn (Gx N b T a c)*Gt a c b.s (Gx N b T) i l:=by
   unfold Gx;by_cases e:l<=N
   .rw[Zt e,Bo.lY h.sh Q1 Q1 Q1 (h.dvd f hc hp) hi Q1];simp[Gt,Rk hc,e]
   .rw[Zu e,show l=N+1 by lia];simp[Rk hc]
  rw[<-x a] at e;rw[e];grind
def Fb(P:Pb)(N:Nat)(b:Bo)(i:Nat)(u:Int):Int:=F N P.m b.Aq b.Bq b.Gq b.s i u
def Rr(P:Pb)(N:Nat)(b:Bo)(i t:Nat):Int:=if t=0 then b.Gq i N else Fb P N b i ((P.n+(t-1):Nat):Int)
variable{P:Pb}{N a c i l:Nat}{b:Bo}
theorem F.scale{ac dn:Nat->Int}{G G':Nat->Nat->Int}(e:∀l,l<N->G' i l=x*G i l):F N m ac dn G' (x*s) i u=x*F N m ac dn G s i u:=by
 unfold F;rw[U4,<-cF]
 congr 1
 .refine bC λl hl=>?_;split
  .exact e l hl
  .simp
 .split<;>simp
theorem Ok.Fa(h:Ok P N b)(f:a<P.m)(hc:c<N)(hp:b.Gq a c≠0)(u:Int):Fb P N (b.turn a c) a u=sn (b.Gq a c)*Fb P N b a u:=by unfold Fb;rw[Bo.ql h.sh hc,Bo.mH h.sh f,Bo.iW,F.scale (G:=Gt a c b.s b.Gq) λl hl=>Bo.lY h.sh Q1 Q1 (by have:=h.pos;lia) (h.dvd f hc hp) Q1 Q1,F.own hc f]
theorem Ok.Fo(h:Ok P N b)(f:a<P.m)(hc:c<N)(hp:b.Gq a c≠0)(hi:i<=P.m)(hn:i≠a)(u:Int):b.s*Fb P N (b.turn a c) i u=sn (b.Gq a c)*(b.Gq a c*Fb P N b i u-b.Gq i c*Fb P N b a u):=by
 unfold Fb;rw[Bo.ql h.sh hc,Bo.mH h.sh f,Bo.iW,F.scale (G:=Gt a c b.s b.Gq) λl hl=>Bo.lY h.sh Q1 Q1 (by have:=h.pos;lia) (h.dvd f hc hp) hi Q1];rw[<-F.P4 hc f hn λl hl H=>h.dvd f hc hp i hi l Q1 H]
 grind
theorem Ok.Ra(h:Ok P N b)(f:a<P.m)(hc:c<N)(hp:b.Gq a c≠0)(t:Nat):Rr P N (b.turn a c) a t=sn (b.Gq a c)*Rr P N b a t:=by
 unfold Rr;split
 .rw[Bo.lY h.sh Q1 Q1 (by have:=h.pos;lia) (h.dvd f hc hp) Q1 Q1];simp[Gt,show N≠c by lia]
 .exact h.Fa f hc hp _
theorem Ok.Ro(h:Ok P N b)(f:a<P.m)(hc:c<N)(hp:b.Gq a c≠0)(hi:i<=P.m)(hn:i≠a)(t:Nat):b.s*Rr P N (b.turn a c) i t=sn (b.Gq a c)*(b.Gq a c*Rr P N b i t-b.Gq i c*Rr P N b a t):=by
 unfold Rr;split
 .rw[Bo.lY h.sh Q1 Q1 (by have:=h.pos;lia) (h.dvd f hc hp) hi Q1];have z:=Uv (h.dvd f hc hp i hi N Q1 Q1);simp only[Gt,Zu hn,Zu (show N≠c by lia)]
  grind
 .exact h.Fo f hc hp hi hn _
theorem getD_inj{xs:List Int}(h:xs.Nodup)(hi:i<xs.length)(N:j<xs.length)(e:xs.getD i 0=xs.getD j 0):i=j:=by simp only[Rg,Q5 hi,Q5 N,S8] at e;exact(Wb h).mp e
theorem Ok.Ai(h:Ok P N b){u:Nat}(hl:l<N)(a:u<N)(e:b.Aq l=b.Aq u):l=u:=
 getD_inj (QQ.mp h.nd).1 (by rw[h.sh.ac];exact hl) (by rw[h.sh.ac];exact a) e
theorem Ok.Am(h:Ok P N b)(hl:l<N):b.Aq l∈b.ac:=by have:=h.sh.ac;simp[Bo.Aq,Rg,this,hl]
theorem Ok.Bm(h:Ok P N b)(hi:i<P.m):b.Bq i∈b.dn:=by have:=h.sh.dn;simp[Bo.Bq,Rg,this,hi]
theorem Ok.AB(h:Ok P N b)(hl:l<N)(hi:i<P.m):b.Bq i≠b.Aq l:=λe=>(QQ.mp h.nd).2.2 _ (h.Am hl) _ (h.Bm hi) e.symm
theorem Ok.Ip(h:Ok P N b)(hl:l<N)(i:Nat):Fb P N b i (b.Aq l)=b.Gq i l:=by unfold Fb F;rw[iZ hl λu a hn=>Zu λe=>hn (h.Ai a hl e),Zt rfl,Zu λz=>h.AB hl z.1 z.2];lia
theorem Ok.Oz(h:Ok P N b)(hi:i<P.m):Fb P N b i (b.Bq i)=b.s:=by unfold Fb F;rw[iK λl hl=>Zu λe=>h.AB hl hi e.symm,Zt ⟨hi,rfl⟩];lia
theorem Ok.xO(h:Ok P N b)(g:u∈b.ac++b.dn):-1<=u/\u<(P.n+P.m:Nat):=by have:=(h.nm u).mp g;split at this<;>lia
theorem Ok.nz(h:Ok P N b)(hi:i<P.m)(z:∀t,t<P.m+1->Rr P N b i t=0):False:=by
 have hs:=h.pos;have hN:=h.hN;have p:∀u:Int,(P.n:Int)<=u->u<(P.n+P.m:Nat)->Fb P N b i u=0:=λu h1 h2=>by have:=z ((u-P.n).toNat+1) Q1;unfold Rr at this;rw[Zu Q1,show ((P.n+((u-P.n).toNat+1-1):Nat):Int)=u by lia] at this;exact this
 have G:=h.xO (QG b.ac (h.Bm hi));by_cases J:(P.n:Int)<=b.Bq i
 .have:=p _ J G.2;rw[h.Oz hi] at this;lia
 .obtain⟨T,id⟩:=h.id;have O:=(h.nm _).mp (QG b.ac (h.Bm hi));obtain⟨j,a⟩:∃j:Nat,j=if b.Bq i = -1 then P.n+1 else (b.Bq i).toNat:=⟨_,rfl⟩
  have x:j<P.n+2:=by rw[a];split<;>lia
  have c:j≠P.n:=by rw[a];split<;>lia
  have e:=id i Q1 j x;rw[iK λl hl=>?_] at e
  .have w:P.Wq b i j=1:=by
    unfold Pb.Wq Pb.Yq;rw[Zt hi,a];by_cases F:b.Bq i = -1
    .simp[F,un]
    .rw[Zu F,Zu F,Zt Q1];simp[un]
   rw[w] at e;lia
  .by_cases F:l<N
   .have E:=h.AB F hi;have Z:=h.xO (QI b.dn (h.Am F));by_cases y:(P.n:Int)<=b.Aq l
    .have g:=p _ y Z.2;rw[h.Ip F] at g;simp[Gx,Rk F,g]
    .have q:P.vec N b l j=0:=by
      unfold Pb.vec Pb.Yq;rw[Zt F,a];by_cases d:b.Aq l = -1<;>by_cases s:b.Bq i = -1
      .lia
      .rw[Zt d,Zu s];exact Zu Q1
      .rw[Zu d,Zt Q1,Zt s];exact Zu Q1
      .rw[Zu d,Zt Q1,Zu s];exact Zu Q1
     rw[q,Rn]
   .by_cases y:l=N
    .have g:=z 0 Q1;simp only[Rr,if_true] at g;subst y;simp[Gx,g]
    .have q:P.vec N b l j=0:=by
      unfold Pb.vec;rw[Zu F,Zu y];refine Zu ?_;have:N=P.n:=by lia
      rw[Zt this] at O;rw[a];split<;>lia
     rw[q,Rn]
theorem uM{n:Nat}{f:Nat->Nat->Int}:(su n λi=>su m λj=>f i j)=su m λj=>su n λi=>f i j:=by
 induction n with
 |zero=>exact(iK λ_ _=>rfl).symm
 |succ n b=>simp only[su];rw[b];have:=kc (n:=m) (f:=λj=>su n λi=>f i j) (g:=λj=>f n j) (x:=1) (y:=1);simp only[RY] at this;exact this.symm
variable{P:Pb}{N:Nat}{b b1 b2:Bo}
theorem Ok.Ax(h:Ok P N b)(g:u∈b.ac):∃l,l<N/\b.Aq l=u:=by obtain⟨l,hl,e⟩:=R9 g;exact⟨l,by rw[<-h.sh.ac];exact hl,by simp[Bo.Aq,Rg,hl,e]⟩
def Fc(N:Nat)(b:Bo)(r:Nat)(u:Int):Int:=su N λl=>if b.Aq l=u then b.Gq r l else 0
theorem Ok.perm(h1:Ok P N b1)(h2:Ok P N b2)(hs:∀u,u∈b1.ac↔u∈b2.ac)(r:Nat)(y:Int->Int):(su N λl=>Fc N b2 r (b1.Aq l)*y (b1.Aq l))=su N λl=>b2.Gq r l*y (b2.Aq l):=by
 unfold Fc;rw[bC (g:=λl=>su N λh=>(if b2.Aq h=b1.Aq l then b2.Gq r h*y (b2.Aq h) else 0)) λl hl=>by
  rw[RB,<-cF];refine bC λh a=>?_;by_cases e:b2.Aq h=b1.Aq l
  .rw[Zt e,Zt e,e];exact RB _ _
  .rw[Zu e,Zu e,Rn],uM]
 refine bC λh a=>?_;obtain⟨l,hl,e⟩:=h1.Ax ((hs _).mpr (h2.Am a));rw[iZ hl λi hi hn=>Zu λz=>hn (h1.Ai hi hl (z.symm.trans e.symm)),Zt e.symm]
variable{r1 r2:Nat}
theorem Ok.cols(h1:Ok P N b1)(h2:Ok P N b2)(hs:∀u,u∈b1.ac↔u∈b2.ac)(a:r1<=P.m)(x:r2<=P.m)(Z:P.Wq b1 r1=P.Wq b2 r2):
  (∀l,l<N->b1.s*Fc N b2 r2 (b1.Aq l)=b2.s*b1.Gq r1 l)/\b1.s*b2.Gq r2 N=b2.s*b1.Gq r1 N:=by
 obtain⟨T1,b⟩:=h1.id;obtain⟨h,I⟩:=h2.id;have hN:=h1.hN;have A:=h1.pos;have dn:D (P.n+2) (P.vec N b1)≠0:=λz=>by have:=h1.det;rw[z] at this;simp at this;lia
 have key:∀j,j<P.n+2->b2.s*P.Wq b1 r1 j=su (P.n+2) λl=>(if l<N then-Fc N b2 r2 (b1.Aq l) else if l=N then b2.Gq r2 N else h r2)*P.vec N b1 l j:=λj o=>by
  rw[Z,I r2 x j o];have q:=h1.perm h2 hs r2 λu=>P.Yq u j;have e1:(su N λl=>qs N l*Gx N b2 h r2 l*P.vec N b2 l j) =-su N λl=>b2.Gq r2 l*P.Yq (b2.Aq l) j:=by rw[<-R8,<-cF];refine bC λl hl=>?_;simp only[qs,Gx,Pb.vec,Zt hl,Zt (Rk hl)];grind
  have e2:(su N λl=>(if l<N then-Fc N b2 r2 (b1.Aq l) else if l=N then b2.Gq r2 N else h r2)*P.vec N b1 l j) =-su N λl=>Fc N b2 r2 (b1.Aq l)*P.Yq (b1.Aq l) j:=by rw[<-R8,<-cF];refine bC λl hl=>?_;simp only[Pb.vec,Zt hl];grind
  rcases hN with z|z
  .rw[<-z];simp only[su];rw[e1,e2,q];simp[qs,Gx,Pb.vec,show ¬ N+1<N by lia,show ¬ N+1<=N by lia]
  .rw[show P.n+2=N+1 by lia];simp only[su];rw[e1,e2,q];simp[qs,Gx,Pb.vec]
 have go:∀l,l<P.n+2->b1.s*(if l<N then-Fc N b2 r2 (b1.Aq l) else if l=N then b2.Gq r2 N else h r2)=b2.s*(qs N l*Gx N b1 T1 r1 l):=λl hl=>by
  have J:=D.HX (v:=P.vec N b1) (w:=P.Wq b1 r1) (s:=b1.s) hl (b r1 a);have F:=D.HX (v:=P.vec N b1) (w:=P.Wq b1 r1) (s:=b2.s) hl key;refine Sf dn ?_
  grind
 refine⟨λl hl=>?_,?_⟩
 .have z:=go l (h1.hc hl);simp only[qs,Gx,Zt hl,Zt (Rk hl)] at z
  grind
 .have z:=go N Q1;simp only[qs,Gx,Q6,if_false,if_true,QN] at z
  grind
theorem Ok.uniq(h1:Ok P N b1)(h2:Ok P N b2)(hs:∀u,u∈b1.ac↔u∈b2.ac)(a:r1<=P.m)(x:r2<=P.m)(Z:P.Wq b1 r1=P.Wq b2 r2)(U:r1<P.m->b1.Bq r1<P.n)(o2:r2<P.m->b2.Bq r2<P.n)(t:Nat):
  b2.s*Rr P N b1 r1 t=b1.s*Rr P N b2 r2 t:=by
 obtain⟨J,G⟩:=h1.cols h2 hs a x Z;unfold Rr;split
 .exact G.symm
 .generalize g:((P.n+(t-1):Nat):Int)=u;have r:Fb P N b1 r1 u=Fc N b1 r1 u:=by unfold Fb F Fc;rw[Zu λz=>by have:=U z.1;lia];exact RX _
  have p:Fb P N b2 r2 u=Fc N b2 r2 u:=by unfold Fb F Fc;rw[Zu λz=>by have:=o2 z.1;lia];exact RX _
  rw[r,p];by_cases m:u∈b1.ac
  .obtain⟨l,hl,rfl⟩:=h1.Ax m;rw[J l hl];unfold Fc;rw[iZ hl λi hi hn=>Zu λz=>hn (h1.Ai hi hl z),Zt rfl]
  .unfold Fc;rw[iK λl hl=>Zu λ(z:b1.Aq l=u)=>m (by rw[<-z];exact h1.Am hl),iK λl hl=>Zu λ(z:b2.Aq l=u)=>m ((hs u).mpr (by rw[<-z];exact h2.Am hl))];simp
variable{P:Pb}{N a c:Nat}{b b':Bo}
def Lp(P:Pb)(N:Nat)(b:Bo):Prop:=∀i,i<P.m->LP (P.m+1) (Rr P N b i)
theorem Lp.turn(h:Ok P N b)(Y:Lp P N b)(f:a<P.m)(hc:c<N)(hp:0<b.Gq a c)(hm:∀i,i<P.m->0<b.Gq i c->¬ LL (P.m+1) (Rr P N b i) (b.Gq i c) (Rr P N b a) (b.Gq a c)):Lp P N (b.turn a c):=λi hi=>by
 have hs:=h.pos;have q:sn (b.Gq a c)=1:=Zu Q1;by_cases e:i=a
 .subst e;exact(Y i hi).congr λt _=>by rw[h.Ra hi hc Q1,q,RY]
 .have E:∀t,b.s*Rr P N (b.turn a c) i t=b.Gq a c*Rr P N b i t+(- b.Gq i c)*Rr P N b a t:=λt=>by rw[h.Ro f hc Q1 Q1 e,q];grind
  by_cases g:b.Gq i c<=0
  .exact LP.tY hs (((LP.mul hp (Y i hi)).Oc (LN.mul (x:=- b.Gq i c) Q1 (Y a f).ln)).congr λt _=>(E t).symm)
  .have z:LN (P.m+1) λt=>b.s*Rr P N (b.turn a c) i t:=λz=>hm i hi Q1 (z.congr λt _=>by show-(b.s*Rr P N (b.turn a c) i t)=_;rw[E t];grind);rcases z.or with z|z
   .exact LP.tY hs z
   .exact((h.turn f hc Q1).nz hi λt l=>(WI.mp (z t l)).resolve_left Q1).elim
variable{r:Nat}
theorem Ok.pd(h:Ok P N b)(Y:Lp P N b)(f:a<P.m)(hc:c<N)(hp:0<b.Gq a c)(hr:r<=P.m)(hn:r≠a)(J:b.Gq r c<0):LL (P.m+1) (Rr P N b r) b.s (Rr P N (b.turn a c) r) (b.turn a c).s:=by have q:sn (b.Gq a c)=1:=Zu Q1;refine(LP.mul (x:=- b.Gq r c) Q1 (Y a f)).congr λt _=>?_;rw[Bo.iW,h.Ro f hc Q1 hr hn,q];grind
theorem Ok.OX(h:Ok P N b)(Y:Lp P N b)(f:a<P.m)(hc:c<N)(hp:0<b.Gq a c)(hr:r<=P.m)(hn:r≠a)(J:0<b.Gq r c):LL (P.m+1) (Rr P N (b.turn a c) r) (b.turn a c).s (Rr P N b r) b.s:=by have q:sn (b.Gq a c)=1:=Zu Q1;refine(LP.mul (x:=b.Gq r c) J (Y a f)).congr λt _=>?_;rw[Bo.iW,h.Ro f hc Q1 hr hn,q];grind
noncomputable def allB:Nat->List (List Bool)
 |0=>[[]]
 |k+1=>(allB k).map (true::·)++(allB k).map (false::·)
theorem lM:∀{x:List Bool}{k:Nat},x.length=k->x∈allB k
 |[],_,rfl=>Q8.mpr rfl
 |true::x,_,rfl=>QI _ (Rh.mpr ⟨x,lM rfl,rfl⟩)
 |false::x,_,rfl=>QG _ (Rh.mpr ⟨x,lM rfl,rfl⟩)
theorem qQ{α:Type}{p q:α->Bool}(h:∀x,q x=true->p x=true){x0:α}(h1:p x0=true)(h2:q x0=false):∀{L:List α},x0∈L->L.countP q<L.countP p
 |[],z=>nomatch z
 |x::L,z=>by
  have le:=List.countP_mono_left (l:=L) λy _=>h y;rw[Wm,Wm];rcases QL.mp z with rfl|z
  .rw[h1,h2];simp;lia
  .have:=qQ h h1 h2 z;by_cases e:q x=true
   .rw[e,h x e];simp;lia
   .rw[Zu e];lia
noncomputable def key(P:Pb)(b:Bo):List Bool:=(Q4 (P.n+P.m+1)).map λk=>b.ac.contains ((Td k)-1)
theorem AD{b1 b2:Bo}(h1:Ok P N b1)(h2:Ok P N b2)(e:key P b1=key P b2)(u:Int):u∈b1.ac↔u∈b2.ac:=by
 have go:∀{b1 b2:Bo},Ok P N b1->key P b1=key P b2->u∈b1.ac->u∈b2.ac:=λ{b1 b2} h1 e g=>by have r:=h1.xO (QI _ g);have z:=Zx (λx=>x[(u+1).toNat]?) e;simp only[key,Rc,Ss (show (u+1).toNat<P.n+P.m+1 by lia),V7,Vo,show Td (u+1).toNat-1=u by have:Td (u+1).toNat=((u+1).toNat:Int):=rfl;lia] at z;exact Sz.mp (z▸Sz.mpr g)
 exact⟨go h1 e,go h2 e.symm⟩
open Classical in
def ms(P:Pb)(K:Bo->Prop)(ob:Bo->Nat->Int)(b:Bo):Nat:=(allB (P.n+P.m+1)).countP λx=>decide (∃b',K b'/\key P b'=x/\LL (P.m+1) (ob b) b.s (ob b') b'.s)
open Classical in
theorem ES{K:Bo->Prop}{ob:Bo->Nat->Int}(hs:∀b,K b->0<b.s)(g:∀b1 b2,K b1->K b2->key P b1=key P b2->∀t,b2.s*ob b1 t=b1.s*ob b2 t)(h:K b)(h':K b')(c:LL (P.m+1) (ob b) b.s (ob b') b'.s):ms P K ob b'<ms P K ob b:=by
 refine qQ (x0:=key P b') (λx hx=>?_) (Zw ⟨b',h',rfl,c⟩) (Zv ?_) (lM (by simp[key]))
 .obtain⟨a,k,e,l⟩:=Zz hx;exact Zw ⟨a,k,e,LL.trans (hs _ h) (hs _ h') (hs _ k) c l⟩
 .rintro⟨a,k,e,l⟩;obtain⟨t,_,z,_⟩:=l;have:=g b' a h' k e.symm t;have z:0<b'.s*ob a t-a.s*ob b' t:=z;lia
variable{P:Pb}{N c:Nat}{b:Bo}
theorem zL{n:Nat}{g:Nat->Int}:su n (λi=>f i-g i)=su n f-su n g:=by have:=kc (n:=n) (f:=f) (g:=g) (x:=1) (y:=-1);simp only[RY] at this;rw[show su n f-su n g=su n f + -1*su n g by lia,<-this];exact bC λi _=>by lia
theorem OH(u:Int)(g:-1<=u)(h2:u<(P.n+P.m:Nat))(N:j<P.n):P.Yq u j=(if u=j then 1 else 0)-su P.m λk=>if u=((P.n+k:Nat):Int) then P.R k j else 0:=by
 unfold Pb.Yq;by_cases J:u = -1
 .rw[Zt J,iK λk hk=>Zu Q1,Zu Q1];exact Zu Q1
 .rw[Zu J];by_cases F:u<P.n
  .rw[Zt F,iK λk hk=>Zu Q1];unfold un;by_cases y:u=j
   .rw[Zt Q1,Zt y];rfl
   .rw[Zu Q1,Zu y];rfl
  .have e1:(if u=(j:Int) then (1:Int) else 0)=0:=Zu Q1;have e2:(su P.m λk=>if u=((P.n+k:Nat):Int) then P.R k j else 0)=P.R (u-P.n).toNat j:=by rw[iZ (a:=(u-P.n).toNat) Q1 λk hk hn=>Zu Q1];exact Zt Q1
   rw[Zu F,e1,e2];simp[N]
theorem Qi(u:Int)(g:-1<=u)(h2:u<(P.n+P.m:Nat)):P.Yq u P.n=su P.m λk=>if u=((P.n+k:Nat):Int) then P.L k else 0:=by
 unfold Pb.Yq;by_cases J:u = -1
 .rw[Zt J,iK λk hk=>Zu Q1];exact Zu Q1
 .rw[Zu J];by_cases F:u<P.n
  .rw[Zt F,iK λk hk=>Zu Q1];exact Zu Q1
  .have e2:(su P.m λk=>if u=((P.n+k:Nat):Int) then P.L k else 0)=P.L (u-P.n).toNat:=by rw[iZ (a:=(u-P.n).toNat) Q1 λk hk hn=>Zu Q1];exact Zt Q1
   rw[Zu F,e2];simp
theorem F3{x:Nat->Int}:(su N λl=>b.Gq r l*su P.m λk=>if b.Aq l=((P.n+k:Nat):Int) then x k else 0)=su P.m λk=>Fc N b r ((P.n+k:Nat):Int)*x k:=by
 rw[bC (g:=λl=>su P.m λk=>if b.Aq l=((P.n+k:Nat):Int) then b.Gq r l*x k else 0) λl hl=>by rw[<-cF];refine bC λk hk=>?_;split<;>simp,uM]
 refine bC λk hk=>?_;unfold Fc;rw[RB,<-cF];refine bC λl hl=>?_;split
 .exact RB _ _
 .simp
theorem Ok.Lv(h:Ok P N b)(hr:r<=P.m)(x:j<P.n+1):b.s*P.Wq b r j=(su N λl=>- (b.Gq r l*P.Yq (b.Aq l) j))+b.Gq r N*un P.n j:=by
 obtain⟨T,id⟩:=h.id;rw[id r hr j Q1];have e:(su N λl=>qs N l*Gx N b T r l*P.vec N b l j)=su N λl=>- (b.Gq r l*P.Yq (b.Aq l) j):=bC λl hl=>by simp only[qs,Gx,Pb.vec,Zt hl,Zt (Rk hl)];grind
 rcases h.hN with z|z
 .subst z;simp only[su];rw[e];simp[qs,Gx,Pb.vec,show ¬ P.n+1<P.n by lia,show ¬ P.n+1<=P.n by lia,un,show j≠P.n+1 by lia]
 .rw[show P.n+2=N+1 by lia];simp only[su];rw[e];simp[qs,Gx,Pb.vec]
theorem Ok.cost(h:Ok P N b)(hr:r<=P.m)(x:j<P.n):b.s*P.Wq b r j=(su P.m λk=>Fc N b r ((P.n+k:Nat):Int)*P.R k j)-Fc N b r j:=by rw[h.Lv hr Q1,show un P.n j=0 from Zu Q1,Rn,RX,<-F3];rw[show Fc N b r j=su N λl=>b.Gq r l*if b.Aq l=j then 1 else 0 from bC λl hl=>by split<;>simp,<-zL];refine bC λl hl=>?_;have:=h.xO (QI b.dn (h.Am hl));rw[OH (b.Aq l) this.1 this.2 x];grind
theorem Ok.FY(h:Ok P N b)(hr:r<=P.m):b.s*P.Wq b r P.n=b.Gq r N-su P.m λk=>Fc N b r ((P.n+k:Nat):Int)*P.L k:=by
 rw[h.Lv hr Q1,show un P.n P.n=1 from Zt rfl,SA,<-F3];rw[show (su N λl=>- (b.Gq r l*P.Yq (b.Aq l) P.n)) =-su N λl=>b.Gq r l*su P.m λk=>if b.Aq l=((P.n+k:Nat):Int) then P.L k else 0 from by rw[<-R8,<-cF];refine bC λl hl=>?_;have:=h.xO (QI b.dn (h.Am hl));rw[Qi (b.Aq l) this.1 this.2];lia]
 lia
def vl(P:Pb)(b:Bo)(c:Nat)(u:Int):Int:=(su P.m λi=>if b.Bq i=u then qs P.n c*b.Gq i c else 0)+if c<P.n/\b.Aq c=u then b.s else 0
theorem Ok.Mz(h:Ok P P.n b)(hc:c<=P.n)(g:u∈b.ac++b.dn):b.s*D (P.n+2) (up c (P.Yq u) (P.vec P.n b))=vl P b c u*D (P.n+2) (P.vec P.n b):=by
 obtain⟨T,id⟩:=h.id;rcases QP.mp g with m|m
 .obtain⟨l,hl,rfl⟩:=h.Ax m;have z:su P.m (λi=>if b.Bq i=b.Aq l then qs P.n c*b.Gq i c else 0)=0:=iK λi hi=>Zu (h.AB hl hi);unfold vl;rw[z];by_cases e:l=c
  .subst e;rw[Zt ⟨hl,rfl⟩,show P.Yq (b.Aq l)=P.vec P.n b l by simp[Pb.vec,hl],rn,Uk]
  .rw[Zu λz=>e (h.Ai hl z.1 z.2.symm),D.alike (a:=c) (b:=l) Q1 Q1 (RH e) (by simp[up,e,Pb.vec,hl])];simp
 .obtain⟨i,hi,e⟩:=R9 m;have o:i<P.m:=by rw[<-h.sh.dn];exact hi
  have e2:b.Bq i=u:=by simp[Bo.Bq,Rg,hi,e]
  subst e2;have z:su P.m (λH=>if b.Bq H=b.Bq i then qs P.n c*b.Gq H c else 0)=qs P.n c*b.Gq i c:=by rw[iZ o λH h1 hn=>Zu λ(z:b.Bq H=b.Bq i)=>hn (getD_inj (QQ.mp h.nd).2.1 (by rw[h.sh.dn];exact h1) hi z),Zt rfl]
  unfold vl;rw[z,Zu λz=>h.AB z.1 o z.2.symm];have k:=D.HX (v:=P.vec P.n b) (w:=P.Wq b i) (s:=b.s) (show c<P.n+2 by lia) (id i Q1);rw[show P.Wq b i=P.Yq (b.Bq i) by simp[Pb.Wq,o]] at k;rw[k];simp[Gx,hc]
theorem Ok.Qs(h:Ok P N b):D (P.n+2) (P.vec N b)≠0:=λz=>by have d:=h.det;have:=h.pos;rw[z] at d;simp at d;lia
theorem Ok.FG(h:Ok P P.n b)(hc:c<=P.n){x:Nat->Int}(e:∀j,j<P.n+2->w j=su (P.n+2) λt=>x t*un t j){g:Int}(Z:b.s*D (P.n+2) (up c w (P.vec P.n b))=g*D (P.n+2) (P.vec P.n b)):
  g=(su P.n λj=>x j*vl P b c j)+if c=P.n then b.s*x P.n else 0:=by
 refine Sf h.Qs ?_;rw[<-Z,D.congr (w:=up c (λj=>su (P.n+2) λt=>x t*un t j) (P.vec P.n b)) λi j hi N=>by
  unfold up;split
  .exact e j N
  .rfl,D.sum Q1]
 have Q:D (P.n+2) (up c (un P.n) (P.vec P.n b))=if c=P.n then D (P.n+2) (P.vec P.n b) else 0:=by
  have v:P.vec P.n b P.n=un P.n:=by simp[Pb.vec]
  split
  .rename_i z;subst z;rw[<-v,rn]
  .rename_i z;exact D.alike (a:=c) (b:=P.n) Q1 Q1 z (by simp[up,RH z,v])
 have T:D (P.n+2) (up c (un (P.n+1)) (P.vec P.n b))=0:=D.alike (a:=c) (b:=P.n+1) Q1 Q1 Q1 (by simp[up,show P.n+1≠c by lia,Pb.vec,show ¬ P.n+1<P.n by lia]);simp only[su];rw[Q,T,Rn,RX,U4,<-cF,Int.add_mul,show ∀(f:Nat->Int)(y:Int),su P.n f*y=su P.n λi=>y*f i from λf y=>by rw[RB,cF]]
 congr 1
 .refine bC λj N=>?_;have z:=h.Mz hc (u:=j) ((h.nm j).mpr (by rw[Zt rfl];lia));rw[show P.Yq j=un j by unfold Pb.Yq;rw[Zu Q1,Zt Q1];simp] at z
  grind
 .split<;>grind
theorem Ok.F7(h:Ok P P.n b)(hc:c<=P.n)(hk:k<P.m):vl P b c ((P.n+k:Nat):Int)=(if c=P.n then b.s*P.L k else 0)-su P.n λj=>P.R k j*vl P b c j:=by
 have z:=h.Mz hc (u:=((P.n+k:Nat):Int)) ((h.nm _).mpr (by rw[Zt rfl];lia));have e:=h.FG hc (x:=λt=>if t<P.n then-P.R k t else if t=P.n then P.L k else 1) (w:=P.Yq ((P.n+k:Nat):Int)) (λj N=>by rw[iZ N λt l hn=>by rw[show un t j=0 from Zu (RH hn),Rn]];unfold Pb.Yq;rw[Zu Q1,Zu Q1,show (((P.n+k:Nat):Int)-P.n).toNat=k by lia];simp[un]) z
 rw[e];simp only[Q6,if_false,if_true];rw[bC (g:=λj=>-1*(P.R k j*vl P b c j)) λj N=>by simp only[Zt N];grind,cF];lia
theorem Ok.worth(h:Ok P P.n b)(hc:c<=P.n):qs P.n c*b.Gq P.m c=su P.n λj=>P.c j*vl P b c j:=by
 obtain⟨T,id⟩:=h.id;have k:=D.HX (v:=P.vec P.n b) (w:=P.Wq b P.m) (s:=b.s) (show c<P.n+2 by lia) (id P.m Q1);rw[show P.Wq b P.m=P.zq by simp[Pb.Wq]] at k;have e:=h.FG hc (x:=λt=>if t<P.n then P.c t else 0) (w:=P.zq) (λj N=>by rw[iZ N λt l hn=>by rw[show un t j=0 from Zu (RH hn),Rn]];simp[Pb.zq,un]) k
 simp only[Gx,Zt hc,Q6,if_false,Rn,ite_self,RX] at e;rw[e];exact bC λj N=>by rw[Zt N]
variable{P:Pb}
noncomputable def fM(P:Pb):Bo:=⟨(Q4 P.n).map Td,(Q4 P.m).map λi=>((P.n+i:Nat):Int),((Q4 P.m).map λi=>((Q4 P.n).map λj=>P.R i j)++[P.L i])++[((Q4 P.n).map λj=>- P.c j)++[0]],1⟩
noncomputable def bS(P:Pb):Bo:=⟨((Q4 P.n).map Td)++[-1],(Q4 P.m).map λi=>((P.n+i:Nat):Int),((Q4 P.m).map λi=>((Q4 P.n).map λj=>P.R i j)++[-1,P.L i])++[((Q4 P.n).map λj=>- P.c j)++[0,0]],1⟩
theorem dO{xs ys:List α}{d:α}(h:i<xs.length):(xs++ys).getD i d=xs.getD i d:=by simp[Rg,RM h]
theorem dr{xs ys:List α}{d:α}(h:xs.length<=i):(xs++ys).getD i d=ys.getD (i-xs.length) d:=by simp[Rg,Rx h]
theorem c9{f:Nat->α}{n:Nat}{d:α}(h:i<n):((Q4 n).map f).getD i d=f i:=by simp[Rg,h]
theorem q9(hi:i<=P.m)(hl:l<=P.n):(fM P).Gq i l=if i<P.m then (if l<P.n then P.R i l else P.L i) else if l<P.n then-P.c l else 0:=by
 unfold Bo.Gq fM;dsimp only;by_cases c:i<P.m
 .rw[dO (by simpa using c),c9 c,Zt c];by_cases e:l<P.n
  .rw[dO (by simpa using e),c9 e,Zt e]
  .rw[dr (by simp;lia),Zu e,show l=P.n by lia];simp
 .rw[dr (by simp;lia),Zu c,show i=P.m by lia];simp only[QK,TJ,S6,VZ];by_cases e:l<P.n
  .rw[dO (by simpa using e),c9 e,Zt e]
  .rw[dr (by simp;lia),Zu e,show l=P.n by lia];simp
theorem gH(hi:i<=P.m)(hl:l<=P.n+1):(bS P).Gq i l=if i<P.m then (if l<P.n then P.R i l else if l=P.n then -1 else P.L i) else if l<P.n then-P.c l else 0:=by
 unfold Bo.Gq bS;dsimp only;by_cases c:i<P.m
 .rw[dO (by simpa using c),c9 c,Zt c];by_cases e:l<P.n
  .rw[dO (by simpa using e),c9 e,Zt e]
  .rw[dr (by simp;lia),Zu e];by_cases e2:l=P.n
   .subst e2;simp
   .rw[show l=P.n+1 by lia];simp
 .rw[dr (by simp;lia),Zu c,show i=P.m by lia];simp only[QK,TJ,S6,VZ];by_cases e:l<P.n
  .rw[dO (by simpa using e),c9 e,Zt e]
  .rw[dr (by simp;lia),Zu e];by_cases e2:l=P.n
   .subst e2;simp
   .rw[show l=P.n+1 by lia];simp
theorem Fi(hl:l<P.n):(fM P).Aq l=l:=c9 hl
theorem pK(hl:l<P.n+1):(bS P).Aq l=if l<P.n then (l:Int) else -1:=by
 unfold Bo.Aq bS;dsimp only;by_cases c:l<P.n
 .rw[dO (by simpa using c),c9 c,Zt c];rfl
 .rw[dr (by simp;lia),Zu c,show l=P.n by lia];simp
theorem Ga(hi:i<P.m):(fM P).Bq i=((P.n+i:Nat):Int):=c9 hi
theorem Au(hi:i<P.m):(bS P).Bq i=((P.n+i:Nat):Int):=c9 hi
theorem Nz(h:j<P.n):P.Yq j=un j:=by unfold Pb.Yq;rw[Zu Q1,Zt Q1];simp
theorem Mn(i:Nat):P.Yq ((P.n+i:Nat):Int)=λj=>if j<P.n then-P.R i j else if j=P.n then P.L i else 1:=by unfold Pb.Yq;rw[Zu Q1,Zu Q1,show (((P.n+i:Nat):Int)-P.n).toNat=i by lia]
theorem OP:P.Yq (-1)=un (P.n+1):=Zt rfl
theorem iL(h:j≠i):un i j=0:=Zu h
theorem vh(i:Nat):un i i=1:=Zt rfl
theorem lU(n:Nat):((Q4 n).map Td).Nodup:=Vc _ (λa b h z=>h (Td.inj z)) Wn
theorem qw(P:Pb):((Q4 P.m).map λi=>((P.n+i:Nat):Int)).Nodup:=Vc _ (λa b h (z:((P.n+a:Nat):Int)=((P.n+b:Nat):Int))=>by lia) Wn
theorem zh(P:Pb):Ok P P.n (fM P):=by
 have s:∀l,l<P.n+2->P.vec P.n (fM P) l=un l:=λl hl=>by
  unfold Pb.vec;by_cases c:l<P.n
  .rw[Zt c,Fi c,Nz c]
  .rw[Zu c];by_cases F:l=P.n
   .rw[Zt F,F]
   .rw[Zu F,show l=P.n+1 by lia]
 refine⟨⟨by simp[fM],by simp[fM],by simp[fM],?_⟩,?_,λu=>?_,by simp[fM],.inl rfl,?_,?_⟩
 .intro x hx;rcases QP.mp hx with z|z
  .obtain⟨i,_,rfl⟩:=Rh.mp z;simp
  .rw[Q8.mp z];simp
 .refine QQ.mpr ⟨lU _,qw P,λa f b d=>?_⟩;obtain⟨x,hx,rfl⟩:=Rh.mp f;obtain⟨y,hy,rfl⟩:=Rh.mp d;have:=Rz.mp hx;show (x:Int)≠_;lia
 .rw[Zt rfl];constructor
  .intro h;rcases QP.mp h with h|h
   .obtain⟨x,hx,rfl⟩:=Rh.mp h;have:=Rz.mp hx;show 0<=(x:Int)/\(x:Int)<_;lia
   .obtain⟨x,hx,rfl⟩:=Rh.mp h;have:=Rz.mp hx;lia
  .rintro⟨h1,h2⟩;by_cases c:u<P.n
   .exact QI _ (Rh.mpr ⟨u.toNat,Rz.mpr Q1,by show ((u.toNat:Nat):Int)=u;lia⟩)
   .exact QG _ (Rh.mpr ⟨(u-P.n).toNat,Rz.mpr Q1,by show ((P.n+(u-P.n).toNat:Nat):Int)=u;lia⟩)
 .rw[D.un s];rfl
 .refine⟨λi=>if i<P.m then 1 else 0,λi hi j N=>?_⟩;rw[iZ N λl hl hn=>by rw[s l hl,iL (RH hn),Rn],s j N,vh,SA];show 1*P.Wq (fM P) i j=_;rw[RY];unfold Pb.Wq Gx qs;by_cases c:i<P.m
  .rw[Zt c,Ga c,Mn];by_cases e:j<P.n
   .simp[e,Rk e,q9 hi (Rk e),c]
   .by_cases e2:j=P.n
    .subst e2;simp[q9 hi (QN _),c]
    .simp[e,e2,show ¬ j<=P.n by lia,c]
  .rw[Zu c];unfold Pb.zq;by_cases e:j<P.n
   .simp[e,Rk e,q9 hi (Rk e),c]
   .by_cases e2:j=P.n
    .subst e2;simp[q9 hi (QN _),c]
    .simp[e,show ¬ j<=P.n by lia,c]
theorem FJ{b:Bo}(hA:∀l,l<N->b.Aq l<P.n)(O:∀i,i<P.m->b.Bq i=((P.n+i:Nat):Int))(hs:b.s=1)(hk:k<P.m):Fb P N b i ((P.n+k:Nat):Int)=if i=k then 1 else 0:=by
 unfold Fb F;rw[iK λl hl=>Zu λz=>by have:=hA l hl;lia,hs];by_cases c:i=k
 .subst c;rw[Zt ⟨hk,O i hk⟩,Zt rfl];rfl
 .rw[Zu λz=>by have:=O i z.1;lia,Zu c];rfl
theorem Gp(h:∀i,i<P.m->0<=P.L i):Lp P P.n (fM P):=λi hi=>by
 have v:Rr P P.n (fM P) i 0=P.L i:=by unfold Rr;rw[Zt rfl,q9 Q1 (QN _),Zt hi,Zu (Q6 _)]
 have f:∀k,k<P.m->Rr P P.n (fM P) i (k+1)=if i=k then 1 else 0:=λk hk=>by unfold Rr;rw[Zu Q1];exact FJ (λl hl=>by rw[Fi hl];lia) (λi hi=>Ga hi) rfl hk
 have:=h i hi;by_cases c:P.L i=0
 .refine⟨i+1,by lia,by rw[f i hi,Zt rfl];decide,λu g=>?_⟩;cases u with
  |zero=>rw[v,c]
  |succ u=>rw[f u Q1,Zu Q1]
 .exact⟨0,by lia,by rw[v];lia,λu g=>by lia⟩
variable{P:Pb}{a c:Nat}{b:Bo}
theorem pE(P:Pb):Ok P (P.n+1) (bS P):=by
 have s:∀l,l<P.n->P.vec (P.n+1) (bS P) l=un l:=λl hl=>by unfold Pb.vec;rw[Zt Q1,pK Q1,Zt hl,Nz hl]
 have p:P.vec (P.n+1) (bS P) P.n=un (P.n+1):=by unfold Pb.vec;rw[Zt Q1,pK Q1,Zu (Q6 _),OP]
 have q:P.vec (P.n+1) (bS P) (P.n+1)=un P.n:=by unfold Pb.vec;rw[Zu (Q6 _),Zt rfl]
 refine⟨⟨by simp[bS],by simp[bS],by simp[bS],?_⟩,?_,λu=>?_,by simp[bS],.inr rfl,?_,?_⟩
 .intro x hx;rcases QP.mp hx with z|z
  .obtain⟨i,_,rfl⟩:=Rh.mp z;simp
  .rw[Q8.mp z];simp
 .refine QQ.mpr ⟨QQ.mpr ⟨lU _,by simp,λa f b E=>?_⟩,qw P,λa f b E=>?_⟩
  .obtain⟨x,hx,rfl⟩:=Rh.mp f;rw[Q8.mp E];show (x:Int) ≠ -1;lia
  .obtain⟨y,hy,rfl⟩:=Rh.mp E;rcases QP.mp f with f|f
   .obtain⟨x,hx,rfl⟩:=Rh.mp f;have:=Rz.mp hx;show (x:Int)≠_;lia
   .rw[Q8.mp f];lia
 .rw[Zu Q1];constructor
  .intro h;rcases QP.mp h with h|h
   .rcases QP.mp h with h|h
    .obtain⟨x,hx,rfl⟩:=Rh.mp h;have:=Rz.mp hx;show -1<=(x:Int)/\(x:Int)<_;lia
    .rw[Q8.mp h];lia
   .obtain⟨x,hx,rfl⟩:=Rh.mp h;have:=Rz.mp hx;lia
  .rintro⟨h1,h2⟩;by_cases v:u = -1
   .exact QI _ (QG _ (Q8.mpr v))
   .by_cases c:u<P.n
    .exact QI _ (QI _ (Rh.mpr ⟨u.toNat,Rz.mpr Q1,by show ((u.toNat:Nat):Int)=u;lia⟩))
    .exact QG _ (Rh.mpr ⟨(u-P.n).toNat,Rz.mpr Q1,by show ((P.n+(u-P.n).toNat:Nat):Int)=u;lia⟩)
 .rw[<-D.mv (d:=1) (k:=P.n+2) (c:=P.n) rfl,D.un λl hl=>?_]
  .rfl
  .unfold mv;by_cases c:l<P.n
   .rw[Zt c,s l c]
   .rw[Zu c];by_cases F:l=P.n
    .rw[Zt Q1,F,q]
    .rw[Zu Q1,Zt Q1,p,show l=P.n+1 by lia]
 .refine⟨λ_=>0,λi hi j N=>?_⟩;show 1*P.Wq (bS P) i j=_;rw[RY];have w:P.Wq (bS P) i j=if i<P.m then (if j<P.n then-P.R i j else if j=P.n then P.L i else 1) else if j<P.n then P.c j else 0:=by
   unfold Pb.Wq;by_cases c:i<P.m
   .rw[Zt c,Zt c,Au c,Mn]
   .rw[Zu c,Zu c];rfl
  rw[w];by_cases e:j<P.n
  .rw[iZ (a:=j) Q1 λl hl hn=>by
    by_cases c:l<P.n
    .rw[s l c,iL (RH hn),Rn]
    .by_cases F:l=P.n
     .rw[F,p,iL Q1,Rn]
     .rw[show l=P.n+1 by lia,q,iL Q1,Rn],s j e,vh,SA]
   unfold Gx qs;by_cases c:i<P.m
   .simp[gH hi (show j<=P.n+1 by lia),e,c,show j<P.n+1 by lia,show j<=P.n+1 by lia]
   .simp[gH hi (show j<=P.n+1 by lia),e,c,show j<P.n+1 by lia,show j<=P.n+1 by lia]
  .by_cases e2:j=P.n
   .rw[iZ (a:=P.n+1) Q1 λl hl hn=>by
     by_cases c:l<P.n
     .rw[s l c,iL Q1,Rn]
     .rw[show l=P.n by lia,p,iL Q1,Rn],q,e2,vh,SA]
    unfold Gx qs;rw[Zu (Q6 _),Zt (QN _),gH hi Q1];by_cases c:i<P.m
    .simp[c,show ¬ P.n+1<P.n by lia]
    .simp[c,show ¬ P.n+1<P.n by lia]
   .rw[iZ (a:=P.n) Q1 λl hl hn=>by
     by_cases c:l<P.n
     .rw[s l c,iL Q1,Rn]
     .rw[show l=P.n+1 by lia,q,iL Q1,Rn],p,show j=P.n+1 by lia,vh,SA]
    unfold Gx qs;by_cases c:i<P.m
    .simp[c,gH hi (show P.n<=P.n+1 by lia),show ¬ P.n+1<P.n by lia]
    .simp[c,gH hi (show P.n<=P.n+1 by lia),show ¬ P.n+1<P.n by lia]
theorem wY(V:a<P.m)(R:P.L a<0)(h1:∀i,i<P.m->P.L a<=P.L i)(h2:∀i,i<P.m->a<i->P.L a<P.L i):Ok P (P.n+1) ((bS P).turn a P.n)/\Lp P (P.n+1) ((bS P).turn a P.n):=by
 have g:∀i,i<P.m->(bS P).Gq i P.n = -1:=λi hi=>by rw[gH Q1 Q1,Zt hi,Zu (Q6 _),Zt rfl]
 have ok:=pE P;have ne:(bS P).Gq a P.n≠0:=by rw[g a V];decide
 refine⟨ok.turn V Q1 ne,λi hi=>?_⟩;have v:∀i,i<P.m->Rr P (P.n+1) (bS P) i 0=P.L i:=λi hi=>by unfold Rr;rw[Zt rfl,gH Q1 (QN _),Zt hi,Zu Q1,Zu Q1]
 have f:∀i k,k<P.m->Rr P (P.n+1) (bS P) i (k+1)=if i=k then 1 else 0:=λi k hk=>by unfold Rr;rw[Zu Q1];exact FJ (λl hl=>by rw[pK hl];split<;>lia) (λi hi=>Au hi) rfl hk
 have q:sn ((bS P).Gq a P.n) = -1:=by rw[g a V];rfl
 by_cases e:i=a
 .subst e;refine⟨0,by lia,?_,λu G=>by lia⟩;rw[ok.Ra hi Q1 ne,q,v i hi];lia
 .have x:∀t,Rr P (P.n+1) ((bS P).turn a P.n) i t=Rr P (P.n+1) (bS P) i t-Rr P (P.n+1) (bS P) a t:=λt=>by have z:=ok.Ro V (show P.n<P.n+1 by lia) ne (show i<=P.m by lia) e t;rw[q,g a V,g i hi,show (bS P).s=1 from rfl] at z;lia
  have l1:=h1 i hi;by_cases h:P.L i=P.L a
  .have b:i<a:=by
    rcases Nat.lt_or_ge i a with z|z
    .exact z
    .have:=h2 i hi Q1;lia
   refine⟨i+1,by lia,?_,λu G=>?_⟩
   .rw[x,f i i hi,f a i hi,Zt rfl,Zu (RH e)];decide
   .rw[x];cases u with
    |zero=>rw[v i hi,v a V,h];lia
    |succ u=>rw[f i u Q1,f a u Q1,Zu Q1,Zu Q1];rfl
  .exact⟨0,by lia,by rw[x,v i hi,v a V];lia,λu G=>by lia⟩
noncomputable def Bo.drop(b:Bo)(c:Nat):Bo:=⟨b.ac.eraseIdx c,b.dn,b.g.map λr=>r.eraseIdx c,b.s⟩
theorem vU{xs:List α}{c:Nat}{d:α}:(xs.eraseIdx c).getD l d=if l<c then xs.getD l d else xs.getD (l+1) d:=by simp only[Rg,List.getElem?_eraseIdx];split<;>rfl
theorem qg(l:Nat):(b.drop c).Aq l=if l<c then b.Aq l else b.Aq (l+1):=vU
theorem mW(h:Ok P (P.n+1) b)(hi:i<=P.m)(l:Nat):(b.drop c).Gq i l=if l<c then b.Gq i l else b.Gq i (l+1):=by unfold Bo.Gq Bo.drop;rw[getD_map (d:=[]) (by rw[h.sh.g];lia)];exact vU
theorem Dm(h:Ok P (P.n+1) b)(hc:c<P.n+1)(R:b.Aq c = -1):Ok P P.n (b.drop c):=by
 have lc:c<b.ac.length:=by rw[h.sh.ac];exact hc
 have V:b.ac[c] = -1:=by rw[<-R];simp[Bo.Aq,Rg,lc]
 have pm:b.ac.Perm ((-1)::b.ac.eraseIdx c):=by have:=R1 (a:=b.ac[c]) (l₁:=b.ac.take c) (l₂:=b.ac.drop (c+1));rw[Ua,Sy,<-Rt,V] at this;exact this
 have I:(b.ac++b.dn).Perm ((-1)::((b.drop c).ac++(b.drop c).dn)):=pm.append_right _;have nd:=I.nodup_iff.mp h.nd;have o:∀l,l<P.n+2->P.vec P.n (b.drop c) l=mv (P.n+2) c (P.vec (P.n+1) b) l:=λl hl=>by
  have p:∀l,l<P.n+1->P.vec (P.n+1) b l=P.Yq (b.Aq l):=λl hl=>Zt hl;have F:P.vec (P.n+1) b (P.n+1)=un P.n:=by unfold Pb.vec;rw[Zu (Q6 _),Zt rfl]
  have r1:l<P.n->P.vec P.n (b.drop c) l=P.Yq ((b.drop c).Aq l):=λhl=>Zt hl;unfold mv;by_cases e:l<c
  .rw[Zt e,p l Q1,r1 Q1,qg,Zt e]
  .rw[Zu e];by_cases e2:l<P.n
   .rw[Zt Q1,p (l+1) Q1,r1 e2,qg,Zu e]
   .have r2:P.vec P.n (b.drop c) l=if l=P.n then un P.n else un (P.n+1):=Zu e2
    rw[r2];by_cases N:l=P.n
    .rw[Zt N,Zt Q1,N,F]
    .rw[Zu N,Zu Q1,Zt Q1,p c hc,R,OP]
 refine⟨⟨?_,h.sh.dn,by simp[Bo.drop,h.sh.g],?_⟩,(Rf.mp nd).2,λu=>?_,h.pos,.inl rfl,?_,?_⟩
 .show (b.ac.eraseIdx c).length=_;rw[VS,Zt lc,h.sh.ac];rfl
 .intro x hx;obtain⟨r,hr,rfl⟩:=Rh.mp hx;have:=h.sh.r r hr;rw[VS,Zt Q1,this];rfl
 .rw[Zt rfl];have z:=h.nm u;rw[Zu Q1,I.mem_iff,QL] at z;constructor
  .intro y;have:=z.mp (.inr y);have:u ≠ -1:=λq=>(Rf.mp nd).1 (q▸y);lia
  .rintro⟨h1,h2⟩;exact(z.mpr ⟨by lia,h2⟩).resolve_left Q1
 .rw[D.congr (w:=mv (P.n+2) c (P.vec (P.n+1) b)) λi j hi E=>by rw[o i hi],D.mv (d:=P.n+1-c) Q1];exact h.det
 .obtain⟨T,id⟩:=h.id;refine⟨λi=>- b.Gq i c,λi hi j E=>?_⟩;have w:P.Wq (b.drop c) i=P.Wq b i:=rfl;rw[w];show b.s*_=_;rw[id i hi j E];have key:∀(f g:Nat->Int),(∀l,l<c->g l=f l)->(∀l,c<=l->l<P.n+1->g l=f (l+1))->g (P.n+1)=f c->su (P.n+2) f=su (P.n+2) g:=λf g h1 h2 h3=>by
   have A:∀d,c+d<=P.n+1->su (c+d+1) f=su (c+d) g+f c:=λd hd=>by
    induction d with
    |zero=>show su c f+f c=_;rw[bC (n:=c) λi hi=>(h1 i hi).symm];rfl
    |succ d m=>show su (c+d+1) f+f (c+d+1)=su (c+d) g+g (c+d)+f c;rw[m Q1,h2 (c+d) Q1 Q1];lia
   have:=A (P.n+1-c) Q1;rw[show c+(P.n+1-c)=P.n+1 by lia] at this;rw[this];show _=su (P.n+1) g+g (P.n+1);rw[h3]
  refine key _ _ (λl hl=>?_) (λl h1 h2=>?_) ?_
  .have a1:P.vec P.n (b.drop c) l=P.vec (P.n+1) b l:=by rw[o l Q1];exact Zt hl
   have Z:Gx P.n (b.drop c) (λi=>- b.Gq i c) i l=b.Gq i l:=by unfold Gx;rw[Zt Q1,mW h hi,Zt hl]
   have v:Gx (P.n+1) b T i l=b.Gq i l:=Zt Q1;have B:qs P.n l = -1:=Zt Q1;have H:qs (P.n+1) l = -1:=Zt Q1;rw[a1,Z,v,B,H]
  .have a1:P.vec P.n (b.drop c) l=P.vec (P.n+1) b (l+1):=by rw[o l Q1];unfold mv;rw[Zu Q1,Zt Q1]
   have Z:Gx P.n (b.drop c) (λi=>- b.Gq i c) i l=b.Gq i (l+1):=by unfold Gx;rw[Zt Q1,mW h hi,Zu Q1]
   have v:Gx (P.n+1) b T i (l+1)=b.Gq i (l+1):=Zt Q1;have B:qs P.n l=qs (P.n+1) (l+1):=by
    unfold qs;by_cases e:l<P.n
    .rw[Zt e,Zt Q1]
    .rw[Zu e,Zu Q1]
   rw[a1,Z,v,B]
  .have a1:P.vec P.n (b.drop c) (P.n+1)=P.vec (P.n+1) b c:=by rw[o (P.n+1) Q1];unfold mv;rw[Zu Q1,Zu Q1,Zt rfl]
   have Z:Gx P.n (b.drop c) (λi=>- b.Gq i c) i (P.n+1) =-b.Gq i c:=Zu Q1;have v:Gx (P.n+1) b T i c=b.Gq i c:=Zt Q1;have B:qs P.n (P.n+1)=1:=Zu Q1;have H:qs (P.n+1) c = -1:=Zt hc;rw[a1,Z,v,B,H];grind
theorem CI(h:Ok P (P.n+1) b)(Y:Lp P (P.n+1) b)(hc:c<P.n+1)(R:b.Aq c = -1):Lp P P.n (b.drop c):=λi hi=>(Y i hi).congr λt _=>by
 unfold Rr;rw[mW h Q1];by_cases e:t=0
 .rw[Zt e,Zt e,Zu Q1]
 .rw[Zu e,Zu e];unfold Fb F
  congr 1
  generalize g:((P.n+(t-1):Nat):Int)=u;have A:∀d,c+d<=P.n->su (c+d+1) (λl=>if b.Aq l=u then b.Gq i l else 0)=su (c+d) (λl=>if (b.drop c).Aq l=u then (b.drop c).Gq i l else 0):=λd hd=>by
   induction d with
   |zero=>show su c _+(if b.Aq c=u then b.Gq i c else 0)=_;rw[Zu Q1,RX];exact bC λl hl=>by rw[qg,Zt hl,mW h Q1,Zt hl]
   |succ d m=>show su (c+d+1) _+(if b.Aq (c+d+1)=u then b.Gq i (c+d+1) else 0)=su (c+d) _+(if (b.drop c).Aq (c+d)=u then (b.drop c).Gq i (c+d) else 0);rw[m Q1,qg,mW h Q1,Zu (show ¬ c+d<c by lia),Zu (show ¬ c+d<c by lia)]
  have:=A (P.n-c) Q1;rw[show c+(P.n-c)=P.n by lia] at this;exact this
theorem Ok.short(h:Ok P (P.n+1) b)(Y:Lp P (P.n+1) b)(hr:r<P.m)(u:b.Bq r = -1)(J:∀l,l<P.n+1->b.Gq r l<=0):0<b.Gq r (P.n+1):=by
 have f:∀k,k<P.m->Rr P (P.n+1) b r (k+1)<=0:=λk hk=>by
  unfold Rr;rw[Zu Q1];show Fb P (P.n+1) b r ((P.n+k:Nat):Int)<=0;by_cases m:((P.n+k:Nat):Int)∈b.ac
  .obtain⟨l,hl,e⟩:=h.Ax m;rw[<-e,h.Ip hl];exact J l hl
  .unfold Fb F;rw[iK λl hl=>Zu λz=>m (by rw[<-z];exact h.Am hl),Zu λz=>by lia];decide
 obtain⟨t,L,p,z⟩:=Y r hr;cases t with
 |zero=>exact p
 |succ t=>have:=f t Q1;lia
variable{P:Pb}{N c:Nat}{b:Bo}
theorem rN{n:Nat}(h:∀i,i<n->0<=f i):0<=su n f:=by
 induction n with
 |zero=>exact TL 0
 |succ n m=>exact WR (m λi hi=>h i Q1) (h n Q1)
theorem Lp.val(Y:Lp P N b)(hi:i<P.m):0<=b.Gq i N:=by
 obtain⟨t,l,p,z⟩:=Y i hi;cases t with
 |zero=>exact R5 p
 |succ t=>exact UY (z 0 Q1).symm
structure Keeps(P:Pb)(s:Int)(x:Nat->Int):Prop where
 nn:∀j,j<P.n->0<=x j
 le:∀k,k<P.m->(su P.n λj=>P.R k j*x j)<=s*P.L k
theorem Fd(r:∀i,i<P.m->0<=qs P.n c*b.Gq i c)(hs:0<=b.s)(u:Int):0<=vl P b c u:=by
 unfold vl;refine WR (rN λi hi=>?_) ?_
 .split
  .exact r i hi
  .exact TL 0
 .split
  .exact hs
  .exact TL 0
theorem Ok.keeps(h:Ok P P.n b)(Y:Lp P P.n b):Keeps P b.s λj=>vl P b P.n j:=by have nn:∀u,0<=vl P b P.n u:=Fd (λi hi=>by rw[show qs P.n P.n=1 from Zu (Q6 _),RY];exact Y.val hi) (R5 h.pos);refine⟨λj _=>nn _,λk hk=>?_⟩;have z:=h.F7 (QN P.n) hk;rw[Zt rfl] at z;have:=nn ((P.n+k:Nat):Int);lia
theorem FH(h:∀l,l<N->0<=b.Gq r l)(u:Int):0<=Fc N b r u:=rN λl hl=>by
 split
 .exact h l hl
 .exact TL 0
theorem z7(h:Ok P P.n b)(J:∀l,l<P.n->0<=b.Gq P.m l):
  (su P.n λj=>P.c j*vl P b P.n j)=b.Gq P.m P.n/\(∀k,0<=Fc P.n b P.m ((P.n+k:Nat):Int))/\(∀j,j<P.n->b.s*P.c j<=su P.m λk=>Fc P.n b P.m ((P.n+k:Nat):Int)*P.R k j)/\(su P.m λk=>Fc P.n b P.m ((P.n+k:Nat):Int)*P.L k)=b.Gq P.m P.n:=by
 have w:P.Wq b P.m=P.zq:=by simp[Pb.Wq]
 refine⟨?_,λk=>FH J _,λj N=>?_,?_⟩
 .rw[<-h.worth (QN P.n),show qs P.n P.n=1 from Zu (Q6 _),RY]
 .have z:=h.cost (QN P.m) N;rw[w,show P.zq j=P.c j from Zt N] at z;have:=FH J (j:Int);lia
 .have z:=h.FY (QN P.m);rw[w,show P.zq P.n=0 from Zu (Q6 _)] at z;lia
theorem BF(h:Ok P P.n b)(hc:c<P.n)(J:b.Gq P.m c<0)(d:∀i,i<P.m->b.Gq i c<=0):Keeps { P with L:=λ_=>0 } b.s (λj=>vl P b c j)/\0<su P.n λj=>P.c j*vl P b c j:=by
 have q:qs P.n c = -1:=Zt hc;have nn:∀u,0<=vl P b c u:=Fd (λi hi=>by rw[q];have:=d i hi;lia) (R5 h.pos);refine⟨⟨λj _=>nn _,λk hk=>?_⟩,?_⟩
 .have z:=h.F7 (Rk hc) hk;rw[Zu Q1] at z;have:=nn ((P.n+k:Nat):Int);show (su P.n λj=>P.R k j*vl P b c j)<=b.s*0;lia
 .rw[<-h.worth (Rk hc),q];lia
theorem yW(h:Ok P (P.n+1) b)(Y:Lp P (P.n+1) b)(hr:r<P.m)(p:b.Bq r = -1)(J:∀l,l<P.n+1->b.Gq r l<=0):
  (∀k,0 <=-Fc (P.n+1) b r ((P.n+k:Nat):Int))/\(∀j,j<P.n->0<=su P.m λk=>- Fc (P.n+1) b r ((P.n+k:Nat):Int)*P.R k j)/\(su P.m λk=>- Fc (P.n+1) b r ((P.n+k:Nat):Int)*P.L k)<0:=by
 have w:P.Wq b r=un (P.n+1):=by simp[Pb.Wq,hr,p,OP]
 have np:∀u,Fc (P.n+1) b r u<=0:=λu=>by
  have:0<=su (P.n+1) λl=>- (if b.Aq l=u then b.Gq r l else 0):=rN λl hl=>by have:=J l hl;split<;>lia
  have e:=cF (k:=P.n+1) (x:=-1) (f:=λl=>if b.Aq l=u then b.Gq r l else 0);simp only[R8] at e;rw[e] at this;unfold Fc;lia
 have s:∀(f:Nat->Int),(su P.m λk=>- Fc (P.n+1) b r ((P.n+k:Nat):Int)*f k) =-su P.m λk=>Fc (P.n+1) b r ((P.n+k:Nat):Int)*f k:=λf=>by rw[<-R8,<-cF];exact bC λk _=>by grind
 refine⟨λk=>by have:=np ((P.n+k:Nat):Int);lia,λj N=>?_,?_⟩
 .have z:=h.cost (show r<=P.m by lia) N;rw[w,iL Q1,Rn] at z;rw[s];have:=np (j:Int);lia
 .have z:=h.FY (show r<=P.m by lia);rw[w,iL Q1,Rn] at z;have:=h.short Y hr p J;rw[s];lia
def K2(P:Pb)(b:Bo):Prop:=Ok P P.n b/\Lp P P.n b
def K1(P:Pb)(b:Bo):Prop:=Ok P (P.n+1) b/\Lp P (P.n+1) b /\ -1∈b.dn
def KH(P:Pb)(b:Bo):Nat->Int:=Rr P P.n b P.m
noncomputable def bZ(b:Bo):Nat:=b.dn.idxOf (-1)
def GZ(P:Pb)(b:Bo)(t:Nat):Int:=- Rr P (P.n+1) b (bZ b) t
theorem iC(h:K1 P b):bZ b<P.m:=by rw[<-h.1.sh.dn];exact RU h.2.2
theorem jh(h:K1 P b):b.Bq (bZ b) = -1:=by
 have:=iC h;have l:bZ b<b.dn.length:=by rw[h.1.sh.dn];exact this
 simp only[Bo.Bq,Rg,Q5 l,S8];exact UD l
theorem J0{a:Nat}(h:K2 P b)(f:a<P.m)(hc:c<P.n)(hp:0<b.Gq a c)(J:b.Gq P.m c<0)(hm:∀i,i<P.m->0<b.Gq i c->¬ LL (P.m+1) (Rr P P.n b i) (b.Gq i c) (Rr P P.n b a) (b.Gq a c)):
  K2 P (b.turn a c)/\ms P (K2 P) (KH P) (b.turn a c)<ms P (K2 P) (KH P) b:=by
 have k:K2 P (b.turn a c):=⟨h.1.turn f hc Q1,Lp.turn h.1 h.2 f hc hp hm⟩
 refine⟨k,ES (λb h=>h.1.pos) (λb1 b2 h1 h2 e t=>?_) h k (h.1.pd h.2 f hc hp (QN _) Q1 J)⟩;exact h1.1.uniq h2.1 (AD h1.1 h2.1 e) (QN _) (QN _) (by simp[Pb.Wq]) (λz=>absurd z (Q6 _)) (λz=>absurd z (Q6 _)) t
theorem Iq{a:Nat}(h:K1 P b)(f:a<P.m)(hn:a≠bZ b)(hc:c<P.n+1)(hp:0<b.Gq a c)(Y:0<b.Gq (bZ b) c)(hm:∀i,i<P.m->0<b.Gq i c->¬ LL (P.m+1) (Rr P (P.n+1) b i) (b.Gq i c) (Rr P (P.n+1) b a) (b.Gq a c)):
  K1 P (b.turn a c)/\bZ (b.turn a c)=bZ b/\ms P (K1 P) (GZ P) (b.turn a c)<ms P (K1 P) (GZ P) b:=by
 have hl:=iC h;have O:=jh h;have ok:=h.1.turn f hc (show b.Gq a c≠0 by lia);have s:(b.turn a c).Bq (bZ b) = -1:=by rw[Bo.mH h.1.sh f];unfold qp;rw[Zu (RH hn),O]
 have k:K1 P (b.turn a c):=⟨ok,Lp.turn h.1 h.2.1 f hc hp hm,s▸ok.Bm hl⟩
 have J:bZ (b.turn a c)=bZ b:=getD_inj (QQ.mp ok.nd).2.1 (by rw[ok.sh.dn];exact iC k) (by rw[ok.sh.dn];exact hl) ((jh k).trans s.symm);refine⟨k,J,ES (λb h=>h.1.pos) (λb1 b2 h1 h2 e t=>?_) h k ?_⟩
 .have l1:=iC h1;have l2:=iC h2;have z:=h1.1.uniq h2.1 (AD h1.1 h2.1 e) (Rk l1) (Rk l2) (by simp[Pb.Wq,l1,l2,jh h1,jh h2]) (λ_=>by rw[jh h1];lia) (λ_=>by rw[jh h2];lia) t;unfold GZ
  grind
 .have z:=h.1.OX h.2.1 f hc hp (Rk hl) (RH hn) Y;refine z.congr λt _=>?_;unfold GZ;rw[J];grind
noncomputable def Cb:Nat->Nat
 |0=>1
 |n+1=>(n+1)*Cb n
theorem E3{n:Nat}{B:Nat}(h:∀i,i<n->(f i).natAbs<=B):(su n f).natAbs<=n*B:=by
 induction n with
 |zero=>simp[su]
 |succ n m=>have h1:=m λi hi=>h i Q1;have h2:=h n Q1;have h3:=Int.natAbs_add_le (su n f) (f n);show (su n f+f n).natAbs<=_;rw[Nat.add_mul,V0];lia
theorem IZ(i:Nat):(sg i).natAbs=1:=by unfold sg;split<;>rfl
theorem D.le{M:Nat}:∀{k:Nat}{v:Nat->Ve},(∀i j,i<k->j<k->(v i j).natAbs<=M)->(D k v).natAbs<=Cb k*M^k
 |0,_,_=>by simp[D,Cb]
 |k+1,v,h=>by
  rw[D.eq];refine Ru (E3 (B:=M*(Cb k*M^k)) λi hi=>?_) (Ue ?_)
  .rw[RS,RS,IZ,V0];refine WO (h i k hi Q1) (D.le (k:=k) (v:=sk i v) λa b f d=>?_);unfold sk;split
   .exact h a b Q1 Q1
   .exact h _ b Q1 Q1
  .show (k+1)*(M*(Cb k*M^k))=(k+1)*Cb k*M^(k+1);rw[Xa];generalize Cb k=x;generalize M^k=y;rw[Vs,Ts y M,<-Vs M x y,Ts M x,Vs x M y]
variable{P:Pb}{N:Nat}{b:Bo}{M:Nat}
structure Pb.Le(P:Pb)(M:Nat):Prop where
 one:1<=M
 c:∀j,j<P.n->(P.c j).natAbs<=M
 R:∀i j,i<P.m->j<P.n->(P.R i j).natAbs<=M
 L:∀i,i<P.m->(P.L i).natAbs<=M
theorem ym(h:1<=M)(i j:Nat):(un i j).natAbs<=M:=by unfold un;split<;>simp<;>lia
theorem M5(h:P.Le M)(g:-1<=u)(h2:u<(P.n+P.m:Nat))(j:Nat):(P.Yq u j).natAbs<=M:=by
 unfold Pb.Yq;by_cases J:u = -1
 .rw[Zt J];exact ym h.one _ _
 .rw[Zu J];by_cases F:u<P.n
  .rw[Zt F];exact ym h.one _ _
  .rw[Zu F];show (if _ then _ else _:Int).natAbs<=M;by_cases y:j<P.n
   .rw[Zt y,WL];exact h.R _ _ Q1 y
   .rw[Zu y];by_cases d:j=P.n
    .rw[Zt d];exact h.L _ Q1
    .rw[Zu d];exact h.one
theorem AM(h:P.Le M)(ok:Ok P N b)(i j:Nat):(P.vec N b i j).natAbs<=M:=by
 unfold Pb.vec;by_cases c:i<N
 .rw[Zt c];have:=ok.xO (QI b.dn (ok.Am c));exact M5 h this.1 this.2 j
 .rw[Zu c];split<;>exact ym h.one _ _
theorem OF(h:P.Le M)(ok:Ok P N b)(i j:Nat):(P.Wq b i j).natAbs<=M:=by
 unfold Pb.Wq;by_cases c:i<P.m
 .rw[Zt c];have:=ok.xO (QG b.ac (ok.Bm c));exact M5 h this.1 this.2 j
 .rw[Zu c];unfold Pb.zq;by_cases F:j<P.n
  .rw[Zt F];exact h.c j F
  .rw[Zu F];exact SD _
theorem Ok.OT(h:P.Le M)(ok:Ok P N b):b.s.natAbs<=Cb (P.n+2)*M^(P.n+2):=by rw[<-ok.det];exact D.le λi j _ _=>AM h ok i j
theorem Ok.Oi(h:P.Le M)(ok:Ok P N b)(hi:i<=P.m)(hl:l<=N):(b.Gq i l).natAbs<=Cb (P.n+2)*M^(P.n+2):=by
 obtain⟨T,id⟩:=ok.id;have hN:=ok.hN;have hs:=ok.pos;have c:=D.HX (v:=P.vec N b) (w:=P.Wq b i) (s:=b.s) (show l<P.n+2 by lia) (id i hi);have e:=Zx XE c;rw[RS,RS,RS,ok.det] at e;have g:(qs N l).natAbs=1:=by unfold qs;split<;>rfl
 rw[g,V0,show Gx N b T i l=b.Gq i l from Zt hl,Ts] at e;have e2:=Nat.eq_of_mul_eq_mul_right (show 0<b.s.natAbs by lia) e;rw[<-e2];refine D.le λa j _ _=>?_;unfold up;split
 .exact OF h ok i j
 .exact AM h ok a j
variable{P:Pb}{N c a k t:Nat}{b:Bo}
theorem Lc{M:Nat}(l:t<M)(R:∀u,u<t->f u=0)(hn:f t≠0):LP M f↔0<f t:=by
 constructor
 .rintro⟨u,a,b,z⟩;rcases Wj t u with c|c|c
  .exact absurd (z t c) hn
  .rw[c];exact b
  .rw[R u c] at b;lia
 .exact λh=>⟨t,l,h,R⟩
theorem M6{M:Nat}(R:∀u,u<M->f u=0):¬ LP M f:=λ⟨u,a,b,_⟩=>by rw[R u a] at b;lia
def Bw(P:Pb)(N:Nat)(b:Bo)(c i k:Nat):Prop:=LL (P.m+1) (Rr P N b i) (b.Gq i c) (Rr P N b k) (b.Gq k c)
def o9(P:Pb)(N:Nat)(b:Bo)(c k:Nat):Option Nat->Prop
 |none=>∀i,i<k->b.Gq i c<=0
 |some a=>a<k/\0<b.Gq a c/\∀i,i<k->0<b.Gq i c->¬ Bw P N b c i a
theorem o9.zero:o9 P N b c 0 none:=λi hi=>by lia
theorem o9.no{f:Option Nat}(h:o9 P N b c k f)(hk:b.Gq k c<=0):o9 P N b c (k+1) f:=by
 cases f with
 |none=>
  intro i hi;by_cases e:i=k
  .rw[e];exact hk
  .exact h i Q1
 | some a=>exact⟨by have:=h.1;lia,h.2.1,λi hi hp=>by
   by_cases e:i=k
   .rw[e] at hp;lia
   .exact h.2.2 i Q1 hp⟩
theorem o9.one(h:o9 P N b c k none)(hk:0<b.Gq k c):o9 P N b c (k+1) (some k):=⟨by lia,hk,λi hi hp=>by
 by_cases e:i=k
 .rw[e];exact LL.PY
 .have:=h i Q1;lia⟩
theorem o9.keep(h:o9 P N b c k (some a))(hn:¬ Bw P N b c k a):o9 P N b c (k+1) (some a):=⟨by have:=h.1;lia,h.2.1,λi hi hp=>by
 by_cases e:i=k
 .rw[e];exact hn
 .exact h.2.2 i Q1 hp⟩
theorem o9.put(h:o9 P N b c k (some a))(hk:0<b.Gq k c)(hn:Bw P N b c k a):o9 P N b c (k+1) (some k):=⟨by lia,hk,λi hi hp=>by
 by_cases e:i=k
 .rw[e];exact LL.PY
 .exact LL.nt hp h.2.1 hk (h.2.2 i Q1 hp) hn⟩
theorem Ok.Lg(h:Ok P N b)(g:u∉b.ac)(i:Nat):Fb P N b i u=if i<P.m/\b.Bq i=u then b.s else 0:=by unfold Fb F;rw[iK λl hl=>Zu λe=>g (by rw[<-e];exact h.Am hl),Uk]
theorem DU{n:Nat}{g:Nat->Int}(h:∀i,i<n->f i<=g i):su n f<=su n g:=by
 have:=rN (n:=n) (f:=λi=>g i-f i) λi hi=>by have:=h i hi;lia
 rw[zL] at this;lia
variable{P:Pb}{s t:Int}{x y:Nat->Int}
end Sx
namespace W
open PySem L2 M
inductive X2{α β:Type}(p:α->β->Prop):Prop|mk(a:α)(b:β)(h:p a b)
inductive X3{α β γ:Type}(p:α->β->γ->Prop):Prop|mk(a:α)(b:β)(c:γ)(h:p a b c)
inductive X5{α β γ δ ε:Type}(p:α->β->γ->δ->ε->Prop):Prop|mk(a:α)(b:β)(c:γ)(d:δ)(e:ε)(h:p a b c d e)
inductive N3(a b c:Prop):Prop|mk(x:a)(y:b)(z:c)
inductive N4(a b c d:Prop):Prop|mk(x:a)(y:b)(z:c)(w:d)
inductive N6(a b c d e f:Prop):Prop|mk(x:a)(y:b)(z:c)(w:d)(u:e)(v:f)
variable{Z:List Sl}
theorem bK{x:Rr}{xs:List A}{i:Int}{a:A}(h:res Z x=some (.lst xs)\/res Z x=some (.tup xs))(e:iy xs i=some a):my Dw x (.fr (.int i)) Z=some (.ok (.fr a),Z):=by unfold my;rcases h with h|h<;>rw[h]<;>simp only[res,Dw,e]
variable{U:List Sl}{Q:Fl->List Sl->Prop}
theorem Wp.sr{m n:Ms}{s:Sl}(h:m Z=some (.rt s,U))(q:Q (.rt s) U):Wp (av m n) Z Q:=⟨_,_,by unfold av;rw[h],q⟩
theorem cN{t:Mi Bool}{m n:Ms}{r:Option (Fl×List Sl)}(h:t Z=some (.ok true,U))(k:m U=r):eP t m n Z=r:=sk h k
theorem cb{t:Mi Bool}{m n:Ms}{r:Option (Fl×List Sl)}(h:t Z=some (.ok false,U))(k:n U=r):eP t m n Z=r:=sk h k
theorem Jw(i j:Int)(Z:List Sl):my m5 (.fr (.int i)) (.fr (.int j)) Z=some (.ok (.fr (.bl (decide (i=j)))),Z):=by simp only[my,res,m5,oZ]
theorem cv{m n:Ms}{r:Option (Fl×List Sl)}(h:m Z=some (.nx,U))(k:n U=r):av m n Z=r:=by unfold av;rw[h];exact k
variable{i:Nat}{Z0:List Sl}
theorem JL{r:Rr}{a s:Sl}(h:xM r Z=some (a,U))(k:U[i]?=some s)(hn:np s=true)(e:U.set i a=Z0):Dn i r Z=some (.nx,Z0):=by rw[Mx h k hn,e]
variable{G:Mg}{e:Mi Rr}
theorem bJ{n:Nat}{m:Mi (List A)}{t:Mi Bool}{as:List A}{r:Rr}(h:m Z=some (.ok as,U))(k:gF n G t e as U=some (.ok r,Z0)):aU n m G t e Z=some (.ok r,Z0):=bk h k
theorem aN{r:Rr}{m:Mi Rr}{a s:Sl}(h:m Z=some (.ok r,U))(h1:xM r U=some (a,U))(k:U[i]?=some s)(hn:np s=true)(e:U.set i a=Z0):aF i m Z=some (.nx,Z0):=By h (JL h1 k hn e)
theorem fu{o:Option (Except Str Rr×List Sl)}{f:A->A->Option Rr}{x y r:Rr}{a b:A}(h1:res Z x=some a)(h2:res Z y=some b)(k:f a b=some r):my f x y Z=some (.ok r,Z):=by unfold my;rw[h1,h2];dsimp only;rw[k]
theorem dk{i j:Int}{b:Bool}(h:decide (i=j)=b)(Z:List Sl):my eY (.fr (.int i)) (.fr (.int j)) Z=some (.ok (.fr (.bl (!b))),Z):=by rw[<-h];simp only[my,res,eY,oZ]
theorem iB{i j:Int}{b:Bool}(h:decide (i=j)=b)(Z:List Sl):my m5 (.fr (.int i)) (.fr (.int j)) Z=some (.ok (.fr (.bl b)),Z):=by rw[<-h];exact Jw i j Z
theorem kf{i j:Int}(h:j≠0)(Z:List Sl):my kS (.fr (.int i)) (.fr (.int j)) Z=some (.ok (.fr (.int (i.fmod j))),Z):=fu (o:=none) rfl rfl (Zt (by simpa using h))
theorem ky{i j:Int}(h:j≠0)(f:fits 9000 j=true)(Z:List Sl):my iF (.fr (.int i)) (.fr (.int j)) Z=some (.ok (.fr (.int (i.fdiv j))),Z):=fu (o:=none) rfl rfl (Zt (by rw[f];simpa using h))
theorem m6{i j:Int}(h:fits 20000 i=true)(k:fits 20000 j=true)(Z:List Sl):my bD (.fr (.int i)) (.fr (.int j)) Z=some (.ok (.fr (.int (i*j))),Z):=by have e:bD (.int i) (.int j)=some (.fr (.int (i*j))):=Zt (by rw[h,k];rfl);exact fu (o:=none) rfl rfl e
theorem ft{n m:Nat}{i:Int}(h:L2.Bd n i)(k:n<=m):fits m i=true:=ie h k
theorem qi{f:A->Option Rr}{x r:Rr}{a:A}(h:res Z x=some a)(k:f a=some r):OA f x Z=some (.ok r,Z):=by unfold OA;rw[h];dsimp only;rw[k]
theorem rG{m:Mi Rr}{x:Rr}{as:List A}(h:m Z=some (.ok x,U))(k:O4 x U=some (.ok as,Z0)):cQ m Z=some (.ok as,Z0):=bk h k
theorem qV{n:Nat}{t:Mi Bool}{b:Ms}{r:Option (Fl×List Sl)}(h:dB t b n Z=r):g8 n t b Z=r:=h
variable{j:Nat}{rs:List Rr}
theorem Ko{ms:Mi (List Rr)}{r:Option (Fl×List Sl)}(h:ms Z=some (.ok rs,U))(k:DT i j rs U=r):BZ i j ms Z=r:=sk h k
variable{S:List Sl}
theorem nI{mk m:Mi Rr}{r c:Rr}{q:Option (Fl×List Sl)}(h:m Z=some (.ok r,S))(l:M9 S i=true)(hk:mk S=some (.ok c,U))(k:PJ i r c U=q):gq i mk m Z=q:=sk h ((Zt l).trans (sk hk k))
theorem OM{x y:Int}(h:y≠0)(d:L2.Bd 9000 y):Val fW [.int x,.int y] (.int (cd x y)):=by
 obtain⟨O,h1,q,r,rfl⟩:=om (t:=ag (az eY (ab 1) (aC 0))) (b:=av (aF 2 (az kS (ab 0) (ab 1))) (av (aF 0 (ab 1)) (aF 1 (ab 2))))
  (P:=λk Z=>X3 λp q r=>N4 (Z=[.fr (.int p),.fr (.int q),r]) (k=q.natAbs) (np r=true) ((q=0->p=cd x y)/\(q≠0->cd p q=cd x y)))
  (Q:=λZ=>X2 λq r=>Z=[.fr (.int (cd x y)),q,r]) (by
   rintro k Z ⟨p,q,r,rfl,rfl,hr,h1,h2⟩;by_cases z:q=0
   .exact .inl ⟨_,au (ah rfl rfl (dk (Zw z) _)),_,_,by rw[<-h1 z]⟩
   .exact .inr ⟨_,[.fr (.int q),.fr (.int (p.fmod q)),.fr (.int (p.fmod q))],_,au (ah rfl rfl (dk (Zv z) _)),.inl (cv (aN (ah rfl rfl (kf z _)) rfl rfl hr rfl) <| cv (aN rfl rfl rfl rfl rfl) (aN rfl rfl rfl rfl rfl)),rK p z,q,p.fmod q,_,rfl,rfl,rfl,λe=>by rw[<-h2 z];exact Dc z e,λe=>by rw[Dg z e];exact h2 z⟩) ⟨x,y,.un,rfl,rfl,rfl,λe=>absurd e h,λ_=>rfl⟩ (uq (QX d (R7 Z3 Z3)))
 exact Val.of (Wp.df (Wp.st (qV h1) (Wp.en (aK rfl rfl) rfl)))
theorem An{x y:Int}(d:L2.Bd 9000 y):Val fN [.int x,.int y] (.int (RJ x y)):=by
 obtain⟨O,h1,q,rfl,J⟩:=om (t:=ag (az eY (ab 1) (aC 0))) (b:=BZ 0 1 (cB (ab 1) (az kS (ab 0) (ab 1))))
  (P:=λk Z=>X2 λp q=>N3 (Z=[.fr (.int p),.fr (.int q)]) (k=q.natAbs) (RJ p q=RJ x y))
  (Q:=λZ=>∃p,Z=[.fr (.int p),.fr (.int 0)]/\RJ p 0=RJ x y) (by
   rintro k Z ⟨p,q,rfl,rfl,h1⟩;by_cases z:q=0
   .subst z;exact .inl ⟨_,au (ah rfl rfl (dk rfl _)),p,rfl,h1⟩
   .exact .inr ⟨_,[.fr (.int q),.fr (.int (p.fmod q))],_,au (ah rfl rfl (dk (Zv z) _)),.inl (Ko (ae rfl (ae (ah rfl rfl (kf z _)) rfl)) rfl),rK p z,q,p.fmod q,rfl,rfl,by rw[lT,h1]⟩) ⟨x,y,rfl,rfl,rfl⟩ (uq (QX d (R7 Z3 Z3)))
 have e:(if q<0 then -q else q)=(RJ x y:Int):=by rw[<-J,UK];split<;>lia
 exact Val.of (Wp.df (Wp.st (qV h1) (Wp.en (aK (fG rfl (qi (r:=.fr (.int (RJ x y))) rfl (by rw[<-e];rfl))) rfl) rfl)))
theorem uv{t b:Int}(h:b≠0)(d:L2.Bd 9000 b):Val dR [.int t,.int b] (nm (cA t b)):=by
 rw[<-EB h];have key:∀t b:Int,b≠0->L2.Bd 9000 b->∀Z,Wp (av (aF 2 (bp fN (cB (ai 0) (ai 1)))) (bB (fQ (cB (az iF (ab 0) (ab 2)) (az iF (ab 1) (ab 2)))))) (.fr (.int t)::.fr (.int b)::.un::Z) λg _=>g=.rt (.fr (nm (t.fdiv (RJ t b),b.fdiv (RJ t b)))):=λt b h d Z=>by
  have h1:RJ t b<=b.natAbs:=Int.gcd_le_natAbs_right _ h;have R:(RJ t b:Int)≠0:=by simpa using λz:RJ t b=0=>h (Int.gcd_eq_zero_iff.mp z).2
  have f:=ie (show L2.Bd 9000 (RJ t b:Int) from RG (by simpa using h1) d) (QN _);exact Wp.st (aN (aB rfl (aQ (An d) _)) rfl rfl rfl rfl) (Wp.en (aK (fg (ae (ah rfl rfl (ky R f _)) (ae (ah rfl rfl (ky R f _)) rfl)) rfl) rfl) rfl)
 have I:∀c,decide (b<0)=c->ag (az iH (ab 1) (aC 0)) [.fr (.int t),.fr (.int b),.un]=some (.ok c,[.fr (.int t),.fr (.int b),.un]):=by rintro c rfl;rfl
 unfold GN;by_cases c:b<0
 .rw[Zt c,<-VJ,<-VJ];exact Val.of (Wp.df (Wp.st (cN (I true (Zw c)) (cv (aN rfl rfl rfl rfl rfl) (aN rfl rfl rfl rfl rfl))) (Wp.mono (key (0-t) (0-b) Q1 (by rw[VJ];exact d.neg) []) λf _ e=>by rw[e])))
 .rw[Zu c];exact Val.of (Wp.df (Wp.st (cb (I false (Zv c)) rfl) (Wp.mono (key t b h d []) λf _ e=>by rw[e])))
def Wl(n:Int)(o:LO):Prop:=X3 λ(f c t:Int)=>N4 (o=.lst [.int f,.int c,.int t]) (f=0\/f=1) (f=0->c.natAbs<10^18) (0<=t/\t<=n)
variable{o:LO}
theorem Wl.mono{n m:Int}(h:Wl n o)(k:n<=m):Wl m o:=by obtain⟨f,c,t,h1,h2,h3,h4,h5⟩:=h;exact⟨f,c,t,h1,h2,h3,h4,by lia⟩
theorem yT{i:Int}(h:i.natAbs<2^64):fits 20000 i=true:=ie h Z3
theorem B5{n:Int}{m:Int}(w:Wl n o)(hn:n<2^40)(K:0<m)(q:m<2^64):X2 λr o'=>N4 (cX cj o [.int m] (.fr (.int r)) o') (0<=r) (r<m) (Wl (n+1) o'):=by
 suffices ∃s o',cX cj o [.int m] s o'/\∃r,N4 (s=.fr (.int r)) (0<=r) (r<m) (Wl (n+1) o') by obtain⟨s,o',v,r,rfl,h1,h2,h3⟩:=this;exact⟨r,o',v,h1,h2,h3⟩
 obtain⟨f,c,t,rfl,hf,hc,a,L⟩:=w
 have h:m≠0:=by lia
 refine cX.of (Wp.df ?_)
 have I:∀b,decide (f=1)=b->∀Z,ag (az m5 (mix (ab 0) (aC 0)) (aC 1)) (.pv (.lst [.int f,.int c,.int t])::Z)=some (.ok b,.pv (.lst [.int f,.int c,.int t])::Z):=λb d Z=>au (ah (ah rfl rfl (bK (.inl rfl) rfl)) rfl (iB d _))
 rcases hf with rfl|rfl
 .have hc:=hc rfl
  have b1:=L2.Bd.mul (show (7919*(t+1)).natAbs<2^64 by lia) (show (t+1).natAbs<2^64 by lia)
  have b2:L2.Bd 130 (c+7919*(t+1)*(t+1)+(t+1)):=((L2.Bd.add (show c.natAbs<2^128 by lia) b1).add (show (t+1).natAbs<2^128 by lia)).mono Z3
  have e1:∀i:Int,(i.fmod 2305843009213693951).natAbs<2^64:=λi=>by rw[Int.fmod_eq_emod_of_nonneg _ Z3];lia
  refine Wp.st (cb (I false rfl _) rfl) ?_
  refine Wp.st (aN (ah (ah rfl rfl (bK (.inl rfl) rfl)) rfl rfl) rfl rfl rfl rfl) ?_
  refine Wp.st (nI rfl rfl rfl rfl) ?_
  refine Wp.st (aN (ah (ah (ah (ah (ah rfl rfl (bK (.inl rfl) rfl)) (ah (ah rfl rfl (m6 (yT Z3) (yT Q1) _)) rfl (m6 (yT Q1) (yT Q1) _)) rfl) rfl rfl) rfl (m6 (ft b2 Z3) (yT Z3) _)) rfl (kf Z3 _)) rfl rfl rfl rfl) ?_
  exact Wp.en (aK (ah (ah (ah (ah (ah rfl rfl (m6 (yT (e1 _)) (yT Z3) _)) rfl rfl) rfl (kf Z3 _)) rfl (ky Z3 (ie (show (64:Int).natAbs<2^64 by decide) Z3) _)) rfl (kf h _)) rfl) ⟨_,_,_,rfl,rfl,_,rfl,S3 _ K,UJ _ K,0,c,t+1,rfl,.inl rfl,λ_=>hc,by lia,by lia⟩
 .have x:∀Z,mix (ab 0) (aC 1) (.pv (.lst [.int 1,.int c,.int t])::Z)=some (.ok (.fr (.int c)),.pv (.lst [.int 1,.int c,.int t])::Z):=λZ=>ah rfl rfl (bK (.inl rfl) rfl)
  exact Wp.sr (cN (I true rfl _) (cv (aN (ah (x _) rfl (kf h _)) rfl rfl rfl rfl) <| cv (nI (ah (x _) rfl (ky h (ie (show m.natAbs<2^64 by lia) Z3) _)) rfl rfl rfl) (aK rfl rfl))) ⟨_,.lst [.int 1,.int (c.fdiv m),.int t],_,rfl,rfl,_,rfl,S3 c K,UJ c K,1,c.fdiv m,t,rfl,.inr rfl,λz=>by lia,a,by lia⟩
variable{f:Ms}{o':LO}
theorem Qk{as:List A}{r:Rr}{s:Sl}(h:cX f o as s o')(hr:pz s=some r):∀Z,fE f [] (.rf 0::as.map Rr.fr) (.pv o::Z)=some (.ok r,.pv o'::Z):=λZ=>cG h hr rfl
theorem tk{n:Int}(m:Int)(w:Wl n o)(hn:n<2^40)(K:0<m)(q:m<2^64):X2 λr o'=>N4 (∀Z,fE cj [] [.rf 0,.fr (.int m)] (.pv o::Z)=some (.ok (.fr (.int r)),.pv o'::Z)) (0<=r) (r<m) (Wl (n+1) o'):=by obtain⟨r,o',h,h1,h2,h3⟩:=B5 w hn K q;exact⟨r,o',Qk h rfl,h1,h2,h3⟩
theorem pw(k v:Int)(h:0<=k/\k<=1000000/\(10:Int).natAbs<2^64)(e:(10:Int)^k.toNat=v)(Z:List Sl):az qf (aC 10) (mC (.int k)) Z=some (.ok (.fr (.int v)),Z):=
 ah rfl rfl (fu (o:=none) rfl rfl (by rw[<-e];exact Zt h))
theorem HN(ns:List Int)(k:Int)(s:0<=k)(P:k<=1000):∃o,m9 gR [.lst (ns.map A.int),.int k] o/\Wl 17000 o:=by
 have key:∀c:Int,Wl 17000 (.lst [.int (if decide (1000000000000000000<=(if c<0 then -c else c))=true then 1 else 0),.int c,.int (17*k)]):=λc=>by
  refine⟨_,c,17*k,rfl,?_,λz=>?_,by lia,by lia⟩
  .generalize decide (1000000000000000000<=(if c<0 then -c else c))=d;cases d
   .exact .inl rfl
   .exact .inr rfl
  .by_cases h:1000000000000000000<=(if c<0 then -c else c)
   .simp[h] at z
   .split at h<;>lia
 have fin:∀c:Int,Wp (bB (dj (fK (cP tT (az F8 (cP zJ (ab 2)) (az qf (aC 10) (aC 18)))) (ab 2) (az bD (aC 17) (ab 1))))) [.fr (.lst (ns.map A.int)),.fr (.int k),.fr (.int c)] λg _=>g=.rt (.lv (.lst [.int (if decide (1000000000000000000<=(if c<0 then -c else c))=true then 1 else 0),.int c,.int (17*k)])):=λc=>Wp.en (aK (kz (ae (fG (ah rfl (pw 18 1000000000000000000 Z3 Z3 _) rfl) rfl) (ae rfl (ae (ah rfl rfl (m6 (yT Z3) (yT Q1) _)) rfl))) rfl) rfl) rfl
 have I:∀b,decide (k<((ns.map A.int).length:Int))=b->ag (az iH (ab 1) (cP cW (ab 0))) [.fr (.lst (ns.map A.int)),.fr (.int k),.fr (.int 0)]=some (.ok b,[.fr (.lst (ns.map A.int)),.fr (.int k),.fr (.int 0)]):=by rintro b rfl;rfl
 by_cases hk:k<((ns.map A.int).length:Int)
 .obtain⟨j,rfl⟩:∃j:Nat,k=j:=⟨k.toNat,by lia⟩
  have N:j<ns.length:=by rw[QK] at hk;lia
  exact⟨_,m9.of (Wp.df (Wp.st rfl (Wp.st (cN (I true (Zw hk)) (aN (ah rfl rfl (bK (.inl rfl) (jm (by rw[Rc,Q5 N];rfl)))) rfl rfl rfl rfl)) (Wp.mono (fin ns[j]) λf _ e=>by rw[e])))),key ns[j]⟩
 .exact⟨_,m9.of (Wp.df (Wp.st rfl (Wp.st (cb (I false (Zv hk)) rfl) (Wp.mono (fin 0) λf _ e=>by rw[e])))),key 0⟩
theorem AI{t b:Int}(h:b≠0)(E:L2.Bd 9000 b):Val cz [.int t,.int b] (nm (cA t b)):=by
 have k:=aQ (OM (x:=t) h E);have hc:=vS (x:=t) h;have f:=ie (show L2.Bd 9000 (cd t b) from RG (Na h) E) (QN _);have d:∀(u:Int)(Z:List Sl),my iF (.fr (.int u)) (.fr (.int (cd t b))) Z=some (.ok (.fr (.int (u.fdiv (cd t b)))),Z):=λu Z=>by unfold my;simp only[res,Hk,M.oH,f,bne_iff_ne,ne_eq,hc,not_false_eq_true,SQ,decide_true,if_true]
 exact Val.of (Wp.df (Wp.st (By (aB rfl (k _)) rfl) (Wp.en (aK (fg (ae (ah rfl rfl (d _ _)) (ae (ah rfl rfl (d _ _)) rfl)) rfl) rfl) rfl)))
section
variable{x y:Num}{n m:Nat}(hx:NB n x)(hy:NB m y)(h:n+m<=8999)
include hx hy h
theorem DV:Val i6 [nm x,nm y] (nm (DJ x y)):=
 Val.of (Wp.df (Wp.en (aK (aB (ae (ah rfl rfl (m6 (ft hx.b1 Q1) (ft hy.b1 Q1) _)) (ae (ah rfl rfl (m6 (ft hx.b2 Q1) (ft hy.b2 Q1) _)) rfl)) (aQ (uv (Tj hx.nz hy.nz) ((hx.b2.mul hy.b2).mono Q1)) _)) rfl) rfl))
end
section
variable{x y:Num}{n m:Nat}(hx:NB n x)(hy:NB m y)(h:n<=20000)(h':m<=20000)
include hx hy h h'
theorem mP:Val bT [nm x,nm y] (.bl (uy x y)):=
 Val.of (Wp.df (Wp.en (aK (ah (ah rfl rfl (m6 (ft hx.b1 h) (ft hy.b2 h') _)) (ah rfl rfl (m6 (ft hy.b1 h') (ft hx.b2 h) _)) rfl) rfl) rfl))
end
theorem Ob:NB 60 (0,1):=NB.zero
theorem Bl{x:Sl}{t:Sl}(hi:S.length=i)(hx:∀o,x≠Sl.pv o):put i t (S++[x])=some (S++[t]):=by
 subst hi;unfold put;rw[Rx (QN _),S6];simp only[Vt];have e:(S++[x]).set S.length t=S++[t]:=by rw[Um _ _ (QN _),S6];rfl
 cases x with
 |pv o=>exact absurd rfl (hx o)
 |un=>simp only[e]
 |fr a=>simp only[e]
 |lv o=>simp only[e]
 |cf a=>simp only[e]
theorem zu{n:Nat}{t:Mi Bool}{as ys:List A}{O:List Sl}(hl:as.length<=100000)(h:dw G t e as [] (Z++QW n .un)=some (ys,O)):gF n G t e as Z=some (.ok (.nw (.lst ys)),O.take Z.length):=by unfold gF;rw[Zt hl,h]
variable{T:Type}
theorem bG{ts:List T}(k g:T->A)(hi:S.length=i)(hl:ts.length<=100000)(h:∀t∈ts,∃r,e (S++[.fr (k t)])=some (.ok r,S++[.fr (k t)])/\bR r (S++[.fr (k t)])=some (g t,S++[.fr (k t)])):
  gF 1 (aW i) aV e (ts.map k) S=some (.ok (.nw (.lst (ts.map g))),S):=by
 obtain⟨ys,O,h1,x,rfl,_,rfl⟩:=fX (G:=aW i) (t:=aV) (as:=ts.map k)
  (λj acc Z=>∃x:Sl,N3 (Z=S++[x]) (∀o,x≠Sl.pv o) (acc=(ts.take j).map g)) ⟨.un,rfl,(λo z=>by cases z),rfl⟩ (by
   rintro j q acc Z V ⟨x,rfl,hx,rfl⟩;rw[Rc] at V;cases C:ts[j]? with
   |none=>rw[C] at V;cases V
   | some t=>rw[C] at V;cases V;obtain⟨r,P,u⟩:=h t (Rw C);refine⟨S++[Sl.fr (k t)],(show put i (.fr (k t)) (S++[x])=some (S++[.fr (k t)]) from Bl hi hx),.inl ⟨_,r,_,g t,_,rfl,P,u,.fr (k t),rfl,(λo z=>by cases z),?_⟩⟩;rw[S0,C,Rq];rfl)
 unfold gF;rw[Zt (by rw[QK];exact hl)];have e1:S++QW 1 Sl.un=S++[.un]:=rfl;rw[e1,h1];simp
theorem M4(x:Int):Ok (x,1):=⟨by show (0:Int)<1;decide,by show RJ x 1=1;simp⟩
theorem vR(x:Num):tM (nm x) (nm x)=some true:=by rw[Hm];simp
abbrev G2(i j:Nat):Mg:=gD 2 (bU (aW i) (bU (aW j) f6))
theorem EA{t:Mi Bool}{ts:List T}(k g:T->A)(c:T->Bool)(hi:S.length=i)(hl:ts.length<=100000)(h:∀x∈ts,t (S++[.fr (k x)])=some (.ok (c x),S++[.fr (k x)])/\(c x=true->∃r,e (S++[.fr (k x)])=some (.ok r,S++[.fr (k x)])/\bR r (S++[.fr (k x)])=some (g x,S++[.fr (k x)]))):
  gF 1 (aW i) t e (ts.map k) S=some (.ok (.nw (.lst ((ts.filter c).map g))),S):=by
 obtain⟨ys,O,h1,x,rfl,_,rfl⟩:=fX (G:=aW i) (as:=ts.map k)
  (λj acc Z=>∃x:Sl,N3 (Z=S++[x]) (∀o,x≠Sl.pv o) (acc=((ts.take j).filter c).map g)) ⟨.un,rfl,(λo z=>by cases z),rfl⟩ (by
   rintro j q acc Z V ⟨x,rfl,hx,rfl⟩;rw[Rc] at V;cases C:ts[j]? with
   |none=>rw[C] at V;cases V
   |some y=>
    rw[C] at V;cases V;obtain⟨P,u⟩:=h y (Rw C);refine⟨S++[Sl.fr (k y)],(show put i (.fr (k y)) (S++[x])=some (S++[.fr (k y)]) from Bl hi hx),?_⟩;rw[S0,C,V4];cases I:c y with
    |true=>obtain⟨r,f,d⟩:=u I;rw[I] at P;exact .inl ⟨_,r,_,g y,_,P,f,d,.fr (k y),rfl,(λo z=>by cases z),by simp[I]⟩
    | false=>rw[I] at P;exact .inr ⟨_,P,.fr (k y),rfl,(λo z=>by cases z),by simp[I]⟩)
 unfold gF;rw[Zt (by rw[QK];exact hl)];have e1:S++QW 1 Sl.un=S++[.un]:=rfl;rw[e1,h1];simp
noncomputable abbrev lI(r:List Int):A:=.lst (r.map A.int)
abbrev gI(g:List (List Int)):A:=.lst (g.map lI)
variable{r:List Int}
theorem hU(h:j<r.length):iy (r.map A.int) (j:Int)=some (.int (r.getD j 0)):=
 jm (by simp[Rg,h])
theorem BC{g:List (List Int)}(h:j<g.length):iy (g.map lI) (j:Int)=some (lI (g.getD j [])):=
 jm (by simp[Rg,h])
variable{α:Type}
theorem yM{xs:List α}{n:Nat}{v:α}(h:xs.length=n+1)(e:xs[n]?=some v):iy xs (-1)=some v:=by
 have k:L2.gz xs.length (-1)=some n:=by
  unfold L2.gz;rw[Zu Z3,Zt Q1]
  congr 1;lia
 unfold iy;rw[k];exact e
theorem lz{n:Nat}(h:r.length=n+1):iy (r.map A.int) (-1)=some (.int (r.getD n 0)):=
 yM (by simpa using h) (by simp[Rg,h])
theorem vd{g:List (List Int)}{n:Nat}(h:g.length=n+1):iy (g.map lI) (-1)=some (lI (g.getD n [])):=
 yM (by simpa using h) (by simp[Rg,h])
theorem Gu{xs:List A}{n:Nat}(h:xs.length=n+1):je xs none (some (-1))=xs.take n:=by
 have e:HT.jv xs.length xs.length (some (-1))=n:=by unfold HT.jv;simp[h];lia
 have I:HT.jv xs.length 0 none=0:=rfl;unfold je;rw[e,I,VI,WJ]
theorem Ie{xs:List A}{n:Nat}(h:xs.length=n+1):je xs (some (-1)) none=xs.drop n:=by
 have e:HT.jv xs.length 0 (some (-1))=n:=by unfold HT.jv;simp[h];lia
 have I:HT.jv xs.length xs.length none=xs.length:=rfl;unfold je;rw[e,I,Vz Z5]
variable{β:Type}
theorem fm{k:α->A}{l:β->A}(xs:List α)(ys:List β):iI (xs.map k) (ys.map l)=(xs.zip ys).map λp=>.tup [k p.1,l p.2]:=by unfold iI;rw[List.zip_map,Rm];rfl
variable{tl:List Sl}
theorem kE{x t:Sl}(hi:S.length=i)(hx:np x=true):put i t (S++x::tl)=some (S++t::tl):=by subst hi;rw[E8,Rx (QN _),S6];simp only[Vt,hx,if_true];rw[Um _ _ (QN _),S6];rfl
theorem lQ{x y:Sl}{a b:A}(hi:S.length=i)(hx:np x=true)(hy:np y=true):G2 i (i+1) (.tup [a,b]) (S++x::y::tl)=some (S++.fr a::.fr b::tl):=by
 have e1:=kE (tl:=y::tl) (t:=.fr a) hi hx;have e2:=kE (S:=S++[.fr a]) (i:=i+1) (tl:=tl) (t:=.fr b) (by simp[hi]) hy;rw[QJ,QJ] at e2;have N:gD 2 (bU (aW i) (bU (aW (i+1)) f6)) (.tup [a,b]) (S++x::y::tl)=some (S++.fr a::.fr b::tl):=by show bU (aW i) (bU (aW (i+1)) f6) [a,b] _=_;unfold bU;simp only[aW,e1];show (match put (i+1) (Sl.fr b) (S++([Sl.fr a]++y::tl)) with|some U=>f6 [] U|none=>none)=_;rw[e2];rfl
 exact N
theorem nP{ts:List T}(P u g:T->A)(hi:S.length=i)(hl:ts.length<=100000)
  (h:∀t∈ts,∃r,e (S++[.fr (P t),.fr (u t)])=some (.ok r,S++[.fr (P t),.fr (u t)])/\bR r (S++[.fr (P t),.fr (u t)])=some (g t,S++[.fr (P t),.fr (u t)])):
  gF 2 (G2 i (i+1)) aV e (ts.map λt=>.tup [P t,u t]) S=some (.ok (.nw (.lst (ts.map g))),S):=by
 obtain⟨ys,O,h1,x,y,rfl,_,_,rfl⟩:=fX (G:=G2 i (i+1)) (t:=aV) (as:=ts.map λt=>.tup [P t,u t])
  (λj acc Z=>X2 λ(x y:Sl)=>N4 (Z=S++[x,y]) (np x=true) (np y=true) (acc=(ts.take j).map g)) ⟨.un,.un,rfl,rfl,rfl,rfl⟩ (by
   rintro j q acc Z V ⟨x,y,rfl,hx,hy,rfl⟩;rw[Rc] at V;cases C:ts[j]? with
   |none=>rw[C] at V;cases V
   | some p=>rw[C] at V;cases V;obtain⟨r,P,u⟩:=h p (Rw C);refine⟨_,lQ hi hx hy,.inl ⟨_,r,_,g p,_,rfl,P,u,_,_,rfl,rfl,rfl,?_⟩⟩;rw[S0,C,Rq];rfl)
 unfold gF;rw[Zt (by rw[QK];exact hl)];have e1:S++QW 2 Sl.un=S++[.un,.un]:=rfl;rw[e1,h1];simp
theorem xW(hl:r.length<=100000):m9 aO [lI r] (.lst ((Sx.gf r).map A.int)):=
 m9.of (Wp.df (Wp.en (aK (bJ rfl (bG (k:=A.int) (λx=>.int (-x)) rfl hl λx _=>⟨_,rfl,rfl⟩)) rfl) (by unfold Sx.gf;rw[Rm];rfl)))
variable{c:Nat}
theorem dI(h:c<r.length):r.getD c 0∈r:=by simp[Rg,h]
variable{pr:List Int}{s:Int}{N:Nat}
theorem Gy{row:List Int}(h1:row.length=N+1)(h2:pr.length=N+1)(hc:c<N+1)(hN:N<100)(hs:s≠0)(bs:L2.Bd 400 s)(b1:∀x∈row,L2.Bd 400 x)(b2:∀x∈pr,L2.Bd 400 x):
  m9 eQ [lI row,lI pr,.int c,.int s] (.lst ((Sx.kh row pr c s).map A.int)):=by
 have fp:=ft (b2 _ (dI (show c<pr.length by lia))) (show 400<=20000 by decide);have a:=ft (b1 _ (dI (show c<row.length by lia))) (show 400<=20000 by decide);have fs:=ft bs (show 400<=9000 by decide);have B:∀Z:List Sl,mix (ab 1) (ab 2) (.fr (lI row)::.fr (lI pr)::.fr (.int c)::Z)=some (.ok (.fr (.int (pr.getD c 0))),.fr (lI row)::.fr (lI pr)::.fr (.int c)::Z):=λZ=>ah rfl rfl (bK (.inl rfl) (hU Q1));have X:∀Z:List Sl,mix (ab 0) (ab 2) (.fr (lI row)::.fr (lI pr)::.fr (.int c)::Z)=some (.ok (.fr (.int (row.getD c 0))),.fr (lI row)::.fr (lI pr)::.fr (.int c)::Z):=λZ=>ah rfl rfl (bK (.inl rfl) (hU Q1));have h:row.length<=100000:=by lia
 generalize i:pr.getD c 0=p at B fp;generalize G:row.getD c 0=f at X a;refine m9.of (Wp.df (Wp.st (aN (B _) rfl rfl rfl rfl) (Wp.st (aN (X _) rfl rfl rfl rfl) ?_)));have I:∀b,decide (f=0)=b->∀x:Sl,ag (az m5 (ab 5) (aC 0)) [.fr (lI row),.fr (lI pr),.fr (.int c),.fr (.int s),.fr (.int p),.fr (.int f),x]=some (.ok b,[.fr (lI row),.fr (lI pr),.fr (.int c),.fr (.int s),.fr (.int p),.fr (.int f),x]):=λb d x=>au (ah rfl rfl (iB d _));by_cases z:f=0
 .refine Wp.sr (cN (I true (Zw z) _) (aK (bJ rfl (bG (k:=A.int) (λx=>.int ((p*x).fdiv s)) rfl h λx hx=>⟨_,ah (ah rfl rfl (m6 fp (ft (b1 x hx) Z3) _)) rfl (ky hs fs _),rfl⟩)) rfl)) ?_;unfold Sx.kh;rw[i,G,Zt z,Rm];rfl
 .refine Wp.st (cb (I false (Zv z) _) rfl) ?_;refine Wp.st (aN (bJ ?_ (nP (S:=[.fr (lI row),.fr (lI pr),.fr (.int c),.fr (.int s),.fr (.int p),.fr (.int f),.un]) (λt=>.int t.1) (λt=>.int t.2) (λt=>.int ((p*t.1-f*t.2).fdiv s)) rfl (by rw[Sv];lia) λt l=>⟨_,ah (ah (ah rfl rfl (m6 fp (ft (b1 _ (SS l).1) Z3) _)) (ah rfl rfl (m6 a (ft (b2 _ (SS l).2) Z3) _)) rfl) rfl (ky hs fs _),rfl⟩)) rfl rfl rfl rfl) ?_
  .rw[<-fm];rfl
  .have V:c<((row.zip pr).map λt=>A.int ((p*t.1-f*t.2).fdiv s)).length:=by rw[QK,Sv];lia
   have k:L2.gz ((row.zip pr).map λt=>A.int ((p*t.1-f*t.2).fdiv s)).length (c:Int)=some c:=by unfold L2.gz;rw[Zt Q1,Zt Q1];simp
   refine Wp.st (nI rfl rfl rfl (q:=some (.nx,[.fr (lI row),.fr (lI pr),.fr (.int c),.fr (.int s),.fr (.int p),.fr (.int f),.lv (.lst (((row.zip pr).map λt=>A.int ((p*t.1-f*t.2).fdiv s)).set c (.int (-f))))])) ?_) (Wp.en (aK rfl rfl) ?_)
   .show (match L2.gz ((row.zip pr).map λt=>A.int ((p*t.1-f*t.2).fdiv s)).length (c:Int) with|some n=>_|none=>_)=_;rw[k];rfl
   .unfold Sx.kh;rw[i,G,Zu z,Ub,Rm];rfl
theorem yF{m n:Mi Rr}{q:Option (Except Str Rr×List Sl)}(h:ag m Z=some (.ok true,U))(k:n U=q):mU m n Z=q:=by rw[Jy,h];exact k
theorem pU{m:Mi Rr}{n:Nat}(h:m Z=some (.ok (.fr (.int n)),U))(hn:n<=100000):gC m Z=some (.ok (bP 0 n),U):=by refine bk h ?_;show (if -(2^60)<=(n:Int)/\(n:Int)<2^60 then some (RF (bP 0 (n:Int).toNat),U) else none)=_;rw[Zt Q1];rfl
noncomputable def vA:Rr->A
 | .fr a=>a
 | .nw o=>o.a
 | .rf _=>.non
noncomputable def E2:Rr->Bool
 | .rf _=>false
 |_=>true
theorem pO(Z:List Sl):∀rs:List Rr,rs.all E2=true->cw rs Z=some ((rs.map vA).map Sl.fr,Z)
 |[],_=>rfl
 |r::rs,h=>by
  rw[Q7,QE] at h;have e:take1 r Z=some (.fr (vA r),Z):=by
   cases r with
   |rf i=>cases h.1
   |fr a=>rfl
   |nw o=>rfl
  unfold cw;rw[e];dsimp only;rw[pO Z rs h.2];rfl
abbrev nS(n:Nat)(s:Int)(v:Nat->Int):A:=.tup ((Q4 n).map λj=>nm (cA (v j) s))
abbrev V9(n:Nat)(v:Nat->Int):Prop:=∀j,j<n->L2.Bd 900 (v j)
theorem F0{f:Nat->Int}{b:Nat}:∀{n:Nat},(∀j,j<n->L2.Bd b (f j))->n<=2^10->L2.Bd (b+10) (Sx.su n f):=by
 intro n h hn;have h1:=λj N=>Rk (h j N);by_cases z:n=0
 .subst z;exact Tg Z3
 .have:∀j,j<n->(f j).natAbs<=2^b-1:=λj N=>by have:=h j N;unfold L2.Bd at this;lia
  have h3:=Sx.E3 this;have:n*(2^b-1)<n*2^b:=Nat.mul_lt_mul_of_pos_left (by have:=Tg (n:=b) (show 0<2 by decide);lia) Q1;show (Sx.su n f).natAbs<2^(b+10);rw[VX];have:n*2^b<=2^b*2^10:=by rw[Ts];exact Nat.mul_le_mul_left _ hn
  lia
theorem Mp{i:Int}(h:L2.Bd 900 i):NB 900 (i,1):=⟨M4 i,h,by show (1:Int).natAbs<2^900;decide +kernel⟩
theorem uJ(i:Int):Val gn [.int i] (.bl true):=⟨[.fr (.int i)],rfl⟩
theorem vK{x:Num}{b:Nat}(h:NB b x)(d:b<=9000):Val cy [nm x] (.bl true):=by have k:=uv (t:=x.1) h.nz (h.b2.mono d);rw[yi h.ok] at k;have F:∀Z:List Sl,mix (ab 0) (aC 0) (.fr (nm x)::Z)=some (.ok (.fr (.int x.1)),.fr (nm x)::Z):=λZ=>ah rfl rfl (bK (.inr rfl) rfl);have s:∀Z:List Sl,mix (ab 0) (aC 1) (.fr (nm x)::Z)=some (.ok (.fr (.int x.2)),.fr (nm x)::Z):=λZ=>ah rfl rfl (bK (.inr rfl) rfl);refine Val.of (Wp.df (Wp.st (cb (cU (fJ (b:=true) rfl) (cU rfl (cU (fJ (au (aB (ae (F _) rfl) (aQ (uJ _) _)))) (fJ (au (aB (ae (s _) rfl) (aQ (uJ _) _))))))) rfl) ?_));have gt:az jV (mix (ab 0) (aC 1)) (aC 0) [.fr (nm x)]=some (.ok (.fr (.bl true)),[.fr (nm x)]):=ah (s _) rfl (fu (o:=none) rfl rfl (by rw[KP];show some (Rr.fr (.bl (decide (0<x.2))))=_;rw[Zw h.ok.1]));refine Wp.en (aK (yF (au gt) (ah (aB (ae (F _) (ae (s _) rfl)) (aQ k _)) rfl (fu (o:=none) rfl rfl (by unfold m5;rw[vR])))) rfl) rfl
theorem BO{n:Nat}{v:Nat->Int}(hn:n<=20)(hs:0<s)(bs:L2.Bd 900 s)(r:V9 n v)(R:∀j,j<n->0<=v j):Val bY [nS n s v,.int n,.bl false] (.bl true):=by
 have ne:s≠0:=by lia
 have hl:((Q4 n).map λj=>nm (cA (v j) s)).length=n:=by simp
 have L:ag (az eY (cP cW (ab 0)) (ab 1)) [.fr (nS n s v),.fr (.int n),.fr (.bl false)]=some (.ok false,[.fr (nS n s v),.fr (.int n),.fr (.bl false)]):=by refine au (ah (x:=.fr (.int n)) (U:=[.fr (nS n s v),.fr (.int n),.fr (.bl false)]) ?_ rfl (dk (b:=true) Z5 _));show some (RF (Rr.fr (.int ((Q4 n).map λj=>nm (cA (v j) s)).length)),_)=_;rw[hl]
 have h:=EA (e:=ab 3) (t:=iT (gr (ag (bp cy (cJ (ai 3))))) (eW (gr (ag (ab 2))) (ag (az iH (mix (ab 3) (aC 0)) (aC 0))))) (ts:=Q4 n) (S:=[.fr (nS n s v),.fr (.int n),.fr (.bl false)]) (λj=>nm (cA (v j) s)) (λj=>nm (cA (v j) s)) (λ_=>false) rfl (by simp;lia) (λj N=>⟨?_,λz=>nomatch z⟩)
 .rw[Su.mpr (λa _=>by simp)] at h;exact Val.of (Wp.df (Wp.st (cb (cU (fJ (b:=true) rfl) L) rfl) (Wp.en (aK (ah (bJ rfl h) rfl (fu (o:=none) rfl rfl rfl)) rfl) rfl)))
 .have N:=Rz.mp N;have k:=vK (NB.cA ne (r j N) bs) Z3;have lt:(cA (v j) s).1<0↔v j<0:=yB hs;have:=R j N;refine cU (fJ (au (aB rfl (aQ k _)))) (cL (fJ (b:=false) rfl) (au (ah (ah rfl rfl (bK (.inr rfl) rfl)) rfl (fu (o:=none) rfl rfl ?_))));show some (Rr.fr (.bl (decide ((cA (v j) s).1<0))))=_;rw[Zv Q1]
theorem CZ(i j:Str):tM (.str i) (.str j)=some (decide (i=j)):=by unfold tM;exact Zt (SD 40)
inductive Told(c:List Int)(R:List (List Int))(L:List Int):A->Prop
 | best {s w:Int} {x y:Nat->Int} (hs:0<s) (bs:L2.Bd 900 s) (hx:V9 c.length x) (hy:V9 R.length y) (bw:L2.Bd 900 w) (x0:∀j,j<c.length->0<=x j) (y0:∀k,k<R.length->0<=y k)
  (keep:∀i,i<R.length->(Sx.su c.length λj=>(R.getD i []).getD j 0*x j)<=L.getD i 0*s) (cov:∀j,j<c.length->c.getD j 0*s<=Sx.su R.length λk=>(R.getD k []).getD j 0*y k)
  (e1:(Sx.su c.length λj=>c.getD j 0*x j)=w) (e2:(Sx.su R.length λk=>L.getD k 0*y k)=w):Told c R L (.tup [.str "best",nm (cA w s),nS c.length s x,nS R.length s y])
 | opn {s:Int} {x z:Nat->Int} (hs:0<s) (bs:L2.Bd 900 s) (hx:V9 c.length x) (hz:V9 c.length z) (x0:∀j,j<c.length->0<=x j) (z0:∀j,j<c.length->0<=z j)
  (keep:∀i,i<R.length->(Sx.su c.length λj=>(R.getD i []).getD j 0*x j)<=L.getD i 0*s) (still:∀i,i<R.length->(Sx.su c.length λj=>(R.getD i []).getD j 0*z j)<=0)
  (pd:0<Sx.su c.length λj=>c.getD j 0*z j):Told c R L (.tup [.str "open",nS c.length s x,nS c.length s z])
 | non {s:Int} {y:Nat->Int} (hs:0<s) (bs:L2.Bd 900 s) (hy:V9 R.length y) (y0:∀k,k<R.length->0<=y k)
  (cov:∀j,j<c.length->0<=Sx.su R.length λk=>(R.getD k []).getD j 0*y k) (less:(Sx.su R.length λk=>L.getD k 0*y k)<0):Told c R L (.tup [.str "none",nS R.length s y])
structure qS(c:List Int)(R:List (List Int))(L:List Int):Prop where
 n:c.length<=9
 m:R.length<=9
 l:L.length=R.length
 r:∀r∈R,r.length=c.length
 bc:∀x∈c,x.natAbs<=10^9
 br:∀r∈R,∀x∈r,x.natAbs<=10^9
 bl:∀x∈L,x.natAbs<=10^9
theorem N8{x:Int}(h:x.natAbs<=10^9):L2.Bd 900 x:=RG h Z4
abbrev bA(n m:Nat)(b:Sx.Bo):A:=.obj "Board" [("long",.int n),("many",.int m),("scale",.int b.s),("grid",gI b.g),("across",lI b.ac),("down",lI b.dn)]
def bO(n m:Nat)(b:Sx.Bo):LO:=.nob "Board" [("long",.int n),("many",.int m),("scale",.int b.s),("grid",gI b.g)] [("across",b.ac.map A.int),("down",b.dn.map A.int)]
def fI(f:Ms)(as:List A)(a:A):Prop:=∃Z,f (as.map Sl.fr)=some (.rt (.fr a),Z)/\Z.all np=true
theorem fI.v{as:List A}{a:A}(h:fI f as a):Val f as a:=by obtain⟨Z,h,_⟩:=h;exact⟨Z,h⟩
theorem fI.of{as:List A}{a:A}(k:Wp f (as.map Sl.fr) λg Z=>g=.rt (.fr a)/\Z.all np=true):fI f as a:=by obtain⟨g,Z,h,rfl,h2⟩:=k;exact⟨Z,h,h2⟩
theorem fI.PK{as:List A}{R:A->Prop}(k:Wp f (as.map Sl.fr) λg Z=>X2 λ(a:A)(_:Unit)=>N3 (g=.rt (.fr a)) (Z.all np=true) (R a)):∃a,fI f as a/\R a:=by obtain⟨g,Z,h,a,_,rfl,h2,h3⟩:=k;exact⟨a,⟨Z,h,h2⟩,h3⟩
structure Bb(n m N:Nat)(b:Sx.Bo):Prop where
 sh:Sx.Sh N m b
 hN:N<=10
 hn:n<=9
 hm:m<=9
 bg:∀r∈b.g,∀x∈r,L2.Bd 400 x
 bs:L2.Bd 400 b.s
 pos:0<b.s
section
variable{n m N:Nat}{b:Sx.Bo}(h:Bb n m N b)
include h
theorem Bb.gb{l:Nat}(hi:i<=m)(hl:l<=N):L2.Bd 400 (b.Gq i l):=by have z:=h.sh.row hi;exact h.bg _ (Sx.getD_mem (by rw[h.sh.g];lia)) _ (dI Q1)
theorem Bb.rowAt(hi:i<=m)(Z:List Sl)(N:(.fr (bA n m b)::Z)[j]?=some (.fr (.int i))):mix (aJ (aq ["Board"] "grid") (ab 0)) (ab j) (.fr (bA n m b)::Z)=some (.ok (.fr (lI (b.g.getD i []))),.fr (bA n m b)::Z):=
 ah rfl (show ab j _=some (.ok (.fr (.int i)),_) by unfold ab;rw[N]) (bK (.inl rfl) (BC (by rw[h.sh.g];lia)))
theorem Bb.at2{l:Nat}(hi:i<=m)(hl:l<=N)(Z:List Sl){k:Nat}(x:(.fr (bA n m b)::Z)[j]?=some (.fr (.int i)))(hk:(.fr (bA n m b)::Z)[k]?=some (.fr (.int l))):mix (mix (aJ (aq ["Board"] "grid") (ab 0)) (ab j)) (ab k) (.fr (bA n m b)::Z)=some (.ok (.fr (.int (b.Gq i l))),.fr (bA n m b)::Z):=
 ah (h.rowAt hi Z x) (show ab k _=some (.ok (.fr (.int l)),_) by unfold ab;rw[hk]) (bK (.inl rfl) (hU (by rw[h.sh.row hi];lia)))
theorem Bb.last(hi:i<=m)(Z:List Sl)(x:(.fr (bA n m b)::Z)[j]?=some (.fr (.int i))):mix (mix (aJ (aq ["Board"] "grid") (ab 0)) (ab j)) (aJ aT (aC 1)) (.fr (bA n m b)::Z)=some (.ok (.fr (.int (b.Gq i N))),.fr (bA n m b)::Z):=
 ah (h.rowAt hi Z x) rfl (bK (.inl rfl) (lz (h.sh.row hi)))
end
theorem iq{m:Mi Rr}{xs:List A}{n:Nat}(h:m Z=some (.ok (.fr (.lst xs)),Z))(hl:xs.length=n+1):cE m aH (bz (aJ aT (aC 1))) Z=some (.ok (.nw (.lst (xs.take n))),Z):=by refine bk h (bk rfl (bk rfl ?_));show some (RF (Rr.nw (.lst (je xs none (some (-1))))),Z)=_;rw[Gu hl]
theorem yq{k:Nat}:∀{xs:List Int},(∀x∈xs,L2.Bd k x)->xs.sum.natAbs<=xs.length*(2^k-1)
 |[],_=>by simp
 |x::xs,h=>by have h1:=yq λy hy=>h y (QM _ hy);have h2:x.natAbs<2^k:=h x QV;rw[List.sum_cons,QU,W8];lia
variable{xs:List Int}
theorem DO{k:Nat}(h:∀x∈xs,L2.Bd k x)(l:xs.length<=2^10):L2.Bd (k+10) xs.sum:=by have h1:=yq h;have h2:xs.length*(2^k-1)<=2^10*(2^k-1):=Nat.mul_le_mul_right _ l;have h3:0<2^k:=Tg Z3;show xs.sum.natAbs<2^(k+10);rw[VX];lia
noncomputable def stI(m:Nat)(b:Sx.Bo)(c:Nat):Int:=b.s*b.s+((b.g.take m).map λr=>r.getD c 0*r.getD c 0).sum
section
variable{n m N:Nat}{b:Sx.Bo}(h:Bb n m N b)
include h
theorem Bb.sb(hc:c<=N):L2.Bd 820 (stI m b c):=by
 have h1:=h.bs.mul h.bs;have h2:L2.Bd 810 ((b.g.take m).map λr=>r.getD c 0*r.getD c 0).sum:=DO (λx hx=>by obtain⟨r,hr,rfl⟩:=Rh.mp hx;have hr:=Sm hr;have:=h.bg r hr _ (dI (c:=c) (by have:=h.sh.r r hr;lia));exact this.mul this) (by have:=h.hm;simp;lia)
 exact(L2.Bd.add (h1.mono (show 800<=810 by decide)) h2).mono (show max 810 810+1<=820 by decide)
theorem Aj(hc:c<=N):Val eX [bA n m b,.int c] (.int (stI m b c)):=by
 have hm:=h.hm;have J:=h.sh.g;have fs:=ft h.bs (show 400<=20000 by decide);have e1:cQ (cE (aJ (aq ["Board"] "grid") (ab 0)) aH (bz (aJ aT (aC 1)))) [.fr (bA n m b),.fr (.int c)]=some (.ok ((b.g.take m).map lI),[.fr (bA n m b),.fr (.int c)]):=by refine rG (iq rfl (by rw[QK,J])) ?_;rw[<-SR];rfl
 have e2:=bG (ts:=b.g.take m) (k:=lI) (S:=[.fr (bA n m b),.fr (.int c)]) (λr=>.int (r.getD c 0*r.getD c 0)) rfl (by simp;lia) λr hr=>by
  have hr:=Sm hr;have l:=h.sh.r r hr;have k:∀Z:List Sl,Z=[.fr (bA n m b),.fr (.int c),.fr (lI r)]->mix (ab 2) (ab 1) Z=some (.ok (.fr (.int (r.getD c 0))),Z):=by rintro Z rfl;exact ah rfl rfl (bK (.inl rfl) (hU Q1))
  have f:=ft (h.bg r hr _ (dI (c:=c) Q1)) (show 400<=20000 by decide);exact⟨_,ah (k _ rfl) (k _ rfl) (m6 f f _),rfl⟩
 refine Val.of (Wp.df (Wp.en (aK (ah (ah rfl rfl (m6 fs fs _)) (fG (bJ e1 e2) (qi (r:=.fr (.int ((b.g.take m).map λr=>r.getD c 0*r.getD c 0).sum)) rfl ?_)) rfl) rfl) rfl));rw[show (b.g.take m).map (λr=>A.int (r.getD c 0*r.getD c 0))=((b.g.take m).map λr=>r.getD c 0*r.getD c 0).map A.int by rw[Rm];rfl];unfold zM;dsimp only;rw[qD]
end
abbrev G9(o:A)(gs:List Int)(f:A)(a q:Int)(D x5 h:Sl):List Sl:=[.fr o,.fr (lI gs),.fr f,.fr (.tup [.int a,.int q]),D,x5,h]
theorem iU{i j:Int}{b:Bool}(h:decide (j<i)=b)(Z:List Sl):my jV (.fr (.int i)) (.fr (.int j)) Z=some (.ok (.fr (.bl b)),Z):=by rw[<-h];rfl
theorem fS{i j:Int}{b:Bool}(h:decide (i<j)=b)(Z:List Sl):my iH (.fr (.int i)) (.fr (.int j)) Z=some (.ok (.fr (.bl b)),Z):=by rw[<-h];rfl
def Gn(gs:List Int)(i:Nat)(f:A)(a q:Int):Prop:=(f=.non/\a=0/\q=1/\∀j,j<i->gs.getD j 0<=0)\/∃k:Nat,k<i/\f=.int k/\0<gs.getD k 0/\L2.Bd 820 a/\L2.Bd 820 q
variable{gs:List Int}{q:Int}
theorem Gn.bd{f:A}{a:Int}(h:Gn gs i f a q):L2.Bd 820 a/\L2.Bd 820 q:=by
 rcases h with ⟨_,rfl,rfl,_⟩|⟨k,_,_,_,h⟩
 .exact⟨Tg Z3,show (1:Int).natAbs<2^820 by decide +kernel⟩
 .exact h
theorem Gn.no{f:A}{a:Int}(h:Gn gs i f a q)(hi:gs.getD i 0<=0):Gn gs (i+1) f a q:=by
 rcases h with ⟨h1,h2,h3,h4⟩|⟨k,h1,h2⟩
 .exact .inl ⟨h1,h2,h3,λj N=>by
   by_cases e:j=i
   .rw[e];exact hi
   .exact h4 j Q1⟩
 .exact .inr ⟨k,by lia,h2⟩
theorem J4{n m:Nat}{b:Sx.Bo}(h:Bb n m N b)(U:gs.length<=N)(bg:∀x∈gs,L2.Bd 400 x):∃f,fI bF [bA n m b,lI gs] f/\((f=.non/\∀j,j<gs.length->gs.getD j 0<=0)\/∃k:Nat,f=.int k/\k<gs.length/\0<gs.getD k 0):=by
 refine fI.PK (Wp.df (Wp.st rfl (Wp.st (aN (fg (ae rfl (ae rfl rfl)) rfl) rfl rfl rfl rfl) (Wp.sq (Wp.fr (G:=G2 4 5) (as:=iN 0 (gs.map A.int))
  (λi Z=>X5 λ(f:A)(a q:Int)(D x5:Sl)=>∃z,N4 (Z=G9 (bA n m b) gs f a q D x5 z) (np D=true/\np x5=true) (np z=true) (Gn gs i f a q)) rfl ⟨.non,0,1,.un,.un,.un,rfl,⟨rfl,rfl⟩,rfl,.inl ⟨rfl,rfl,rfl,λj E=>absurd E (SW j)⟩⟩ ?_ ?_)))))
 .rintro i a0 Z Y ⟨f,a,q,D,x5,z,rfl,⟨h4,h5⟩,V,g⟩;obtain⟨d,hd,rfl⟩:=mr _ _ _ _ Y;rw[Rc] at hd;have hi:i<gs.length:=by
   cases e:gs[i]? with
   |none=>rw[e] at hd;cases hd
   |some x=>exact(QH.mp e).1
  rw[Q5 hi] at hd;cases hd;have B:gs[i]=gs.getD i 0:=by simp[Rg,hi]
  rw[B];have o:=bg _ (dI hi);generalize X:gs.getD i 0=v at o;rw[Uj];refine⟨_,lQ (S:=[.fr (bA n m b),.fr (lI gs),.fr f,.fr (.tup [.int a,.int q])]) (tl:=[z]) rfl h4 h5,?_⟩;have L:∀t,decide (0<v)=t->ag (az jV (ab 5) (aC 0)) (G9 (bA n m b) gs f a q (.fr (.int (i:Nat))) (.fr (.int v)) z)=some (.ok t,G9 (bA n m b) gs f a q (.fr (.int (i:Nat))) (.fr (.int v)) z):=λt l=>au (ah rfl rfl (iU l _));by_cases J:0<v
  .have r:=ft o (show 400<=20000 by decide);have b2:L2.Bd 800 (v*v):=o.mul o;have bs:=h.sb (c:=i) Q1;have p:=ft b2 (show 800<=20000 by decide);have s:=ft bs (show 820<=20000 by decide);have H:=ft g.bd.1 (show 820<=20000 by decide);have R:=ft g.bd.2 (show 820<=20000 by decide);have y:aF 6 (fQ (cB (az bD (ab 5) (ab 5)) (bp eX (cB (bH "Board" "stride" (ai 0)) (ai 4))))) (G9 (bA n m b) gs f a q (.fr (.int (i:Nat))) (.fr (.int v)) z)=some (.nx,G9 (bA n m b) gs f a q (.fr (.int (i:Nat))) (.fr (.int v)) (.fr (.tup [.int (v*v),.int (stI m b i)]))):=
    aN (fg (ae (ah rfl rfl (m6 r r _)) (ae (aB (ae (jC rfl rfl) (ae rfl rfl)) (aQ (Aj h (c:=i) Q1) _)) rfl)) rfl) rfl rfl V rfl
   have w:∀t,decide (a*stI m b i<v*v*q)=t->ag (az jV (az bD (mix (ab 6) (aC 0)) (mix (ab 3) (aC 1))) (az bD (mix (ab 3) (aC 0)) (mix (ab 6) (aC 1)))) (G9 (bA n m b) gs f a q (.fr (.int (i:Nat))) (.fr (.int v)) (.fr (.tup [.int (v*v),.int (stI m b i)])))=some (.ok t,G9 (bA n m b) gs f a q (.fr (.int (i:Nat))) (.fr (.int v)) (.fr (.tup [.int (v*v),.int (stI m b i)]))):=
    λt l=>au (ah (ah (ah rfl rfl (bK (.inr rfl) rfl)) (ah rfl rfl (bK (.inr rfl) rfl)) (m6 p R _)) (ah (ah rfl rfl (bK (.inr rfl) rfl)) (ah rfl rfl (bK (.inr rfl) rfl)) (m6 H s _)) (iU l _))
   by_cases F:a*stI m b i<v*v*q
   .exact Wp.en (cN (L true (Zw J)) (cv y (cN (w true (Zw F)) (cv (aN rfl rfl rfl rfl rfl) (aN rfl rfl rfl rfl rfl))))) ⟨.inl rfl,_,_,_,_,_,_,rfl,⟨rfl,rfl⟩,rfl,.inr ⟨i,by lia,rfl,by rw[X];exact J,b2.mono Z3,bs⟩⟩
   .refine Wp.en (cN (L true (Zw J)) (cv y (cb (w false (Zv F)) rfl))) ⟨.inl rfl,_,_,_,_,_,_,rfl,⟨rfl,rfl⟩,rfl,?_⟩;rcases g with ⟨_,rfl,rfl,_⟩|⟨k,C,u⟩
    .exact absurd (by rw[S5,SA];exact U3 J J) F
    .exact .inr ⟨k,by lia,u⟩
  .exact Wp.en (cb (L false (Zv J)) rfl) ⟨.inl rfl,_,_,_,_,_,_,rfl,⟨rfl,rfl⟩,V,g.no Q1⟩
 .rintro O ⟨f,a,q,D,x5,z,rfl,⟨h4,h5⟩,V,g⟩;rw[kr,QK] at g;refine⟨rfl,Wp.en (aK rfl rfl) ⟨f,(),rfl,by simp only[Q7,Tp,uT,h4,h5,V,UA],?_⟩⟩;rcases g with ⟨h1,_,_,h2⟩|⟨k,C,u,Q,_⟩
  .exact .inl ⟨h1,h2⟩
  .exact .inr ⟨k,u,C,Q⟩
theorem fU:∀ns:List Int,eu (ns.map A.int)=some ns
 |[]=>rfl
 |n::ns=>by rw[Rv,eu,fU ns]
theorem pJ{u:Int}:∀{xs:List Int},u∈xs->sN xs u=some (xs.idxOf u)
 |a::r,h=>by
  unfold sN;rw[List.idxOf_cons];by_cases e:a=u
  .rw[Zt e,Zy.mpr e];rfl
  .have hr:u∈r:=by
    rcases QL.mp h with z|z
    .exact absurd z.symm e
    .exact z
   rw[Zu e,beq_eq_false_iff_ne.mpr e,pJ hr];rfl
theorem rL(u:Int)(xs:List Int):Iy false (.int u) (xs.map A.int)=some (.fr (.bl (decide (u∈xs)))):=by
 unfold Iy;have h1:(fv (.int u)&&(xs.map A.int).all fv)=true:=by rw[UP];simp[fv]
 rw[Zt h1]
 congr 3
 show F2 (kR (.int u)) ((xs.map A.int).map kR)=_;unfold F2;rw[Rm,Vx];rw[Wu,Wo,decide_eq_true_eq];constructor
 .rintro⟨x,hx,e⟩;rw[Zy.mp e] at hx;exact hx
 .exact λhx=>⟨u,hx,by show (u==u)=true;simp⟩
theorem HM{u:Int}{c:Bool}(h:decide (u∈xs)=c)(Z:List Sl):my (xJ false) (.fr (.int u)) (.fr (lI xs)) Z=some (.ok (.fr (.bl c)),Z):=by exact fu (o:=none) rfl rfl (by rw[<-h];exact rL u xs)
def rl(b:Sx.Bo)(i:Nat)(u:Int):Int:=if u∈b.ac then b.Gq i (b.ac.idxOf u) else if b.Bq i=u then b.s else 0
section
variable{n m N:Nat}{b:Sx.Bo}(h:Bb n m N b)
include h
theorem EO(hi:i<m)(u:Int):Val bX [bA n m b,.int i,.int u] (.int (rl b i u)):=by
 have L:∀c,decide (u∈b.ac)=c->ag (az (xJ false) (ab 2) (aJ (aq ["Board"] "across") (ab 0))) [.fr (bA n m b),.fr (.int i),.fr (.int u)]=some (.ok c,[.fr (bA n m b),.fr (.int i),.fr (.int u)]):=λc hc=>au (ah rfl rfl (HM hc _));unfold rl;by_cases J:u∈b.ac
 .rw[Zt J];have hl:=RU J;rw[h.sh.ac] at hl;have z:uQ (aJ (aq ["Board"] "across") (ab 0)) (ab 2) [.fr (bA n m b),.fr (.int i),.fr (.int u)]=some (.ok (.fr (.int (b.ac.idxOf u))),[.fr (bA n m b),.fr (.int i),.fr (.int u)]):=by
   have e:Ap (lI b.ac) (.int u)=some (.fr (.int (b.ac.idxOf u))):=by unfold Ap;dsimp only;rw[fU];dsimp only;rw[pJ J]
   refine bk rfl ?_;refine W2 (Zt rfl) ?_;show (match Ap (lI b.ac) (.int u) with|some q=>_|none=>_)=_;rw[e]
  exact Val.of (Wp.df (Wp.sr (cN (L true (Zw J)) (aK (ah (h.rowAt Q1 _ rfl) z (bK (.inl rfl) (hU (by rw[h.sh.row Q1];lia)))) rfl)) rfl))
 .rw[Zu J];have w:∀c,decide (b.Bq i=u)=c->ag (az m5 (mix (aJ (aq ["Board"] "down") (ab 0)) (ab 1)) (ab 2)) [.fr (bA n m b),.fr (.int i),.fr (.int u)]=some (.ok c,[.fr (bA n m b),.fr (.int i),.fr (.int u)]):=λc hc=>au (ah (ah rfl rfl (bK (.inl rfl) (hU (by rw[h.sh.dn];exact hi)))) rfl (iB hc _));refine Val.of (Wp.df (Wp.st (cb (L false (Zv J)) rfl) ?_));by_cases F:b.Bq i=u
  .rw[Zt F];exact Wp.en (aK (by rw[K0,w true (Zw F)];rfl) rfl) rfl
  .rw[Zu F];exact Wp.en (aK (by rw[K0,w false (Zv F)];rfl) rfl) rfl
end
theorem ON{P:Sx.Pb}{b:Sx.Bo}(h:Sx.Ok P N b)(hi:i<P.m)(u:Int):rl b i u=Sx.Fb P N b i u:=by
 unfold rl;by_cases c:u∈b.ac
 .rw[Zt c];have hl:=RU c;have e:b.Aq (b.ac.idxOf u)=u:=by simp only[Sx.Bo.Aq,Rg,Q5 hl,S8];exact UD hl
  have:=h.Ip (by rw[<-h.sh.ac];exact hl) i;rw[e] at this;exact this.symm
 .rw[Zu c,h.Lg c i];by_cases e:b.Bq i=u
  .rw[Zt e,Zt ⟨hi,e⟩]
  .rw[Zu e,Zu λz=>e z.2]
theorem nX{G:Mg}{b:Ms}{Q:Fl->List Sl->Prop}:∀{T:Nat}{as:List A}(P:Nat->List Sl->Prop)(hl:T<as.length){Z:List Sl}(h0:P 0 Z)(hs:∀i a Z,i<T->as[i]?=some a->P i Z->∃U,G a Z=some U/\Wp b U λf Z0=>(f=.nx\/f=.ct)/\P (i+1) Z0)
  (ht:∀a Z,as[T]?=some a->P T Z->∃U,G a Z=some U/\Wp b U λf Z0=>X2 λ(s:Sl)(_:Unit)=>f=.rt s/\Q (.rt s) Z0),∃f O,forL G b as Z=some (f,O)/\Q f O
 |_,[],_,hl,_,_,_,_=>absurd hl (SW _)
 |0,a::as,P,hl,Z,h0,hs,ht=>by obtain⟨U,e1,f,Z0,e2,s,_,rfl,q⟩:=ht a Z rfl h0;refine⟨.rt s,Z0,?_,q⟩;unfold forL;rw[e1];dsimp only;rw[e2]
 |T+1,a::as,P,hl,Z,h0,hs,ht=>by obtain⟨U,e1,f,Z0,e2,hf,p⟩:=hs 0 a Z Q1 rfl h0;obtain⟨g,O,N,q⟩:=nX (λi=>P (i+1)) (Nat.lt_of_succ_lt_succ hl) p (λi a Z hi V hp=>hs (i+1) a Z Q1 V hp) ht;refine⟨g,O,?_,q⟩;unfold forL;rw[e1];dsimp only;rw[e2];rcases hf with rfl|rfl<;>exact N
theorem Wp.stop{m:Mi (List A)}{b:Ms}{T:Nat}{as:List A}(P:Nat->List Sl->Prop)(hm:m Z=some (.ok as,U))(hl:T<as.length)(R:P 0 U)(hs:∀i a Z,i<T->as[i]?=some a->P i Z->∃U,G a Z=some U/\Wp b U λf Z0=>(f=.nx\/f=.ct)/\P (i+1) Z0)
  (l:∀a Z,as[T]?=some a->P T Z->∃U,G a Z=some U/\Wp b U λf Z0=>X2 λ(s:Sl)(_:Unit)=>f=.rt s/\Q (.rt s) Z0):Wp (iG m G b) Z Q:=by
 obtain⟨f,O,e,q⟩:=nX P hl R hs l;exact⟨f,O,sk hm e,q⟩
theorem Wp.Pk{m n:Ms}(k:Wp m Z λf U=>X2 λ(s:Sl)(_:Unit)=>f=.rt s/\Q (.rt s) U):Wp (av m n) Z Q:=by obtain⟨f,U,e,s,_,rfl,q⟩:=k;exact⟨.rt s,U,by unfold av;rw[e],q⟩
theorem s9(f:Nat->Int):∀M:Nat,(∀t,t<M->f t=0)\/∃t,t<M/\f t≠0/\∀u,u<t->f u=0
 |0=>.inl λt l=>absurd l (SW t)
 |M+1=>by
  rcases s9 f M with h|⟨t,h1,h2⟩
  .by_cases e:f M=0
   .exact .inl λt l=>by
     by_cases c:t=M
     .rw[c];exact e
     .exact h t Q1
   .exact .inr ⟨M,by lia,e,h⟩
  .exact .inr ⟨t,by lia,h2⟩
variable{ma mb:Mi Rr}
theorem EE(h:ma Z=some (.ok (.fr (.int i)),Z))(k:mb Z=some (.ok (.fr (.int j)),Z))(hi:i<=1000)(N:j<=1000):qu ma mb Z=some (.ok (bP i (j-i)),Z):=by refine bk h (bk k ?_);show (if -(2^60)<=(i:Int)/\(i:Int)<2^60 /\ -(2^60)<=(j:Int)/\(j:Int)<2^60 then some (RF (bP i ((j:Int)-i).toNat),Z) else none)=_;rw[Zt Q1];rw[show ((j:Int)-i).toNat=j-i by lia]
theorem yE(l n:Nat):(bP (l:Int) n).length=n:=by simp[bP]
theorem pS{l n:Nat}{a:A}(h:(bP (l:Int) n)[i]?=some a):i<n/\a=.int ((l+i:Nat):Int):=by
 unfold bP at h;rw[Rc] at h;cases e:(Q4 n)[i]? with
 |none=>rw[e] at h;cases h
 |some x=>rw[e] at h;cases h;obtain⟨hi,e⟩:=QH.mp e;rw[UE] at e;subst e;exact⟨by simpa using hi,rfl⟩
structure Gd(P:Sx.Pb)(N:Nat)(b:Sx.Bo):Prop where
 ok:Sx.Ok P N b
 bb:Bb P.n P.m N b
theorem E7{n m:Nat}{b:Sx.Bo}(h:Bb n m N b)(hi:i<m)(u:Int):L2.Bd 400 (rl b i u):=by
 unfold rl;by_cases c:u∈b.ac
 .rw[Zt c];have hl:=RU c;exact h.gb Q1 (by rw[<-h.sh.ac];lia)
 .rw[Zu c];by_cases e:b.Bq i=u
  .rw[Zt e];exact h.bs
  .rw[Zu e];exact Tg Z3
noncomputable abbrev sG(o:A)(i k c:Nat)(D x5 h:Sl):List Sl:=[.fr o,.fr (.int i),.fr (.int k),.fr (.int c),D,x5,h]
abbrev OO:Ms:=av (aF 4 (az bD (bp bX (fK (bH "Board" "top_of" (ai 0)) (ai 1) (ai 6))) (mix (mix (aJ (aq ["Board"] "grid") (ab 0)) (ab 2)) (ab 3)))) (av (aF 5 (az bD (bp bX (fK (bH "Board" "top_of" (ai 0)) (ai 2) (ai 6))) (mix (mix (aJ (aq ["Board"] "grid") (ab 0)) (ab 1)) (ab 3)))) (eP (ag (az eY (ab 4) (ab 5))) (bB (az iH (ab 4) (ab 5))) ba))
variable{x5:Sl}
section
variable{P:Sx.Pb}{N:Nat}{b:Sx.Bo}(h:Gd P N b){i k c:Nat}(hi:i<P.m)(hk:k<P.m)(hc:c<N)
include h hi hk hc
theorem qj{D:Sl}(h4:np D=true)(h5:np x5=true)(u:Int):Wp OO (sG (bA P.n P.m b) i k c D x5 (.fr (.int u))) λf Z=>Z=sG (bA P.n P.m b) i k c (.fr (.int (rl b i u*b.Gq k c))) (.fr (.int (rl b k u*b.Gq i c))) (.fr (.int u))/\f=if rl b i u*b.Gq k c=rl b k u*b.Gq i c then .nx else .rt (.fr (.bl (decide (rl b i u*b.Gq k c<rl b k u*b.Gq i c)))):=by
 have r:=ft (E7 h.bb hi u) (show 400<=20000 by decide);have F:=ft (E7 h.bb hk u) (show 400<=20000 by decide);have g:=ft (h.bb.gb (i:=i) (l:=c) Q1 Q1) (show 400<=20000 by decide);have V:=ft (h.bb.gb (i:=k) (l:=c) Q1 Q1) (show 400<=20000 by decide);have K:∀x5,aF 4 (az bD (bp bX (fK (bH "Board" "top_of" (ai 0)) (ai 1) (ai 6))) (mix (mix (aJ (aq ["Board"] "grid") (ab 0)) (ab 2)) (ab 3))) (sG (bA P.n P.m b) i k c D x5 (.fr (.int u)))=some (.nx,sG (bA P.n P.m b) i k c (.fr (.int (rl b i u*b.Gq k c))) x5 (.fr (.int u))):=
  λx5=>aN (ah (aB (ae (jC rfl rfl) (ae rfl (ae rfl rfl))) (aQ (EO h.bb hi u) _)) (h.bb.at2 Q1 Q1 _ rfl rfl) (m6 r V _)) rfl rfl h4 rfl
 have I:∀D,aF 5 (az bD (bp bX (fK (bH "Board" "top_of" (ai 0)) (ai 2) (ai 6))) (mix (mix (aJ (aq ["Board"] "grid") (ab 0)) (ab 1)) (ab 3))) (sG (bA P.n P.m b) i k c D x5 (.fr (.int u)))=some (.nx,sG (bA P.n P.m b) i k c D (.fr (.int (rl b k u*b.Gq i c))) (.fr (.int u))):=
  λD=>aN (ah (aB (ae (jC rfl rfl) (ae rfl (ae rfl rfl))) (aQ (EO h.bb hk u) _)) (h.bb.at2 Q1 Q1 _ rfl rfl) (m6 F g _)) rfl rfl h5 rfl
 generalize rl b i u*b.Gq k c=x at *;generalize rl b k u*b.Gq i c=y at *;by_cases e:x=y
 .rw[Zt e];exact Wp.en (cv (K _) (cv (I _) (cb (au (ah rfl rfl (dk (Zw e) _))) rfl))) ⟨rfl,rfl⟩
 .rw[Zu e];exact Wp.en (cv (K _) (cv (I _) (cN (au (ah rfl rfl (dk (Zv e) _))) (aK (ah rfl rfl (fS rfl _)) rfl)))) ⟨rfl,rfl⟩
theorem C8:∃r:Bool,Val fh [bA P.n P.m b,.int i,.int k,.int c] (.bl r)/\(r=true↔Sx.Bw P N b c i k):=by
 have g:=ft (h.bb.gb (i:=i) (l:=c) Q1 Q1) (show 400<=20000 by decide);have u:=ft (h.bb.gb (i:=k) (l:=c) Q1 Q1) (show 400<=20000 by decide);have d:=ft (h.bb.gb (i:=i) (l:=N) Q1 Q1) (show 400<=20000 by decide);have B:=ft (h.bb.gb (i:=k) (l:=N) Q1 Q1) (show 400<=20000 by decide);have F:aF 4 (az bD (mix (mix (aJ (aq ["Board"] "grid") (ab 0)) (ab 1)) (aJ aT (aC 1))) (mix (mix (aJ (aq ["Board"] "grid") (ab 0)) (ab 2)) (ab 3))) (sG (bA P.n P.m b) i k c .un .un .un)=some (.nx,sG (bA P.n P.m b) i k c (.fr (.int (b.Gq i N*b.Gq k c))) .un .un):=
  aN (ah (h.bb.last (j:=1) (i:=i) Q1 _ rfl) (h.bb.at2 (j:=2) (k:=3) (i:=k) (l:=c) Q1 Q1 _ rfl rfl) (m6 d u _)) rfl rfl rfl rfl
 have I:∀D,aF 5 (az bD (mix (mix (aJ (aq ["Board"] "grid") (ab 0)) (ab 2)) (aJ aT (aC 1))) (mix (mix (aJ (aq ["Board"] "grid") (ab 0)) (ab 1)) (ab 3))) (sG (bA P.n P.m b) i k c D .un .un)=some (.nx,sG (bA P.n P.m b) i k c D (.fr (.int (b.Gq k N*b.Gq i c))) .un):=
  λD=>aN (ah (h.bb.last (j:=2) (i:=k) Q1 _ rfl) (h.bb.at2 (j:=1) (k:=3) (i:=i) (l:=c) Q1 Q1 _ rfl rfl) (m6 B g _)) rfl rfl rfl rfl
 have hr:∀j,Sx.Rr P N b j 0=b.Gq j N:=λj=>Zt rfl;have L:∀j t,j<P.m->rl b j ((P.n+t:Nat):Int)=Sx.Rr P N b j (t+1):=λj t x=>by rw[ON h.ok x];exact(Zu (U1 t)).symm
 have y:∀D x5,qu (aJ (aq ["Board"] "long") (ab 0)) (az a9 (aJ (aq ["Board"] "long") (ab 0)) (aJ (aq ["Board"] "many") (ab 0))) (sG (bA P.n P.m b) i k c D x5 .un)=some (.ok (bP P.n P.m),sG (bA P.n P.m b) i k c D x5 .un):=λD x5=>by have hn:=h.bb.hn;have hm:=h.bb.hm;have:=EE (Z:=sG (bA P.n P.m b) i k c D x5 .un) (i:=P.n) (j:=P.n+P.m) (ma:=aJ (aq ["Board"] "long") (ab 0)) (mb:=az a9 (aJ (aq ["Board"] "long") (ab 0)) (aJ (aq ["Board"] "many") (ab 0))) rfl rfl Q1 Q1;rw[show P.n+P.m-P.n=P.m by lia] at this;exact this
 rcases s9 (λt=>b.Gq i c*Sx.Rr P N b k t-b.Gq k c*Sx.Rr P N b i t) (P.m+1) with z|⟨t,X,Q,K⟩
 .have z0:=z 0 Q1;simp only[hr] at z0;refine⟨false,Val.of (Wp.df (Wp.st F (Wp.st (I _) (Wp.st (cb (au (ah rfl rfl (dk (b:=true) (Zw (by grind)) _))) rfl) (Wp.sq (Wp.fr (b:=OO) (λj Z=>X3 λ(D x5 v:Sl)=>N3 (Z=sG (bA P.n P.m b) i k c D x5 v) (np D=true/\np x5=true) (np v=true)) (y _ _) ⟨_,_,_,rfl,⟨rfl,rfl⟩,rfl⟩ ?_ ?_)))))),by simp;exact λw=>Sx.M6 z w⟩
  .rintro j a Z V ⟨D,x5,v,rfl,⟨h4,h5⟩,o⟩;obtain⟨x,rfl⟩:=pS V;refine⟨_,kE (S:=[.fr (bA P.n P.m b),.fr (.int i),.fr (.int k),.fr (.int c),D,x5]) (tl:=[]) rfl o,Wp.mono (qj h hi hk hc h4 h5 _) ?_⟩;rintro f Z ⟨rfl,hf⟩;have:=z (j+1) Q1;rw[Zt (by rw[L i j hi,L k j hk];grind)] at hf;exact⟨.inl hf,_,_,_,rfl,⟨rfl,rfl⟩,rfl⟩
  .rintro O ⟨D,x5,v,rfl,_,_⟩;exact⟨rfl,Wp.en (aK rfl rfl) rfl⟩
 .have key:=Sx.Lc (M:=P.m+1) (f:=λt=>b.Gq i c*Sx.Rr P N b k t-b.Gq k c*Sx.Rr P N b i t) X K Q;refine⟨decide (Sx.Rr P N b i t*b.Gq k c<Sx.Rr P N b k t*b.Gq i c),Val.of (Wp.df (Wp.st F (Wp.st (I _) ?_))),?_⟩
  .cases t with
   |zero=>simp only[hr] at Q;refine Wp.sr (cN (au (ah rfl rfl (dk (b:=false) (Zv (by grind)) _))) (aK (ah rfl rfl (fS rfl _)) rfl)) ?_;rw[hr,hr]
   |succ t=>
    have z0:=K 0 Q1;simp only[hr] at z0;refine Wp.st (cb (au (ah rfl rfl (dk (b:=true) (Zw (by grind)) _))) rfl) (Wp.Pk (Wp.stop (b:=OO) (T:=t) (λj Z=>X3 λ(D x5 v:Sl)=>N3 (Z=sG (bA P.n P.m b) i k c D x5 v) (np D=true/\np x5=true) (np v=true)) (y _ _) (by rw[yE];lia) ⟨_,_,_,rfl,⟨rfl,rfl⟩,rfl⟩ ?_ ?_))
    .rintro j a Z x V ⟨D,x5,v,rfl,⟨h4,h5⟩,o⟩;obtain⟨_,rfl⟩:=pS V;refine⟨_,kE (S:=[.fr (bA P.n P.m b),.fr (.int i),.fr (.int k),.fr (.int c),D,x5]) (tl:=[]) rfl o,Wp.mono (qj h hi hk hc h4 h5 _) ?_⟩;rintro f Z ⟨rfl,hf⟩;have:=K (j+1) Q1;rw[Zt (by rw[L i j hi,L k j hk];grind)] at hf;exact⟨.inl hf,_,_,_,rfl,⟨rfl,rfl⟩,rfl⟩
    .rintro a Z V ⟨D,x5,v,rfl,⟨h4,h5⟩,o⟩;obtain⟨_,rfl⟩:=pS V;refine⟨_,kE (S:=[.fr (bA P.n P.m b),.fr (.int i),.fr (.int k),.fr (.int c),D,x5]) (tl:=[]) rfl o,Wp.mono (qj h hi hk hc h4 h5 _) ?_⟩;rintro f Z ⟨rfl,hf⟩;rw[Zu (by rw[L i t hi,L k t hk];grind),L i t hi,L k t hk] at hf;exact⟨_,(),hf,_,(),rfl,rfl⟩
  .rw[decide_eq_true_eq];refine Iff.trans ?_ key.symm;constructor
   .intro z;show 0<b.Gq i c*Sx.Rr P N b k t-b.Gq k c*Sx.Rr P N b i t;grind
   .intro z;have z:0<b.Gq i c*Sx.Rr P N b k t-b.Gq k c*Sx.Rr P N b i t:=z;grind
end
noncomputable def oA:Option Nat->A
 |none=>.non
 |some a=>.int a
noncomputable abbrev Nr(o:A)(c:Nat)(f:A)(h:Sl):List Sl:=[.fr o,.fr (.int c),.fr f,h]
theorem wu{P:Sx.Pb}{b:Sx.Bo}(h:Gd P N b)(hc:c<N):∃f:Option Nat,fI aZ [bA P.n P.m b,.int c] (oA f)/\Sx.o9 P N b c P.m f:=by
 have hm:=h.bb.hm
 suffices ∃a,fI aZ [bA P.n P.m b,.int c] a/\∃f:Option Nat,a=oA f/\Sx.o9 P N b c P.m f by obtain⟨a,v,f,rfl,z⟩:=this;exact⟨f,v,z⟩
 refine fI.PK (Wp.df (Wp.st rfl (Wp.sq (Wp.fr (λk Z=>X2 λ(f:Option Nat)(o:Sl)=>N3 (Z=Nr (bA P.n P.m b) c (oA f) o) (np o=true) (Sx.o9 P N b c k f)) (pU rfl Q1) ⟨none,.un,rfl,rfl,Sx.o9.zero⟩ ?_ ?_))))
 .rintro k a Z V ⟨f,o,rfl,h3,g⟩;obtain⟨hk,rfl⟩:=BV V;refine⟨_,kE (S:=[.fr (bA P.n P.m b),.fr (.int c),.fr (oA f)]) rfl h3,?_⟩;have L:∀t,decide (0<b.Gq k c)=t->ag (az jV (mix (mix (aJ (aq ["Board"] "grid") (ab 0)) (ab 3)) (ab 1)) (aC 0)) (Nr (bA P.n P.m b) c (oA f) (.fr (.int k)))=some (.ok t,Nr (bA P.n P.m b) c (oA f) (.fr (.int k))):=λt l=>au (ah (h.bb.at2 Q1 Q1 _ rfl rfl) rfl (iU l _));by_cases J:0<b.Gq k c
  .cases f with
   |none=>exact Wp.en (cN (cL (L true (Zw J)) (ye rfl)) (aN rfl rfl rfl rfl rfl)) ⟨.inl rfl,some k,_,rfl,rfl,g.one J⟩
   |some a=>
    have V:=g.1;obtain⟨r,v,e⟩:=C8 h (k:=a) hk Q1 hc;have w:eW (ag (az jV (mix (mix (aJ (aq ["Board"] "grid") (ab 0)) (ab 3)) (ab 1)) (aC 0))) (iT (ag (az (jk false) (ab 2) (mC .non))) (ag (bp fh (J5 (ai 0) (ai 3) (ai 2) (ai 1))))) (Nr (bA P.n P.m b) c (oA (some a)) (.fr (.int k)))=some (.ok r,Nr (bA P.n P.m b) c (oA (some a)) (.fr (.int k))):=cL (L true (Zw J)) (cU rfl (au (aB rfl (aQ v _))));cases r with
    |true=>exact Wp.en (cN w (aN rfl rfl rfl rfl rfl)) ⟨.inl rfl,some k,_,rfl,rfl,g.put J (e.mp rfl)⟩
    |false=>exact Wp.en (cb w rfl) ⟨.inl rfl,some a,_,rfl,rfl,g.keep λz=>nomatch e.mpr z⟩
  .exact Wp.en (cb (iw (L false (Zv J))) rfl) ⟨.inl rfl,f,_,rfl,rfl,g.no Q1⟩
 .rintro O ⟨f,o,rfl,h3,g⟩;rw[ly] at g;exact⟨rfl,Wp.en (aK rfl rfl) ⟨oA f,(),rfl,by simp only[Q7,Tp,uT,h3,UA],f,rfl,g⟩⟩
abbrev sF(L:Nat)(s:Int)(g t:Nat->Int)(i:Nat):List A:=(Q4 L).map λ(j:Nat)=>nm (cA (Sx.su i λH=>if g H=(j:Int) then t H else 0) s)
theorem vH{n u:Nat}{f:Nat->α}{v:α}:((Q4 n).map f).set u v=(Q4 n).map λj=>if j=u then v else f j:=by
 refine Wr Z5 λi h1 h2=>?_;rw[List.getElem_set];simp only[Ws,UE];by_cases e:i=u
 .rw[Zt e.symm,Zt e]
 .rw[Zu (RH e),Zu e]
theorem M8{L:Nat}{g t:Nat->Int}(hs:s≠0):sF L s g t 0=(Q4 L).map λ_=>nm (0,1):=by refine RD λj _=>?_;rw[show Sx.su 0 _=0 from rfl,zc hs]
theorem Ad{L:Nat}{g t:Nat->Int}(hd:∀H,H<i->g H≠g i)(R:0<=g i):(sF L s g t i).set (g i).toNat (nm (cA (t i) s))=sF L s g t (i+1):=by
 rw[vH];refine RD λj _=>?_;show _=nm (cA (Sx.su i _+if g i=(j:Int) then t i else 0) s);by_cases e:j=(g i).toNat
 .rw[Zt e,Zt Q1,Sx.iK λH hi=>Zu λz=>hd H hi Q1,Uk]
 .rw[Zu e,Zu Q1,RX]
theorem uY{L:Nat}{g t:Nat->Int}(h:g i<0\/(L:Int)<=g i):sF L s g t i=sF L s g t (i+1):=by refine RD λj N=>?_;show _=nm (cA (Sx.su i _+if g i=(j:Int) then t i else 0) s);have:=Rz.mp N;rw[Zu Q1,RX]
theorem ud{xs:List A}{k:Int}{a:A}(hl:aE Z i=some (.lst xs))(R:0<=k)(h1:k<xs.length):PJ i (.fr a) (.fr (.int k)) Z=some (.nx,setAt Z i (.lst (xs.set k.toNat a))):=by
 show (match some (A.int k),aE Z i with|some (.int k),some (.lst xs)=>(match L2.gz xs.length k with|some j=>some (Fl.nx,setAt Z i (.lst (xs.set j a)))|none=>none)|_,_=>none)=_;rw[hl];dsimp only;have e:L2.gz xs.length k=some k.toNat:=by unfold L2.gz;rw[Zt R,Zt h1]
 rw[e]
abbrev EW(o:A)(ts:List Int)(xs:List A)(h D:Sl):List Sl:=[.fr o,.fr (lI ts),.lv (.lst xs),h,D]
theorem vN{ys:List Int}{a:A}(h:(iI (xs.map A.int) (ys.map A.int))[i]?=some a):i<xs.length/\i<ys.length/\a=.tup [.int (xs.getD i 0),.int (ys.getD i 0)]:=by
 rw[fm,Rc] at h;cases e:(xs.zip ys)[i]? with
 |none=>rw[e] at h;cases h
 |some p=>rw[e] at h;cases h;rw[RZ] at e;obtain⟨e1,e2⟩:=e;exact⟨(QH.mp e1).1,(QH.mp e2).1,by simp[Rg,e1,e2]⟩
theorem vI{L:Nat}{m:Mi Rr}(hm:m S=some (.ok (.fr (.int L)),S))(hl:L<=100)(i:Nat)(hi:S.length=i):aU 1 (gC m) (aW i) aV (mC (.tup [.int 0,.int 1])) S=some (.ok (.nw (.lst ((Q4 L).map λ_=>nm (0,1)))),S):=by refine bJ (pU hm Q1) ?_;exact bG (k:=λ(j:Nat)=>A.int (0+(j:Int))) (λ_=>nm (0,1)) hi (by simp;lia) λj _=>⟨_,rfl,rfl⟩
variable{ts:List Int}
section
variable{n m N:Nat}{b:Sx.Bo}(h:Bb n m N b)
include h
theorem qx(l:m<=ts.length)(v:∀i,i<m->0<=b.Bq i)(hd:∀i H,i<m->H<i->b.Bq H≠b.Bq i):fI cx [bA n m b,lI ts] (nS n b.s λj=>Sx.su m λi=>if b.Bq i=(j:Int) then ts.getD i 0 else 0):=by
 have ne:b.s≠0:=by have:=h.pos;lia
 have hn:=h.hn;refine fI.of (Wp.df (Wp.st (U:=EW (bA n m b) ts (sF n b.s b.Bq (λi=>ts.getD i 0) 0) .un .un) (aN (vI rfl Q1 5 rfl) rfl rfl rfl (by rw[M8 ne];rfl)) (Wp.sq (Wp.fr (λi Z=>X2 λ(o D:Sl)=>N3 (Z=EW (bA n m b) ts (sF n b.s b.Bq (λi=>ts.getD i 0) i) o D) (np o=true) (np D=true)) rfl ⟨_,_,rfl,rfl,rfl⟩ ?_ ?_))))
 .rintro i a Z f ⟨o,D,rfl,h3,h4⟩;obtain⟨z,I,rfl⟩:=vN f;rw[h.sh.dn] at z;refine⟨_,lQ (S:=[.fr (bA n m b),.fr (lI ts),.lv (.lst (sF n b.s b.Bq (λi=>ts.getD i 0) i))]) rfl h3 h4,?_⟩;have C:=v i z;have L:∀t,decide (b.Bq i<(n:Int))=t->ag (az iH (ab 3) (aJ (aq ["Board"] "long") (ab 0))) (EW (bA n m b) ts (sF n b.s b.Bq (λi=>ts.getD i 0) i) (.fr (.int (b.Bq i))) (.fr (.int (ts.getD i 0))))=some (.ok t,EW (bA n m b) ts (sF n b.s b.Bq (λi=>ts.getD i 0) i) (.fr (.int (b.Bq i))) (.fr (.int (ts.getD i 0)))):=λt l=>au (ah rfl rfl (fS l _));by_cases c:b.Bq i<(n:Int)
  .refine Wp.en (cN (L true (Zw c)) (nI (aB (ae rfl (ae rfl rfl)) (aQ (AI ne (h.bs.mono Z3)) _)) rfl rfl (ud rfl C (by simpa using c)))) ⟨.inl rfl,.fr (.int (b.Bq i)),.fr (.int (ts.getD i 0)),?_,rfl,rfl⟩;rw[Ad (hd i · z) C];rfl
  .refine Wp.en (cb (L false (Zv c)) rfl) ⟨.inl rfl,.fr (.int (b.Bq i)),.fr (.int (ts.getD i 0)),?_,rfl,rfl⟩;rw[uY (.inr Q1)]
 .rintro O ⟨o,D,rfl,h3,h4⟩;rw[show (iI (b.dn.map A.int) (ts.map A.int)).length=m by rw[fm,QK,Sv,h.sh.dn];lia];exact⟨rfl,Wp.en (aK rfl rfl) ⟨rfl,by simp only[Q7,Tp,uT,Ge,h3,h4,UA]⟩⟩
theorem yG(L:N<=ts.length)(hd:∀i H,i<N->H<i->b.Aq H≠b.Aq i)(hA:∀i,i<N->b.Aq i<(n+m:Nat)):fI aR [bA n m b,lI ts] (nS m b.s λk=>Sx.su N λl=>if b.Aq l=((n+k:Nat):Int) then ts.getD l 0 else 0):=by
 have ne:b.s≠0:=by have:=h.pos;lia
 have hm:=h.hm;have conv:∀i,sF m b.s (λl=>b.Aq l-n) (λi=>ts.getD i 0) i=(Q4 m).map λk=>nm (cA (Sx.su i λl=>if b.Aq l=((n+k:Nat):Int) then ts.getD l 0 else 0) b.s):=λi=>by
  refine RD λk _=>?_
  congr 2
  refine Sx.bC λl _=>?_;by_cases e:b.Aq l=((n+k:Nat):Int)
  .rw[Zt e,Zt (show b.Aq l-n=(k:Int) by lia)]
  .rw[Zu e,Zu (show ¬ b.Aq l-n=(k:Int) by lia)]
 unfold nS;rw[<-conv];refine fI.of (Wp.df (Wp.st (U:=EW (bA n m b) ts (sF m b.s (λl=>b.Aq l-n) (λi=>ts.getD i 0) 0) .un .un) (aN (vI rfl Q1 5 rfl) rfl rfl rfl (by rw[M8 ne];rfl)) (Wp.sq (Wp.fr (λi Z=>X2 λ(o D:Sl)=>N3 (Z=EW (bA n m b) ts (sF m b.s (λl=>b.Aq l-n) (λi=>ts.getD i 0) i) o D) (np o=true) (np D=true)) rfl ⟨_,_,rfl,rfl,rfl⟩ ?_ ?_))))
 .rintro i a Z f ⟨o,D,rfl,h3,h4⟩;obtain⟨z,I,rfl⟩:=vN f;rw[h.sh.ac] at z;refine⟨_,lQ (S:=[.fr (bA n m b),.fr (lI ts),.lv (.lst (sF m b.s (λl=>b.Aq l-n) (λi=>ts.getD i 0) i))]) (tl:=[]) rfl h3 h4,?_⟩;have b1:=hA i z;have X:∀t,decide ((n:Int)<=b.Aq i)=t->ag (az F8 (ab 3) (aJ (aq ["Board"] "long") (ab 0))) (EW (bA n m b) ts (sF m b.s (λl=>b.Aq l-n) (λi=>ts.getD i 0) i) (.fr (.int (b.Aq i))) (.fr (.int (ts.getD i 0))))=some (.ok t,EW (bA n m b) ts (sF m b.s (λl=>b.Aq l-n) (λi=>ts.getD i 0) i) (.fr (.int (b.Aq i))) (.fr (.int (ts.getD i 0)))):=λt L=>au (ah rfl rfl (by rw[<-L];rfl));by_cases c:(n:Int)<=b.Aq i
  .refine Wp.en (cN (X true (Zw c)) (nI (aB (ae rfl (ae rfl rfl)) (aQ (AI (t:=ts.getD i 0) ne (h.bs.mono Z3)) _)) rfl (ah rfl rfl rfl) (ud (k:=b.Aq i-n) rfl Q1 (by simp;lia)))) ⟨.inl rfl,.fr (.int (b.Aq i)),.fr (.int (ts.getD i 0)),?_,rfl,rfl⟩;rw[<-Ad (g:=λl=>b.Aq l-n) (t:=λi=>ts.getD i 0) (i:=i) (λH p=>by have:=hd i H z p;show b.Aq H-n≠b.Aq i-n;lia) (by show 0<=b.Aq i-n;lia)];rfl
  .refine Wp.en (cb (X false (Zv c)) rfl) ⟨.inl rfl,.fr (.int (b.Aq i)),.fr (.int (ts.getD i 0)),?_,rfl,rfl⟩;rw[<-uY (g:=λl=>b.Aq l-n) (.inl (by show b.Aq i-n<0;lia))]
 .rintro O ⟨o,D,rfl,h3,h4⟩;rw[show (iI (b.ac.map A.int) (ts.map A.int)).length=N by rw[fm,QK,Sv,h.sh.ac];lia];exact⟨rfl,Wp.en (aK rfl rfl) ⟨rfl,by simp only[Q7,Tp,uT,Ge,h3,h4,UA]⟩⟩
end
section
variable{P:Sx.Pb}{N:Nat}{b:Sx.Bo}
theorem Gd.Po(h:Gd P N b)(i H:Nat)(hi:i<P.m)(x:H<i):b.Bq H≠b.Bq i:=λe=>by have:=Sx.getD_inj (QQ.mp h.ok.nd).2.1 (by rw[h.ok.sh.dn];lia) (by rw[h.ok.sh.dn];lia) e;lia
theorem Gd.Qj(h:Gd P N b)(i H:Nat)(hi:i<N)(x:H<i):b.Aq H≠b.Aq i:=λe=>by have:=h.ok.Ai (show H<N by lia) hi e;lia
theorem Gd.B0(h:Gd P P.n b)(i:Nat)(hi:i<P.m):0<=b.Bq i:=by have:=(h.ok.nm _).mp (QG b.ac (h.ok.Bm hi));rw[Zt rfl] at this;exact this.1
theorem Gd.Alt(h:Gd P N b)(i:Nat)(hi:i<N):b.Aq i<(P.n+P.m:Nat):=(h.ok.xO (QI b.dn (h.ok.Am hi))).2
theorem Bb.KJ{n m:Nat}(h:Bb n m N b){f:List Int->Int}(hi:i<m):(b.g.map f).getD i 0=f (b.g.getD i []):=Sx.getD_map (by rw[h.sh.g];lia)
theorem Er(h:Gd P P.n b):fI bq [bA P.n P.m b] (nS P.n b.s λj=>Sx.vl P b P.n j):=by
 have hm:=h.bb.hm;have J:=h.bb.sh.g;have I:=bG (e:=mix (ab 1) (aJ aT (aC 1))) (k:=lI) (S:=[.fr (bA P.n P.m b)]) (λr=>.int (r.getD P.n 0)) rfl Q1 λr hr=>⟨_,ah rfl rfl (bK (.inl rfl) (lz (h.bb.sh.r r hr))),rfl⟩
 have B:nA (aU 1 (cQ (aJ (aq ["Board"] "grid") (ab 0))) (aW 1) aV (mix (ab 1) (aJ aT (aC 1)))) [.fr (bA P.n P.m b)]=some (.ok (.fr (lI (b.g.map λ(r:List Int)=>r.getD P.n 0))),[.fr (bA P.n P.m b)]):=by refine n0 (bJ rfl I) ?_;unfold lI;rw[Rm];rfl
 have k:=(qx h.bb (ts:=b.g.map λr=>r.getD P.n 0) (by rw[QK];lia) h.B0 h.Po).v;have eq:nS P.n b.s (λj=>Sx.su P.m λi=>if b.Bq i=(j:Int) then (b.g.map λr=>r.getD P.n 0).getD i 0 else 0)=nS P.n b.s λj=>Sx.vl P b P.n j:=by
  unfold nS
  congr 1
  refine RD λj _=>?_
  congr 2
  unfold Sx.vl;dsimp only;rw[Zu (λz=>absurd z.1 (Q6 _)),RX];refine Sx.bC λi hi=>?_;rw[h.bb.KJ hi,show Sx.qs P.n P.n=1 from Zu (Q6 _),RY];rfl
 rw[eq] at k;exact fI.of (Wp.df (Wp.en (aK (aB (ae (jC rfl rfl) (ae B rfl)) (aQ k _)) rfl) ⟨rfl,rfl⟩))
theorem Jk(h:s≠0):cA s s=(1,1):=by have:=wQ (q:=(1,1)) ⟨by decide,by decide⟩ h;simpa using this
theorem K5(h:Gd P P.n b)(hc:c<P.n):fI cV [bA P.n P.m b,.int c] (nS P.n b.s λj=>Sx.vl P b c j):=by
 have ne:b.s≠0:=by have:=h.bb.pos;lia
 have hm:=h.bb.hm;have Y:=h.bb.sh.g;have I:=bG (e:=aJ aT (mix (ab 3) (ab 1))) (ts:=b.g) (k:=lI) (S:=[.fr (bA P.n P.m b),.fr (.int c),.un]) (λr=>.int (-(r.getD c 0))) rfl Q1 λr hr=>⟨.fr (.int (-(r.getD c 0))),fG (ah rfl rfl (bK (.inl rfl) (hU (by rw[h.bb.sh.r r hr];lia)))) rfl,rfl⟩
 have B:nA (aU 1 (cQ (aJ (aq ["Board"] "grid") (ab 0))) (aW 3) aV (aJ aT (mix (ab 3) (ab 1)))) [.fr (bA P.n P.m b),.fr (.int c),.un]=some (.ok (.fr (lI (b.g.map λ(r:List Int)=>-(r.getD c 0)))),[.fr (bA P.n P.m b),.fr (.int c),.un]):=by refine n0 (bJ rfl I) ?_;unfold lI;rw[Rm];rfl
 have k:=(qx h.bb (ts:=b.g.map λr=>-(r.getD c 0)) (by rw[QK];lia) h.B0 h.Po).v;have eq:∀j:Nat,(Sx.su P.m λi=>if b.Bq i=(j:Int) then (b.g.map λr=>-(r.getD c 0)).getD i 0 else 0)=Sx.su P.m λi=>if b.Bq i=(j:Int) then Sx.qs P.n c*b.Gq i c else 0:=λj=>Sx.bC λi hi=>by rw[h.bb.KJ hi,show Sx.qs P.n c = -1 from Zt hc,R8];rfl
 simp only[eq] at k;have s2:aF 2 (cP gE (bp cx (cB (bH "Board" "spread_down" (ab 0)) (nA (aU 1 (cQ (aJ (aq ["Board"] "grid") (ab 0))) (aW 3) aV (aJ aT (mix (ab 3) (ab 1)))))))) [.fr (bA P.n P.m b),.fr (.int c),.un]=some (.nx,[.fr (bA P.n P.m b),.fr (.int c),.lv (.lst ((Q4 P.n).map λ(j:Nat)=>nm (cA (Sx.su P.m λi=>if b.Bq i=(j:Int) then Sx.qs P.n c*b.Gq i c else 0) b.s)))]):=
  aN (fG (aB (ae (jC rfl rfl) (ae B rfl)) (aQ k _)) (qi (r:=.nw (.lst _)) rfl rfl)) rfl rfl rfl rfl
 have q:∀x,mix (aJ (aq ["Board"] "across") (ab 0)) (ab 1) [.fr (bA P.n P.m b),.fr (.int c),x]=some (.ok (.fr (.int (b.Aq c))),[.fr (bA P.n P.m b),.fr (.int c),x]):=λx=>ah rfl rfl (bK (.inl rfl) (hU (by rw[h.bb.sh.ac];exact hc)));have hA:=(h.ok.nm _).mp (QI b.dn (h.ok.Am hc));rw[Zt rfl] at hA;refine fI.of (Wp.df (Wp.st s2 ?_));have L:∀t x,decide (b.Aq c<(P.n:Int))=t->ag (az iH (mix (aJ (aq ["Board"] "across") (ab 0)) (ab 1)) (aJ (aq ["Board"] "long") (ab 0))) [.fr (bA P.n P.m b),.fr (.int c),x]=some (.ok t,[.fr (bA P.n P.m b),.fr (.int c),x]):=λt x l=>au (ah (q x) rfl (fS l _));by_cases J:b.Aq c<(P.n:Int)
 .refine Wp.st (cN (L true _ (Zw J)) (nI rfl rfl (q _) (ud (a:=nm (1,1)) (k:=b.Aq c) rfl hA.1 (by simpa using J)))) (Wp.en (aK rfl rfl) ⟨?_,rfl⟩);rw[vH]
  congr 3
  refine RD λj _=>?_;unfold Sx.vl;dsimp only;by_cases e:j=(b.Aq c).toNat
  .rw[Zt e,Zt ⟨hc,by lia⟩,Sx.iK λi hi=>Zu λz=>h.ok.AB hc hi Q1,Uk,Jk ne]
  .rw[Zu e,Zu λz=>by lia,RX]
 .refine Wp.st (cb (L false _ (Zv J)) rfl) (Wp.en (aK rfl rfl) ⟨?_,rfl⟩);show Fl.rt (.fr (.tup _))=_
  congr 3
  refine RD λj N=>?_;have:=Rz.mp N;unfold Sx.vl;dsimp only;rw[Zu λz=>by lia,RX]
theorem K6(h:Gd P N b)(L:N<=ts.length):fI aR [bA P.n P.m b,lI ts] (nS P.m b.s λk=>Sx.su N λl=>if b.Aq l=((P.n+k:Nat):Int) then ts.getD l 0 else 0):=yG h.bb L h.Qj h.Alt
end
noncomputable abbrev oB(n m:Nat)(s:Int)(g:A)(ac dn:List Int):LO:=.nob "Board" [("long",.int n),("many",.int m),("scale",.int s),("grid",g)] [("across",ac.map A.int),("down",dn.map A.int)]
theorem vb(n m:Nat)(b:Sx.Bo):bO n m b=oB n m b.s (gI b.g) b.ac b.dn:=rfl
theorem jU{n:Nat}(h:j<n):L2.gz n (j:Int)=some j:=by unfold L2.gz;rw[Zt Q1,Zt Q1];simp
abbrev gG(n m:Nat)(s:Int)(g:A)(ac dn:List Int)(a c:Nat)(o D x5:Sl):List Sl:=[.pv (oB n m s g ac dn),.fr (.int a),.fr (.int c),o,D,x5]
section
variable{n m N:Nat}{s:Int}{g:A}{ac dn:List Int}{a c:Nat}{x3 D x5:Sl}
theorem rB{s':Int}(he:e (gG n m s g ac dn a c x3 D x5)=some (.ok (.fr (.int s')),gG n m s g ac dn a c x3 D x5)):dH ["Board"] 0 "scale" e (gG n m s g ac dn a c x3 D x5)=some (.nx,gG n m s' g ac dn a c x3 D x5):=sk he rfl
theorem vt{g':A}{h:Sl}{r:Rr}(he:e (gG n m s g ac dn a c x3 D x5)=some (.ok r,gG n m s g ac dn a c x3 D x5))(hf:bR r (gG n m s g ac dn a c x3 D x5)=some (g',gG n m s g ac dn a c x3 h x5)):dH ["Board"] 0 "grid" e (gG n m s g ac dn a c x3 D x5)=some (.nx,gG n m s g' ac dn a c x3 h x5):=sk he (by rw[hf];rfl)
theorem Oy(hc:c<ac.length)(h5:np x5=true):aF 5 (qe ["Board"] 0 "across" (xR 2)) (gG n m s g ac dn a c x3 D x5)=some (.nx,gG n m s g ac dn a c x3 D (.fr (.int (ac.getD c 0)))):=by refine aN (r:=.fr (.int (ac.getD c 0))) (U:=gG n m s g ac dn a c x3 D x5) ?_ rfl rfl h5 rfl;show (match iy (ac.map A.int) (c:Int) with|some a=>some (RF (Rr.fr a),_)|none=>none)=_;rw[hU hc]
theorem Lx(f:a<dn.length)(hc:c<ac.length):fA ["Board"] 0 "across" 2 (qe ["Board"] 0 "down" (xR 1)) (gG n m s g ac dn a c x3 D x5)=some (.nx,gG n m s g (ac.set c (dn.getD a 0)) dn a c x3 D x5):=by
 refine sk (x:=.fr (.int (dn.getD a 0))) (U:=gG n m s g ac dn a c x3 D x5) ?_ ?_
 .show (match iy (dn.map A.int) (a:Int) with|some a=>some (RF (Rr.fr a),_)|none=>none)=_;rw[hU f]
 .show (match L2.gz (ac.map A.int).length (c:Int) with|some n=>some (Fl.nx,gi _ 0 "across" ((ac.map A.int).set n _))|none=>none)=_;rw[jU (by simpa using hc)];show some (Fl.nx,[Sl.pv (LO.nob "Board" _ [("across",(ac.map A.int).set c (.int (dn.getD a 0))),("down",dn.map A.int)]),_,_,_,_,_])=_;rw[<-Ub]
theorem KN{v:Int}(f:a<dn.length):fA ["Board"] 0 "down" 1 (ab 5) (gG n m s g ac dn a c x3 D (.fr (.int v)))=some (.nx,gG n m s g ac (dn.set a v) a c x3 D (.fr (.int v))):=by show (match L2.gz (dn.map A.int).length (a:Int) with|some n=>some (Fl.nx,gi _ 0 "down" ((dn.map A.int).set n _))|none=>none)=_;rw[jU (by simpa using f)];show some (Fl.nx,[Sl.pv (LO.nob "Board" _ [("across",ac.map A.int),("down",(dn.map A.int).set a (.int v))]),_,_,_,_,_])=_;rw[<-Ub]
theorem Kn{xs:List A}(f:a<xs.length)(hc:c<pr.length):u9 ["Board"] 4 1 2 0 "scale" (cP gE (ab 3)) (gG n m s g ac dn a c (.fr (lI pr)) (.lv (.lst xs)) x5)=some (.nx,gG n m s g ac dn a c (.fr (lI pr)) (.lv (.lst (xs.set a (lI (pr.set c s))))) x5):=by show (match L2.gz xs.length (a:Int),L2.gz (pr.map A.int).length (c:Int) with|some n,some q=>some (Fl.nx,setAt _ 4 (.lst (xs.set n (.lst ((pr.map A.int).set q (.int s))))))|_,_=>none)=_;rw[jU f,jU (by simpa using hc)];show some (Fl.nx,[_,_,_,_,Sl.lv (.lst (xs.set a (.lst ((pr.map A.int).set c (.int s))))),_])=_;rw[<-Ub]
end
theorem D7{b:Sx.Bo}{a:Nat}:(b.g.map λrow=>lI (Sx.kh row (b.g.getD a []) c b.s)).set a (lI ((b.g.getD a []).set c b.s))=(b.raw a c).map lI:=by unfold Sx.Bo.raw;rw[Ub,Rm];rfl
theorem tV{n m:Nat}{b:Sx.Bo}(h:Bb n m N b){a:Nat}(V:a<m)(hc:c<N):cX aG (bO n m b) [.int a,.int c] (.fr .non) (bO n m (b.turn a c)):=by
 have hm:=h.hm;have hN:=h.hN;have J:=h.sh.g;have hr:=h.sh.row (show a<=m by lia);have ne:b.s≠0:=by have:=h.pos;lia
 have Y:aF 3 (mix (aM (aL ["Board"] 0 "grid") (aJ (aq ["Board"] "grid") (ab 0))) (ab 1)) (gG n m b.s (gI b.g) b.ac b.dn a c .un .un .un)=some (.nx,gG n m b.s (gI b.g) b.ac b.dn a c (.fr (lI (b.g.getD a []))) .un .un):=aN (ah (bI rfl) rfl (bK (.inl rfl) (BC Q1))) rfl rfl rfl rfl;have mem:b.g.getD a []∈b.g:=Sx.getD_mem Q1;have j:=bG (e:=bp eQ (J5 (ai 6) (ai 3) (ai 2) (aM (aL ["Board"] 0 "scale") (aJ (aq ["Board"] "scale") (ab 0))))) (ts:=b.g) (k:=lI) (S:=gG n m b.s (gI b.g) b.ac b.dn a c (.fr (lI (b.g.getD a []))) .un .un) (λrow=>lI (Sx.kh row (b.g.getD a []) c b.s)) rfl Q1 λrow bZ=>⟨.nw (.lst ((Sx.kh row (b.g.getD a []) c b.s).map A.int)),aB (ae rfl (ae rfl (ae rfl (ae (bI rfl) rfl)))) (jz (Gy (N:=N) (h.sh.r row bZ) hr Q1 Q1 ne h.bs (h.bg row bZ) (h.bg _ mem)) _),rfl⟩
 have q:aF 4 (aU 1 (cQ (aM (aL ["Board"] 0 "grid") (aJ (aq ["Board"] "grid") (ab 0)))) (aW 6) aV (bp eQ (J5 (ai 6) (ai 3) (ai 2) (aM (aL ["Board"] 0 "scale") (aJ (aq ["Board"] "scale") (ab 0)))))) (gG n m b.s (gI b.g) b.ac b.dn a c (.fr (lI (b.g.getD a []))) .un .un)=some (.nx,gG n m b.s (gI b.g) b.ac b.dn a c (.fr (lI (b.g.getD a []))) (.lv (.lst (b.g.map λrow=>lI (Sx.kh row (b.g.getD a []) c b.s)))) .un):=
  aN (bJ (rG (bI rfl) rfl) j) rfl rfl rfl rfl
 have i:=Kn (n:=n) (m:=m) (s:=b.s) (g:=gI b.g) (ac:=b.ac) (dn:=b.dn) (a:=a) (c:=c) (x5:=.un) (xs:=b.g.map λrow=>lI (Sx.kh row (b.g.getD a []) c b.s)) (pr:=b.g.getD a []) (by rw[QK];lia) Q1;rw[D7] at i;have X:dH ["Board"] 0 "scale" (mix (ab 3) (ab 2)) (gG n m b.s (gI b.g) b.ac b.dn a c (.fr (lI (b.g.getD a []))) (.lv (.lst ((b.raw a c).map lI))) .un)=some (.nx,gG n m (b.Gq a c) (gI b.g) b.ac b.dn a c (.fr (lI (b.g.getD a []))) (.lv (.lst ((b.raw a c).map lI))) .un):=rB (ah rfl rfl (bK (.inl rfl) (hU Q1)));have B:dH ["Board"] 0 "grid" (ab 4) (gG n m (b.Gq a c) (gI b.g) b.ac b.dn a c (.fr (lI (b.g.getD a []))) (.lv (.lst ((b.raw a c).map lI))) .un)=some (.nx,gG n m (b.Gq a c) (gI (b.raw a c)) b.ac b.dn a c (.fr (lI (b.g.getD a []))) (.fr (.lst ((b.raw a c).map lI))) .un):=vt rfl rfl;have p:∀t,decide (b.Gq a c<0)=t->ag (az iH (aM (aL ["Board"] 0 "scale") (aJ (aq ["Board"] "scale") (ab 0))) (aC 0)) (gG n m (b.Gq a c) (gI (b.raw a c)) b.ac b.dn a c (.fr (lI (b.g.getD a []))) (.fr (.lst ((b.raw a c).map lI))) .un)=some (.ok t,gG n m (b.Gq a c) (gI (b.raw a c)) b.ac b.dn a c (.fr (lI (b.g.getD a []))) (.fr (.lst ((b.raw a c).map lI))) .un):=λt l=>au (ah (bI rfl) rfl (fS l _));have tail:∀(s:Int)(g:A)(o D:Sl),Wp (av (aF 5 (qe ["Board"] 0 "across" (xR 2))) (av (fA ["Board"] 0 "across" 2 (qe ["Board"] 0 "down" (xR 1))) (fA ["Board"] 0 "down" 1 (ab 5)))) (gG n m s g b.ac b.dn a c o D .un) λf Z=>f=.nx/\∃U,Z=.pv (oB n m s g (b.ac.set c (b.dn.getD a 0)) (b.dn.set a (b.ac.getD c 0)))::U:=λs g o D=>Wp.st (Oy (by rw[h.sh.ac];exact hc) rfl) (Wp.st (Lx (by rw[h.sh.dn];exact V) (by rw[h.sh.ac];exact hc)) (Wp.en (KN (by rw[h.sh.dn];exact V)) ⟨rfl,_,rfl⟩))
 suffices ∃s o',cX aG (bO n m b) [.int a,.int c] s o'/\(s=.fr .non/\o'=bO n m (b.turn a c)) by obtain⟨s,o',v,rfl,rfl⟩:=this;exact v
 refine cX.of (Wp.df (Wp.st Y (Wp.st q (Wp.st i (Wp.st X (Wp.st B ?_))))));by_cases z:b.Gq a c<0
 .have w:dH ["Board"] 0 "scale" (aJ aT (aM (aL ["Board"] 0 "scale") (aJ (aq ["Board"] "scale") (ab 0)))) (gG n m (b.Gq a c) (gI (b.raw a c)) b.ac b.dn a c (.fr (lI (b.g.getD a []))) (.fr (.lst ((b.raw a c).map lI))) .un)=some (.nx,gG n m (-b.Gq a c) (gI (b.raw a c)) b.ac b.dn a c (.fr (lI (b.g.getD a []))) (.fr (.lst ((b.raw a c).map lI))) .un):=rB (fG (bI rfl) rfl);have R:(b.raw a c).length=m+1:=by simp[Sx.Bo.raw,J]
  have y:=bG (e:=bp aO (cJ (ai 6))) (ts:=b.raw a c) (k:=lI) (S:=gG n m (-b.Gq a c) (gI (b.raw a c)) b.ac b.dn a c (.fr (lI (b.g.getD a []))) (.fr (.lst ((b.raw a c).map lI))) .un) (λrow=>lI (Sx.gf row)) rfl Q1 λrow bZ=>⟨.nw (.lst ((Sx.gf row).map A.int)),aB (ae rfl rfl) (jz (xW (by have:=h.sh.raw (c:=c) (show a<=m by lia) row bZ;lia)) _),rfl⟩
  have E:dH ["Board"] 0 "grid" (aU 1 (cQ (ab 4)) (aW 6) aV (bp aO (cJ (ai 6)))) (gG n m (-b.Gq a c) (gI (b.raw a c)) b.ac b.dn a c (.fr (lI (b.g.getD a []))) (.fr (.lst ((b.raw a c).map lI))) .un)=some (.nx,gG n m (-b.Gq a c) (gI ((b.raw a c).map Sx.gf)) b.ac b.dn a c (.fr (lI (b.g.getD a []))) (.fr (.lst ((b.raw a c).map lI))) .un):=by refine vt (bJ rfl y) ?_;unfold gI;rw[Rm];rfl
  refine Wp.st (cN (p true (Zw z)) (cv w E)) (Wp.mono (tail _ _ _ _) ?_);rintro f Z ⟨rfl,U,rfl⟩;refine⟨_,_,U,rfl,rfl,rfl,?_⟩;rw[vb];unfold Sx.Bo.turn;simp only[Zt z]
 .refine Wp.st (cb (p false (Zv z)) rfl) (Wp.mono (tail _ _ _ _) ?_);rintro f Z ⟨rfl,U,rfl⟩;refine⟨_,_,U,rfl,rfl,rfl,?_⟩;rw[vb];unfold Sx.Bo.turn;simp only[Zu z]
theorem yw(f:α->β)(xs:List α)(k:Nat):(xs.map f).eraseIdx k=(xs.eraseIdx k).map f:=by rw[Rt,Rt,Rq,SR,WS]
theorem GV{xs:List A}{k:Nat}(h:k<=xs.length):je xs none (some (k:Int))=xs.take k:=by
 have e:HT.jv xs.length xs.length (some (k:Int))=k:=by rw[HT.uS];lia
 have I:HT.jv xs.length 0 none=0:=rfl;unfold je;rw[e,I,VI,WJ]
theorem JX{xs:List A}{k:Nat}(h:k<=xs.length):je xs (some (k:Int)) none=xs.drop k:=by
 have e:HT.jv xs.length 0 (some (k:Int))=k:=by rw[HT.uS];lia
 have I:HT.jv xs.length xs.length none=xs.length:=rfl;unfold je;rw[e,I,Vz Z5]
theorem CY{m:Mi Rr}{xs:List A}{n:Nat}(h:m Z=some (.ok (.fr (.lst xs)),Z))(hl:xs.length=n+1):cE m (bz (aJ aT (aC 1))) aH Z=some (.ok (.nw (.lst (xs.drop n))),Z):=by refine bk h (bk rfl (bk rfl ?_));show some (RF (Rr.nw (.lst (je xs (some (-1)) none))),Z)=_;rw[Ie hl]
theorem j7{xs ys:List A}(h:xs.length+ys.length<=100000)(Z:List Sl):my a9 (.nw (.lst xs)) (.nw (.lst ys)) Z=some (.ok (.nw (.lst (xs++ys))),Z):=fu (o:=none) rfl rfl (Zt h)
abbrev sQ(n m:Nat)(s:Int)(g:A)(ac dn:List Int)(J:Sl):List Sl:=[.pv (oB n m s g ac dn),J]
theorem HV{n m:Nat}{g:A}{ac dn:List Int}(hc:c<ac.length)(hl:ac.length<=100):dC (qY ["Board"] 0 "across" (xR 1)) (sQ n m s g ac dn (.fr (.int c)))=some (.nx,sQ n m s g (ac.eraseIdx c) dn (.fr (.int c))):=by
 refine eM (r:=.fr (.int (ac.getD c 0))) ?_;show (if (c:Int).natAbs<2^62 then (match YJ (c:Int) (ac.map A.int).length with|some n=>(match (ac.map A.int)[n]? with|some a=>some (RF (Rr.fr a),gi _ 0 "across" ((ac.map A.int).eraseIdx n))|none=>none)|none=>none) else none)=_;rw[Zt Q1];have e:=(lg (jU (n:=(ac.map A.int).length) (by simpa using hc))).1;have e2:(ac.map A.int)[c]?=some (.int (ac.getD c 0)):=by simp[Rg,hc]
 rw[e];dsimp only;rw[e2];show some (_,[Sl.pv (LO.nob "Board" _ [("across",(ac.map A.int).eraseIdx c),("down",dn.map A.int)]),_])=_;rw[show (ac.map A.int).eraseIdx c=(ac.eraseIdx c).map A.int from yw _ _ _]
theorem IM{n m:Nat}{b:Sx.Bo}(h:Bb n m N b)(u:-1∈b.ac):cX a7 (bO n m b) [] (.fr .non) (bO n m (b.drop (b.ac.idxOf (-1)))):=by
 have hl:=RU u;have hN:=h.hN;have hm:=h.hm;have z:=h.sh.ac;generalize I:b.ac.idxOf (-1)=k at hl;have l1:aF 1 (gy ["Board"] 0 "across" (B2 (SX 0))) (sQ n m b.s (gI b.g) b.ac b.dn .un)=some (.nx,sQ n m b.s (gI b.g) b.ac b.dn (.fr (.int k))):=by refine aN (r:=.fr (.int k)) (U:=sQ n m b.s (gI b.g) b.ac b.dn .un) ?_ rfl rfl rfl rfl;show (match eu (b.ac.map A.int) with|some ns=>(match sN ns (-1) with|some j=>some (RF (Rr.fr (.int j)),_)|none=>none)|none=>none)=_;rw[fU];dsimp only;rw[pJ u,I]
 have G:=bG (e:=az a9 (cE (ab 2) aH (bz (ab 1))) (cE (ab 2) (bz (az a9 (ab 1) (aC 1))) aH)) (ts:=b.g) (k:=lI) (S:=sQ n m b.s (gI b.g) (b.ac.eraseIdx k) b.dn (.fr (.int k))) (λrow=>lI (row.eraseIdx k)) rfl (by have:=h.sh.g;lia) λrow bZ=>by
  have R:=h.sh.r row bZ;have a1:∀x,cE (ab 2) aH (bz (ab 1)) [x,.fr (.int k),.fr (lI row)]=some (.ok (.nw (.lst ((row.map A.int).take k))),[x,.fr (.int k),.fr (lI row)]):=λx=>by show some (RF (Rr.nw (.lst (je (row.map A.int) none (some (k:Int))))),_)=_;rw[GV (by simp;lia)]
  have Z:∀x,cE (ab 2) (bz (az a9 (ab 1) (aC 1))) aH [x,.fr (.int k),.fr (lI row)]=some (.ok (.nw (.lst ((row.map A.int).drop (k+1)))),[x,.fr (.int k),.fr (lI row)]):=λx=>by show some (RF (Rr.nw (.lst (je (row.map A.int) (some ((k+1:Nat):Int)) none))),_)=_;rw[JX (by simp;lia)]
  refine⟨_,ah (a1 _) (Z _) (j7 (by simp;lia) _),?_⟩;show some (A.lst ((row.map A.int).take k++(row.map A.int).drop (k+1)),_)=_;rw[<-Rt,yw]
 have Y:dH ["Board"] 0 "grid" (aU 1 (cQ (aM (aL ["Board"] 0 "grid") (aJ (aq ["Board"] "grid") (ab 0)))) (aW 2) aV (az a9 (cE (ab 2) aH (bz (ab 1))) (cE (ab 2) (bz (az a9 (ab 1) (aC 1))) aH))) (sQ n m b.s (gI b.g) (b.ac.eraseIdx k) b.dn (.fr (.int k)))=some (.nx,sQ n m b.s (gI (b.g.map λr=>r.eraseIdx k)) (b.ac.eraseIdx k) b.dn (.fr (.int k))):=by refine sk (bJ (rG (bI rfl) rfl) G) ?_;rw[show (b.g.map λrow=>lI (row.eraseIdx k))=(b.g.map λr=>r.eraseIdx k).map lI by rw[Rm];rfl];rfl
 suffices ∃s o',cX a7 (bO n m b) [] s o'/\(s=.fr .non/\o'=bO n m (b.drop k)) by obtain⟨s,o',v,rfl,rfl⟩:=this;exact v
 exact cX.of (Wp.df (Wp.st l1 (Wp.st (HV hl Q1) (Wp.en Y ⟨_,_,_,rfl,rfl,rfl,rfl⟩))))
theorem lO:∀xs:List Int,Dd (xs.map A.int)=true
 |[]=>rfl
 |x::xs=>by show (pl (.int x)&&Dd (xs.map A.int))=true;rw[lO xs];rfl
theorem rR{m:Mi Rr}{r:Rr}(h1:oR i Z=some o)(h2:m (Z.set i (.fr o.a))=some (.ok r,Z.set i (.fr o.a)))(h3:GQ i Z=true)(h4:Om r=true):iP i m Z=some r:=by
 delta iP
 rw[h1]
 dsimp only
 rw[h2]
 exact Zt ⟨rfl,h3,h4⟩
theorem uI{cs:List Str}{f:Str}{m:Mi Rr}{xs:List A}{r:Rr}{a:A}(h1:ownAt cs Z i f=some xs)(h2:iP i m Z=some r)(h3:bR r Z=some (a,U))(h4:so cs U i f a=some Z0):mR cs i f m Z=some (.ok (.fr .non),Z0):=by
 delta mR
 rw[h1,h2]
 dsimp only
 rw[h3]
 dsimp only
 rw[h4]
def xA(N m:Nat)(b:Sx.Bo):Sx.Bo:=⟨b.ac++[-1],b.dn,(b.g.take m).map (λr=>r.take N++[-1]++r.drop N)++[(b.g.getD m []).take N++[0]++(b.g.getD m []).drop N],b.s⟩
theorem L5{n m:Nat}{b:Sx.Bo}(h:Bb n m N b):cX bf (bO n m b) [] (.fr .non) (bO n m (xA N m b)):=by
 have hN:=h.hN;have hm:=h.hm;have z:=h.sh.ac;have J:=h.sh.g;have hr:=h.sh.row (QN m);have l1:dC (rp ["Board"] 0 "across" (B2 (SX 0))) (sQ n m b.s (gI b.g) b.ac b.dn .un)=some (.nx,sQ n m b.s (gI b.g) (b.ac++[-1]) b.dn .un):=by refine eM (r:=.fr .non) ?_;show (if (b.ac.map A.int).length<=100000 then some (RF (Rr.fr .non),[Sl.pv (LO.nob "Board" _ [("across",b.ac.map A.int++[.int (-1)]),("down",b.dn.map A.int)]),_]) else none)=_;rw[Zt (by simp;lia)];unfold sQ oB;rw[Rq];rfl
 have l2:aF 1 (mix (aM (aL ["Board"] 0 "grid") (aJ (aq ["Board"] "grid") (ab 0))) (aJ aT (aC 1))) (sQ n m b.s (gI b.g) (b.ac++[-1]) b.dn .un)=some (.nx,sQ n m b.s (gI b.g) (b.ac++[-1]) b.dn (.fr (lI (b.g.getD m [])))):=aN (ah (bI rfl) rfl (bK (.inl rfl) (vd J))) rfl rfl rfl rfl;have cut:∀{i:Nat}{row:List Int}{Z:List Sl}{m:Mi Rr}{v:Int},row.length=N+1->ab i Z=some (.ok (.fr (lI row)),Z)->m Z=some (.ok (.fr (.int v)),Z)->az a9 (az a9 (cE (ab i) aH (bz (aJ aT (aC 1)))) (dj (cJ m))) (cE (ab i) (bz (aJ aT (aC 1))) aH) Z=some (.ok (.nw (.lst ((row.take N++[v]++row.drop N).map A.int))),Z):=λ{i row Z m v} hl j hm=>by have:=ah (ah (iq j (n:=N) (by simpa using hl)) (kz (show cJ m Z=some (.ok [.fr (.int v)],Z) from ae hm rfl) rfl) (j7 (ys:=[.int v]) (by simp;lia) _)) (CY j (n:=N) (by simpa using hl)) (j7 (by simp;lia) _);rw[<-SR,<-WS,show [A.int v]=[v].map A.int from rfl,<-Rq,<-Rq] at this;exact this
 have G:=bG (e:=az a9 (az a9 (cE (ab 2) aH (bz (aJ aT (aC 1)))) (dj (cJ (aJ aT (aC 1))))) (cE (ab 2) (bz (aJ aT (aC 1))) aH)) (ts:=b.g.take m) (k:=lI) (S:=sQ n m b.s (gI b.g) (b.ac++[-1]) b.dn (.fr (lI (b.g.getD m [])))) (λr=>lI (r.take N++[-1]++r.drop N)) rfl (by simp;lia) λrow bZ=>⟨_,cut (i:=2) (m:=aJ aT (aC 1)) (v:=-1) (h.sh.r row (Sm bZ)) rfl rfl,rfl⟩
 have Y:iQ ["Board"] 0 "grid" (aU 1 (cQ (cE (aM (aL ["Board"] 0 "grid") (aJ (aq ["Board"] "grid") (ab 0))) aH (bz (aJ aT (aC 1))))) (aW 2) aV (az a9 (az a9 (cE (ab 2) aH (bz (aJ aT (aC 1)))) (dj (cJ (aJ aT (aC 1))))) (cE (ab 2) (bz (aJ aT (aC 1))) aH))) (sQ n m b.s (gI b.g) (b.ac++[-1]) b.dn (.fr (lI (b.g.getD m []))))=some (.nx,[.pv (.nob "Board" [("long",.int n),("many",.int m),("scale",.int b.s)] [("across",(b.ac++[-1]).map A.int),("down",b.dn.map A.int),("grid",(b.g.take m).map λr=>lI (r.take N++[-1]++r.drop N))]),.fr (lI (b.g.getD m []))]):=by refine sk (bJ (rG (iq (bI rfl) (n:=m) (by simpa using J)) (as:=(b.g.take m).map lI) ?_) G) rfl;rw[<-SR];rfl
 suffices ∃s o',cX bf (bO n m b) [] s o'/\(s=.fr .non/\o'=bO n m (xA N m b)) by obtain⟨s,o',v,rfl,rfl⟩:=this;exact v
 refine cX.of (Wp.df (Wp.st l1 (Wp.st l2 (Wp.st Y (Wp.en (f:=.nx) (U:=[.pv (.nob "Board" [("long",.int n),("many",.int m),("scale",.int b.s),("grid",.lst ((b.g.take m).map (λr=>lI (r.take N++[-1]++r.drop N))++[lI ((b.g.getD m []).take N++[0]++(b.g.getD m []).drop N)]))] [("across",(b.ac++[-1]).map A.int),("down",b.dn.map A.int)]),.fr (lI (b.g.getD m []))]) (eM (r:=.fr .non) ?_) ⟨_,_,_,rfl,rfl,rfl,?_⟩)))))
 .have lv:iP 0 (az a9 (az a9 (cE (ab 1) aH (bz (aJ aT (aC 1)))) (dj (cJ (aC 0)))) (cE (ab 1) (bz (aJ aT (aC 1))) aH)) [.pv (.nob "Board" [("long",.int n),("many",.int m),("scale",.int b.s)] [("across",(b.ac++[-1]).map A.int),("down",b.dn.map A.int),("grid",(b.g.take m).map λr=>lI (r.take N++[-1]++r.drop N))]),.fr (lI (b.g.getD m []))]=some (.nw (.lst (((b.g.getD m []).take N++[0]++(b.g.getD m []).drop N).map A.int))):=by exact rR rfl (cut (i:=1) (m:=aC 0) (v:=0) hr rfl rfl) rfl (lO _)
  refine uI rfl lv rfl ?_;show (if ((b.g.take m).map λr=>lI (r.take N++[-1]++r.drop N)).length<=100000 then _ else none)=_;rw[Zt (by simp;lia)];rfl
 .rw[vb];unfold xA;dsimp only;have:gI ((b.g.take m).map (λr=>r.take N++[-1]++r.drop N)++[(b.g.getD m []).take N++[0]++(b.g.getD m []).drop N])=.lst ((b.g.take m).map (λr=>lI (r.take N++[-1]++r.drop N))++[lI ((b.g.getD m []).take N++[0]++(b.g.getD m []).drop N)]):=by unfold gI;rw[Rq,Rm];rfl
  rw[this]
variable{ns:List Int}
theorem xC(h:0<ns.length):sd ns∈ns/\∀j,j<ns.length->sd ns<=ns.getD j 0:=by obtain⟨h1,h2⟩:=argBest_lt (λi=>ns.getD i 0) (ns.length-1);exact⟨dI Q1,λj N=>h2 j Q1⟩
theorem wD(h:0<ns.length):tG ns∈ns/\∀j,j<ns.length->ns.getD j 0<=tG ns:=by obtain⟨h1,h2⟩:=argBest_gt (λi=>ns.getD i 0) (ns.length-1);exact⟨dI Q1,λj N=>h2 j Q1⟩
theorem zA{t:Mi Bool}{ts:List T}(P u g:T->A)(c:T->Bool)(hi:S.length=i)(hl:ts.length<=100000)
  (h:∀x∈ts,t (S++[.fr (P x),.fr (u x)])=some (.ok (c x),S++[.fr (P x),.fr (u x)])/\∃r,e (S++[.fr (P x),.fr (u x)])=some (.ok r,S++[.fr (P x),.fr (u x)])/\bR r (S++[.fr (P x),.fr (u x)])=some (g x,S++[.fr (P x),.fr (u x)])):
  gF 2 (G2 i (i+1)) t e (ts.map λt=>.tup [P t,u t]) S=some (.ok (.nw (.lst ((ts.filter c).map g))),S):=by
 obtain⟨ys,O,h1,x,y,rfl,_,_,rfl⟩:=fX (G:=G2 i (i+1)) (as:=ts.map λt=>.tup [P t,u t])
  (λj acc Z=>X2 λ(x y:Sl)=>N4 (Z=S++[x,y]) (np x=true) (np y=true) (acc=((ts.take j).filter c).map g)) ⟨.un,.un,rfl,rfl,rfl,rfl⟩ (by
   rintro j q acc Z V ⟨x,y,rfl,hx,hy,rfl⟩;rw[Rc] at V;cases C:ts[j]? with
   |none=>rw[C] at V;cases V
   |some p=>
    rw[C] at V;cases V;obtain⟨s,r,f,d⟩:=h p (Rw C);refine⟨_,lQ hi hx hy,?_⟩;rw[S0,C,V4];cases I:c p with
    |true=>rw[I] at s;exact .inl ⟨_,r,_,g p,_,s,f,d,_,_,rfl,rfl,rfl,by simp[I]⟩
    | false=>rw[I] at s;exact .inr ⟨_,s,_,_,rfl,rfl,rfl,by simp[I]⟩)
 unfold gF;rw[Zt (by rw[QK];exact hl)];have e1:S++QW 2 Sl.un=S++[.un,.un]:=rfl;rw[e1,h1];simp
theorem sx:∀(xs:List Int)(i:Nat),iN i (xs.map A.int)=(Q4 xs.length).map λj=>A.tup [.int ((i+j:Nat):Int),.int (xs.getD j 0)]
 |[],_=>rfl
 |x::xs,i=>by
  rw[Rv,iN,sx xs (i+1),QU,T9,Rv,Rm]
  congr 1
  refine RD λj _=>?_;rw[show i+1+j=i+(j+1) by lia];rfl
theorem Gk{ls:List Int}(h:0<ls.length)(hl:ls.length<=100):∃a:Nat,Val dG [lI ls] (.int a)/\a<ls.length/\(∀i,i<ls.length->ls.getD a 0<=ls.getD i 0)/\∀i,i<ls.length->a<i->ls.getD a 0<ls.getD i 0:=by
 obtain⟨K,L⟩:=xC h;generalize Z:sd ls=w at K L;have c:=zA (e:=ab 2) (t:=ag (az m5 (ab 3) (ab 1))) (ts:=Q4 ls.length) (S:=[.fr (lI ls),.fr (.int w)]) (λj=>.int j) (λj=>.int (ls.getD j 0)) (λj=>.int j) (λj=>decide (ls.getD j 0=w)) rfl (by simp;lia) λj N=>⟨au (ah rfl rfl (iB rfl _)),_,rfl,rfl⟩
 have b:∀i,i∈(Q4 ls.length).filter (λj=>decide (ls.getD j 0=w))↔i<ls.length/\ls.getD i 0=w:=λi=>by rw[Uc,Rz,decide_eq_true_eq]
 have ex:∃i,i<ls.length/\ls.getD i 0=w:=by obtain⟨i,hi,e⟩:=R9 K;exact⟨i,hi,by simp[Rg,hi,e]⟩
 generalize y:(Q4 ls.length).filter (λj=>decide (ls.getD j 0=w))=F at c b;have ne:0<(F.map Td).length:=by obtain⟨i,hi⟩:=ex;rw[QK];exact List.length_pos_of_mem ((b i).mpr hi)
 obtain⟨J,I⟩:=wD ne;obtain⟨a,f,O⟩:=Rh.mp J;have B:=(b a).mp f;have v:∀i,i<ls.length->ls.getD i 0=w->i<=a:=λi h1 h2=>by obtain⟨p,hp,e⟩:=R9 ((b i).mpr ⟨h1,h2⟩);have:=I p (by rw[QK];exact hp);rw[Sx.getD_map hp,<-O] at this;rw[show F.getD p 0=i by simp[Rg,hp,e]] at this;have:(i:Int)<=(a:Int):=this;lia
 refine⟨a,Val.of (Wp.df (Wp.st (aN (fG rfl (qi (r:=.fr (.int w)) rfl ?_)) rfl rfl rfl rfl) (Wp.en (aK (fG (bJ ?_ c) (qi (r:=.fr (.int a)) rfl ?_)) rfl) rfl))),B.1,λi hi=>by rw[B.2];exact L i hi,λi hi s=>?_⟩
 .unfold rP;dsimp only;rw[fU];dsimp only;rw[Zu (by intro z;rw[z] at h;exact absurd h Z3),Z]
 .show some (RF (iN 0 (ls.map A.int)),_)=_;rw[sx]
  congr 3
  refine RD λj _=>?_;rw[Uj]
 .have e:F.map (λ(j:Nat)=>A.int (j:Int))=(F.map Td).map A.int:=by rw[Rm];rfl
  rw[e];unfold qJ;dsimp only;rw[fU];dsimp only;rw[Zu (by intro z;rw[z] at ne;exact absurd ne Z3),<-O];rfl
 .rw[B.2];have:=L i hi;by_cases e:ls.getD i 0=w
  .have:=v i hi e;lia
  .lia
noncomputable def bW(c:List Int)(R:List (List Int))(L:List Int):Sx.Pb:=⟨c.length,R.length,λj=>c.getD j 0,λi j=>(R.getD i []).getD j 0,λi=>L.getD i 0⟩
theorem lX{α:Type}{f:Int->α}:∀xs:List Int,(Q4 xs.length).map (λj=>f (xs.getD j 0))=xs.map f
 |[]=>rfl
 |x::xs=>by rw[QU,T9,Rv,Rm,Rv,<-lX xs];rfl
variable{R:List (List Int)}{L:List Int}
theorem LK{c:List Int}(f:qS c R L):(Sx.fM (bW c R L)).g.map lI=((R.zip L).map λp=>lI (p.1++[p.2]))++[lI (c.map (λx=>-x)++[0])]:=by
 unfold Sx.fM bW;rw[Rq,lX]
 congr 1
 refine Wr (by simp[f.l]) λi h1 h2=>?_;have hi:i<R.length:=by simpa using h1
 have h:i<L.length:=by rw[f.l];exact hi
 simp only[Ws,UE,List.getElem_zip];have e1:R.getD i []=R[i]:=by simp[Rg,hi]
 have e2:L.getD i 0=L[i]:=by simp[Rg,h]
 have N:=f.r R[i] (List.getElem_mem hi);rw[e1,e2,<-N,lX (f:=λx=>x),W3]
theorem NZ{cn:Str}{as:List A}{Y:List Sl}(h:f (.pv (.obj cn [])::as.map Sl.fr)=some (.rt (.fr .non),.pv o::Y))(Z:List Sl):vD cn f [] (as.map Rr.fr) Z=some (.ok (.nw o),Z):=by unfold vD;rw[Tn,RK,jF];simp only[qc,h];have:=jQ Z as (aA (as.map Sl.fr).length Y) Z (by rw[cK,QK]);rw[this]
theorem Jc{m:Mi Rr}{n:Nat}(h:m Z=some (.ok (.fr (.int n)),Z))(hn:n<=100):mZ m Z=some (.ok (.nw (.lst (bP 0 n))),Z):=by refine bk h ?_;show (if ET 0 (n:Int)=true then some (RF (Rr.nw (.lst (bP 0 ((n:Int)-0).toNat))),Z) else none)=_;rw[Zt (show ET 0 (n:Int)=true from Zw Q1),show ((n:Int)-0).toNat=n by lia]
theorem GC(h:ma Z=some (.ok (.fr (.int i)),Z))(k:mb Z=some (.ok (.fr (.int j)),Z))(hi:i<=100)(N:j<=100):lV ma mb Z=some (.ok (.nw (.lst (bP i (j-i)))),Z):=by refine bk h (bk k ?_);show (if ET (i:Int) (j:Int)=true then some (RF (Rr.nw (.lst (bP i ((j:Int)-i).toNat))),Z) else none)=_;rw[Zt (show ET (i:Int) (j:Int)=true from Zw Q1),show ((j:Int)-i).toNat=j-i by lia]
theorem zg{c:List Int}(f:qS c R L)(Z:List Sl):vD "Board" dA [] [.fr (lI c),.fr (gI R),.fr (lI L)] Z=some (.ok (.nw (bO c.length R.length (Sx.fM (bW c R L)))),Z):=by
 have hn:=f.n;have hm:=f.m
 suffices ∃Y,dA (.pv (.obj "Board" [])::[lI c,gI R,lI L].map Sl.fr)=some (.rt (.fr .non),.pv (bO c.length R.length (Sx.fM (bW c R L)))::Y) by obtain⟨Y,e⟩:=this;exact NZ (as:=[lI c,gI R,lI L]) e Z
 have go:Wp dA (.pv (.obj "Board" [])::[lI c,gI R,lI L].map Sl.fr) λg Z=>g=.rt (.fr .non)/\∃Y,Z=.pv (bO c.length R.length (Sx.fM (bW c R L)))::Y:=by
  have l1:dH ["Board"] 0 "long" (cP cW (ab 1)) [.pv (.obj "Board" []),.fr (lI c),.fr (gI R),.fr (lI L)]=some (.nx,[.pv (.obj "Board" [("long",.int c.length)]),.fr (lI c),.fr (gI R),.fr (lI L)]):=by refine sk (x:=.fr (.int c.length)) (U:=[.pv (.obj "Board" []),.fr (lI c),.fr (gI R),.fr (lI L)]) ?_ rfl;show some (RF (Rr.fr (.int (c.map A.int).length)),_)=_;rw[QK]
  have l2:dH ["Board"] 0 "many" (cP cW (ab 2)) [.pv (.obj "Board" [("long",.int c.length)]),.fr (lI c),.fr (gI R),.fr (lI L)]=some (.nx,[.pv (.obj "Board" [("long",.int c.length),("many",.int R.length)]),.fr (lI c),.fr (gI R),.fr (lI L)]):=by refine sk (x:=.fr (.int R.length)) (U:=[.pv (.obj "Board" [("long",.int c.length)]),.fr (lI c),.fr (gI R),.fr (lI L)]) ?_ rfl;show some (RF (Rr.fr (.int (R.map lI).length)),_)=_;rw[QK]
  have q:iQ ["Board"] 0 "across" (mZ (aM (aL ["Board"] 0 "long") (aJ (aq ["Board"] "long") (ab 0)))) [.pv (.obj "Board" [("long",.int c.length),("many",.int R.length),("scale",.int 1)]),.fr (lI c),.fr (gI R),.fr (lI L)]=some (.nx,[.pv (.nob "Board" [("long",.int c.length),("many",.int R.length),("scale",.int 1)] [("across",bP 0 c.length)]),.fr (lI c),.fr (gI R),.fr (lI L)]):=sk (Jc (kX rfl rfl) Q1) rfl;have h:iQ ["Board"] 0 "down" (lV (aM (aL ["Board"] 0 "long") (aJ (aq ["Board"] "long") (ab 0))) (az a9 (aM (aL ["Board"] 0 "long") (aJ (aq ["Board"] "long") (ab 0))) (aM (aL ["Board"] 0 "many") (aJ (aq ["Board"] "many") (ab 0))))) [.pv (.nob "Board" [("long",.int c.length),("many",.int R.length),("scale",.int 1)] [("across",bP 0 c.length)]),.fr (lI c),.fr (gI R),.fr (lI L)]=some (.nx,[.pv (.nob "Board" [("long",.int c.length),("many",.int R.length),("scale",.int 1)] [("across",bP 0 c.length),("down",bP c.length R.length)]),.fr (lI c),.fr (gI R),.fr (lI L)]):=by have:=GC (Z:=[.pv (.nob "Board" [("long",.int c.length),("many",.int R.length),("scale",.int 1)] [("across",bP 0 c.length)]),.fr (lI c),.fr (gI R),.fr (lI L)]) (i:=c.length) (j:=c.length+R.length) (ma:=aM (aL ["Board"] 0 "long") (aJ (aq ["Board"] "long") (ab 0))) (mb:=az a9 (aM (aL ["Board"] 0 "long") (aJ (aq ["Board"] "long") (ab 0))) (aM (aL ["Board"] 0 "many") (aJ (aq ["Board"] "many") (ab 0)))) (bI rfl) (ah (bI rfl) (bI rfl) rfl) Q1 Q1;rw[show c.length+R.length-c.length=R.length by lia] at this;exact sk this rfl
  have w:=nP (i:=4) (e:=az a9 (cP gE (ab 4)) (dj (cJ (ab 5)))) (ts:=R.zip L) (S:=[.pv (.nob "Board" [("long",.int c.length),("many",.int R.length),("scale",.int 1)] [("across",bP 0 c.length),("down",bP c.length R.length)]),.fr (lI c),.fr (gI R),.fr (lI L)]) (λp=>lI p.1) (λp=>.int p.2) (λp=>lI (p.1++[p.2])) rfl (by simp;lia) λp hp=>by have a:=f.r p.1 (SS hp).1;refine⟨_,ah (fG rfl (qi (r:=.nw (.lst (p.1.map A.int))) rfl rfl)) (kz (rs:=[.fr (.int p.2)]) rfl rfl) (j7 (by simp;lia) _),?_⟩;show some (A.lst (p.1.map A.int++[.int p.2]),_)=_;unfold lI;rw[Rq];rfl
  have X:iQ ["Board"] 0 "grid" (aU 2 (hZ (ab 2) (ab 3)) (G2 4 5) aV (az a9 (cP gE (ab 4)) (dj (cJ (ab 5))))) [.pv (.nob "Board" [("long",.int c.length),("many",.int R.length),("scale",.int 1)] [("across",bP 0 c.length),("down",bP c.length R.length)]),.fr (lI c),.fr (gI R),.fr (lI L)]=some (.nx,[.pv (.nob "Board" [("long",.int c.length),("many",.int R.length),("scale",.int 1)] [("across",bP 0 c.length),("down",bP c.length R.length),("grid",(R.zip L).map λp=>lI (p.1++[p.2]))]),.fr (lI c),.fr (gI R),.fr (lI L)]):=by refine sk (bJ (as:=(R.zip L).map λp=>A.tup [lI p.1,.int p.2]) ?_ w) rfl;rw[<-fm];rfl
  refine Wp.df (Wp.st l1 (Wp.st l2 (Wp.st rfl (Wp.st q (Wp.st h (Wp.st X (Wp.en (f:=.nx) (U:=[.pv (.nob "Board" [("long",.int c.length),("many",.int R.length),("scale",.int 1),("grid",.lst (((R.zip L).map λp=>lI (p.1++[p.2]))++[lI (c.map (λx=>-x)++[0])]))] [("across",bP 0 c.length),("down",bP c.length R.length)]),.fr (lI c),.fr (gI R),.fr (lI L)]) (eM (r:=.fr .non) ?_) ⟨rfl,[.fr (lI c),.fr (gI R),.fr (lI L)],?_⟩)))))))
  .have I:=bG (e:=aJ aT (ab 4)) (ts:=c) (k:=A.int) (S:=[.fr (.obj "Board" [("long",.int c.length),("many",.int R.length),("scale",.int 1),("across",.lst (bP 0 c.length)),("down",.lst (bP c.length R.length)),("grid",.lst ((R.zip L).map λp=>lI (p.1++[p.2])))]),.fr (lI c),.fr (gI R),.fr (lI L)]) (λx=>.int (-x)) rfl Q1 λx _=>⟨_,rfl,rfl⟩
   rw[show (c.map λx=>A.int (-x))=(c.map λx=>-x).map A.int by rw[Rm];rfl] at I;have G:(c.map (λx=>-x)++[0]).map A.int=(c.map λx=>-x).map A.int++[A.int 0]:=by rw[Rq];rfl
   have lv:iP 0 (az a9 (aU 1 (cQ (ab 1)) (aW 4) aV (aJ aT (ab 4))) (dj (cJ (aC 0)))) [.pv (.nob "Board" [("long",.int c.length),("many",.int R.length),("scale",.int 1)] [("across",bP 0 c.length),("down",bP c.length R.length),("grid",(R.zip L).map λp=>lI (p.1++[p.2]))]),.fr (lI c),.fr (gI R),.fr (lI L)]=some (.nw (.lst ((c.map (λx=>-x)++[0]).map A.int))):=by have b:=lO (c.map (λx=>-x)++[0]);rw[G] at b ⊢;exact rR rfl (ah (bJ rfl I) (kz (rs:=[.fr (.int 0)]) rfl rfl) (j7 (by simp;lia) _)) rfl b
   refine uI rfl lv rfl ?_;show (if ((R.zip L).map λp=>lI (p.1++[p.2])).length<=100000 then _ else none)=_;rw[Zt (by simp;lia)];rfl
  .rw[vb];unfold gI;rw[LK f];have u:bP 0 c.length=(Sx.fM (bW c R L)).ac.map A.int:=by show _=((Q4 c.length).map Td).map A.int;unfold bP;rw[Rm];exact RD λi _=>by show A.int (0+(i:Int))=A.int (i:Int);rw[Uk]
   have O:bP c.length R.length=(Sx.fM (bW c R L)).dn.map A.int:=by show _=((Q4 R.length).map λi=>((c.length+i:Nat):Int)).map A.int;unfold bP;rw[Rm];rfl
   rw[u,O];rfl
 obtain⟨g,Z,e,rfl,Y,rfl⟩:=go;exact⟨Y,e⟩
theorem i8{t:Mi Bool}{b:Ms}(P:Nat->List Sl->Prop)(Q:Fl->List Sl->Prop)(hs:∀k Z,P k Z->(∃U,t Z=some (.ok false,U)/\Q .nx U)\/∃U,t Z=some (.ok true,U)/\Wp b U λf Z0=>(f=.nx/\∃H,H<k/\P H Z0)\/X2 λ(s:Sl)(_:Unit)=>f=.rt s/\Q (.rt s) Z0):∀n k Z,P k Z->k<n->∃f O,dB t b n Z=some (f,O)/\Q f O
 |0,_,_,_,h=>absurd h (SW _)
 |n+1,k,Z,p,h=>by
  rcases hs k Z p with ⟨U,e,q⟩|⟨U,e,f,Z0,e2,z⟩
  .exact⟨.nx,U,by unfold dB;rw[e],q⟩
  .rcases z with ⟨rfl,H,hk,j⟩|⟨s,_,rfl,q⟩
   .obtain⟨f,O,N,q⟩:=i8 P Q hs n H Z0 j Q1;exact⟨f,O,by unfold dB;rw[e];dsimp only;rw[e2];exact N,q⟩
   .exact⟨.rt s,Z0,by unfold dB;rw[e];dsimp only;rw[e2],q⟩
theorem qv{s:Sl}{r:Rr}(j:rs.all E2=true)(h:cX f o (rs.map vA) s o')(hr:pz s=some r)(hl:aE Z i=some o):fE f [] (.rf i::rs) Z=some (.ok r,setAt Z i o'):=by
 rw[<-cG h hr hl];have V:((rs.map vA).map Rr.fr).all E2=true:=by rw[UP];simp[E2]
 have e:∀Z,cw (.rf i::rs) Z=cw (.rf i::(rs.map vA).map Rr.fr) Z:=λZ=>by
  unfold cw;cases take1 (.rf i) Z with
  |none=>rfl
  |some p=>dsimp only;rw[pO _ _ j,pO _ _ V];rw[show ((rs.map vA).map Rr.fr).map vA=rs.map vA by rw[Rm];exact W3 _]
 have e2:∀S ss Z,putL S (.rf i::rs) ss Z=putL S (.rf i::(rs.map vA).map Rr.fr) ss Z:=λS ss Z=>by
  cases ss with
  |nil=>rfl
  |cons s ss=>
   unfold putL;have key:∀(rs ts:List Rr)(ss:List Sl),rs.length=ts.length->rs.all E2=true->ts.all E2=true->putL S rs ss Z=putL S ts ss Z:=by
    intro rs;induction rs with
    |nil=>intro ts ss hl _ _;cases ts with
     |nil=>rfl
     |cons t ts=>cases hl
    |cons r rs m=>intro ts ss hl h1 h2;cases ts with
     |nil=>cases hl
     |cons t ts=>
      rw[Q7,QE] at h1 h2;cases ss with
      |nil=>rfl
      |cons s ss=>
       unfold putL;rw[m ts ss (Wg hl) h1.2 h2.2];cases putL S ts ss Z with
       |none=>rfl
       |some U=>
        cases r with
        |rf i=>cases h1.1
        |fr a=>cases t with
         |rf i=>cases h2.1
         |fr a=>rfl
         |nw a=>rfl
        |nw a=>cases t with
         |rf i=>cases h2.1
         |fr a=>rfl
         |nw a=>rfl
   rw[key rs ((rs.map vA).map Rr.fr) ss Z5 j V]
 unfold fE;simp only[Tn,RK,e,e2]
theorem il:∀(n:Nat){Z:List Sl},Z.all np=true->aA n Z=QW n .un
 |0,_,_=>rfl
 |n+1,[],_=>by rw[aA,il n rfl];rfl
 |n+1,s::Z,h=>by
  rw[Q7,QE] at h;cases s with
  |pv o=>cases h.1
  |un=>rw[aA,il n h.2];rfl;intro o z;cases z
  |fr a=>rw[aA,il n h.2];rfl;intro o z;cases z
  |lv a=>rw[aA,il n h.2];rfl;intro o z;cases z
  |cf a=>rw[aA,il n h.2];rfl;intro o z;cases z
theorem CS(n:Nat):(QW n Sl.un).all xN=true:=by rw[R3];intro x hx;rw[TR hx];rfl
theorem mV{c:Str}{fs:List (Str×A)}{ls:List (Str×List A)}{as:List A}{a:A}(h:fI f ((LO.nob c fs ls).a::as) a)(hp:pl a=true):cX (bu 0 f) (.nob c fs ls) as (.fr a) (.nob c fs ls):=by
 obtain⟨Z,h1,h2⟩:=h;refine⟨(QW as.length .un),?_⟩;show (match f (.fr (LO.nob c fs ls).a::as.map Sl.fr) with
  |some (.rt s,U)=>if Bt (aA (as.map Sl.fr).length.succ U)[0]?&&(s::aA (as.map Sl.fr).length.succ U).all xN then some (Fl.rt s,(aA (as.map Sl.fr).length.succ U).set 0 (.pv (.nob c fs ls))) else none
  |some (.ex x,U)=>_
  | _=>none)=_
 rw[show f (.fr (LO.nob c fs ls).a::as.map Sl.fr)=some (.rt (.fr a),Z) from h1];dsimp only;rw[il _ h2,QK];have e:(Bt (QW as.length.succ Sl.un)[0]?&&(Sl.fr a::QW as.length.succ Sl.un).all xN)=true:=by rw[QE,Q7,CS];exact⟨rfl,by rw[SQ];exact hp⟩
 rw[Zt e];rfl
theorem yr{c:Str}{fs:List (Str×A)}{ls:List (Str×List A)}{as:List A}{s:Sl}(h:cX f (.nob c fs ls) as s o):cX f (.nob c fs ls) as s o:=h
theorem zU{I:List A}{ms:Mi (List Rr)}(h:ms Z=some (.ok rs,U))(c:fE f I rs U=none):aY f I ms Z=none:=bk h c
theorem BB(n:Nat)(s:Int)(v:Nat->Int):pl (nS n s v)=true:=by
 show Dd ((Q4 n).map λj=>nm (cA (v j) s))=true;generalize Q4 n=l;induction l with
 |nil=>rfl
 |cons x l m=>show (pl (nm (cA (v x) s))&&Dd _)=true;rw[m];rfl
theorem HZ:∀n,n<=9->Sx.Cb (n+2)*(10^9)^(n+2)<2^400:=by decide +kernel
section
variable{c:List Int}{R:List (List Int)}{L:List Int}(fF:qS c R L){N:Nat}{b:Sx.Bo}
include fF
theorem Lm:(bW c R L).Le (10^9):=⟨by decide,λj N=>fF.bc _ (dI N),λi j hi N=>by have m:=Sx.getD_mem hi;exact fF.br _ m _ (dI (by rw[fF.r _ m];exact N)),λi hi=>fF.bl _ (dI (by rw[fF.l];exact hi))⟩
theorem rD(h:Sx.Ok (bW c R L) N b):Gd (bW c R L) N b:=by
 have hN:N=c.length\/N=c.length+1:=h.hN;have hn:=fF.n;have hm:=fF.m;have z:=HZ c.length hn;refine⟨h,h.sh,by lia,hn,hm,λr hr x hx=>?_,RG (h.OT (Lm fF)) z,h.pos⟩;obtain⟨i,hi,rfl⟩:=R9 hr;obtain⟨l,hl,rfl⟩:=R9 hx;have p:i<=R.length:=by have:=h.sh.g;show i<=(bW c R L).m;lia
 have a:l<=N:=by have:=h.sh.r _ hr;lia
 have e:b.Gq i l=b.g[i][l]:=by simp[Sx.Bo.Gq,Rg,hi,hl]
 have:=h.Oi (Lm fF) p a;rw[e] at this;exact RG this z
end
theorem yO{P:Sx.Pb}{b:Sx.Bo}(h:Gd P N b)(hc:c<=N)(u:Int):L2.Bd 900 (Sx.vl P b c u):=by
 have hm:=h.bb.hm;have z:L2.Bd 400 (0:Int):=Tg Z3;have h1:L2.Bd 410 (Sx.su P.m λi=>if b.Bq i=u then Sx.qs P.n c*b.Gq i c else 0):=F0 (λi hi=>by
  by_cases e:b.Bq i=u
  .rw[Zt e];have:=h.bb.gb (i:=i) Q1 hc;unfold Sx.qs;split
   .rw[R8];exact this.neg
   .rw[RY];exact this
  .rw[Zu e];exact z) Q1
 refine(L2.Bd.add h1 (?_:L2.Bd 400 _)).mono (show max 410 400+1<=900 by decide);split
 .exact h.bb.bs
 .exact z
theorem E6{P:Sx.Pb}{b:Sx.Bo}(h:Gd P N b){r:Nat}(hr:r<=P.m)(u:Int):L2.Bd 900 (Sx.Fc N b r u):=by
 have hN:=h.bb.hN;refine L2.Bd.mono (F0 (b:=400) (λl hl=>?_) Q1) Z3;by_cases e:b.Aq l=u
 .rw[Zt e];exact h.bb.gb hr Q1
 .rw[Zu e];exact Tg Z3
theorem lW:∀k,(Sx.allB k).length=2^k
 |0=>rfl
 |k+1=>by show ((Sx.allB k).map _++(Sx.allB k).map _).length=_;rw[Q2,QK,QK,lW k,Xa];lia
theorem Jt{P:Sx.Pb}(hn:P.n<=9)(hm:P.m<=9)(K:Sx.Bo->Prop)(ob:Sx.Bo->Nat->Int)(b:Sx.Bo):Sx.ms P K ob b<zK:=by refine RG VL ?_;rw[lW];exact Nat.pow_lt_pow_right Z3 Q1
abbrev Hz(n m:Nat)(b:Sx.Bo)(J I o:Sl):List Sl:=[.pv (bO n m b),J,I,o]
abbrev Av:Mi Rr:=aM (aL ["Board"] 0 "grid") (aJ (aq ["Board"] "grid") (ab 0))
abbrev Pt:Mi Rr:=aM (aL ["Board"] 0 "scale") (aJ (aq ["Board"] "scale") (ab 0))
abbrev NI:Mi Rr:=aM (bp bq (cJ (aP "Board" "point" 0))) (aM (aY (bu 0 bq) [] (cJ (aP "Board" "point" 0))) (bp bq (cJ (bH "Board" "point" (ab 0)))))
abbrev LA(e:Mi Rr):Mi Rr:=aM (bp aR (cB (aP "Board" "prices" 0) e)) (aM (aY (bu 0 aR) [] (cB (aP "Board" "prices" 0) e)) (bp aR (cB (bH "Board" "prices" (ab 0)) e)))
abbrev Px:Mi Rr:=aM (bp cV (cB (aP "Board" "way" 0) (ai 1))) (aM (aY (bu 0 cV) [] (cB (aP "Board" "way" 0) (ai 1))) (bp cV (cB (bH "Board" "way" (ab 0)) (ai 1))))
section
variable{P:Sx.Pb}{N:Nat}{b:Sx.Bo}{xs:List Sl}
theorem IE(n m:Nat):Av (.pv (bO n m b)::xs)=some (.ok (.fr (gI b.g)),.pv (bO n m b)::xs):=bI rfl
theorem pI{n m:Nat}(h:Bb n m N b):mix Av (aJ aT (aC 1)) (.pv (bO n m b)::xs)=some (.ok (.fr (lI (b.g.getD m []))),.pv (bO n m b)::xs):=ah (IE n m) rfl (bK (.inl rfl) (vd h.sh.g))
theorem OB(h:Gd P P.n b):NI (.pv (bO P.n P.m b)::xs)=some (.ok (.fr (nS P.n b.s λj=>Sx.vl P b P.n j)),.pv (bO P.n P.m b)::xs):=
 kX rfl (bI (aB rfl (cG (mV (as:=[]) (Er h) (BB _ _ _)) rfl rfl)))
theorem Oa(h:Gd P P.n b)(hc:c<P.n){ys:List Sl}:Px (.pv (bO P.n P.m b)::.fr (.int c)::ys)=some (.ok (.fr (nS P.n b.s λj=>Sx.vl P b c j)),.pv (bO P.n P.m b)::.fr (.int c)::ys):=
 kX rfl (bI (aB rfl (cG (mV (as:=[.int c]) (K5 h hc) (BB _ _ _)) rfl rfl)))
theorem KQ(h:Gd P N b)(L:N<=ts.length){r:Rr}(he:e (.pv (bO P.n P.m b)::xs)=some (.ok r,.pv (bO P.n P.m b)::xs))(hr:E2 r=true)(j:vA r=lI ts):LA e (.pv (bO P.n P.m b)::xs)=some (.ok (.fr (nS P.m b.s λk=>Sx.su N λl=>if b.Aq l=((P.n+k:Nat):Int) then ts.getD l 0 else 0)),.pv (bO P.n P.m b)::xs):=by
 have V:cX (bu 0 aR) (bO P.n P.m b) [lI ts] (.fr (nS P.m b.s λk=>Sx.su N λl=>if b.Aq l=((P.n+k:Nat):Int) then ts.getD l 0 else 0)) (bO P.n P.m b):=mV (K6 h L) (BB _ _ _);have hc:=qv (i:=0) (Z:=.pv (bO P.n P.m b)::xs) (by rw[Q7,hr];rfl) (show cX _ _ ([r].map vA) _ _ by rw[Rv,j];exact V) rfl rfl;refine kX (zU (ae rfl (ae he rfl)) ?_) (bI (aB (ae rfl (ae he rfl)) hc));cases r with
 |rf i=>cases hr
 |fr a=>rfl
 |nw o=>rfl
end
theorem uC{n m:Nat}{b:Sx.Bo}(h:Bb n m N b)(J:gs.length<=N)(bg:∀x∈gs,L2.Bd 400 x){xs:List Sl}{r:Rr}(he:e (.pv (bO n m b)::xs)=some (.ok r,.pv (bO n m b)::xs))(hr:E2 r=true)(c:vA r=lI gs):
  ∃f,aY (bu 0 bF) [] (cB (ab 0) e) (.pv (bO n m b)::xs)=some (.ok (.fr f),.pv (bO n m b)::xs)/\((f=.non/\∀j,j<gs.length->gs.getD j 0<=0)\/∃k:Nat,f=.int k/\k<gs.length/\0<gs.getD k 0):=by
 obtain⟨f,v,z⟩:=J4 h J bg;have hp:pl f=true:=by rcases z with ⟨rfl,_⟩|⟨k,rfl,_⟩<;>rfl
 have Z:cX (bu 0 bF) (bO n m b) [lI gs] (.fr f) (bO n m b):=yr (mV (as:=[lI gs]) v hp);exact⟨f,aB (rs:=[.rf 0,r]) (ae rfl (ae he rfl)) (qv (rs:=[r]) (by rw[Q7,hr];rfl) (show cX _ _ ([r].map vA) _ _ by rw[Rv,c];exact Z) rfl rfl),z⟩
theorem vg{P:Sx.Pb}{b:Sx.Bo}(h:Gd P N b)(hc:c<N){xs:List Sl}(x:(.pv (bO P.n P.m b)::xs)[j]?=some (.fr (.int c))):
  ∃f:Option Nat,aY (bu 0 aZ) [] (cB (ab 0) (ai j)) (.pv (bO P.n P.m b)::xs)=some (.ok (.fr (oA f)),.pv (bO P.n P.m b)::xs)/\Sx.o9 P N b c P.m f:=by
 obtain⟨f,v,z⟩:=wu h hc;have hp:pl (oA f)=true:=by cases f<;>rfl
 have Z:cX (bu 0 aZ) (bO P.n P.m b) [.int c] (.fr (oA f)) (bO P.n P.m b):=yr (mV v hp);exact⟨f,aB (ae rfl (ae (El x) rfl)) (cG (as:=[.int c]) Z rfl rfl),z⟩
theorem AX(h:j<r.length):(Sx.gf r).getD j 0 =-r.getD j 0:=Sx.getD_map h
theorem AN{k:Nat}(h:j<k):(r.take k).getD j 0=r.getD j 0:=by simp[Rg,h]
abbrev NO:Ms:=av (aF 1 (aY (bu 0 bF) [] (cB (ab 0) (bp aO (cJ (nA (cE (mix Av (aJ aT (aC 1))) aH (bz (aJ aT (aC 1)))))))))) (av (eP (ag (az (jk false) (ab 1) (mC .non))) (av (aF 2 (bp cz (cB (mix (mix Av (aJ aT (aC 1))) (aJ aT (aC 1))) Pt))) (bB (fQ (J5 (mC (.str "best")) (ab 2) NI (LA (mix Av (aJ aT (aC 1)))))))) ba) (av (aF 3 (aY (bu 0 aZ) [] (cB (ab 0) (ai 1)))) (av (eP (ag (az (jk false) (ab 3) (mC .non))) (bB (fQ (fK (mC (.str "open")) NI Px))) ba) (dC (aM (bp aG (fK (aP "Board" "turn" 0) (ai 3) (ai 1))) (aM (aY (bu 0 aG) [] (fK (aP "Board" "turn" 0) (ai 3) (ai 1))) (bp aG (fK (bH "Board" "turn" (ab 0)) (ai 3) (ai 1)))))))))
variable{x1 x2 x3:Sl}
section
variable{c:List Int}{R:List (List Int)}{L:List Int}(fF:qS c R L)
include fF
theorem DD{b:Sx.Bo}(K:Sx.K2 (bW c R L) b)(h1:np x1=true)(h2:np x2=true)(h3:np x3=true):Wp NO (Hz c.length R.length b x1 x2 x3) λg Z=>
  (g=.nx/\∃J x1 x2 x3,Z=Hz c.length R.length J x1 x2 x3/\(np x1=true/\np x2=true/\np x3=true)/\Sx.K2 (bW c R L) J/\Sx.ms (bW c R L) (Sx.K2 (bW c R L)) (Sx.KH (bW c R L)) J<Sx.ms (bW c R L) (Sx.K2 (bW c R L)) (Sx.KH (bW c R L)) b) \/
  ∃t J xs,g=.rt (.fr t)/\Told c R L t/\Z=.pv (bO c.length R.length J)::xs:=by
 have ok:=K.1;have gd:=rD fF ok;have bb:Bb c.length R.length c.length b:=gd.bb;have hn:=fF.n;have h:(b.g.getD R.length []).length=c.length+1:=bb.sh.row (QN _);have gs:∀xs:List Sl,bp aO (cJ (nA (cE (mix Av (aJ aT (aC 1))) aH (bz (aJ aT (aC 1)))))) (.pv (bO c.length R.length b)::xs)=some (.ok (.nw (.lst ((Sx.gf ((b.g.getD R.length []).take c.length)).map A.int))),.pv (bO c.length R.length b)::xs):=λxs=>by refine aB (rs:=[.fr (lI ((b.g.getD R.length []).take c.length))]) (ae (n0 (iq (pI bb) (n:=c.length) (by simpa using h)) ?_) rfl) (jz (xW (by rw[RL,h];lia)) _);rw[<-SR];rfl
 have gl:(Sx.gf ((b.g.getD R.length []).take c.length)).length=c.length:=by rw[Sx.gf,QK,RL,h];lia
 have z:∀j,j<c.length->(Sx.gf ((b.g.getD R.length []).take c.length)).getD j 0 =-b.Gq R.length j:=λj N=>by rw[AX (by rw[RL,h];lia),AN N];rfl
 obtain⟨v,o,r⟩:=uC bb (gs:=Sx.gf ((b.g.getD R.length []).take c.length)) Q1 (λx hx=>by obtain⟨y,hy,rfl⟩:=Rh.mp hx;exact(bb.bg _ (Sx.getD_mem (by rw[bb.sh.g];lia)) y (Sm hy)).neg) (gs [x1,x2,x3]) rfl rfl
 refine Wp.st (aN o rfl rfl h1 rfl) ?_;rw[gl] at r;have ne:b.s≠0:=by have:=bb.pos;lia
 have H:L2.Bd 900 b.s:=bb.bs.mono Z3;have kp:=ok.keeps K.2;have E:∀xs:List Sl,NI (.pv (bO c.length R.length b)::xs)=some (.ok (.fr (nS c.length b.s λj=>Sx.vl (bW c R L) b c.length j)),.pv (bO c.length R.length b)::xs):=λxs=>OB (P:=bW c R L) gd;have p:∀xs:List Sl,LA (mix Av (aJ aT (aC 1))) (.pv (bO c.length R.length b)::xs)=some (.ok (.fr (nS R.length b.s λk=>Sx.Fc c.length b R.length ((c.length+k:Nat):Int))),.pv (bO c.length R.length b)::xs):=λxs=>KQ (P:=bW c R L) gd (ts:=b.g.getD R.length []) (by rw[h];show c.length<=_;lia) (pI bb) rfl rfl;rcases r with ⟨rfl,r⟩|⟨k,rfl,hk,r⟩
 .obtain⟨F,w,q,X⟩:=Sx.z7 ok λl hl=>by have hl:l<c.length:=hl;have:=r l hl;rw[z l hl] at this;show 0<=b.Gq R.length l;lia
  have s2:∀x2,np x2=true->aF 2 (bp cz (cB (mix (mix Av (aJ aT (aC 1))) (aJ aT (aC 1))) Pt)) (Hz c.length R.length b (.fr .non) x2 x3)=some (.nx,Hz c.length R.length b (.fr .non) (.fr (nm (cA (b.Gq R.length c.length) b.s))) x3):=λx2 h2=>aN (aB (ae (ah (pI bb) rfl (bK (.inl rfl) (lz h))) (ae (bI rfl) rfl)) (aQ (AI ne (bb.bs.mono Z3)) _)) rfl rfl h2 rfl
  refine Wp.sr (cN rfl (cv (s2 _ h2) (aK (fg (ae rfl (ae rfl (ae (E _) (ae (p _) rfl)))) rfl) rfl))) (.inr ⟨_,b,_,rfl,?_,rfl⟩);refine Told.best bb.pos H (λj N=>yO gd (QN _) _) (λk hk=>E6 gd (QN _) _) ((bb.gb (QN _) (QN _)).mono Z3) kp.nn (λk _=>w k) (λi hi=>by rw[RB];exact kp.le i hi) (λj N=>?_) F ?_
  .rw[RB];refine VA (q j N) (UY (Sx.bC λk _=>RB _ _))
  .exact W2 (Sx.bC λk _=>RB _ _) X
 .rw[z k hk] at r;obtain⟨B,G,d⟩:=vg gd (c:=k) hk (xs:=[.fr (.int k),x2,x3]) (j:=1) rfl;refine Wp.st (cb rfl rfl) (Wp.st (aN G rfl rfl h3 rfl) ?_);cases B with
  |none=>obtain⟨U,o2⟩:=Sx.BF ok hk (show b.Gq R.length k<0 by lia) d;refine Wp.sr (cN rfl (aK (fg (ae rfl (ae (E _) (ae (Oa (P:=bW c R L) gd hk) rfl))) rfl) rfl)) (.inr ⟨_,b,_,rfl,?_,rfl⟩);exact Told.opn bb.pos H (λj N=>yO gd (QN _) _) (λj N=>yO gd (Rk hk) _) kp.nn U.nn (λi hi=>by rw[RB];exact kp.le i hi) (λi hi=>by have:=U.le i hi;rwa[show ({ bW c R L with L:=λ_=>0 }:Sx.Pb).L i=0 from rfl,Rn] at this) o2
  |some a=>obtain⟨f,hp,hl⟩:=d;obtain⟨Q,lt⟩:=Sx.J0 K f hk hp (show b.Gq R.length k<0 by lia) hl;have I:=cG (i:=0) (Z:=Hz c.length R.length b (.fr (.int k)) x2 (.fr (.int a))) (tV bb (a:=a) (c:=k) f hk) rfl rfl;refine Wp.st (cb rfl rfl) (Wp.en (eM (bI (aB (rs:=[.rf 0,.fr (.int a),.fr (.int k)]) rfl I))) (.inl ⟨rfl,b.turn a k,.fr (.int k),x2,.fr (.int a),rfl,⟨rfl,h2,rfl⟩,Q,lt⟩))
theorem xw{b:Sx.Bo}(K:Sx.K2 (bW c R L) b):∃t J,cX ip (bO c.length R.length b) [] (.fr t) (bO c.length R.length J)/\Told c R L t:=by
 suffices ∃s o',cX ip (bO c.length R.length b) [] s o'/\∃t J,s=.fr t/\o'=bO c.length R.length J/\Told c R L t by obtain⟨s,o',v,t,J,rfl,rfl,h⟩:=this;exact⟨t,J,v,h⟩
 obtain⟨g,O,e,t,J,xs,rfl,l,rfl⟩:=i8 (t:=ag (mC (.bl true)))
  (λk Z=>∃J x1 x2 x3,Z=Hz c.length R.length J x1 x2 x3/\(np x1=true/\np x2=true/\np x3=true)/\Sx.K2 (bW c R L) J/\k=Sx.ms (bW c R L) (Sx.K2 (bW c R L)) (Sx.KH (bW c R L)) J)
  (λg Z=>∃t J xs,g=.rt (.fr t)/\Told c R L t/\Z=.pv (bO c.length R.length J)::xs) (by
   rintro k Z ⟨b1,x1,x2,x3,rfl,⟨h1,h2,h3⟩,K1,rfl⟩;refine .inr ⟨_,rfl,Wp.mono (DD fF K1 h1 h2 h3) ?_⟩;rintro g Z0 (⟨rfl,b2,E,Y,a,rfl,hy,K2,lt⟩|⟨t,b2,ys,rfl,l,rfl⟩)
   .exact .inl ⟨rfl,_,lt,b2,E,Y,a,rfl,hy,K2,rfl⟩
   .exact .inr ⟨_,(),rfl,t,b2,ys,rfl,l,rfl⟩) zK _ (Hz c.length R.length b .un .un .un) ⟨b,_,_,_,rfl,⟨rfl,rfl,rfl⟩,K,rfl⟩ (Jt fF.n fF.m _ _ _)
 exact cX.of (Wp.df (Wp.en (qV e) ⟨_,_,xs,rfl,rfl,t,J,rfl,rfl,l⟩))
end
theorem BL(P:Sx.Pb):xA P.n P.m (Sx.fM P)=Sx.bS P:=by
 unfold xA Sx.fM Sx.bS;have l1:((Q4 P.m).map λi=>((Q4 P.n).map λj=>P.R i j)++[P.L i]).length=P.m:=by simp
 congr 1
 rw[Ul l1,Sx.dr Q1,l1,S6,Rm]
 congr 1
 .refine RD λi _=>?_;show XF P.n (_++_)++[-1]++Wi P.n (_++_)=_;rw[Ul Z5,Wy Z5,QJ];rfl
 .show [XF P.n (_++_)++[0]++Wi P.n (_++_)]=_;rw[Ul Z5,Wy Z5,QJ];rfl
abbrev nC(n m:Nat)(b:Sx.Bo)(x1 x2:Sl):List Sl:=[.pv (bO n m b),x1,x2]
abbrev N9:Mi Bool:=ag (wb false ["Board"] 0 "down" (B2 (SX 0)))
theorem MQ{n m:Nat}{b:Sx.Bo}{t:Bool}(l:decide (-1∈b.dn)=t)(xs:List Sl):N9 (.pv (bO n m b)::xs)=some (.ok t,.pv (bO n m b)::xs):=by
 refine au ?_;have h1:(fv (.int (-1))&&(b.dn.map A.int).all fv)=true:=by rw[UP];simp[fv]
 have e:=rL (-1) b.dn;unfold Iy at e;rw[Zt h1,l] at e;refine W2 (Zt h1) ?_;exact Zx (λo:Option Rr=>o.map λq=>(RF q,Sl.pv (bO n m b)::xs)) e
abbrev Pu:Mi Rr:=gy ["Board"] 0 "down" (B2 (SX 0))
theorem OE{n m:Nat}{b:Sx.Bo}(h:-1∈b.dn)(xs:List Sl):Pu (.pv (bO n m b)::xs)=some (.ok (.fr (.int (Sx.bZ b))),.pv (bO n m b)::xs):=by show (match eu (b.dn.map A.int) with|some ns=>(match sN ns (-1) with|some j=>some (RF (Rr.fr (.int j)),_)|none=>none)|none=>none)=_;rw[fU];dsimp only;rw[pJ h];rfl
abbrev OD:Ms:=av (aF 1 (mix Av Pu)) (av (aF 2 (aY (bu 0 bF) [] (cB (ab 0) (nA (cE (ab 1) aH (bz (aJ aT (aC 1)))))))) (av (eP (ag (az (jk false) (ab 2) (mC .non))) (bB (LA (bp aO (cJ (ai 1))))) ba) (dC (aM (bp aG (fK (aP "Board" "turn" 0) (aY (bu 0 aZ) [] (cB (ab 0) (ai 2))) (ai 2))) (aM (aY (bu 0 aG) [] (fK (aP "Board" "turn" 0) (aY (bu 0 aZ) [] (cB (ab 0) (ai 2))) (ai 2))) (bp aG (fK (bH "Board" "turn" (ab 0)) (aY (bu 0 aZ) [] (cB (ab 0) (ai 2))) (ai 2))))))))
def Kf(P:Sx.Pb)(b:Sx.Bo):Prop:=Sx.Ok P (P.n+1) b/\Sx.Lp P (P.n+1) b
section
variable{c:List Int}{R:List (List Int)}{L:List Int}(fF:qS c R L)
include fF
theorem EI{b:Sx.Bo}(K:Sx.K1 (bW c R L) b)(h1:np x1=true)(h2:np x2=true):Wp OD (nC c.length R.length b x1 x2) λg Z=>
  (g=.nx/\∃J x1 x2,Z=nC c.length R.length J x1 x2/\(np x1=true/\np x2=true)/\((Sx.K1 (bW c R L) J/\Sx.ms (bW c R L) (Sx.K1 (bW c R L)) (Sx.GZ (bW c R L)) J<Sx.ms (bW c R L) (Sx.K1 (bW c R L)) (Sx.GZ (bW c R L)) b)\/(Kf (bW c R L) J /\ -1∉J.dn))) \/
  ∃a J xs,g=.rt (.fr a)/\Told c R L (.tup [.str "none",a])/\a≠.non/\Z=.pv (bO c.length R.length J)::xs:=by
 have ok:=K.1;have gd:=rD fF ok;have bb:Bb c.length R.length (c.length+1) b:=gd.bb;have hn:=fF.n;have hl:Sx.bZ b<R.length:=Sx.iC K;have O:=Sx.jh K;have h:(b.g.getD (Sx.bZ b) []).length=c.length+1+1:=bb.sh.row (Rk hl);refine Wp.st (U:=nC c.length R.length b (.fr (lI (b.g.getD (Sx.bZ b) []))) x2) (aN (ah (IE _ _) (OE K.2.2 _) (bK (.inl rfl) (BC (by rw[bb.sh.g];lia)))) rfl rfl h1 rfl) ?_;have gl:((b.g.getD (Sx.bZ b) []).take (c.length+1)).length=c.length+1:=by rw[RL,h];lia
 have C:nA (cE (ab 1) aH (bz (aJ aT (aC 1)))) (.pv (bO c.length R.length b)::[.fr (lI (b.g.getD (Sx.bZ b) [])),x2])=some (.ok (.fr (lI ((b.g.getD (Sx.bZ b) []).take (c.length+1)))),.pv (bO c.length R.length b)::[.fr (lI (b.g.getD (Sx.bZ b) [])),x2]):=by refine n0 (iq rfl (n:=c.length+1) (by simpa using h)) ?_;rw[<-SR];rfl
 obtain⟨v,o,q⟩:=uC bb (gs:=(b.g.getD (Sx.bZ b) []).take (c.length+1)) Q1 (λx hx=>bb.bg _ (Sx.getD_mem (by rw[bb.sh.g];lia)) x (Sm hx)) C rfl rfl;rw[gl] at q;have E:∀j,j<c.length+1->((b.g.getD (Sx.bZ b) []).take (c.length+1)).getD j 0=b.Gq (Sx.bZ b) j:=λj N=>by rw[AN N];rfl
 refine Wp.st (aN o rfl rfl h2 rfl) ?_;rcases q with ⟨rfl,q⟩|⟨k,rfl,hk,q⟩
 .obtain⟨F,w,X⟩:=Sx.yW ok K.2.1 (r:=Sx.bZ b) hl O λl H=>by have:=q l H;rwa[E l H] at this
  have en:bp aO (cJ (ai 1)) (.pv (bO c.length R.length b)::[.fr (lI (b.g.getD (Sx.bZ b) [])),.fr .non])=some (.ok (.nw (.lst ((Sx.gf (b.g.getD (Sx.bZ b) [])).map A.int))),.pv (bO c.length R.length b)::[.fr (lI (b.g.getD (Sx.bZ b) [])),.fr .non]):=aB (rs:=[.fr (lI (b.g.getD (Sx.bZ b) []))]) rfl (jz (xW Q1) _);have p:LA (bp aO (cJ (ai 1))) (.pv (bO c.length R.length b)::[.fr (lI (b.g.getD (Sx.bZ b) [])),.fr .non])=some (.ok (.fr (nS R.length b.s λk=>Sx.su (c.length+1) λl=>if b.Aq l=((c.length+k:Nat):Int) then (Sx.gf (b.g.getD (Sx.bZ b) [])).getD l 0 else 0)),.pv (bO c.length R.length b)::[.fr (lI (b.g.getD (Sx.bZ b) [])),.fr .non]):=KQ (P:=bW c R L) gd (ts:=Sx.gf (b.g.getD (Sx.bZ b) [])) (by show c.length+1<=_;rw[Sx.gf,QK,h];lia) en rfl rfl;have eq:∀k:Nat,(Sx.su (c.length+1) λl=>if b.Aq l=((c.length+k:Nat):Int) then (Sx.gf (b.g.getD (Sx.bZ b) [])).getD l 0 else 0) =-Sx.Fc (c.length+1) b (Sx.bZ b) ((c.length+k:Nat):Int):=λk=>by
   unfold Sx.Fc;rw[<-R8,<-Sx.cF];refine Sx.bC λl hl=>?_;rw[AX Q1];split
   .rw[R8];rfl
   .rfl
  simp only[eq] at p;refine Wp.sr (cN rfl (aK p rfl)) (.inr ⟨_,b,_,rfl,?_,(λz=>nomatch z),rfl⟩);refine Told.non bb.pos (bb.bs.mono Z3) (λk hk=>(E6 gd (Rk hl) _).neg) (λk _=>F k) (λj N=>?_) ?_
  .exact VA (w j N) (UY (Sx.bC λk _=>RB _ _))
  .exact Int.lt_of_le_of_lt (UY (Sx.bC λk _=>RB _ _)) X
 .rw[E k hk] at q;obtain⟨B,G,d⟩:=vg gd (c:=k) hk (xs:=[.fr (lI (b.g.getD (Sx.bZ b) [])),.fr (.int k)]) (j:=2) rfl;cases B with
  |none=>have:=d (Sx.bZ b) hl;lia
  |some a=>
   obtain⟨f,hp,t⟩:=d;have I:=cG (i:=0) (Z:=nC c.length R.length b (.fr (lI (b.g.getD (Sx.bZ b) []))) (.fr (.int k))) (tV bb (a:=a) (c:=k) f hk) rfl rfl;refine Wp.st (cb rfl rfl) (Wp.en (eM (bI (aB (rs:=[.rf 0,.fr (.int a),.fr (.int k)]) (ae rfl (ae G rfl)) I))) (.inl ⟨rfl,b.turn a k,_,_,rfl,⟨rfl,rfl⟩,?_⟩));by_cases e:a=Sx.bZ b
   .refine .inr ⟨⟨ok.turn f hk Q1,Sx.Lp.turn ok K.2.1 f hk hp t⟩,λz=>?_⟩;have y:=ok.turn f hk (show b.Gq a k≠0 by lia);have m:-1∈(b.turn a k).ac:=by
     have Q:(b.turn a k).Aq k = -1:=by rw[Sx.Bo.ql ok.sh hk];unfold Sx.qp;rw[Zt rfl,e,O]
     rw[<-Q];exact y.Am hk
    exact(QQ.mp y.nd).2.2 _ m _ z rfl
   .obtain⟨Y,_,lt⟩:=Sx.Iq K f e hk hp q t;exact .inl ⟨Y,lt⟩
end
abbrev Pm(a c:Mi Rr):Mi Rr:=aM (bp aG (fK (aP "Board" "turn" 0) a c)) (aM (aY (bu 0 aG) [] (fK (aP "Board" "turn" 0) a c)) (bp aG (fK (bH "Board" "turn" (ab 0)) a c)))
abbrev NR(f:Ms)(n:Str):Ms:=dC (aM (bp f (cJ (aP "Board" n 0))) (aM (aY (bu 0 f) [] (cJ (aP "Board" n 0))) (bp f (cJ (bH "Board" n (ab 0))))))
abbrev PM:Mi Rr:=bp dG (cJ (nA (aU 1 (cQ (cE Av aH (bz (aJ aT (aC 1))))) (aW 3) aV (mix (ab 3) (aJ aT (aC 1))))))
theorem Nv:dy=cq 2 (av (NR bf "put_helper") (av (dC (Pm PM (az ji (jy ["Board"] 0 "across") (aC 1)))) (av (g8 zK N9 OD) (av (NR a7 "drop_helper") (bB (mC .non)))))):=rfl
section
variable{c:List Int}{R:List (List Int)}{L:List Int}(fF:qS c R L)
include fF
theorem Hw(j:∃i,i<R.length/\L.getD i 0<0):∃s J,cX dy (bO c.length R.length (Sx.fM (bW c R L))) [] (.fr s) (bO c.length R.length J)/\((s=.non/\Sx.K2 (bW c R L) J)\/(s≠.non/\Told c R L (.tup [.str "none",s]))):=by
 have hn:=fF.n;have hm:=fF.m;have u:=rD fF (Sx.zh (bW c R L));have G:=rD fF (Sx.pE (bW c R L));have q:Bb c.length R.length (c.length+1) (Sx.bS (bW c R L)):=G.bb;have l1:NR bf "put_helper" (nC c.length R.length (Sx.fM (bW c R L)) .un .un)=some (.nx,nC c.length R.length (Sx.bS (bW c R L)) .un .un):=by have e:=cG (as:=[]) (i:=0) (Z:=nC c.length R.length (Sx.fM (bW c R L)) .un .un) (L5 (n:=c.length) (m:=R.length) (N:=c.length) u.bb) rfl rfl;have U:=BL (bW c R L);have e2:xA c.length R.length (Sx.fM (bW c R L))=Sx.bS (bW c R L):=U;rw[e2] at e;exact eM (bI (aB (rs:=[.rf 0]) rfl e))
 have I:∀i,i<R.length->(Sx.bS (bW c R L)).Gq i (c.length+1)=L.getD i 0:=λi hi=>by have:=Sx.gH (P:=bW c R L) (i:=i) (l:=c.length+1) (Rk hi) (QN _);rw[Zt (show i<(bW c R L).m from hi),Zu (show ¬ c.length+1<(bW c R L).n by show ¬ c.length+1<c.length;lia),Zu (show c.length+1≠(bW c R L).n by show c.length+1≠c.length;lia)] at this;exact this
 obtain⟨C,Q,Y⟩:=j;have V:=q.sh.g;have ll:((((Sx.bS (bW c R L)).g.take R.length).map λ(r:List Int)=>r.getD (c.length+1) 0)).length=R.length:=by rw[QK,RL];lia
 obtain⟨a,va,f,E,p⟩:=Gk (ls:=((Sx.bS (bW c R L)).g.take R.length).map λ(r:List Int)=>r.getD (c.length+1) 0) Q1 Q1;rw[ll] at f E p;have lv:∀i,i<R.length->((((Sx.bS (bW c R L)).g.take R.length).map λ(r:List Int)=>r.getD (c.length+1) 0)).getD i 0=L.getD i 0:=λi hi=>by
  rw[Sx.getD_map (d:=[]) (by rw[RL];lia),<-I i hi];unfold Sx.Bo.Gq
  congr 1
  simp only[Rg,TM hi]
 have ex:=bG (e:=mix (ab 3) (aJ aT (aC 1))) (ts:=(Sx.bS (bW c R L)).g.take R.length) (k:=lI) (S:=nC c.length R.length (Sx.bS (bW c R L)) .un .un) (λr=>.int (r.getD (c.length+1) 0)) rfl (by rw[RL];lia) λr hr=>⟨_,ah rfl rfl (bK (.inl rfl) (lz (q.sh.r r (Sm hr)))),rfl⟩
 have ef:nA (aU 1 (cQ (cE Av aH (bz (aJ aT (aC 1))))) (aW 3) aV (mix (ab 3) (aJ aT (aC 1)))) (nC c.length R.length (Sx.bS (bW c R L)) .un .un)=some (.ok (.fr (lI (((Sx.bS (bW c R L)).g.take R.length).map λ(r:List Int)=>r.getD (c.length+1) 0))),nC c.length R.length (Sx.bS (bW c R L)) .un .un):=by
  refine n0 (bJ (rG (iq (IE _ _) (n:=R.length) (by simpa using V)) (as:=((Sx.bS (bW c R L)).g.take R.length).map lI) ?_) ex) ?_
  .rw[<-SR];rfl
  .unfold lI;rw[Rm];rfl
 have e2:az ji (jy ["Board"] 0 "across") (aC 1) (nC c.length R.length (Sx.bS (bW c R L)) .un .un)=some (.ok (.fr (.int c.length)),nC c.length R.length (Sx.bS (bW c R L)) .un .un):=by
  refine ah (x:=.fr (.int (((Sx.bS (bW c R L)).ac.map A.int).length:Nat))) (y:=.fr (.int 1)) rfl rfl (fu (o:=none) rfl rfl ?_);show some (Rr.fr (.int ((((Sx.bS (bW c R L)).ac.map A.int).length:Int)-1)))=_;rw[QK,q.sh.ac]
  congr 3;lia
 have et:=cG (i:=0) (Z:=nC c.length R.length (Sx.bS (bW c R L)) .un .un) (tV q (a:=a) (c:=c.length) f Q1) rfl rfl;have l2:dC (Pm PM (az ji (jy ["Board"] 0 "across") (aC 1))) (nC c.length R.length (Sx.bS (bW c R L)) .un .un)=some (.nx,nC c.length R.length ((Sx.bS (bW c R L)).turn a c.length) .un .un):=
  eM (bI (aB (rs:=[.rf 0,.fr (.int a),.fr (.int c.length)]) (ae rfl (ae (aB (ae ef rfl) (aQ va _)) (ae e2 rfl))) et))
 have X:L.getD a 0<0:=by have:=E C Q;rw[lv a f,lv C Q] at this;lia
 obtain⟨B,w⟩:=Sx.wY (P:=bW c R L) (a:=a) f X (λi hi=>by have:=E i hi;rwa[lv a f,lv i hi] at this) (λi hi h=>by have:=p i hi h;rwa[lv a f,lv i hi] at this);have m1:-1∈((Sx.bS (bW c R L)).turn a c.length).dn:=by
  have eB:((Sx.bS (bW c R L)).turn a c.length).Bq a = -1:=by rw[Sx.Bo.mH (Sx.pE (bW c R L)).sh f];unfold Sx.qp;rw[Zt rfl,Sx.pK (show c.length<(bW c R L).n+1 from Sd _),Zu (show ¬ c.length<(bW c R L).n from Q6 _)]
  rw[<-eB];exact B.Bm f
 suffices ∃s o',cX dy (bO c.length R.length (Sx.fM (bW c R L))) [] s o'/\∃t J,s=.fr t/\o'=bO c.length R.length J/\((t=.non/\Sx.K2 (bW c R L) J)\/(t≠.non/\Told c R L (.tup [.str "none",t]))) by obtain⟨s,o',v,t,J,rfl,rfl,z⟩:=this;exact⟨t,J,v,z⟩
 rw[Nv];refine cX.of (Wp.df (Wp.st l1 (Wp.st l2 ?_)));obtain⟨g,O,e,z⟩:=i8 (t:=N9) (b:=OD)
  (λk Z=>∃J x1 x2,Z=nC c.length R.length J x1 x2/\(np x1=true/\np x2=true)/\((Sx.K1 (bW c R L) J/\k=Sx.ms (bW c R L) (Sx.K1 (bW c R L)) (Sx.GZ (bW c R L)) J+1)\/(Kf (bW c R L) J /\ -1∉J.dn/\k=0)))
  (λg Z=>(g=.nx/\∃J x1 x2,Z=nC c.length R.length J x1 x2/\Kf (bW c R L) J /\ -1∉J.dn)\/∃a J xs,g=.rt (.fr a)/\Told c R L (.tup [.str "none",a])/\a≠.non/\Z=.pv (bO c.length R.length J)::xs) (by
   rintro k Z ⟨b1,x1,x2,rfl,⟨h1,h2⟩,z⟩;rcases z with ⟨K,rfl⟩|⟨K,nm,rfl⟩
   .refine .inr ⟨_,MQ (Zw K.2.2) _,Wp.mono (EI fF K h1 h2) ?_⟩;rintro g Z0 (⟨rfl,b2,D,T,rfl,hy,z⟩|z)
    .rcases z with ⟨K2,lt⟩|⟨K2,nm⟩
     .exact .inl ⟨rfl,_,Nat.succ_lt_succ lt,b2,D,T,rfl,hy,.inl ⟨K2,rfl⟩⟩
     .exact .inl ⟨rfl,0,Nat.succ_pos _,b2,D,T,rfl,hy,.inr ⟨K2,nm,rfl⟩⟩
    .obtain⟨a,b2,ys,rfl,z⟩:=z;exact .inr ⟨_,(),rfl,.inr ⟨a,b2,ys,rfl,z⟩⟩
   .exact .inl ⟨_,MQ (Zv nm) _,.inl ⟨rfl,b1,x1,x2,rfl,K,nm⟩⟩) zK _ (nC c.length R.length ((Sx.bS (bW c R L)).turn a c.length) .un .un) ⟨_,_,_,rfl,⟨rfl,rfl⟩,.inl ⟨⟨B,w,m1⟩,rfl⟩⟩ (by refine uq ?_;unfold Sx.ms;refine RG (T6 VL) ?_;rw[lW];refine RG (T6 (R7 Z3 (show (bW c R L).n+(bW c R L).m+1<=19 by show c.length+R.length+1<=19;lia))) ?_;decide +kernel)
 rcases z with ⟨rfl,b2,x1,x2,rfl,K,nm⟩|⟨t,b2,xs,rfl,ht,F,rfl⟩
 .have ok:=K.1;have gd:=rD fF ok;have H:-1∈b2.ac:=by
   have:=(ok.nm (-1)).mpr (by rw[Zu (show (bW c R L).n+1≠(bW c R L).n by lia)];lia);rcases QP.mp this with z|z
   .exact z
   .exact absurd z nm
  have hl:=RU H;have hA:b2.Aq (b2.ac.idxOf (-1)) = -1:=by simp only[Sx.Bo.Aq,Rg,Q5 hl,S8];exact UD hl
  rw[ok.sh.ac] at hl;have bb:Bb c.length R.length (c.length+1) b2:=gd.bb;have ed:=cG (as:=[]) (i:=0) (Z:=nC c.length R.length b2 x1 x2) (IM bb H) rfl rfl;have l5:NR a7 "drop_helper" (nC c.length R.length b2 x1 x2)=some (.nx,nC c.length R.length (b2.drop (b2.ac.idxOf (-1))) x1 x2):=eM (bI (aB (rs:=[.rf 0]) rfl ed));exact Wp.st (qV e) (Wp.st l5 (Wp.en (aK rfl rfl) ⟨_,_,[x1,x2],rfl,rfl,.non,b2.drop (b2.ac.idxOf (-1)),rfl,rfl,.inl ⟨rfl,Sx.Dm ok hl hA,Sx.CI ok K.2 hl hA⟩⟩))
 .exact Wp.sr (qV e) ⟨_,_,xs,rfl,rfl,t,b2,rfl,rfl,.inr ⟨F,ht⟩⟩
end
theorem og:∀bs:List Bool,gO (bs.map A.bl)=some bs
 |[]=>rfl
 |b::bs=>by rw[Rv,gO,og bs]
theorem FU(ts:List T)(p:T->Bool):kQ (λbs=>VP bs id) (.lst (ts.map λx=>.bl (p x)))=some (.fr (.bl (ts.any p))):=by
 have e:(ts.map λx=>A.bl (p x))=(ts.map p).map A.bl:=by rw[Rm];rfl
 unfold kQ;dsimp only;rw[e,og];dsimp only;rw[Vx];rfl
theorem ML{s:A}(h:s≠.non)(Z:List Sl):my (jk true) (.fr s) (.fr .non) Z=some (.ok (.fr (.bl true)),Z):=by cases s<;>first|exact absurd rfl h|rfl
section
variable{c:List Int}{R:List (List Int)}{L:List Int}(fF:qS c R L)
include fF
abbrev FV(c:List Int)(R:List (List Int))(L:List Int)(b:Sx.Bo)(D:Sl):List Sl:=[.fr (lI c),.fr (gI R),.fr (lI L),.lv (bO c.length R.length b),D]
theorem yc:∃t,Val rE [lI c,gI R,lI L] t/\Told c R L t:=by
 have hm:=fF.m;have hl:=fF.l;have Y:aF 3 (oJ "Board" dA [] (fK (ai 0) (ai 1) (ai 2))) [.fr (lI c),.fr (gI R),.fr (lI L),.un,.un]=some (.nx,FV c R L (Sx.fM (bW c R L)) .un):=aN (CK (ae rfl (ae rfl (ae rfl rfl))) (zg fF _)) rfl rfl rfl rfl;have ex:=bG (e:=az iH (ab 5) (aC 0)) (ts:=L) (k:=A.int) (S:=FV c R L (Sx.fM (bW c R L)) .un) (λx=>.bl (decide (x<0))) rfl Q1 λx hx=>⟨_,ah rfl rfl (fS rfl _),rfl⟩
 have an:∀t,L.any (λx=>decide (x<0))=t->ag (cP (kQ λbs=>VP bs id) (aU 1 (cQ (ab 2)) (aW 5) aV (az iH (ab 5) (aC 0)))) (FV c R L (Sx.fM (bW c R L)) .un)=some (.ok t,FV c R L (Sx.fM (bW c R L)) .un):=λt y=>by exact au (fG (bJ rfl ex) (qi rfl (by rw[FU,y])))
 have fin:∀b D,Sx.K2 (bW c R L) b->np D=true->∃t,Wp (bB (bp ip (cJ (ab 3)))) (FV c R L b D) (λg _=>g=.rt (.fr t))/\Told c R L t:=λb D K h4=>by obtain⟨t,J,v,y⟩:=xw fF K;exact⟨t,Wp.en (aK (aB rfl (cG v rfl rfl)) rfl) rfl,y⟩
 by_cases H:∃i,i<R.length/\L.getD i 0<0
 .have I:L.any (λx=>decide (x<0))=true:=by obtain⟨i,hi,h⟩:=H;exact Wo.mpr ⟨_,dI (show i<L.length by lia),Zw h⟩
  obtain⟨s,J,v,z⟩:=Hw fF H;have j:=cG (i:=3) (Z:=FV c R L (Sx.fM (bW c R L)) .un) v rfl rfl;have q:aF 4 (bp dy (cJ (ab 3))) (FV c R L (Sx.fM (bW c R L)) .un)=some (.nx,FV c R L J (.fr s)):=aN (aB rfl j) rfl rfl rfl rfl;rcases z with ⟨rfl,K⟩|⟨F,y⟩
  .obtain⟨t,w,y⟩:=fin J (.fr .non) K rfl;exact⟨t,Val.of (Wp.df (Wp.st Y (Wp.st (cN (an true I) (cv q (cb rfl rfl))) (Wp.mono w λg _ e=>by rw[e])))),y⟩
  .exact⟨.tup [.str "none",s],Val.of (Wp.df (Wp.st Y (Wp.sr (cN (an true I) (cv q (cN (au (ah rfl rfl (ML F _))) (aK (fg (ae rfl (ae rfl rfl)) rfl) rfl)))) rfl))),y⟩
 .have nn:=λi hi=>by
   by_cases z:0<=L.getD i 0
   .exact z
   .exact absurd ⟨i,hi,by lia⟩ H
  have I:L.any (λx=>decide (x<0))=false:=by rw[TB];intro x hx;obtain⟨i,hi,rfl⟩:=R9 hx;have:=nn i Q1;simp only[Rg,Q5 hi,S8] at this;simp;exact this
  obtain⟨t,w,y⟩:=fin _ .un ⟨Sx.zh (bW c R L),Sx.Gp nn⟩ rfl;exact⟨t,Val.of (Wp.df (Wp.st Y (Wp.st (cb (an false I) rfl) (Wp.mono w λg _ e=>by rw[e])))),y⟩
theorem Hq:∃t,Val kn [lI c,gI R,lI L] t/\Told c R L t:=by
 have hn:=fF.n;have hm:=fF.m;obtain⟨t,v,y⟩:=yc fF;have lc:∀Z,cP cW (ab 0) (.fr (lI c)::Z)=some (.ok (.fr (.int c.length)),.fr (lI c)::Z):=λZ=>by show some (RF (Rr.fr (.int (c.map A.int).length)),_)=_;rw[QK]
 have h:cP cW (ab 1) [.fr (lI c),.fr (gI R),.fr (lI L)]=some (.ok (.fr (.int R.length)),[.fr (lI c),.fr (gI R),.fr (lI L)]):=by show some (RF (Rr.fr (.int (R.map lI).length)),_)=_;rw[QK]
 have z:cP cW (ab 2) [.fr (lI c),.fr (gI R),.fr (lI L)]=some (.ok (.fr (.int R.length)),[.fr (lI c),.fr (gI R),.fr (lI L)]):=by show some (RF (Rr.fr (.int (L.map A.int).length)),_)=_;rw[QK,fF.l]
 have ne:∀(i:Nat) Z,my eY (.fr (.int i)) (.fr (.int i)) Z=some (.ok (.fr (.bl false)),Z):=λi Z=>by
  have e:eY (.int i) (.int i)=some (.fr (.bl false)):=by unfold eY;rw[oZ,Zw rfl];rfl
  exact fu (o:=none) rfl rfl e
 have ex:=bG (e:=az eY (cP cW (ab 3)) (cP cW (ab 0))) (ts:=R) (k:=lI) (S:=[.fr (lI c),.fr (gI R),.fr (lI L)]) (λx=>.bl false) rfl Q1 λr hr=>by
  have Y:cP cW (ab 3) ([.fr (lI c),.fr (gI R),.fr (lI L)]++[.fr (lI r)])=some (.ok (.fr (.int c.length)),[.fr (lI c),.fr (gI R),.fr (lI L)]++[.fr (lI r)]):=by show some (RF (Rr.fr (.int (r.map A.int).length)),_)=_;rw[QK,fF.r r hr]
  exact⟨_,ah Y (lc _) (ne _ _),rfl⟩
 refine⟨t,Val.of (Wp.df (Wp.st (cb (cU (au (ah (lc _) rfl (iU (b:=false) (Zv Q1) _))) (au (ah h rfl (iU (b:=false) (Zv Q1) _)))) rfl) (Wp.st (cb (au (ah z h (ne _ _))) rfl) (Wp.st (cb (au (fG (bJ rfl ex) (qi (r:=.fr (.bl false)) rfl ?_))) rfl) (Wp.en (aK (aB rfl (aQ v _)) rfl) rfl))))),y⟩;rw[FU R λ_=>false,TB.mpr Z5]
end
def EF(F:Ms)(Pr:Int->Prop):Prop:=∀(n:Int)(o:LO),Wl n o->n<2^36->X2 λ(r:Int)(o':LO)=>N3 (cX F o [] (.fr (.int r)) o') (Pr r) (Wl (n+10) o')
theorem pB:EF ck λr=>r.natAbs<=10^9:=λn o w hn=>by
 suffices ∃s o',cX ck o [] s o'/\∃r:Int,N3 (s=.fr (.int r)) (r.natAbs<=10^9) (Wl (n+10) o') by obtain⟨s,o',v,r,rfl,h1,h2⟩:=this;exact⟨r,o',v,h1,h2⟩
 obtain⟨e,x,e1,a1,b1,Q⟩:=tk 8 w Q1 Z3 Z3
 have L:∀(k:Int) t Z,decide (e<k)=t->ag (az iH (ab 1) (aC k)) (.pv x::.fr (.int e)::Z)=some (.ok t,.pv x::.fr (.int e)::Z):=λk t Z l=>au (ah rfl rfl (fS l _))
 refine cX.of (Wp.df (Wp.st (aN (aB (ae rfl (ae rfl rfl)) (e1 _)) rfl rfl rfl rfl) ?_))
 by_cases J:e<3
 .exact Wp.sr (cN (L 3 true _ (Zw J)) (aK rfl rfl)) ⟨_,x,_,rfl,rfl,0,rfl,by decide,Q.mono Q1⟩
 .refine Wp.st (cb (L 3 false _ (Zv J)) rfl) ?_
  by_cases F:e<7
  .obtain⟨O,o2,e2,B,b2,D⟩:=tk 9 Q Q1 Z3 Z3
   exact Wp.sr (cN (L 7 true _ (Zw F)) (aK (ah (aB (ae rfl (ae rfl rfl)) (e2 _)) rfl rfl) rfl)) ⟨_,o2,_,rfl,rfl,O-4,rfl,by lia,D.mono Q1⟩
  .obtain⟨O,o2,e2,B,b2,D⟩:=tk 2000000001 Q Q1 Z3 Z3
   have b:=pw 9 1000000000 Z3 Z3
   have y:∀Z,nA (az a9 (az bD (aC 2) (az qf (aC 10) (aC 9))) (aC 1)) Z=some (.ok (.fr (.int 2000000001)),Z):=λZ=>n0 (ah (ah rfl (b _) (m6 (yT Z3) (yT Z3) _)) rfl rfl) rfl
   exact Wp.st (cb (L 7 false _ (Zv F)) rfl) (Wp.en (aK (ah (aB (ae rfl (ae (y _) rfl)) (e2 _)) (b _) rfl) rfl) ⟨_,o2,_,rfl,rfl,O-1000000000,rfl,by lia,D.mono Q1⟩)
section
variable{a0 a1:Sl}{F:Ms}{Pr:Int->Prop}(hF:EF F Pr)
include hF
theorem rC{rest:List Sl}(hi:rest.length+3=i){n:Int}(w:Wl n o)(k:Nat)(hk:k<=20)(hn:n<2^34){mm:Mi Rr}(hm:mm (a0::a1::.lv o::rest)=some (.ok (.fr (.int k)),a0::a1::.lv o::rest)):
  X2 λ(ns:List Int)(o':LO)=>N4 (aU 1 (gC mm) (aW i) aV (bp F (cJ (ab 2))) (a0::a1::.lv o::rest)=some (.ok (.nw (.lst (ns.map A.int))),a0::a1::.lv o'::rest)) (ns.length=k) (∀x∈ns,Pr x) (Wl (n+10*k) o'):=by
 obtain⟨ys,O,h1,o',x,ns,rfl,_,s,rfl,h4,h5⟩:=fX (G:=aW i) (t:=aV) (e:=bp F (cJ (ab 2))) (as:=bP 0 k) (Z:=(a0::a1::.lv o::rest)++[.un])
  (λj acc Z=>X3 λ(o':LO)(x:Sl)(ns:List Int)=>N6 (Z=(a0::a1::.lv o'::rest)++[x]) (np x=true) (Wl (n+10*j) o') (acc=ns.map A.int) (ns.length=j) (∀x∈ns,Pr x)) ⟨o,.un,[],rfl,rfl,by simpa using w,rfl,rfl,λx hx=>by cases hx⟩ (by
   rintro j q acc Z V ⟨U,x,ns,rfl,hx,s,rfl,h4,h5⟩;obtain⟨N,rfl⟩:=BV V;obtain⟨r,o2,v,hr,D⟩:=hF _ _ s Q1;have b:aW i (.int (j:Nat)) ((a0::a1::.lv U::rest)++[x])=some ((a0::a1::.lv U::rest)++[.fr (.int (j:Nat))]):=kE (i:=i) (S:=a0::a1::.lv U::rest) (tl:=[]) (by simp;lia) hx;have c:bp F (cJ (ab 2)) ((a0::a1::.lv U::rest)++[.fr (.int (j:Nat))])=some (.ok (.fr (.int r)),(a0::a1::.lv o2::rest)++[.fr (.int (j:Nat))]):=aB (rs:=[.rf 2]) rfl (cG (as:=[]) (i:=2) (Z:=(a0::a1::Sl.lv U::rest)++[Sl.fr (A.int (j:Nat))]) (r:=Rr.fr (A.int r)) v rfl rfl);refine⟨(a0::a1::.lv U::rest)++[.fr (.int (j:Nat))],b,.inl ⟨_,.fr (.int r),(a0::a1::.lv o2::rest)++[.fr (.int (j:Nat))],.int r,_,rfl,c,rfl,o2,_,ns++[r],rfl,rfl,D.mono Q1,by rw[Rq];rfl,by simp[h4],λy hy=>?_⟩⟩;rcases QP.mp hy with z|z
   .exact h5 y z
   .rw[Q8.mp z];exact hr)
 rw[ly] at s h4;have e:=zu (n:=1) (by rw[ly];lia) h1;refine⟨ns,o',bJ (pU hm Q1) (e.trans ?_),h4,h5,s⟩;rw[show (a0::a1::Sl.lv o::rest).length=(a0::a1::Sl.lv o'::rest).length from rfl,Ul rfl]
end
theorem vx{r l:Int}{x:Num}(hr:0<r):r*x.1<=l*x.2↔uy (cA l r) x=false:=by
 have ne:r≠0:=by lia
 obtain⟨e1,e2⟩:=fz ne;have h:=(jE (t:=l) ne).1 hr;unfold uy;rw[decide_eq_false_iff_not];generalize cd l r=c at *;generalize (cA l r).1=a at *;generalize (cA l r).2=b at *;subst e1;subst e2;rw[show c*b*x.1=c*(x.1*b) by grind,show c*a*x.2=c*(a*x.2) by grind,UN];exact⟨λz=>TK z h,λz=>RO z (R5 h)⟩
theorem vG{r l:Int}{x:Num}(hr:r<0):r*x.1<=l*x.2↔uy x (cA l r)=false:=by
 have ne:r≠0:=by lia
 obtain⟨e1,e2⟩:=fz ne;have h:=(jE (t:=l) ne).2 hr;unfold uy;rw[decide_eq_false_iff_not];generalize cd l r=c at *;generalize (cA l r).1=a at *;generalize (cA l r).2=b at *;subst e1;subst e2;have e:c*b*x.1 = -((-c)*(x.1*b)):=by grind
 have k:c*a*x.2 = -((-c)*(a*x.2)):=by grind
 rw[e,k,UN,Int.neg_le_neg_iff];exact⟨λz=>TK z Q1,λz=>RO z Q1⟩
variable{p:Int}
theorem lj{r l:Int}(hs:0<s):r*(cA p s).1<=l*(cA p s).2↔r*p<=l*s:=by
 have ne:s≠0:=by lia
 obtain⟨e1,e2⟩:=fz ne;have h:=(jE (t:=p) ne).1 hs;generalize cd p s=c at *;generalize (cA p s).1=a at *;generalize (cA p s).2=b at *;subst e1;subst e2;rw[show r*(c*a)=c*(r*a) by grind,show l*(c*b)=c*(l*b) by grind];exact⟨λz=>RO z (R5 h),λz=>TK z h⟩
theorem dW{x y:Num}(hx:Ok x)(hy:Ok y):uy y x=false↔nv x<=nv y:=by rw[<-Bool.not_eq_true,lA hy hx,Rat.not_lt]
theorem LI{x:Num}(hx:Ok x):nv (0,1)<=nv x↔0<=x.1:=by rw[<-dW CD hx];unfold uy;rw[decide_eq_false_iff_not];rw[SA,S5,UN]
abbrev eK(r L:List Int)(k:Nat):Num:=cA (L.getD k 0) (r.getD k 0)
def hA:Option Num->A
 |none=>.non
 |some h=>nm h
def Ih(r L:List Int)(i:Nat):Option Num->Prop
 |none=>∀k,k<i->r.getD k 0<=0
 |some h=>NB 900 h/\(∀k,k<i->0<r.getD k 0->nv h<=nv (eK r L k))/\∃k,k<i/\0<r.getD k 0/\h=eK r L k
structure Iv(r L:List Int)(i:Nat)(low:Num)(hi:Option Num):Prop where
 nl:NB 900 low
 z:nv (0,1)<=nv low
 l1:∀k,k<i->r.getD k 0<0->nv (eK r L k)<=nv low
 l2:low=(0,1)\/∃k,k<i/\r.getD k 0<0/\low=eK r L k
 h:Ih r L i hi
variable{hi:Option Num}
theorem Ih.skip(h:Ih r L i hi)(hr:r.getD i 0<=0):Ih r L (i+1) hi:=by
 cases hi with
 |none=>
  intro k hk;by_cases e:k=i
  .rw[e];exact hr
  .exact h k Q1
 |some a=>
  obtain⟨h1,h2,k,h3,h4⟩:=h;refine⟨h1,λk hk hp=>?_,k,by lia,h4⟩;by_cases e:k=i
  .rw[e] at hp;lia
  .exact h2 k Q1 hp
variable{low:Num}
theorem lu(h:∀k,k<i->r.getD k 0<0->nv (eK r L k)<=nv low)(hr:0<=r.getD i 0\/nv (eK r L i)<=nv low):∀k,k<i+1->r.getD k 0<0->nv (eK r L k)<=nv low:=λk hk hp=>by
 by_cases e:k=i
 .rw[e] at hp ⊢;rcases hr with z|z
  .lia
  .exact z
 .exact h k Q1 hp
abbrev Nw:Ms:=av (eP (eW (ag (az m5 (ab 4) (aC 0))) (ag (az iH (ab 5) (aC 0)))) (bB (mC .non)) ba) (eP (ag (az eY (ab 4) (aC 0))) (av (aF 6 (bp dR (cB (ai 5) (ai 4)))) (av (eP (eW (ag (az jV (ab 4) (aC 0))) (iT (ag (az (jk false) (ab 3) (mC .non))) (ag (bp bT (cB (ai 6) (ai 3)))))) (aF 3 (ab 6)) ba) (eP (eW (ag (az iH (ab 4) (aC 0))) (ag (bp bT (cB (ai 2) (ai 6))))) (aF 2 (ab 6)) ba))) ba)
abbrev ow(r L:List Int)(low:Num)(hi:Option Num)(D x5 h:Sl):List Sl:=[.fr (lI r),.fr (lI L),.fr (nm low),.fr (hA hi),D,x5,h]
variable{x6:Sl}
theorem CF(s:i<r.length)(B:i<L.length)(br:∀x∈r,x.natAbs<=10^9)(T:∀x∈L,x.natAbs<=10^9)(h:Iv r L i low hi)(R:r.getD i 0=0->0<=L.getD i 0)(V:np x6=true):
  Wp Nw (ow r L low hi (.fr (.int (r.getD i 0))) (.fr (.int (L.getD i 0))) x6) λf Z=>f=.nx/\∃y p x6,Z=ow r L y p (.fr (.int (r.getD i 0))) (.fr (.int (L.getD i 0))) x6/\np x6=true/\Iv r L (i+1) y p:=by
 have C:=N8 (br _ (dI s));have Y:=N8 (T _ (dI B));have D:∀z:r.getD i 0≠0,NB 900 (eK r L i):=λz=>NB.cA z Y C;have K:eK r L i=cA (L.getD i 0) (r.getD i 0):=rfl;generalize F:r.getD i 0=q at *;generalize hl:L.getD i 0=l at *;have Q:∀t x6,decide (q=0)=t->ag (az m5 (ab 4) (aC 0)) (ow r L low hi (.fr (.int q)) (.fr (.int l)) x6)=some (.ok t,ow r L low hi (.fr (.int q)) (.fr (.int l)) x6):=λt x6 o=>au (ah rfl rfl (iB o _));by_cases A:q=0
 .refine Wp.en (cv (cb (cL (Q true _ (Zw A)) (au (ah rfl rfl (fS (b:=false) (Zv (by have:=R A;lia)) _)))) rfl) (cb (au (ah rfl rfl (dk (b:=true) (Zw A) _))) rfl)) ⟨rfl,low,hi,x6,rfl,V,⟨h.nl,h.z,lu h.l1 (.inl Q1),?_,h.h.skip Q1⟩⟩;rcases h.l2 with z|⟨k,P,S⟩
  .exact .inl z
  .exact .inr ⟨k,by lia,S⟩
 .have en:=D A;have w:aF 6 (bp dR (cB (ai 5) (ai 4))) (ow r L low hi (.fr (.int q)) (.fr (.int l)) x6)=some (.nx,ow r L low hi (.fr (.int q)) (.fr (.int l)) (.fr (nm (eK r L i)))):=by rw[K];exact aN (aB (ae rfl (ae rfl rfl)) (aQ (uv A (C.mono Z3)) _)) rfl rfl V rfl
  refine Wp.st (cb (iw (Q false _ (Zv A))) rfl) ?_;have tg:∀t,decide (0<q)=t->∀low hi x6,ag (az jV (ab 4) (aC 0)) (ow r L low hi (.fr (.int q)) (.fr (.int l)) x6)=some (.ok t,ow r L low hi (.fr (.int q)) (.fr (.int l)) x6):=λt o low hi x6=>au (ah rfl rfl (iU o _));have tl:∀t,decide (q<0)=t->∀low hi x6,ag (az iH (ab 4) (aC 0)) (ow r L low hi (.fr (.int q)) (.fr (.int l)) x6)=some (.ok t,ow r L low hi (.fr (.int q)) (.fr (.int l)) x6):=λt o low hi x6=>au (ah rfl rfl (fS o _));have c:ag (az eY (ab 4) (aC 0)) (ow r L low hi (.fr (.int q)) (.fr (.int l)) x6)=some (.ok true,ow r L low hi (.fr (.int q)) (.fr (.int l)) x6):=au (ah rfl rfl (dk (b:=false) (Zv A) _));have X:low=(0,1)\/∃k,k<i+1/\r.getD k 0<0/\low=eK r L k:=by
   rcases h.l2 with z|⟨k,P,S⟩
   .exact .inl z
   .exact .inr ⟨k,by lia,S⟩
  by_cases J:0<q
  .have v:∀p,eP (eW (ag (az iH (ab 4) (aC 0))) (ag (bp bT (cB (ai 2) (ai 6))))) (aF 2 (ab 6)) ba (ow r L low p (.fr (.int q)) (.fr (.int l)) (.fr (nm (eK r L i))))=some (.nx,ow r L low p (.fr (.int q)) (.fr (.int l)) (.fr (nm (eK r L i)))):=λp=>cb (iw (tl false (Zv Q1) _ _ _)) rfl;have put:Iv r L i low hi->Ih r L (i+1) (some (eK r L i))->Iv r L (i+1) low (some (eK r L i)):=λh h2=>⟨h.nl,h.z,lu h.l1 (.inl Q1),X,h2⟩
   cases hi with
   |none=>
    refine Wp.en (cN c (cv w (cv (cN (cL (tg true (Zw J) _ _ _) (ye rfl)) (aN rfl rfl rfl rfl rfl)) (v (some (eK r L i)))))) ⟨rfl,low,some (eK r L i),_,rfl,rfl,put h ⟨en,λk hk hp=>?_,i,by lia,by lia,rfl⟩⟩;by_cases e:k=i
    .rw[e];exact TU
    .have:=h.h k Q1;lia
   |some a=>
    obtain⟨a1,H,j,m,O⟩:=h.h;have E:=mP en a1 Z3 Z3;cases d:uy (eK r L i) a with
    |true=>
     rw[d] at E;refine Wp.en (cN c (cv w (cv (cN (cL (tg true (Zw J) _ _ _) (cU rfl (au (aB rfl (aQ E _))))) (aN rfl rfl rfl rfl rfl)) (v (some (eK r L i)))))) ⟨rfl,low,some (eK r L i),_,rfl,rfl,put h ⟨en,λk hk hp=>?_,i,by lia,by lia,rfl⟩⟩;have lt:=(lA en.ok a1.ok).mp d;by_cases e:k=i
     .rw[e];exact TU
     .exact S7 (VM lt) (H k Q1 hp)
    |false=>
     rw[d] at E;refine Wp.en (cN c (cv w (cv (cb (cL (tg true (Zw J) _ _ _) (cU rfl (au (aB rfl (aQ E _))))) rfl) (v (some a))))) ⟨rfl,low,some a,_,rfl,rfl,⟨h.nl,h.z,lu h.l1 (.inl Q1),X,⟨a1,λk hk hp=>?_,j,by lia,O⟩⟩⟩;by_cases e:k=i
     .rw[e];exact(dW a1.ok en.ok).mp d
     .exact H k Q1 hp
  .have E:=mP h.nl en Z3 Z3;have s:eP (eW (ag (az jV (ab 4) (aC 0))) (iT (ag (az (jk false) (ab 3) (mC .non))) (ag (bp bT (cB (ai 6) (ai 3)))))) (aF 3 (ab 6)) ba (ow r L low hi (.fr (.int q)) (.fr (.int l)) (.fr (nm (eK r L i))))=some (.nx,ow r L low hi (.fr (.int q)) (.fr (.int l)) (.fr (nm (eK r L i)))):=cb (iw (tg false (Zv J) _ _ _)) rfl;cases d:uy low (eK r L i) with
   |true=>
    rw[d] at E;have lt:=(lA h.nl.ok en.ok).mp d;refine Wp.en (cN c (cv w (cv s (cN (cL (tl true (Zw Q1) _ _ _) (au (aB rfl (aQ E _)))) (aN rfl rfl rfl rfl rfl))))) ⟨rfl,eK r L i,hi,_,rfl,rfl,⟨en,S7 h.z (VM lt),λk hk hp=>?_,.inr ⟨i,by lia,by lia,rfl⟩,h.h.skip Q1⟩⟩;by_cases e:k=i
    .rw[e];exact TU
    .exact S7 (h.l1 k Q1 hp) (VM lt)
   |false=>rw[d] at E;exact Wp.en (cN c (cv w (cv s (cb (cL (tl true (Zw Q1) _ _ _) (au (aB rfl (aQ E _)))) rfl)))) ⟨rfl,low,hi,_,rfl,rfl,⟨h.nl,h.z,lu h.l1 (.inr ((dW en.ok h.nl.ok).mp d)),X,h.h.skip Q1⟩⟩
theorem uG{a:A}(h:(iI (r.map A.int) (L.map A.int))[i]?=some a):i<r.length/\i<L.length/\a=.tup [.int (r.getD i 0),.int (L.getD i 0)]:=by
 rw[fm,Rc] at h;cases e:(r.zip L)[i]? with
 |none=>rw[e] at h;cases h
 |some p=>rw[e] at h;cases h;rw[RZ] at e;obtain⟨e1,e2⟩:=e;refine⟨(QH.mp e1).1,(QH.mp e2).1,?_⟩;simp[Rg,e1,e2]
inductive nQ(r L:List Int):A->Prop
 |bad{k:Nat}(hk:k<r.length)(hr:r.getD k 0=0)(hL:L.getD k 0<0):nQ r L .non
 |part{low a:Num}(h:Iv r L r.length low (some a))(lt:nv a<nv low):nQ r L .non
 |ok{low:Num}{hi:Option Num}(h:Iv r L r.length low hi)(z:∀k,k<r.length->r.getD k 0=0->0<=L.getD k 0)(le:∀a,hi=some a->nv low<=nv a):nQ r L (.tup [nm low,hA hi])
theorem J9(hl:L.length=r.length)(br:∀x∈r,x.natAbs<=10^9)(C:∀x∈L,x.natAbs<=10^9):∃t,Val ib [lI r,lI L] t/\nQ r L t:=by
 suffices Wp (cq 5 (av (aF 2 (fQ (cB (aC 0) (aC 1)))) (av (aF 3 (mC .non)) (av (iG (hZ (ab 0) (ab 1)) (G2 4 5) Nw) (av (eP (eW (ag (az (jk true) (ab 3) (mC .non))) (ag (bp bT (cB (ai 3) (ai 2))))) (bB (mC .non)) ba) (bB (fQ (cB (ab 2) (ab 3))))))))) [.fr (lI r),.fr (lI L)] λg _=>X2 λ(t:A)(_:Unit)=>g=.rt (.fr t)/\nQ r L t by obtain⟨g,Z,e,t,_,rfl,h⟩:=this;exact⟨t,⟨Z,e⟩,h⟩
 have w:(iI (r.map A.int) (L.map A.int)).length=r.length:=by rw[fm,QK,Sv];lia
 have v:Iv r L 0 (0,1) none:=⟨Ob.mono Z3,TU,λk hk=>absurd hk (SW k),.inl rfl,λk hk=>absurd hk (SW k)⟩
 refine Wp.df (Wp.st (U:=[.fr (lI r),.fr (lI L),.fr (nm (0,1)),.un,.un,.un,.un]) (aN (fg (ae rfl (ae rfl rfl)) rfl) rfl rfl rfl rfl) (Wp.st (U:=ow r L (0,1) none .un .un .un) (aN rfl rfl rfl rfl rfl) ?_))
 let P:Nat->List Sl->Prop:=λi Z=>X5 λ(low:Num)(hi:Option Num)(D x5 x6:Sl)=>N4 (Z=ow r L low hi D x5 x6) (np D=true/\np x5=true) (np x6=true) (Iv r L i low hi)
 have go:∀i a Z,(r.getD i 0=0->0<=L.getD i 0)->(iI (r.map A.int) (L.map A.int))[i]?=some a->P i Z->∃U,G2 4 5 a Z=some U/\Wp Nw U λf Z0=>(f=.nx\/f=.ct)/\P (i+1) Z0:=by rintro i a Z Q V ⟨low,hi,D,x5,x6,rfl,⟨h4,h5⟩,o,F⟩;obtain⟨s,I,rfl⟩:=uG V;refine⟨_,lQ (S:=[.fr (lI r),.fr (lI L),.fr (nm low),.fr (hA hi)]) (tl:=[x6]) rfl h4 h5,Wp.mono (CF s I br C F Q o) ?_⟩;rintro f Z0 ⟨rfl,y,p,Y,rfl,hy,q⟩;exact⟨.inl rfl,y,p,_,_,Y,rfl,⟨rfl,rfl⟩,hy,q⟩
 rcases s9 (λk=>if r.getD k 0=0/\L.getD k 0<0 then 1 else 0) r.length with z|⟨t,m,K,H⟩
 .have X:∀k,k<r.length->r.getD k 0=0->0<=L.getD k 0:=λk hk R=>by
   have:=z k hk;by_cases c:L.getD k 0<0
   .rw[Zt ⟨R,c⟩] at this;lia
   .lia
  refine Wp.sq (Wp.fr (b:=Nw) P (show hZ (ab 0) (ab 1) _=some (.ok (iI (r.map A.int) (L.map A.int)),_) from rfl) ⟨_,_,_,_,_,rfl,⟨rfl,rfl⟩,rfl,v⟩ ?_ ?_)
  .intro i a Z V j
   have hi:i<r.length:=by rw[<-w];exact(QH.mp V).1
   exact go i a Z (X i hi) V j
  .rw[w]
   rintro O ⟨low,hi,D,x5,x6,rfl,⟨h4,h5⟩,o,F⟩
   refine⟨rfl,?_⟩
   cases hi with
   |none=>exact Wp.st (cb (iw rfl) rfl) (Wp.en (aK (fg (ae rfl (ae rfl rfl)) rfl) rfl) ⟨_,(),rfl,.ok F X λa e=>nomatch e⟩)
   |some a=>
    have E:=mP F.h.1 F.nl Z3 Z3;have B:ag (az (jk true) (ab 3) (mC .non)) (ow r L low (some a) D x5 x6)=some (.ok true,ow r L low (some a) D x5 x6):=rfl;cases d:uy a low with
    |true=>rw[d] at E;exact Wp.sr (cN (cL B (au (aB rfl (aQ E _)))) (aK rfl rfl)) ⟨_,(),rfl,.part F ((lA F.h.1.ok F.nl.ok).mp d)⟩
    |false=>rw[d] at E;refine Wp.st (cb (cL B (au (aB rfl (aQ E _)))) rfl) (Wp.en (aK (fg (ae rfl (ae rfl rfl)) rfl) rfl) ⟨_,(),rfl,.ok F X λb e=>?_⟩);cases e;exact(dW F.nl.ok F.h.1.ok).mp d
 .have u:r.getD t 0=0/\L.getD t 0<0:=by
   by_cases c:r.getD t 0=0/\L.getD t 0<0
   .exact c
   .exact absurd (Zu c) K
  refine Wp.Pk (Wp.stop (b:=Nw) (T:=t) P (show hZ (ab 0) (ab 1) _=some (.ok (iI (r.map A.int) (L.map A.int)),_) from rfl) Q1 ⟨_,_,_,_,_,rfl,⟨rfl,rfl⟩,rfl,v⟩ ?_ ?_)
  .intro i a Z hi V j
   refine go i a Z (λR=>?_) V j
   have:=H i hi
   by_cases c:L.getD i 0<0
   .rw[Zt ⟨R,c⟩] at this;lia
   .lia
  .rintro a Z V ⟨low,hi,D,x5,x6,rfl,⟨h4,h5⟩,o,F⟩
   obtain⟨s,I,rfl⟩:=uG V
   refine⟨_,lQ (S:=[.fr (lI r),.fr (lI L),.fr (nm low),.fr (hA hi)]) (tl:=[x6]) rfl h4 h5,?_⟩
   refine Wp.sr (cN (cL (au (ah rfl rfl (iB (Zw u.1) _))) (au (ah rfl rfl (fS (b:=true) (Zw u.2) _)))) (aK rfl rfl)) ⟨_,(),rfl,_,(),rfl,_,(),rfl,.bad s u.1 u.2⟩
section
variable{r L:List Int}{low:Num}{hi:Option Num}(h:Iv r L r.length low hi)
include h
theorem BU{x:Int}(hs:0<s)(x0:0<=x)(k:∀k,k<r.length->r.getD k 0*x<=L.getD k 0*s):nv low<=nv (cA x s)/\∀a,hi=some a->nv (cA x s)<=nv a:=by
 have ok:Ok (cA x s):=hR Q1;constructor
 .rcases h.l2 with e|⟨j,w,R,e⟩
  .rw[e,LI ok];by_cases c:(cA x s).1<0
   .have:=(yB hs).mp c;lia
   .lia
  .have z:=(vG R).mp ((lj hs).mpr (k j w));have z:uy (cA x s) (eK r L j)=false:=z;rw[<-e] at z;exact(dW h.nl.ok ok).mp z
 .rintro a rfl;obtain⟨a1,Z,j,w,R,e⟩:=h.h;have z:=(vx R).mp ((lj hs).mpr (k j w));have z:uy (eK r L j) (cA x s)=false:=z;rw[<-e] at z;exact(dW ok a1.ok).mp z
theorem FT(z:∀k,k<r.length->r.getD k 0=0->0<=L.getD k 0)(en:∀k,k<r.length->r.getD k 0≠0->Ok (eK r L k)){q:Num}(ok:Ok q)(h1:nv low<=nv q)(h2:∀a,hi=some a->nv q<=nv a):0<=q.1/\∀k,k<r.length->r.getD k 0*q.1<=L.getD k 0*q.2:=by
 refine⟨(LI ok).mp (S7 h.z h1),λk hk=>?_⟩;by_cases c:r.getD k 0=0
 .rw[c,S5];exact Tv (z k hk c) (R5 ok.1)
 .by_cases d:0<r.getD k 0
  .rw[vx d];refine(dW ok (en k hk c)).mpr ?_;cases hi with
   |none=>have:=h.h k hk;lia
   |some a=>exact S7 (h2 a rfl) (h.h.2.1 k hk d)
  .rw[vG Q1];exact(dW (en k hk c) ok).mpr (S7 (h.l1 k hk Q1) h1)
end
theorem yC{m:Nat}{y:Nat->Int}{a b:Int}(h:∀k,k<m->r.getD k 0*a<=L.getD k 0*b)(y0:∀k,k<m->0<=y k):a*(Sx.su m λk=>r.getD k 0*y k)<=b*Sx.su m λk=>L.getD k 0*y k:=by
 rw[<-Sx.cF,<-Sx.cF];refine Sx.DU λk hk=>?_;have:=Int.mul_le_mul_of_nonneg_right (h k hk) (y0 k hk)
 grind
theorem yk{f:Nat->Int}:Sx.su 1 f=f 0:=by unfold Sx.su Sx.su;lia
inductive T1(g:Int)(r L:List Int):A->Prop
 | best {s w:Int} {x y:Nat->Int} (hs:0<s) (bs:L2.Bd 900 s) (bw:L2.Bd 900 w) (x0:0<=x 0) (y0:∀k,k<r.length->0<=y k)
  (keep:∀k,k<r.length->r.getD k 0*x 0<=L.getD k 0*s) (cov:g*s<=Sx.su r.length λk=>r.getD k 0*y k)
  (e1:g*x 0=w) (e2:(Sx.su r.length λk=>L.getD k 0*y k)=w):T1 g r L (.tup [.str "best",nm (cA w s),nS 1 s x,nS r.length s y])
 | opn {s:Int} {x z:Nat->Int} (hs:0<s) (bs:L2.Bd 900 s) (hz:V9 1 z) (x0:0<=x 0) (z0:∀j,j<1->0<=z j)
  (keep:∀k,k<r.length->r.getD k 0*x 0<=L.getD k 0*s) (still:∀k,k<r.length->r.getD k 0*z 0<=0)
  (pd:0<g*z 0):T1 g r L (.tup [.str "open",nS 1 s x,nS 1 s z])
 | non {s:Int} {y:Nat->Int} (hs:0<s) (bs:L2.Bd 900 s) (hy:V9 r.length y) (y0:∀k,k<r.length->0<=y k)
  (cov:0<=Sx.su r.length λk=>r.getD k 0*y k) (less:(Sx.su r.length λk=>L.getD k 0*y k)<0):T1 g r L (.tup [.str "none",nS r.length s y])
theorem T1.of{g:Int}{t:A}(h:Told [g] (r.map λz=>[z]) L t):T1 g r L t:=by
 have ln:(r.map λz=>[z]).length=r.length:=QK _;have b:∀k,((r.map λz=>[z]).getD k []).getD 0 0=r.getD k 0:=λk=>by
  by_cases c:k<r.length
  .simp[Rg,c]
  .simp[Rg,c]
 have a:∀k (x:Nat->Int),(Sx.su [g].length λj=>((r.map λz=>[z]).getD k []).getD j 0*x j)=r.getD k 0*x 0:=λk x=>by show Sx.su 1 _=_;rw[yk,b]
 have I:∀x:Nat->Int,(Sx.su [g].length λj=>[g].getD j 0*x j)=g*x 0:=λx=>by show Sx.su 1 _=_;rw[yk];rfl
 cases h with
 |best hs bs hx hy bw x0 y0 keep cov e1 e2=>rw[ln] at *;refine .best hs bs bw (x0 0 (Uo)) y0 (λk hk=>by rw[<-a];exact keep k hk) ?_ (by rw[<-I];exact e1) e2;have:=cov 0 Uo;simp only[b] at this;exact this
 |opn hs bs hx hz x0 z0 keep still pd=>rw[ln] at *;exact .opn hs bs hz (x0 0 (Uo)) z0 (λk hk=>by rw[<-a];exact keep k hk) (λk hk=>by rw[<-a];exact still k hk) (by rw[<-I];exact pd)
 |non hs bs hy y0 cov less=>rw[ln] at *;refine .non hs bs hy y0 ?_ less;have:=cov 0 Uo;simp only[b] at this;exact this
section
variable{g:Int}{r L:List Int}{t:A}
theorem Gv(h:T1 g r L t)(no:∀x s:Int,0<s->0<=x->(∀k,k<r.length->r.getD k 0*x<=L.getD k 0*s)->False):X2 λ(s:Int)(y:Nat->Int)=>N4 (t=.tup [.str "none",nS r.length s y]) (0<s/\L2.Bd 900 s) (V9 r.length y) (∀k,k<r.length->0<=y k):=by
 cases h with
 |best hs bs bw x0 y0 keep cov e1 e2=>exact(no _ _ hs x0 keep).elim
 |opn hs bs hz x0 z0 keep still pd=>exact(no _ _ hs x0 keep).elim
 |non hs bs hy y0 cov less=>exact⟨_,_,rfl,⟨hs,bs⟩,hy,y0⟩
theorem v7(V:0<q)(hp:0<=p)(k:∀k,k<r.length->r.getD k 0*p<=L.getD k 0*q){y:Nat->Int}(y0:∀k,k<r.length->0<=y k)(cov:0<=Sx.su r.length λk=>r.getD k 0*y k)(less:(Sx.su r.length λk=>L.getD k 0*y k)<0):False:=by have z:=yC k y0;have a:=Tv hp cov;have b:=Vn V less;lia
theorem Gs(h:T1 g r L t)(V:0<q)(hp:0<=p)(k:∀k,k<r.length->r.getD k 0*p<=L.getD k 0*q)(J:0<g)(hn:∀k,k<r.length->r.getD k 0<=0):X3 λ(s:Int)(x z:Nat->Int)=>N4 (t=.tup [.str "open",nS 1 s x,nS 1 s z]) (0<s/\L2.Bd 900 s) (V9 1 z) (∀j,j<1->0<=z j):=by
 cases h with
 |@best s w x y hs bs bw x0 y0 keep cov e1 e2=>
  have a:=U3 J hs;have b:=Sx.rN λk hk=>by have:=Tv (show 0 <= -r.getD k 0 by have:=hn k hk;lia) (y0 k hk);rw[SE] at this;exact this
  have e:=Sx.cF (k:=r.length) (x:=-1) (f:=λk=>r.getD k 0*y k);simp only[SE,RY] at e b;lia
 |opn hs bs hz x0 z0 keep still pd=>exact⟨_,_,_,rfl,⟨hs,bs⟩,hz,z0⟩
 |non hs bs hy y0 cov less=>exact(v7 V hp k y0 cov less).elim
theorem Hy(h:T1 g r L t){q:Num}(ok:Ok q)(hp:0<=q.1)(k:∀k,k<r.length->r.getD k 0*q.1<=L.getD k 0*q.2)
  (up:0<g->∀x s:Int,0<s->0<=x->(∀k,k<r.length->r.getD k 0*x<=L.getD k 0*s)->q.2*x<=q.1*s)
  (dn:¬ 0<g->∀x s:Int,0<s->0<=x->(∀k,k<r.length->r.getD k 0*x<=L.getD k 0*s)->q.1*s<=q.2*x)
  (no:0<g->∃k,k<r.length/\0<r.getD k 0):X3 λ(s w:Int)(x:Nat->Int)=>∃y,N4 (t=.tup [.str "best",nm (cA w s),nS 1 s x,nS r.length s y]) (0<s) (NB 900 (cA w s)) (cA w s=DJ (g,1) q):=by
 cases h with
 |@best s w x y hs bs bw x0 y0 keep cov e1 e2=>
  refine⟨s,w,x,y,rfl,hs,NB.cA Q1 bw bs,?_⟩;have A:=ok.1;have ne:s≠0:=by lia
  refine FQ (hR ne) (Il (M4 g) ok) ?_;unfold DJ;rw[sX ne,sX (by rw[RY];lia),SU ne (by rw[RY];lia),RY];have b:=yC k y0;rw[e2] at b;have v:=RO cov hp;show w*q.2=g*q.1*s;have B:g*(q.2*x 0)<=g*(q.1*s):=by
   by_cases c:0<g
   .exact RO (up c _ _ hs x0 keep) (R5 c)
   .have:=RO (dn c _ _ hs x0 keep) (show 0 <= -g by lia);rw[SE,SE] at this;lia
  rw[<-e1] at b ⊢;generalize (Sx.su r.length λk=>r.getD k 0*y k)=S at *;have N:g*x 0*q.2=q.2*(g*x 0):=RB _ _;have T:g*(q.2*x 0)=q.2*(g*x 0):=by grind
  have I:g*q.1*s=g*(q.1*s):=TY _ _ _;have Z:q.1*(g*s)=g*(q.1*s):=by grind
  omega
 |@opn s x K hs bs hz x0 z0 keep still pd=>
  exfalso;have z:=z0 0 Z3;have J:0<g:=by
   by_cases c:0<g
   .exact c
   .have:=Tv (show 0 <= -g by lia) z;rw[SE] at this;lia
  obtain⟨j,a,R⟩:=no J;have i:0<K 0:=by
   rcases Int.lt_or_eq_of_le z with c|c
   .exact c
   .rw[<-c,Rn] at pd;lia
  have:=U3 R i;have:=still j a;lia
 |non hs bs hy y0 cov less=>exact(v7 ok.1 hp k y0 cov less).elim
end
abbrev NH:Ms:=eP (ag (az (jk false) (ab 9) (mC .non))) (Ca (iT (ag (az eY (mix (ab 8) (aC 0)) (mC (.str "none")))) (iT (ag (az eY (cP cW (ab 8)) (aC 2))) (gr (ag (bp bY (fK (mix (ab 8) (aC 1)) (ai 3) (mC (.bl false))))))))) (eP (eW (ag (az jV (ab 4) (aC 0))) (ag (az (jk false) (mix (ab 9) (aC 1)) (mC .non)))) (Ca (iT (ag (az eY (mix (ab 8) (aC 0)) (mC (.str "open")))) (iT (ag (az eY (cP cW (ab 8)) (aC 3))) (gr (ag (bp bY (fK (mix (ab 8) (aC 2)) (aC 1) (mC (.bl false))))))))) (av (aF 10 (bp i6 (cB (fQ (cB (ab 4) (aC 1))) (mix (ab 9) (cP tT (az jV (ab 4) (aC 0))))))) (Ca (iT (ag (az eY (mix (ab 8) (aC 0)) (mC (.str "best")))) (iT (ag (az eY (cP cW (ab 8)) (aC 4))) (iT (gr (ag (bp cy (cJ (mix (ab 8) (aC 1)))))) (ag (az eY (mix (ab 8) (aC 1)) (ab 10)))))))))
abbrev fO(sc:A)(x1 x2 x3 D x5 x6 z b a c:Sl):List Sl:=[.fr sc,x1,x2,x3,D,x5,x6,z,b,a,c]
theorem tJ(s:Str)(Z:List Sl):my eY (.fr (.str s)) (.fr (.str s)) Z=some (.ok (.fr (.bl false)),Z):=fu (o:=none) rfl rfl (by unfold eY;rw[CZ,Zw rfl];rfl)
variable{x7 x10:Sl}
theorem Dp{g:Int}{t u:A}(hl:L.length=r.length)(hr:r.length<=9)(bg:g.natAbs<=10^9)(T:T1 g r L t)(E:nQ r L u){sc:A}(i:np x10=true):
  Wp NH (fO sc x1 x2 (.fr (.int r.length)) (.fr (.int g)) x5 x6 x7 (.fr t) (.fr u) x10) λf Z=>f=.nx/\∃x10,Z=fO sc x1 x2 (.fr (.int r.length)) (.fr (.int g)) x5 x6 x7 (.fr t) (.fr u) x10/\np x10=true:=by
 have v:∀(k:Nat)(xs:List A)(a u:A) x10,xs[k]?=some a->mix (ab 8) (aC k) (fO sc x1 x2 (.fr (.int r.length)) (.fr (.int g)) x5 x6 x7 (.fr (.tup xs)) (.fr u) x10)=some (.ok (.fr a),fO sc x1 x2 (.fr (.int r.length)) (.fr (.int g)) x5 x6 x7 (.fr (.tup xs)) (.fr u) x10):=λk xs a u x10 e=>ah rfl rfl (bK (.inr rfl) (jm e));have key:u=.non->(∀x s:Int,0<s->0<=x->(∀k,k<r.length->r.getD k 0*x<=L.getD k 0*s)->False)->Wp NH (fO sc x1 x2 (.fr (.int r.length)) (.fr (.int g)) x5 x6 x7 (.fr t) (.fr u) x10) λf Z=>f=.nx/\∃x10,Z=fO sc x1 x2 (.fr (.int r.length)) (.fr (.int g)) x5 x6 x7 (.fr t) (.fr u) x10/\np x10=true:=by rintro rfl no;obtain⟨s,y,rfl,⟨hs,bs⟩,hy,y0⟩:=Gv T no;exact Wp.en (cN rfl (cb (cU (au (ah (v 0 _ _ _ _ rfl) rfl (tJ _ _))) (cU (au (ah (x:=.fr (.int 2)) rfl rfl (dk (b:=true) (Zw rfl) _))) (fJ (b:=true) (au (aB (ae (v 1 _ _ _ _ rfl) (ae rfl (ae rfl rfl))) (aQ (BO Q1 hs bs hy y0) _)))))) rfl)) ⟨rfl,_,rfl,i⟩
 cases E with
 |@bad k hk B hL=>refine key rfl λx s hs x0 h=>?_;have:=h k hk;rw[B,S5] at this;have:=Int.mul_neg_of_neg_of_pos hL hs;lia
 |part h lt=>refine key rfl λx s hs x0 k=>?_;obtain⟨F,R⟩:=BU h hs x0 k;exact absurd (S7 F (R _ rfl)) (Rat.not_le.mpr lt)
 |@ok low hi h z le=>
  have en:∀k,k<r.length->r.getD k 0≠0->Ok (eK r L k):=λk _ c=>hR c;obtain⟨S,O⟩:=FT h z en h.nl.ok TU le;have tg:∀b,decide (0<g)=b->∀x10,az jV (ab 4) (aC 0) (fO sc x1 x2 (.fr (.int r.length)) (.fr (.int g)) x5 x6 x7 (.fr t) (.fr (.tup [nm low,hA hi])) x10)=some (.ok (.fr (.bl b)),fO sc x1 x2 (.fr (.int r.length)) (.fr (.int g)) x5 x6 x7 (.fr t) (.fr (.tup [nm low,hA hi])) x10):=λb d x10=>ah rfl rfl (iU d _);have C:mix (ab 9) (aC 1) (fO sc x1 x2 (.fr (.int r.length)) (.fr (.int g)) x5 x6 x7 (.fr t) (.fr (.tup [nm low,hA hi])) x10)=some (.ok (.fr (hA hi)),fO sc x1 x2 (.fr (.int r.length)) (.fr (.int g)) x5 x6 x7 (.fr t) (.fr (.tup [nm low,hA hi])) x10):=ah rfl rfl (bK (.inr rfl) rfl);have Q:ag (az (jk false) (ab 9) (mC .non)) (fO sc x1 x2 (.fr (.int r.length)) (.fr (.int g)) x5 x6 x7 (.fr t) (.fr (.tup [nm low,hA hi])) x10)=some (.ok false,fO sc x1 x2 (.fr (.int r.length)) (.fr (.int g)) x5 x6 x7 (.fr t) (.fr (.tup [nm low,hA hi])) x10):=rfl;have X:∀(q:Num)(b:Bool),decide (0<g)=b->NB 900 q->(if b then hi=some q else low=q)->0<=q.1->(∀k,k<r.length->r.getD k 0*q.1<=L.getD k 0*q.2)->Wp NH (fO sc x1 x2 (.fr (.int r.length)) (.fr (.int g)) x5 x6 x7 (.fr t) (.fr (.tup [nm low,hA hi])) x10) λf Z=>f=.nx/\∃x10,Z=fO sc x1 x2 (.fr (.int r.length)) (.fr (.int g)) x5 x6 x7 (.fr t) (.fr (.tup [nm low,hA hi])) x10/\np x10=true:=by
   intro q b d N eq D Y;obtain⟨s,w,x,y,rfl,hs,nw,P⟩:=Hy T N.ok D Y (λJ x s hs x0 k=>by
    rw[<-d,Zw J] at eq;have p:=(dW (hR (Xb hs)) N.ok).mpr ((BU h hs x0 k).2 q eq);have p:=of_decide_eq_false p;exact(lj hs).mp (UN.mp p |> λz=>by rw[RB];exact z)) (λJ x s hs x0 k=>by
    rw[<-d,Zv J] at eq;have p:=(dW N.ok (hR (Xb hs))).mpr (by rw[<-show low=q from eq];exact(BU h hs x0 k).1);have p:=UN.mp (of_decide_eq_false p);have:=(lj (r:=-q.2) (l:=-q.1) (p:=x) (s:=s) hs).mp (by rw[SE,SE,RB q.2];lia);rw[SE,SE] at this;lia) (λJ=>by
    rw[<-d,Zw J] at eq;have eq:hi=some q:=eq;subst eq;obtain⟨_,_,j,H,K,_⟩:=h.h;exact⟨j,H,K⟩)
   have m:=Mp (N8 bg);have tb:ag (az jV (ab 4) (aC 0)) (fO sc x1 x2 (.fr (.int r.length)) (.fr (.int g)) x5 x6 x7 (.fr (.tup [.str "best",nm (cA w s),nS 1 s x,nS r.length s y])) (.fr (.tup [nm low,hA hi])) x10)=some (.ok b,fO sc x1 x2 (.fr (.int r.length)) (.fr (.int g)) x5 x6 x7 (.fr (.tup [.str "best",nm (cA w s),nS 1 s x,nS r.length s y])) (.fr (.tup [nm low,hA hi])) x10):=au (tg b d _);have co:eW (ag (az jV (ab 4) (aC 0))) (ag (az (jk false) (mix (ab 9) (aC 1)) (mC .non))) (fO sc x1 x2 (.fr (.int r.length)) (.fr (.int g)) x5 x6 x7 (.fr (.tup [.str "best",nm (cA w s),nS 1 s x,nS r.length s y])) (.fr (.tup [nm low,hA hi])) x10)=some (.ok false,fO sc x1 x2 (.fr (.int r.length)) (.fr (.int g)) x5 x6 x7 (.fr (.tup [.str "best",nm (cA w s),nS 1 s x,nS r.length s y])) (.fr (.tup [nm low,hA hi])) x10):=by
    cases b with
    |false=>exact iw tb
    |true=>have eq:hi=some q:=eq;subst eq;exact cL tb (au (ah C rfl rfl))
   have G:mix (ab 9) (cP tT (az jV (ab 4) (aC 0))) (fO sc x1 x2 (.fr (.int r.length)) (.fr (.int g)) x5 x6 x7 (.fr (.tup [.str "best",nm (cA w s),nS 1 s x,nS r.length s y])) (.fr (.tup [nm low,hA hi])) x10)=some (.ok (.fr (nm q)),fO sc x1 x2 (.fr (.int r.length)) (.fr (.int g)) x5 x6 x7 (.fr (.tup [.str "best",nm (cA w s),nS 1 s x,nS r.length s y])) (.fr (.tup [nm low,hA hi])) x10):=by
    cases b with
    |false=>have eq:low=q:=eq;subst eq;exact ah rfl (fG (tg _ d _) rfl) (bK (.inr rfl) rfl)
    |true=>have eq:hi=some q:=eq;subst eq;exact ah rfl (fG (tg _ d _) rfl) (bK (.inr rfl) rfl)
   refine Wp.en (cb Q (cb co (cv (aN (aB (ae (fg (ae rfl (ae rfl rfl)) rfl) (ae G rfl)) (aQ (DV m N Z3) _)) rfl rfl i rfl) (cb (cU (au (ah (v 0 _ _ _ _ rfl) rfl (tJ _ _))) (cU (au (ah (x:=.fr (.int 4)) rfl rfl (dk (b:=true) (Zw rfl) _))) (cU (fJ (b:=true) (au (aB (ae (v 1 _ _ _ _ rfl) rfl) (aQ (vK nw Z3) _)))) (au (ah (v 1 _ _ _ _ rfl) rfl (fu (o:=none) (r:=.fr (.bl false)) rfl rfl (by unfold eY;rw[P,vR];rfl))))))) rfl)))) ⟨rfl,_,rfl,rfl⟩
  by_cases c:0<g
  .cases hi with
   |some a=>obtain⟨a0,U⟩:=FT h z en h.h.1.ok (le a rfl) (λb e=>by cases e;exact TU);exact X a true (Zw c) h.h.1 rfl a0 U
   |none=>obtain⟨s,x,I,rfl,⟨hs,bs⟩,hz,z0⟩:=Gs T h.nl.ok.1 S O c h.h;exact Wp.en (cb Q (cN (cL (au (tg _ (Zw c) _)) (au (ah C rfl rfl))) (cb (cU (au (ah (v 0 _ _ _ _ rfl) rfl (tJ _ _))) (cU (au (ah (x:=.fr (.int 3)) rfl rfl (dk (b:=true) (Zw rfl) _))) (fJ (b:=true) (au (aB (ae (v 2 _ _ _ _ rfl) (ae rfl (ae rfl rfl))) (aQ (BO (n:=1) Z3 hs bs hz z0) _)))))) rfl))) ⟨rfl,_,rfl,i⟩
  .exact X low false (Zv c) h.nl rfl S O
abbrev Hg:Mi Rr:=aU 1 (cQ (ab 5)) (aW 11) aV (dj (cJ (ab 11)))
abbrev PD:Ms:=av (aF 2 (bp gR (cB (ai 0) (ai 1)))) (av (aF 3 (bp cj (cB (ab 2) (aC 7)))) (av (aF 4 (bp ck (cJ (ab 2)))) (av (aF 5 (aU 1 (gC (ab 3)) (aW 11) aV (bp ck (cJ (ab 2))))) (av (aF 6 (aU 1 (gC (ab 3)) (aW 11) aV (bp ck (cJ (ab 2))))) (av (aF 7 (dj (fK (dj (cJ (ab 4))) Hg (cP gE (ab 6))))) (av (aF 8 (bp kn (fK (mix (ab 7) (aC 0)) (mix (ab 7) (aC 1)) (mix (ab 7) (aC 2))))) (av (Ca (iT (ag (az eY (ab 7) (dj (fK (dj (cJ (ab 4))) Hg (ab 6))))) (gr (ag (cP (oT Ty.tuple) (ab 8)))))) (av (aF 9 (bp ib (cB (ai 5) (ai 6)))) NH))))))))
theorem qE(r:List Int):Dt 38 (lI r):=Dt.lst (yA.of λa f=>by obtain⟨j,_,rfl⟩:=Rh.mp f;exact Dt.int _)
theorem P7{n:Int}(m:Int)(w:Wl n o)(hn:n<2^40)(K:0<m)(q:m<2^64):X2 λ(r:Int)(o':LO)=>N4 (∀a0 a1 Z,fE cj [] [.rf 2,.fr (.int m)] (a0::a1::.lv o::Z)=some (.ok (.fr (.int r)),a0::a1::.lv o'::Z)) (0<=r) (r<m) (Wl (n+1) o'):=by obtain⟨r,o',h,h1,h2,h3⟩:=B5 w hn K q;exact⟨r,o',λa0 a1 Z=>cG h rfl rfl,h1,h2,h3⟩
theorem CQ{i:Int}(F:0<=i)(H:i<=1000){D s c:Sl}(h2:np x2=true)(h3:np x3=true)(h4:np D=true)(h5:np x5=true)(j:np x6=true)(K:np x7=true)(O:np s=true)(G:np c=true)(X:np x10=true):
  Wp PD (fO (.lst (ns.map A.int)) (.fr (.int i)) x2 x3 D x5 x6 x7 s c x10) λf Z=>f=.nx/\∃x2 x3 D x5 x6 x7 s c x10,Z=fO (.lst (ns.map A.int)) (.fr (.int i)) x2 x3 D x5 x6 x7 s c x10/\(np x2=true/\np x3=true/\np D=true/\np x5=true/\np x6=true/\np x7=true/\np s=true/\np c=true/\np x10=true):=by
 obtain⟨o,B,Q⟩:=HN ns i F H;generalize A.lst (ns.map A.int)=sc at B ⊢;obtain⟨u,C,e1,a1,b1,Q⟩:=P7 7 Q Z3 Z3 Z3;obtain⟨m,rfl⟩:∃m:Nat,u=m:=⟨u.toNat,by lia⟩
 obtain⟨g,o2,P,bg,I⟩:=pB _ _ Q Z3;refine Wp.st (U:=fO sc (.fr (.int i)) (.lv o) x3 D x5 x6 x7 s c x10) (aN (aB (ae rfl (ae rfl rfl)) (jz B _)) rfl rfl h2 rfl) ?_;refine Wp.st (U:=fO sc (.fr (.int i)) (.lv C) (.fr (.int m)) D x5 x6 x7 s c x10) (aN (aB (rs:=[.rf 2,.fr (.int 7)]) rfl (e1 _ _ _)) rfl rfl h3 rfl) ?_;refine Wp.st (U:=fO sc (.fr (.int i)) (.lv o2) (.fr (.int m)) (.fr (.int g)) x5 x6 x7 s c x10) (aN (aB (rs:=[.rf 2]) rfl (cG (as:=[]) (i:=2) (Z:=fO sc (.fr (.int i)) (.lv C) (.fr (.int m)) D x5 x6 x7 s c x10) (r:=Rr.fr (A.int g)) P rfl rfl)) rfl rfl h4 rfl) ?_;obtain⟨r,l,N,R,br,J⟩:=rC pB (a0:=.fr sc) (a1:=.fr (.int i)) (rest:=[.fr (.int m),.fr (.int g),x5,x6,x7,s,c,x10]) (i:=11) rfl I m Q1 Z3 (mm:=ab 3) rfl;refine Wp.st (U:=fO sc (.fr (.int i)) (.lv l) (.fr (.int m)) (.fr (.int g)) (.lv (.lst (r.map A.int))) x6 x7 s c x10) (aN N rfl rfl h5 rfl) ?_;obtain⟨L,p,d,lL,Y,w4⟩:=rC pB (a0:=.fr sc) (a1:=.fr (.int i)) (rest:=[.fr (.int m),.fr (.int g),.lv (.lst (r.map A.int)),x6,x7,s,c,x10]) (i:=11) rfl J m Q1 Q1 (mm:=ab 3) rfl;refine Wp.st (U:=fO sc (.fr (.int i)) (.lv p) (.fr (.int m)) (.fr (.int g)) (.lv (.lst (r.map A.int))) (.lv (.lst (L.map A.int))) x7 s c x10) (aN d rfl rfl j rfl) ?_;subst R;have cm:∀x6 x7 s c,gF 1 (aW 11) aV (dj (cJ (ab 11))) (r.map A.int) (fO sc (.fr (.int i)) (.lv p) (.fr (.int r.length)) (.fr (.int g)) (.fr (lI r)) x6 x7 s c x10)=some (.ok (.nw (.lst ((r.map λz=>[z]).map lI))),fO sc (.fr (.int i)) (.lv p) (.fr (.int r.length)) (.fr (.int g)) (.fr (lI r)) x6 x7 s c x10):=λx6 x7 s c=>by
  have:=bG (e:=dj (cJ (ab 11))) (ts:=r) (k:=A.int) (S:=fO sc (.fr (.int i)) (.lv p) (.fr (.int r.length)) (.fr (.int g)) (.fr (lI r)) x6 x7 s c x10) (i:=11) (λz=>lI [z]) rfl Q1 λz hz=>⟨.nw (.lst [.int z]),rfl,rfl⟩
  rw[this,Rm];rfl
 have e7:dj (fK (dj (cJ (ab 4))) Hg (cP gE (ab 6))) (fO sc (.fr (.int i)) (.lv p) (.fr (.int r.length)) (.fr (.int g)) (.lv (.lst (r.map A.int))) (.lv (.lst (L.map A.int))) x7 s c x10)=some (.ok (.nw (.lst [lI [g],gI (r.map λz=>[z]),lI L])),fO sc (.fr (.int i)) (.lv p) (.fr (.int r.length)) (.fr (.int g)) (.fr (lI r)) (.lv (.lst (L.map A.int))) x7 s c x10):=
  kz (rs:=[.nw (.lst [.int g]),.nw (.lst ((r.map λz=>[z]).map lI)),.nw (.lst (L.map A.int))]) (ae rfl (ae (bJ rfl (cm _ _ _ _)) (ae (fG rfl (qi (r:=.nw (.lst (L.map A.int))) rfl rfl)) rfl))) rfl
 refine Wp.st (U:=fO sc (.fr (.int i)) (.lv p) (.fr (.int r.length)) (.fr (.int g)) (.fr (lI r)) (.lv (.lst (L.map A.int))) (.lv (.lst [lI [g],gI (r.map λz=>[z]),lI L])) s c x10) (aN e7 rfl rfl K rfl) ?_;have fi:qS [g] (r.map λz=>[z]) L:=⟨show (1:Nat)<=9 by decide,by rw[QK];lia,by rw[QK];lia,λq V=>by obtain⟨z,_,rfl⟩:=Rh.mp V;rfl,λx hx=>by rw[Q8.mp hx];exact bg,λq V x hx=>by obtain⟨z,hz,rfl⟩:=Rh.mp V;rw[Q8.mp hx];exact br z hz,Y⟩
 obtain⟨t,v,ht⟩:=Hq fi;have T:=T1.of ht;obtain⟨xs,rfl⟩:∃xs,t=.tup xs:=by cases T<;>exact⟨_,rfl⟩
 obtain⟨te,vE,E⟩:=J9 (r:=r) (L:=L) Q1 br Y;have w:∀(k:Nat)(a:A),[lI [g],gI (r.map λz=>[z]),lI L][k]?=some a->mix (ab 7) (aC k) (fO sc (.fr (.int i)) (.lv p) (.fr (.int r.length)) (.fr (.int g)) (.fr (lI r)) (.lv (.lst (L.map A.int))) (.lv (.lst [lI [g],gI (r.map λz=>[z]),lI L])) s c x10)=some (.ok (.fr a),fO sc (.fr (.int i)) (.lv p) (.fr (.int r.length)) (.fr (.int g)) (.fr (lI r)) (.lv (.lst (L.map A.int))) (.lv (.lst [lI [g],gI (r.map λz=>[z]),lI L])) s c x10):=λk a e=>ah rfl rfl (bK (.inl rfl) (jm e));refine Wp.st (U:=fO sc (.fr (.int i)) (.lv p) (.fr (.int r.length)) (.fr (.int g)) (.fr (lI r)) (.lv (.lst (L.map A.int))) (.lv (.lst [lI [g],gI (r.map λz=>[z]),lI L])) (.fr (.tup xs)) c x10) (aN (aB (ae (w 0 _ rfl) (ae (w 1 _ rfl) (ae (w 2 _ rfl) rfl))) (aQ v _)) rfl rfl O rfl) ?_;have dh:Dt 40 (.lst [lI [g],gI (r.map λz=>[z]),lI L]):=Dt.lst (n:=39) (.cons ⟨_,(qE [g]).choose_spec.1,Ru (qE [g]).choose_spec.2 Z3⟩ (.cons (Dt.lst (n:=38) (yA.of λa ha=>by obtain⟨r,_,rfl⟩:=Rh.mp ha;exact qE r)) (.cons ⟨_,(qE L).choose_spec.1,Ru (qE L).choose_spec.2 Z3⟩ .nil)));have ne:∀Z:List Sl,Z[7]?=some (.lv (.lst [lI [g],gI (r.map λz=>[z]),lI L]))->my eY (.rf 7) (.nw (.lst [lI [g],gI (r.map λz=>[z]),lI L])) Z=some (.ok (.fr (.bl false)),Z):=λZ h=>fu (o:=none) (a:=.lst [lI [g],gI (r.map λz=>[z]),lI L]) (b:=.lst [lI [g],gI (r.map λz=>[z]),lI L]) (by unfold res;dsimp only;rw[h];rfl) rfl (by unfold eY;rw[Ao dh];rfl);refine Wp.st (U:=fO sc (.fr (.int i)) (.lv p) (.fr (.int r.length)) (.fr (.int g)) (.fr (lI r)) (.fr (lI L)) (.lv (.lst [lI [g],gI (r.map λz=>[z]),lI L])) (.fr (.tup xs)) c x10) (cb (cU (au (ah rfl (kz (rs:=[.nw (.lst [.int g]),.nw (.lst ((r.map λz=>[z]).map lI)),.rf 6]) (ae rfl (ae (bJ rfl (cm _ _ _ _)) (ae rfl rfl))) rfl) (ne _ rfl))) (fJ (b:=true) rfl)) rfl) ?_;refine Wp.st (U:=fO sc (.fr (.int i)) (.lv p) (.fr (.int r.length)) (.fr (.int g)) (.fr (lI r)) (.fr (lI L)) (.lv (.lst [lI [g],gI (r.map λz=>[z]),lI L])) (.fr (.tup xs)) (.fr te) x10) (aN (aB (ae rfl (ae rfl rfl)) (aQ vE _)) rfl rfl G rfl) ?_;refine Wp.mono (Dp Q1 Q1 bg T E X) ?_;rintro f Z ⟨rfl,y,rfl,hy⟩;exact⟨rfl,_,_,_,_,_,_,_,_,_,rfl,rfl,rfl,rfl,rfl,rfl,rfl,rfl,rfl,hy⟩
theorem D1:∀j,j<=61->HP 0 ((j:Nat):Int) 4=true/\zP 0 ((j:Nat):Int) 4<=16:=by decide +kernel
theorem law_true:∀ns:List Int,ns.length<=63->∃Z,nc.M [.fr (.lst (ns.map A.int))]=some (.rt (.fr (.bl true)),Z):=by
 intro ns t;show ∃Z,KA [.fr (.lst (ns.map A.int))]=some (.rt (.fr (.bl true)),Z);obtain⟨j,k,N⟩:∃j:Nat,(∀Z,az a9 (Fv xy (cP cW (ab 0)) (aC 60)) (aC 1) (.fr (.lst (ns.map A.int))::Z)=some (.ok (.fr (.int j)),.fr (.lst (ns.map A.int))::Z))/\j<=61:=by
  refine⟨min ns.length 60+1,λZ=>?_,by lia⟩;refine ah rfl rfl (fu (o:=none) rfl rfl ?_);show some (Rr.fr (.int ((if (60:Int)<((ns.map A.int).length:Int) then 60 else ((ns.map A.int).length:Int))+1)))=_;rw[QK]
  congr 3
  split<;>lia
 obtain⟨s1,s2⟩:=D1 j N;have J:qU (aC 0) (az a9 (Fv xy (cP cW (ab 0)) (aC 60)) (aC 1)) (aC 4) (fO (.lst (ns.map A.int)) .un .un .un .un .un .un .un .un .un .un)=some (.ok (rA 0 4 (zP 0 j 4)),fO (.lst (ns.map A.int)) .un .un .un .un .un .un .un .un .un .un):=by refine bk rfl (bk (k _) (bk rfl ?_));show (if HP 0 (j:Int) 4=true then some (RF (rA 0 4 (zP 0 j 4)),_) else none)=_;rw[Zt s1]
 suffices Wp (cq 10 (av (iG (qU (aC 0) (az a9 (Fv xy (cP cW (ab 0)) (aC 60)) (aC 1)) (aC 4)) (aW 1) PD) (bB (mC (.bl true))))) [.fr (.lst (ns.map A.int))] λg _=>g=.rt (.fr (.bl true)) by obtain⟨f,Z,e,rfl⟩:=this;exact⟨Z,e⟩
 refine Wp.df (Wp.sq (Wp.P1 (rA 0 4 (zP 0 j 4)) (λZ=>∃x1 x2 x3 D x5 x6 x7 b c x10,Z=fO (.lst (ns.map A.int)) x1 x2 x3 D x5 x6 x7 b c x10/\np x1=true/\(np x2=true/\np x3=true/\np D=true/\np x5=true/\np x6=true/\np x7=true/\np b=true/\np c=true/\np x10=true)) J ⟨_,_,_,_,_,_,_,_,_,_,rfl,rfl,rfl,rfl,rfl,rfl,rfl,rfl,rfl,rfl,rfl⟩ ?_ ?_))
 .rintro a V Z ⟨x1,x2,x3,D,x5,x6,x7,b,c,x10,rfl,h1,h2,h3,h4,h5,v,m,s,G,X⟩;obtain⟨i,hi,rfl⟩:=Rh.mp V;have hi:=Rz.mp hi;refine⟨_,kE (S:=[.fr (.lst (ns.map A.int))]) rfl h1,Wp.mono (CQ Q1 Q1 h2 h3 h4 h5 v m s G X) ?_⟩;rintro f Z0 ⟨rfl,Y,x,E,y,p,q,w,B,z,rfl,hy⟩;exact⟨.inl rfl,_,Y,x,E,y,p,q,w,B,z,rfl,rfl,hy⟩
 .rintro O ⟨x1,x2,x3,D,x5,x6,x7,b,c,x10,rfl,h⟩;exact⟨rfl,Wp.en (aK rfl rfl) rfl⟩
end W
set_option maxHeartbeats 4000000
theorem PySem.Challenge.cw_fitwhatever_k32_one_column_holds : PySem.Challenge.rw_fitwhatever_k32_one_column.Holds :=
 W.fin W.law_true
#print axioms PySem.Challenge.cw_fitwhatever_k32_one_column_holds
