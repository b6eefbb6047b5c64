import PyProof.Rows.All
import Wide.All
import OpenK.AllK
import Wide.FinOn
import Lean
import PyProof.EqAt
import PyProof.EqKinds
import PyProof.TupleCall
import PyProof.StrLaws
import PySem.Challenge.RW_fitwhatever_k33_whole_programs
set_option genSizeOf false
set_option genInjectivity false
set_option bootstrap.genMatcherCode false
set_option compiler.extract_closed false
open Bool renaming and_eq_true->QM,not_eq_true'->Rt,false_ne_true->Ry,or_eq_true->Sv,and_true->S4,and_false->Ut,and_self->UD,false_and->Va,beq_eq_decide_eq->VL,and_eq_true_iff->VT,eq_iff_iff->Wx
open PySem.W renaming Frag->QN,findIn->RZ,emptyDict->R5,keepIn->Sk,kitOne->Sm,instObj->Ss,plainGet->Tf,hasDictIn->TK,methodCall_KW->T9,lookIn->Uj,codeIn->Ul,plainGet_of->Us,callWith_K->Uw,methodObj->Uz,isFn->UA,plainOver->UB,fnOf->UC,takerIn->UW,makesIn->UX,cellsFrom_some->Vh,nsIn->Vj,handedIn->VW,OpenLaw->V5,WalkO->Wi,Hook->WA,SharedT->Zo
open List renaming mem_append_right->QO,getElem?_eq_some_iff->QP,append_assoc->QQ,mem_append_left->QR,length_map->QU,mem_cons->QV,mem_cons_of_mem->QW,replicate->QX,size_toArray->QZ,mem_append->Q0,nodup_append->Q2,length_cons->Q4,mem_cons_self->Q5,lookup_cons->Q6,getElem?_set_self->Q9,range->Rb,length_append->Rc,getElem?_eq_getElem->Rg,all_cons->Rh,getElem?_set_ne->Rk,mem_singleton->Rl,getElem?_map->Rm,nodup_cons->Rn,getD->Rp,mem_map->Rq,not_mem_nil->Ru,map_map->Rx,map_append->Rz,map_cons->RC,eraseIdx_eq_take_drop_succ->RD,mem_of_getElem?->RF,getElem?_append_right->RG,lookup_append->RH,mem_range->RJ,map_congr_left->RL,append_nil->RO,length_take->RV,getElem?_append_left->RW,getElem?_zip_eq_some->RX,replicate_succ->RY,getElem?_eq_none->R1,idxOf_lt_length_of_mem->R4,perm_middle->Sb,all_eq_true->Sd,isEmpty_iff->Se,getElem?_range->Si,getElem_of_mem->Sj,getD_eq_getElem?_getD->So,flatten_cons->Sw,ext_getElem?->Sy,mem_of_mem_take->Sz,filter_eq_nil_iff->SI,length_zip->SJ,take_append_drop->SM,contains_iff_mem->SN,cons_append->SW,getElem?_eq_none_iff->SX,drop_eq_getElem_cons->S0,perm_iff_count->S3,eq_of_mem_replicate->S5,map_take->S6,of_mem_zip->S7,zip_cons_cons->S8,map_nil->Ta,count_append->Tc,take_add_one->Td,length_range->Te,length_replicate->To,length_singleton->Tp,perm_append_comm->Ts,lookup->Tu,nil_append->Tz,take_left'->TB,filterMap_cons->TC,all_nil->TH,sublist_append_right->TQ,any_eq_false->TR,reverse_cons->TU,getElem?_take_of_lt->TZ,getElem?_replicate->T7,drop_length->T8,range_succ_eq_map->Ue,getElem_cons_drop->Ug,map_set->Uh,mem_filter->Ui,forIn_cons->Um,set_append_right->Uq,mem_filterMap->UE,foldl->UG,getElem_idxOf->UI,getElem_range->UJ,set_eq_take_append_cons_drop->UQ,take_sublist->UR,all_map->US,length_set->U5,getElem?_cons_zero->Vw,any_map->VA,take_of_length_le->VD,getElem?_toArray->VJ,countP_le_length->VO,any->VS,length_eraseIdx->VU,length_pos_iff->V0,getD_cons_zero->V1,filter_append->V6,getElem_inj->Wd,map_reverse->We,take_length->Wg,zipIdx_cons->Wh,drop->Wj,countP_cons->Wn,nodup_range->Wo,any_eq_true->Wt,ext_getElem->Wu,getElem_map->Wv,append_inj->Wy,zipIdx_nil->Wz,drop_left'->WB,forIn_nil->WE,map->WH,drop_zero->WK,any_cons->WL,drop_nil->WR,map_drop->WT,map_id'->W4,length->W9,take->XJ
open Nat renaming le_refl->QY,lt_of_lt_of_le->Q8,lt_irrefl->Ri,le_of_lt->Rv,ne_of_lt->Rw,le_trans->RE,lt_of_le_of_lt->RN,le_of_ble_eq_true->RS,lt_succ_self->Sn,ble->SG,zero_le->SR,pow_le_pow_right->SS,le_add_right->S1,sub_self->Ti,pow_pos->Tw,mul_comm->TJ,lt_succ_of_lt->T3,succ_le_succ->Ub,add_sub_cancel_left->Uc,le_of_eq->Uk,zero_add->Uo,not_lt_zero->Ur,le_succ->Ux,not_lt->UL,succ_ne_zero->U4,eq_of_mul_eq_mul_left->Vq,mul_assoc->Vv,ne_of_gt->VF,min_self->VH,sub_zero->VM,log2_lt->VY,pow_add->VZ,one_mul->V2,le_of_lt_succ->Wc,le_succ_of_le->Wf,lt_trichotomy->Wm,le_max_right->Ww,le_max_left->WD,mul_le_mul->WQ,succ_mul->Xa,pow_succ->Xc
open PySem.Heap renaming get?_push_of_some->Q3,lt_size->Q7,get?_push_size->Rf,size_push->R6,SameBut->Ud,get?_update_other->Vy,get?_update_self->VG
open Option.some renaming inj->Rj,injEq->Vr
open Int renaming mul_zero->RB,mul_fdiv_cancel_left->RQ,gcd->RT,mul_comm->RU,natAbs_mul->R3,add_zero->R7,mul_ne_zero->R8,neg_one_mul->Sg,eq_of_mul_eq_mul_right->Sr,one_mul->SD,le_of_lt->SE,mul_one->SH,gcd_pos_of_ne_zero_right->SK,toNat_natCast->SO,zero_mul->S2,negSucc->S9,fmod_nonneg_of_pos->Tg,ofNat->Tt,le_refl->TY,gcd_dvd_right->T4,zero_add->Up,mul_ediv_cancel'->Uy,mul_assoc->UH,lt_or_gt_of_ne->UM,fmod_lt_of_pos->UN,gcd_zero_right->UO,gcd_comm->UZ,le_of_eq->U1,gcd_dvd_left->U2,mul_add->U6,mul_lt_mul_of_pos_left->Vk,lt_of_mul_lt_mul_left->Vs,fdiv_eq_ediv_of_dvd->VC,le_trans->VE,lt_or_le->VI,zero_sub->VN,natAbs_dvd_natAbs->VQ,natAbs_add_le->Wr,mul_eq_zero->WJ,natAbs_neg->WM,add_nonneg->WS,neg_dvd->Xg,mul_pos->XB,natAbs->XH,not_lt->XI
open Except renaming ok->RI
open PySem.Builtin.SmallTypes renaming nextOf->RK,ownedTupleIsFree->Sa,ownedTupleHandOut->TL
open Option renaming isNone_iff_eq_none->RM,getD_some->Tj,getD_none->V4,map_some->Wa
open Ne renaming symm->RP
open PyProof.Rows renaming callWith_type1->R0,zipApart_new->UP,callWith_builtin1->Xe,list_addW->Xh,Call_->Xk,envOfC->XA,assignInOrder_cons->YB,AllBare->YE,boot_range->YU,subscriptTail_builtinR->YX,envOfC->Y4,assignInOrder_nil->Ze,IntsAre->Zn
open PySem.Value renaming ref->R9,none->Tn,int->TF,bool->VV,str->V7,bytes->WU,float->WV,type->W5
open PySem.F renaming plainAttrs_list->Sf,slot_tuple_iterator_next->SY,slot_list_append->TM,type_list_append->TN,slot_list_index->TV,slot_zip_next->Uu,type_list_index->Vd,args_tuple_iterator_next_1->Vi,entry_tuple_iterator_next->Vp,args_zip_next_1->WG,entry_zip_next->WO,slot_int_rmul->W2
open PySem.Builtin.Range renaming rangeSize->Su,small->T6
open False renaming elim->SA
open PySem renaming mem_of_lookup->SF,Str->Vl,Within->Vt,call->VX,starEach->XM,wpAny_bind->XN,wpAny->XO,bootBuiltins->XQ,attributeBase->XR,wpAny_pure->XT,model->XU,backTo->XW,World->XX,mainGlobals->XY,Around->XZ,keywordEach->X0,FuncData->X1,behindInMarks->X4,assignEach->X6,foldedSetIterable->X7,Keyword->X8,swapsWith->X9,backToKw->Yb,wpAny_field->Yc,compareOp->Yd,wpAny_seqItems->Ye,wpAny_setField_rec->Yg,wpAny_passesOwn->Yh,sizeLine_eq->Yi,wpAny_pyIter_list->Yj,wpAny_callSpecial?_slot->Yk,swappedStores->Yl,wpAny_truthy_bool->Ym,binaryOp->Yn,intItems->Yo,wpAny_mono->Yp,wpAny_Call_Name_kw->Yr,sliceBounds->Ys,wpAny_newObj_type->Yt,methodCallForm->Yu,wpAny_call_entry->Yv,swapsWithSole->Yw,wpAny_updateSeq_pair->Yx,wpAny_execs_nil->Yy,letOwnedTupleGo->Yz,CmpOp->YA,IsPair->YC,wpAny_letOwnedTupleGo_zip->YD,standAt->YF,codeAny->YG,wpAny_standAt->YH,wpAny_comprehension_free->YI,Comprehension->YJ,wpAny_onRaise->YK,PassesOwn->YL,getMethod->YM,seqIndex?->YN,wpAny_pyIter_zip->YO,treeTable->YQ,builtinsNs->YR,wpAny_pyNext_range_end->YS,wpAny_pyIter_rangeiter->YT,BindsTo->YV,codeAny_mono->YW,call_meets->YY,callerA->YZ,wpAny_nextOf_list_item->Y0,wpAny_loadPart'->Y1,wpAny_isTrue_Compare1->Y2,IsRangeIter->Y3,intItems_at->Y5,assignInOrder->Y6,wpAny_holding->Y7,IsZip->Y8,sysModules->Y9,wpAny_rule->Za,wpAny_pyIter_range->Zb,wpAny_pyIter_tuple->Zc,wpAny_assign_Name->Zd,callWith->Zf,seqIndex_neg->Zg,wpAny_pyIter_enum->Zh,FuncBody->Zi,isTrue->Zj,rawInt->Zk,seqIndex_of->Zl,wpAny_letGo->Zm,wpAny_Name->Zp,bindName->Zq,Operator->Zr,bindL->Zs,bindC->Zt,typeIs_int->Zu,IntMulOk->Zv,ZipApart->Zw
open PySem.MeetsSeq renaming plain_index_loop->SQ,entry_index_loop->U3
open ForInStep renaming yield->SU
open PySem.NameKind renaming free->SV
open List.Sublist renaming append->Th,refl->Tv
open PySem.Builtin.List renaming listTooLong->Tx,listFitsIndex->Xj
open Rat renaming divInt_eq_divInt_iff->T5,divInt_eq_div->Ws,divInt->XF
open PySem.SeqAt renaming EqAt->Ua
open Array renaming length_toList->Uv,getElem?_eq_getElem->Vc,toList->Vu,getElem?_toList->Vz,toList_inj->Wb
open PySem.Obj renaming mapSeq->UK,data_mapFields->V8
open Sum renaming inl->UT,inr->UU
open PySem.Str renaming ofString->UY
open PySem.Builtin renaming divisionGoesByPylong->U0
open PySem.Calls renaming Name_function_global->U7,call_len_list->VP
open PySem.Heap.SameBut renaming update->U8
open PySem.Walks renaming list->U9,range->WX
open PySem.Builtin.Int renaming intBits->Vb
open Nat.succ renaming inj->Vf
open List.Pairwise renaming map->Vg,nil->Xb
open PySem.SeqAt.EqAt renaming int_str->Vm,str_int->Vn
open PySem.Around renaming under->Vo,under_plainId->VB
open PySem.Code renaming isFrame->Vx,frames->W8
open True renaming intro->V3
open PySem.IsRange renaming new->WC
open PySem.W.SharedT renaming abs->WI
open PySem.Shared renaming heap->WN
open PySem.CmpOp renaming NotIn->WW,In->XC
open PySem.Heap.IsSliceOf renaming new->WY
open PySem.W.WShape renaming has->WZ
open Or renaming inr->W0
open Eq renaming trans->W3
open PySem.Data renaming fields->W6,cell->XE
open PySem.W.Looks renaming here->W7
open PySem.Within renaming cons->Xd
open PySem.W.WData renaming int->Xf
open PySem.Heap.IsTuple renaming push->Xi
open PySem.W.Fast renaming tw11892475500146522536->Xl,tw14364793385576792824->Xm,tw6613529449190102663->Xn,tw10156331382660048174->Xo,tw10274390034422433532->Xp,tw14289696077712309145->Xq,tw4187177175401517315->Xr,te11892475500146522536->Xs,te14364793385576792824->Xu,te6613529449190102663->Xv,te10156331382660048174->Xw,te10274390034422433532->Xx,te14289696077712309145->Xy,te4187177175401517315->Xz
open PySem.Flow renaming next->XD
open Nat.Coprime renaming dvd_of_dvd_mul_left->XG
theorem Q1{p:Prop}(h:p:=by lia):p:=h
theorem Z2{p:Prop}(h:p:=by decide):p:=h
theorem Z3{p:Prop}(h:p:=by decide +kernel):p:=h
theorem Z4{p:Prop}(h:p:=by simp):p:=h
theorem Zx:type_of% @if_pos:=@if_pos
theorem Zy:type_of% @if_neg:=@if_neg
theorem Zz:type_of% @decide_eq_false:=@decide_eq_false
theorem ZA:type_of% @decide_eq_true:=@decide_eq_true
theorem ZC:type_of% @congrArg:=@congrArg
theorem ZD:type_of% @beq_iff_eq:=@beq_iff_eq
theorem ZE:type_of% @of_decide_eq_true:=@of_decide_eq_true
set_option linter.all false
variable{b:Int}
theorem Qc{n a:Int}(h:n<a:=by assumption)(d:decide (a<=b)=true:=by decide):n<b:=Int.lt_of_lt_of_le h (ZE d)
variable{k:Int}
theorem Pk{n a:Int}(h:n<a:=by assumption)(d:decide (a+k<=b)=true:=by decide):n+k<b:=Qc (Int.add_lt_add_right h k) d
variable{l:Int}
theorem Qz{n a:Int}(h:n<a:=by assumption)(d:decide (a+k+l<=b)=true:=by decide):n+k+l<b:=Pk (Pk h (ZA (TY _))) d
theorem QH{n a p:Int}(h:n<a:=by assumption)(d:decide (a+k+l+p<=b)=true:=by decide):n+k+l+p<b:=Qz (Pk h (ZA (TY _))) d
theorem QF{n a:Int}(h:n<=a:=by assumption)(d:decide (a<=b)=true:=by decide):n<=b:=VE h (ZE d)
variable{m:Int}
theorem Qv{n:Int}(d:decide (k<=m)=true:=by decide):n+k<=n+m:=Int.add_le_add_left (ZE d) n
theorem QG{n:Int}(d:decide (k+l<=m)=true:=by decide):n+k+l<=n+m:=Int.add_assoc n k l▸Qv d
variable{x y z:Nat}
theorem OY(h:x<=y:=by assumption)(d:decide (y<=z)=true:=by decide):x<=z:=RE h (ZE d)
theorem QJ{c:Nat}(h:x<=y:=by assumption)(d:decide (y+c<=z)=true:=by decide):x+c<=z:=OY (Nat.add_le_add_right h c) d
theorem QI(h:x<=y:=by assumption)(d:decide (y<z)=true:=by decide):x<z:=RN h (ZE d)
theorem Qu(h:x<y:=by assumption)(d:decide (y<=z)=true:=by decide):x<z:=Q8 h (ZE d)
theorem QL(d:decide (y<=z)=true:=by decide):x+y<=x+z:=Nat.add_le_add_left (ZE d) x
theorem QK(h:x<y:=by assumption)(d:decide (y<=z+1)=true:=by decide):x<=z:=Wc (Qu h d)
variable{P:Prop}
theorem kj{α:Type}{x:α}(h:none=some x):P:=nomatch h
theorem P7(h:false=true):P:=nomatch h
set_option Elab.async false
set_option maxRecDepth 100000
abbrev fC(x:Vl):Prop:=(x==("__debug__" : Vl))=false
abbrev lA(x:Vl):Prop:=(x==("__classdict__" : Vl))=false
noncomputable section
namespace L2
open PySem PySem.Spec PyProof.Rows
noncomputable abbrev Key:=Sum Int Str
noncomputable def F6:Key->Value->Bool
 | .inl k,v=>Value.isInt k v
 | .inr x,v=>Value.isStrOf x v
noncomputable def OZ(w:XX):Key->Int
 | .inl k=>hashInt k
 | .inr x=>hashStr w x
theorem cv:∀{k:Key}{v:Value},F6 k v=true->(∃i t,k=UT i/\v=TF i t)\/(∃x t,k=UU x/\v=V7 x t)
 | .inl i,v,h=>by obtain⟨t,e⟩:=Value.isInt_shape (k:=i) (v:=v) h;exact .inl ⟨i,t,rfl,e⟩
 | .inr x,v,h=>by obtain⟨t,e⟩:=Value.isStrOf_shape (x:=x) (v:=v) h;exact .inr ⟨x,t,rfl,e⟩
theorem JY(a b:Int):decide ((UT a:Key)=UT b)=(a==b):=by
 by_cases e:a=b
 .subst e;simp
 .have h:¬ (UT a:Key)=UT b:=λq=>e (UT.inj q);rw[Zz h];exact(beq_eq_false_iff_ne.mpr e).symm
theorem Gw(a b:Str):decide ((UU a:Key)=UU b)=decide (a=b):=by
 by_cases e:a=b
 .subst e;simp
 .have h:¬ (UU a:Key)=UU b:=λq=>e (UU.inj q);rw[Zz h,Zz e]
theorem Gv(a:Int)(b:Str):decide ((UT a:Key)=UU b)=false:=Zz (λq=>nomatch q)
theorem G4(a:Str)(b:Int):decide ((UU a:Key)=UT b)=false:=Zz (λq=>nomatch q)
def iI(prog:Program)(w:XX):PySem.KeyKind prog w Key where
 is:=F6
 hash:=OZ w
 inj:=λv a b f d=>by
  rcases cv f with ⟨i,t,rfl,rfl⟩|⟨x,t,rfl,rfl⟩
  .rcases cv d with ⟨j,u,rfl,e⟩|⟨y,u,rfl,e⟩
   .injection e with e1 _;rw[e1]
   .exact nomatch e
  .rcases cv d with ⟨j,u,rfl,e⟩|⟨y,u,rfl,e⟩
   .exact nomatch e
   .injection e with e1 _;rw[e1]
 byValue:=λk v h=>by rcases cv h with ⟨i,t,rfl,rfl⟩|⟨x,t,rfl,rfl⟩<;>rfl
 pyHash:=λc h=>by
  rcases cv c with ⟨i,t,rfl,rfl⟩|⟨x,t,rfl,rfl⟩
  .exact wpAny_pyHash_int h
  .exact wpAny_pyHash_str h
 eqBool:=λg c h=>by
  rcases cv g with ⟨i,t,rfl,rfl⟩|⟨x,t,rfl,rfl⟩
  .rcases cv c with ⟨j,u,rfl,rfl⟩|⟨y,u,rfl,rfl⟩
   .rw[JY] at h;exact wpAny_eqBool_int h
   .rw[Gv] at h;exact Vm i t y u _ _ _ _ h
  .rcases cv c with ⟨j,u,rfl,rfl⟩|⟨y,u,rfl,rfl⟩
   .rw[G4] at h;exact Vn x t j u _ _ _ _ h
   .rw[Gw] at h;exact wpAny_eqBool_str h
 «strs»:=λk x t v h=>by
  rcases cv h with ⟨i,u,rfl,e⟩|⟨y,u,rfl,e⟩
  .exact nomatch e
  .injection e with e1 _;subst e1;cases v<;>rfl
inductive V where
 |non|bl(b:Bool)|int(i:Int)|str(x:Str)|byt(b:Array UInt8)|flt(b:UInt64)|ref(a:Addr)|ty(n:String)
 deriving DecidableEq
def RelV:V->Value->Prop
 | .non,u=>u=Tn
 | .bl b,u=>u=VV b
 | .int i,u=>∃t,u=TF i t
 | .str x,u=>∃t,u=V7 x t
 | .byt b,u=>∃t,u=WU b t
 | .flt b,u=>∃t,u=WV b t
 | .ref a,u=>u=R9 a
 | .ty n,u=>u=W5 n
abbrev Vals:List V->List Value->Prop:=Paired RelV
theorem Vals.length{xs:List V}{us:List Value}(r:Vals xs us):xs.length=us.length:=Paired.length r
theorem Vals.get:∀{xs:List V}{us:List Value}{i:Nat}{x:V},Vals xs us->xs[i]?=some x->∃u,us[i]?=some u/\RelV x u
 |_,_,_,_,.nil,e=>by simp at e
 |_,_,0,_,.cons r _,e=>by simp at e;subst e;exact⟨_,rfl,r⟩
 |_,_,i+1,x,.cons _ t,e=>by obtain⟨u,h1,h2⟩:=Vals.get (i:=i) (x:=x) t (by simpa using e);exact⟨u,by simpa using h1,h2⟩
theorem Vals.set{x:V}{u:Value}(r:RelV x u):∀{xs:List V}{us:List Value}(i:Nat),Vals xs us->Vals (xs.set i x) (us.set i u)
 |_,_,_,.nil=>.nil
 |_,_,0,.cons _ t=>.cons r t
 |_,_,i+1,.cons q t=>.cons q (Vals.set r i t)
theorem Vals.append:∀{xs ys:List V}{us ws:List Value},Vals xs us->Vals ys ws->Vals (xs++ys) (us++ws)
 |_,_,_,_,.nil,s=>s
 |_,_,_,_,.cons r t,s=>.cons r (Vals.append t s)
theorem Vals.take:∀{xs:List V}{us:List Value}(n:Nat),Vals xs us->Vals (xs.take n) (us.take n)
 |_,_,0,_=>.nil
 |_,_,_+1,.nil=>.nil
 |_,_,n+1,.cons r t=>.cons r (Vals.take n t)
theorem Vals.drop:∀{xs:List V}{us:List Value}(n:Nat),Vals xs us->Vals (xs.drop n) (us.drop n)
 |_,_,0,r=>r
 |_,_,_+1,.nil=>.nil
 |_,_,n+1,.cons _ t=>Vals.drop n t
theorem Vals.none_of:∀{xs:List V}{us:List Value}{i:Nat},Vals xs us->xs[i]?=none->us[i]?=none:=λ{xs us i} r e=>by have h1:=r.length;have h2:xs.length<=i:=SX.mp e;exact SX.mpr Q1
def nP:Option V->Option Value->Prop
 |some v,some u=>RelV v u
 |none,none=>True
 |_,_=>False
def KV{a:Type}:List (a×V)->List (a×Value)->Prop:=Paired λ(p:a×V)(q:a×Value)=>p.1=q.1/\RelV p.2 q.2
noncomputable def kV:Key->V
 | .inl i=>.int i
 | .inr x=>.str x
inductive HO where
  |lst(xs:List V)
  |tup(xs:List V)
  |dK(kvs:List (Key×V))|dT(kvs:List (List Key×V))
  |set(S:Int->Bool)(n:Nat)
  |ins(C dx:Addr)(fs:List (Str×V))
  |own(x:Addr)
  |xd(fs:List (Str×V))
  |met(f x:Addr)
  |yf(lo hi:Int)
  |frz(o:Obj)(u:HO)
  |tbl(ps:Array Value)
  |ext(Z:Heap->Prop)
 |exd(Z:Heap->Prop)
noncomputable abbrev Hp:=Addr->Option HO
noncomputable def upd(H:Hp)(a:Addr)(o:HO):Hp:=λb=>if b=a then some o else H b
variable{H:Hp}
theorem aJ{a:Addr}{o:HO}:upd H a o a=some o:=by unfold upd;rw[Zx rfl]
theorem ao{a b:Addr}{o:HO}(h:b≠a):upd H a o b=H b:=by unfold upd;rw[Zy h]
theorem uY{a:Addr}{o u:HO}:upd (upd H a o) a u=upd H a u:=by funext b;unfold upd;split<;>rfl
theorem aD{a b:Addr}{o:HO}(h:H a=some o)(h':H b=none):a≠b:=by intro e;subst e;rw[h] at h';cases h'
variable{h:Heap}
section
variable(P:Program)(w:XX)
def kE(h:Heap)(a:Addr)(items:Array Value):Prop:=∃o,h.get? a=some o/\o.cls=.type "tuple" /\ ∃n,o.data=.seq items n/\o.dict=none
theorem kE.t{a:Addr}{items:Array Value}(x:kE h a items):IsTup h a items:=let ⟨o,e,c,n,d,_⟩:=x;⟨o,e,c,n,d⟩
theorem kE.new(h:Heap)(items:Array Value):kE (h.push { cls:=.type "tuple",data:=.seq items }) h.objs.size items:=⟨_,Rf _ rfl,rfl,_,rfl,rfl⟩
def c9(H:Hp)(h:Heap)(a:Addr):HO->Prop
 | .lst xs=>xs.length<=sizeLine/\∃(b:List Value)(n:Nat),Vals xs b/\h.get? a=some { cls:=.type "list",data:=.seq b.toArray n }
 | .tup xs=>xs.length<=sizeLine/\∃b:List Value,Vals xs b/\kE h a b.toArray
 | .dK kvs=>kvs.length<=sizeLine/\(a==Y9)=false/\∃vs,KV kvs vs/\h.DictOf (iI P w) a vs
 | .dT kvs=>kvs.length<=sizeLine/\(a==Y9)=false/\∃xs:List (List Key×Addr×Value),
   Paired (λ(p:List Key×V)(q:List Key×Addr×Value)=>p.1=q.1/\H q.2.1=some (.tup (p.1.map kV))/\RelV p.2 q.2.2) kvs xs /\
   ∃o es e,h.get? a=some o/\o.ExactDict/\o.data=.dict es e/\es.toList=xs.map (entryOfKey (tupleKind (iI P w)))/\(xs.map (·.1)).Nodup
 | .set S n=>h.SetOf (intKind P w) a S n
 | .ins C dx fs=>H dx=some (.own a)/\fs.length<=1000/\dx≠a/\h.get? a=some (Ss C dx) /\
   ∃mA,h.Ns1 dx mA/\(∀f,nP (fs.lookup f) (mA f))/\Vt mA (fs.map (·.1))
 | .own _=>∃o,h.get? a=some o
 | .xd fs=>∃mA,h.Ns1 a mA/\∀f,nP (fs.lookup f) (mA f)
 | .yf lo hi=>∃t u v,h.get? a=some { cls:=.type "range",data:=.fields #[.int lo t,.int hi u,.int 1 v] }
 | .frz o u=>h.get? a=some o/\c9 H h a u
 | .tbl ps=>h.get? a=some { cls:=.none,data:=.fields ps }
 | .met f x=>h.get? a=some (Uz (.ref f) (.ref x))
 | .ext Z=>Z h/\(∃o,h.get? a=some o)/\∀h1 h2:Heap,Z h1->(∀o,h1.get? a=some o->h2.get? a=some o)->Z h2
 | .exd Z=>Z h/\(∃o,h.get? a=some o)/\∀h1 h2:Heap,Z h1->(∀o,h1.get? a=some o->h2.get? a=some o)->Z h2
def kN(H:Hp)(h:Heap):Prop:=∀a o,H a=some o->c9 P w H h a o
end
section
variable{P:Program}{w:XX}{H H':Hp}{h h':Heap}{a:Addr}{o:HO}
theorem c9.lt(x:c9 P w H h a o):a<h.objs.size:=by
 cases o with
 |lst xs=>obtain⟨_,_,_,_,e⟩:=x;exact Q7 e
 |tup xs=>obtain⟨_,_,_,p⟩:=x;exact p.t.lt
 |dK kvs=>obtain⟨_,_,_,_,o,_,_,e,_⟩:=x;exact Q7 e
 |dT kvs=>obtain⟨_,_,_,_,o,_,_,e,_⟩:=x;exact Q7 e
 |set S n=>obtain⟨o,_,_,_,e,_⟩:=x;exact Q7 e
 |ins C dx fs=>obtain⟨_,_,_,e,_⟩:=x;exact Q7 e
 |own y=>obtain⟨_,e⟩:=x;exact Q7 e
 |xd fs=>obtain⟨_,⟨_,_,_,e,_⟩,_⟩:=x;exact Q7 e
 |yf lo hi=>obtain⟨_,_,_,e⟩:=x;exact Q7 e
 |frz ob u=>obtain⟨e,_⟩:=x;exact Q7 e
 |tbl ps=>exact Q7 (show h.get? a=some _ from x)
 |met f y=>exact Q7 (show h.get? a=some _ from x)
 |ext Z=>obtain⟨_,⟨_,e⟩,_⟩:=x;exact Q7 e
 |exd Z=>obtain⟨_,⟨_,e⟩,_⟩:=x;exact Q7 e
theorem Paired.LM{α β:Type}{F G:α->β->Prop}:∀{l₁:List α}{l₂:List β},Paired F l₁ l₂->(∀a b,F a b->G a b)->Paired G l₁ l₂
 |_,_,.nil,_=>.nil
 |_,_,.cons r t,f=>.cons (f _ _ r) (Paired.LM t f)
theorem c9.iM(x:c9 P w H h a o)(k:∀b u,(b=a\/H b=some (.own a))->h.get? b=some u->h'.get? b=some u)
  (ho:∀b,H b=some (.own a)->H' b=some (.own a))(l:∀b xs,H b=some (.tup xs)->H' b=some (.tup xs)):c9 P w H' h' a o:=by
 induction o with
 |lst xs=>obtain⟨z,j,n,r,e⟩:=x;exact⟨z,j,n,r,k _ _ (.inl rfl) e⟩
 |tup xs=>obtain⟨z,j,r,ob,e,c⟩:=x;exact⟨z,j,r,ob,k _ _ (.inl rfl) e,c⟩
 |dK kvs=>obtain⟨z,y,vs,r,ob,es,i,e,c⟩:=x;exact⟨z,y,vs,r,ob,es,i,k _ _ (.inl rfl) e,c⟩
 |dT kvs=>obtain⟨z,y,xs,r,ob,es,i,e,c⟩:=x;exact⟨z,y,xs,Paired.LM r λp q z=>⟨z.1,l _ _ z.2.1,z.2.2⟩,ob,es,i,k _ _ (.inl rfl) e,c⟩
 |set S n=>obtain⟨ob,es,i,t,e,c⟩:=x;exact⟨ob,es,i,t,k _ _ (.inl rfl) e,c⟩
 |ins C dx fs=>obtain⟨d,z,ne,e,mA,⟨od,es,i,e2,c⟩,r⟩:=x;exact⟨ho _ d,z,ne,k _ _ (.inl rfl) e,mA,⟨od,es,i,k _ _ (.inr d) e2,c⟩,r⟩
 |own y=>obtain⟨ob,e⟩:=x;exact⟨ob,k _ _ (.inl rfl) e⟩
 |xd fs=>obtain⟨mA,⟨od,es,i,e,c⟩,r⟩:=x;exact⟨mA,⟨od,es,i,k _ _ (.inl rfl) e,c⟩,r⟩
 |yf lo hi=>obtain⟨t,u,v,e⟩:=x;exact⟨t,u,v,k _ _ (.inl rfl) e⟩
 |frz ob u m=>obtain⟨e,q⟩:=x;exact⟨k _ _ (.inl rfl) e,m q⟩
 |tbl ps=>have e:h.get? a=some { cls:=.none,data:=.fields ps }:=x;show h'.get? a=some { cls:=.none,data:=.fields ps };exact k a _ (.inl rfl) e
 |met f y=>have e:h.get? a=some (Uz (.ref f) (.ref y)):=x;show h'.get? a=some (Uz (.ref f) (.ref y));exact k a _ (.inl rfl) e
 |ext Z=>obtain⟨p,⟨o,e⟩,st⟩:=x;exact⟨st _ _ p λo q=>k _ _ (.inl rfl) q,⟨o,k _ _ (.inl rfl) e⟩,st⟩
 |exd Z=>obtain⟨p,⟨o,e⟩,st⟩:=x;exact⟨st _ _ p λo q=>k _ _ (.inl rfl) q,⟨o,k _ _ (.inl rfl) e⟩,st⟩
theorem kN.lt(x:kN P w H h)(e:H a=some o):a<h.objs.size:=(x a o e).lt
theorem kN.fresh(x:kN P w H h)(e:h.objs.size<=a):H a=none:=by
 cases q:H a with
 |none=>rfl
 |some u=>exact absurd (Q8 (x.lt q) e) (Ri _)
theorem kN.kept(x:kN P w H h)(k:∀b u,h.get? b=some u->h'.get? b=some u):kN P w H h':=λa o e=>(x a o e).iM (λb u _ q=>k b u q) (λ_ q=>q) λ_ _ q=>q
theorem kN.laid(x:kN P w H h)(k:∀b u,h.get? b=some u->h'.get? b=some u)(hp:h.objs.size<=a)(new:c9 P w (upd H a o) h' a o):kN P w (upd H a o) h':=λb u e=>by
 have hn:=x.fresh hp;by_cases d:b=a
 .subst d;rw[aJ] at e;cases e;exact new
 .rw[ao d] at e;exact(x b u e).iM (λc v _ q=>k c v q) (λc q=>by rw[ao (aD q hn)];exact q) λc xs q=>by rw[ao (aD q hn)];exact q
end
def Rd(H:Hp)(a:Addr)(u:HO):Prop:=H a=some u\/∃o,H a=some (.frz o u)
variable{w:XX}
theorem Rd.ok{P:Program}{a:Addr}{u:HO}(r:Rd H a u)(x:kN P w H h):c9 P w H h a u:=by
 rcases r with r|⟨o,r⟩
 .exact x a u r
 .obtain⟨_,q⟩:=x a _ r;exact q
def NX:Option HO->Prop
 |some (.lst _)=>True
 |some (.dK _)=>True
 |some (.dT _)=>True
 |some (.set _ _)=>True
 |some (.ins _ _ _)=>True
 |some (.ext _)=>True
 |some (.exd _)=>True
 |_=>False
section
variable{P:Program}{w:XX}{H:Hp}{h h':Heap}{x e:Addr}{o':HO}
theorem kN.write(ok:kN P w H h)(mu:NX (H x))(he:e=x\/H e=some (.own x))(k:∀b u,b≠e->h.get? b=some u->h'.get? b=some u)(s:∃u,h'.get? e=some u)
  (new:c9 P w (upd H x o') h' x o'):kN P w (upd H x o') h':=λb u q=>by
 have o:∀c y,H c=some (.own y)->c≠x:=λc y r z=>by subst z;rw[r] at mu;exact mu
 have p:∀c xs,H c=some (.tup xs)->c≠x:=λc xs r z=>by subst z;rw[r] at mu;exact mu
 by_cases d:b=x
 .subst d;rw[aJ] at q;cases q;exact new
 .rw[ao d] at q;by_cases n:b=e
  .have t:H b=some (.own x):=by
    rcases he with z|z
    .exact absurd (n.trans z) d
    .rw[n];exact z
   rw[q] at t;cases t;obtain⟨v,A⟩:=s;exact⟨v,by rw[n];exact A⟩
  .refine(ok b u q).iM (λc v hc r=>k c v ?_ r) (λc r=>by rw[ao (o c b r)];exact r) λc xs r=>by rw[ao (p c xs r)];exact r
   rcases hc with rfl|hc
   .exact n
   .rintro rfl;rcases he with z|z
    .exact o c b hc z
    .rw[hc] at z;cases z;exact d rfl
end
structure Un(fs ex:List Addr)(H H':Hp)(h h':Heap):Prop where
 keep:∀b o,h.get? b=some o->H b=none->b∉fs->b∉ex->h'.get? b=some o
 slot:∀b o,h.get? b=some o->H b=none->b∈fs->b∉ex->∃sl,h'.get? b=some { o with slots:=sl }
 free:∀b o,h.get? b=some o->H b=none->b∉ex->H' b=none
 there:∀b o,h.get? b=some o->b∉ex->∃o',h'.get? b=some o'
 tups:∀b xs,H b=some (.tup xs)->H' b=some (.tup xs)
 frzs:∀b o u,H b=some (.frz o u)->H' b=some (.frz o u)
 tbls:∀b ps,H b=some (.tbl ps)->∃more,H' b=some (.tbl (ps++more))
section
variable{fs Z1 ex ex':List Addr}{H H1 H2:Hp}{h h1 h2 h':Heap}{a x e:Addr}{o:HO}
theorem Un.any(u:Un fs ex H H1 h h1){b:Addr}{ob:Obj}(q:h.get? b=some ob)(n:H b=none)(hx:b∉ex):∃sl,h1.get? b=some { ob with slots:=sl }:=by
 by_cases d:b∈fs
 .exact u.slot b ob q n d hx
 .exact⟨ob.slots,u.keep b ob q n d hx⟩
theorem Un.kept(k:∀b u,h.get? b=some u->h'.get? b=some u):Un fs ex H H h h':=
 ⟨λb ob q _ _ _=>k b ob q,λb ob q _ _ _=>⟨ob.slots,k b ob q⟩,λ_ _ _ n _=>n,λb ob q _=>⟨ob,k b ob q⟩,λ_ _ q=>q,λ_ _ _ q=>q,λ_ ps q=>⟨#[],by rw[q];simp⟩⟩
theorem Un.refl:Un fs ex H H h h:=Un.kept λ_ _ q=>q
theorem Un.laid(k:∀b u,h.get? b=some u->h'.get? b=some u)(hp:h.objs.size<=a)(hn:H a=none):Un fs ex H (upd H a o) h h' where
 keep:=λb u q _ _ _=>k b u q
 slot:=λb u q _ _ _=>⟨u.slots,k b u q⟩
 free:=λb u q n _=>by rw[ao (Rw (Q8 (Q7 q) hp))];exact n
 there:=λb u q _=>⟨u,k b u q⟩
 tups:=λb xs q=>by rw[ao (aD q hn)];exact q
 frzs:=λb u xs q=>by rw[ao (aD q hn)];exact q
 tbls:=λb ps q=>⟨#[],by rw[ao (aD q hn),q];simp⟩
theorem Un.write(mu:NX (H x))(he:e=x\/H e=some (.own x))(k:∀b u,b≠e->h.get? b=some u->h'.get? b=some u)(s:∃u,h'.get? e=some u):Un fs ex H (upd H x o) h h':=by
 have hx:∀b,H b=none->b≠x:=λb n z=>by subst z;rw[n] at mu;exact mu
 have d:∀b,H b=none->b≠e:=λb n z=>by
  subst z;rcases he with r|r
  .exact hx b n r
  .rw[n] at r;cases r
 have hm:∀b u,H b=some u->¬ NX (some u)->b≠x:=λb u q nm z=>by subst z;rw[q] at mu;exact nm mu
 refine⟨λb u q n _ _=>k b u (d b n) q,λb u q n _ _=>⟨u.slots,k b u (d b n) q⟩,λb u q n _=>by rw[ao (hx b n)];exact n,λb u q _=>?_,
  λb xs q=>by rw[ao (hm b _ q λz=>z)];exact q,λb u xs q=>by rw[ao (hm b _ q λz=>z)];exact q,λb ps q=>⟨#[],by rw[ao (hm b _ q λz=>z),q];simp⟩⟩
 by_cases v:b=e
 .subst v;exact s
 .exact⟨u,k b u v q⟩
end
noncomputable def NW(h:Heap)(H:Hp):List Addr:=(Rb h.objs.size).filter λa=>(H a).isSome
def pS(h:Heap)(H:Hp):Heap:=PySem.W.hideAll h (NW h H)
theorem xq(h:Heap)(H:Hp):(pS h H).objs.size=h.objs.size:=PySem.W.hideAll_size _ _
variable{o:Obj}
theorem yA{b:Addr}(e:h.get? b=some o)(n:H b=none):(pS h H).get? b=some o:=
 PySem.W.hideAll_get _ e λhm=>by have q:(H b).isSome=true:=(Ui.mp hm).2;rw[n] at q;simp at q
theorem Ek{b:Addr}(e:(pS h H).get? b=some o):h.get? b=some o/\H b=none:=by
 have k:h.get? b=some o:=PySem.W.of_hideAll (NW h H) e;refine⟨k,?_⟩;cases q:H b with
 |none=>rfl
 |some x=>have hm:b∈NW h H:=Ui.mpr ⟨RJ.mpr (Q7 k),by simp[q]⟩;have z:(pS h H).get? b=none:=PySem.W.hideAll_none (NW h H) hm;rw[z] at e;cases e
noncomputable def Dd(g h:Heap)(L:Addr):List (Addr×Obj):=(Rb h.objs.size).filterMap λa=>if a=L\/(g.get? a).isSome=true then none else (h.get? a).map λo=>(a,o)
def rest(g h:Heap)(L d:Addr):List (Addr×Obj):=(Dd g h L).filter λp=>decide (p.1≠d)
structure Mod(K:QN)(mg:Str->Option Value)(base:Heap):Prop where
 kin:K.In base
 glob:base.Ns XY mg
 blt:∃mb,base.Ns YR mb/\∀x:Str,x ≠ "__name__" -> mb x=XQ x
 nolimit:base.NoLimit
structure Cx where
 prog:Program
 w:XX
 K:QN
 mg:Str->Option Value
 base:Heap
 A:XZ
 N:List Str
 s₀:Shared
 H₀:Hp
 env:Env
 outer:List Env
 stack:List Env
 ex:List Addr
 fn:Str->Bool
 calm:Bool
 pn:List (Addr×Obj)
 xe:Value->Shared->Prop
noncomputable def lE(l:List Env):List Addr:=l.filterMap (·.frame)
abbrev Cx.fs(X:Cx):List Addr:=lE X.outer
def ku(sc:Scope)(x:Str):Prop:=sc.names.lookup x=some .local\/sc.names.lookup x=some .cell\/sc.names.lookup x=some .free
def Loc(sc:Scope)(x:Str):Prop:=sc.names.lookup x=some .local\/sc.names.lookup x=some .cell
def Look(env:Env)(h:Heap)(m:Str->Option Value)(x:Str)(u:Value):Prop:=
 (env.kindOf x=some .local/\m x=some u)\/((env.kindOf x=some .cell\/env.kindOf x=some .free)/\∃c,env.cells.lookup x=some c/\h.IsCell c (some u))
structure Cx.Ok(X:Cx):Prop where
 mod:Mod X.K X.mg X.base
 kind:X.env.scope.kind=.function
 glob:X.env.globals=XY
 blt:X.env.builtins=YR
 above:X.s₀.heap.objs.size<=X.env.locals
 inj:∀x y c,X.env.cells.lookup x=some c->X.env.cells.lookup y=some c->x=y
 has:∀x,(X.env.kindOf x=some .cell\/X.env.kindOf x=some .free)->∃c,X.env.cells.lookup x=some c
 cab:∀x c,X.fn x=true->X.env.cells.lookup x=some c->X.s₀.heap.objs.size<=c
 hd:X.calm=true->X.A.handled=none
 frames:X.A.frames=some X.stack
 stk:X.stack=X.outer\/(X.stack=X.env::X.outer/\X.env.frame=some X.env.locals)
 exf:∀b∈X.ex,b≠X.env.locals/\∀x c,X.env.cells.lookup x=some c->c≠b
 bs:∀b o,X.base.get? b=some o->X.s₀.heap.get? b=some o/\X.H₀ b=none
 bsz:X.base.objs.size<=X.s₀.heap.objs.size
 noex:∀b o,X.base.get? b=some o->b∉X.ex
 exfs:∀b∈X.ex,b∉X.fs
 nO:X.s₀.heap.FunFrames X.base X.outer
 frf:∀b∈X.fs,X.H₀ b=none
structure Inv(X:Cx)(pins:List (Addr×Obj))(Y:List (Option V))(H:Hp)(s:Shared):Prop where
 ok:X.Ok
 os:s.os=X.s₀.os
 bare:YE s.gens
 base:Un X.fs X.ex X.H₀ H X.s₀.heap s.heap
 loc:∃m,s.heap.Ns X.env.locals m/\∀(i:Nat)(x:Str)(v:V),X.N[i]?=some x->Y[i]?=some (some v)->ku X.env.scope x->∃u,RelV v u/\Look X.env s.heap m x u
 cell:∀x c,X.env.cells.lookup x=some c->∃v,s.heap.IsCell c v
 free:H X.env.locals=none
 freeC:∀x c,X.env.cells.lookup x=some c->H c=none
 pin:∀p∈X.pn++pins,s.heap.get? p.1=some p.2/\H p.1=none/\p.1≠X.env.locals/\p.1∉X.fs/\∀v,p.2.data≠.cell v
 hok:kN X.prog X.w H s.heap
 len:Y.length=X.N.length
variable{g':Array GenState}{t' i j:Nat}{d':Drawn}{ch:List Addr}{it:Addr}{N:List Str}{E:Value->Shared->Prop}{u:Value}
section
variable{X:Cx}{pins:List (Addr×Obj)}{Y:List (Option V)}{H H':Hp}{s:Shared}{h':Heap}
theorem Cx.Ok.O0(ok:X.Ok){b:Addr}(e:X.base.get? b=some o):b∉X.fs:=λd=>by have:=(ok.nO.mem d).1;rw[e] at this;cases this
theorem Inv.bs(I:Inv X pins Y H s):∀b o,X.base.get? b=some o->s.heap.get? b=some o/\H b=none:=λb o e=>⟨I.base.keep b o (I.ok.bs b o e).1 (I.ok.bs b o e).2 (I.ok.O0 e) (I.ok.noex b o e),I.base.free b o (I.ok.bs b o e).1 (I.ok.bs b o e).2 (I.ok.noex b o e)⟩
theorem Inv.bk(I:Inv X pins Y H s):∀b o,X.base.get? b=some o->s.heap.get? b=some o:=λb o e=>(I.bs b o e).1
theorem Inv.mod(I:Inv X pins Y H s):Mod X.K X.mg X.base:=I.ok.mod
theorem Inv.uh(I:Inv X pins Y H s):X.K.In s.heap:=I.ok.mod.kin.keeps I.bk
theorem Inv.lt(I:Inv X pins Y H s):X.env.locals<s.heap.objs.size:=let ⟨_,hn,_⟩:=I.loc;hn.lt
theorem Inv.sz(I:Inv X pins Y H s):X.s₀.heap.objs.size<=s.heap.objs.size:=RE I.ok.above (Rv I.lt)
theorem Inv.Lh(I:Inv X pins Y H s){a:Addr}(h:s.heap.objs.size<=a):a∉X.fs:=λd=>by obtain⟨_,o,ho,_⟩:=I.ok.nO.mem d;exact absurd (Q8 (Q7 ho) (RE I.sz h)) (Ri _)
theorem Inv.Jf(I:Inv X pins Y H s):∀x c,X.env.cells.lookup x=some c->c≠X.env.locals:=λx c e z=>by obtain⟨v,o,ho,hd⟩:=I.cell x c e;obtain⟨m,⟨o',es,i,h,q,_⟩,_⟩:=I.loc;rw[z,h] at ho;cases ho;rw[q] at hd;cases hd
theorem Inv.nO(I:Inv X pins Y H s):s.heap.FunFrames X.base X.outer:=by
 have all:∀(l:List Env),(∀b∈lE l,b∈X.fs)->X.s₀.heap.FunFrames X.base l->s.heap.FunFrames X.base l:=by
  intro l;induction l with
  |nil=>intro _ _;trivial
  |cons env r m=>intro hs hl;obtain⟨hk,⟨L,o,hf,hn,ho,hd⟩,w⟩:=hl;have u:L∈X.fs:=hs L (by unfold lE;rw[TC,hf];exact Q5);obtain⟨sl,e⟩:=I.base.slot L o ho (I.ok.frf L u) u λz=>I.ok.exfs L z u;exact⟨hk,⟨L,_,hf,hn,e,hd⟩,m (λb d=>hs b (by unfold lE;rw[TC,hf];exact QW _ d)) w⟩
 exact all X.outer (λ_ d=>d) I.ok.nO
theorem Inv.stack(I:Inv X pins Y H s):s.heap.FunFrames X.base X.stack:=by
 rcases I.ok.stk with e|⟨e,hf⟩
 .rw[e];exact I.nO
 .rw[e];obtain⟨m,hn,_⟩:=I.loc;refine .cons (by rw[I.ok.kind];decide) hf hn ?_ I.nO;exact Heap.get?_none_of_le (RE I.ok.bsz I.ok.above)
theorem Inv.kA(I:Inv X pins Y H s):∀b∈lE X.stack,b∈X.env.locals::X.fs:=λb d=>by
 rcases I.ok.stk with e|⟨e,hf⟩
 .rw[e] at d;exact QW _ d
 .rw[e] at d;unfold lE at d;rw[TC,hf] at d;exact d
theorem Inv.vX(I:Inv X pins Y H s):∀b∈lE X.stack,H b=none:=λb d=>by
 rcases QV.mp (I.kA b d) with e|d
 .rw[e];exact I.free
 .obtain⟨_,o,ho,_⟩:=I.ok.nO.mem d;exact I.base.free b o ho (I.ok.frf b d) λz=>I.ok.exfs b z d
theorem Inv.step(I:Inv X pins Y H s)
  (y:∀b∈ch,(b∈X.ex\/X.s₀.heap.objs.size<=b)/\b≠X.env.locals/\(∀x c,X.env.cells.lookup x=some c->c≠b)/\∀p∈X.pn++pins,p.1≠b)
  (keep:∀b o,b≠X.env.locals->b∉X.fs->b∉ch->s.heap.get? b=some o->H b=none->h'.get? b=some o)
  (slot:∀b o,b≠X.env.locals->b∈X.fs->b∉ch->s.heap.get? b=some o->H b=none->∃sl,h'.get? b=some { o with slots:=sl })(free:∀b o,b∉ch->s.heap.get? b=some o->H b=none->H' b=none)
  (there:∀b o,b∉ch->s.heap.get? b=some o->∃o',h'.get? b=some o')
  (tups:∀b xs,H b=some (.tup xs)->H' b=some (.tup xs))(frzs:∀b o u,H b=some (.frz o u)->H' b=some (.frz o u))(tbls:∀b ps,H b=some (.tbl ps)->∃more,H' b=some (.tbl (ps++more)))
  (ns:∀m,s.heap.Ns X.env.locals m->h'.Ns X.env.locals m)(hok:kN X.prog X.w H' h')(J:YE g'):
  Inv X pins Y H' { s with heap:=h',gens:=g',drawn:=d',toks:=t' }:=by
 have F:∀b o,X.s₀.heap.get? b=some o->b≠X.env.locals:=λb o e=>Rw (Q8 (Q7 e) I.ok.above);have D:∀b o,X.s₀.heap.get? b=some o->b∉X.ex->b∉ch:=λb o e hx E=>by
  rcases(y b E).1 with z|z
  .exact hx z
  .exact absurd (Q8 (Q7 e) z) (Ri _)
 have B:∀x c,X.env.cells.lookup x=some c->∀v,s.heap.IsCell c v->h'.IsCell c v:=λx c e v ⟨o,ho,hd⟩=>by
  have C:c∉ch:=λz=>(y c z).2.2.1 x c e rfl;by_cases hc:c∈X.fs
  .obtain⟨sl,q⟩:=slot c o (I.Jf x c e) hc C ho (I.freeC x c e);exact⟨_,q,hd⟩
  .exact⟨o,keep c o (I.Jf x c e) hc C ho (I.freeC x c e),hd⟩
 refine⟨I.ok,I.os,J,⟨λb o e n E hx=>?_,λb o e n E hx=>?_,λb o e n hx=>?_,λb o e hx=>?_,λb xs e=>tups b xs (I.base.tups b xs e),λb o xs e=>frzs b o xs (I.base.frzs b o xs e),λb ps e=>?_⟩,?_,λx c e=>?_,?_,λx c e=>?_,λp hp=>?_,hok,I.len⟩
 .exact keep b o (F b o e) E (D b o e hx) (I.base.keep b o e n E hx) (I.base.free b o e n hx)
 .obtain⟨sl,e1⟩:=I.base.slot b o e n E hx;obtain⟨G,e2⟩:=slot b _ (F b o e) E (D b o e hx) e1 (I.base.free b o e n hx);exact⟨G,e2⟩
 .obtain⟨o',e1⟩:=I.base.there b o e hx;exact free b o' (D b o e hx) e1 (I.base.free b o e n hx)
 .obtain⟨o',e1⟩:=I.base.there b o e hx;exact there b o' (D b o e hx) e1
 .obtain⟨K,e1⟩:=I.base.tbls b ps e;obtain⟨L,e2⟩:=tbls b _ e1;exact⟨K++L,by rw[e2,Array.append_assoc]⟩
 .obtain⟨m,hn,hl⟩:=I.loc;refine⟨m,ns m hn,λi x v e1 e2 N=>?_⟩;obtain⟨u,r,l⟩:=hl i x v e1 e2 N;refine⟨u,r,?_⟩;rcases l with l|⟨k,c,e,z⟩
  .exact .inl l
  .exact .inr ⟨k,c,e,B x c e _ z⟩
 .obtain⟨v,z⟩:=I.cell x c e;exact⟨v,B x c e v z⟩
 .obtain⟨m,⟨o,_,_,ho,_⟩,_⟩:=I.loc;exact free _ o (λz=>(y _ z).2.1 rfl) ho I.free
 .obtain⟨v,o,ho,hd⟩:=I.cell x c e;exact free c o (λz=>(y c z).2.2.1 x c e rfl) ho (I.freeC x c e)
 .obtain⟨e,n,ne,nf,d⟩:=I.pin p hp;have C:p.1∉ch:=λz=>(y p.1 z).2.2.2 p hp rfl;exact⟨keep p.1 p.2 ne nf C e n,free p.1 p.2 C e n,ne,nf,d⟩
theorem Inv.un(I:Inv X pins Y H s)(u:Un X.fs [] H H' s.heap h')(hok:kN X.prog X.w H' h'):Inv X pins Y H' { s with heap:=h',toks:=t' }:=by
 obtain⟨m,⟨o,es,i,ho,r⟩,_⟩:=id I.loc;obtain⟨sl,P⟩:=u.any ho I.free Z4;exact I.step (g':=s.gens) (d':=s.drawn) (ch:=[]) (λ_ z=>nomatch z) (λb o _ d _ e n=>u.keep b o e n d Z4) (λb o _ d _ e n=>u.slot b o e n d Z4) (λb o _ e n=>u.free b o e n Z4) (λb o _ e=>u.there b o e Z4) u.tups u.frzs u.tbls (λQ hm=>by obtain⟨o',x,O,h,r'⟩:=hm;rw[ho] at h;cases h;exact⟨_,x,O,P,r'⟩) hok I.bare
theorem Inv.call(I:Inv X pins Y H s)(u:Un (lE X.stack) ch H H' s.heap h')(hok:kN X.prog X.w H' h')(J:YE g')
  (y:∀b∈ch,(b∈X.ex\/X.s₀.heap.objs.size<=b)/\b≠X.env.locals/\(∀x c,X.env.cells.lookup x=some c->c≠b)/\∀p∈X.pn++pins,p.1≠b):
  Inv X pins Y H' { s with heap:=h',gens:=g',drawn:=d',toks:=t' }:=by
 obtain⟨m,⟨o,es,i,ho,r⟩,_⟩:=id I.loc;obtain⟨sl,P⟩:=u.any ho I.free λz=>(y _ z).2.1 rfl;exact I.step (ch:=ch) y (λb o P d hc e n=>u.keep b o e n (λz=>(QV.mp (I.kA b z)).elim P d) hc) (λb o _ _ hc e n=>u.any e n hc) (λb o hc e n=>u.free b o e n hc) (λb o hc e=>u.there b o e hc) u.tups u.frzs u.tbls (λQ hm=>by obtain⟨o',R,O,h,r'⟩:=hm;rw[ho] at h;cases h;exact⟨_,R,O,P,r'⟩) hok J
theorem Inv.turned(I:Inv X pins Y H s)(k:∀b o,b≠it->s.heap.get? b=some o->h'.get? b=some o)(hn:H it=none)(P:it≠X.env.locals)
  (h1:it∈X.ex\/X.s₀.heap.objs.size<=it)(h2:∀x c,X.env.cells.lookup x=some c->c≠it)(h3:∀p∈X.pn++pins,p.1≠it):Inv X pins Y H { s with heap:=h',toks:=t' }:=by
 have S:∀b u,H b=some u->b≠it:=λb u e z=>by rw[z,hn] at e;cases e
 refine I.step (g':=s.gens) (d':=s.drawn) (ch:=[it]) (λb d=>?_) (λb o _ _ hc e _=>k b o (λz=>hc (by simp[z])) e) (λb o _ _ hc e _=>⟨o.slots,k b o (λz=>hc (by simp[z])) e⟩) (λ_ _ _ _ n=>n)
  (λb o hc e=>⟨o,k b o (λz=>hc (by simp[z])) e⟩) (λ_ _ e=>e) (λ_ _ _ e=>e) (λb ps e=>⟨#[],by rw[e];simp⟩) (λm hm=>?_) (λb u e=>?_) I.bare
 .have e:b=it:=by simpa using d
  subst e;exact⟨h1,P,h2,h3⟩
 .obtain⟨o,es,i,ho,r⟩:=hm;exact⟨o,es,i,k _ o (RP P) ho,r⟩
 .refine(I.hok b u e).iM (λc v hc q=>k c v ?_ q) (λ_ q=>q) λ_ _ q=>q;rcases hc with z|z
  .rw[z];exact S b u e
  .exact S c _ z
theorem Inv.tok(I:Inv X pins Y H s)(t:Nat):Inv X pins Y H { s with toks:=t }:=I.un (h':=s.heap) (t':=t) Un.refl I.hok
theorem Inv.kept{t':Nat}(I:Inv X pins Y H s)(k:∀b u,s.heap.get? b=some u->h'.get? b=some u):Inv X pins Y H { s with heap:=h',toks:=t' }:=I.un (Un.kept k) (I.hok.kept k)
theorem Inv.laid{a:Addr}{o:HO}{t':Nat}(I:Inv X pins Y H s)(k:∀b u,s.heap.get? b=some u->h'.get? b=some u)(hp:s.heap.objs.size<=a)(new:c9 X.prog X.w (upd H a o) h' a o):
  Inv X pins Y (upd H a o) { s with heap:=h',toks:=t' }:=I.un (Un.laid k hp (I.hok.fresh hp)) (I.hok.laid k hp new)
theorem Inv.write{x e:Addr}{o:HO}{t':Nat}(I:Inv X pins Y H s)(mu:NX (H x))(he:e=x\/H e=some (.own x))(k:∀b u,b≠e->s.heap.get? b=some u->h'.get? b=some u)(r:∃u,h'.get? e=some u)
  (new:c9 X.prog X.w (upd H x o) h' x o):Inv X pins Y (upd H x o) { s with heap:=h',toks:=t' }:=I.un (Un.write mu he k r) (I.hok.write mu he k r new)
theorem Inv.ql{T:List (Addr×Obj)}(I:Inv X pins Y H s)(h:∀p∈T,s.heap.get? p.1=some p.2/\H p.1=none/\p.1≠X.env.locals/\p.1∉X.fs/\∀v,p.2.data≠.cell v):Inv X T Y H s:=
 ⟨I.ok,I.os,I.bare,I.base,I.loc,I.cell,I.free,I.freeC,λp hp=>(Q0.mp hp).elim (λz=>I.pin p (QR _ z)) (h p),I.hok,I.len⟩
theorem sJ(hN:N.Nodup){x:Str}(a:N[i]?=some x)(b:N[j]?=some x):i=j:=by obtain⟨h1,e1⟩:=QP.mp a;obtain⟨h2,e2⟩:=QP.mp b;exact(Wd hN).mp (e1.trans e2.symm)
theorem n9{M:Model}{A:XZ}{x:Str}{v:V}{Q:Unit->Shared->Prop}(I:Inv X pins Y H s)(hN:X.N.Nodup)(hi:X.N[i]?=some x)(hx:Loc X.env.scope x)(r:RelV v u)
  (h:∀s',Inv X pins (Y.set i (some v)) H s'->(∃a,Ud a s.heap s'.heap/\(a=X.env.locals\/X.env.cells.lookup x=some a))->Q () s')(hf:X.fn x=true\/X.env.scope.names.lookup x=some .local:=by first|exact .inl rfl|exact .inr rfl|assumption):XO M A (storeName X.env x u) Q E s:=by
 obtain⟨m,hn,hl⟩:=id I.loc;have hcls:(X.env.scope.kind==.class || (X.env.scope.kind==.module&&X.env.locals != X.env.globals))=false:=by rw[I.ok.kind];rfl
 have hiσ:i<Y.length:=by rw[I.len];exact(QP.mp hi).1
 have Jf:=I.Jf;have tracked:∀{a:Addr}{h':Heap},(∃o,s.heap.get? a=some o/\H a=none)->Ud a s.heap h'->kN X.prog X.w H h':=λ{a h'} ha hs b ob e=>by
  obtain⟨_,_,hfree⟩:=ha;refine(I.hok b ob e).iM (λc w' hc q=>(hs.2 c ?_).trans q) (λ_ q=>q) λ_ _ q=>q;rintro rfl;rcases hc with rfl|hc
  .rw[hfree] at e;cases e
  .rw[hfree] at hc;cases hc
 rcases hx with hk|hk
 .refine wpAny_storeName_local hk hn (λh' hn' hs=>?_) hcls;obtain⟨oL,_,_,hoL,_⟩:=id hn;refine h _ ⟨I.ok,I.os,I.bare,⟨λb o e n hb hx=>?_,λb o e n hb hx=>?_,I.base.free,λb o e hx=>?_,I.base.tups,I.base.frzs,I.base.tbls⟩,⟨_,hn',λj y v' e1 e2 e3=>?_⟩,λy c e=>?_,I.free,I.freeC,λp hp=>?_,tracked ⟨oL,hoL,I.free⟩ hs,by simpa using I.len⟩ ⟨_,hs,.inl rfl⟩
  .exact(hs.2 b (Rw (Q8 (Q7 e) I.ok.above))).trans (I.base.keep b o e n hb hx)
  .obtain⟨sl,e1⟩:=I.base.slot b o e n hb hx;exact⟨sl,(hs.2 b (Rw (Q8 (Q7 e) I.ok.above))).trans e1⟩
  .obtain⟨o',e1⟩:=I.base.there b o e hx;exact⟨o',(hs.2 b (Rw (Q8 (Q7 e) I.ok.above))).trans e1⟩
  .by_cases hj:j=i
   .subst hj;rw[hi] at e1;cases e1;rw[Q9 hiσ] at e2;cases e2;exact⟨u,r,.inl ⟨hk,by simp⟩⟩
   .rw[Rk (RP hj)] at e2;obtain⟨u',r',q⟩:=hl j y v' e1 e2 e3;refine⟨u',r',?_⟩;rcases q with ⟨k,e⟩|⟨k,c,e,z⟩
    .refine .inl ⟨k,?_⟩;have:y≠x:=λe=>hj (sJ hN e1 (e▸hi));simp[this,e]
    .exact .inr ⟨k,c,e,z.sameBut hs (Jf y c e)⟩
  .obtain⟨w',z⟩:=I.cell y c e;exact⟨w',z.sameBut hs (Jf y c e)⟩
  .obtain⟨e,n,ne,nf,d⟩:=I.pin p hp;exact⟨(hs.2 p.1 ne).trans e,n,ne,nf,d⟩
 .have hfn:X.fn x=true:=by
   rcases hf with z|z
   .exact z
   .rw[z] at hk;cases hk
  obtain⟨c,hc⟩:=I.ok.has x (.inl hk);obtain⟨w',z⟩:=I.cell x c hc;refine wpAny_storeName_cell I.ok.kind hk hc z (λh' hc' hs=>?_);obtain⟨oc,hoc,hocd⟩:=id z;refine h { s with heap:=h' } ⟨I.ok,I.os,I.bare,⟨λb o e n hb hx=>?_,λb o e n hb hx=>?_,I.base.free,λb o e hx=>?_,I.base.tups,I.base.frzs,I.base.tbls⟩,⟨m,hn.sameBut hs (RP (Jf x c hc)),λj y v' e1 e2 e3=>?_⟩,λy c' e=>?_,I.free,I.freeC,λp hp=>?_,tracked ⟨oc,hoc,I.freeC x c hc⟩ hs,by simpa using I.len⟩ ⟨c,hs,.inr hc⟩
  .exact(hs.2 b (Rw (Q8 (Q7 e) (I.ok.cab x c hfn hc)))).trans (I.base.keep b o e n hb hx)
  .obtain⟨sl,e1⟩:=I.base.slot b o e n hb hx;exact⟨sl,(hs.2 b (Rw (Q8 (Q7 e) (I.ok.cab x c hfn hc)))).trans e1⟩
  .obtain⟨o',e1⟩:=I.base.there b o e hx;exact⟨o',(hs.2 b (Rw (Q8 (Q7 e) (I.ok.cab x c hfn hc)))).trans e1⟩
  .by_cases hj:j=i
   .subst hj;rw[hi] at e1;cases e1;rw[Q9 hiσ] at e2;cases e2;exact⟨u,r,.inr ⟨.inl hk,c,hc,hc'⟩⟩
   .rw[Rk (RP hj)] at e2;obtain⟨u',r',q⟩:=hl j y v' e1 e2 e3;refine⟨u',r',?_⟩;rcases q with q|⟨k,c',e,z'⟩
    .exact .inl q
    .refine .inr ⟨k,c',e,z'.sameBut hs ?_⟩;rintro rfl;exact hj (sJ hN e1 (I.ok.inj _ _ _ e hc▸hi))
  .by_cases hcc:c'=c
   .subst hcc;exact⟨_,hc'⟩
   .obtain⟨w2,z2⟩:=I.cell y c' e;exact⟨w2,z2.sameBut hs hcc⟩
  .obtain⟨e,n,ne,nf,d⟩:=I.pin p hp;refine⟨(hs.2 p.1 ?_).trans e,n,ne,nf,d⟩;intro q;rw[q,hoc] at e;have q':oc=p.2:=Rj e;exact d w' (by rw[<-q'];exact hocd)
theorem jR{M:Model}{A:XZ}{x:Str}{v:V}{Q:Unit->Shared->Prop}(I:Inv X pins Y H s)(hN:X.N.Nodup)(hi:X.N[i]?=some x)(hx:Loc X.env.scope x)(r:RelV v u)
  (h:∀s',Inv X pins (Y.set i (some v)) H s'->Q () s')(hf:X.fn x=true\/X.env.scope.names.lookup x=some .local:=by first|exact .inl rfl|exact .inr rfl|assumption):XO M A (storeName X.env x u) Q E s:=
 n9 I hN hi hx r (λs' I' _=>h s' I') hf
theorem Inv.MZ{s':Shared}(I:Inv X pins Y H s)(ho:s'.os=s.os)(u:Un (lE X.stack) ch H H' s.heap s'.heap)(hok:kN X.prog X.w H' s'.heap)(J:YE s'.gens)
  (y:∀b∈ch,(b∈X.ex\/X.s₀.heap.objs.size<=b)/\b≠X.env.locals/\(∀x c,X.env.cells.lookup x=some c->c≠b)/\∀p∈X.pn++pins,p.1≠b):Inv X pins Y H' s':=by
 obtain⟨h',g',d',t',o'⟩:=s';have e:o'=s.os:=ho;subst e;exact I.call (g':=g') (t':=t') (d':=d') u hok J y
end
abbrev XK:=Value->Option Addr->Hp->Prop
noncomputable abbrev St:=List (Option V)
abbrev VK:=V->Hp->Prop
abbrev TE:=St->Hp->VK->Prop
abbrev TT:=St->Hp->(Bool->Hp->Prop)->Prop
abbrev TA:=St->Hp->(List V->Hp->Prop)->Prop
structure Ends where
 nx:St->Hp->Prop
 rt:VK
 bk:St->Hp->Prop:=λ_ _=>False
 ct:St->Hp->Prop:=λ_ _=>False
abbrev TS:=Ends->St->Hp->Prop
inductive EP(X:Cx)(pins:List (Addr×Obj))(Y:St)(Q:VK)(u:Value)(s':Shared):Prop
 |mk(v:V)(H':Hp)(i:Inv X pins Y H' s')(r:RelV v u)(q:Q v H')
inductive TP(X:Cx)(pins:List (Addr×Obj))(Y:St)(Q:Bool->Hp->Prop)(b:Bool)(s':Shared):Prop
 |mk(H':Hp)(i:Inv X pins Y H' s')(q:Q b H')
inductive AP(X:Cx)(pins:List (Addr×Obj))(Y:St)(Q:List V->Hp->Prop)(us:List Value)(s':Shared):Prop
 |mk(vs:List V)(H':Hp)(i:Inv X pins Y H' s')(r:Vals vs us)(q:Q vs H')
def SP(X:Cx)(pins:List (Addr×Obj))(D:Ends)(f:Flow)(s':Shared):Prop:=
 match f with
 | .next=>∃j H',Inv X pins j H' s'/\D.nx j H'
 | .brk=>∃j H',Inv X pins j H' s'/\D.bk j H'
 | .cont=>∃j H',Inv X pins j H' s'/\D.ct j H'
 | .ret u=>∃v j H',Inv X pins j H' s'/\RelV v u/\D.rt v H'
def PE(X:Cx)(e:Expr)(t:TE):Prop:=
 ∀(pins:List (Addr×Obj))(s:Shared)(Y:St)(H:Hp)(Q:VK),Inv X pins Y H s->t Y H Q->XO (XU X.prog X.w) X.A (eval e X.env) (EP X pins Y Q) X.xe s
def PT(X:Cx)(e:Expr)(t:TT):Prop:=
 ∀(pins:List (Addr×Obj))(s:Shared)(Y:St)(H:Hp)(Q:Bool->Hp->Prop),Inv X pins Y H s->t Y H Q->XO (XU X.prog X.w) X.A (Zj e X.env (eval e X.env)) (TP X pins Y Q) X.xe s
def PW(X:Cx)(e:Expr)(t:TT):Prop:=
 ∀(z:Sem Value)(pins:List (Addr×Obj))(s:Shared)(Y:St)(H:Hp)(Q:Bool->Hp->Prop),Inv X pins Y H s->t Y H Q->XO (XU X.prog X.w) X.A (Zj e X.env z) (TP X pins Y Q) X.xe s
variable{X:Cx}{e:Expr}
theorem PW.pt{t:TT}(h:PW X e t):PT X e t:=h _
def PA(X:Cx)(es:List Expr)(t:TA):Prop:=
 ∀(pos:Pos)(pins:List (Addr×Obj))(s:Shared)(Y:St)(H:Hp)(Q:List V->Hp->Prop),Inv X pins Y H s->t Y H Q->XO (XU X.prog X.w) X.A (spliced (XW pos (XM es X.env))) (AP X pins Y Q) X.xe s
def PS(X:Cx)(st:Stmt)(t:TS):Prop:=
 ∀(pins:List (Addr×Obj))(s:Shared)(Y:St)(H:Hp)(D:Ends),Inv X pins Y H s->t D Y H->XO (XU X.prog X.w) X.A (exec st X.env) (SP X pins D) X.xe s
def qX(X:Cx)(st:List Stmt)(t:TS):Prop:=
 ∀(pins:List (Addr×Obj))(s:Shared)(Y:St)(H:Hp)(D:Ends),Inv X pins Y H s->t D Y H->XO (XU X.prog X.w) X.A (execs st X.env) (SP X pins D) X.xe s
variable{α:Type}{s:Shared}
theorem cE{t:Sem α}{Q H:α->Shared->Prop}{M:Model}{A:XZ}(h:XO M A t Q E s)(I:∀a s,Q a s->H a s):XO M A t H E s:=Yp h I λ_ _ x=>x
variable{pins:List (Addr×Obj)}{Y:St}{R:V->V->Hp->Prop}{pos:Pos}{Q:Value->Shared->Prop}{op:YA}{c:Expr}
section
variable{X:Cx}
theorem bin{a b:Expr}{ta tb:TE}(c:PE X a ta)(d:PE X b tb)(I:Inv X pins Y H s)(h:ta Y H λx V=>tb Y V λy U=>R x y U)
  {Q:α->Shared->Prop}{f:Value->Value->Sem α}
  (hf:∀v u s2 x y U,Inv X pins Y U s2->RelV x v->RelV y u->R x y U->XO (XU X.prog X.w) X.A (f v u) Q X.xe s2):
  XO (XU X.prog X.w) X.A (eval a X.env) (λv Z=>XO (XU X.prog X.w) X.A (eval b X.env) (λu T=>XO (XU X.prog X.w) X.A (f v u) Q X.xe T) X.xe Z) X.xe s:=by
 refine cE (c pins s Y H _ I h) λv s1 ⟨x,V,e,g,j⟩=>?_;refine cE (d pins s1 Y V _ e j) λu s2 ⟨y,U,k,l,n⟩=>?_;exact hf v u s2 x y U k g l n
noncomputable def lT(i:Nat):TE:=λY H Q=>∃v,Y[i]?=some (some v)/\Q v H
noncomputable def tC(v:V):TE:=λ_ H Q=>Q v H
theorem bS{x:Str}(hN:X.N[i]?=some x)(hv:ku X.env.scope x)(hd:fC x:=by decide)(hcd:lA x:=by decide):PE X (.Name x pos) (lT i):=by
 intro pins s Y H Q I h;obtain⟨v,e,h⟩:=h;obtain⟨m,hn,hl⟩:=I.loc;obtain⟨u,r,l⟩:=hl i x v hN e hv;have fin:EP X pins Y Q u s:=⟨v,H,I,r,h⟩
 rcases l with ⟨hk,hm⟩|⟨hk,c,hc,hcell⟩
 .exact Zp (wpAny_loadName_local I.ok.kind hk hn hm fin) hd
 .rcases hk with hk|hk
  .exact Zp (wpAny_loadName_cell I.ok.kind hk hc hcell fin) hd
  .exact Zp (wpAny_loadName_free I.ok.kind hk hc hcell fin hcd) hd
theorem JO{i j pos}:PE X (.Constant (.int i) j pos) (tC (.int i)):=λ_ _ _ H _ I h=>wpAny_Constant_int ⟨.int i,H,I.tok _,⟨_,rfl⟩,h⟩
theorem Lm{b j pos}:PE X (.Constant (.bool b) j pos) (tC (.bl b)):=λ_ _ _ H _ I h=>Constant_bool ⟨.bl b,H,I,rfl,h⟩
theorem G8{j pos}:PE X (.Constant .none j pos) (tC .non):=λ_ _ _ H _ I h=>Constant_none ⟨.non,H,I,rfl,h⟩
theorem Iy{x j pos}:PE X (.Constant (.str x) j pos) (tC (.str x)):=λ_ _ _ H _ I h=>Calls.Constant_str ⟨.str x,H,I.tok _,⟨_,rfl⟩,h⟩
def Gl(X:Cx)(x:Str):Prop:=X.env.kindOf x=some .globalImplicit
theorem qo{x:Str}(I:Inv X pins Y H s)(hg:Gl X x)(hm:X.mg x=some u)(h:Q u s)
  (hd:fC x:=by decide):XO (XU X.prog X.w) X.A (eval (.Name x pos) X.env) Q E s:=
 U7 I.ok.kind hg (Calls.loadGlobal_global (by rw[I.ok.glob];exact I.mod.glob.keeps I.bk) hm h) hd
theorem gY{x:Str}(I:Inv X pins Y H s)(hg:Gl X x)(hm:X.mg x=none)(hv:XQ x=some u)(h:Q u s)
  (hn:x ≠ "__name__" := by decide)(hd:fC x:=by decide):XO (XU X.prog X.w) X.A (eval (.Name x pos) X.env) Q E s:=by
 obtain⟨mb,h1,h2⟩:=I.mod.blt;exact U7 I.ok.kind hg (Calls.loadGlobal_builtin (by rw[I.ok.glob];exact I.mod.glob.keeps I.bk) hm (by rw[I.ok.blt];exact h1.keeps I.bk) ((h2 x hn).trans hv) h) hd
theorem vx{x:Str}{v:V}(hg:Gl X x)(hm:X.mg x=some u)(r:RelV v u)(hd:fC x:=by decide):PE X (.Name x pos) (tC v):=
 λ_ _ _ H _ I h=>qo I hg hm ⟨v,H,I,r,h⟩ hd
theorem ER{x:Str}{v:V}(hg:Gl X x)(hm:X.mg x=none)(hv:XQ x=some u)(r:RelV v u)(hn:x ≠ "__name__" := by decide)(hd:fC x:=by decide):PE X (.Name x pos) (tC v):=
 λ_ _ _ H _ I h=>gY I hg hm hv ⟨v,H,I,r,h⟩ hn hd
variable{a b:Expr}{ta tb:TE}{pos:Pos}
def PC(X:Cx)(op:YA)(a b:Expr)(t:TE):Prop:=
 ∀(pins:List (Addr×Obj))(s:Shared)(Y:St)(H:Hp)(Q:VK),Inv X pins Y H s->t Y H Q->
  XO (XU X.prog X.w) X.A (eval a X.env) (λv Z=>XO (XU X.prog X.w) X.A (eval b X.env) (λu T=>XO (XU X.prog X.w) X.A (Yd op v u) (EP X pins Y Q) X.xe T) X.xe Z) X.xe s
theorem yq(b:Expr)(h:op≠.In)(h2:op≠.NotIn):X4 op b=false:=by
 have e1:(op==XC)=false:=by cases op<;>first|rfl|exact absurd rfl h
 have e2:(op==WW)=false:=by cases op<;>first|rfl|exact absurd rfl h2
 cases b<;>simp[X4,e1,e2]
noncomputable def tB(t:TE):TT:=λY H Q=>t Y H λx V=>∃c,x=.bl c/\Q c V
theorem O3{t:TE}(h:PC X op a b t)(h1:X4 op b=false:=by first|exact yq _ Z2 Z2|rfl):PT X (.Compare a [op] [b] pos) (tB t):=by intro pins s Y H Q I hw;refine Y2 (cE (h pins s Y H _ I hw) λv s1 h1=>cE h1 λu s2 h2=>cE h2 λc s3 ⟨x,H1,I1,r1,q1⟩=>?_) h1;obtain⟨d,rfl,q⟩:=q1;cases r1;exact Ym ⟨H1,I1,q⟩
theorem Jd{t:TE}(h:PE X e t)(he:∀whole,Zj e X.env whole=(do let v <- whole;YF e.pos;holding [v] (truthy v)):=by intro _;rfl):PT X e (tB t):=by intro pins s Y H Q I hw;refine isTrue_plain (cE (h pins s Y H _ I hw) λv s1 ⟨x,H1,I1,r1,q1⟩=>?_) (he _);obtain⟨d,rfl,q⟩:=q1;cases r1;exact Ym ⟨H1,I1,q⟩
variable{tA tB':TT}{rest:List Expr}
noncomputable def OG(t u:TT):TT:=λY H Q=>t Y H λc V=>if c=true then u Y V Q else Q false V
noncomputable def Ql(t u:TT):TT:=λY H Q=>t Y H λc V=>if c=true then Q true V else u Y V Q
noncomputable def Pp(t:TT):TT:=λY H Q=>t Y H λc V=>Q (!c) V
theorem DV(f:PT X a tA):PW X (.BoolOp .And [a] pos) tA:=by
 intro Z pins s Y H Q I h;refine isTrue_and (cE (f pins s Y H Q I h) λc s1 e=>?_);cases c with
 |true=>exact isTrue_and_nil e
 |false=>exact e
theorem GY(f:PT X a tA):PW X (.BoolOp .Or [a] pos) tA:=by
 intro Z pins s Y H Q I h;refine isTrue_or (cE (f pins s Y H Q I h) λc s1 e=>?_);cases c with
 |false=>exact isTrue_or_nil e
 |true=>exact e
theorem IZ(f:PT X a tA)(d:PW X (.BoolOp .And (b::rest) pos) tB'):PW X (.BoolOp .And (a::b::rest) pos) (OG tA tB'):=by
 intro Z pins s Y H Q I h;refine isTrue_and (cE (f pins s Y H _ I h) λc s1 ⟨V,e,j⟩=>?_);cases c with
 |true=>exact d Z pins s1 Y V Q e j
 |false=>exact⟨V,e,j⟩
theorem K8(f:PT X a tA)(d:PW X (.BoolOp .Or (b::rest) pos) tB'):PW X (.BoolOp .Or (a::b::rest) pos) (Ql tA tB'):=by
 intro Z pins s Y H Q I h;refine isTrue_or (cE (f pins s Y H _ I h) λc s1 ⟨V,e,j⟩=>?_);cases c with
 |true=>exact⟨V,e,j⟩
 |false=>exact d Z pins s1 Y V Q e j
theorem Jv(f:PT X a tA):PT X (.UnaryOp .Not a pos) (Pp tA):=by intro pins s Y H Q I h;exact isTrue_not (cE (f pins s Y H (λc V=>Q (!c) V) I h) λc s' ⟨H',i,q⟩=>⟨H',i,q⟩)
noncomputable def L7(ta tb:TE):TE:=λY H Q=>ta Y H λx V=>∃c,x=.bl c/\if c=true then tb Y V Q else Q (.bl false) V
noncomputable def Nu(ta:TE):TE:=λY H Q=>ta Y H λx V=>∃c,x=.bl c/\Q (.bl (!c)) V
theorem Jn{op}{t:TE}(h:PE X a t):PE X (.BoolOp op [a] pos) t:=λpins s Y H Q I b=>BoolOp_one (h pins s Y H Q I b)
theorem Jo(f:PE X a ta)(d:PE X (.BoolOp .And (b::rest) pos) tb):PE X (.BoolOp .And (a::b::rest) pos) (L7 ta tb):=by
 intro pins s Y H Q I h;refine BoolOp_and (cE (f pins s Y H _ I h) λv s1 ⟨x,V,e,g,j⟩=>?_);obtain⟨c,rfl,j⟩:=j;cases g;refine Ym ?_;cases c with
 |true=>exact d pins s1 Y V Q e j
 |false=>exact⟨.bl false,V,e,rfl,j⟩
theorem Hg(f:PE X a ta):PE X (.UnaryOp .Not a pos) (Nu ta):=by intro pins s Y H Q I h;refine UnaryOp_ (cE (f pins s Y H _ I h) λv s1 ⟨x,V,e,g,j⟩=>?_);obtain⟨c,rfl,j⟩:=j;cases g;exact not_of (Ym ⟨.bl (!c),V,e,rfl,j⟩)
noncomputable def Qn(t:TT)(ta tb:TE):TE:=λY H Q=>t Y H λc V=>if c=true then ta Y V Q else tb Y V Q
theorem A7(hc:PT X c tA)(f:PE X a ta)(E:PE X b tb):PE X (.IfExp c a b pos) (Qn tA ta tb):=by
 intro pins s Y H Q I h;refine wpAny_IfExp (cE (hc pins s Y H _ I h) λd s1 ⟨V,e,j⟩=>?_);cases d with
 |true=>exact f pins s1 Y V Q e j
 |false=>exact E pins s1 Y V Q e j
end
def dj(K:QN)(H:Hp)(a:Addr)(xs:List V):Prop:=
 Rd H a (.lst xs) \/
  ∃(o:Obj)(b:Array Value)(n:Nat),K.lookup a=some o/\o.cls=.type "list" /\ o.dict=none/\o.data=.seq b n/\b.size<=sizeLine/\Vals xs b.toList
def gP(K:QN)(H:Hp)(a:Addr)(xs:List V):Prop:=
 Rd H a (.tup xs) \/
  ∃(o:Obj)(b:Array Value)(n:Nat),K.lookup a=some o/\(o.cls=.type "tuple" /\ o.dict=none)/\o.data=.seq b n/\b.size<=sizeLine/\Vals xs b.toList
noncomputable def OK:Value->Option V
 | .none=>some .non
 | .bool b=>some (.bl b)
 | .int i _=>some (.int i)
 | .str x _=>some (.str x)
 | .bytes b _=>some (.byt b)
 | .float b _=>some (.flt b)
 | .ref a=>some (.ref a)
 | .type n=>some (.ty n)
 |_=>none
theorem RelV.abs{x:V}(r:RelV x u):OK u=some x:=by
 cases x with
 |non=>cases r;rfl
 |bl _=>cases r;rfl
 |int _=>obtain⟨t,rfl⟩:=r;rfl
 |str _=>obtain⟨t,rfl⟩:=r;rfl
 |byt _=>obtain⟨t,rfl⟩:=r;rfl
 |flt _=>obtain⟨t,rfl⟩:=r;rfl
 |ref _=>cases r;rfl
 |ty _=>cases r;rfl
theorem RelV.inj{x y:V}(r:RelV x u)(q:RelV y u):x=y:=Rj (r.abs.symm.trans q.abs)
theorem Vals.inj:∀{xs ys:List V}{us:List Value},Vals xs us->Vals ys us->xs=ys
 |_,_,_,.nil,.nil=>rfl
 |_,_,_,.cons r t,.cons r' t'=>by rw[r.inj r',Vals.inj t t']
variable{K:QN}
section
variable{X:Cx}{pins:List (Addr×Obj)}{Y:St}{H:Hp}{s:Shared}{a:Addr}{xs ys:List V}
theorem dj.of(h:H a=some (.lst xs)):dj K H a xs:=.inl (.inl h)
theorem Inv.list(I:Inv X pins Y H s)(h:dj X.K H a xs):∃b:List Value,Vals xs b/\PlainL s.heap a b.toArray/\xs.length<=sizeLine:=by
 rcases h with h|⟨o,b,n,hk,hc,hd,hs,hz,r⟩
 .obtain⟨z,b,n,r,e⟩:=h.ok I.hok;exact⟨b,r,⟨_,n,e,rfl,rfl,rfl⟩,z⟩
 .refine⟨b.toList,r,⟨o,n,I.uh a o hk,hc,hd,by simpa using hs⟩,?_⟩;have e:=r.length;simp only[Uv] at e;lia
theorem Inv.tuple(I:Inv X pins Y H s)(h:gP X.K H a xs):∃b:List Value,Vals xs b/\IsTup s.heap a b.toArray/\xs.length<=sizeLine:=by
 rcases h with h|⟨o,b,n,hk,hc,hs,hz,r⟩
 .obtain⟨z,b,r,p⟩:=h.ok I.hok;exact⟨b,r,p.t,z⟩
 .refine⟨b.toList,r,⟨o,I.uh a o hk,hc.1,n,by simpa using hs⟩,?_⟩;have e:=r.length;simp only[Uv] at e;lia
theorem Inv.gi(I:Inv X pins Y H s)(h:dj X.K H a xs)(h':dj X.K H a ys):xs=ys:=by
 obtain⟨b,r,⟨o,n,e,_,_,d⟩,_⟩:=I.list h;obtain⟨its',r',⟨o',p,k,_,_,d'⟩,_⟩:=I.list h';rw[e] at k;cases k;rw[d] at d';injection d' with d1 _;have:b=its':=by simpa using ZC Vu d1
 subst this;exact r.inj r'
theorem Inv.kG(I:Inv X pins Y H s)(h:gP X.K H a xs)(h':gP X.K H a ys):xs=ys:=by
 obtain⟨b,r,⟨o,e,_,n,d⟩,_⟩:=I.tuple h;obtain⟨its',r',⟨o',k,_,p,d'⟩,_⟩:=I.tuple h';rw[e] at k;cases k;rw[d] at d';injection d' with d1 _;have:b=its':=by simpa using ZC Vu d1
 subst this;exact r.inj r'
end
variable{tc:TT}
section
variable{X:Cx}{st:Stmt}{rest:List Stmt}{t u:TS}{e:Expr}{te:TE}{pos:Pos}
noncomputable def Mf:TS:=λD Y H=>D.nx Y H
noncomputable def BK(t u:TS):TS:=λD Y H=>t { D with nx:=u D } Y H
theorem Dc:qX X [] Mf:=λ_ _ Y H _ I h=>Yy ⟨Y,H,I,h⟩
theorem mF(h1:PS X st t)(h2:qX X rest u):qX X (st::rest) (BK t u):=by
 intro pins s Y H D I h;refine wpAny_execs_cons (cE (h1 pins s Y H { D with nx:=u D } I h) λf s1 q=>?_);cases f with
 |next=>obtain⟨j,H',a,q⟩:=q;exact h2 pins s1 j H' D a q
 |ret v=>exact q
 |brk=>exact q
 |cont=>exact q
theorem DS(h1:PS X st t):qX X [st] t:=by
 intro pins s Y H D I h;refine wpAny_execs_cons (cE (h1 pins s Y H D I h) λf s1 q=>?_);cases f with
 |next=>exact Yy q
 |ret v=>exact q
 |brk=>exact q
 |cont=>exact q
theorem Inv.quiet(I:Inv X pins Y H s):interactive X.env=false:=by simp[interactive,I.ok.kind]
noncomputable def M5(te:TE):TS:=λD Y H=>te Y H λ_ V=>D.nx Y V
theorem Ef(he:PE X e te)(hs:X9 e none pos.line X.env=pure false:=by rfl):PS X (.Expr e pos) (M5 te):=by intro pins s Y H D I h;exact wpAny_Expr_any (cE (he pins s Y H _ I h) λv s1 ⟨x,H1,I1,r1,q1⟩=>⟨Y,H1,I1,q1⟩) I.quiet hs
noncomputable def O7(te:TE):TS:=λD Y H=>te Y H D.rt
theorem Hj(he:PE X e te):PS X (.Return (some e) pos) (O7 te):=by intro pins s Y H D I h;exact wpAny_Return_some (cE (he pins s Y H _ I h) λv s1 ⟨x,V,o,g,j⟩=>⟨x,Y,V,o,g,j⟩)
noncomputable def LB:TS:=λD _ H=>D.rt .non H
theorem Dk:PS X (.Return none pos) LB:=λ_ _ Y H _ I h=>wpAny_Return_none ⟨.non,Y,H,I,rfl,h⟩
noncomputable def Oo(c:TT)(t u:TS):TS:=λD Y H=>c Y H λb V=>if b=true then t D Y V else u D Y V
theorem KW{a b:List Stmt}(hc:PT X c tc)(f:qX X a t)(E:qX X b u):PS X (.If c a b pos) (Oo tc t u):=by
 intro pins s Y H D I h;refine wpAny_If (cE (hc pins s Y H _ I h) λd s1 ⟨V,e,j⟩=>?_);cases d with
 |true=>exact f pins s1 Y V D e j
 |false=>exact E pins s1 Y V D e j
end
abbrev TG:=V->St->Hp->(St->Hp->Prop)->Prop
abbrev Fq:=List V->St->Hp->(St->Hp->Prop)->Prop
def PG(X:Cx)(q:Expr)(t:TG):Prop:=
 ∀(pins:List (Addr×Obj))(s:Shared)(Y:St)(H:Hp)(v:V)(u:Value)(Q:St->Hp->Prop),Inv X pins Y H s->RelV v u->t v Y H Q->
  XO (XU X.prog X.w) X.A (assign q X.env u) (λ_ s'=>∃j H',Inv X pins j H' s'/\Q j H') X.xe s
def Ka(X:Cx)(ts:List Expr)(t:Fq):Prop:=
 ∀(pins:List (Addr×Obj))(s:Shared)(Y:St)(H:Hp)(vs:List V)(us:List Value)(Q:St->Hp->Prop),Inv X pins Y H s->Vals vs us->t vs Y H Q->
  XO (XU X.prog X.w) X.A (Y6 ((X6 ts X.env).map (·.2)) us) (λ_ s'=>∃j H',Inv X pins j H' s'/\Q j H') X.xe s
abbrev Jc:=V->V->V->Hp->(Hp->Prop)->Prop
def MK(X:Cx)(t:Jc):Prop:=
 ∀(pins:List (Addr×Obj))(s:Shared)(Y:St)(H:Hp)(o i v:V)(r x u:Value)(Q:Hp->Prop),Inv X pins Y H s->RelV o r->RelV i x->RelV v u->t o i v H Q->
  XO (XU X.prog X.w) X.A (setItem r x u) (λ_ s'=>∃H',Inv X pins Y H' s'/\Q H') X.xe s
variable{es:List Expr}{tg:Expr}{te:TE}
section
variable{X:Cx}{pos:Pos}
noncomputable def A3(i:Nat):TG:=λv Y H Q=>Q (Y.set i (some v)) H
theorem Eg{x:Str}(hN:X.N.Nodup)(hi:X.N[i]?=some x)(hx:Loc X.env.scope x)(hf:X.fn x=true\/X.env.scope.names.lookup x=some .local:=by first|exact .inl rfl|exact .inr rfl|assumption):PG X (.Name x pos) (A3 i):=by intro pins s Y H v u Q I r h;exact Zd (jR I hN hi hx r (λs' I'=>⟨_,H,I',h⟩) hf)
noncomputable def Of:Fq:=λvs Y H Q=>vs=[]/\Q Y H
noncomputable def Ga(t:TG)(u:Fq):Fq:=λvs Y H Q=>∃v r,vs=v::r/\t v Y H λj H'=>u r j H' Q
theorem Dx:Ka X [] Of:=by intro pins s Y H vs us Q I r h;obtain⟨e,h⟩:=h;subst e;cases r;exact Ze ⟨Y,H,I,h⟩
theorem yE{t:TG}{u:Fq}(h1:PG X e t)(h2:Ka X es u)
  (hs:(X6 (e::es) X.env).map (·.2)=assign e X.env::(X6 es X.env).map (·.2):=by rfl):Ka X (e::es) (Ga t u):=by
 intro pins s Y H vs us Q I r h;obtain⟨v,vr,e1,h⟩:=h;subst e1;cases r with
 |cons r rr=>rw[hs];refine YB (cE (h1 pins s Y H _ _ _ I r h) λ_ s1 ⟨σ1,H1,I1,q1⟩=>?_);exact h2 pins s1 σ1 H1 _ _ Q I1 rr q1
noncomputable def Og(K:QN)(n:Nat)(t:Fq):TG:=λv Y H Q=>∃a xs,v=.ref a/\gP K H a xs/\xs.length=n/\t xs Y H Q
theorem HW{k:Nat}{t:Fq}{n:Nat}(hc:X.calm=true)(h:Ka X es t)
  (hn:(X6 es X.env).length=n:=by rfl)(hst:(X6 es X.env).findIdx? (·.1)=none:=by rfl):PG X (.Tuple es k pos) (Og X.K n t):=by
 intro pins s Y H v u Q I r hw;obtain⟨a,xs,e1,hq,hl,hw⟩:=hw;subst e1;cases r;obtain⟨its,rv,ht,hz⟩:=I.tuple hq;refine assign_Tuple_tuple (I.ok.hd hc) ht (by simp[hn,<-hl,rv.length]) hst λh' hx=>?_;have I1:Inv X pins Y H { s with heap:=h' }:=I.kept (t':=s.toks) λb o e=>hx b o (Rw (Q7 e)) e;exact h pins _ Y H xs _ Q I1 (by simpa using rv) hw
noncomputable def AA(X u:TE)(t:Jc):TG:=λv Y H Q=>X Y H λo V=>u Y V λi U=>t o i v U λw=>Q Y w
theorem pD{o i:Expr}{to ti:TE}{t:Jc}(ho:PE X o to)(hi:PE X i ti)(hs:MK X t)
  (ha:∀v,assign (.Subscript o i pos) X.env v=(do
   let ov <- holding [v] (eval o X.env)
   let iv <- holding [v,ov] (eval i X.env)
   YF pos
   holding [v,ov,iv] (setItem ov iv v)
   release [v,ov,iv] []):=by intro _;rfl):PG X (.Subscript o i pos) (AA to ti t):=by
 intro pins s Y H v u Q I r h;rw[ha];refine XN (Y7 (cE (ho pins s Y H _ I h) λov s1 ⟨x,H1,I1,r1,q1⟩=>?_));refine XN (Y7 (cE (hi pins s1 Y H1 _ I1 q1) λiv s2 ⟨y,H2,I2,r2,q2⟩=>?_));refine XN (YH (XN (Y7 (cE (hs pins s2 Y H2 x y v ov iv u _ I2 r1 r2 r q2) λ_ s3 ⟨H3,I3,q3⟩=>?_))));exact wpAny_release ⟨Y,H3,I3,q3⟩
noncomputable def rC(te:TE)(g:TG):TS:=λD Y H=>te Y H λx V=>g x Y V D.nx
theorem nE{g:TG}(he:PE X e te)(hg:PG X tg g)(hs:Yw [tg] e pos.line X.env=pure false:=by rfl)(hw:Yl [tg] e X.env=pure none:=by rfl)
  (h1:(X6 [tg] X.env).map (·.2)=[assign tg X.env]:=by rfl):PS X (.Assign [tg] e pos) (rC te g):=by
 intro pins s Y H D I h;refine wpAny_Assign_stores (cE (he pins s Y H _ I h) λv s1 ⟨x,H1,I1,r1,q1⟩=>?_) hs hw;rw[h1];exact cE (hg pins s1 Y H1 x v _ I1 r1 q1) λ_ s2 q=>q
theorem JH{x:Str}{pos':Pos}(hN:X.N.Nodup)(hi:X.N[i]?=some x)(hx:Loc X.env.scope x)(he:PE X e te)(hs:X9 e (some (.Name x pos')) pos.line X.env=pure false:=by rfl)(hf:X.fn x=true\/X.env.scope.names.lookup x=some .local:=by first|exact .inl rfl|exact .inr rfl|assumption):
  PS X (.Assign [.Name x pos'] e pos) (rC te (A3 i)):=by
 intro pins s Y H D I h;refine wpAny_Assign_Name (cE (he pins s Y H _ I h) λv s1 ⟨y,H1,I1,r1,q1⟩=>?_) hs;exact jR I1 hN hi hx r1 (λs2 I2=>⟨_,H1,I2,q1⟩) hf
noncomputable def Mu(i j:Nat)(ta:TA):TS:=λD Y H=>ta Y H λvs V=>∃v w,vs=[v,w]/\D.nx ((Y.set i (some v)).set j (some w)) V
theorem Ks{x y:Str}{a b:Expr}{ta:TA}{px py pt:Pos}{kt k2 pt2}(hc:X.calm=true)(hN:X.N.Nodup)(hi:X.N[i]?=some x)(hj:X.N[j]?=some y)(hij:i≠j)
  (hx:X.env.scope.names.lookup x=some .local)(hy:X.env.scope.names.lookup y=some .local)(ha:PA X [a,b] ta)
  (hw:Yl [.Tuple [.Name x px,.Name y py] kt pt] (.Tuple [a,b] k2 pt2) X.env=pure (some [x,y]))
  (hs:Yw [.Tuple [.Name x px,.Name y py] kt pt] (.Tuple [a,b] k2 pt2) pos.line X.env=pure false:=by rfl):
  PS X (.Assign [.Tuple [.Name x px,.Name y py] kt pt] (.Tuple [a,b] k2 pt2) pos) (Mu i j ta):=by
 intro pins s Y H D I h;rw[exec_Assign_arm];refine XN (YH ?_);rw[hs];refine XN (XT ?_);rw[Zy Z2];refine XN (Tuple_ (cE (ha _ pins s Y H _ I h) λus s1 ⟨vs,H1,I1,r1,q1⟩=>?_));obtain⟨v,w,e1,q1⟩:=q1;subst e1;obtain⟨u1,u2,rfl,rv,rw'⟩:∃u1 u2,us=[u1,u2]/\RelV v u1/\RelV w u2:=by
  cases r1 with
  |cons p q=>
   cases q with
   |cons p' q'=>cases q';exact⟨_,_,rfl,p,p'⟩
 refine Yt ?_ (by show 2<=sizeLine;decide);have I2:Inv X pins Y H1 { s1 with heap:=s1.heap.push { cls:=.type "tuple",data:=.seq [u1,u2].toArray } }:=I1.kept (t':=s1.toks) λb o e=>Q3 _ e;rw[hw];refine XN (XT ?_);show XO (XU X.prog X.w) X.A (do rule "assign.swapped-stores";let items <- unpackItems (.ref s1.heap.objs.size) 2 none;Y6 [λv=>Zq X.env y v,λv=>Zq X.env x v] items.reverse;pure XD) _ _ _;refine XN (Za (XN (unpackItems_tuple (items:=#[u1,u2]) (I.ok.hd hc) (IsTup.new s1.heap _) λh' hx'=>?_)));have I3:=I2.kept (h':=h') (t':=s1.toks) λb o e=>hx' b o (Rw (Q7 e)) e;show XO _ _ (Y6 [λv=>Zq X.env y v,λv=>Zq X.env x v] [u2,u1] >>= λ_=>pure XD) _ _ _;refine XN (YB (wpAny_bindName (jR I3 hN hj (.inl hy) rw' (fun s2 I4=>?_) (.inr hy))));refine YB (wpAny_bindName (jR I4 hN hi (.inl hx) rv (fun s3 I5=>Ze (XT ?_)) (.inr hx)));rw [List.set_comm _ _ (RP hij)] at I5;exact ⟨_,H1,I5,q1⟩
end
variable{body:List Stmt}{tb:TS}
section
variable {X:Cx} {pos:Pos}
def JL (c:TT) (tb:TS):TS:=fun D Y H=>∃ W:Nat → St → Hp → Prop,(∃ m,W m Y H) ∧ ∀ m Y H,W m Y H →
 c Y H fun b H1=>if b = true then ∃ N:St → Hp → Prop,(∀ j H',N j H' → ∃ Q,Q < m ∧ W Q j H') ∧ tb { D with nx:=N,ct:=N,bk:=D.nx } Y H1 else D.nx Y H1
theorem Ap     (hp:YL (XU X.prog X.w) X.A X.env X.xe) (hc:PT X c tc) (d:qX X body tb):PS X (.While c body [] pos) (JL tc tb):=by
 intro pins s Y H D I h;obtain ⟨W,⟨R,S⟩,turn⟩:=h;refine wpAny_While (codeAny_whileLoop (λn s'=>∃j H',Inv X pins j H' s'/\W n j H') ?_ R ⟨Y,H,I,S⟩);rintro n s1 ⟨t,L,e,T⟩;refine Yh hp (cE (hc pins s1 t L _ e (turn n t L T)) λb s2 ⟨U,k,B⟩=>?_);cases b with
 |true=>
  obtain⟨N,hN,B⟩:=B;rw[Zx rfl];refine Yh hp (cE (d pins s2 t U _ k B) λf a C=>?_);cases f with
  |next=>obtain⟨V,z,F,G⟩:=C;obtain⟨Q,hm,K⟩:=hN V z G;exact⟨Q,hm,V,z,F,K⟩
  |cont=>obtain⟨V,z,F,G⟩:=C;obtain⟨Q,hm,K⟩:=hN V z G;exact⟨Q,hm,V,z,F,K⟩
  |brk=>exact C
  |ret v=>exact C
 |false=>rw[Zy Ry];exact Yy ⟨t,U,k,B⟩
end
structure It where
 go:Nat->Hp->Prop
 yld:Nat->Hp->V->Hp->Prop
 stop:Nat->Hp->Prop
def nX(X:Cx)(pins:List (Addr×Obj))(H:Hp)(b:Addr):Prop:=
 H b=none/\b≠X.env.locals/\b∉X.fs/\(b∈X.ex\/X.s₀.heap.objs.size<=b)/\(∀x c,X.env.cells.lookup x=some c->c≠b)/\∀p∈X.pn++pins,p.1≠b
theorem Inv.wA{H':Hp}{b:Addr}(I:Inv X pins Y H s)(d:s.heap.objs.size<=b)(hn:H' b=none):nX X pins H' b:=by
 refine⟨hn,VF (Q8 I.lt d),I.Lh d,.inr (RE I.sz d),λx c e z=>?_,λp hp z=>?_⟩
 .obtain⟨v,q⟩:=I.cell x c e;exact absurd (Q8 q.lt (by rw[z];exact d)) (Ri _)
 .exact absurd (Q8 (Q7 (I.pin p hp).1) (by rw[z];exact d)) (Ri _)
structure Turn(P:Program)(w:XX)(K:QN)(tg:Expr)(J:It)(fp:List Addr)(it:Addr)(tn:Nat->Heap->Prop):Prop where
 mem:it∈fp
 obj:∀i h,tn i h->∀b∈fp,∃o,h.get? b=some o/\∀v,o.data≠.cell v
 keep:∀i h h',tn i h->(∀b∈fp,∀o,h.get? b=some o->h'.get? b=some o)->tn i h'
 item:∀(X:Cx),X.prog=P->X.w=w->X.K=K->X.calm=true->∀(i:Nat)(pins:List (Addr×Obj))(s:Shared)(Y:St)(H:Hp)(E:Value->Shared->Prop),Inv X pins Y H s->(∀b∈fp,nX X pins H b)->tn i s.heap->J.go i H->
  XO (XU P w) X.A (pyNext (.ref it)) (λr s1=>∃u,r=some u /\
   XO (XU P w) X.A (Yz tg (.ref it) u) (λ_ s2=>∃x H',Inv X pins Y H' s2/\RelV x u/\J.yld i H x H'/\tn (i+1) s2.heap/\∀b∈fp,H' b=none) E s1) E s
 done:∀(X:Cx),X.prog=P->X.w=w->X.K=K->X.calm=true->∀(i:Nat)(pins:List (Addr×Obj))(s:Shared)(Y:St)(H:Hp)(E:Value->Shared->Prop),Inv X pins Y H s->(∀b∈fp,nX X pins H b)->tn i s.heap->J.stop i H->
  XO (XU P w) X.A (pyNext (.ref it)) (λr s1=>r=none/\Inv X pins Y H s1) E s
 self:∀(A:XZ)(i:Nat)(s:Shared)(Q:Value->Shared->Prop)(E:Value->Shared->Prop),tn i s.heap->Q (.ref it) s->XO (XU P w) A (pyIter (.ref it)) Q E s
abbrev TI:=St->Hp->(It->Hp->Prop)->Prop
def NR(X:Cx)(pins:List (Addr×Obj))(Y:St)(tg:Expr)(R:It->Hp->Prop)(v:Value)(s2:Shared):Prop:=
 ∃(it:Addr)(fp:List Addr)(tn:Nat->Heap->Prop)(J:It)(H':Hp),v=.ref it/\Inv X pins Y H' s2/\Turn X.prog X.w X.K tg J fp it tn/\tn 0 s2.heap/\(∀b∈fp,nX X pins H' b)/\R J H'
def PI(X:Cx)(tg iter:Expr)(D:TI):Prop:=
 ∀(pins:List (Addr×Obj))(s:Shared)(Y:St)(H:Hp)(R:It->Hp->Prop),Inv X pins Y H s->D Y H R->
  XO (XU X.prog X.w) X.A (eval iter X.env) (λv s1=>XO (XU X.prog X.w) X.A (pyIter v) (NR X pins Y tg R) X.xe s1) X.xe s
theorem vP{M:Model}{A:XZ}{n:String}{vs:Array Value}{Q:Unit->Shared->Prop}(ho:s.heap.get? it=some o)(hc:o.cls=.type n)(hd:o.data=.fields vs)
    (hn:["enumerate", "zip", "dict_itemiterator", "dict_reverseitemiterator", "odict_iterator", "itertools.zip_longest", "itertools.pairwise"].contains n=false)(I:Q () s):XO M A (Yz tg (.ref it) u) Q E s:=by
  unfold Yz;cases tg<;>first
    |exact XT I
    | (cases u<;>first
        |exact XT I
        | (refine XN (wpAny_load ho ?_)
           rw[hc,hd]
           show XO M A (if (["enumerate", "zip", "dict_itemiterator", "dict_reverseitemiterator", "odict_iterator", "itertools.zip_longest", "itertools.pairwise"].contains n&&vs[0]?==some (Zk _))=true then _ else _) Q E s
           rw[Zy (by intro h;rw[hn,Va] at h;cases h)]
           exact XT I))
noncomputable def PB(K:QN)(a:Addr):It:=
 ⟨λi H=>∃xs x,dj K H a xs/\xs[i]?=some x,λi H x H'=>H'=H/\∀xs,dj K H a xs->xs[i]?=some x,λi H=>∃xs,dj K H a xs/\xs.length<=i⟩
noncomputable def PR(K:QN)(a:Addr):It:=
 ⟨λi H=>∃xs x,gP K H a xs/\xs[i]?=some x,λi H x H'=>H'=H/\∀xs,gP K H a xs->xs[i]?=some x,λi H=>∃xs,gP K H a xs/\xs.length<=i⟩
noncomputable def Nj(lo:Int)(n:Nat):It:=⟨λi _=>i<n,λi H x H'=>H'=H/\x=.int (lo+i),λi _=>n<=i⟩
theorem wH{P:Program}(a it:Addr):Turn P w K tg (PB K a) [it] it (λi h=>h.IsListIter it a i) where
 mem:=by simp
 obj:=λi h st b A=>by
  have e:b=it:=by simpa using A
  subst e;obtain⟨o,e,c,d⟩:=st;exact⟨o,e,λv z=>by rw[d] at z;cases z⟩
 keep:=λi h h' st k=>st.at λo e=>k it Z4 o e
 item:=by intro X m n q hc i pins s Y H E I hf st J;subst m n q;obtain⟨xs,x,l,hx⟩:=J;obtain⟨j,r,p,hz⟩:=I.list l;obtain⟨u,g,F⟩:=r.get hx;obtain⟨f0,t,G,B,C,D⟩:=hf it Z4;refine wpAny_pyNext_list_item st p.isList (x:=u) (by simpa using g) λh' N sb=>?_;have L:Inv X pins Y H { s with heap:=h' }:=I.turned (t':=s.toks) (λb o A e=>(sb.2 b A).trans e) f0 t B C D;obtain⟨o,e,c,d⟩:=id N;exact⟨u,rfl,vP (s:={ s with heap:=h' }) e c d Z2 ⟨x,H,L,F,⟨rfl,λys hy=>by rw[I.gi hy l];exact hx⟩,N,λb A=>(hf b A).1⟩⟩
 done:=by intro X m n q hc i pins s Y H E I hf st J;subst m n q;obtain⟨xs,l,hx⟩:=J;obtain⟨j,r,p,hz⟩:=I.list l;obtain⟨f0,t,G,B,C,D⟩:=hf it Z4;have hl:=r.length;exact wpAny_pyNext_list_end (I.ok.hd hc) st p.isList (by simp;lia) λh' O=>⟨rfl,I.turned (t':=s.toks) (λb o A e=>O b o A e) f0 t B C D⟩
 self:=λ_ _ _ _ _ st h=>wpAny_pyIter_listiter st h
theorem tm{P:Program}(a it:Addr):Turn P w K tg (PR K a) [it] it (λi h=>h.IsTupleIter it a i) where
 mem:=by simp
 obj:=λi h st b A=>by
  have e:b=it:=by simpa using A
  subst e;obtain⟨o,e,c,d⟩:=st;exact⟨o,e,λv z=>by rw[d] at z;cases z⟩
 keep:=λi h h' st k=>st.at λo e=>k it Z4 o e
 item:=by intro X m n q hc i pins s Y H E I hf st J;subst m n q;obtain⟨xs,x,l,hx⟩:=J;obtain⟨j,r,p,hz⟩:=I.tuple l;obtain⟨u,g,F⟩:=r.get hx;obtain⟨f0,t,G,B,C,D⟩:=hf it Z4;refine wpAny_pyNext_tuple_item st (show s.heap.IsTuple a j.toArray from p) (x:=u) (by simpa using g) λh' N sb=>?_;have L:Inv X pins Y H { s with heap:=h' }:=I.turned (t':=s.toks) (λb o A e=>(sb.2 b A).trans e) f0 t B C D;obtain⟨o,e,c,d⟩:=id N;exact⟨u,rfl,vP (s:={ s with heap:=h' }) e c d Z2 ⟨x,H,L,F,⟨rfl,λys hy=>by rw[I.kG hy l];exact hx⟩,N,λb A=>(hf b A).1⟩⟩
 done:=by intro X m n q hc i pins s Y H E I hf st J;subst m n q;obtain⟨xs,l,hx⟩:=J;obtain⟨j,r,p,hz⟩:=I.tuple l;obtain⟨f0,t,G,B,C,D⟩:=hf it Z4;have hl:=r.length;exact wpAny_pyNext_tuple_end (I.ok.hd hc) st (show s.heap.IsTuple a j.toArray from p) (by simp;lia) λh' O=>⟨rfl,I.turned (t':=s.toks) (λb o A e=>O b o A e) f0 t B C D⟩
 self:=λ_ _ _ _ _ st h=>wpAny_pyIter_tupleiter st h
theorem ua{P:Program}(it:Addr)(lo:Int)(n:Nat):Turn P w K tg (Nj lo n) [it] it (λi h=>Y3 h it (lo+(i:Nat)*1) ((n:Int)-(i:Nat)) 1) where
 mem:=by simp
 obj:=λi h st b d=>by
  have e:b=it:=by simpa using d
  subst e;exact⟨_,st,λv z=>by have x:W6 _=XE v:=z;cases x⟩
 keep:=λi h h' st k=>k it Z4 _ st
 item:=by intro X m c q hc i pins s Y H E I hf st J;subst m c q;obtain⟨f0,u,G,B,C,D⟩:=hf it Z4;have W:=WX (prog:=X.prog) (w:=X.w) (I.ok.hd hc) it lo 1 n;refine W.item i s _ _ J st λv h' tk A N R=>?_;obtain⟨t,rfl⟩:=A;have L:Inv X pins Y H { s with heap:=h',toks:=tk }:=I.turned (λb o d e=>R b o (by simpa using d) e) f0 u B C D;refine⟨_,rfl,vP (s:={ s with heap:=h',toks:=tk }) (n:= "range_iterator") N rfl rfl Z2 ⟨.int (lo+i),H,L,⟨t,?_⟩,⟨rfl,rfl⟩,N,λb d=>(hf b d).1⟩⟩;rw[SH]
 done:=by intro X m c q hc i pins s Y H E I hf st J;subst m c q;obtain⟨f0,u,G,B,C,D⟩:=hf it Z4;exact YS (I.ok.hd hc) st (by have:n<=i:=J;lia) λh' O=>⟨rfl,I.turned (t':=s.toks) (λb o d e=>O b o d e) f0 u B C D⟩
 self:=λ_ _ _ _ _ st h=>YT st h
variable{p:Pos}{fp:List Addr}
section
variable{X:Cx}{tg:Expr}
theorem qR{R:It->Hp->Prop}{lo hi:Int}{t u v:Tok}{tk:Nat}(I:Inv X pins Y H s)(h1:-(2^62)<=lo)(h2:lo<2^62)(h3:-(2^62)<=hi)(h4:hi<2^62)
  (q:R (Nj lo (hi-lo).toNat) H):XO (XU X.prog X.w) X.A (pyIter (.ref s.heap.objs.size)) (NR X pins Y tg R) E { s with heap:=s.heap.push { cls:=.type "range",data:=.fields #[.int lo t,.int hi u,.int 1 v] },toks:=tk }:=by
 refine Zb (WC ..) (small_one h1 h2 h3 h4) ?_;have L:Inv X pins Y H { s with heap:=s.heap.push { cls:=.type "range",data:=.fields #[.int lo t,.int hi u,.int 1 v] },toks:=tk }:=I.kept λb o e=>Q3 _ e;refine⟨(s.heap.push { cls:=.type "range",data:=.fields #[.int lo t,.int hi u,.int 1 v] }).objs.size,[(s.heap.push { cls:=.type "range",data:=.fields #[.int lo t,.int hi u,.int 1 v] }).objs.size],_,_,H,rfl,
  L.kept (t':=tk) λb o e=>Q3 _ e,ua _ lo (hi-lo).toNat,?_,λb d=>?_,q⟩
 .have e1:lo+((0:Nat):Int)*1=lo:=by simp
  have e2:(((hi-lo).toNat:Nat):Int)-((0:Nat):Int)=Su lo hi 1:=by rw[rangeSize_one];split<;>lia
  show Y3 _ _ (lo+((0:Nat):Int)*1) ((((hi-lo).toNat:Nat):Int)-((0:Nat):Int)) 1;rw[e1,e2];exact Rf _ rfl
 .have e:b=(s.heap.push { cls:=.type "range",data:=.fields #[.int lo t,.int hi u,.int 1 v] }).objs.size:=by simpa using d
  subst e;exact L.wA (QY _) (L.hok.fresh (QY _))
def Lo(ta:TA):TI:=λY H R=>ta Y H λvs V=>∃j:Int,vs=[.int j] /\ -(2^62)<=j/\j<2^62/\R (Nj 0 j.toNat) V
def Nb(ta:TA):TI:=λY H R=>ta Y H λvs V=>∃i j:Int,vs=[.int i,.int j]/\(-(2^62)<=i/\i<2^62 /\ -(2^62)<=j/\j<2^62)/\R (Nj i (j-i).toNat) V
theorem xj{a:Expr}{ta:TA}(hg:Gl X "range")(hm:X.mg "range" = none)(ha:PA X [a] ta)(hs:XM [a] X.env=[(false,eval a X.env)]:=by rfl):PI X tg (.Call (.Name "range" p) [a] [] pos) (Lo ta):=by
 intro pins s Y H R I h;refine Call_ (gY I hg hm YU (R0 (cE (ha pos pins s Y H _ I h) λus s1 ⟨vs,H1,I1,r1,q1⟩=>?_) hs rfl));obtain⟨j,e,q1,q2,q⟩:=q1;subst e;cases r1 with
 |cons r rr=>cases rr;obtain⟨t,rfl⟩:=r;exact call_range_1 (qR I1 Q1 Q1 q1 q2 (by simpa using q))
theorem xD{a b:Expr}{ta:TA}(hg:Gl X "range")(hm:X.mg "range" = none)(ha:PA X [a,b] ta)(hs:XM [a,b] X.env=[(false,eval a X.env),(false,eval b X.env)]:=by rfl)(hs2:XM [b] X.env=[(false,eval b X.env)]:=by rfl):
  PI X tg (.Call (.Name "range" p) [a,b] [] pos) (Nb ta):=by
 intro pins s Y H R I h;refine Call_ (gY I hg hm YU (R0 (cE (ha pos pins s Y H _ I h) λus s1 ⟨vs,H1,I1,r1,q1⟩=>?_) (by rw[hs,hs2]) (by rw[hs2];rfl)));obtain⟨i,j,e,⟨q1,q2,q3,q4⟩,q⟩:=q1;subst e;cases r1 with
 |cons r rr=>
  cases rr with
  |cons r' rr=>cases rr;obtain⟨t,rfl⟩:=r;obtain⟨t',rfl⟩:=r';exact call_range_2 (qR I1 q1 q2 q3 q4 q)
def OL(X:TI)(g:TG)(tb:TS):TS:=λD Y H=>X Y H λJ V=>∃W:Nat->Nat->St->Hp->Prop,(∃m,W 0 m Y V)/\∀i m Y H,W i m Y H->
 (J.stop i H/\D.nx Y H)\/(J.go i H/\∃N:St->Hp->Prop,(∀j H',N j H'->∃Q,Q<m/\W (i+1) Q j H')/\∀x H',J.yld i H x H'->g x Y H' λP U=>tb { D with nx:=N,ct:=N,bk:=D.nx } P U)
noncomputable def lV(fp:List Addr)(h:Heap):List (Addr×Obj):=fp.filterMap λb=>(h.get? b).map λo=>(b,o)
theorem gk{b:Addr}(d:b∈fp)(e:h.get? b=some o):(b,o)∈lV fp h:=UE.mpr ⟨b,d,by rw[e];rfl⟩
theorem wJ{p:Addr×Obj}(hp:p∈lV fp h):p.1∈fp/\h.get? p.1=some p.2:=by
 obtain⟨b,d,e⟩:=UE.mp hp;cases q:h.get? b with
 |none=>rw[q] at e;cases e
 |some o=>rw[q] at e;have k:(b,o)=p:=Rj e;subst k;exact⟨d,q⟩
theorem Inv.pinned(I:Inv X pins Y H s)(hf:∀b∈fp,nX X pins H b)(ho:∀b∈fp,∃o,s.heap.get? b=some o/\∀v,o.data≠.cell v):Inv X (pins++lV fp s.heap) Y H s:=
 I.ql λp hp=>(Q0.mp hp).elim (λz=>I.pin p (QO _ z)) λz=>by obtain⟨E,e⟩:=wJ z;obtain⟨f0,t,G,_⟩:=hf p.1 E;obtain⟨o,k,d⟩:=ho p.1 E;rw[e] at k;cases k;exact⟨e,f0,t,G,d⟩
theorem Inv.eE{pl:List (Addr×Obj)}(I:Inv X (pins++pl) Y H s):Inv X pins Y H s:=I.ql λp hp=>I.pin p (QO _ (QR _ hp))
theorem IX{iter:Expr}{wi:TI}{g:TG}(hp:YL (XU X.prog X.w) X.A X.env X.xe)(hc:X.calm=true)(hi:PI X tg iter wi)(hg:PG X tg g)(hb:qX X body tb)
  (hs:∀x,X7 iter X.env x=pure x:=by intro _;rfl):PS X (.For tg iter body [] pos) (OL wi g tb):=by
 intro pins s Y H D I h;refine wpAny_For (cE (hi pins s Y H _ I h) λv s1 h1=>cE h1 λitv s2 h2=>?_) hs;obtain⟨it,fp,tn,J,H2,e,I2,T,st2,f2,W,⟨m0,w0⟩,turn⟩:=h2;subst e;have stat:∀{H':Hp},(∀b∈fp,H' b=none)->∀b∈fp,nX X pins H' b:=λhn b hb=>⟨hn b hb,(f2 b hb).2⟩
 refine codeAny_forLoop_any (λn s'=>∃i j H',Inv X pins j H' s'/\tn i s'.heap/\(∀b∈fp,H' b=none)/\W i n j H') ?_ m0 ⟨0,Y,H2,I2,st2,λb hb=>(f2 b hb).1,w0⟩;rintro n s3 ⟨i,V,H3,I3,st3,fr3,w3⟩;rcases turn i n V H3 w3 with ⟨stop,qn⟩|⟨go,N,hN,step⟩
 .refine Yh hp (cE (T.done X rfl rfl rfl hc i pins s3 V H3 X.xe I3 (stat fr3) st3 stop) λr s4 ⟨hr,I4⟩=>?_);subst hr;exact Yy ⟨V,H3,I4,qn⟩
 .refine Yh hp (cE (T.item X rfl rfl rfl hc i pins s3 V H3 X.xe I3 (stat fr3) st3 go) λr s4 ⟨u,hr,h4⟩=>?_);subst hr;refine Yh hp (cE h4 λ_ s5 ⟨x,H5,I5,r5,y5,st5,fr5⟩=>?_);have I5':=I5.pinned (stat fr5) (T.obj _ _ st5);refine Yh hp (cE (hg _ s5 V H5 x u _ I5' r5 (step x H5 y5)) λ_ s6 ⟨σ6,H6,I6,q6⟩=>?_);refine Yh hp (cE (hb _ s6 σ6 H6 _ I6 q6) λf s7 q7=>?_);have again:∀{Z:St}{H7:Hp},Inv X (pins++lV fp s5.heap) Z H7 s7->N Z H7->∃m,m<n/\∃i j H',Inv X pins j H' s7/\tn i s7.heap/\(∀b∈fp,H' b=none)/\W i m j H':=λ{Z H7} I7 n7=>by obtain⟨m',hm,w7⟩:=hN Z H7 n7;refine⟨m',hm,i+1,Z,H7,I7.eE,T.keep _ _ _ st5 λb hb o e=>(I7.pin (b,o) (QO _ (QO _ (gk hb e)))).1,λb hb=>?_,w7⟩;obtain⟨o,e,d⟩:=T.obj _ _ st5 b hb;exact(I7.pin (b,o) (QO _ (QO _ (gk hb e)))).2.1
  cases f with
  |next=>obtain⟨Z,H7,I7,n7⟩:=q7;exact again I7 n7
  |cont=>obtain⟨Z,H7,I7,n7⟩:=q7;exact again I7 n7
  |brk=>obtain⟨Z,H7,I7,q7⟩:=q7;exact⟨Z,H7,I7.eE,q7⟩
  |ret v=>obtain⟨x7,Z,H7,I7,r7,q7⟩:=q7;exact⟨x7,Z,H7,I7.eE,r7,q7⟩
end
abbrev R2:=V->V->Hp->VK->Prop
def iP(X:Cx)(f:Value->Value->Sem Value)(r:R2):Prop:=
 ∀(pins:List (Addr×Obj))(s:Shared)(Y:St)(H:Hp)(x y:V)(v u:Value)(Q:VK),Inv X pins Y H s->RelV x v->RelV y u->r x y H Q->
  XO (XU X.prog X.w) X.A (f v u) (EP X pins Y Q) X.xe s
def O1(X:Cx)(f:Value->Sem Value)(r:V->Hp->VK->Prop):Prop:=
 ∀(pins:List (Addr×Obj))(s:Shared)(Y:St)(H:Hp)(x:V)(v:Value)(Q:VK),Inv X pins Y H s->RelV x v->r x H Q->
  XO (XU X.prog X.w) X.A (f v) (EP X pins Y Q) X.xe s
def cZ(X:Cx)(f:Value)(r:List V->Hp->VK->Prop):Prop:=
 ∀(pins:List (Addr×Obj))(s:Shared)(Y:St)(H:Hp)(xs:List V)(us:List Value)(Q:VK),Inv X pins Y H s->Vals xs us->r xs H Q->
  XO (XU X.prog X.w) X.A (call f us) (EP X pins Y Q) X.xe s
noncomputable def GH(r:R2)(ta tb:TE):TE:=λY H Q=>ta Y H λx V=>tb Y V λy U=>r x y U Q
noncomputable def P8(r:V->Hp->VK->Prop)(ta:TE):TE:=λY H Q=>ta Y H λx L=>r x L Q
noncomputable def rI(C:Int->Int->Prop)(g:Int->Int->V):R2:=λx y H Q=>∃i j,x=.int i/\y=.int j/\C i j/\Q (g i j) H
noncomputable def yc(g:Int->Int->V):R2:=λx y H Q=>∃i j,x=.int i/\y=.int j/\Q (g i j) H
def rU(g:Int->V):V->Hp->VK->Prop:=λx H Q=>∃i,x=.int i/\Q (g i) H
variable{f:Value->Value->Sem Value}{r:R2}
section
variable{X:Cx}{a b c:Expr}{ta tb tc:TE}{pos:Pos}
theorem Il(c:PE X a ta)(d:PE X b tb)(I:Inv X pins Y H s)
  (h:ta Y H λx V=>tb Y V λy U=>R x y U)
  (hf:∀v u s2 x y U,Inv X pins Y U s2->RelV x v->RelV y u->R x y U->XO (XU X.prog X.w) X.A (f v u) Q X.xe s2):
  XO (XU X.prog X.w) X.A (eval a X.env) (λv Z=>XO (XU X.prog X.w) X.A (eval b X.env) (λu T=>XO (XU X.prog X.w) X.A (f v u) Q X.xe T) X.xe Z) X.xe s:=by
 refine cE (c pins s Y H _ I h) λv s1 ⟨x,V,e,g,j⟩=>?_;refine cE (d pins s1 Y V _ e j) λu s2 ⟨y,U,k,l,n⟩=>?_;exact hf v u s2 x y U k g l n
theorem Mb{op:Zr}(ho:iP X (Yn op) r)(f:PE X a ta)(d:PE X b tb):PE X (.BinOp a op b pos) (GH r ta tb):=by intro pins s Y H Q I h;exact wpAny_BinOp (Il f d I h λv u s2 x y U k o w q=>ho pins s2 Y U x y v u Q k o w q)
theorem Mr{op:UnaryOp}{r:V->Hp->VK->Prop}(ho:O1 X (unaryOp op) r)(f:PE X a ta):PE X (.UnaryOp op a pos) (P8 r ta):=by intro pins s Y H Q I h;exact UnaryOp_ (cE (f pins s Y H _ I h) λv s1 ⟨x,L,e,g,j⟩=>ho pins s1 Y L x v Q e g j)
theorem nU{C:Int->Int->Prop}{g:Int->Int->Int}
  (rule:∀(i j:Int)(t u:Tok)(s:Shared)(Q:Value->Shared->Prop)(E:Value->Shared->Prop),C i j->Q (.int (g i j) s.toks) { s with toks:=s.toks+1 }->XO (XU X.prog X.w) X.A (f (.int i t) (.int j u)) Q E s):
  iP X f (rI C λi j=>.int (g i j)):=by
 intro pins s Y H x y v u Q I o z h;obtain⟨i,j,rfl,rfl,hc,q⟩:=h;obtain⟨t,rfl⟩:=o;obtain⟨t',rfl⟩:=z;exact rule i j t t' s _ _ hc ⟨.int (g i j),H,I.tok _,⟨_,rfl⟩,q⟩
theorem LC{g:Int->Int->Int}
  (rule:∀(i j:Int)(t u:Tok)(s:Shared)(Q:Value->Shared->Prop)(E:Value->Shared->Prop),Q (.int (g i j) s.toks) { s with toks:=s.toks+1 }->XO (XU X.prog X.w) X.A (f (.int i t) (.int j u)) Q E s):
  iP X f (yc λi j=>.int (g i j)):=by
 intro pins s Y H x y v u Q I o z h;obtain⟨i,j,rfl,rfl,q⟩:=h;obtain⟨t,rfl⟩:=o;obtain⟨t',rfl⟩:=z;exact rule i j t t' s _ _ ⟨.int (g i j),H,I.tok _,⟨_,rfl⟩,q⟩
theorem Jz{g:Int->Int->Bool}
  (rule:∀(i j:Int)(t u:Tok)(s:Shared)(Q:Value->Shared->Prop)(E:Value->Shared->Prop),Q (.bool (g i j)) s->XO (XU X.prog X.w) X.A (f (.int i t) (.int j u)) Q E s):
  iP X f (yc λi j=>.bl (g i j)):=by
 intro pins s Y H x y v u Q I o z h;obtain⟨i,j,rfl,rfl,q⟩:=h;obtain⟨t,rfl⟩:=o;obtain⟨t',rfl⟩:=z;exact rule i j t t' s _ _ ⟨.bl (g i j),H,I,rfl,q⟩
def MI(i j:Int):Prop:=0<=j/\j<=1000000/\i.natAbs<2^64
theorem Kj:iP X (Yn .Add) (yc λi j=>.int (i+j)):=LC λ_ _ _ _ _ _ _ q=>add_int q
theorem Jp:iP X (Yn .Sub) (yc λi j=>.int (i-j)):=LC λ_ _ _ _ _ _ _ q=>sub_int q
theorem Cp:iP X (Yn .Mod) (rI (λ_ j=>j≠0) λi j=>.int (i.fmod j)):=nU λ_ _ _ _ _ _ _ hc q=>mod_int' hc q
theorem Hz:iP X (Yn .Pow) (rI MI λi j=>.int (i^j.toNat)):=nU λ_ _ _ _ _ _ _ hc q=>pow_int_small hc.1 hc.2.1 hc.2.2 q
theorem QE{f:Value->Sem Value}{g:Int->Int}
  (rule:∀(i:Int)(t:Tok)(s:Shared)(Q:Value->Shared->Prop)(E:Value->Shared->Prop),Q (.int (g i) s.toks) { s with toks:=s.toks+1 }->XO (XU X.prog X.w) X.A (f (.int i t)) Q E s):
  O1 X f (rU λi=>.int (g i)):=by
 intro pins s Y H x v Q I o h;obtain⟨i,rfl,q⟩:=h;obtain⟨t,rfl⟩:=o;exact rule i t s _ _ ⟨.int (g i),H,I.tok _,⟨_,rfl⟩,q⟩
theorem GX:O1 X (unaryOp .USub) (rU λi=>.int (-i)):=QE λ_ _ _ _ _ q=>neg_int q
end
variable{us:List Value}
section
variable{X:Cx}{a b c:Expr}{ta tb tc:TE}{pos:Pos}
theorem yC{Q:VK}{k v:Bool}(I:Inv X pins Y H s)(q:Q (.bl k) H)(e:k=v):EP X pins Y Q (.bool v) s:=by subst e;exact⟨.bl k,H,I,rfl,q⟩
theorem iR:iP X (Yd .Lt) (yc λi j=>.bl (decide (i<j))):=Jz λ_ _ _ _ _ _ _ q=>lt_int q
theorem kO:iP X (Yd .Gt) (yc λi j=>.bl (decide (j<i))):=Jz λ_ _ _ _ _ _ _ q=>gt_int q
theorem Fv:iP X (Yd .GtE) (yc λi j=>.bl (decide (j<=i))):=Jz λ_ _ _ _ _ _ _ q=>ge_int q
theorem yZ:iP X (Yd .Is) (λx y H Q=>y=.non/\Q (.bl (decide (x=.non))) H):=by
 intro pins s Y H x y v u Q I o z h;obtain⟨rfl,q⟩:=h;cases z;refine is_none_gen (yC I q ?_);cases x<;>first
  |(cases o;rfl)
  |(obtain⟨t,rfl⟩:=o;rfl)
theorem vq:iP X (Yd .IsNot) (λx y H Q=>y=.non/\Q (.bl (!decide (x=.non))) H):=by
 intro pins s Y H x y v u Q I o z h;obtain⟨rfl,q⟩:=h;cases z;refine isnot_none_gen (yC I q ?_);cases x<;>first
  |(cases o;rfl)
  |(obtain⟨t,rfl⟩:=o;rfl)
theorem dw(b:Expr)(h:op≠.In:=by decide)(h2:op≠.NotIn:=by decide):X4 op b=false:=by
 have e1:(op==XC)=false:=by cases op<;>first|rfl|exact absurd rfl h
 have e2:(op==WW)=false:=by cases op<;>first|rfl|exact absurd rfl h2
 cases b<;>simp[X4,e1,e2]
theorem CN(ho:iP X (Yd op) r)(f:PE X a ta)(d:PE X b tb)(hm:X4 op b=false):PE X (.Compare a [op] [b] pos) (GH r ta tb):=by intro pins s Y H Q I h;exact wpAny_Compare1 (Il f d I h λv u s2 x y U k o z q=>ho pins s2 Y U x y v u Q k o z q) hm
noncomputable def KY(t:TE):TT:=λY H Q=>t Y H λx H'=>∃k,x=.bl k/\Q k H'
theorem v8(ho:iP X (Yd op) r)(f:PE X a ta)(d:PE X b tb)(hm:X4 op b=false):PT X (.Compare a [op] [b] pos) (KY (GH r ta tb)):=by
 intro pins s Y H Q I h;refine Y2 (cE (f pins s Y H _ I h) λv s1 ⟨x,V,L,g,j⟩=>cE (d pins s1 Y V _ L j) λu s2 ⟨y,U,K,l,n⟩=>cE (ho pins s2 Y U x y v u _ K g l n) λc T ⟨z,w,F,S,k,e,C⟩=>?_) hm
 subst e;cases S;exact Ym ⟨w,F,C⟩
theorem ky:(sizeLine:Nat)<2^63:=by rw[Yi];decide
theorem vals1{x:V}(r:Vals [x] us):∃u,us=[u]/\RelV x u:=by
 cases r with
 |cons g l=>cases l;exact⟨_,rfl,g⟩
theorem vals2{x y:V}(r:Vals [x,y] us):∃u Y,us=[u,Y]/\RelV x u/\RelV y Y:=by
 cases r with
 |cons g l=>
  cases l with
  |cons S H=>cases H;exact⟨_,_,rfl,g,S⟩
theorem AL:cZ X (.builtin "abs") (λxs H Q=>∃i,xs=[.int i]/\Q (.int (if i<0 then -i else i)) H):=by intro pins s Y H xs us Q I r h;obtain⟨i,rfl,q⟩:=h;obtain⟨u,rfl,t,rfl⟩:=vals1 r;exact call_abs_int λu tk=>⟨.int (if i<0 then -i else i),H,I.tok _,⟨_,rfl⟩,q⟩
theorem xw(hc:X.calm=true):cZ X (.builtin "max") (λxs H Q=>∃i j,xs=[.int i,.int j]/\Q (.int (if j > i then j else i)) H):=by
 intro pins s Y H xs us Q I r h;obtain⟨i,j,rfl,q⟩:=h;obtain⟨u,p,rfl,⟨t,rfl⟩,⟨t',rfl⟩⟩:=vals2 r;refine max_two_ints (I.ok.hd hc) λh' tk k=>⟨_,H,I.kept k,?_,q⟩
 by_cases a:j > i
 .rw[Zx a,Zx a];exact⟨_,rfl⟩
 .rw[Zy a,Zy a];exact⟨_,rfl⟩
theorem xr(hc:X.calm=true):cZ X (.builtin "min") (λxs H Q=>∃i j,xs=[.int i,.int j]/\Q (.int (if j<i then j else i)) H):=by
 intro pins s Y H xs us Q I r h;obtain⟨i,j,rfl,q⟩:=h;obtain⟨u,p,rfl,⟨t,rfl⟩,⟨t',rfl⟩⟩:=vals2 r;refine min_two_ints (I.ok.hd hc) λh' tk k=>⟨_,H,I.kept k,?_,q⟩
 by_cases a:j<i
 .rw[Zx a,Zx a];exact⟨_,rfl⟩
 .rw[Zy a,Zy a];exact⟨_,rfl⟩
theorem xN:cZ X (.type "int") (λxs H Q=>(∃i,xs=[.int i]/\Q (.int i) H)\/∃k,xs=[.bl k]/\Q (.int (if k then 1 else 0)) H):=by
 intro pins s Y H xs us Q I r h;rcases h with ⟨i,rfl,q⟩|⟨k,rfl,q⟩
 .obtain⟨u,rfl,t,rfl⟩:=vals1 r;exact call_int_int ⟨.int i,H,I,⟨_,rfl⟩,q⟩
 .obtain⟨u,rfl,g⟩:=vals1 r;cases g;exact call_int_bool ⟨.int (if k then 1 else 0),H,I.tok _,⟨_,rfl⟩,q⟩
def K4(K:QN)(x:V)(H:Hp)(n:Nat):Prop:=
 match x with
 | .str y=>y.length<=sizeLine/\n=y.length
 | .byt y=>y.size<=sizeLine/\n=y.size
 | .ref p=>(∃xs,dj K H p xs/\n=xs.length)\/∃xs,gP K H p xs/\n=xs.length
 |_=>False
theorem BG:cZ X (.builtin "len") (λxs H Q=>∃x n,xs=[x]/\K4 X.K x H n/\Q (.int n) H):=by
 intro pins s Y H xs us Q I r h;obtain⟨x,n,rfl,e,q⟩:=h;obtain⟨u,rfl,o⟩:=vals1 r;have hl:=ky;have hs:sizeLine=16777216:=Yi;cases x with
 |str y=>obtain⟨t,rfl⟩:=o;obtain⟨hy,k⟩:y.length<=sizeLine/\n=y.length:=e;subst k;exact len_str Q1 ⟨.int _,H,I.tok _,⟨_,rfl⟩,q⟩
 |byt y=>obtain⟨t,rfl⟩:=o;obtain⟨hy,k⟩:y.size<=sizeLine/\n=y.size:=e;subst k;exact PySem.W.len_bytes Q1 ⟨.int _,H,I.tok _,⟨_,rfl⟩,q⟩
 |ref p=>
  cases o;have k:(∃xs,dj X.K H p xs/\n=xs.length)\/∃xs,gP X.K H p xs/\n=xs.length:=e;rcases k with ⟨xs,hx,k⟩|⟨xs,hx,k⟩
  .subst k;obtain⟨b,r',pl,hz⟩:=I.list hx;have v:=r'.length;exact VP pl.isList (by simp only[QZ];lia) ⟨.int xs.length,H,I.tok _,⟨_,by simp only[QZ];rw[v]⟩,q⟩
  .subst k;obtain⟨b,r',pl,hz⟩:=I.tuple hx;have v:=r'.length;exact len_tuple pl (by simp only[QZ];lia) ⟨.int xs.length,H,I.tok _,⟨_,by simp only[QZ];rw[v]⟩,q⟩
 |_=>exact(show False from e).elim
end
structure ub(h:Heap)(x dx C:Addr)(mA:Str->Option Value):Prop where
 obj:h.get? x=some (Ss C dx)
 ns:h.Ns1 dx mA
 ne:dx≠x
variable{dx:Addr}{mA:Str->Option Value}
theorem xx(n:h.Ns1 dx mA):∃od,h.get? dx=some od/\∀name,Uj name od=some (mA name):=by
 obtain⟨o,es,i,ho,hd,hk,_,hm⟩:=n;refine⟨o,ho,λname=>?_⟩;have e:=hm name;unfold nsFind findBy at e;rw[<-Array.find?_toList] at e;unfold Uj;rw[hd];dsimp only;split
 .rename_i y q;rw[q] at e;exact ZC some e
 .rename_i q;rw[q] at e;have a:es.toList.any (·.refKey)=false:=by rw[TR];intro y hy;obtain⟨z,t,Y⟩:=hk y (Array.mem_toList_iff.mp hy);simp[DictEntry.refKey,Y]
  have a':¬ es.toList.any (·.refKey)=true:=by rw[a];exact Ry
  rw[Zy a'];exact ZC some e
variable{C:Addr}
theorem ub.look{x:Addr}(I:ub h x dx C mA):∃od,PySem.W.InstAt h x (Ss C dx) C (some od)/\∀name,Uj name od=some (mA name):=
 let ⟨od,ho,hl⟩:=xx I.ns
 ⟨od,⟨I.obj,rfl,rfl,ho⟩,hl⟩
variable{kw:List (Str×Value)}
section
variable{prog:Program}{w:XX}{A:XZ}{E:Value->Shared->Prop}{s:Shared}{K:QN}{x dx C f:Addr}{mA:Str->Option Value}{name:Str}{v:Value}
theorem get_map{expr:Bool}(X:K.In s.heap)(I:ub s.heap x dx C mA)(Y:Tf K C name=true)(u:TK K C=true)
  (f:RZ K (.ref C) name=some none)(c:mA name=some v)(H:VW v=true)(h:Q v { s with toks:=s.toks+1 }):
  XO (XU prog w) A (getAttr (.ref x) name expr) Q E s:=by
 obtain⟨od,J,hl⟩:=I.look;exact PySem.W.get_value X J (Us Y).1 (PySem.W.findObj_own u f rfl (by rw[hl,c])) H h
theorem AO{pl:Sem Bool}{Q:Value×List Value->Shared->Prop}(X:K.In s.heap)(I:ub s.heap x dx C mA)(Y:Tf K C name=true)
  (hf:RZ K (.ref C) name=some (some (.ref f)))(l:UA K (.ref f)=true)(c:mA name=none)(h:Q (.ref f,[.ref x]) s):
  XO (XU prog w) A (YM (.ref x) name pl) Q E s:=by
 obtain⟨od,J,hl⟩:=I.look;exact PySem.W.method_fn X J (Us Y).1 (Us Y).2 hf (ZD.mp l) (by show (Uj name od).map (·.isSome)=some false;rw[hl,c];rfl) h
theorem CJ{ns:List Str}{Q:Unit->Shared->Prop}(X:K.In s.heap)(I:ub s.heap x dx C mA)
  (hs:RZ K (.ref C) "__setattr__" = some (some (.builtin "object.__setattr__")))(hp:UB K C=true)(l:UW K C name=some none)(N:TK K C=true)
  (n:Vt mA ns)(hsz:ns.length<=sizeLine)
  (h:∀h',ub h' x dx C (λy=>if y=name then some v else mA y)->Ud dx s.heap h'->Q () { s with heap:=h',toks:=s.toks+2 }):
  XO (XU prog w) A (setAttr (.ref x) name v) Q E s:=by
 obtain⟨od,J,hl⟩:=I.look;refine PySem.W.set_plain X J hs (PySem.W.osa_open (s:={ s with toks:=s.toks+1 }) (r:=none) X J hp l λb=>?_);obtain⟨cd,hc,q⟩:=PySem.W.any_some N;have hx:s.heap.get? x=some ⟨.ref C,some dx,.plain,#[]⟩:=I.obj;refine XN (XT (XN (XN (wpAny_loadPart hx (XN (W7 (s:={ s with toks:=s.toks+1 }) (PySem.W.looks_clsIn X hc) ?_))))));rw[q];refine XT (a:=some dx) (XN (XT (XN ?_)));refine wpAny_nsSet1 (s:={ s with toks:=s.toks+1 }) I.ns λh' H P=>?_;obtain⟨Z,S,Y,R,T,u⟩:=H.count (Xd name v n);refine XN (wpAny_lookBehind R (by rw[T];exact pastItsLine_dict (RE u (by rw[Q4];lia))) ?_);exact XT (h _ ⟨(P.2 _ (RP I.ne)).trans I.obj,H,I.ne⟩ P)
theorem Aj{R:Result->Shared->Prop}{vs:List Value}(X:K.In s.heap)(hm:UX K C=true)
  (hi:RZ K (.ref C) "__init__" = some (some (.ref f)))(hf:PySem.W.typeIn K (.ref f)=some (.type "function"))
  (h:YG (XU prog w) (A.under (.builtin "type.__call__" ⟨.ref C::vs,kw⟩)) (.call (.ref f) ⟨.ref (s.heap.objs.size+1)::vs,kw⟩) (PySem.W.InitBack (s.heap.objs.size+1) R)
   { s with heap:=(s.heap.push R5).push (Ss C s.heap.objs.size) }):
  YG (XU prog w) A (.call (.ref C) ⟨vs,kw⟩) R s:=by
 obtain⟨u,g,d,t,os⟩:=s;exact PySem.W.make_core (PySem.W.makes_of X hm) (PySem.W.looks_findIn X hi) (λself=>PySem.W.bind_fn X self hf) (.inl rfl) h
end
noncomputable def dR(f:Str)(v:V):List (Str×V)->List (Str×V)
 |[]=>[(f,v)]
 |(g,x)::r=>if g=f then (g,v)::r else (g,x)::dR f v r
theorem eH(f g:Str)(v:V):∀fs:List (Str×V),(dR f v fs).lookup g=if g=f then some v else fs.lookup g
 |[]=>by
  show Tu g [(f,v)]=_;by_cases h:g=f
  .have d:(g==f)=true:=ZD.mpr h;simp only[Tu,d,Zx h]
  .have d:(g==f)=false:=beq_eq_false_iff_ne.mpr h;simp only[Tu,d,Zy h]
 |(k,x)::r=>by
  have m:=eH f g v r;rw[show dR f v ((k,x)::r)=(if k=f then (k,v)::r else (k,x)::dR f v r) from rfl];by_cases hk:k=f
  .rw[Zx hk];by_cases h:g=k
   .have d:(g==k)=true:=ZD.mpr h;simp only[Tu,d,Zx (h.trans hk)]
   .have d:(g==k)=false:=beq_eq_false_iff_ne.mpr h;simp only[Tu,d,Zy (λe:g=f=>h (e.trans hk.symm))]
  .rw[Zy hk];by_cases h:g=k
   .have d:(g==k)=true:=ZD.mpr h;simp only[Tu,d,Zy (λe:g=f=>hk (h.symm.trans e))]
   .have d:(g==k)=false:=beq_eq_false_iff_ne.mpr h;simp only[Tu,d];exact m
theorem kD(f:Str)(v:V):∀fs:List (Str×V),f∈(dR f v fs).map (·.1)/\∀g,g∈fs.map (·.1)->g∈(dR f v fs).map (·.1)
 |[]=>⟨by simp[dR],λg h=>by simp at h⟩
 |(k,x)::r=>by
  obtain⟨s,I⟩:=kD f v r;rw[show dR f v ((k,x)::r)=(if k=f then (k,v)::r else (k,x)::dR f v r) from rfl];by_cases hk:k=f
  .rw[Zx hk];subst hk;exact⟨by simp,λg h=>by simpa using h⟩
  .rw[Zy hk];refine⟨?_,λg h=>?_⟩
   .rw[RC];exact QW _ s
   .rw[RC] at h ⊢;rcases QV.mp h with e|e
    .exact QV.mpr (.inl e)
    .exact QW _ (I g e)
theorem fB(f:Str)(v:V):∀fs:List (Str×V),(dR f v fs).length<=fs.length+1
 |[]=>by simp[dR]
 |(k,x)::r=>by
  have m:=fB f v r;rw[show dR f v ((k,x)::r)=(if k=f then (k,v)::r else (k,x)::dR f v r) from rfl];by_cases hk:k=f
  .rw[Zx hk,Q4,Q4];lia
  .rw[Zy hk,Q4,Q4];lia
theorem nP.some_of{v:V}{o:Option Value}(r:nP (some v) o):∃u,o=some u/\RelV v u:=by
 cases o with
 |none=>exact(show False from r).elim
 |some u=>exact⟨u,rfl,r⟩
theorem nP.none_of{o:Option Value}(r:nP none o):o=none:=by
 cases o with
 |none=>rfl
 |some u=>exact(show False from r).elim
theorem xX{v:V}(r:RelV v u):VW u=true:=by
 cases v with
 |non=>cases (show u=Tn from r);rfl
 |bl b=>cases (show u=VV b from r);rfl
 |int i=>obtain⟨t,e⟩:=(show ∃t,u=TF i t from r);cases e;rfl
 |str x=>obtain⟨t,e⟩:=(show ∃t,u=V7 x t from r);cases e;rfl
 |byt b=>obtain⟨t,e⟩:=(show ∃t,u=WU b t from r);cases e;rfl
 |flt b=>obtain⟨t,e⟩:=(show ∃t,u=WV b t from r);cases e;rfl
 |ref a=>cases (show u=R9 a from r);rfl
 |ty n=>cases (show u=W5 n from r);rfl
section
variable{P:Program}{w:XX}{H H':Hp}{h h':Heap}{a C dx:Addr}{fs Z1:List (Str×V)}
theorem pM(hok:kN P w H h)(e:H a=some (.ins C dx fs)):∃mA,ub h a dx C mA/\(∀f,nP (fs.lookup f) (mA f))/\Vt mA (fs.map (·.1))/\fs.length<=1000/\H dx=some (.own a):=by
 obtain⟨d,z,ne,ob,mA,n,r,q⟩:=(show c9 P w H h a (.ins C dx fs) from hok a _ e)
 exact⟨mA,⟨ob,n,ne⟩,r,q,z,d⟩
end
structure gN(K:QN)(C:Addr):Prop where
 pg:Tf K C Str.empty=true
 hd:TK K C=true
 po:UB K C=true
 sa:RZ K (.ref C) "__setattr__" = some (some (.builtin "object.__setattr__"))
theorem gN.get(c:gN K C)(f:Str):Tf K C f=true:=c.pg
def bY(K:QN)(C:Addr)(f:Str):Prop:=RZ K (.ref C) f=some none
theorem bY.LW{f:Str}(n:bY K C f):UW K C f=some none:=by unfold UW;rw[show RZ K (.ref C) f=some none from n];rfl
structure Meth(K:QN)(C:Addr)(m:Str)(f:Addr):Prop where
 at_:RZ K (.ref C) m=some (some (.ref f))
 fn:UA K (.ref f)=true
 kp:Sk K (.ref f)=true
section
variable{X:Cx}{pins:List (Addr×Obj)}{Y:St}{H:Hp}{s:Shared}{a C dx:Addr}{fs:List (Str×V)}{f:Str}{v:V}{A:XZ}{E:Value->Shared->Prop}
theorem tS{b:Bool}(I:Inv X pins Y H s)(e:H a=some (.ins C dx fs))(c:gN X.K C)(n:bY X.K C f)(l:fs.lookup f=some v)
  (h:∀u s',Inv X pins Y H s'->RelV v u->Q u s'):XO (XU X.prog X.w) A (getAttr (.ref a) f b) Q E s:=by
 obtain⟨mA,O,r,_,_,_⟩:=pM I.hok e;obtain⟨u,g,F⟩:=nP.some_of (v:=v) (o:=mA f) (by rw[<-l];exact r f);exact get_map I.uh O (c.get f) c.hd n g (xX F) (h u _ (I.tok _) F)
theorem i6{m:Str}{g:Addr}{pl:Sem Bool}{Q:Value×List Value->Shared->Prop}(I:Inv X pins Y H s)(e:H a=some (.ins C dx fs))(c:gN X.K C)(k:Meth X.K C m g)(l:fs.lookup m=none)
  (h:Q (.ref g,[.ref a]) s):XO (XU X.prog X.w) A (YM (.ref a) m pl) Q E s:=by
 obtain⟨mA,O,r,_,_,_⟩:=pM I.hok e;have hn:mA m=none:=nP.none_of (by rw[<-l];exact r m);exact AO I.uh O (c.get m) k.at_ k.fn hn h
theorem tU{y:V}{Q:Unit->Shared->Prop}(I:Inv X pins Y H s)(e:H a=some (.ins C dx fs))(c:gN X.K C)(n:bY X.K C f)(hl:fs.length<1000)(P:RelV y u)
  (h:∀s',Inv X pins Y (upd H a (.ins C dx (dR f y fs))) s'->Q () s'):XO (XU X.prog X.w) A (setAttr (.ref a) f u) Q E s:=by
 obtain⟨mA,O,r,D,_,ho⟩:=pM I.hok e;have hz:(fs.map (·.1)).length<=sizeLine:=by rw[QU,Yi];lia
 refine CJ I.uh O c.sa c.po n.LW c.hd D hz λh' v sb=>h _ ?_;have hd:∃o,h'.get? dx=some o:=let ⟨o,_,_,e',_⟩:=v.ns;⟨o,e'⟩
 refine I.write (x:=a) (e:=dx) (by rw[e];exact V3) (.inr ho) (λb q d z=>(sb.2 b d).trans z) hd ?_;refine⟨by rw[ao O.ne];exact ho,?_,O.ne,v.obj,_,v.ns,λg=>?_,λg J=>?_⟩
 .have:=fB f y fs;lia
 .show nP ((dR f y fs).lookup g) (if g=f then some u else mA g);rw[eH];by_cases q:g=f
  .rw[Zx q,Zx q];exact P
  .rw[Zy q,Zy q];exact r g
 .by_cases q:g=f
  .rw[q];exact(kD f y fs).1
  .refine(kD f y fs).2 g (D g λz=>J ?_);show (if g=f then some u else mA g)=none;rw[Zy q];exact z
theorem Inv.made(I:Inv X pins Y H s):Inv X pins Y (upd (upd H s.heap.objs.size (.own (s.heap.objs.size+1))) (s.heap.objs.size+1) (.ins C s.heap.objs.size []))
  { s with heap:=(s.heap.push R5).push (Ss C s.heap.objs.size) }:=by
 have e1:(s.heap.push R5).get? s.heap.objs.size=some R5:=Rf s.heap rfl;have e2:((s.heap.push R5).push (Ss C s.heap.objs.size)).get? (s.heap.objs.size+1)=some (Ss C s.heap.objs.size):=by have:=Rf (s.heap.push R5) (o:=Ss C s.heap.objs.size) rfl;rwa[R6] at this
 have N:(s.heap.push R5).Ns s.heap.objs.size (λ_=>none):=⟨R5,#[],_,e1,rfl,(λe he=>absurd he Z4),λ_=>rfl⟩
 have L:=I.laid (a:=s.heap.objs.size) (o:=.own (s.heap.objs.size+1)) (h':=s.heap.push R5) (t':=s.toks) (λb u q=>Q3 _ q) (QY _) ⟨_,e1⟩;refine L.laid (a:=s.heap.objs.size+1) (o:=.ins C s.heap.objs.size []) (t':=s.toks) (λb u q=>Q3 _ q) (Uk (R6 _ _)) ?_;have ne:s.heap.objs.size≠s.heap.objs.size+1:=Rw (Sn _);refine⟨by rw[ao ne,aJ],SR _,ne,e2,λ_=>none,(Heap.Ns1.of_empty N).at λo q=>Q3 _ q,λ_=>V3,λy hy=>absurd rfl hy⟩
theorem ES{prog:Program}{env:Env}{f:Str}(d:XR e f env (eval e env)=eval e env)
  (h:XO (XU prog w) A (eval e env) (λo Z=>XO (XU prog w) A (getAttr o f true) Q E Z) E s):XO (XU prog w) A (eval (.Attribute e f pos) env) Q E s:=
 Attribute_any_ h (by rw[arm_eval_Attribute,d])
end
def E2(K:QN)(ta:TE)(f:Str):TE:=λY H Q=>ta Y H λx V=>∃a C dx fs v,x=.ref a/\V a=some (.ins C dx fs)/\gN K C/\bY K C f/\fs.lookup f=some v/\Q v V
section
variable{X:Cx}{o e value:Expr}{f:Str}{pos pos' tpos:Pos}{ta tv:TE}
theorem fm(he:PE X e ta)(d:XR e f X.env (eval e X.env)=eval e X.env):PE X (.Attribute e f pos) (E2 X.K ta f):=by intro pins s Y H Q I h;refine ES d (cE (he pins s Y H _ I h) λu s1 ⟨x,V,L,o,a,C,dx,fs,v,ex,y,c,n,l,q⟩=>?_);subst ex;obtain rfl:u=R9 a:=o;exact tS L y c n l λr s2 k F=>⟨v,V,k,F,q⟩
theorem Fn{pl:Sem Bool}{m:Str}{apos:Pos}{args:List Expr}(he:PE X e te)(I:Inv X pins Y H s)
  (h:te Y H λx V=>∃a C dx fs g,x=.ref a/\V a=some (.ins C dx fs)/\gN X.K C/\Meth X.K C m g/\fs.lookup m=none /\
   ∀s1,Inv X pins Y V s1->XO (XU X.prog X.w) X.A (Zf pos (.ref g) [.ref a] (XW pos (XM args X.env)) (Yb pos (X0 [] X.env))) Q X.xe s1)
  (y:eval (.Call (.Attribute e m apos) args [] pos) X.env=(do
   let ov <- eval e X.env
   YF apos.atName
   let (f,first) <- holding [ov] (YM ov m pl)
   Zf pos f first (XW pos (XM args X.env)) (Yb pos (X0 [] X.env)))):
  XO (XU X.prog X.w) X.A (eval (.Call (.Attribute e m apos) args [] pos) X.env) Q X.xe s:=by
 refine T9 (pl:=pl) (cE (he pins s Y H _ I h) λu s1 ⟨x,V,L,o,a,C,dx,fs,g,ex,E,c,k,l,q⟩=>?_) y;subst ex;obtain rfl:u=R9 a:=o;exact i6 L E c k l (q s1 L)
end
section
variable{X:Cx}{pins:List (Addr×Obj)}{Y:St}{H:Hp}{s:Shared}{A:XZ}{E:Value->Shared->Prop}{Q:Value->Shared->Prop}{c:Value}{b:Bool}
inductive Bs(K:QN)(H:Hp):V->Value->Prop where
 |non:Bs K H .non (.type "NoneType")
 |bl(x:Bool):Bs K H (.bl x) (.type "bool")
 |int(i:Int):Bs K H (.int i) (.type "int")
 |str(x:Str):Bs K H (.str x) (.type "str")
end
structure cW(k:Nat)(A:XZ):Prop where
 hd:A.handled=none
 dp:A.depth+3*k+5<recursionLimit
 un:A.units+16*k+200<cLine
theorem cW.mono{k:Nat}{A:XZ}(r:cW k A)(h:j<=k):cW j A:=⟨r.hd,by have:=r.dp;lia,by have:=r.un;lia⟩
theorem cW.deeper{k:Nat}{A:XZ}(r:cW (k+1) A)(env:Env):cW k (A.deeper env):=
 ⟨r.hd,by have:=r.dp;show A.depth+1+3*k+5<_;lia,by have:=r.un;show A.units+3+16*k+200<_;lia⟩
theorem tR{A:XZ}:(A.under (.builtin "type.__call__" ⟨.ref C::us,kw⟩)).depth=A.depth+1:=by first|rfl|simp[Vo,Code.weight,Code.isCreation,Code.isGuard,Code.isCaller,W8,Vx,guardIds]
theorem uH{A:XZ}:(A.under (.builtin "type.__call__" ⟨.ref C::us,kw⟩)).units=A.units+1:=by first|rfl|simp[Vo,Code.cUnits,W8,Vx]
theorem cW.make{k:Nat}{A:XZ}(r:cW (k+1) A)(C:Addr)(us:List Value)(kw:List (Str×Value)):cW k (A.under (.builtin "type.__call__" ⟨.ref C::us,kw⟩)):=
 ⟨r.hd,by have:=r.dp;rw[tR];lia,by have:=r.un;rw[uH];lia⟩
theorem cW.depth{k:Nat}{A:XZ}(r:cW k A):A.depth<recursionLimit:=by have:=r.dp;lia
theorem cW.units{k:Nat}{A:XZ}(r:cW k A):A.units+64<cLine:=by have:=r.un;lia
noncomputable def NJ:TA:=λ_ H Q=>Q [] H
noncomputable def Ni(ta:TE)(tr:TA):TA:=λY H Q=>ta Y H λx V=>tr Y V λxs U=>Q (x::xs) U
section
variable{X:Cx}{e:Expr}{es:List Expr}{te:TE}{t:TA}{pos:Pos}
theorem cw:PA X [] NJ:=λ_ _ _ _ H Q I h=>Calls.spliced_nil ⟨[],H,I,.nil,h⟩
theorem aX(ha:PE X e te)(hr:PA X es t)(hs:XM (e::es) X.env=(false,eval e X.env)::XM es X.env:=by rfl):PA X (e::es) (Ni te t):=by intro pos pins s Y H Q I h;rw[hs];show XO _ _ (spliced ((false,eval e X.env)::XW pos (XM es X.env))) _ _ s;refine Calls.spliced_cons (cE (ha pins s Y H _ I h) λu s1 ⟨x,H1,I1,r1,q1⟩=>?_);exact cE (hr pos pins s1 Y H1 _ I1 q1) λus s2 ⟨xs,H2,I2,r2,q2⟩=>⟨x::xs,H2,I2,.cons r1 r2,q2⟩
def O6(t:TA):TE:=λY H Q=>t Y H λxs V=>xs.length<=sizeLine/\∀p,V p=none->Q (.ref p) (upd V p (.tup xs))
def Po(t:TA):TE:=λY H Q=>t Y H λxs V=>xs.length<=sizeLine/\∀p,V p=none->Q (.ref p) (upd V p (.lst xs))
theorem Ip{x1}(h:PA X es t):PE X (.Tuple es x1 pos) (O6 t):=by intro pins s Y H Q I l;refine wpAny_Tuple_spliced (cE (h pos pins s Y H _ I l) λus s1 ⟨xs,V,L,r,z,q⟩=>⟨by rw[<-r.length];exact z,?_⟩);have hf:V s1.heap.objs.size=none:=L.hok.fresh (QY _);refine⟨.ref s1.heap.objs.size,upd V s1.heap.objs.size (.tup xs),L.laid (t':=s1.toks) (λb u e=>Q3 _ e) (QY _) ?_,rfl,q _ hf⟩;exact⟨z,us,r,⟨_,Rf _ rfl,rfl,_,rfl,rfl⟩⟩
theorem G6(h:PA X es t):PE X (.List es pos) (Po t):=by intro pins s Y H Q I l;refine wpAny_List_spliced (cE (h pos pins s Y H _ I l) λus s1 ⟨xs,V,L,r,z,q⟩=>⟨by rw[<-r.length];exact z,?_⟩);have hf:V s1.heap.objs.size=none:=L.hok.fresh (QY _);refine⟨.ref s1.heap.objs.size,upd V s1.heap.objs.size (.lst xs),L.laid (t':=s1.toks) (λb u e=>Q3 _ e) (QY _) ?_,rfl,q _ hf⟩;exact⟨z,us,0,r,Rf _ rfl⟩
end
abbrev Sp:=List V->Hp->VK->XK->Prop
abbrev qG:=List Env->Hp->Shared->XK->Value->Shared->Prop
structure t9(P:Program)(w:XX)(K:QN)(mg:Str->Option Value)(base:Heap)(A:XZ)(outer:List Env)(s:Shared)(H:Hp):Prop where
 frames:A.frames=some outer
 mod:Mod K mg base
 bs:∀b o,base.get? b=some o->s.heap.get? b=some o/\H b=none
 bsz:base.objs.size<=s.heap.objs.size
 nO:s.heap.FunFrames base outer
 frf:∀b∈lE outer,H b=none
 hok:kN P w H s.heap
 bare:YE s.gens
def CE(outer:List Env)(P:Program)(w:XX)(H:Hp)(s:Shared)(Q:VK)(u:Value)(s':Shared):Prop:=
 ∃v H',s'.os=s.os/\YE s'.gens/\Un (lE outer) [] H H' s.heap s'.heap/\kN P w H' s'.heap/\RelV v u/\Q v H'
def CR(CX:qG)(outer:List Env)(P:Program)(w:XX)(H:Hp)(s:Shared)(Q:VK)(E:XK)(r:Result)(s':Shared):Prop:=
 match r with
 | .ok (.ret u)=>CE outer P w H s Q u s'
 | .ok _=>False
 | .error e=>CX outer H s E e s'
structure dF(P:Program)(w:XX)(K:QN)(mg:Str->Option Value)(base:Heap)(CX:qG)(k:Nat)(f:Addr)(fd:X1)(ps:List Str)(sp:Sp):Prop where
 len:∀vs H Q E,sp vs H Q E->vs.length=ps.length
 run:∀(A:XZ)(outer:List Env)(s:Shared)(H:Hp)(args:Args)(us:List Value)(vs:List V)(Q:VK)(E:XK),cW k A->t9 P w K mg base A outer s H->YV s fd args (ps.zip us)->Vals vs us->sp vs H Q E->
  YG (XU P w) A (.call (.ref f) args) (CR CX outer P w H s Q E) s
theorem dF.mono{P:Program}{w:XX}{K:QN}{mg:Str->Option Value}{base:Heap}{CX:qG}{j k:Nat}{f:Addr}{fd:X1}{ps:List Str}{sp:Sp}(F:dF P w K mg base CX j f fd ps sp)(h:j<=k):
  dF P w K mg base CX k f fd ps sp:=⟨F.len,λA outer s H args us vs Q E X=>F.run A outer s H args us vs Q E (X.mono h)⟩
variable{mg:Str->Option Value}{base:Heap}{CX:qG}{fd:X1}{ps:List Str}
theorem dF.imp{P:Program}{k:Nat}{f:Addr}{sp x:Sp}(F:dF P w K mg base CX k f fd ps sp)
  (h:∀vs H Q E,x vs H Q E->sp vs H Q E):dF P w K mg base CX k f fd ps x:=
 ⟨λvs H Q E q=>F.len vs H Q E (h _ _ _ _ q),λA outer s H args us vs Q E X he d c hs=>F.run A outer s H args us vs Q E X he d c (h _ _ _ _ hs)⟩
variable{outer:List Env}
theorem t9.make{P:Program}{A:XZ}(e:t9 P w K mg base A outer s H)(C:Addr)(us:List Value)(kw:List (Str×Value)):
  t9 P w K mg base (A.under (.builtin "type.__call__" ⟨.ref C::us,kw⟩)) outer s H:=⟨by first|exact e.frames|(simpa[Vo,Code.envs,Vx,pushEnvs] using e.frames),e.mod,e.bs,e.bsz,e.nO,e.frf,e.hok,e.bare⟩
section
variable{X:Cx}{pins:List (Addr×Obj)}{Y:St}{H:Hp}{s s':Shared}
theorem Inv.K3(I:Inv X pins Y H s):t9 X.prog X.w X.K X.mg X.base X.A X.stack s H:=
 ⟨I.ok.frames,I.ok.mod,I.bs,RE I.ok.bsz I.sz,I.stack,I.vX,I.hok,I.bare⟩
theorem Inv.after{Q:VK}(I:Inv X pins Y H s)(h:CE X.stack X.prog X.w H s Q u s'):EP X pins Y Q u s':=by obtain⟨v,H',os,bare,un,hok,r,q⟩:=h;obtain⟨N,g,d,t,K⟩:=s';obtain rfl:K=s.os:=os;exact⟨v,H',I.call (h':=N) (g':=g) (d':=d) (t':=t) (ch:=[]) un hok bare (λb z=>absurd z Z4),r,q⟩
end
noncomputable def Nm(sp:Sp)(dvs:List V)(E:XK)(t:TA):TE:=λY H Q=>t Y H λvs L=>sp (vs++dvs) L Q E
def vf(C:Addr)(m:Str)(sp:Sp)(dvs:List V)(E:XK)(ta:TE)(t:TA):TE:=λY H Q=>ta Y H λx L=>∃a dx fs,x=.ref a/\L a=some (.ins C dx fs)/\fs.lookup m=none /\
 t Y L λvs U=>sp (x::(vs++dvs)) U Q E
def Gg(C:Addr)(sp:Sp)(dvs:List V)(E:XK)(t:TA):TE:=λY H Q=>t Y H λvs L=>∀x dx,L x=none->L dx=none->dx≠x->
 sp (.ref x::(vs++dvs)) (upd (upd L dx (.own x)) x (.ins C dx [])) (λv U=>v=.non/\Q (.ref x) U) E
def Binds(K:QN)(fd:X1)(ps:List Str)(ds:List Value):Prop:=
 ∀(s:Shared)(us:List Value),K.In s.heap->(us++ds).length=ps.length->YV s fd ⟨us,[]⟩ (ps.zip (us++ds))
theorem Binds.all(h:∀us:List Value,us.length=ps.length->bindArgs fd ⟨us,[]⟩=pure (ps.zip us)):Binds K fd ps []:=λs us _ hl=>by rw[RO] at hl ⊢;exact .of_eq (h us hl)
def Passes(CX:qG)(X:Cx)(E:XK):Prop:=∀(pins:List (Addr×Obj))(Y:St)(H:Hp)(s:Shared)(e:Value)(s':Shared),Inv X pins Y H s->CX X.stack H s E e s'->X.xe e s'
variable{vs:List V}
section
variable{X:Cx}{CX:qG}{k:Nat}{f C:Addr}{fd:X1}{ps:List Str}{sp:Sp}{dvs:List V}{ds:List Value}{E:XK}{x m:Str}{p pos apos:Pos}{e o:Expr}{es:List Expr}{ta:TE}{t:TA}
theorem tV{Q:VK}(F:dF X.prog X.w X.K X.mg X.base CX k f fd ps sp)(R:cW k X.A)(d:Binds X.K fd ps ds)(hd:Vals dvs ds)(hx:Passes CX X E)
  (I:Inv X pins Y H s)(r:Vals vs us)(h:sp (vs++dvs) H Q E):XO (XU X.prog X.w) X.A (call (.ref f) us) (EP X pins Y Q) X.xe s:=by
 have x:Vals (vs++dvs) (us++ds):=r.append hd;have hl:(us++ds).length=ps.length:=by rw[<-x.length];exact F.len _ _ _ _ h
 refine wpAny_call (YW (F.run X.A X.stack s H ⟨us,[]⟩ (us++ds) (vs++dvs) Q E R I.K3 (d s us I.uh hl) x h) λr s' l=>?_);cases r with
 |error e=>exact hx pins Y H s e s' I l
 |ok fl=>
  cases fl with
  |ret u=>exact I.after l
  |next=>exact SA l
  |brk=>exact SA l
  |cont=>exact SA l
theorem CD(F:dF X.prog X.w X.K X.mg X.base CX k f fd ps sp)(hr:cW k X.A)(hg:Gl X x)(hm:X.mg x=some (.ref f))(hk:Sk X.K (.ref f)=true)(hb:Binds X.K fd ps ds)(hd:Vals dvs ds)(hx:Passes CX X E)
  (ha:PA X (e::es) t)(hdb:fC x:=by decide)(he:XM (e::es) X.env=(false,eval e X.env)::XM es X.env:=by rfl)(hpl:(XW pos (XM es X.env)).any (·.1)=false:=by rfl):
  PE X (.Call (.Name x p) (e::es) [] pos) (Nm sp dvs E t):=by
 intro pins s Y H Q I h;refine Yr (qo I hg hm ?_ hdb);refine Uw (h₀:=X.base) I.ok.mod.kin hk (cE (ha pos pins s Y H _ I h) λus s1 ⟨vs,H1,I1,r,q⟩=>⟨I1.uh,?_⟩) he hpl;exact tV F hr hb hd hx I1 r q
theorem vN{pl:Sem Bool}(he:PE X o ta)(c:gN X.K C)(hm:Meth X.K C m f)(F:dF X.prog X.w X.K X.mg X.base CX k f fd ps sp)(hr:cW k X.A)(hb:Binds X.K fd ps ds)(hd:Vals dvs ds)(hx:Passes CX X E)(ha:PA X (e::es) t)
  (hst:XM (e::es) X.env=(false,eval e X.env)::XM es X.env:=by rfl)(hpl:(XW pos (XM es X.env)).any (·.1)=false:=by rfl)
  (ht:eval (.Call (.Attribute o m apos) (e::es) [] pos) X.env=(do
   let ov <- eval o X.env
   YF apos.atName
   let (f,first) <- holding [ov] (YM ov m pl)
   Zf pos f first (XW pos (XM (e::es) X.env)) (Yb pos (X0 [] X.env))):=by rfl):
  PE X (.Call (.Attribute o m apos) (e::es) [] pos) (vf C m sp dvs E ta t):=by
 intro pins s Y H Q I h;refine T9 (pl:=pl) (cE (he pins s Y H _ I h) λu s1 ⟨x,H1,I1,rx,a,dx,fs,ex,ea,l,q⟩=>?_) ht;subst ex;obtain rfl:u=R9 a:=rx;refine i6 I1 ea c hm l ?_;refine Uw (first:=[.ref a]) (h₀:=X.base) I.ok.mod.kin hm.kp (cE (ha pos pins s1 Y H1 _ I1 q) λus s2 ⟨vs,H2,I2,r,q2⟩=>⟨I2.uh,?_⟩) hst hpl;exact tV (us:=.ref a::us) (vs:=.ref a::vs) F hr hb hd hx I2 (.cons rfl r) q2
theorem q9{pl:Sem Bool}(he:PE X o ta)(c:gN X.K C)(hm:Meth X.K C m f)(F:dF X.prog X.w X.K X.mg X.base CX k f fd ps sp)(hr:cW k X.A)(hb:Binds X.K fd ps ds)(hd:Vals dvs ds)(hx:Passes CX X E)
  (ht:eval (.Call (.Attribute o m apos) [] [] pos) X.env=(do
   let ov <- eval o X.env
   YF apos.atName
   let (f,first) <- holding [ov] (YM ov m pl)
   Zf pos f first (XW pos (XM [] X.env)) (Yb pos (X0 [] X.env))):=by rfl):
  PE X (.Call (.Attribute o m apos) [] [] pos) (vf C m sp dvs E ta NJ):=by
 intro pins s Y H Q I h;refine T9 (pl:=pl) (cE (he pins s Y H _ I h) λu s1 ⟨x,H1,I1,rx,a,dx,fs,ex,ea,l,q⟩=>?_) ht;subst ex;obtain rfl:u=R9 a:=rx;refine i6 I1 ea c hm l ?_;exact PySem.W.callWith_K0 (first:=[.ref a]) I1.uh hm.kp (tV (us:=[.ref a]) (vs:=[.ref a]) F hr hb hd hx I1 (.cons rfl .nil) q)
structure Mk(K:QN)(C f:Addr):Prop where
 makes:UX K C=true
 init:RZ K (.ref C) "__init__" = some (some (.ref f))
 fn:UA K (.ref f)=true
 kp:Sk K (.ref C)=true
theorem BQ{Q:VK}(M:Mk X.K C f)(F:dF X.prog X.w X.K X.mg X.base CX k f fd ps sp)(R:cW (k+1) X.A)(d:Binds X.K fd ps ds)(hd:Vals dvs ds)
  (hx:Passes CX X E)(I:Inv X pins Y H s)(r:Vals vs us)
  (h:∀x dx,H x=none->H dx=none->dx≠x->sp (.ref x::(vs++dvs)) (upd (upd H dx (.own x)) x (.ins C dx [])) (λv U=>v=.non/\Q (.ref x) U) E):
  XO (XU X.prog X.w) X.A (call (.ref C) us) (EP X pins Y Q) X.xe s:=by
 have l:=h (s.heap.objs.size+1) s.heap.objs.size (I.hok.fresh (Ux _)) (I.hok.fresh (QY _)) (Rw (Sn _));have a:=Inv.made (C:=C) I;have p:Vals (V.ref (s.heap.objs.size+1)::(vs++dvs)) (R9 (s.heap.objs.size+1)::(us++ds)):=.cons rfl (r.append hd);have hl:(R9 (s.heap.objs.size+1)::us++ds).length=ps.length:=by have e:=p.length;rw[F.len _ _ _ _ l] at e;exact e.symm
 refine wpAny_call (Aj (f:=f) I.uh M.makes M.init (ZD.mp M.fn) (YW (F.run _ X.stack _ _ ⟨R9 (s.heap.objs.size+1)::us,[]⟩ (R9 (s.heap.objs.size+1)::(us++ds)) _ _ E (R.make C us [])
  (a.K3.make C us []) (d _ (R9 (s.heap.objs.size+1)::us) a.uh hl) p l) λr s' T=>?_))
 cases r with
 |error e=>exact hx pins Y _ _ e s' a T
 |ok fl=>
  cases fl with
  |ret u=>obtain⟨v,H',t,y,B,O⟩:=a.after T;subst B;exact⟨y,⟨V.ref (s.heap.objs.size+1),H',t,rfl,O⟩⟩
  |next=>exact SA T
  |brk=>exact SA T
  |cont=>exact SA T
theorem DF(M:Mk X.K C f)(F:dF X.prog X.w X.K X.mg X.base CX k f fd ps sp)(hr:cW (k+1) X.A)(hg:Gl X x)(hm:X.mg x=some (.ref C))(hb:Binds X.K fd ps ds)(hd:Vals dvs ds)(hx:Passes CX X E)
  (ha:PA X (e::es) t)(hdb:fC x:=by decide)(he:XM (e::es) X.env=(false,eval e X.env)::XM es X.env:=by rfl)(hpl:(XW pos (XM es X.env)).any (·.1)=false:=by rfl):
  PE X (.Call (.Name x p) (e::es) [] pos) (Gg C sp dvs E t):=by
 intro pins s Y H Q I h;refine Yr (qo I hg hm ?_ hdb);refine Uw (h₀:=X.base) I.ok.mod.kin M.kp (cE (ha pos pins s Y H _ I h) λus s1 ⟨vs,H1,I1,r,q⟩=>⟨I1.uh,?_⟩) he hpl;exact BQ M F hr hb hd hx I1 r q
end
structure jP(N P:List Str)(sc:Scope):Prop where
 kind:sc.kind=.function
 co:sc.isCoroutine=false
 gen:sc.isGenerator=false
 nd:N.Nodup
 pre:N.take P.length=P
 par:∀x∈P,sc.names.lookup x=some .local\/sc.names.lookup x=some .cell
 nofree:∀y∈sc.names,y.2≠.free
theorem ou{kindOf:Str->Option NameKind}{x:Str}:∀{s:List (Str×Value)}{m:Str->Option Value},(∀v,(x,v)∉s)->Zs kindOf s m x=m x
 |[],_,_=>rfl
 |(n,v)::r,m,h=>by
  unfold Zs;rw[ou λw c=>h w (QW _ c)];split
  .have:x≠n:=by rintro rfl;exact h v Q5
   simp[this]
  .rfl
theorem oq{kindOf:Str->Option NameKind}{x:Str}:∀{s:List (Str×Value)}{m:Str->Option Value},(∀v,(x,v)∉s)->Zt kindOf s m x=m x
 |[],_,_=>rfl
 |(n,v)::r,m,h=>by
  unfold Zt;rw[oq λw c=>h w (QW _ c)];split
  .rfl
  .have:x≠n:=by rintro rfl;exact h v Q5
   simp[this]
theorem oG{kindOf:Str->Option NameKind}{x:Str}{v:Value}:∀{P:List Str}{vs:List Value}{i:Nat}{m:Str->Option Value},P.Nodup->P[i]?=some x->vs[i]?=some v->kindOf x=some .local->
  Zs kindOf (P.zip vs) m x=some v
 |[],_,_,_,_,h,_,_=>by simp at h
 |_::_,[],_,_,_,_,h,_=>by simp at h
 |p::P,w::vs,0,m,nd,h1,h2,hk=>by simp at h1 h2;subst h1;subst h2;show Zs kindOf ((p,w)::P.zip vs) m p=_;unfold Zs;rw[ou λv c=>(Rn.mp nd).1 (S7 c).1,Zx hk];simp
 |p::P,w::vs,i+1,m,nd,h1,h2,hk=>by show Zs kindOf ((p,w)::P.zip vs) m x=_;unfold Zs;exact oG (i:=i) (Rn.mp nd).2 (by simpa using h1) (by simpa using h2) hk
theorem oP{kindOf:Str->Option NameKind}{x:Str}{v:Value}:∀{P:List Str}{vs:List Value}{i:Nat}{m:Str->Option Value},P.Nodup->P[i]?=some x->vs[i]?=some v->kindOf x≠some .local->
  Zt kindOf (P.zip vs) m x=some v
 |[],_,_,_,_,h,_,_=>by simp at h
 |_::_,[],_,_,_,_,h,_=>by simp at h
 |p::P,w::vs,0,m,nd,h1,h2,hk=>by simp at h1 h2;subst h1;subst h2;show Zt kindOf ((p,w)::P.zip vs) m p=_;unfold Zt;rw[oq λv c=>(Rn.mp nd).1 (S7 c).1,Zy hk];simp
 |p::P,w::vs,i+1,m,nd,h1,h2,hk=>by show Zt kindOf ((p,w)::P.zip vs) m x=_;unfold Zt;exact oP (i:=i) (Rn.mp nd).2 (by simpa using h1) (by simpa using h2) hk
noncomputable def start(N:List Str)(vs:List V):St:=vs.map some++QX (N.length-vs.length) none
noncomputable def uC(CX:qG)(P:Program)(w:XX)(K:QN)(mg:Str->Option Value)(base:Heap)(N:List Str)(qual:Str)(scope:Scope)(f:Addr)(cd:Value)(A:XZ)(outer:List Env)(s:Shared)(H:Hp)(E:XK):Cx where
 prog:=P
 w:=w
 K:=K
 mg:=mg
 base:=base
 A:=A.deeper (Y4 qual scope s.heap.objs.size f cd)
 N:=N
 s₀:=s
 H₀:=H
 env:=Y4 qual scope s.heap.objs.size f cd
 outer:=outer
 stack:=Y4 qual scope s.heap.objs.size f cd::outer
 ex:=[]
 calm:=true
 fn:=λ_=>true
 pn:=[]
 xe:=λe s'=>XO (XU P w) (A.deeper (Y4 qual scope s.heap.objs.size f cd)) (leaving (Y4 qual scope s.heap.objs.size f cd) e) (λ_ h=>CX outer H s E e h) (λk h=>CX outer H s E k h) s'
theorem qQ{sc:Scope}{n:Nat}{x:Str}(h:sc.names.lookup x=some .cell):∃c,(cellsFrom n sc.names []).lookup x=some c:=by have q:=Vh sc.names n [] (.inl h);exact Option.isSome_iff_exists.mp q
variable{scope:Scope}
theorem xZ{P:Program}{qual:Str}{f:Addr}{cd:Value}{A:XZ}{s1:Shared}{E:XK}
  (S:jP N ps scope)(hd:A.handled=none)(I:t9 P w K mg base A outer s H)(hl:vs.length=ps.length)(r:Vals vs us)
  (x:InCallC s s.heap.objs.size (Zs (Y4 qual scope s.heap.objs.size f cd).kindOf (ps.zip us) λ_=>none) (cellsFrom (s.heap.objs.size+1) scope.names []) (Zt (Y4 qual scope s.heap.objs.size f cd).kindOf (ps.zip us) λ_=>none) s1):
  Inv (uC CX P w K mg base N qual scope f cd A outer s H E) [] (start N vs) H s1:=by
 have T:ps.length<=N.length:=by have:=ZC W9 S.pre;rw[RV] at this;lia
 obtain⟨h1,tk,rfl,hk⟩:=x.done;have X:∀b:Addr,b∉(uC CX P w K mg base N qual scope f cd A outer s H E).ex:=λb z=>absurd (show b∈([]:List Addr) from z) Z4;refine⟨⟨I.mod,S.kind,rfl,rfl,QY _,λy z c h1 h2=>?_,λy hy=>?_,λy c _ h=>?_,λ_=>hd,XZ.frames_deeper I.frames,.inr ⟨rfl,rfl⟩,λb z=>absurd z (X b),I.bs,I.bsz,λb _ _=>X b,λb z=>absurd z (X b),I.nO,I.frf⟩,
  rfl,I.bare,Un.kept hk,⟨_,x.toInCall.ns,λi y v h1 h2 h3=>?_⟩,λy c h=>⟨_,x.cell y c h⟩,I.hok.fresh (QY _),λy c h=>?_,λp hp=>absurd (show p∈([]:List (Addr×Obj)) from hp) Z4,I.hok.kept hk,?_⟩
 .exact name_of_addr x.apart (SF h1) (SF h2)
 .have hy:scope.names.lookup y=some .cell\/scope.names.lookup y=some .free:=hy;rcases hy with hy|hy
  .exact qQ hy
  .exact absurd rfl (S.nofree _ (SF hy))
 .exact Rv (x.above y c (SF h))
 .have hi:i<vs.length:=by
   unfold start at h2;by_cases hi:i<vs.length
   .exact hi
   .rw[RG (by simpa using hi)] at h2;rw[T7] at h2;split at h2<;>cases h2
  have Y:vs[i]?=some v:=by
   unfold start at h2;rw[RW (by simpa using hi),Rm] at h2;cases e:vs[i]? with
   |none=>rw[e] at h2;cases h2
   |some a=>rw[e] at h2;cases h2;rfl
  obtain⟨u,g,Z⟩:=r.get Y;have hp:ps[i]?=some y:=by rw[<-S.pre,TZ Q1];exact h1
  have Q:ps.Nodup:=by rw[<-S.pre];exact S.nd.sublist (UR _ _)
  refine⟨u,Z,?_⟩;rcases S.par y (RF hp) with k|k
  .exact .inl ⟨k,oG Q hp g k⟩
  .obtain⟨c,e⟩:=qQ (n:=s.heap.objs.size+1) k;refine .inr ⟨.inl k,c,e,?_⟩;have q:=x.cell y c e;rw[oP Q hp g (by show scope.names.lookup y≠_;rw[k];decide)] at q;exact q
 .exact I.hok.fresh (Rv (x.above y c (SF h)))
 .unfold start;show _=N.length;rw[Rc,QU,To];lia
theorem M8{P:Program}{k:Nat}{f:Addr}{name qual:Str}{h:Arguments}{dV kV doc pm cdv ct oc:Value}{an od:Option Addr}
  {osl:Array (Option Value)}{sp:Sp}(G:K.lookup f=some ⟨oc,od,.func (UC name qual h body scope dV kV doc pm an cdv ct),osl⟩)(B:Ul K cdv qual=true)(S:jP N ps scope)
  (len:∀vs H Q E,sp vs H Q E->vs.length=ps.length)
  (X:∀(A:XZ)(outer:List Env)(s:Shared)(H:Hp)(vs:List V)(Q:VK)(E:XK),cW k (A.deeper (Y4 qual scope s.heap.objs.size f cdv))->sp vs H Q E->
   ∃t,qX (uC CX P w K mg base N qual scope f cdv A outer s H E) body t/\t { nx:=λ_ H'=>Q .non H',rt:=Q } (start N vs) H):
  dF P w K mg base CX (k+1) f (UC name qual h body scope dV kV doc pm an cdv ct) ps sp:=by
 refine⟨len,λA outer s H args us vs Q E R i d r p=>?_⟩;have hl:=len _ _ _ _ p;have D:K.In s.heap:=i.mod.kin.keeps λb o e=>(i.bs b o e).1;have C:s.heap.NoLimit:=i.mod.nolimit.keeps λb o e=>(i.bs b o e).1;have a:∀y∈ps.zip us,scope.names.lookup y.1=some .local\/(scope.names.lookup y.1=some .cell/\((cellsFrom (s.heap.objs.size+1) scope.names []).lookup y.1).isSome=true):=λ⟨n,v⟩ hy=>by
  rcases S.par n (S7 hy).1 with q|q
  .exact .inl q
  .exact .inr ⟨q,Vh _ _ _ (.inl q)⟩
 refine codeAny_call_function R.depth (D _ _ G) rfl S.co S.gen rfl (PySem.W.codeRec_of D B) (d _ _ _ _ ?_);refine wpAny_newFunctionEnv_cells S.kind a λenv he s1 x=>?_;subst he;refine⟨C.keeps x.toInCall.keep,codeAny_func ?_⟩;obtain⟨t,l,O⟩:=X A outer s H vs Q E (R.deeper _) p;have I:Inv (uC CX P w K mg base N qual scope f cdv A outer s H E) [] (start N vs) H s1:=xZ S R.hd i hl r x;refine Yp (l [] s1 (start N vs) H _ I O) (λfl s' hs=>?_) λe s' hs=>hs;have fin:∀{j:St}{H':Hp}{v:V}{u:Value},Inv (uC CX P w K mg base N qual scope f cdv A outer s H E) [] j H' s'->RelV v u->Q v H'->CE outer P w H s Q u s':=
  λ{j H' v u} J Z q=>⟨v,H',J.os,J.bare,J.base,J.hok,Z,q⟩
 cases fl with
 |ret u=>obtain⟨v,j,H',J,Z,q⟩:=hs;exact fin J Z q
 |next=>obtain⟨j,H',J,q⟩:=hs;exact fin (v:=V.non) (u:=Tn) J rfl q
 |brk=>obtain⟨_,_,_,q⟩:=hs;exact SA q
 |cont=>obtain⟨_,_,_,q⟩:=hs;exact SA q
section
variable{X:Cx}{x:Str}{p pos:Pos}{e:Expr}{es:List Expr}{t:TA}{id T:String}{r:List V->Hp->VK->Prop}
noncomputable def P5(r:List V->Hp->VK->Prop)(t:TA):TE:=λY H Q=>t Y H λvs L=>r vs L Q
theorem j6(hc:cZ X (.builtin id) r)(hg:Gl X x)(hm:X.mg x=none)(hv:XQ x=some (.builtin id))(ha:PA X (e::es) t)(hn:x ≠ "__name__" := by decide)(hdb:fC x:=by decide)
  (he:XM (e::es) X.env=(false,eval e X.env)::XM es X.env:=by rfl)(hpl:(XW pos (XM es X.env)).any (·.1)=false:=by rfl):PE X (.Call (.Name x p) (e::es) [] pos) (P5 r t):=by
 intro pins s Y H Q I h;refine Yr (gY I hg hm hv ?_ hn hdb);exact Xe (cE (ha pos pins s Y H _ I h) λus s1 ⟨vs,H1,I1,r1,q1⟩=>hc pins s1 Y H1 vs us Q I1 r1 q1) he hpl
theorem gh(hc:cZ X (.type T) r)(hg:Gl X x)(hm:X.mg x=none)(hv:XQ x=some (.type T))(ha:PA X (e::es) t)(hn:x ≠ "__name__" := by decide)(hdb:fC x:=by decide)
  (he:XM (e::es) X.env=(false,eval e X.env)::XM es X.env:=by rfl)(hpl:(XW pos (XM es X.env)).any (·.1)=false:=by rfl):PE X (.Call (.Name x p) (e::es) [] pos) (P5 r t):=by
 intro pins s Y H Q I h;refine Yr (gY I hg hm hv ?_ hn hdb);exact R0 (cE (ha pos pins s Y H _ I h) λus s1 ⟨vs,H1,I1,r1,q1⟩=>hc pins s1 Y H1 vs us Q I1 r1 q1) he hpl
end
end L2
namespace HT
open PySem PyProof.Rows
section
variable{prog:Program}{w:XX}{A:XZ}{E:Value->Shared->Prop}{s:Shared}
noncomputable def jV(n d:Nat):Option Int->Nat
 |none=>d
 |some v=>if v<0 then (v+(n:Int)).toNat else min v.toNat n
theorem u7(n d k:Nat):jV n d (some (k:Int))=min k n:=by show (if (k:Int)<0 then ((k:Int)+(n:Int)).toNat else min (k:Int).toNat n)=min k n;rw[Zy Q1,SO]
end
end HT
namespace L2
open PySem PySem.Spec PyProof.Rows
abbrev TO:=St->Hp->(Option Int->Hp->Prop)->Prop
def PO(X:Cx)(e:Option Expr)(t:TO):Prop:=
 ∀(pins:List (Addr×Obj))(s:Shared)(Y:St)(H:Hp)(Q:Option Int->Hp->Prop),Inv X pins Y H s->t Y H Q->
  XO (XU X.prog X.w) X.A (evalPart e X.env) (λu s'=>∃o H',Inv X pins Y H' s'/\IsPart u o/\Q o H') X.xe s
noncomputable def CC:TO:=λ_ H Q=>Q none H
noncomputable def Mt(t:TE):TO:=λY H Q=>t Y H λx V=>∃i,x=.int i/\Q (some i) V
section
variable{X:Cx}{e:Expr}{te:TE}{lo hi:Option Expr}{tl th:TO}{pos p2:Pos}
theorem Cw:PO X none CC:=by intro pins s Y H Q I h;rw[evalPart_none];exact XT ⟨none,H,I,.none,h⟩
theorem DH(h:PE X e te):PO X (some e) (Mt te):=by intro pins s Y H Q I n;rw[evalPart_some];refine cE (h pins s Y H _ I n) λu s1 ⟨x,V,L,g,j⟩=>?_;obtain⟨i,rfl,q⟩:=j;obtain⟨t,rfl⟩:=g;exact⟨some i,V,L,.int i t,q⟩
def fE(X:Cx)(r:V->Option Int->Option Int->Hp->VK->Prop):Prop:=
 ∀(pins:List (Addr×Obj))(s:Shared)(Y:St)(H:Hp)(x:V)(v vl I:Value)(lo hi:Option Int)(sl:Addr)(Q:VK),Inv X pins Y H s->RelV x v->s.heap.IsSliceOf sl vl I .none->IsPart vl lo->IsPart I hi->r x lo hi H Q->
  ∃T id,typeLookup (.type T) "__getitem__" = pure (some (.builtin id))/\s.TypeIs v T/\XO (XU X.prog X.w) X.A (getItem v (.ref sl)) (EP X pins Y Q) X.xe s
noncomputable def Qf(r:V->Option Int->Option Int->Hp->VK->Prop)(te:TE)(tl th:TO):TE:=λY H Q=>te Y H λx L=>tl Y L λl U=>th Y U λu w=>r x l u w Q
theorem Bk{r:V->Option Int->Option Int->Hp->VK->Prop}(R:fE X r)(he:PE X e te)(hl:PO X lo tl)(g:PO X hi th):PE X (.Subscript e (.Slice lo hi none p2) pos) (Qf r te tl th):=by intro pins s Y H Q I h;refine Subscript_ (cE (he pins s Y H _ I h) λv s1 ⟨x,L,o,E,j⟩=>?_);refine wpAny_Slice (cE (hl pins s1 Y L _ o j) λvl s2 ⟨l,U,k,pl,n⟩=>cE (g pins s2 Y U _ k n) λK a ⟨u,z,F,P,C⟩=>?_);rw[evalPart_none];refine XT ?_;have S:Inv X pins Y z { a with heap:=a.heap.push { cls:=.type "slice",data:=.fields #[vl,K,.none] } }:=F.kept (t':=a.toks) λb ob q=>Q3 _ q;obtain⟨T,id,t,y,J⟩:=R pins { a with heap:=a.heap.push { cls:=.type "slice",data:=.fields #[vl,K,.none] } } Y z x v vl K l u a.heap.objs.size Q S E (WY ..) pl P C;show XO (XU X.prog X.w) X.A (subscriptTail e (.Slice lo hi none p2) v (.ref a.heap.objs.size)) (EP X pins Y Q) X.xe { a with heap:=a.heap.push { cls:=.type "slice",data:=.fields #[vl,K,.none] } };exact tail_any (ops:=[.ref a.heap.objs.size,v]) y t J (by with_unfolding_all rfl)
def wW(xs:List V)(lo hi:Option Int):List V:=(xs.drop (HT.jV xs.length 0 lo)).take (HT.jV xs.length xs.length hi-HT.jV xs.length 0 lo)
theorem sf(xs:List V)(lo hi:Option Int):(wW xs lo hi).length<=xs.length:=by unfold wW;rw[RV,List.length_drop];lia
end
noncomputable def gH(n:Nat)(i:Int):Option Nat:=if 0<=i then (if i<n then some i.toNat else none) else if -(n:Int)<=i then some (i+n).toNat else none
def iq{α:Type}(xs:List α)(i:Int):Option α:=(gH xs.length i).bind λj=>xs[j]?
variable{i:Int}{j:Nat}
theorem lB{n:Nat}(h:gH n i=some j):YN i n=some j/\j<n /\ -(n:Int)<=i/\i<n:=by
 unfold gH at h;by_cases A:0<=i
 .rw[Zx A] at h;by_cases h1:i<n
  .rw[Zx h1] at h;have e:i.toNat=j:=Rj h;exact⟨by rw[Zl A h1,e],by lia,by lia,h1⟩
  .rw[Zy h1] at h;cases h
 .rw[Zy A] at h;by_cases h1:-(n:Int)<=i
  .rw[Zx h1] at h;have e:(i+n).toNat=j:=Rj h;exact⟨by rw[Zg Q1 h1,e],by lia,h1,by lia⟩
  .rw[Zy h1] at h;cases h
variable{α:Type}
theorem pz{xs:List α}{v:α}(h:iq xs i=some v):∃j,YN i xs.length=some j/\xs[j]?=some v/\j<xs.length /\ -(xs.length:Int)<=i/\i<xs.length:=by
 unfold iq at h;cases e:gH xs.length i with
 |none=>rw[e] at h;cases h
 |some j=>rw[e] at h;obtain⟨h1,h2,h3,h4⟩:=lB e;exact⟨j,h1,h,h2,h3,h4⟩
theorem dM{xs:List α}{v:α}(h:xs[j]?=some v):iq xs (j:Int)=some v:=by
 have a:j<xs.length:=(QP.mp h).1;have e:gH xs.length (j:Int)=some j:=by unfold gH;rw[Zx Q1,Zx Q1];simp
 unfold iq;rw[e];exact h
def jC(b:Expr):Prop:=∀o i,subscripted b false o i=operate [o,i] (getItem o i)
def EY(X:Cx)(r:R2):Prop:=
 ∀(value h:Expr)(pins:List (Addr×Obj))(s:Shared)(Y:St)(H:Hp)(x y:V)(v u:Value)(Q:VK),Inv X pins Y H s->RelV x v->RelV y u->r x y H Q->
  subscripted h false v u=operate [v,u] (getItem v u)->XO (XU X.prog X.w) X.A (subscriptTail value h v u) (EP X pins Y Q) X.xe s
def Qw(X:Cx)(id:String)(r:V->List V->Hp->VK->Prop):Prop:=
 ∀(pins:List (Addr×Obj))(s:Shared)(Y:St)(H:Hp)(x:V)(xs:List V)(v:Value)(us:List Value)(Q:VK),Inv X pins Y H s->RelV x v->Vals xs us->r x xs H Q->
  XO (XU X.prog X.w) X.A (call (.builtin id) (v::us)) (EP X pins Y Q) X.xe s
variable{r:R2}{pins:List (Addr×Obj)}{Y:St}{H:Hp}{s:Shared}{p:Addr}{xs:List V}{its its':List Value}{u:Value}
section
variable{X:Cx}{a b:Expr}{ta tb:TE}{pos:Pos}
theorem EY.or{r':R2}(h:EY X r)(h':EY X r'):EY X (λx y H Q=>r x y H Q\/r' x y H Q):=by
 intro value w pins s Y H x y v u Q I o z q hs;rcases q with q|q
 .exact h value w pins s Y H x y v u Q I o z q hs
 .exact h' value w pins s Y H x y v u Q I o z q hs
theorem zH(R:EY X r)(f:PE X a ta)(d:PE X b tb)(hs:jC b):PE X (.Subscript a b pos) (GH r ta tb):=by intro pins s Y H Q I h;exact Subscript_ (Il f d I h λv u s2 x y U k o z q=>R a b pins s2 Y U x y v u Q k o z q (hs _ _))
def GF(K:QN):R2:=λx y H Q=>∃p xs i v,x=.ref p/\y=.int i/\dj K H p xs/\iq xs i=some v/\Q v H
def Mm(K:QN):R2:=λx y H Q=>∃p xs i v,x=.ref p/\y=.int i/\gP K H p xs/\iq xs i=some v/\Q v H
def M9:R2:=λx y H Q=>∃z i c,x=.str z/\y=.int i/\z.length<=sizeLine/\iq z.cps.toList i=some c/\Q (.str ⟨#[c]⟩) H
theorem pR:EY X (GF X.K):=by
 intro value A pins s Y H x y v u Q I o T h hs;obtain⟨p,xs,i,z,rfl,rfl,l,he,q⟩:=h;cases o;obtain⟨t,rfl⟩:=T;obtain⟨its,r,pl,hz⟩:=I.list l;obtain⟨j,h1,h2,h3,h4,h5⟩:=pz he;obtain⟨w,P,E⟩:=r.get h2;have hl:=r.length;have hn:=ky;have fin:EP X pins Y Q w s:=⟨z,H,I,E,q⟩
 by_cases S:0<=i
 .have a:i.toNat=j:=by rw[Zl S h5] at h1;exact Rj h1
  exact item_listR pl.isList S Q1 (by rw[a];simpa using P) fin hs
 .have a:(i+(its.toArray.size:Int)).toNat=j:=by rw[Zg Q1 h4] at h1;rw[QZ,<-hl];exact Rj h1
  exact YX (x:=w) pl.isList.typeIs slot_list_getitem.lookup
   (wpAny_getItem_list_neg (Q:=λr s'=>r=w/\EP X pins Y Q r s') pl.isList Q1 (by rw[QZ]<;>lia) Q1 (by rw[a];simpa using P) ⟨rfl,fin⟩) hs
theorem JX:EY X (Mm X.K):=by
 intro value A pins s Y H x y v u Q I o P h hs;obtain⟨p,xs,i,z,rfl,rfl,l,he,q⟩:=h;cases o;obtain⟨t,rfl⟩:=P;obtain⟨its,r,pl,hz⟩:=I.tuple l;obtain⟨j,h1,h2,h3,h4,h5⟩:=pz he;obtain⟨w,m,E⟩:=r.get h2;have hl:=r.length;have hn:=ky;have fin:EP X pins Y Q w s:=⟨z,H,I,E,q⟩
 exact YX (x:=w) pl.typeIs slot_tuple_getitem.lookup
  (getItem_tuple (j:=j) (Q:=λr s'=>r=w/\EP X pins Y Q r s') pl Q1 Q1 (by rw[QZ,<-hl];exact h1) (by simpa using m) ⟨rfl,fin⟩) hs
theorem IC:EY X M9:=by
 intro value A pins s Y H x y v u Q I o P h hs;obtain⟨z,i,c,rfl,rfl,hz,he,q⟩:=h;obtain⟨t,rfl⟩:=o;obtain⟨t',rfl⟩:=P;obtain⟨j,h1,h2,h3,h4,h5⟩:=pz he;have hl:z.cps.toList.length=z.length:=by simp[Str.length]
 rw[hl] at h1 h4 h5;have hn:=ky;exact tail_any (typeIs_str s z t) slot_str_getitem.lookup (getItem_str (c:=c) (by have e1:decide (i < -(2^63:Int))=false:=Zz Q1;have e2:decide (i≥2^63)=false:=Zz Q1;rw[e1,e2,Bool.or_false]) (by rw[h1];simpa using h2) ⟨.str ⟨#[c]⟩,H,I.tok _,⟨_,rfl⟩,q⟩) hs
def PK(K:QN):R2:=λx y H Q=>GF K x y H Q\/Mm K x y H Q\/M9 x y H Q
theorem Jq:EY X (PK X.K):=pR.or (JX.or IC)
theorem uq(its:List Value)(n j:Nat)(u:Value):UK (·.setIfInBounds j u) { cls:=.type "list",data:=.seq its.toArray n }={ cls:=.type "list",data:=.seq (its.set j u).toArray n }:=by simp[UK]
theorem Inv.lst(I:Inv X pins Y H s)(h:H p=some (.lst xs)):
  ∃(its:List Value)(n:Nat),Vals xs its/\s.heap.get? p=some { cls:=.type "list",data:=.seq its.toArray n }/\xs.length<=sizeLine:=by
 obtain⟨z,its,n,r,e⟩:=I.hok p _ h;exact⟨its,n,r,e,z⟩
theorem Inv.IT{ys:List V}{n v:Nat}{f:Obj->Obj}(I:Inv X pins Y H s)(h:H p=some (.lst xs))
  (ho:s.heap.get? p=some { cls:=.type "list",data:=.seq its.toArray n })(hf:f { cls:=.type "list",data:=.seq its.toArray n }={ cls:=.type "list",data:=.seq its'.toArray v })(r:Vals ys its')(hz:ys.length<=sizeLine)(t:Nat):
  Inv X pins Y (upd H p (.lst ys)) { s with heap:=s.heap.update p f,toks:=t }:=by
 have e:(s.heap.update p f).get? p=some { cls:=.type "list",data:=.seq its'.toArray v }:=by rw[VG f ho (by rw[hf]<;>rfl),hf]
 refine I.write (x:=p) (e:=p) (by rw[h];trivial) (.inl rfl) (λb u d q=>(Vy _ _ (RP d)).trans q) ⟨_,e⟩ ?_;exact⟨hz,its',v,r,e⟩
def qV:V->V->V->Hp->(Hp->Prop)->Prop:=λo i v H Q=>∃p xs k j,o=.ref p/\i=.int k/\H p=some (.lst xs)/\gH xs.length k=some j/\Q (upd H p (.lst (xs.set j v)))
theorem set_list:MK X qV:=by
 intro pins s Y H o i v y B u Q I x K Z h;obtain⟨p,xs,k,j,rfl,rfl,hp,w,q⟩:=h;cases x;obtain⟨t,rfl⟩:=K;obtain⟨its,n,r,ho,hz⟩:=I.lst hp;obtain⟨h1,h2,h3,h4⟩:=lB w;have hl:=r.length;have hn:=ky;have a:Inv X pins Y (upd H p (.lst (xs.set j v))) { s with heap:=s.heap.update p (UK (·.setIfInBounds j u)) }:=
  I.IT hp ho (uq its n j u) (r.set Z j) (by rw[U5];exact hz) s.toks
 by_cases S:0<=k
 .have hk:k.toNat=j:=by rw[Zl S h4] at h1;exact Rj h1
  exact PySem.W.ki_setAt ho S Q1 (by rw[QZ,<-hl];exact h4) (by rw[hk];exact⟨_,a,q⟩)
 .have hk:(k+(its.toArray.size:Int)).toNat=j:=by rw[Zg Q1 h3] at h1;rw[QZ,<-hl];exact Rj h1
  exact PySem.W.ki_setBack ho Q1 (by rw[QZ,<-hl];exact h3) Q1 (by rw[hk];exact⟨_,a,q⟩)
theorem pK(lo hi:Option Int)(n:Nat):(Ys lo hi none n).1=((HT.jV n 0 lo:Nat):Int)/\(Ys lo hi none n).2.1=((HT.jV n n hi:Nat):Int)/\(Ys lo hi none n).2.2=1:=by
 refine⟨?_,?_,rfl⟩
 .cases lo with
  |none=>simp[Ys,HT.jV]
  |some i=>
   simp only[Ys,HT.jV,V4,show (1:Int) > 0 by decide,if_true];by_cases h:i<0
   .simp only[h,if_true]<;>lia
   .simp only[h,if_false]<;>lia
 .cases hi with
  |none=>simp[Ys,HT.jV]
  |some i=>
   simp only[Ys,HT.jV,V4,show (1:Int) > 0 by decide,if_true];by_cases h:i<0
   .simp only[h,if_true]<;>lia
   .simp only[h,if_false]<;>lia
theorem nI(its:List Value)(lo hi:Option Int):slicePick its.toArray lo hi none=((its.drop (HT.jV its.length 0 lo)).take (HT.jV its.length its.length hi-HT.jV its.length 0 lo)).toArray:=by obtain⟨h1,h2,h3⟩:=pK lo hi its.toArray.size;unfold slicePick;rw[h1,h2,h3];simp only[sliceRange_one,pick_run,QZ]<;>rfl
def Pm(K:QN):V->Option Int->Option Int->Hp->VK->Prop:=λx lo hi H Q=>∃a xs,x=.ref a/\dj K H a xs/\∀p,H p=none->Q (.ref p) (upd H p (.lst (wW xs lo hi)))
theorem EA:fE X (Pm X.K):=by intro pins s Y H x v vl p lo hi sl Q I i hs pl P h;obtain⟨a,xs,rfl,hx,q⟩:=h;cases i;obtain⟨its,r,l,hz⟩:=I.list hx;have u:=r.length;refine⟨"list",_,slot_list_getitem.lookup,l.isList.typeIs,?_⟩;refine wpAny_getItem_list_slice l.isList hs pl P .none Z4 ?_ (by rw[QZ]<;>lia);rw[nI,<-u];refine⟨.ref s.heap.objs.size,_,I.laid (t':=s.toks) (o:=.lst (wW xs lo hi)) (λb ob q=>Q3 _ q) (QY _) ?_,rfl,q _ (I.hok.fresh (QY _))⟩;exact⟨RE (sf xs lo hi) hz,_,0,(r.drop (HT.jV xs.length 0 lo)).take (HT.jV xs.length xs.length hi-HT.jV xs.length 0 lo),Rf _ rfl⟩
noncomputable def gQ:V->Bool
 | .non=>true
 | .bl _=>true
 | .int _=>true
 | .str _=>true
 |_=>false
noncomputable def Gi:V->V->Bool
 | .non,.non=>true
 | .bl a,.bl b=>a==b
 | .bl a,.int b=>(if a then 1 else 0)==b
 | .int a,.bl b=>a==(if b then 1 else 0)
 | .int a,.int b=>a==b
 | .str a,.str b=>a==b
 |_,_=>false
theorem cP{A:XZ}{y x:V}{v:Value}(z:RelV y u)(o:RelV x v)(H:gQ y=true)(fx:gQ x=true):Ua A s u v (Gi y x):=by
 cases y with
 |non=>
  cases z;cases x with
  |non=>cases o;exact Ua.same _
  |bl b=>cases o;exact Ua.none_bool b
  |int b=>obtain⟨t,rfl⟩:=o;exact Ua.none_int b t
  |str b=>obtain⟨t,rfl⟩:=o;exact Ua.none_str b t
  |_=>exact absurd (show false=true from fx) Ry
 |bl a=>
  cases z;cases x with
  |non=>cases o;exact Ua.bool_none a
  |bl b=>cases o;exact Ua.bool_bool a b
  |int b=>obtain⟨t,rfl⟩:=o;exact Ua.bool_int a b t
  |str b=>obtain⟨t,rfl⟩:=o;exact Ua.bool_str a b t
  |_=>exact absurd (show false=true from fx) Ry
 |int a=>
  obtain⟨t',rfl⟩:=z;cases x with
  |non=>cases o;exact Ua.int_none a t'
  |bl b=>cases o;exact Ua.int_bool a t' b
  |int b=>obtain⟨t,rfl⟩:=o;exact Ua.int_int a t' b t
  |str b=>obtain⟨t,rfl⟩:=o;exact Vm a t' b t
  |_=>exact absurd (show false=true from fx) Ry
 |str a=>
  obtain⟨t',rfl⟩:=z;cases x with
  |non=>cases o;exact Ua.str_none a t'
  |bl b=>cases o;exact Ua.str_bool a t' b
  |int b=>obtain⟨t,rfl⟩:=o;exact Vn a t' b t
  |str b=>obtain⟨t,rfl⟩:=o;exact Ua.str_str a t' b t
  |_=>exact absurd (show false=true from fx) Ry
 |_=>exact absurd (show false=true from H) Ry
def uz(x:V)(u:Value):Bool:=match u with
 | .none=>Gi .non x
 | .bool b=>Gi (.bl b) x
 | .int i _=>Gi (.int i) x
 | .str z _=>Gi (.str z) x
 |_=>false
theorem zS{x y:V}(r:RelV y u)(f:gQ y=true):uz x u=Gi y x:=by
 cases y with
 |non=>cases r;rfl
 |bl b=>cases r;rfl
 |int i=>obtain⟨t,rfl⟩:=r;rfl
 |str z=>obtain⟨t,rfl⟩:=r;rfl
 |_=>exact absurd (show false=true from f) Ry
theorem jQ{x:V}:∀{xs:List V}{us:List Value},Vals xs us->xs.all gQ=true->us.any (uz x)=xs.any λy=>Gi y x
 |_,_,.nil,_=>rfl
 |y::xs,u::us,.cons r t,f=>by rw[Rh,QM] at f;rw[WL,WL,zS r f.1,jQ t f.2]
theorem hU{A:XZ}{s:Shared}{x:V}{v:Value}(o:RelV x v)(fx:gQ x=true):∀{xs:List V}{us:List Value},Vals xs us->xs.all gQ=true->∀u∈us,Ua A s u v (uz x u)
 |_,_,.nil,_=>λu g=>by cases g
 |y::xs,u::us,.cons r t,f=>λH g=>by
  rw[Rh,QM] at f;rcases QV.mp g with rfl|g
  .rw[zS r f.1];exact cP r o f.1 fx
  .exact hU o fx t f.2 H g
def Ft(x:V)(xs:List V):Bool:=xs.any λy=>Gi y x
def MC(K:QN)(neg:Bool):R2:=λx y H Q=>∃p xs,y=.ref p/\(dj K H p xs\/gP K H p xs)/\gQ x=true/\xs.all gQ=true/\Q (.bl (if neg then !Ft x xs else Ft x xs)) H
theorem kC:iP X (Yd .In) (MC X.K false):=by
 intro pins s Y H x y v u Q I o z h;obtain⟨p,xs,rfl,l,fx,fs,q⟩:=h;cases z;rcases l with l|l
 .obtain⟨its,r,pl,hz⟩:=I.list l;refine SeqAt.in_listAt (uz x) pl.isList (λw n=>hU o fx r fs w (by simpa using n)) ⟨.bl _,H,I,rfl,?_⟩;rw[show its.toArray.any (uz x)=its.any (uz x) by simp,jQ r fs];exact q
 .obtain⟨its,r,pl,hz⟩:=I.tuple l;refine SeqAt.in_tupleAt (uz x) pl (λw n=>hU o fx r fs w (by simpa using n)) ⟨.bl _,H,I,rfl,?_⟩;rw[show its.toArray.any (uz x)=its.any (uz x) by simp,jQ r fs];exact q
theorem jv:iP X (Yd .NotIn) (MC X.K true):=by
 intro pins s Y H x y v u Q I o z h;obtain⟨p,xs,rfl,l,fx,fs,q⟩:=h;cases z;rcases l with l|l
 .obtain⟨its,r,pl,hz⟩:=I.list l;refine SeqAt.notIn_listAt (uz x) pl.isList (λw n=>hU o fx r fs w (by simpa using n)) ⟨.bl _,H,I,rfl,?_⟩;rw[show its.toArray.any (uz x)=its.any (uz x) by simp,jQ r fs];exact q
 .obtain⟨its,r,pl,hz⟩:=I.tuple l;refine SeqAt.notIn_tupleAt (uz x) pl (λw n=>hU o fx r fs w (by simpa using n)) ⟨.bl _,H,I,rfl,?_⟩;rw[show its.toArray.any (uz x)=its.any (uz x) by simp,jQ r fs];exact q
theorem pI:cZ X (.builtin "len") (λxs H Q=>∃p ys,xs=[.ref p]/\(dj X.K H p ys\/gP X.K H p ys)/\Q (.int ys.length) H):=by
 intro pins s Y H xs us Q I r h;obtain⟨p,ys,rfl,l,q⟩:=h;obtain⟨u,rfl,o⟩:=vals1 r;cases o;have hn:=ky;rcases l with l|l
 .obtain⟨its,r',pl,hz⟩:=I.list l;have v:=r'.length;exact VP pl.isList (by simp only[QZ]<;>lia) ⟨.int ys.length,H,I.tok _,⟨s.toks+1,by rw[QZ,v]⟩,q⟩
 .obtain⟨its,r',pl,hz⟩:=I.tuple l;have v:=r'.length;exact len_tuple pl (by simp only[QZ]<;>lia) ⟨.int ys.length,H,I.tok _,⟨s.toks+1,by rw[QZ,v]⟩,q⟩
theorem pN:cZ X (.type "list") (λxs H Q=>∃p ys,xs=[.ref p]/\(dj X.K H p ys\/gP X.K H p ys)/\∀l,H l=none->Q (.ref l) (upd H l (.lst ys))):=by
 intro pins s Y H xs us Q I r h;obtain⟨p,ys,rfl,O,q⟩:=h;obtain⟨u,rfl,i⟩:=vals1 r;cases i;have fin:∀(its:List Value),Vals ys its->ys.length<=sizeLine->∀(h':Heap)(x:Nat),(∀b o',s.heap.get? b=some o'->h'.get? b=some o')->
   h'.get? s.heap.objs.size=some { cls:=.type "list",dict:=none,data:=.seq its.toArray x,slots:=#[] }->EP X pins Y Q (.ref s.heap.objs.size) { s with heap:=h' }:=λits r' hz h' x kp e=>
  ⟨.ref s.heap.objs.size,_,I.laid (t':=s.toks) kp (QY _) (show c9 X.prog X.w _ h' _ (.lst ys) from ⟨hz,its,x,r',e⟩),rfl,q _ (I.hok.fresh (QY _))⟩
 rcases O with O|O
 .obtain⟨its,r',pl,hz⟩:=I.list O;have v:=r'.length;obtain⟨o,ho,hc,n,hd⟩:=pl.isList;exact call_list_seq p (.inl rfl) ho hc hd (λh' x kp e=>fin its r' hz h' x kp e) (by simp only[QZ]<;>lia)
 .obtain⟨its,r',pl,hz⟩:=I.tuple O;have v:=r'.length;obtain⟨o,ho,hc,n,hd⟩:=pl;exact call_list_seq p (.inr rfl) ho hc hd (λh' x kp e=>fin its r' hz h' x kp e) (by simp only[QZ]<;>lia)
theorem nM:cZ X (.type "tuple") (λxs H Q=>∃p ys,xs=[.ref p]/\((dj X.K H p ys/\∀l,H l=none->Q (.ref l) (upd H l (.tup ys)))\/(gP X.K H p ys/\Q (.ref p) H))):=by
 intro pins s Y H xs us Q I r h;obtain⟨p,ys,rfl,h⟩:=h;obtain⟨u,rfl,i⟩:=vals1 r;cases i;rcases h with ⟨O,q⟩|⟨O,q⟩
 .obtain⟨its,r',pl,hz⟩:=I.list O;have v:=r'.length;refine call_tuple_list pl.isList (λh' kp=>?_) (by simp only[QZ]<;>lia);have L:Inv X pins Y H { s with heap:=h' }:=I.kept (t':=s.toks) kp;have k:Inv X pins Y (upd H h'.objs.size (.tup ys)) { s with heap:=h'.push { cls:=.type "tuple",data:=.seq its.toArray } }:=
   L.laid (t':=s.toks) (λb o e=>Q3 _ e) (QY _) (show c9 X.prog X.w _ _ _ (.tup ys) from ⟨hz,its,r',kE.new _ _⟩)
  exact⟨.ref h'.objs.size,_,k,rfl,q _ (L.hok.fresh (QY _))⟩
 .obtain⟨its,r',pl,hz⟩:=I.tuple O;exact call_tuple_same pl ⟨.ref p,H,I,rfl,q⟩
def PQ(K:QN)(T:String)(x:V)(H:Hp):Prop:=match x with
 | .str _=>T = "str"
 | .int _=>T = "int"
 | .ref p=>(T = "list" /\ ∃xs,dj K H p xs)\/(T = "tuple" /\ ∃o,K.lookup p=some o/\o.cls=.type "tuple" /\ o.dict=none) \/
   (T = "dict" /\ ((∃kvs,H p=some (.dK kvs))\/∃kvs,H p=some (.dT kvs)))\/(T = "set" /\ ∃S n,H p=some (.set S n))
 |_=>False
theorem Hq{T:String}{x:V}{v:Value}(I:Inv X pins Y H s)(r:RelV x v)(ty:PQ X.K T x H):
  s.TypeIs v T/\∀a,v=.ref a->∃ob,s.heap.get? a=some ob/\ob.dict=none:=by
 cases x with
 |str z=>obtain⟨t,rfl⟩:=r;cases (show T = "str" from ty);exact⟨typeIs_str s z t,λ_ e=>nomatch e⟩
 |int i=>obtain⟨t,rfl⟩:=r;cases (show T = "int" from ty);exact⟨Zu s i t,λ_ e=>nomatch e⟩
 |ref p=>
  cases r;rcases ty with ⟨rfl,xs,l⟩|⟨rfl,o,hk,hc,hd⟩|⟨rfl,hk⟩|⟨rfl,S,n,hk⟩
  .obtain⟨its,_,pl,_⟩:=I.list l;refine⟨pl.isList.typeIs,λa e=>?_⟩;cases e;obtain⟨o,n,e,c,hd,_⟩:=pl;exact⟨o,e,hd⟩
  .refine⟨⟨o,I.uh p o hk,hc⟩,λa e=>?_⟩;cases e;exact⟨o,I.uh _ o hk,hd⟩
  .have z:∃o,s.heap.get? p=some o/\o.ExactDict:=by
    rcases hk with ⟨kvs,hk⟩|⟨kvs,hk⟩
    .obtain⟨_,_,_,_,o,_,_,e,ex,_⟩:=I.hok p _ hk;exact⟨o,e,ex⟩
    .obtain⟨_,_,_,_,o,_,_,e,ex,_⟩:=I.hok p _ hk;exact⟨o,e,ex⟩
   obtain⟨o,e,ex⟩:=z;refine⟨⟨o,e,ex.1⟩,λa e2=>?_⟩;cases e2;exact⟨o,e,ex.2.1⟩
  .obtain⟨o,_,_,_,e,ex,_⟩:=I.hok p _ hk;refine⟨⟨o,e,ex.1⟩,λa e2=>?_⟩;cases e2;exact⟨o,e,ex.2.1⟩
 |_=>exact SA ty
noncomputable def Qt(K:QN)(T:String)(r:V->List V->Hp->VK->Prop)(X:TE)(t:TA):TE:=λY H Q=>X Y H λx L=>PQ K T x L/\t Y L λxs U=>r x xs U Q
variable{o e:Expr}{es:List Expr}{to:TE}{t:TA}{name:Str}{apos cpos:Pos}{T id:String}{r:V->List V->Hp->VK->Prop}
theorem oN(pa:PlainAttrs T)(slot:Slot T name id)(hty:typeOf (.builtin id)=pure (.type "method_descriptor"))(hm:Qw X id r)(ho:PE X o to)(ha:PA X (e::es) t)
  (hbase:XR o name X.env (eval o X.env)=eval o X.env:=by rfl)
  (hfew:((XW cpos (XM (e::es) X.env)).all (λx=>!x.1)&&(Yb cpos (X0 [] X.env)).all (λx=>x.1.isSome)
   && decide ((e::es).length+([]:List X8).length+(if ([]:List X8).isEmpty then 0 else 1)<30))=true:=by rfl)
  (hline:(apos.endLine==cpos.line)=true:=by rfl) (hs:XM (e::es) X.env=(false,eval e X.env)::XM es X.env:=by rfl) (hplain:(XW cpos (XM es X.env)).any (·.1)=false:=by rfl):
  PE X (.Call (.Attribute o name apos) (e::es) [] cpos) (Qt X.K T r to t):=by
 intro pins s Y H Q I h;refine wpAny_Call_method_late hbase hfew hline rfl (cE (ho pins s Y H _ I h) λv s1 ⟨x,H1,I1,r1,ty,q1⟩=>?_);obtain⟨h1,h2⟩:=Hq I1 r1 ty;refine⟨T,id,pa,slot,hty,h1,h2,?_⟩;have hA:=ha cpos pins s1 Y H1 _ I1 q1;rw[hs] at hA ⊢;refine Calls.callWith_builtin (by show (false || (XW cpos (XM es X.env)).any (·.1))=false;rw[hplain]<;>rfl) (Calls.evalArgs_plain ?_);exact cE hA λus s2 ⟨vs,H2,I2,r2,q2⟩=>hm pins s2 Y H2 x vs v us Q I2 r1 r2 q2
end
def Pn(X:Cx)(id:String)(r:V->List V->Hp->VK->Prop):Prop:=
 ∀(pins:List (Addr×Obj))(s:Shared)(Y:St)(H:Hp)(x:V)(xs:List V)(v:Value)(us:List Value)(Q:VK),Inv X pins Y H s->RelV x v->Vals xs us->r x xs H Q->
  XO (XU X.prog X.w) X.A (call (.builtin id) (v::us)) (EP X pins Y Q) X.xe s
theorem Vals.one:∀{x:V}{us:List Value},Vals [x] us->∃u,us=[u]/\RelV x u
 |_,_,.cons r .nil=>⟨_,rfl,r⟩
theorem Vals.two:∀{x y:V}{us:List Value},Vals [x,y] us->∃u v,us=[u,v]/\RelV x u/\RelV y v
 |_,_,_,.cons r (.cons q .nil)=>⟨_,_,rfl,r,q⟩
theorem Vals.eraseIdx:∀{xs:List V}{us:List Value}(i:Nat),Vals xs us->Vals (xs.eraseIdx i) (us.eraseIdx i)
 |_,_,_,.nil=>.nil
 |_,_,0,.cons _ t=>t
 |_,_,i+1,.cons r t=>.cons r (Vals.eraseIdx i t)
theorem Vals.rep{xs:List V}{us:List Value}(h:Vals xs us):∀k:Nat,Vals (QX k xs).flatten (QX k us).flatten
 |0=>.nil
 |k+1=>by rw[RY,RY,Sw,Sw];exact Vals.append h (Vals.rep h k)
theorem oW{α:Type}:∀(l:List α)(i:Nat),(l.eraseIdx i).length<=l.length
 |[],_=>QY _
 |_::_,0=>Ux _
 |_::r,i+1=>Ub (oW r i)
theorem foldl_rep(its:List Value):∀(k:Nat)(acc:List Value),
  UG (λr s=>r++s) acc.toArray (QX k its.toArray)=(acc++(QX k its).flatten).toArray
 |0,acc=>by simp
 |k+1,acc=>by
  have e:acc.toArray++its.toArray=(acc++its).toArray:=by simp
  have e2:(acc++its)++(QX k its).flatten=acc++(QX (k+1) its).flatten:=by rw[RY,Sw,QQ]
  rw[<-e2,<-foldl_rep its k (acc++its),<-e,RY,List.foldl_cons]
variable{t':Nat}
section
variable{X:Cx}{pins:List (Addr×Obj)}{Y:St}{H:Hp}{s:Shared}{l b:Addr}{xs ys zs:List V}
theorem Inv.Li{n:Nat}{f:Array Value->Array Value}(I:Inv X pins Y H s)(h:H l=some (.lst xs))
  (e:s.heap.get? l=some { cls:=.type "list",data:=.seq its.toArray n })(hf:f its.toArray=its'.toArray)(c:Vals ys its')(hz:ys.length<=sizeLine):
  Inv X pins Y (upd H l (.lst ys)) { s with heap:=s.heap.update l (UK f),toks:=t' }:=by
 have q:=PySem.IsL.update e f;rw[hf] at q;refine I.write (x:=l) (e:=l) (by rw[h];exact trivial) (.inl rfl) (λr u d g=>(Vy s.heap (UK f) (RP d)).trans g) ⟨_,q⟩ ?_;exact⟨hz,its',_,c,q⟩
theorem Inv.IB(I:Inv X pins Y H s)(c:Vals ys its)(hz:ys.length<=sizeLine):
  Inv X pins Y (upd H s.heap.objs.size (.lst ys)) { s with heap:=s.heap.push { cls:=.type "list",data:=.seq its.toArray },toks:=t' }:=
 I.laid (λ_ _ q=>Q3 _ q) (QY _) ⟨hz,its,0,c,Rf _ rfl⟩
theorem Inv.fresh(I:Inv X pins Y H s):H s.heap.objs.size=none:=I.hok.fresh (QY _)
theorem Inv.CA(I:Inv X pins Y H s)(h:H l=some (.lst xs)):xs.length<=sizeLine/\∃(its:List Value)(n:Nat),Vals xs its/\xs.length=its.length/\s.heap.get? l=some { cls:=.type "list",data:=.seq its.toArray n }:=by obtain⟨z,its,n,r,e⟩:=I.hok l _ h;exact⟨z,its,n,r,r.length,e⟩
theorem Az{n:Nat}(h:n<=sizeLine):Tx n=false:=by unfold Tx;exact Zz Q1
end
section
variable{X:Cx}
def EK:V->List V->Hp->VK->Prop:=λx vs H Q=>∃l xs y,x=.ref l/\vs=[y]/\H l=some (.lst xs)/\xs.length<sizeLine/\Q .non (upd H l (.lst (xs++[y])))
theorem kn:Pn X "list.append" EK:=by intro pins s Y H x vs v us Q I o Z h;obtain⟨l,xs,y,rfl,rfl,K,hz,q⟩:=h;cases o;obtain⟨u,rfl,t⟩:=Z.one;obtain⟨z,its,n,r,hl,e⟩:=I.CA K;refine YY F.slot_list_append ⟨_,e,rfl⟩ F.entry_list_append (F.args_list_append_2 _ _) (PySem.list_append l its.toArray n u (by rw[QZ];lia)) ⟨e,?_⟩;refine⟨.non,_,I.Li (its':=its++[u]) K e Z4 (r.append (.cons t .nil)) ?_,rfl,q⟩;rw[Rc,Tp];lia
def HJ:V->List V->Hp->VK->Prop:=λx vs H Q=>∃l xs i k y,x=.ref l/\vs=[.int i]/\H l=some (.lst xs) /\ -(2^63)<=i/\i<2^63/\YN i xs.length=some k/\xs[k]?=some y/\Q y (upd H l (.lst (xs.eraseIdx k)))
theorem yL:Pn X "list.pop" HJ:=by
 intro pins s Y H x vs v us Q I o Z h;obtain⟨l,xs,i,k,y,rfl,rfl,K,h1,h2,hk,hy,q⟩:=h;cases o;obtain⟨u,rfl,D⟩:=Z.one;obtain⟨t,rfl⟩:=D;obtain⟨z,its,n,r,hl,e⟩:=I.CA K;obtain⟨w,c,E⟩:=r.get hy;refine YY F.slot_list_pop ⟨_,e,rfl⟩ F.entry_list_pop (F.args_list_pop_2 _ _)
  (MeetsSeq.list_pop_at l its.toArray n i t k w (fitsIndex_both h1 h2) (by rw[QZ,<-hl];exact hk) (by rw[<-Vz];exact c) (by rw[QZ];lia)) ⟨e,?_⟩
 refine⟨y,_,I.Li (its':=its.eraseIdx k) K e ?_ (r.eraseIdx k) ?_,E,q⟩
 .show its.toArray.eraseIdxIfInBounds k=(its.eraseIdx k).toArray;rw[List.eraseIdxIfInBounds_toArray]
 .have:=oW xs k;lia
def OM:R2:=λx y H Q=>∃l b xs I,x=.ref l/\y=.ref b/\H l=some (.lst xs)/\H b=some (.lst I)/\xs.length+I.length<=sizeLine/\∀p,H p=none->Q (.ref p) (upd H p (.lst (xs++I)))
theorem kc:iP X (Yn .Add) OM:=by
 intro pins s Y H x y v u Q I o T h;obtain⟨l,b,xs,m,rfl,rfl,K,G,hz,q⟩:=h;cases o;cases T;obtain⟨z,its,n,r,hl,e⟩:=I.CA K;obtain⟨t,w,A,p,N,e2⟩:=I.CA G;refine PySem.P.add_list e e2 ?_ (by rw[QZ,QZ];lia);have E:its.toArray++w.toArray=(its++w).toArray:=by simp
 rw[E];exact⟨.ref _,_,I.IB (t':=s.toks) (r.append p) (by rw[Rc];lia),rfl,q _ I.fresh⟩
theorem len_rep(xs:List α)(k:Nat):(QX k xs).flatten.length=k*xs.length:=by
 induction k with
 |zero=>simp
 |succ k m=>rw[RY,Sw,Rc,m,Xa,Nat.add_comm]
end
section
variable{prog:Program}{w:XX}{A:XZ}{E:Value->Shared->Prop}{s:Shared}
set_option maxRecDepth 100000 in
end
section
variable{P:Program}{w:XX}{H:Hp}{h:Heap}{a:Addr}
theorem Nq{u:HO}(ok:kN P w H h)(e:Rd H a u):c9 P w H h a u:=e.ok ok
theorem u5{kvs:List (Key×V)}(ok:kN P w H h)(e:Rd H a (.dK kvs)):kvs.length<=sizeLine/\(a==Y9)=false/\∃vs,KV kvs vs/\h.DictOf (iI P w) a vs:=
 show c9 P w H h a (.dK kvs) from Nq ok e
end
structure M1(X:Cx)(o:Expr)(m:Str)(apos:Pos)(e:Expr)(cpos:Pos):Prop where
 base:XR o m X.env (eval o X.env)=eval o X.env
 few:((XW cpos (XM [e] X.env)).all (λx=>!x.1)&&(Yb cpos (X0 [] X.env)).all (λx=>x.1.isSome)
  && decide (([e]:List Expr).length+([]:List X8).length+(if ([]:List X8).isEmpty then 0 else 1)<30))=true
 line:(apos.endLine==cpos.line)=true
 trees:XW cpos (XM [e] X.env)=[(false,eval e X.env)]
end L2
namespace Att
open PySem PySem.W PySem.Calls PyProof.Rows
variable{h:Heap}
theorem kX{P:Params}:∀(ns:List Int)(vs:List Value),WellAll P h vs (ns.map Xf)->Zn vs ns:=by
 intro ns;induction ns with
 |nil=>intro vs w;rw[Ta] at w;cases w;exact .nil
 |cons n ns m=>
  intro vs w;rw[RC] at w;cases w with
  |cons a b=>cases a;exact .cons _ _ (m _ b)
theorem wD{l:OpenLaw}{n:Nat}(hn:l.most=some n){P:Params}{args:List WData}{s:List Value}
  (H:l.row.toRowW.claim.pre args=true)(Q:WellAll P h s args):
  ∃a vs ns,s=[R9 a]/\args=[WData.list (ns.map Xf)]/\h.get? a=some { cls:=.type "list",data:=.seq vs.toArray }/\Zn vs ns/\ns.length<=n:=by
 have Y:WShape.hasAll [] args [.list .int]=true:=(pre_splitW H).1;have hc:l.pre.holds [] { args:=args }=true:=(pre_splitW H).2;obtain⟨d,r,rfl,h1,h2⟩:=hasAllW_cons Y;obtain rfl:=hasAllW_nil h2;obtain⟨xs,rfl,h3⟩:=hasW_list h1;obtain⟨ns,rfl⟩:=items_int h3;have v:ns.length<=n:=by
  unfold OpenLaw.pre at hc;have h4:(WTm.not (.lt (.lit (.int (n:Int))) (.len (.arg 0)))).holds [] { args:=[.list (ns.map .int)] }=true:=by have h4:=(holds_andW hc).1;rw[hn] at h4;exact h4
  have h5:=condW_of h4 (w_not (w_lt w_lit (w_len_list (w_arg rfl))));rw[QU] at h5;refine Nat.le_of_not_lt λq=>?_;have t:(n:Int)<((ns.length:Nat):Int):=by lia
  first
   |(rw[ZA t] at h5;exact absurd h5 Z2)
   |(simp at h5;lia)
 cases Q with
 |cons T u=>
  cases u;cases T with
  |list ho I=>exact⟨_,_,ns,rfl,rfl,ho,kX ns _ I,v⟩
theorem xO(l:OpenLaw)(args:List WData):l.row.toRowW.claim.post args (.bool true) args=true:=
 postW_of (r:=l.row.toRowW) (X:=(true==true))
  (show WZ [] (.bool true) .bool=true by first|rfl|decide|simp[WZ,WShape.arms,WShape.armsAll])
  (show (WTm.eq .res (.lit (.bool true))).value [] { args:=args,res:=some (.bool true),after:=args }=some (.bool (true==true)) from w_eq_bool (w_res rfl) w_lit) rfl
theorem rL{l:OpenLaw}{n:Nat}{q:Program}{loose:List Str}{XP:(Str->Option Value)->Heap->Prop}{YP:XX->Heap->Prop}{d:DefRec}
  (hn:l.most=some n)(Q:d.params.defaults=[])
  (call:∀(w:XX)(s₀ Z:Shared)(mg mb:Str->Option Value)(x:Addr)(o:Obj)(pm cd doc:Value)(a:Addr)(vs:List Value)(ns:List Int),
   Ground q loose [] XP w s₀ mg mb Z.heap->YP w Z.heap->
   Z.heap.get? x=some o->o.data=.func (docDef d.name d.params d.body d.scope pm cd doc)->Z.heap.CodeRec cd d.name->mg d.name=some (.ref x)->
   Z.heap.get? a=some { cls:=.type "list",data:=.seq vs.toArray }->Zn vs ns->ns.length<=n->Z.gens=#[]->
   YG (XU l.prog w) YZ (.call (.ref x) ⟨[.ref a],[]⟩) (λr s'=>r=.ok (.ret (.bool true))/\OldK Z.heap s'.heap/\s'.os=Z.os/\YE s'.gens) Z):
  WalkO q loose XP YP l.row.toRowW d [] (λf vs=>VX f vs):=by
 intro w s₀ Z mg mb G Y x o pm cd doc dV kV ho hd B u X J args y as H C D h F;obtain rfl:dV=.none:=Dflts.none u Q;obtain rfl:kV=.none:=Dflts.noKw u;obtain⟨a,vs,ns,rfl,rfl,I,s,v⟩:=wD hn H h;refine enter_call (YW (call w s₀ Z mg mb x o pm cd doc a vs ns G Y ho (fd_plain hd) B X I s v J) λr s' O=>?_);obtain⟨rfl,h2,h3,h4⟩:=O;exact⟨.inl ⟨.bool true,.bool true,[],rfl,λ_=>rfl,.bool true,xO l _,λ_=>⟨Xb,λ_ hm=>(nomatch hm)⟩⟩,h2,h3,h4⟩
end Att
namespace L2
open PySem PySem.Spec PyProof.Rows
theorem oC:∀{vs:List Value}{ns:List Int},Zn vs ns->Vals (ns.map V.int) vs
 |_,_,.nil=>.nil
 |_,_,.cons n t h=>.cons ⟨t,rfl⟩ (oC h)
def Hu(H:Hp):Prop:=∀b,H b=none\/∃o xs,H b=some (.frz o (.lst xs))
theorem Bj{P:Program}{w:XX}{K:QN}{mg mb:Str->Option Value}{CX:qG}{k:Nat}{A a:Addr}{fd:X1}{x:Str}{sp:Sp}{Z:Shared}{vs:List Value}{ns:List Int}
  (T:K.In Z.heap)(N:Z.heap.Ns XY mg)(E:Z.heap.Ns YR mb)(B:∀x:Str,x ≠ "__name__" -> mb x=XQ x)(Q:Z.heap.NoLimit)(j:Z.gens=#[])
  (f:Z.heap.get? a=some { cls:=.type "list",data:=.seq vs.toArray })(hi:Zn vs ns)(hl:ns.length<=sizeLine)(U:cW k YZ)
  (F:∀base:Heap,K.In base->base.Ns XY mg->dF P w K mg base CX k A fd [x] sp)(I:∀(s:Shared)(u:Value),YV s fd ⟨[u],[]⟩ [(x,u)])
  (C:∀H:Hp,Hu H->dj K H a (ns.map V.int)->sp [.ref a] H (λv _=>v=.bl true) λ_ _ _=>False)
  (D:∀H e s',CX [] H Z (λ_ _ _=>False) e s'->False):
  YG (XU P w) YZ (.call (.ref A) ⟨[.ref a],[]⟩) (λr s'=>r=.ok (.ret (.bool true))/\OldK Z.heap s'.heap/\s'.os=Z.os/\YE s'.gens) Z:=by
 have t:=oC hi;have S:=hi.length;have G:∀H:Hp,Hu H->dj K H a (ns.map V.int)->kN P w H Z.heap->(∀b,H b≠none->b=a)->(H a≠none->K.lookup a=none)->
   YG (XU P w) YZ (.call (.ref A) ⟨[.ref a],[]⟩) (λr s'=>r=.ok (.ret (.bool true))/\OldK Z.heap s'.heap/\s'.os=Z.os/\YE s'.gens) Z:=by
  intro H O g hok c l;have bj:∀{b:Addr}{o:Obj},Z.heap.get? b=some o->H b=none->(pS Z.heap H).get? b=some o:=λe n=>yA e n;have J:∀{b:Addr}{o:Obj}{es:Array DictEntry}{i:Nat},Z.heap.get? b=some o->o.data=.dict es i->H b=none:=λ{b o es i} e d=>by
   cases q:H b with
   |none=>rfl
   |some u=>have R:b=a:=c b (by rw[q];simp);subst R;rw[f] at e;cases e;have d':Data.seq vs.toArray _=Data.dict es i:=d;cases d'
  have Y:∀{b:Addr}{m:Str->Option Value},Z.heap.Ns b m->(pS Z.heap H).Ns b m:=λ{b m} ⟨o,es,i,e,d,r⟩=>⟨o,es,i,bj e (J e d),d,r⟩
  have X:K.In (pS Z.heap H):=λb o e=>bj (T b o e) (by
   cases q:H b with
   |none=>rfl
   | some u=>have R:b=a:=c b (by rw[q];simp);subst R;rw[l (by rw[q];simp)] at e;cases e)
  have L:Mod K mg (pS Z.heap H):=⟨X,Y N,⟨mb,Y E,B⟩,let ⟨mc,h1,h2⟩:=Q;⟨mc,Y h1,h2⟩⟩
  have e0:t9 P w K mg (pS Z.heap H) YZ [] Z H:=⟨rfl,L,λb o e=>Ek e,Uk (xq _ _),trivial,λb E=>absurd (show b∈([]:List Addr) from E) Z4,hok,.of_eq j⟩
  refine YW ((F _ X (Y N)).run YZ [] Z H ⟨[.ref a],[]⟩ [.ref a] [.ref a] _ _ U e0 (I Z (.ref a)) (.cons rfl .nil) (C H O g)) λr s' h=>?_;cases r with
  |error e=>exact(D H e s' h).elim
  |ok fl=>
   cases fl with
   |next=>exact SA h
   |brk=>exact SA h
   |cont=>exact SA h
   |ret u=>
    obtain⟨v,H',os,bare,un,p,r',q⟩:=h;have q':v=.bl true:=q;subst q';obtain rfl:u=VV true:=r';refine⟨rfl,OldK.of_keep λb o e=>?_,os,bare⟩;cases q:H b with
    |none=>exact un.keep b o e q (by intro z;exact absurd (show b∈([]:List Addr) from z) Z4) Z4
    |some u=>
     rcases O b with z|⟨ob,xs,z⟩
     .rw[q] at z;cases z
     .have z2:=un.frzs b ob _ z;obtain⟨e1,_⟩:=hok b _ z;obtain⟨e2,_⟩:=p b _ z2;rw[e] at e1;cases e1;exact e2
 cases hk:K.lookup a with
 |some o=>have e:=T a o hk;rw[f] at e;cases e;refine G (λ_=>none) (λ_=>.inl rfl) (.inr ⟨_,vs.toArray,_,hk,rfl,rfl,rfl,by rw[QZ,S];exact hl,by simpa using t⟩) (λb u z=>by have y:(none:Option HO)=some u:=z;cases y) (λb z=>absurd rfl z) λz=>absurd rfl z
 |none=>
  refine G (λb=>if b=a then some (.frz { cls:=.type "list",data:=.seq vs.toArray } (.lst (ns.map V.int))) else none) (λb=>?_) (.inl (.inr ⟨{ cls:=.type "list",data:=.seq vs.toArray },Zx rfl⟩)) (λb u z=>?_) (λb z=>?_) λ_=>hk
  .by_cases E:b=a
   .exact .inr ⟨_,_,Zx E⟩
   .exact .inl (Zy E)
  .by_cases E:b=a
   .have y:=(Zx E).symm.trans z;cases y;subst E;exact⟨f,by rw[QU];exact hl,vs,_,t,f⟩
   .have y:=(Zy E).symm.trans z;cases y
  .by_cases E:b=a
   .exact E
   .exact absurd (Zy E) z
noncomputable def eu(s:Stmt):Arguments:=match s with
 | .FunctionDef _ a _ _ _ _ _ _ _ _=>a
 |_=>{ posonlyargs:=[],args:=[],vararg:=none,kwonlyargs:=[],kw_defaults:=[],kwarg:=none,defaults:=[] }
noncomputable def fG(s:Stmt):List Stmt:=match s with
 | .FunctionDef _ _ b _ _ _ _ _ _ _=>b
 |_=>[]
noncomputable def bx(s:Stmt):Scope:=match s with
 | .FunctionDef _ _ _ _ _ _ sc _ _ _=>sc
 |_=>{ kind:=.function,names:=[],isGenerator:=false,isCoroutine:=false }
noncomputable abbrev E0:XK:=λ_ _ _=>False
section
variable{X:Cx}
theorem pv(i:Nat){x:Str}{pos:Pos}(hN:X.N[i]?=some x:=by rfl)(hv:ku X.env.scope x:=by first|exact Or.inl rfl|exact W0 (Or.inl rfl)|exact W0 (W0 rfl))(hd:fC x:=by decide)
  (hcd:lA x:=by decide):PE X (.Name x pos) (lT i):=bS hN hv hd hcd
end
def Oh(H H':Hp):Prop:=∀b o,H b=some o->H' b=some o
end L2
set_option maxHeartbeats 4000000
namespace L2
open PySem PySem.Spec PyProof.Rows PySem.W
open PySem.Builtin.ObjectAttr (find dataDescriptor? getOf)
open PySem.Builtin.Getset_descriptor (descrGet descrGetter descrCheckInstance descrNameAndClass)
section
variable{prog:Program}{w:XX}{A:XZ}{E:Value->Shared->Prop}{h:Heap}{g:Array GenState}{d:Drawn}{t:Nat}{os:OsState}{K:Frag}{x C:Addr}
structure Ly(K:Frag)(C:Addr):Prop where
 ga:findIn K (.ref C) "__getattribute__" = some (some (.builtin "BaseException.__getattribute__"))
 gt:findIn K (.ref C) "__getattr__" = some none
 cl:findIn K (.ref C) "__class__" = some (some (.builtin "object.__class__"))
 gg:specialIn K (.builtin "object.__class__") "__get__" = some (some (.builtin "getset_descriptor.__get__"))
 tk:takesIn K (.builtin "object.__class__")=some true
 ob:mroIn K C (.type "object")=some true
 be:mroIn K C (.type "BaseException")=some true
def ExcAt(a C:Addr)(h:Heap):Prop:=∃q,h.get? a=some q/\q.cls=.ref C
theorem ExcAt.type{M:Model}(I:ExcAt x C h):Looks M h (typeOf (.ref x)) (.ref C):=by obtain⟨q,e1,e2⟩:=I;exact e2▸(Looks.ld e1).andThen .now
end
variable{C:Addr}
theorem Ly.there{K:Frag}(T:Ly K C):∃oc od cd sl,K.lookup C=some ⟨oc,od,.cls cd,sl⟩:=by
 have q:=T.ob;unfold mroIn clsIn at q;split at q
 .rename_i a b c e f;exact⟨a,b,c,e,f⟩
 .cases q
open PySem PySem.Spec PyProof.Rows
abbrev XS:=Value->St->Hp->Prop
abbrev TX:=Ends->XS->St->Hp->Prop
section
variable{X:Cx}
variable{k:Nat}{f C:Addr}{fd:X1}{ps:List Str}{sp:Sp}{dvs:List V}{ds:List Value}{x m:Str}{p pos apos:Pos}{e o:Expr}{es:List Expr}{ta:TE}{t:TA}
noncomputable def Ow(a C:Addr):HO:=.ext (ExcAt a C)
end
def Bd(n:Nat)(x:Int):Prop:=x.natAbs<2^n
theorem Bd.mono{m n:Nat}{x:Int}(h:Bd m x)(k:m<=n):Bd n x:=Q8 h (SS Z2 k)
theorem Bd.bits{n:Nat}{x:Int}(h:Bd n x):Vb x<=n:=by
 delta Vb
 split
 .exact SR _
 .rename_i z
  have S:x.natAbs≠0:=λq=>z (by simp[Int.natAbs_eq_zero.mp q])
  exact(VY S).mpr h
theorem Bd.LY{m n:Nat}{x y:Int}(h:Bd m x)(k:Bd n y)(hs:m+n<=134217728):Zv x y:=Zv.of_le h.bits k.bits hs
theorem Bd.mul{m n:Nat}{x y:Int}(h:Bd m x)(k:Bd n y):Bd (m+n) (x*y):=by
 delta Bd at *
 rw[R3,VZ]
 exact Nat.mul_lt_mul'' h k
theorem Bd.add{m n:Nat}{x y:Int}(h:Bd m x)(k:Bd n y):Bd (max m n+1) (x+y):=by have h1:=h.mono (WD m n);have r:=k.mono (Ww m n);unfold Bd at *;lia
theorem Bd.neg{n:Nat}{x:Int}(h:Bd n x):Bd n (-x):=by delta Bd at *;rwa[WM]
theorem Bd.log{n:Nat}{x:Int}(h:Bd n x)(hn:n<=9000):x.natAbs.log2<9000:=by
 by_cases z:x.natAbs=0
 .rw[z];decide
 .exact Q8 ((VY z).mpr h) hn
section
variable{X:Cx}
def PY(_ j:Int):Prop:=j≠0/\Bd 9000 j
theorem Ew:iP X (Yn .Mult) (rI Zv λi j=>.int (i*j)):=nU λ_ _ _ _ _ _ _ hc q=>mul_int q hc
theorem zx:iP X (Yn .FloorDiv) (rI PY λi j=>.int (i.fdiv j)):=nU λ_ _ _ _ _ _ _ hc q=>floordiv_int hc.1 q (.inl (PyProof.noPylong_of_log2 (hc.2.log (QY _))))
end
inductive D where
 |non|bl(b:Bool)|int(i:Int)|str(x:Str)|tup(ds:List D)|lst(ds:List D)
mutual
noncomputable def D.eq:D->D->Bool
 | .non,.non=>true
 | .bl a,.bl b=>a==b
 | .bl a,.int b=>(if a then 1 else 0)==b
 | .int a,.bl b=>a==(if b then 1 else 0)
 | .int a,.int b=>a==b
 | .str a,.str b=>a==b
 | .tup xs,.tup ys=>D.eqs xs ys
 | .lst xs,.lst ys=>D.eqs xs ys
 |_,_=>false
noncomputable def D.eqs:List D->List D->Bool
 |[],[]=>true
 |x::xs,y::ys=>D.eq x y&&D.eqs xs ys
 |_,_=>false
end
mutual
noncomputable def D.depth:D->Nat
 | .tup xs=>D.gm xs+1
 | .lst xs=>D.gm xs+1
 |_=>0
noncomputable def D.gm:List D->Nat
 |[]=>0
 |x::xs=>max (D.depth x) (D.gm xs)
end
mutual
theorem D.ly:∀d:D,D.eq d d=true
 | .non=>rfl
 | .bl b=>beq_self_eq_true b
 | .int i=>beq_self_eq_true i
 | .str x=>beq_self_eq_true x
 | .tup xs=>D.mL xs
 | .lst xs=>D.mL xs
theorem D.mL:∀ds:List D,D.eqs ds ds=true
 |[]=>rfl
 |x::xs=>by show (D.eq x x&&D.eqs xs xs)=true;rw[D.ly x,D.mL xs];rfl
end
mutual
inductive Den(K:QN)(H:Hp):V->D->Prop
 |non:Den K H .non .non
 |bl(b:Bool):Den K H (.bl b) (.bl b)
 |int(i:Int):Den K H (.int i) (.int i)
 |str(x:Str):Den K H (.str x) (.str x)
 |tup{a:Addr}{xs:List V}{ds:List D}(e:gP K H a xs)(r:gf K H xs ds):Den K H (.ref a) (.tup ds)
 |lst{a:Addr}{xs:List V}{ds:List D}(e:dj K H a xs)(r:gf K H xs ds):Den K H (.ref a) (.lst ds)
inductive gf(K:QN)(H:Hp):List V->List D->Prop
 |nil:gf K H [] []
 |cons{x:V}{d:D}{xs:List V}{ds:List D}(h:Den K H x d)(r:gf K H xs ds):gf K H (x::xs) (d::ds)
end
theorem gf.len{K:QN}{H:Hp}:∀{xs:List V}{ds:List D},gf K H xs ds->xs.length=ds.length
 |_,_,.nil=>rfl
 |_,_,.cons _ r=>by rw[Q4,Q4,r.len]
theorem gf.at{K:QN}{H:Hp}:∀{xs:List V}{ds:List D}(j:Nat){x:V}{d:D},gf K H xs ds->xs[j]?=some x->ds[j]?=some d->Den K H x d
 |_,_,0,_,_,.cons h _,e1,e2=>by cases e1;cases e2;exact h
 |_,_,j+1,_,_,.cons _ r,e1,e2=>r.at j e1 e2
theorem D.og:∀{ds:List D}(j:Nat){d:D},ds[j]?=some d->D.depth d<=D.gm ds
 |x::xs,0,_,e=>by cases e;exact WD _ _
 |x::xs,j+1,_,e=>RE (D.og j e) (Ww _ _)
theorem D.gw:∀(xs ys:List D),D.eqs xs ys=((Rb (min xs.length ys.length)).all (λj=>D.eq (xs.getD j .non) (ys.getD j .non))&&xs.length==ys.length)
 |[],[]=>rfl
 |[],_::_=>rfl
 |_::_,[]=>rfl
 |x::xs,y::ys=>by
  rw[show D.eqs (x::xs) (y::ys)=(D.eq x y&&D.eqs xs ys) from rfl,D.gw xs ys,Q4,Q4,Nat.succ_min_succ,Ue,Rh,US];have e:(xs.length+1==ys.length+1)=(xs.length==ys.length):=by rw[Wx];simp
  rw[e,Bool.and_assoc];rfl
variable{xs ys:List V}{u:Value}{us:List Value}
section
variable{X:Cx}{pins:List (Addr×Obj)}{Y:St}{H:Hp}{s:Shared}
theorem vt{a:Addr}(I:Inv X pins Y H s)(h1:gP X.K H a xs)(h2:dj X.K H a ys):False:=by obtain⟨_,_,⟨o,e,c,_⟩,_⟩:=I.tuple h1;obtain⟨_,_,⟨o',p,k,x,_,d'⟩,_⟩:=I.list h2;rw[e] at k;cases k;rw[c] at x;injection x with q;exact absurd q Z2
mutual
theorem Den.inj(I:Inv X pins Y H s):∀{v:V}{d e:D},Den X.K H v d->Den X.K H v e->d=e
 |_,_,_,.non,h=>by cases h;rfl
 |_,_,_,.bl b,h=>by cases h;rfl
 |_,_,_,.int i,h=>by cases h;rfl
 |_,_,_,.str x,h=>by cases h;rfl
 |_,_,_,.tup e r,h=>by
  cases h with
  |tup k r'=>cases I.kG e k;rw[gf.inj I r r']
  |lst k r'=>exact(vt I e k).elim
 |_,_,_,.lst e r,h=>by
  cases h with
  |lst k r'=>cases I.gi e k;rw[gf.inj I r r']
  |tup k r'=>exact(vt I k e).elim
theorem gf.inj(I:Inv X pins Y H s):∀{v:List V}{d e:List D},gf X.K H v d->gf X.K H v e->d=e
 |_,_,_,.nil,h=>by cases h;rfl
 |_,_,_,.cons a r,h=>by
  cases h with
  |cons a' r'=>rw[Den.inj I a a',gf.inj I r r']
end
theorem oM(I:Inv X pins Y H s){A:XZ}{x y:V}{d e:D}{v:Value}(g:A.units<cLine)(hf:gQ x=true)(hd:Den X.K H x d)(he:Den X.K H y e)(F:RelV x u)(Z:RelV y v):Ua A s u v (D.eq d e):=by
 cases hd with
 |tup=>cases hf
 |lst=>cases hf
 |non =>
  cases he with
  |tup q r=>cases F;cases Z;obtain⟨_,_,p,_⟩:=I.tuple q;exact .none_tuple p g
  |lst q r=>cases F;cases Z;obtain⟨_,_,p,_⟩:=I.list q;exact .none_list p.isList g
  |non => exact cP F Z rfl rfl
  |bl b1=>exact cP F Z rfl rfl
  |int w=>exact cP F Z rfl rfl
  |str b=>exact cP F Z rfl rfl
 |bl h=>
  cases he with
  |tup q r=>cases F;cases Z;obtain⟨_,_,p,_⟩:=I.tuple q;exact .bool_tuple _ p g
  |lst q r=>cases F;cases Z;obtain⟨_,_,p,_⟩:=I.list q;exact .bool_list _ p.isList g
  |non => exact cP F Z rfl rfl
  |bl b1=>exact cP F Z rfl rfl
  |int w=>exact cP F Z rfl rfl
  |str b=>exact cP F Z rfl rfl
 |int G=>
  cases he with
  |tup q r=>obtain⟨_,rfl⟩:=F;cases Z;obtain⟨_,_,p,_⟩:=I.tuple q;exact .int_tuple _ _ p g
  |lst q r=>obtain⟨_,rfl⟩:=F;cases Z;obtain⟨_,_,p,_⟩:=I.list q;exact .int_list _ _ p.isList g
  |non => exact cP F Z rfl rfl
  |bl b1=>exact cP F Z rfl rfl
  |int w=>exact cP F Z rfl rfl
  |str b=>exact cP F Z rfl rfl
 |str x0=>
  cases he with
  |tup q r=>obtain⟨_,rfl⟩:=F;cases Z;obtain⟨_,_,p,_⟩:=I.tuple q;exact .str_tuple _ _ p g
  |lst q r=>obtain⟨_,rfl⟩:=F;cases Z;obtain⟨_,_,p,_⟩:=I.list q;exact .str_list _ _ p.isList g
  |non => exact cP F Z rfl rfl
  |bl b1=>exact cP F Z rfl rfl
  |int w=>exact cP F Z rfl rfl
  |str b=>exact cP F Z rfl rfl
theorem Vals.KZ(r:Vals xs us){j:Nat}(a:j<us.toArray.size):∃x,xs[j]?=some x/\RelV x us.toArray[j]:=by
 have hl:=r.length;have q:j<us.length:=by simpa using a
 have hx:j<xs.length:=by lia
 obtain⟨u,e,F⟩:=r.get (Rg hx);rw[Rg q] at e;cases e;exact⟨xs[j],Rg hx,by simpa using F⟩
theorem gf.getD{K:QN}{H:Hp}{xs:List V}{ds:List D}(r:gf K H xs ds){j:Nat}{x:V}(e:xs[j]?=some x):Den K H x (ds.getD j .non)/\D.depth (ds.getD j .non)<=D.gm ds:=by
 have a:j<ds.length:=by rw[<-r.len];exact(QP.mp e).1
 have e2:=Rg a;have N:ds.getD j .non=ds[j]:=by rw[So,e2];rfl
 rw[N];exact⟨r.at j e e2,D.og j e2⟩
theorem kB(I:Inv X pins Y H s){n:Nat}(m:∀{A:XZ}{x y:V}{d e:D}{u v:Value},A.units+n<cLine->D.depth d<=n->Den X.K H x d->Den X.K H y e->RelV x u->RelV y v->Ua A s u v (D.eq d e))
  {A:XZ}(g:A.units+(n+1)<cLine){ds es:List D}{vs:List Value}(hn:D.gm ds<=n)(r:gf X.K H xs ds)(q:gf X.K H ys es)(F:Vals xs us)(Z:Vals ys vs):
  ∀j (h1:j<us.toArray.size) (h2:j<vs.toArray.size),Ua A.in1 s us.toArray[j] vs.toArray[j] (D.eq (ds.getD j .non) (es.getD j .non)):=λj h1 h2=>by
 obtain⟨x,ex,o⟩:=F.KZ h1;obtain⟨y,w,z⟩:=Z.KZ h2;obtain⟨Q,b⟩:=r.getD ex;exact m (by show A.units+1+n<cLine;lia) (RE b hn) Q (q.getD w).1 o z
theorem jI(I:Inv X pins Y H s):∀(n:Nat){A:XZ}{x y:V}{d e:D}{u v:Value},A.units+n<cLine->D.depth d<=n->Den X.K H x d->Den X.K H y e->RelV x u->RelV y v->Ua A s u v (D.eq d e):=by
 intro n;induction n with
 |zero=>
  intro A x y d e u v g hn hd he F Z;cases id hd with
  |tup=>simp[D.depth] at hn
  |lst=>simp[D.depth] at hn
  |_=>exact oM I g rfl hd he F Z
 |succ n m=>
  intro A x y d e u v g hn hd he F Z;have q:A.units<cLine:=by lia
  cases id hd with
  |@tup a xs ds E r=>
   cases F;obtain⟨us,w,p,_⟩:=I.tuple E;cases id he with
   |@tup b ys es O l=>
    cases Z;obtain⟨vs,h,C,_⟩:=I.tuple O;by_cases B:a=b
    .subst B;rw[hd.inj I he,D.ly];exact .same _
    .refine .of_refs B ?_;rw[show D.eq (.tup _) (.tup _)=_ from D.gw _ _];have G:us.toArray.size=ds.length:=by rw[QZ,<-w.length,r.len]
     have J:vs.toArray.size=es.length:=by rw[QZ,<-h.length,l.len]
     rw[<-G,<-J];exact .tuples p C q (kB I m g (by rw[D.depth] at hn;lia) r l w h)
   |@lst b ys es O l=>cases Z;obtain⟨vs,h,C,_⟩:=I.list O;exact .tuple_list p C.isList q
   |non => cases Z;exact .tuple_none p q
   |bl N=>cases Z;exact .tuple_bool _ p q
   |int P=>obtain⟨_,rfl⟩:=Z;exact .tuple_int _ _ p q
   |str x0=>obtain⟨_,rfl⟩:=Z;exact .tuple_str _ _ p q
  |@lst a xs ds E r=>
   cases F;obtain⟨us,w,p,_⟩:=I.list E;cases id he with
   |@lst b ys es O l=>
    cases Z;obtain⟨vs,h,C,_⟩:=I.list O;by_cases B:a=b
    .subst B;rw[hd.inj I he,D.ly];exact .same _
    .refine .of_refs B ?_;rw[show D.eq (.lst _) (.lst _)=_ from D.gw _ _];have G:us.toArray.size=ds.length:=by rw[QZ,<-w.length,r.len]
     have J:vs.toArray.size=es.length:=by rw[QZ,<-h.length,l.len]
     rw[<-G,<-J];by_cases hl:us.toArray.size=vs.toArray.size
     .have e1:(us.toArray.size==vs.toArray.size)=true:=ZD.mpr hl;rw[e1,S4,<-hl,VH];exact .lists p.isList C.isList hl q (kB I m g (by rw[D.depth] at hn;lia) r l w h)
     .have e1:(us.toArray.size==vs.toArray.size)=false:=beq_eq_false_iff_ne.mpr hl;rw[e1,Ut];exact .lists_lengths p.isList C.isList (by simpa using hl) q
   |@tup b ys es O l=>cases Z;obtain⟨vs,h,C,_⟩:=I.tuple O;exact .list_tuple p.isList C q
   |non => cases Z;exact .list_none p.isList q
   |bl N=>cases Z;exact .list_bool _ p.isList q
   |int P=>obtain⟨_,rfl⟩:=Z;exact .list_int _ _ p.isList q
   |str x0=>obtain⟨_,rfl⟩:=Z;exact .list_str _ _ p.isList q
  |_=>exact oM I q rfl hd he F Z
end
section
variable{X:Cx}{pins:List (Addr×Obj)}{Y:St}{H:Hp}{s:Shared}
theorem zI(I:Inv X pins Y H s){n:Nat}{A:XZ}{x y:V}{d e:D}{v:Value}(g:A.units+n<cLine)(hn:D.depth d<=n)(hd:Den X.K H x d)(he:Den X.K H y e)(F:RelV x u)(Z:RelV y v):SeqAt.RcAt A s u v (D.eq d e):=by
 have q:A.units<cLine:=by lia
 cases id hd with
 |non =>
  cases F;cases id he with
  |non => cases Z;exact .none_none
  |bl Q=>cases Z;exact .none_bool _
  |int Q=>obtain⟨_,rfl⟩:=Z;exact .none_int _ _
  |str Q=>obtain⟨_,rfl⟩:=Z;exact .none_str _ _
  |@tup b ys es O l=>cases Z;obtain⟨_,_,C,_⟩:=I.tuple O;exact .none_tuple C q
  |@lst b ys es O l=>cases Z;obtain⟨_,_,C,_⟩:=I.list O;exact .none_list C.isList q
 |bl R=>
  cases F;cases id he with
  |non => cases Z;exact .bool_none _
  |bl Q=>cases Z;exact .bool_bool _ _
  |int Q=>obtain⟨_,rfl⟩:=Z;exact .bool_int _ _ _
  |str Q=>obtain⟨_,rfl⟩:=Z;exact .bool_str _ _ _
  |@tup b ys es O l=>cases Z;obtain⟨_,_,C,_⟩:=I.tuple O;exact .bool_tuple _ C q
  |@lst b ys es O l=>cases Z;obtain⟨_,_,C,_⟩:=I.list O;exact .bool_list _ C.isList q
 |int R=>
  obtain⟨_,rfl⟩:=F;cases id he with
  |non => cases Z;exact .int_none _ _
  |bl Q=>cases Z;exact .int_bool _ _ _
  |int Q=>obtain⟨_,rfl⟩:=Z;exact .int_int _ _ _ _
  |str Q=>obtain⟨_,rfl⟩:=Z;exact .int_str _ _ _ _
  |@tup b ys es O l=>cases Z;obtain⟨_,_,C,_⟩:=I.tuple O;exact .int_tuple _ _ C q
  |@lst b ys es O l=>cases Z;obtain⟨_,_,C,_⟩:=I.list O;exact .int_list _ _ C.isList q
 |str R=>
  obtain⟨_,rfl⟩:=F;cases id he with
  |non => cases Z;exact .str_none _ _
  |bl Q=>cases Z;exact .str_bool _ _ _
  |int Q=>obtain⟨_,rfl⟩:=Z;exact .str_int _ _ _ _
  |str Q=>obtain⟨_,rfl⟩:=Z;exact .str_str _ _ _ _
  |@tup b ys es O l=>cases Z;obtain⟨_,_,C,_⟩:=I.tuple O;exact .str_tuple _ _ C q
  |@lst b ys es O l=>cases Z;obtain⟨_,_,C,_⟩:=I.list O;exact .str_list _ _ C.isList q
 |@tup a xs ds E r=>
  cases F;obtain⟨us,w,p,_⟩:=I.tuple E;cases id he with
  |non => cases Z;exact .tuple_none p q
  |bl Q=>cases Z;exact .tuple_bool _ p q
  |int Q=>obtain⟨_,rfl⟩:=Z;exact .tuple_int _ _ p q
  |str Q=>obtain⟨_,rfl⟩:=Z;exact .tuple_str _ _ p q
  |@tup b ys es O l=>
   cases Z;obtain⟨vs,h,C,_⟩:=I.tuple O;rw[D.depth] at hn;obtain⟨n,rfl⟩:∃m,n=m+1:=⟨n-1,by lia⟩
   rw[show D.eq (.tup _) (.tup _)=_ from D.gw _ _];have G:us.toArray.size=ds.length:=by rw[QZ,<-w.length,r.len]
   have J:vs.toArray.size=es.length:=by rw[QZ,<-h.length,l.len]
   rw[<-G,<-J];exact .tuples p C q (kB I (jI I n) g Q1 r l w h)
  |@lst b ys es O l=>cases Z;obtain⟨_,_,C,_⟩:=I.list O;exact .tuple_list p C.isList q
 |@lst a xs ds E r=>
  cases F;obtain⟨us,w,p,_⟩:=I.list E;cases id he with
  |non => cases Z;exact .list_none p.isList q
  |bl Q=>cases Z;exact .list_bool _ p.isList q
  |int Q=>obtain⟨_,rfl⟩:=Z;exact .list_int _ _ p.isList q
  |str Q=>obtain⟨_,rfl⟩:=Z;exact .list_str _ _ p.isList q
  |@tup b ys es O l=>cases Z;obtain⟨_,_,C,_⟩:=I.tuple O;exact .list_tuple p.isList C q
  |@lst b ys es O l=>
   cases Z;obtain⟨vs,h,C,_⟩:=I.list O;rw[D.depth] at hn;obtain⟨n,rfl⟩:∃m,n=m+1:=⟨n-1,by lia⟩
   rw[show D.eq (.lst _) (.lst _)=_ from D.gw _ _];have G:us.toArray.size=ds.length:=by rw[QZ,<-w.length,r.len]
   have J:vs.toArray.size=es.length:=by rw[QZ,<-h.length,l.len]
   rw[<-G,<-J];by_cases hl:us.toArray.size=vs.toArray.size
   .have e1:(us.toArray.size==vs.toArray.size)=true:=ZD.mpr hl;rw[e1,S4,<-hl,VH];exact .lists p.isList C.isList hl q (kB I (jI I n) g Q1 r l w h)
   .have e1:(us.toArray.size==vs.toArray.size)=false:=beq_eq_false_iff_ne.mpr hl;rw[e1,Ut];exact .lists_lengths p.isList C.isList (by simpa using hl) q
theorem ui(I:Inv X pins Y H s){n:Nat}{A:XZ}{x y:V}{d e:D}{v:Value}(g:A.units+n<cLine)(hn:D.depth d<=n)(hd:Den X.K H x d)(he:Den X.K H y e)(F:RelV x u)(Z:RelV y v):SeqAt.RcNeAt A s u v (!D.eq d e):=by
 have q:A.units<cLine:=by lia
 cases id hd with
 |non =>
  cases F;cases id he with
  |non => cases Z;exact .none_none
  |bl Q=>cases Z;exact .none_bool _
  |int Q=>obtain⟨_,rfl⟩:=Z;exact .none_int _ _
  |str Q=>obtain⟨_,rfl⟩:=Z;exact .none_str _ _
  |@tup b ys es O l=>cases Z;obtain⟨_,_,C,_⟩:=I.tuple O;exact .none_tuple C q
  |@lst b ys es O l=>cases Z;obtain⟨_,_,C,_⟩:=I.list O;exact .none_list C.isList q
 |bl R=>
  cases F;cases id he with
  |non => cases Z;exact .bool_none _
  |bl Q=>cases Z;exact .bool_bool _ _
  |int Q=>obtain⟨_,rfl⟩:=Z;exact .bool_int _ _ _
  |str Q=>obtain⟨_,rfl⟩:=Z;exact .bool_str _ _ _
  |@tup b ys es O l=>cases Z;obtain⟨_,_,C,_⟩:=I.tuple O;exact .bool_tuple _ C q
  |@lst b ys es O l=>cases Z;obtain⟨_,_,C,_⟩:=I.list O;exact .bool_list _ C.isList q
 |int R=>
  obtain⟨_,rfl⟩:=F;cases id he with
  |non => cases Z;exact .int_none _ _
  |bl Q=>cases Z;exact .int_bool _ _ _
  |int Q=>obtain⟨_,rfl⟩:=Z;exact .int_int _ _ _ _
  |str Q=>obtain⟨_,rfl⟩:=Z;exact .int_str _ _ _ _
  |@tup b ys es O l=>cases Z;obtain⟨_,_,C,_⟩:=I.tuple O;exact .int_tuple _ _ C q
  |@lst b ys es O l=>cases Z;obtain⟨_,_,C,_⟩:=I.list O;exact .int_list _ _ C.isList q
 |str R=>
  obtain⟨_,rfl⟩:=F;cases id he with
  |non => cases Z;exact .str_none _ _
  |bl Q=>cases Z;exact .str_bool _ _ _
  |int Q=>obtain⟨_,rfl⟩:=Z;exact .str_int _ _ _ _
  |str Q=>obtain⟨_,rfl⟩:=Z;exact .str_str _ _ _ _
  |@tup b ys es O l=>cases Z;obtain⟨_,_,C,_⟩:=I.tuple O;exact .str_tuple _ _ C q
  |@lst b ys es O l=>cases Z;obtain⟨_,_,C,_⟩:=I.list O;exact .str_list _ _ C.isList q
 |@tup a xs ds E r=>
  cases F;obtain⟨us,w,p,_⟩:=I.tuple E;cases id he with
  |non => cases Z;exact .tuple_none p q
  |bl Q=>cases Z;exact .tuple_bool _ p q
  |int Q=>obtain⟨_,rfl⟩:=Z;exact .tuple_int _ _ p q
  |str Q=>obtain⟨_,rfl⟩:=Z;exact .tuple_str _ _ p q
  |@tup b ys es O l=>
   cases Z;obtain⟨vs,h,C,_⟩:=I.tuple O;rw[D.depth] at hn;obtain⟨n,rfl⟩:∃m,n=m+1:=⟨n-1,by lia⟩
   rw[show D.eq (.tup _) (.tup _)=_ from D.gw _ _];have G:us.toArray.size=ds.length:=by rw[QZ,<-w.length,r.len]
   have J:vs.toArray.size=es.length:=by rw[QZ,<-h.length,l.len]
   rw[<-G,<-J];exact .tuples p C q (kB I (jI I n) g Q1 r l w h)
  |@lst b ys es O l=>cases Z;obtain⟨_,_,C,_⟩:=I.list O;exact .tuple_list p C.isList q
 |@lst a xs ds E r=>
  cases F;obtain⟨us,w,p,_⟩:=I.list E;cases id he with
  |non => cases Z;exact .list_none p.isList q
  |bl Q=>cases Z;exact .list_bool _ p.isList q
  |int Q=>obtain⟨_,rfl⟩:=Z;exact .list_int _ _ p.isList q
  |str Q=>obtain⟨_,rfl⟩:=Z;exact .list_str _ _ p.isList q
  |@tup b ys es O l=>cases Z;obtain⟨_,_,C,_⟩:=I.tuple O;exact .list_tuple p.isList C q
  |@lst b ys es O l=>
   cases Z;obtain⟨vs,h,C,_⟩:=I.list O;rw[D.depth] at hn;obtain⟨n,rfl⟩:∃m,n=m+1:=⟨n-1,by lia⟩
   rw[show D.eq (.lst _) (.lst _)=_ from D.gw _ _];have G:us.toArray.size=ds.length:=by rw[QZ,<-w.length,r.len]
   have J:vs.toArray.size=es.length:=by rw[QZ,<-h.length,l.len]
   rw[<-G,<-J];by_cases hl:us.toArray.size=vs.toArray.size
   .have e1:(us.toArray.size==vs.toArray.size)=true:=ZD.mpr hl;rw[e1,S4,<-hl,VH];exact .lists p.isList C.isList hl q (kB I (jI I n) g Q1 r l w h)
   .have e1:(us.toArray.size==vs.toArray.size)=false:=beq_eq_false_iff_ne.mpr hl;rw[e1,Ut];exact .lists_lengths p.isList C.isList (by simpa using hl) q
def KU(K:QN):R2:=λx y H Q=>∃d e,Den K H x d/\Den K H y e/\D.depth d<=40/\Q (.bl (D.eq d e)) H
def KL(K:QN):R2:=λx y H Q=>∃d e,Den K H x d/\Den K H y e/\D.depth d<=40/\Q (.bl (!D.eq d e)) H
theorem BU(g:X.A.units+64<cLine):iP X (Yd .Eq) (KU X.K):=by intro pins s Y H x y v u Q I o z h;obtain⟨d,e,hd,he,dp,q⟩:=h;exact zI I g (by exact OY) hd he o z _ _ _ _ ⟨.bl _,H,I,rfl,q⟩
theorem ym(g:X.A.units+64<cLine):iP X (Yd .NotEq) (KL X.K):=by intro pins s Y H x y v u Q I o z h;obtain⟨d,e,hd,he,dp,q⟩:=h;exact ui I g (by exact OY) hd he o z _ _ _ _ ⟨.bl _,H,I,rfl,q⟩
inductive HG(K:QN)(H:Hp):V->Value->Prop where
 |of{v:V}{t:Value}(h:Bs K H v t):HG K H v t
 |tup{a:Addr}{xs:List V}(e:gP K H a xs):HG K H (.ref a) (.type "tuple")
 |lst{a:Addr}{xs:List V}(e:dj K H a xs):HG K H (.ref a) (.type "list")
 |dic{a:Addr}{kvs:List (Key×V)}(e:Rd H a (.dK kvs)):HG K H (.ref a) (.type "dict")
noncomputable def JQ:V->Value
 | .ref a=>.ref a
 | .ty n=>.type n
 |_=>.none
noncomputable def Ac:V->Bool
 | .ref _=>true
 | .ty _=>true
 |_=>false
theorem El{x:V}(h:Ac x=true)(r:RelV x u):u=JQ x:=by cases x<;>first|exact r|cases h
theorem ur{pins:List (Addr×Obj)}{x:V}{t:Value}(I:Inv X pins Y H s)(r:RelV x u)(ty:HG X.K H x t):∃P,PySem.W.KitX X.K u t P/\P s.heap/\u≠.builtin "__main__.__loader__#opaque" := by
 cases ty with
 |tup e=>cases r;obtain⟨_,_,⟨o,h1,h2,_⟩,_⟩:=I.tuple e;exact⟨_,PySem.W.kitx_tuple,⟨o,h1,h2⟩,λz=>nomatch z⟩
 |lst e=>cases r;obtain⟨_,_,⟨o,_,h1,h2,_⟩,_⟩:=I.list e;exact⟨_,PySem.W.kitx_list,⟨o,h1,h2⟩,λz=>nomatch z⟩
 |dic e=>cases r;obtain⟨_,_,vs,_,o,es,A,h1,h2,_⟩:=u5 I.hok e;exact⟨_,PySem.W.kitx_dict,⟨o,h1,h2.1⟩,λz=>nomatch z⟩
 |of h=>
  cases h with
  |non=>cases r;exact⟨_,PySem.W.kitx_none,trivial,λz=>nomatch z⟩
  |bl y=>cases r;exact⟨_,PySem.W.kitx_bool,trivial,λz=>nomatch z⟩
  |int i=>obtain⟨_,rfl⟩:=r;exact⟨_,PySem.W.kitx_int,trivial,λz=>nomatch z⟩
  |str i=>obtain⟨_,rfl⟩:=r;exact⟨_,PySem.W.kitx_str,trivial,λz=>nomatch z⟩
theorem yX:cZ X (.builtin "isinstance") (λxs H Q=>∃x c t b,xs=[x,c]/\HG X.K H x t/\Ac c=true/\Sm X.K t (JQ c)=some b/\Q (.bl b) H):=by intro pins s Y H xs us Q I r h;obtain⟨x,c,t,b,rfl,ty,hc,hk,q⟩:=h;obtain⟨u,D,rfl,F,E⟩:=vals2 r;rw[El hc E];obtain⟨P,Z,p,y⟩:=ur I F ty;exact PySem.W.kia_one Z I.uh p hk y λtk=>⟨.bl b,H,I.tok tk,rfl,q⟩
end
theorem Ah:XQ "len" = some (.builtin "len"):=by decide +kernel
theorem nG:XQ "isinstance" = some (.builtin "isinstance"):=by decide +kernel
theorem G5:XQ "abs" = some (.builtin "abs"):=by decide +kernel
theorem yz:XQ "max" = some (.builtin "max"):=by decide +kernel
theorem AZ:XQ "min" = some (.builtin "min"):=by decide +kernel
theorem AS:XQ "any" = some (.builtin "any"):=by decide +kernel
theorem yS:XQ "int" = some (.type "int"):=by decide +kernel
theorem EV:XQ "bool" = some (.type "bool"):=by decide +kernel
theorem J6:XQ "str" = some (.type "str"):=by decide +kernel
theorem sW:XQ "tuple" = some (.type "tuple"):=by decide +kernel
theorem lC:XQ "list" = some (.type "list"):=by decide +kernel
theorem Dy:XQ "dict" = some (.type "dict"):=by decide +kernel
theorem GI:XQ "zip" = some (.type "zip"):=by decide +kernel
theorem qu:XQ "enumerate" = some (.type "enumerate"):=by decide +kernel
structure qi(K:QN)(x qual:Str)(st:Stmt)(f:Addr)(fd:X1)(dV:Value):Prop where
 ex:∃(oc:Value)(od:Option Addr)(kV doc pm:Value)(an:Option Addr)(cdv ct:Value)(osl:Array (Option Value)),
  fd=UC x qual (eu st) (fG st) (bx st) dV kV doc pm an cdv ct/\K.lookup f=some ⟨oc,od,.func fd,osl⟩/\Ul K cdv qual=true
 kp:Sk K (.ref f)=true
@[irreducible] def QS (X:Cx) (s:Stmt) (t:TS):Prop:=PS X s t
@[irreducible] def QT (X:Cx) (s:Expr) (t:TT):Prop:=PT X s t
@[irreducible] def QA (X:Cx) (s:List Expr) (t:TA):Prop:=PA X s t
set_option autoImplicit true
set_option relaxedAutoImplicit true
variable{elt:Expr}{scope:Scope}{pos:Pos}{env:Env}
section
variable{prog:Program}{w:XX}{A:XZ}{R:Result->Shared->Prop}{s:Shared}
theorem pB{q iter:Expr}{ifs:List Expr}{it acc:Value}(I:Nat->Shared->Prop)
  (turn:∀n s,I n s->XO (XU prog w) A (pyNext it) (λr Z=>match r with
   |none=>R (.ok .next) Z
   | some v=>XO (XU prog w) A (Yz q it v) (λ_ H=>XO (XU prog w) A (assign q env v) (λ_ T=>
     XO (XU prog w) A (forIn ifs true λc r=>if r=true then do let ok <- Zj c env (eval c env);pure (SU ok) else pure (SU r)) (λok U=>
      if ok=true then XO (XU prog w) A (eval elt env) (λx Y=>XO (XU prog w) A (call (.builtin "list.append") [acc,x]) (λ_ u=>∃m,m<n/\I m u) (λ_ _=>False) Y) (λ_ _=>False) U
      else ∃m,m<n/\I m U) (λ_ _=>False) T) (λ_ _=>False) H) (λ_ _=>False) Z) (λ_ _=>False) s)
  (n:Nat) (h:I n s):YG (XU prog w) A (.compLoop (.ListComp elt [⟨q,iter,ifs,0⟩] scope pos) 0 it acc env) R s:=by
 refine codeAny_loop rfl I (λn s p=>?_) n h;show XO _ A ((compTurn (.ListComp elt [⟨q,iter,ifs,0⟩] scope pos) 0 it acc env).onRaise (λx=>do noteFrame x env;theTreesLotGoes x)) _ _ s;refine wpAny_noted ?_;rw[compTurn_list];refine XN (YH (XN (Yp (turn n s p) (λr Z K=>?_) λ_ _ h'=>h'.elim)));cases r with
 |none=>exact XT K
 |some v=>
  refine XN (Yp K (λ_ H S=>?_) λ_ _ h'=>h'.elim);refine XN (Yp S (λ_ T b=>XN (Yp b (λok U X=>?_) λ_ _ h'=>h'.elim)) λ_ _ h'=>h'.elim);cases ok with
  |false=>exact XT ⟨rfl,X⟩
  |true=>exact XN (XN (Yp X (λx Y e=>XN (Yp e (λ_ u i=>XT (XT ⟨rfl,i⟩)) λ_ _ h'=>h'.elim)) λ_ _ h'=>h'.elim))
end
theorem lW{env:Env}{f:Str×NameKind->List (Str×Addr)->Sem (ForInStep (List (Str×Addr)))}
  (hf:∀x cs,f x cs=if (x.2==SV)=true then (do let c <- cellOf env x.1;pure (SU ((x.1,c)::cs))) else pure (SU cs)):
  ∀(l:List (Str×NameKind))(cs:List (Str×Addr)),(∀x∈l,x.2=.free->∃c,env.cells.lookup x.1=some c)->
   ∃cl,forIn l cs f=(pure cl:Sem _)/\(∀x c,cl.lookup x=some c->cs.lookup x=some c\/env.cells.lookup x=some c) /\
    (∀x,(∃c,cs.lookup x=some c)\/(x,SV)∈l->∃c,cl.lookup x=some c)
 |[],cs,_=>⟨cs,rfl,λ_ _ h=>.inl h,λx h=>h.elim id (λz=>by cases z)⟩
 |(n,k)::l,cs,h=>by
  rw[Um,hf];by_cases hk:k=.free
  .subst hk;obtain⟨c,hc⟩:=h (n,.free) Q5 rfl;obtain⟨cl,e,h1,h2⟩:=lW hf l ((n,c)::cs) λx hx=>h x (QW _ hx);refine⟨cl,?_,λx s q=>?_,λx q=>h2 x ?_⟩
   .have e1:cellOf env n=pure c:=by delta cellOf;rw[hc]
    simp only[beq_self_eq_true,if_true,e1,pure_bind];exact e
   .rcases h1 x s q with z|z
    .rw[Q6] at z;by_cases hx:(x==n)=true
     .rw[hx] at z;have:x=n:=eq_of_beq hx;subst this;exact .inr (by rw[hc];exact z)
     .rw[Bool.eq_false_iff.mpr hx] at z;exact .inl z
    .exact .inr z
   .rcases q with ⟨s,z⟩|z
    .left;rw[Q6];cases x==n with
     |true=>exact⟨c,rfl⟩
     |false=>exact⟨s,z⟩
    .rcases QV.mp z with z|z
     .left;cases z;rw[Q6,beq_self_eq_true];exact⟨c,rfl⟩
     .exact .inr z
  .obtain⟨cl,e,h1,h2⟩:=lW hf l cs λx hx=>h x (QW _ hx);refine⟨cl,?_,h1,λx q=>h2 x ?_⟩
   .have e1:((n,k).2==SV)=false:=by cases k<;>first|rfl|exact absurd rfl hk
    rw[e1];exact e
   .rcases q with z|z
    .exact .inl z
    .rcases QV.mp z with z|z
     .cases z;exact absurd rfl hk
     .exact .inr z
theorem tM(h:∀x∈scope.names,x.2=.free->∃c,env.cells.lookup x.1=some c):
  ∃cl,closureFor scope env=pure cl/\(∀x c,cl.lookup x=some c->env.cells.lookup x=some c)/\(∀x,(x,SV)∈scope.names->∃c,cl.lookup x=some c):=by
 obtain⟨cl,e,h1,h2⟩:=lW (λ_ _=>rfl) scope.names [] h;refine⟨cl,?_,λx c q=>(h1 x c q).elim (λz=>by cases z) id,λx q=>h2 x (.inr q)⟩;exact(ZC (λz:Sem (List (Str×Addr))=>z >>= λr=>pure r) e).trans (by rw[pure_bind])
section
variable{env:Env}
noncomputable def sO(env:Env):Str×NameKind->Str×NameKind:=λ(n,k)=>if (k==.free&&env.scope.kind==.function&&env.kindOf n==some .cell) then (n,.cell) else (n,k)
theorem sC(p:Str×NameKind):(sO env p).1=p.1:=by obtain⟨n,k⟩:=p;show (if _ then _ else _:Str×NameKind).1=n;split<;>rfl
theorem q5(p:Str×NameKind):(sO env p).2=p.2\/(p.2=.free/\(sO env p).2=.cell):=by
 obtain⟨n,k⟩:=p;show (if _ then _ else _:Str×NameKind).2=k\/_;split
 .rename_i h;right;rw[QM,QM] at h;refine⟨eq_of_beq h.1.1,?_⟩;show (if _ then _ else _:Str×NameKind).2=_;rw[Zx (by rw[QM,QM];exact h)]
 .left;rfl
theorem eJ:∀{names:List (Str×NameKind)}{x:Str}{k:NameKind},names.lookup x=some k->(names.map (sO env)).lookup x=some k\/(k=.free/\(names.map (sO env)).lookup x=some .cell)
 |[],_,_,h=>by cases h
 |p::r,x,k,h=>by
  rw[RC];obtain⟨n,s⟩:=p;have e1:=sC (env:=env) (n,s);have e2:=q5 (env:=env) (n,s);generalize sO env (n,s)=q at e1 e2 ⊢;obtain⟨v,H⟩:=q;subst e1;rw[Q6] at h ⊢;cases hx:x==v with
  |true=>
   rw[hx] at h;cases h;rcases e2 with e2|⟨e2,N⟩
   .left;exact ZC some e2
   .right;exact⟨e2,ZC some N⟩
  |false=>rw[hx] at h;exact eJ h
theorem cO:∀{names:List (Str×NameKind)}{x:Str}{k:NameKind},(names.map (sO env)).lookup x=some k->names.lookup x=some k\/(k=.cell/\names.lookup x=some .free)
 |[],_,_,h=>by cases h
 |p::r,x,k,h=>by
  rw[RC] at h;obtain⟨n,s⟩:=p;have e1:=sC (env:=env) (n,s);have e2:=q5 (env:=env) (n,s);generalize sO env (n,s)=q at e1 e2 h;obtain⟨v,H⟩:=q;subst e1;rw[Q6] at h ⊢;cases hx:x==v with
  |true=>
   rw[hx] at h;cases h;rcases e2 with e2|⟨e2,N⟩
   .left;exact ZC some e2.symm
   .right;exact⟨N,ZC some e2⟩
  |false=>rw[hx] at h;exact cO h
theorem iG{sc:Scope}{x:Str}(h:sc.names.lookup x=some .local):(relabel sc env).names.lookup x=some .local:=by
 rcases eJ h with z|⟨z,_⟩
 .exact z
 .cases z
theorem AE{sc:Scope}{x:Str}(h:sc.names.lookup x=some .globalImplicit):(relabel sc env).names.lookup x=some .globalImplicit:=by
 rcases eJ h with z|⟨z,_⟩
 .exact z
 .cases z
theorem sI{sc:Scope}{x:Str}(h:sc.names.lookup x=some .free):ku (relabel sc env) x:=by
 rcases eJ h with z|⟨_,z⟩
 .exact .inr (.inr z)
 .exact .inr (.inl z)
end
structure gj(N0 N:List Str)(k:Nat)(sc de:Scope):Prop where
 kind:sc.kind=.function
 cell:∀y∈sc.names,y.2≠.cell
 names:∀y∈sc.names,y.2=.local->sc.names.lookup y.1=some .local
 len:N.length=N0.length+k
 nd:N.Nodup
 old:∀p∈(N.take N0.length).zip N0,p.1=p.2\/sc.names.lookup p.1=none
 nl:∀n∈N.take N0.length,sc.names.lookup n≠some .local
 fr:∀y∈sc.names,y.2=.free->de.names.lookup y.1=some .cell\/de.names.lookup y.1=some .free
noncomputable def jq(X:Cx)(N:List Str)(sc:Scope)(cl:List (Str×Addr))(C:Addr)(s:Shared)(H:Hp)(ex:List Addr):Cx where
 prog:=X.prog
 w:=X.w
 K:=X.K
 mg:=X.mg
 base:=X.base
 A:=X.A
 N:=N
 s₀:=s
 H₀:=H
 env:=compEnvC sc cl C X.env
 outer:=X.stack
 stack:=X.stack
 ex:=ex
 fn:=λ_=>false
 calm:=X.calm
 pn:=[]
 xe:=λ_ _=>False
theorem mem_of_lookupK{names:List (Str×NameKind)}{x:Str}{k:NameKind}(h:names.lookup x=some k):(x,k)∈names:=SF h
variable{j:St}
section
variable{X:Cx}{pins:List (Addr×Obj)}{Y:St}{H:Hp}{s:Shared}{N:List Str}{k:Nat}{sc:Scope}{cl:List (Str×Addr)}{C:Addr}{fp:List Addr}{h1:Heap}{tk:Nat}
theorem B6(I:Inv X pins Y H s)(S:gj X.N N k sc X.env.scope)(T:∀x c,cl.lookup x=some c->X.env.cells.lookup x=some c)
  (A:∀x,(x,SV)∈sc.names->∃c,cl.lookup x=some c)(a:s.heap.objs.size<=C)(hf:∀b∈fp,nX X pins H b)(h:∀b∈fp,b<s.heap.objs.size)
  (hk:∀b o,s.heap.get? b=some o->h1.get? b=some o)(hn:∃m,h1.Ns C m):
  Inv (jq X N sc cl C s H fp) (X.pn++pins) (Y++QX k none) H { s with heap:=h1,toks:=tk }:=by
 have B:∀b o,s.heap.get? b=some o->b≠C:=λb o e=>Rw (Q8 (Q7 e) a);have kind:∀x,((jq X N sc cl C s H fp).env.kindOf x=some .cell\/(jq X N sc cl C s H fp).env.kindOf x=some .free)->sc.names.lookup x=some .free:=λx hx=>by
  rcases hx with hx|hx
  .rcases cO hx with z|⟨_,z⟩
   .exact absurd rfl (S.cell _ (mem_of_lookupK z))
   .exact z
  .rcases cO hx with z|⟨z,_⟩
   .exact z
   .cases z
 refine⟨⟨I.ok.mod,S.kind,I.ok.glob,I.ok.blt,a,λx y c h1 h2=>I.ok.inj x y c (T _ _ h1) (T _ _ h2),λx hx=>A x (mem_of_lookupK (kind x hx)),λx c z _=>absurd (z) Ry,
  I.ok.hd,I.ok.frames,.inl rfl,λb E=>⟨Rw (Q8 (h b E) a),λx c e=>(hf b E).2.2.2.2.1 x c (T _ _ e)⟩,I.bs,RE I.ok.bsz I.sz,λb o e E=>?_,λb E q=>?_,I.stack,I.vX⟩,
  rfl,I.bare,Un.kept hk,?_,λx c e=>?_,I.hok.fresh a,λx c e=>I.freeC x c (T _ _ e),λp hp=>?_,I.hok.kept hk,?_⟩
 .rcases(hf b E).2.2.2.1 with z|z
  .exact I.ok.noex b o e z
  .exact absurd (Q8 (Q7 e) (RE I.ok.bsz z)) (Ri _)
 .rcases QV.mp (I.kA b q) with z|z
  .exact(hf b E).2.1 z
  .exact(hf b E).2.2.1 z
 .obtain⟨m,hn⟩:=hn;refine⟨m,hn,λi x v e1 e2 J=>?_⟩;have hi:i<Y.length:=by
   by_cases hi:i<Y.length
   .exact hi
   .rw[RG (by exact UL.mp ‹_›),T7] at e2;split at e2<;>cases e2
  rw[RW hi] at e2;have D:i<X.N.length:=by rw[<-I.len];exact hi
  have P:(N.take X.N.length)[i]?=some x:=by rw[TZ D];exact e1
  have Q:=S.nl x (RF P);have K:sc.names.lookup x=some .free:=by
   rcases J with z|z|z
   .rcases cO z with z|⟨z,_⟩
    .exact absurd z Q
    .cases z
   .exact kind x (.inl z)
   .exact kind x (.inr z)
  have O:X.N[i]?=some x:=by
   have hz:((N.take X.N.length).zip X.N)[i]?=some (x,X.N[i]):=by rw[RX];exact⟨P,Rg D⟩
   rcases S.old _ (RF hz) with z|z
   .have z:x=X.N[i]:=z;rw[Rg D,<-z]
   .have z:=z;rw[K] at z;cases z
  obtain⟨j,Z,w⟩:=I.loc;have G:ku X.env.scope x:=by
   rcases S.fr _ (mem_of_lookupK K) rfl with z|z
   .exact .inr (.inl z)
   .exact .inr (.inr z)
  obtain⟨u,r,l⟩:=w i x v O e2 G;refine⟨u,r,.inr ⟨?_,?_⟩⟩
  .rcases sI K with z | z | z
   .rcases cO z with z | ⟨z,_⟩
    .rw [K] at z; cases z
    .cases z
   .exact .inl z
   .exact .inr z
  .rcases l with ⟨z,_⟩|⟨_,c,F,f⟩
   .have z:X.env.scope.names.lookup x=some .local:=z;rcases S.fr _ (mem_of_lookupK K) rfl with t|t
    .have t:=t;rw[z] at t;cases t
    .have t:=t;rw[z] at t;cases t
   .obtain⟨U,R⟩:=A x (mem_of_lookupK K);have:=T _ _ R;rw[F] at this;cases this;obtain⟨o,ho,hd⟩:=f;exact⟨c,R,o,hk _ _ ho,hd⟩
 .obtain⟨v,o,ho,hd⟩:=I.cell x c (T _ _ e);exact⟨v,o,hk _ _ ho,hd⟩
 .have hp:=hp;obtain⟨e,n,ne,nf,d⟩:=I.pin p hp;refine⟨hk _ _ e,n,B _ _ e,λE=>?_,d⟩;rcases QV.mp (I.kA _ E) with z|z
  .exact ne z
  .exact nf z
 .show (Y++QX k none).length=N.length;rw[Rc,To,I.len,S.len]
theorem BR{H':Hp}{s':Shared}{D:Addr}{r:List Value}(I:Inv X pins Y H s)(a:Inv (jq X N sc cl C s H fp) (X.pn++pins) j H' s')(K:s.heap.objs.size<=D)(y:H' D=none)
  (pl:s'.heap.PlainList D r.toArray)(Z:Vals ys r)(hl:ys.length<=sizeLine)(hf:∀b∈fp,nX X pins H b):Inv X pins Y (upd H' D (.lst ys)) s':=by
 obtain⟨n,T⟩:=pl;have u:=a.base;have ne:∀b o,s.heap.get? b=some o->b≠D:=λb o e=>Rw (Q8 (Q7 e) K);have x:∀b o,H' b=some o->b≠D:=λb o e=>aD e y;refine I.MZ a.os ⟨u.keep,u.slot,λb o e n nx=>?_,u.there,λb xs e=>?_,λb o v e=>?_,λb ps e=>?_⟩ (λb o e=>?_) a.bare (ch:=fp) λb d=>?_
 .rw[ao (ne b o e)];exact u.free b o e n nx
 .have:=u.tups b xs e;rw[ao (x _ _ this)];exact this
 .have:=u.frzs b o v e;rw[ao (x _ _ this)];exact this
 .obtain⟨more,this⟩:=u.tbls b ps e;exact⟨more,by rw[ao (x _ _ this)];exact this⟩
 .by_cases d:b=D
  .subst d;rw[aJ] at e;cases e;exact⟨hl,r,n,Z,T⟩
  .rw[ao d] at e;exact(a.hok b o e).iM (λ_ _ _ q=>q) (λc q=>by rw[ao (x _ _ q)];exact q) λc xs q=>by rw[ao (x _ _ q)];exact q
 .obtain⟨f0,t,G,B,S,i⟩:=hf b d;exact⟨B,t,S,i⟩
end
variable{X:Cx}{pins:List (Addr×Obj)}{Y:St}{H:Hp}{s:Shared}
theorem Inv.tx(I:Inv X pins Y H s){a:Addr}(h:s.heap.objs.size<=a):a∉lE X.stack:=λd=>by
 rcases QV.mp (I.kA a d) with z|z
 .exact absurd (Q8 I.lt (by rw[<-z];exact h)) (Ri _)
 .exact I.Lh h z
def PF(X:Cx)(ifs:List Expr)(t:TT):Prop:=∀(pins:List (Addr×Obj))(s:Shared)(Y:St)(H:Hp)(Q:Bool->Hp->Prop),Inv X pins Y H s->t Y H Q->
 XO (XU X.prog X.w) X.A (forIn ifs true λc r=>if r=true then do let ok <- Zj c X.env (eval c X.env);pure (SU ok) else pure (SU r)) (TP X pins Y Q) X.xe s
noncomputable def MO:TT:=λ_ H Q=>Q true H
theorem Ih:PF X [] MO:=λ_ _ _ H _ I h=>wpAny_tests_nil ⟨H,I,h⟩
theorem G9{c:Expr}{t:TT}(hc:PT X c t):PF X [c] t:=λpins s Y H Q I h=>wpAny_tests_one (hc pins s Y H Q I h)
def zQ(J:It)(g:TG)(X:TT)(n:TE)(Q:VK)(Y:St)(H:Hp):Prop:=∃W:Nat->Nat->St->List V->Hp->Prop,(∃m,W 0 m Y [] H)/\∀i m Y ys H,W i m Y ys H->ys.length<=sizeLine /\
  ((J.stop i H/\∀r,H r=none->Q (.ref r) (upd H r (.lst ys))) \/
   (J.go i H/\∃N:St->List V->Hp->Prop,(∀j I H',N j I H'->∃u,u<m/\W (i+1) u j I H') /\
     ∀x H',J.yld i H x H'->g x Y H' λP U=>X P U λb w=>if b=true then n P w λy s=>N P (ys++[y]) s else N P ys w))
noncomputable def BX(n:Nat)(D:TI)(g:TG)(X:TT)(r:TE):TE:=λY H Q=>D Y H λJ V=>zQ J g X r Q (Y++QX n none) V
section
variable{X:Cx}{pins:List (Addr×Obj)}{Y:St}{H:Hp}{s:Shared}{N:List Str}{k:Nat}{sc:Scope}{cl:List (Str×Addr)}{C:Addr}{fp:List Addr}{J:It}{it:Addr}{tn:Nat->Heap->Prop}
 {tg elt iter:Expr} {ifs:List Expr} {pos:Pos} {g:TG} {tt:TT} {te:TE} {Q:VK} {E:Value->Shared->Prop} {RR:Value->Addr->Result->Shared->Prop}
theorem mB(hc:X.calm=true)(S:gj X.N N k sc X.env.scope)(O:∀x c,cl.lookup x=some c->X.env.cells.lookup x=some c)
  (hcl2:∀x,(x,SV)∈sc.names->∃c,cl.lookup x=some c)(I:Inv X pins Y H s)(T:Turn X.prog X.w X.K tg J fp it tn)(st:tn 0 s.heap)(hf:∀b∈fp,nX X pins H b)
  (B:zQ J g tt te Q (Y++QX k none) H)
  (hg:∀C,PG (jq X N sc cl C s H fp) tg g)(ht:∀C,PF (jq X N sc cl C s H fp) ifs tt)(he:∀C,PE (jq X N sc cl C s H fp) elt te)
  (hRR:∀D C s' H' ys,Inv X pins Y (upd H' D (.lst ys)) s'->s.heap.objs.size<=C->upd H' D (.lst ys) C=none->(∃m,s'.heap.Ns C m)->Q (.ref D) (upd H' D (.lst ys))->RR (.ref D) C (.ok .next) s'):
  XO (XU X.prog X.w) X.A (newList []) (λacc U=>XO (XU X.prog X.w) X.A (newFunctionEnv sc X.env.globals cl [] X.env.qual none .none (some X.env)) (λcenv s₄=>YG (XU X.prog X.w) X.A (.compStart (.ListComp elt [⟨tg,iter,ifs,0⟩] sc pos) 0 (.ref it) acc { cenv with scope:=relabel sc X.env }) (RR acc cenv.locals) s₄) E U) E s:=by
 refine Yt (wpAny_newFunctionEnv S.cell (by intro y hy;simp at hy) (λh₁ R Z=>?_) S.kind);generalize hH2:s.heap.push { cls:=.type "list",dict:=none,data:=.seq ([]:List Value).toArray }=H2 at R Z ⊢;have hC:H2.objs.size=s.heap.objs.size+1:=by rw[<-hH2,R6]
 have a:s.heap.objs.size≠H2.objs.size:=by rw[hC];exact Rw (Sn _)
 have h:s.heap.objs.size<=H2.objs.size:=by rw[hC];exact Ux _
 have below:∀b,b<s.heap.objs.size->b≠H2.objs.size/\b≠s.heap.objs.size:=λb P=>⟨by rw[hC];exact Rw (T3 P),Rw P⟩
 have old:=λb o e=>Z.extBut b o (below b (Q7 e)).1 (Q3 _ (hH2▸Q3 _ e));have hacc:h₁.PlainList s.heap.objs.size #[]:=⟨_,Z.extBut _ _ a (Q3 _ (hH2▸Rf _ rfl))⟩
 have F:=λb P=>let ⟨o,e,_⟩:=T.obj 0 _ st b P;Q7 e
 have st1:=T.keep _ _ _ st λb P o e=>old b o e;have I0:=B6 (tk:=s.toks+([]:List (Str×Value)).length) I S O hcl2 h hf F old ⟨_,R⟩;generalize H2.objs.size=C at R Z hC a h below I0 ⊢;generalize hD:s.heap.objs.size=D at hC a h below hacc F ⊢;have t:s.heap.objs.size<=D:=by rw[hD];exact QY _
 have f:∀{H':Hp}{o:Obj},(∀b∈fp,H' b=none)->∀b∈fp,nX (jq X N sc cl C s H fp) ((X.pn++pins)++[(D,o)]) H' b:=λ{H' o} hn b P=>by
  obtain⟨f0,f1,f2,f3,f4,f5⟩:=hf b P;refine⟨hn b P,(below b (F b P)).1,λz=>?_,.inl P,λx c e=>f4 x c (O _ _ e),λp hp=>?_⟩
  .rcases QV.mp (I.kA b z) with z|z
   .exact f1 z
   .exact f2 z
  .have hp:p∈(X.pn++pins)++[(D,o)]:=hp;rcases Q0.mp hp with z|z
   .exact f5 p z
   .have:p=(D,o):=by simpa using z
    rw[this];exact RP (below b (F b P)).2
 have loop:∀U:Shared,U={ s with heap:=h₁,toks:=s.toks+([]:List (Str×Value)).length }->
   YG (XU X.prog X.w) X.A (.compLoop (.ListComp elt [⟨tg,iter,ifs,0⟩] sc pos) 0 (.ref it) (.ref D) (compEnvC sc cl C X.env)) (RR (.ref D) C) U:=by
  rintro U rfl;obtain⟨W,⟨m0,w0⟩,step⟩:=B;refine pB (λn s'=>∃i j H' ys G,Inv (jq X N sc cl C s H fp) (X.pn++pins) j H' s'/\tn i s'.heap/\(∀b∈fp,H' b=none)/\H' D=none/\s'.heap.PlainList D (G:List Value).toArray/\Vals ys G/\W i n j ys H') ?_ m0
   ⟨0,_,H,[],[],I0,st1,λb P=>(hf b P).1,I.hok.fresh t,hacc,.nil,w0⟩
  rintro n s3 ⟨i,V,H3,ys,G,I3,st3,fr3,hD3,⟨nn,pl3⟩,l,w3⟩;obtain⟨hl,cs⟩:=step i n V ys H3 w3;have pinD:∀{j:St}{H':Hp}{s':Shared}{o:Obj},Inv (jq X N sc cl C s H fp) (X.pn++pins) j H' s'->H' D=none->s'.heap.get? D=some o->(∀v,o.data≠.cell v)->Inv (jq X N sc cl C s H fp) ((X.pn++pins)++[(D,o)]) j H' s':=λ{j H' s' o} I' hn e d=>
   I'.ql λp hp=>(Q0.mp hp).elim (λz=>I'.pin p (QO _ z)) λz=>by
    have:p=(D,o):=by simpa using z
    subst this;exact⟨e,hn,a,λz=>I.tx t z,d⟩
  have I3p:=pinD I3 hD3 pl3 λv z=>by cases z
  rcases cs with ⟨stop,q⟩|⟨go,NN,hN,nx⟩
  .refine cE (T.done (jq X N sc cl C s H fp) rfl rfl rfl hc i _ s3 V H3 _ I3p (f fr3) st3 stop) λr s4 ⟨hr,I4⟩=>?_;subst hr;have d4:=I4.pin (D,_) (QO _ (QO _ (Rl.mpr rfl)));have I5:=BR I I4.eE t d4.2.1 ⟨nn,d4.1⟩ l hl hf;refine hRR D C s4 H3 ys I5 (by rw[hD];exact h) ?_ (let ⟨m,hm,_⟩:=I4.loc;⟨m,hm⟩) (q D d4.2.1);rw[ao (RP a)];exact I4.free
  .refine cE (T.item (jq X N sc cl C s H fp) rfl rfl rfl hc i _ s3 V H3 _ I3p (f fr3) st3 go) λr s4 ⟨u,hr,h4⟩=>?_;subst hr;refine cE h4 λ_ s5 ⟨x,H5,I5,r5,y5,st5,fr5⟩=>?_;have I5':=I5.pinned (f fr5) (T.obj _ _ st5);refine cE (hg C _ s5 V H5 x u _ I5' r5 (nx x H5 y5)) λ_ s6 ⟨L,H6,I6,q6⟩=>?_;refine cE (ht C _ s6 L H6 _ I6 q6) λb s7 ⟨H7,I7,q7⟩=>?_;have itK:∀{s8:Shared}{H8:Hp},Inv (jq X N sc cl C s H fp) (((X.pn++pins)++[(D,({ cls:=.type "list",data:=.seq G.toArray nn }:Obj))])++lV fp s5.heap) L H8 s8->tn (i+1) s8.heap/\∀b∈fp,H8 b=none:=λ{s8 H8} I8=>by refine⟨T.keep _ _ _ st5 λb P o e=>(I8.pin (b,o) (QO _ (QO _ (gk P e)))).1,λb P=>?_⟩;obtain⟨o,e,d⟩:=T.obj _ _ st5 b P;exact(I8.pin (b,o) (QO _ (QO _ (gk P e)))).2.1
   cases b with
   |false=>obtain⟨m',hm,w7⟩:=hN _ _ _ q7;obtain⟨t7,f7⟩:=itK I7;have d7:=I7.pin (D,_) (QO _ (QR _ (QO _ (Rl.mpr rfl))));exact⟨m',hm,i+1,L,H7,ys,G,I7.eE.eE,t7,f7,d7.2.1,⟨nn,d7.1⟩,l,w7⟩
   |true=>
    refine cE (he C _ s7 L H7 _ I7 q7) λyv s8 ⟨y,H8,I8,r8,q8⟩=>?_;obtain⟨m',hm,w9⟩:=hN _ _ _ q8;obtain⟨t8,f8⟩:=itK I8;have d8:=I8.pin (D,_) (QO _ (QR _ (QO _ (Rl.mpr rfl))));refine wpAny_list_append_plain (hsz:=by rw[QZ,<-l.length];exact hl) ⟨nn,d8.1⟩ λh9 pl9 sb9=>?_;have I9:=I8.eE.eE.turned (t':=s8.toks) (λb o P e=>(sb9.2 b P).trans e) d8.2.1 a (.inr t) (λx c e z=>?_) (λp hp z=>?_)
    .refine⟨m',hm,i+1,L,H8,ys++[y],G++[yv],I9,T.keep _ _ _ t8 λb P o e=>(sb9.2 b (below b (F b P)).2).trans e,f8,d8.2.1,?_,l.append (.cons r8 .nil),w9⟩;rw[<-List.push_toArray];exact pl9
    .obtain⟨v,q⟩:=I.cell x c (O _ _ e);exact absurd (Q8 q.lt (by rw[z];exact t)) (Ri _)
    .have hp:=hp;exact absurd (Q8 (Q7 (I.pin p hp).1) (by rw[z];exact t)) (Ri _)
 exact codeAny_compStart_list (loop _ rfl) (T.self _ _ _ _ _ st1 (loop _ rfl))
end
variable{i:Nat}{px:Pos}
section
variable{X:Cx}{N:List Str}{k:Nat}{sc:Scope}{tg elt iter:Expr}{ifs:List Expr}{pos:Pos}{g:TG}{tt:TT}{te:TE}{wi:TI}
theorem lN(I:Inv X pins Y H s)(S:gj X.N N k sc X.env.scope):
  ∃cl,closureFor sc X.env=pure cl/\(∀x c,cl.lookup x=some c->X.env.cells.lookup x=some c)/\(∀x,(x,SV)∈sc.names->∃c,cl.lookup x=some c):=
 tM λx hx e=>I.ok.has x.1 (S.fr x hx e)
theorem Inv.letGo{H0:Hp}{u:Shared}{h':Heap}(r:Inv X pins Y H0 u)(I:Inv X pins j H s)(a:u.heap.objs.size<=C)(hn:H C=none)(sb:Ud C s.heap h'):Inv X pins j H { s with heap:=h' }:=
 I.turned (t':=s.toks) (it:=C) (λb o d e=>(sb.2 b d).trans e) hn (VF (Q8 r.lt a)) (.inr (RE r.sz a))
  (λx c e z=>by obtain⟨v,q⟩:=r.cell x c e;exact absurd (Q8 q.lt (by rw[z];exact a)) (Ri _))
  (λp hp z=>absurd (Q8 (Q7 (r.pin p hp).1) (by rw[z];exact a)) (Ri _))
theorem EI(hc:X.calm=true)(S:gj X.N N k sc X.env.scope)(hi:PI X tg iter wi)(hg:∀cl C s H fp,PG (jq X N sc cl C s H fp) tg g)(ht:∀cl C s H fp,PF (jq X N sc cl C s H fp) ifs tt)
  (he:∀cl C s H fp,PE (jq X N sc cl C s H fp) elt te)(hs:∀x,X7 iter X.env x=pure x:=by intro _;rfl):PE X (.ListComp elt [⟨tg,iter,ifs,0⟩] sc pos) (BX k wi g tt te):=by
 intro pins s Y H Q I h;obtain⟨cl,hclos,h1,h2⟩:=lN I S;rw[eval_ListComp];refine YI (use:=none) rfl hs hclos S.kind S.names (cE (hi pins s Y H _ I h) λv s1 q1=>cE q1 λitv s2 q2=>?_);obtain⟨it,fp,tn,J,H2,rfl,I2,T,st2,f2,B⟩:=q2;refine mB (RR:=λacc C=>compPost (XU X.prog X.w) X.A X.xe none (EP X pins Y Q) acc C) hc S h1 h2 I2 T st2 f2 B (λC=>hg cl C s2 H2 fp) (λC=>ht cl C s2 H2 fp) (λC=>he cl C s2 H2 fp) ?_;intro D C s' H' ys I' hC hn hm q;obtain⟨m,hm⟩:=hm;exact⟨m,hm,λh' sb=>⟨.ref D,_,I2.letGo I' hC hn sb,rfl,q⟩⟩
theorem D4{x:Str}{spos:Pos}(hc:X.calm=true)(S:gj X.N N k sc X.env.scope)(hN:X.N.Nodup)(hx:X.N[i]?=some x)(hl:X.env.scope.names.lookup x=some .local)
  (hsw:X9 (.ListComp elt [⟨tg,iter,ifs,0⟩] sc pos) (some (.Name x px)) spos.line X.env=pure true)(hi:PI X tg iter wi)(hg:∀cl C s H fp,PG (jq X N sc cl C s H fp) tg g)(ht:∀cl C s H fp,PF (jq X N sc cl C s H fp) ifs tt)
  (he:∀cl C s H fp,PE (jq X N sc cl C s H fp) elt te)(hs:∀x,X7 iter X.env x=pure x:=by intro _;rfl):PS X (.Assign [.Name x px] (.ListComp elt [⟨tg,iter,ifs,0⟩] sc pos) spos) (rC (BX k wi g tt te) (A3 i)):=by
 intro pins s Y H D0 I h;obtain⟨cl,hclos,h1,h2⟩:=lN I S;rw[exec_Assign_Name_used _ _ _ _ hsw];refine XN (YH (XN ?_));show XO _ X.A (do let _ <- comprehension (.ListComp elt [⟨tg,iter,ifs,0⟩] sc pos) sc X.env _ (newList []) false (eval iter X.env) (some (assign (.Name x px) X.env))) _ _ s;refine XN (cE (YI (use:=some (assign (.Name x px) X.env)) (Q:=λ_ s'=>SP X pins D0 .next s') rfl hs hclos S.kind S.names
  (cE (hi pins s Y H _ I h) λv s1 q1=>cE q1 λitv s2 q2=>?_)) λ_ s' hq=>XT (XT hq))
 obtain⟨it,fp,tn,J,H2,rfl,I2,T,st2,f2,B⟩:=q2;refine mB (RR:=λacc C=>compPost (XU X.prog X.w) X.A X.xe (some (assign (.Name x px) X.env)) (λ_ s'=>SP X pins D0 .next s') acc C) hc S h1 h2 I2 T st2 f2 B (λC=>hg cl C s2 H2 fp) (λC=>ht cl C s2 H2 fp) (λC=>he cl C s2 H2 fp) ?_;intro D C s' H' ys I' hC hn hm q;obtain⟨m,hm⟩:=hm;show XO _ X.A (assign (.Name x px) X.env (.ref D)) _ _ _;refine Zd (n9 I' hN hx (.inl hl) (v:=.ref D) rfl (λs'' I'' ch=>?_) (.inr hl));obtain⟨a,sb,ha⟩:=ch;refine⟨m,hm.sameBut sb ?_,λh' sb'=>⟨_,_,I2.letGo I'' hC hn sb',q⟩⟩;rintro rfl;rcases ha with z|z
 .exact absurd (Q8 I2.lt (by rw[<-z];exact hC)) (Ri _)
 .obtain⟨v,q⟩:=I2.cell x _ z;exact absurd (Q8 q.lt hC) (Ri _)
end
theorem uk{gs:List YJ}{sc:Scope}{x:Str}{line:Nat}(h1:env.blockKind=.function)(h2:env.kindOf x=some .local)(h3:(px.line==pos.line)=true)
  (h4:(sc.names.any λp=>p.1==x&&(p.2==.local || p.2==.cell))=false):X9 (.ListComp elt gs sc pos) (some (.Name x px)) line env=pure true:=by
 unfold X9;show (pure (env.blockKind==.function&&env.kindOf x==some .local&&px.line==pos.line&&!(sc.names.any λp=>p.1==x&&(p.2==.local || p.2==.cell))):Sem Bool)=pure true;rw[h1,h2,h3,h4];rfl
variable{it:Addr}{its:Array Value}{Q:Value->Shared->Prop}
section
variable{prog:Program}{w:XX}{A:XZ}{E:Value->Shared->Prop}{s:Shared}
theorem EO{t:Addr}{v:Value}(hi:s.heap.IsTupleIter it t i)(l:s.heap.IsTuple t its)(Y:its[i]?=some v)
  (q:∀h',h'.IsTupleIter it t (i+1)->Ud it s.heap h'->Q v { s with heap:=h' }):XO (XU prog w) A (RK (.ref it)) Q E s:=by
 obtain⟨o,e,c,d⟩:=id hi;obtain⟨b,I,_,nt,H⟩:=l;unfold RK;refine XN (Yk (name:=UY "__next__") hi.typeIs SY (Yv SY hi.typeIs Vp ?_ (Vi _)));show XO _ _ (field (.ref it) 0 >>= _) _ _ s;refine XN (Yc e d (x:=.ref t) rfl ?_);show XO _ _ (if (R9 t==Tn)=true then _ else _) _ _ s;rw[Zy (show ¬ ((R9 t==Tn)=true) from Ry)];show XO _ _ (field (.ref it) 1 >>= _) _ _ s;refine XN (Yc e d (x:=.int i 0) rfl ?_);show XO _ _ (seqItems? (.ref t) >>= _) _ _ s;refine XN (Ye I H ?_);simp only[SO,Y];refine XN (wpAny_setField e d Z4 (XT ⟨v,rfl,XT (q _ ?_ (U8 ..))⟩));exact⟨_,VG _ e (Obj.isFreed_of_fields (V8 d _)),(Obj.cls_mapFields ..).trans c,by rw[V8 d];simp[Zk]⟩
theorem Ee{t:Addr}(u:A.handled=none)(hi:s.heap.IsTupleIter it t i)(l:s.heap.IsTuple t its)(Y:its[i]?=none)
  (q:∀h' e,Heap.ExtBut it s.heap h'->(∃o,h'.get? e=some o/\o.cls=.type "StopIteration")->E (.ref e) { s with heap:=h' }):XO (XU prog w) A (RK (.ref it)) Q E s:=by
 obtain⟨o,e,c,d⟩:=id hi;obtain⟨b,I,_,nt,H⟩:=l;unfold RK;refine XN (Yk (name:=UY "__next__") hi.typeIs SY (Yv SY hi.typeIs Vp ?_ (Vi _)));show XO _ _ (field (.ref it) 0 >>= _) _ _ s;refine XN (Yc e d (x:=.ref t) rfl ?_);show XO _ _ (if (R9 t==Tn)=true then _ else _) _ _ s;rw[Zy (show ¬ ((R9 t==Tn)=true) from Ry)];show XO _ _ (field (.ref it) 1 >>= _) _ _ s;refine XN (Yc e d (x:=.int i 0) rfl ?_);show XO _ _ (seqItems? (.ref t) >>= _) _ _ s;refine XN (Ye I H ?_);simp only[SO,Y];refine XN (Za (XN (wpAny_setField e d Z4 ?_)));show XO _ _ (newExc (.type "StopIteration") [] >>= _) _ _ _;refine XN ?_;simp only[newExc,newTuple];refine XN (Yt ?_ (by size_fits));refine XN (m:=firstArgMember _ _) (wpAny_of_eq (a:=Tn) (by first|rfl|(simp only[firstArgMember];rfl)) ?_);refine Yt ?_ (by size_fits);simp only[raiseNew];refine XN (wpAny_handled ?_)
 first|rw[show A.in1.handled=none from u]|rw[u]
 refine XN (XT (wpAny_throw ?_));exact q _ _ (((U8 ..).extBut.push _).push _) ⟨_,Rf _ rfl,rfl⟩
end
section
variable{X:Cx}{tg:Expr}
def Mv(K:QN)(tl:TE):TI:=λY H R=>tl Y H λx V=>∃a,x=.ref a/\(((∃xs,dj K V a xs)/\R (PB K a) V)\/((∃xs,gP K V a xs)/\R (PR K a) V))
theorem EL{l:Expr}{tl:TE}(hl:PE X l tl):PI X tg l (Mv X.K tl):=by
 intro pins s Y H R I h;refine cE (hl pins s Y H _ I h) λv s1 ⟨x,V,L,g,j⟩=>?_;rcases j with ⟨a,e,⟨⟨xs,O⟩,q⟩|⟨⟨xs,O⟩,q⟩⟩
 .subst e;cases g;obtain⟨its,Z,p,hz⟩:=L.list O;refine Yj p.isList ?_;refine⟨s1.heap.objs.size,[s1.heap.objs.size],_,_,V,rfl,L.kept λb o e=>Q3 _ e,wH a _,⟨_,Rf _ rfl,rfl,rfl⟩,λb d=>?_,q⟩;have e:b=s1.heap.objs.size:=by simpa using d
  subst e;exact L.wA (QY _) (L.hok.fresh (QY _))
 .subst e;cases g;obtain⟨its,Z,p,hz⟩:=L.tuple O;refine Zc (p) ?_;refine⟨s1.heap.objs.size,[s1.heap.objs.size],_,_,V,rfl,L.kept λb o e=>Q3 _ e,tm a _,⟨_,Rf _ rfl,rfl,rfl⟩,λb d=>?_,q⟩;have e:b=s1.heap.objs.size:=by simpa using d
  subst e;exact L.wA (QY _) (L.hok.fresh (QY _))
def Ng(K:QN)(g:List Bool->Bool):List V->Hp->VK->Prop:=λxs H Q=>∃p ys bs,xs=[.ref p]/\dj K H p ys/\ys=bs.map V.bl/\Q (.bl (g bs)) H
theorem range_any{bs:List Bool}{tr:Nat->Bool}(h:∀i b,bs[i]?=some b->tr i=b):(Rb bs.length).any tr=bs.any id:=by
 have:(Rb bs.length).map tr=bs:=by
  apply Sy;intro i;rw[Rm];by_cases hi:i<bs.length
  .rw[Si hi,Rg hi,Wa,h i _ (Rg hi)]
  .rw[R1 (by simpa using hi),R1 (by simpa using hi)];rfl
 calc (Rb bs.length).any tr=((Rb bs.length).map tr).any id:=by rw[VA];rfl
  _=bs.any id:=by rw[this]
theorem BN(hc:X.calm=true):cZ X (.builtin "any") (Ng X.K λbs=>bs.any id):=by
 intro pins s Y H xs us Q I r h;obtain⟨p,ys,bs,rfl,l,rfl,q⟩:=h;obtain⟨u,rfl,S⟩:=vals1 r;cases S;obtain⟨its,r',pl,hz⟩:=I.list l;have n:=r'.length;refine call_any_walk (Yj pl.isList ?_);refine⟨s.heap.objs.size,_,_,_,_,_,(λi=>bs.getD i false),rfl,U9 (A:=X.A.in1) (I.ok.hd hc) _ p (by obtain⟨o,ho,_⟩:=pl.isList;exact Rw (Q7 ho)) its.toArray,⟨⟨_,Rf _ rfl,rfl,rfl⟩,pl.isList.at λo e=>Q3 _ e⟩,λi v s1 T B m y=>?_,λh' tk hk=>?_⟩
 .have c:its[i]?=some v:=by simpa using m
  cases O:bs[i]? with
  |none=>have h1:=SX.mp O;have h2:=(QP.mp c).1;rw[QU] at n;lia
  |some b=>
   obtain⟨u,g,F⟩:=r'.get (i:=i) (x:=.bl b) (by rw[Rm,O];rfl);rw[c] at g;cases g;cases F;have:bs.getD i false=b:=by rw[So,O];rfl
   replace y:T (bs.getD i false) s1:=y
   rw[this] at y;exact XT y
 .have e1:its.toArray.size=bs.length:=by simp at n ⊢;lia
  rw[e1,range_any (bs:=bs) λi b e=>by show bs.getD i false=b;rw[So,e];rfl];exact⟨.bl _,H,I.kept (t':=tk) λb o e=>hk b o (λz=>by have:=Rl.mp z;subst this;exact absurd (Q7 e) (Ri _)) (Q3 _ e),rfl,q⟩
end
end L2
namespace W
variable{q:Int}
theorem ib(p:Int)(h:q<0):q<p.fmod q/\p.fmod q<=0:=by
 rw[Int.fmod_eq_emod];have h2:=Int.emod_lt_of_neg p h;by_cases d:q ∣ p
 .rw[Zx (W0 d),Int.emod_eq_zero_of_dvd d];omega
 .rw[Zy (by intro z;rcases z with z|z;omega;exact d z)];omega
theorem rD(p:Int)(h:q≠0):(p.fmod q).natAbs<q.natAbs:=by
 rcases UM h with z|z
 .have:=ib p z;lia
 .have h1:=UN p z;have h2:=Tg p z;lia
theorem lM(p q:Int):RT q (p.fmod q)=RT p q:=by
 have h:p.fmod q=p-p.fdiv q*q:=by rw[Int.fmod_def,RU]
 rw[h,Int.gcd_sub_mul_right_right,UZ]
noncomputable def cd(x y:Int):Int:=if y<0 then -(RT x y:Int) else (RT x y:Int)
variable{p:Int}
theorem Cz(h:q≠0)(z:p.fmod q=0):q=cd p q:=by
 have e:=lM p q;rw[z,UO] at e
 delta cd
 split<;>lia
theorem D1(h:q≠0)(z:p.fmod q≠0):cd q (p.fmod q)=cd p q:=by
 delta cd
 rw[lM]
 rcases UM h with g|g
 .have:=ib p g
  rw[Zx Q1,Zx g]
 .have h2:=Tg p g
  rw[Zy Q1,Zy Q1]
theorem sA(x y:Int):cd x y ∣ x:=by
 delta cd;split
 .exact(Xg).mpr (U2 x y)
 .exact U2 x y
theorem pX(x y:Int):cd x y ∣ y:=by
 delta cd;split
 .exact(Xg).mpr (T4 x y)
 .exact T4 x y
theorem qW{x y:Int}(h:y≠0):cd x y≠0:=by
 have:=SK x h
 delta cd;split<;>lia
theorem B5(x y:Int):(cd x y).natAbs=RT x y:=by delta cd;split<;>lia
theorem F0{x y:Int}(h:y≠0):(cd x y).natAbs<=y.natAbs:=by rw[B5];have h1:=Int.natCast_dvd_natCast.mp (Int.dvd_natAbs.mpr (T4 x y));exact Nat.le_of_dvd Q1 h1
noncomputable abbrev Num:=Int×Int
def ck(t b:Int):Num:=(t.fdiv (cd t b),b.fdiv (cd t b))
noncomputable def HL(t b:Int):Num:=if b<0 then ((-t).fdiv (RT (-t) (-b)),(-b).fdiv (RT (-t) (-b))) else (t.fdiv (RT t b),b.fdiv (RT t b))
theorem jO{t g:Int}(J:g≠0)(d:g ∣ t):(-t).fdiv g=t.fdiv (-g):=by
 obtain⟨k,rfl⟩:=d;have e1:-(g*k)=g*(-k):=by rw[Int.mul_neg]
 have e2:g*k=(-g)*(-k):=by rw[Int.neg_mul_neg]
 rw[e1,RQ _ J,e2,RQ _ Q1]
theorem CM{t:Int}(h:b≠0):HL t b=ck t b:=by
 delta HL ck cd
 by_cases z:b<0
 .rw[Zx z,Zx z,Int.gcd_neg,Int.neg_gcd]
  have x:=SK t h
  rw[jO Q1 (U2 t b),jO Q1 (T4 t b)]
 .rw[Zy z,Zy z]
theorem rR(h:b≠0):ck 0 b=(0,1):=by
 have e:cd 0 b=b:=by unfold cd;rw[UZ,UO];split<;>lia
 unfold ck;rw[e];have h1:(b*0).fdiv b=0:=RQ 0 h;have h2:(b*1).fdiv b=1:=RQ 1 h;rw[RB] at h1;rw[SH] at h2;rw[h1,h2]
theorem Em(t:Int):ck t 1=(t,1):=by
 have e:cd t 1=1:=by have h1:=F0 (x:=t) (y:=1) Z2;have h2:=qW (x:=t) (y:=1) Z2;unfold cd at *;rw[Zy Z2] at *;lia
 unfold ck;rw[e];have h1:(1*t).fdiv 1=t:=RQ t Z2;rw[SD] at h1;rw[h1];rfl
open L2
def Ok(q:Num):Prop:=0<q.2/\RT q.1 q.2=1
theorem gF{t:Int}(h:b≠0):cd t b*(ck t b).1=t/\cd t b*(ck t b).2=b:=by
 have S:=qW (x:=t) h;obtain⟨k,hk⟩:=sA t b;obtain⟨m,hm⟩:=pX t b;have e1:t.fdiv (cd t b)=k:=by have:=RQ k S;rwa[<-hk] at this
 have e2:b.fdiv (cd t b)=m:=by have:=RQ m S;rwa[<-hm] at this
 exact⟨by show cd t b*t.fdiv (cd t b)=t;rw[e1];exact hk.symm,by show cd t b*b.fdiv (cd t b)=b;rw[e2];exact hm.symm⟩
theorem lD{t:Int}(h:b≠0):(0<b->0<cd t b)/\(b<0->cd t b<0):=by
 have:=SK t h
 delta cd
 constructor
 .intro z;rw[Zy Q1];lia
 .intro z;rw[Zx z];lia
theorem vb{t:Int}(h:b≠0):0<(ck t b).2:=by
 obtain⟨_,e⟩:=gF (t:=t) h;obtain⟨s1,s2⟩:=lD (t:=t) h;rcases UM h with z|z
 .have c:=s2 z;rcases VI 0 (ck t b).2 with q|q
  .exact q
  .have:=Int.mul_nonneg_of_nonpos_of_nonpos (SE c) q;lia
 .have c:=s1 z;rcases VI 0 (ck t b).2 with q|q
  .exact q
  .have:=Int.mul_nonpos_of_nonneg_of_nonpos (SE c) q;lia
theorem jk{t:Int}(h:b≠0):Ok (ck t b):=by
 refine⟨vb h,?_⟩;obtain⟨e1,e2⟩:=gF h;have g:RT (cd t b*(ck t b).1) (cd t b*(ck t b).2)=(cd t b).natAbs*RT (ck t b).1 (ck t b).2:=Int.gcd_mul_left _ _ _;rw[e1,e2,B5] at g;have p:=SK t h;have:RT t b*1=RT t b*RT (ck t b).1 (ck t b).2:=by rw[Nat.mul_one];exact g
 exact(Vq p this).symm
theorem BH{q:Num}(h:Ok q):ck q.1 q.2=q:=by
 have e:cd q.1 q.2=1:=by unfold cd;rw[Zy (by have:=h.1;lia),h.2];rfl
 unfold ck;rw[e];have h1:∀x:Int,x.fdiv 1=x:=λx=>by have:=RQ (a:=1) x Z2;rwa[SD] at this
 rw[h1,h1]
theorem Hv{t:Int}(h:0<b):(ck t b).1<0↔t<0:=by
 obtain⟨e,_⟩:=gF (t:=t) (b:=b) Q1;have c:=(lD (t:=t) (b:=b) Q1).1 h;constructor
 .intro z;have:=Int.mul_neg_of_pos_of_neg c z;lia
 .intro z;rcases VI (ck t b).1 0 with q|q
  .exact q
  .have:=Int.mul_nonneg (SE c) q;lia
variable{c:Int}
theorem md{x:Int}(h:c≠0):x.natAbs<=(c*x).natAbs:=by rw[R3];exact Nat.le_mul_of_pos_left _ Q1
theorem A8{t:Int}{m n:Nat}(h:b≠0)(h1:Bd m t)(h2:Bd n b):Bd m (ck t b).1/\Bd n (ck t b).2:=by obtain⟨e1,e2⟩:=gF h;have a1:=md (x:=(ck t b).1) (qW (x:=t) h);have Y:=md (x:=(ck t b).2) (qW (x:=t) h);rw[e1] at a1;rw[e2] at Y;exact⟨RN a1 h1,RN Y h2⟩
structure NB(n:Nat)(q:Num):Prop where
 ok:Ok q
 b1:Bd n q.1
 b2:Bd n q.2
theorem NB.nz{n:Nat}{q:Num}(h:NB n q):q.2≠0:=by have:=h.ok.1;lia
theorem NB.ck{t b:Int}{n:Nat}(h:b≠0)(h1:Bd n t)(h2:Bd n b):NB n (ck t b):=⟨jk h,(A8 h h1 h2).1,(A8 h h1 h2).2⟩
def xK(x y:Num):Num:=ck (x.1*y.2+y.1*x.2) (x.2*y.2)
def wy(x y:Num):Num:=ck (x.1*y.1) (x.2*y.2)
noncomputable def nv(x:Num):Rat:=XF x.1 x.2
theorem mI{t:Int}(h:b≠0):nv (ck t b)=XF t b:=by
 obtain⟨e1,e2⟩:=gF h;have p:=vb (t:=t) h
 delta nv
 rw[T5 Q1 h];generalize (ck t b).1=k at e1 ⊢;generalize (ck t b).2=m at e2 p ⊢;rw[<-e1];rw[show k*b=k*(cd t b*m) from by rw[e2]];rw[Int.mul_left_comm,UH]
theorem Jm{x y:Num}(h:Ok x)(k:Ok y):nv (xK x y)=nv x+nv y:=by
 have h1:=h.1;have r:=k.1
 delta xK
 rw[mI (R8 Q1 Q1)];exact(Rat.divInt_add_divInt _ _ Q1 Q1).symm
theorem Kl{x y:Num}(h:Ok x)(k:Ok y):nv (wy x y)=nv x*nv y:=by
 have h1:=h.1;have r:=k.1
 delta wy
 rw[mI (R8 Q1 Q1)];exact(Rat.divInt_mul_divInt _ _).symm
theorem J5{x y:Num}(h:Ok x)(k:Ok y):Ok (xK x y):=jk (R8 (by have:=h.1;lia) (by have:=k.1;lia))
theorem yr{x y:Num}(h:Ok x)(k:Ok y):Ok (wy x y):=jk (R8 (by have:=h.1;lia) (by have:=k.1;lia))
theorem NQ{a:Int}(h:a ∣ b*c)(g:RT a b=1):a ∣ c:=by
 have h1:a.natAbs ∣ b.natAbs*c.natAbs:=by rw[<-R3];exact VQ.mpr h
 exact VQ.mp (XG (g) h1)
theorem Gr{x y:Num}(h:Ok x)(k:Ok y)(e:nv x=nv y):x=y:=by
 have h1:=h.1;have r:=k.1
 delta nv at e
 rw[T5 Q1 Q1] at e;have Q:=NQ (⟨y.1,by rw[e,RU]⟩) (by rw[UZ];exact h.2);have b:=NQ (⟨x.1,by rw[<-e,RU]⟩) (by rw[UZ];exact k.2);have e2:=Int.dvd_antisymm (by exact SE ‹_›) (by exact SE ‹_›) Q b;rw[e2] at e;have e1:=Sr Q1 e;exact Prod.ext e1 e2
section
variable{x y z:Num}(hx:Ok x)(hy:Ok y)(hz:Ok z)
noncomputable def KN(x y:Num):Bool:=decide (x.1*y.2<y.1*x.2)
include hx hy in
end
theorem wU{q:Num}(h:Ok q)(n:b≠0):ck (q.1*b) (q.2*b)=q:=by have h1:=h.1;refine Gr (jk (R8 Q1 n)) h ?_;rw[mI (R8 Q1 n)];unfold nv;rw[T5 (R8 Q1 n) Q1,UH,RU b]
end W
set_option maxHeartbeats 1000000
namespace W
open L2 PySem
abbrev Pr:=Str×Num
def Ij(ps:List Pr)(n:Str):Num:=ps.foldl (λacc p=>if p.1=n then xK acc p.2 else acc) (0,1)
end W
namespace M
open PySem L2
inductive A where
 |non|bl(b:Bool)|int(i:Int)|str(x:Str)|tup(xs:List A)|lst(xs:List A)|dic(kvs:List (Key×A))|exc(c:Str)|obj(c:Str)(fs:List (Str×A))|dit(kvs:List (List Key×A))|opq
structure Kx where
 K:QN
 mg:Str->Option Value
 P:Program
 w:XX
def Qs:List (List Key×Addr×V)->List (List Key×Addr×Value)->Prop:=Paired λx y=>x.1=y.1/\x.2.1=y.2.1/\RelV x.2.2 y.2.2
def dX(P:Program)(w:XX)(p:Addr)(xs:List (List Key×Addr×V)):HO:=.exd λh=>xs.length<=sizeLine/\(p==Y9)=false/\∃ys,Qs xs ys /\
 ∃o es i,h.get? p=some o/\o.ExactDict/\o.data=.dict es i/\es.toList=ys.map (entryOfKey (tupleKind (iI P w)))/\(ys.map (·.1)).Nodup
mutual
inductive RA(k:Kx)(G:Hp):V->A->Prop
 |non:RA k G .non .non
 |bl(b:Bool):RA k G (.bl b) (.bl b)
 |int(i:Int):RA k G (.int i) (.int i)
 |str(x:Str):RA k G (.str x) (.str x)
 |tup{p:Addr}{vs:List V}{as:List A}(e:gP k.K G p vs)(r:bU k G vs as):RA k G (.ref p) (.tup as)
 |lst{p:Addr}{vs:List V}{as:List A}(e:dj k.K G p vs)(r:bU k G vs as):RA k G (.ref p) (.lst as)
 |dic{p:Addr}{vs:List (Key×V)}{as:List (Key×A)}(e:Rd G p (.dK vs))(r:xp k G vs as):RA k G (.ref p) (.dic as)
 |exc{p C:Addr}{c:Str}(e:G p=some (Ow p C))(m:k.mg c=some (.ref C)):RA k G (.ref p) (.exc c)
 |obj{p C dx:Addr}{c:Str}{vs:List (Str×V)}{fs:List (Str×A)}(e:G p=some (.ins C dx vs))(m:k.mg c=some (.ref C))(r:ip k G vs fs):RA k G (.ref p) (.obj c fs)
 |dit{p:Addr}{vs:List (List Key×Addr×V)}{as:List (List Key×A)}(e:Rd G p (dX k.P k.w p vs))(r:Co k G vs as):RA k G (.ref p) (.dit as)
 |opq{p:Addr}:RA k G (.ref p) .opq
inductive bU(k:Kx)(G:Hp):List V->List A->Prop
 |nil:bU k G [] []
 |cons{v:V}{a:A}{vs:List V}{as:List A}(h:RA k G v a)(r:bU k G vs as):bU k G (v::vs) (a::as)
inductive ip(k:Kx)(G:Hp):List (Str×V)->List (Str×A)->Prop
 |nil:ip k G [] []
 |cons{y:Str}{v:V}{a:A}{vs:List (Str×V)}{as:List (Str×A)}(h:RA k G v a)(r:ip k G vs as):ip k G ((y,v)::vs) ((y,a)::as)
inductive Co(k:Kx)(G:Hp):List (List Key×Addr×V)->List (List Key×A)->Prop
 |nil:Co k G [] []
 |cons{y:List Key}{b:Addr}{v:V}{a:A}{vs:List (List Key×Addr×V)}{as:List (List Key×A)}(e:gP k.K G b (y.map kV))(h:RA k G v a)(r:Co k G vs as):Co k G ((y,b,v)::vs) ((y,a)::as)
inductive xp(k:Kx)(G:Hp):List (Key×V)->List (Key×A)->Prop
 |nil:xp k G [] []
 |cons{y:Key}{v:V}{a:A}{vs:List (Key×V)}{as:List (Key×A)}(h:RA k G v a)(r:xp k G vs as):xp k G ((y,v)::vs) ((y,a)::as)
end
noncomputable def uf:HO->Option HO
 | .dK kvs=>some (.dK kvs)
 | .frz _ (.dK kvs)=>some (.dK kvs)
 | .exd Z=>some (.exd Z)
 | .frz _ (.exd Z)=>some (.exd Z)
 |_=>none
def Oq(o o':HO):Prop:=o'=o\/∃d,uf o=some d/\uf o'=some d
variable{G:Hp}{d:HO}
theorem u5{b:Addr}{o:HO}(h:G b=some o)(e:uf o=some d):Rd G b d:=by
 cases o with
 |dK=>cases e;exact .inl h
 |exd=>cases e;exact .inl h
 |frz b o=>
  cases o with
  |dK=>cases e;exact .inr ⟨_,h⟩
  |exd=>cases e;exact .inr ⟨_,h⟩
  |_=>exact kj e
 |_=>exact kj e
variable{kvs:List (Key×V)}
theorem Nh{b:Addr}(h:Rd G b (.dK kvs)):∃o,G b=some o/\uf o=some (.dK kvs):=by
 rcases h with h|⟨o,h⟩
 .exact⟨_,h,rfl⟩
 .exact⟨_,h,rfl⟩
theorem NA{b:Addr}{Z:Heap->Prop}(h:Rd G b (.exd Z)):∃o,G b=some o/\uf o=some (.exd Z):=by
 rcases h with h|⟨o,h⟩
 .exact⟨_,h,rfl⟩
 .exact⟨_,h,rfl⟩
def Sq(G G':Hp):Prop:=∀b o,G b=some o->∃o',G' b=some o'/\Oq o o'
variable{G':Hp}
theorem Sq.of(h:Oh G G'):Sq G G':=λb o e=>⟨o,h b o e,.inl rfl⟩
theorem Sq.refl(G:Hp):Sq G G:=λb o e=>⟨o,e,.inl rfl⟩
theorem Sq.keep(h:Sq G G'){b:Addr}{o:HO}(e:G b=some o)(n:uf o=none):G' b=some o:=by
 obtain⟨o',h1,h2⟩:=h b o e;rcases h2 with rfl|⟨kvs,h3,_⟩
 .exact h1
 .rw[n] at h3;cases h3
theorem Sq.P0(h:Sq G G'){b:Addr}{o:HO}(e:G b=some o)(k:uf o=some d):Rd G' b d:=by
 obtain⟨o',h1,h2⟩:=h b o e;rcases h2 with rfl|⟨x,h3,h4⟩
 .exact u5 h1 k
 .rw[k] at h3;cases h3;exact u5 h1 h4
theorem Sq.OT(h:Sq G G'){b:Addr}(r:Rd G b (.dK kvs)):Rd G' b (.dK kvs):=by obtain⟨o,e,d⟩:=Nh r;exact h.P0 e d
theorem Sq.Qa(h:Sq G G'){b:Addr}{Z:Heap->Prop}(r:Rd G b (.exd Z)):Rd G' b (.exd Z):=by obtain⟨o,e,d⟩:=NA r;exact h.P0 e d
variable{p:Addr}{vs:List V}
theorem fP{K:QN}(h:Sq G G')(q:gP K G p vs):gP K G' p vs:=q.imp (λr=>by
 rcases r with r|⟨o,r⟩
 .exact .inl (h.keep r rfl)
 .exact .inr ⟨o,h.keep r rfl⟩) id
theorem dQ{K:QN}(h:Sq G G')(q:dj K G p vs):dj K G' p vs:=q.imp (λr=>by
 rcases r with r|⟨o,r⟩
 .exact .inl (h.keep r rfl)
 .exact .inr ⟨o,h.keep r rfl⟩) id
section
variable{k:Kx}{G G':Hp}
mutual
theorem RA.sm(s:Sq G G'):∀{v:V}{a:A},RA k G v a->RA k G' v a
 |_,_,.non=>.non
 |_,_,.bl b=>.bl b
 |_,_,.int i=>.int i
 |_,_,.str x=>.str x
 |_,_,.tup e r=>.tup (fP s e) (bU.sm s r)
 |_,_,.lst e r=>.lst (dQ s e) (bU.sm s r)
 |_,_,.dic e r=>.dic (s.OT e) (xp.sm s r)
 |_,_,.exc e m=>.exc (s.keep e rfl) m
 |_,_,.obj e m r=>.obj (s.keep e rfl) m (ip.sm s r)
 |_,_,.dit e r=>.dit (s.Qa e) (Co.sm s r)
 |_,_,.opq=>.opq
theorem ip.sm(s:Sq G G'):∀{vs:List (Str×V)}{as:List (Str×A)},ip k G vs as->ip k G' vs as
 |_,_,.nil=>.nil
 |_,_,.cons h r=>.cons (RA.sm s h) (ip.sm s r)
theorem bU.sm(s:Sq G G'):∀{vs:List V}{as:List A},bU k G vs as->bU k G' vs as
 |_,_,.nil=>.nil
 |_,_,.cons h r=>.cons (RA.sm s h) (bU.sm s r)
theorem Co.sm(s:Sq G G'):∀{vs:List (List Key×Addr×V)}{as:List (List Key×A)},Co k G vs as->Co k G' vs as
 |_,_,.nil=>.nil
 |_,_,.cons e h r=>.cons (fP s e) (RA.sm s h) (Co.sm s r)
theorem xp.sm(s:Sq G G'):∀{vs:List (Key×V)}{as:List (Key×A)},xp k G vs as->xp k G' vs as
 |_,_,.nil=>.nil
 |_,_,.cons h r=>.cons (RA.sm s h) (xp.sm s r)
end
theorem bU.len:∀{vs:List V}{as:List A},bU k G vs as->vs.length=as.length
 |_,_,.nil=>rfl
 |_,_,.cons _ r=>by rw[Q4,Q4,r.len]
theorem bU.ta:∀{vs:List V}{as:List A}{i:Nat}{a:A},bU k G vs as->as[i]?=some a->∃v,vs[i]?=some v/\RA k G v a
 |_,_,_,_,.nil,e=>by simp at e
 |_,_,0,_,.cons h _,e=>by cases e;exact⟨_,rfl,h⟩
 |_,_,i+1,_,.cons _ r,e=>r.ta e
theorem bU.app:∀{vs us:List V}{as bs:List A},bU k G vs as->bU k G us bs->bU k G (vs++us) (as++bs)
 |_,_,_,_,.nil,s=>s
 |_,_,_,_,.cons h r,s=>.cons h (r.app s)
theorem bU.snoc{as:List A}{v:V}{a:A}(r:bU k G vs as)(h:RA k G v a):bU k G (vs++[v]) (as++[a]):=r.app (.cons h .nil)
theorem bU.rev:∀{vs:List V}{as:List A},bU k G vs as->bU k G vs.reverse as.reverse
 |_,_,.nil=>.nil
 |_,_,.cons h r=>by rw[TU,TU];exact r.rev.snoc h
theorem bU.take:∀{vs:List V}{as:List A}(n:Nat),bU k G vs as->bU k G (vs.take n) (as.take n)
 |_,_,0,_=>.nil
 |_,_,_+1,.nil=>.nil
 |_,_,n+1,.cons h r=>.cons h (r.take n)
theorem bU.drop:∀{vs:List V}{as:List A}(n:Nat),bU k G vs as->bU k G (vs.drop n) (as.drop n)
 |_,_,0,r=>r
 |_,_,_+1,.nil=>.nil
 |_,_,n+1,.cons _ r=>r.drop n
theorem bU.set{v:V}{a:A}(h:RA k G v a):∀{vs:List V}{as:List A}(i:Nat),bU k G vs as->bU k G (vs.set i v) (as.set i a)
 |_,_,_,.nil=>.nil
 |_,_,0,.cons _ r=>.cons h r
 |_,_,i+1,.cons q r=>.cons q (r.set h i)
theorem ip.len:∀{vs:List (Str×V)}{as:List (Str×A)},ip k G vs as->vs.length=as.length
 |_,_,.nil=>rfl
 |_,_,.cons _ r=>by rw[Q4,Q4,r.len]
theorem ip.get:∀{vs:List (Str×V)}{as:List (Str×A)}(y:Str),ip k G vs as->(∃v a,vs.lookup y=some v/\as.lookup y=some a/\RA k G v a)\/(vs.lookup y=none/\as.lookup y=none)
 |_,_,y,.nil=>.inr ⟨rfl,rfl⟩
 |_,_,y,.cons (y:=z) (v:=v) (a:=a) h r=>by
  rw[Q6,Q6];cases c:y==z with
  |true=>exact .inl ⟨v,a,rfl,rfl,h⟩
  |false=>exact r.get y
def kM(f:Str)(a:A):List (Str×A)->List (Str×A)
 |[]=>[(f,a)]
 |(g,b)::fs=>if g=f then (g,a)::fs else (g,b)::kM f a fs
theorem ip.put{f:Str}{v:V}{a:A}(h:RA k G v a):∀{vs:List (Str×V)}{as:List (Str×A)},ip k G vs as->ip k G (dR f v vs) (kM f a as)
 |_,_,.nil=>.cons h .nil
 |_,_,.cons (y:=z) q r=>by
  unfold dR kM;split
  .exact .cons h r
  .exact .cons q (ip.put h r)
end
noncomputable def cut(H:Hp)(L:List Addr):Hp:=λa=>if a∈L then none else H a
variable{H:Hp}{L:List Addr}
theorem A9{a:Addr}(h:a∈L):cut H L a=none:=Zx h
theorem qk{a:Addr}(h:a∉L):cut H L a=H a:=Zy h
theorem AK(H:Hp)(L:List Addr):Sq (cut H L) H:=Sq.of λb o e=>by
 delta cut at e
 split at e
 .cases e
 .exact e
variable{L':List Addr}
theorem Ae(h:∀a,a∈L'->a∈L):Sq (cut H L) (cut H L'):=Sq.of λb o e=>by
 by_cases c:b∈L
 .rw[A9 c] at e;cases e
 .rw[qk c] at e;rw[qk λz=>c (h b z)];exact e
inductive LO where
 |lst(xs:List A)|dic(kvs:List (Key×A))|obj(c:Str)(fs:List (Str×A))|dit(kvs:List (List Key×A))|nob(c:Str)(fs:List (Str×A))(ls:List (Str×List A))
def LO.a:LO->A
 | .lst xs=>.lst xs
 | .dic kvs=>.dic kvs
 | .obj c fs=>.obj c fs
 | .dit kvs=>.dit kvs
 | .nob c fs ls=>.obj c (fs++ls.map λp=>(p.1,.lst p.2))
def LO.rd:LO->Option A
 | .lst xs=>some (.lst xs)
 | .dic kvs=>some (.dic kvs)
 | .obj c fs=>some (.obj c fs)
 | .dit kvs=>some (.dit kvs)
 | .nob _ _ _=>none
inductive Sl where
 |un|fr(a:A)|lv(o:LO)|pv(o:LO)|cf(a:A)
inductive eX(k:Kx)(G H:Hp):List (Str×V)->List (Str×List A)->List Addr->Prop
 |nil:eX k G H [] [] []
 |cons{y:Str}{a:Addr}{us:List V}{xs:List A}{ws:List (Str×V)}{ls:List (Str×List A)}{q:List Addr}(e:H a=some (.lst us))(r:bU k G us xs)(t:eX k G H ws ls q):eX k G H ((y,.ref a)::ws) ((y,xs)::ls) (a::q)
inductive LR(k:Kx)(G H:Hp)(p:Addr):LO->List Addr->Prop
 |lst{vs:List V}{as:List A}(e:H p=some (.lst vs))(r:bU k G vs as):LR k G H p (.lst as) []
 |dic{vs:List (Key×V)}{as:List (Key×A)}(e:H p=some (.dK vs))(r:xp k G vs as):LR k G H p (.dic as) []
 |obj{C dx:Addr}{c:Str}{vs:List (Str×V)}{fs:List (Str×A)}(e:H p=some (.ins C dx vs))(m:k.mg c=some (.ref C))(r:ip k G vs fs):LR k G H p (.obj c fs) []
 |dit{vs:List (List Key×Addr×V)}{as:List (List Key×A)}(e:H p=some (dX k.P k.w p vs))(r:Co k G vs as):LR k G H p (.dit as) []
 |nob{C dx:Addr}{c:Str}{vs ws:List (Str×V)}{fs:List (Str×A)}{ls:List (Str×List A)}{q:List Addr}(e:H p=some (.ins C dx (vs++ws)))(m:k.mg c=some (.ref C))(r:ip k G vs fs)(l:eX k G H ws ls q):LR k G H p (.nob c fs ls) q
inductive fE(k:Kx)(G H:Hp):Option V->Sl->List Addr->Prop
 |un(x:Option V):fE k G H x .un []
 |fr{v:V}{a:A}(h:RA k G v a):fE k G H (some v) (.fr a) []
 |lv{p:Addr}{o:LO}{q:List Addr}(h:LR k G H p o q):fE k G H (some (.ref p)) (.lv o) (p::q)
 |pv{p:Addr}{o:LO}{q:List Addr}(h:LR k G H p o q):fE k G H (some (.ref p)) (.pv o) (p::q)
 |cf{v:V}{a:A}(h:RA k G v a):fE k G H (some v) (.cf a) []
inductive ax(k:Kx)(G H:Hp):St->List Sl->List Addr->Prop
 |nil:ax k G H [] [] []
 |cons{x:Option V}{s:Sl}{Y:St}{Z:List Sl}{L L':List Addr}(h:fE k G H x s L)(r:ax k G H Y Z L'):ax k G H (x::Y) (s::Z) (L++L')
variable{ws:List (Str×V)}{q:List Addr}
section
variable{k:Kx}{G G' H H':Hp}{L:List Addr}
theorem eX.is{ls:List (Str×List A)}(h:eX k G H ws ls q):∀a∈q,∃u,H a=some u:=by
 induction h with
 |nil=>intro a f;cases f
 |cons e r t m=>intro b d;rcases QV.mp d with rfl|d;exact⟨_,e⟩;exact m b d
theorem eX.sm(s:Sq G G'){ws:List (Str×V)}{ls:List (Str×List A)}{q:List Addr}(h:eX k G H ws ls q):(∀a∈q,∀u,H a=some u->H' a=some u)->eX k G' H' ws ls q:=by
 induction h with
 |nil=>intro _;exact .nil
 |cons e r t m=>intro k;exact .cons (k _ Q5 _ e) (r.sm s) (m λb d=>k b (QW _ d))
theorem eX.a(s:Sq G G'){ws:List (Str×V)}{ls:List (Str×List A)}{q:List Addr}(h:eX k G H ws ls q):(∀a∈q,∀u,H a=some u->G' a=some u)->ip k G' ws (ls.map λp=>(p.1,A.lst p.2)):=by
 induction h with
 |nil=>intro _;exact .nil
 |cons e r t m=>intro k;exact .cons (.lst (.inl (.inl (k _ Q5 _ e))) (r.sm s)) (m λb d=>k b (QW _ d))
theorem ip.app{vs:List (Str×V)}{as bs:List (Str×A)}(h:ip k G vs as)(h':ip k G ws bs):ip k G (vs++ws) (as++bs):=by
 induction vs generalizing as with
 |nil=>cases h;exact h'
 |cons v vs m=>cases h with|cons q r=>exact .cons q (m r)
theorem LR.is{p:Addr}{o:LO}{q:List Addr}(h:LR k G H p o q):∀a∈p::q,∃u,H a=some u:=by
 intro a f;rcases QV.mp f with rfl|f
 .cases h with|lst e _=>exact⟨_,e⟩|dic e _=>exact⟨_,e⟩|obj e _ _=>exact⟨_,e⟩|dit e _=>exact⟨_,e⟩|nob e _ _ _=>exact⟨_,e⟩
 .cases h with|lst e _=>cases f|dic e _=>cases f|obj e _ _=>cases f|dit e _=>cases f|nob _ _ _ l=>exact l.is a f
theorem LR.sm(s:Sq G G'){p:Addr}{o:LO}{q:List Addr}(e:∀a∈p::q,∀u,H a=some u->H' a=some u)(h:LR k G H p o q):LR k G' H' p o q:=by
 have I:=e p Q5;cases h with
 |lst q r=>exact .lst (I _ q) (r.sm s)
 |dic q r=>exact .dic (I _ q) (r.sm s)
 |obj q m r=>exact .obj (I _ q) m (r.sm s)
 |dit q r=>exact .dit (I _ q) (r.sm s)
 |nob q m r l=>exact .nob (I _ q) m (r.sm s) (l.sm s λa f=>e a (QW _ f))
theorem fE.is{x:Option V}{t:Sl}(h:fE k G H x t L):∀p∈L,∃u,H p=some u:=by
 cases h with
 |un=>intro p hp;cases hp
 |fr=>intro p hp;cases hp
 |lv h=>exact h.is
 |pv h=>exact h.is
 |cf=>intro p hp;cases hp
theorem fE.sm(s:Sq G G'){x:Option V}{t:Sl}(e:∀p∈L,∀u,H p=some u->H' p=some u)(h:fE k G H x t L):fE k G' H' x t L:=by
 cases h with
 |un=>exact .un _
 |fr h=>exact .fr (h.sm s)
 |lv h=>exact .lv (h.sm s e)
 |pv h=>exact .pv (h.sm s e)
 |cf h=>exact .cf (h.sm s)
theorem ax.is:∀{Y:St}{Z:List Sl}{L:List Addr},ax k G H Y Z L->∀p∈L,∃u,H p=some u
 |_,_,_,.nil,p,hp=>by cases hp
 |_,_,_,.cons h r,p,hp=>(Q0.mp hp).elim (h.is p) (r.is p)
theorem ax.sm(s:Sq G G'):∀{Y:St}{Z:List Sl}{L:List Addr},(∀p∈L,∀u,H p=some u->H' p=some u)->ax k G H Y Z L->ax k G' H' Y Z L
 |_,_,_,_,.nil=>.nil
 |_,_,_,e,.cons h r=>.cons (h.sm s λp hp=>e p (QR _ hp)) (r.sm s λp hp=>e p (QO _ hp))
theorem ax.len:∀{Y:St}{Z:List Sl}{L:List Addr},ax k G H Y Z L->Y.length=Z.length
 |_,_,_,.nil=>rfl
 |_,_,_,.cons _ r=>by rw[Q4,Q4,r.len]
theorem ax.at:∀{Y:St}{Z:List Sl}{L:List Addr}{i:Nat}{s:Sl},ax k G H Y Z L->Z[i]?=some s->
  ∃x A L2 K,Y[i]?=some x/\fE k G H x s L2/\L=A++L2++K/\∀{G' H':Hp}{y:Option V}{t:Sl}{L':List Addr},Sq G G'->(∀p∈A++K,∀u,H p=some u->H' p=some u)->fE k G' H' y t L'->ax k G' H' (Y.set i y) (Z.set i t) (A++L'++K)
 |_,_,_,_,_,.nil,e=>by simp at e
 |_,_,_,0,_,.cons (x:=x) (L:=L) (L':=L') h r,e=>by cases e;refine⟨x,[],L,L',rfl,h,by simp,λsm e q=>?_⟩;simp only[List.set_cons_zero,Tz];exact .cons q (r.sm sm (by simpa using e))
 |_,_,_,i+1,_,.cons (L:=L) h r,e=>by obtain⟨x,A,L2,K,e1,e2,N,X⟩:=ax.at (i:=i) r e;refine⟨x,L++A,L2,K,e1,e2,by rw[N];simp,λsm e q=>?_⟩;simp only[List.set_cons_succ];have:=ax.cons (h.sm sm λp hp=>e p (by simp[hp])) (X sm (λp hp=>e p (by rcases Q0.mp hp with z|z<;>simp[z])) q);simpa[QQ] using this
theorem ax.app:∀{Y B:St}{Z θ:List Sl}{L L':List Addr},ax k G H Y Z L->ax k G H B θ L'->ax k G H (Y++B) (Z++θ) (L++L')
 |_,_,_,_,_,_,.nil,s=>s
 |_,_,_,_,_,_,.cons h r,s=>by have:=ax.cons h (r.app s);simpa[QQ] using this
theorem ax.split:∀{Y B:St}{Z θ:List Sl}{L:List Addr},Y.length=Z.length->ax k G H (Y++B) (Z++θ) L->∃A L2,L=A++L2/\ax k G H Y Z A/\ax k G H B θ L2
 |[],_,[],_,L,_,h=>⟨[],L,rfl,.nil,h⟩
 |x::Y,B,s::Z,θ,_,e,.cons (L:=L) h r=>by obtain⟨A,L2,e1,g,l⟩:=ax.split (by simpa using e) r;exact⟨L++A,L2,by rw[e1];simp,.cons h g,l⟩
 |_::_,_,[],_,_,e,_=>by simp at e
 |[],_,_::_,_,_,e,_=>by simp at e
theorem ax.lE:∀{vs:List V}{as:List A},bU k G vs as->ax k G H (vs.map some) (as.map Sl.fr) []
 |_,_,.nil=>.nil
 |_,_,.cons h r=>ax.cons (.fr h) (ax.lE r)
theorem ax.FT:∀{vs:List V}{as:List A}{L:List Addr},ax k G H (vs.map some) (as.map Sl.fr) L->L=[]/\bU k G vs as
 |[],[],_,.nil=>⟨rfl,.nil⟩
 |v::vs,a::as,_,.cons h r=>by
  cases h with
  |fr h=>obtain⟨e,q⟩:=ax.FT r;exact⟨by rw[e];rfl,.cons h q⟩
end
structure Cn extends Kx where
 σ0:St
 H0:Hp
 Lp:List Addr
 Hd:List Addr
 Wk:List (Addr×HO)
def Cn.g(c:Cn)(H:Hp)(L:List Addr):Hp:=cut H (L++c.Hd)
structure Fr(c:Cn)(H:Hp):Prop where
 st:∀b o,c.H0 b=some o->∃u,H b=some u/\(b∉c.Lp->(∀w,(b,w)∉c.Wk)->u=o)
 pk:∀p∈c.Wk,H p.1=some p.2/\(∃ob d,p.2=.frz ob d)/\p.1∉c.Hd
variable{c:Cn}
theorem Fr.new{o:HO}(f:Fr c H)(h:H p=none):Fr c (upd H p o):=⟨λb u e=>by
 obtain⟨w,h1,h2⟩:=f.st b u e;exact⟨w,by rw[ao (aD h1 h)];exact h1,h2⟩,λq l=>by
 obtain⟨h1,h2⟩:=f.pk q l;exact⟨by rw[ao (aD h1 h)];exact h1,h2⟩⟩
theorem Fr.fresh(f:Fr c H)(h:H p=none):c.H0 p=none:=by
 cases e:c.H0 p with
 |none=>rfl
 |some o=>obtain⟨u,h1,_⟩:=f.st p o e;rw[h] at h1;cases h1
noncomputable def cst:Sl->Bool
 | .pv _=>true
 | .cf _=>true
 |_=>false
def fg(σ0 Y:St)(Z:List Sl):Prop:=∀(i:Nat)(s:Sl),Z[i]?=some s->cst s=true->Y[i]?=σ0[i]?
structure d9(c:Cn)(Y:St)(H:Hp)(Z:List Sl)(B:St)(θ:List Sl)(L:List Addr):Prop where
 nd:L.Nodup
 rel:ax c.toKx (c.g H L) H (B++Y) (θ++Z) L
 own:∀p∈L,p∈c.Lp\/c.H0 p=none
 fr:Fr c H
 kp:fg c.σ0 Y Z
 lt:B.length=θ.length
 hd:∀p∈c.Hd,(∃u,c.H0 p=some u)/\p∉c.Lp
theorem g_same(c:Cn)(H:Hp)(L:List Addr):Sq (c.g H L) H:=AK _ _
theorem dz(h:∀a,a∈L'->a∈L):Sq (c.g H L) (c.g H L'):=Ae λa f=>by
 rcases Q0.mp f with z|z
 .exact QR _ (h a z)
 .exact QO _ z
theorem gZ{a:Addr}(h:a∈L\/a∈c.Hd):c.g H L a=none:=A9 (by simpa using h)
theorem bM{a:Addr}(h:a∉L)(h':a∉c.Hd):c.g H L a=H a:=qk (by simp[h,h'])
variable{Y B:St}{Z θ:List Sl}
theorem d9.ye(b:d9 c Y H Z B θ L)(h:p∈L):p∉c.Hd:=λz=>by
 obtain⟨⟨u,e⟩,n⟩:=b.hd p z;rcases b.own p h with y|y
 .exact n y
 .rw[y] at e;cases e
theorem d9.MT(b:d9 c Y H Z B θ L)(h:H p=none):p∉c.Hd:=λz=>by obtain⟨⟨u,e⟩,n⟩:=b.hd p z;rw[b.fr.fresh h] at e;cases e
def Bd(c:Cn)(Y:St)(H:Hp)(Z:List Sl)(B:St)(θ:List Sl):Prop:=∃L,d9 c Y H Z B θ L
variable{s:Sl}{u:HO}{o o':LO}{i:Nat}{α:Type}
section
variable{c:Cn}{Y:St}{H:Hp}{Z:List Sl}{B:St}{θ:List Sl}
theorem Bd.qP(b:Bd c Y H Z B θ):Y.length=Z.length:=by obtain⟨L,b⟩:=b;have:=b.rel.len;rw[Rc,Rc,b.lt] at this;lia
theorem Bd.push{v:V}{a:A}(b:Bd c Y H Z B θ)(h:∀G,RA c.toKx G v a):Bd c Y H Z (some v::B) (.fr a::θ):=by obtain⟨L,b⟩:=b;exact⟨L,b.nd,ax.cons (L:=[]) (.fr (h _)) b.rel,b.own,b.fr,b.kp,by simp[b.lt],b.hd⟩
theorem Bd.pop{x:Option V}(b:Bd c Y H Z (x::B) (s::θ)):Bd c Y H Z B θ:=by
 obtain⟨L,b⟩:=b;obtain⟨nd,rel,own,fr,kp,lt,n⟩:=b;cases rel with
 |cons h r=>rename_i A L2;exact⟨L2,(Q2.mp nd).2.1,r.sm (dz λa f=>QO _ f) (λ_ _ _ e=>e),λp hp=>own p (QO _ hp),fr,kp,by simpa using lt,n⟩
theorem Bd.CO:∀{xs:St}{ss:List Sl},xs.length=ss.length->Bd c Y H Z (xs++B) (ss++θ)->Bd c Y H Z B θ
 |[],[],_,b=>b
 |x::xs,s::ss,e,b=>Bd.CO (by simpa using e) (Bd.pop b)
 |[],_::_,e,_=>by simp at e
 |_::_,[],e,_=>by simp at e
theorem Bd.new{p:Addr}{o:HO}(b:Bd c Y H Z B θ)(h:H p=none):Bd c Y (upd H p o) Z B θ:=by
 obtain⟨L,b⟩:=b;have hp:p∉L:=λz=>by obtain⟨u,e⟩:=b.rel.is p z;rw[h] at e;cases e
 refine⟨L,b.nd,b.rel.sm (Sq.of λa u e=>?_) (λq l u e=>by rw[ao (aD e h)];exact e),b.own,b.fr.new h,b.kp,b.lt,b.hd⟩;by_cases z:a∈L\/a∈c.Hd
 .rw[gZ z] at e;cases e
 .rw[bM (λy=>z (.inl y)) (λy=>z (.inr y))] at e;rw[bM (λy=>z (.inl y)) (λy=>z (.inr y)),ao (aD e h)];exact e
theorem Bd.lE{as:List A}(b:Bd c Y H Z (vs.map some++B) (as.map Sl.fr++θ))(e:vs.length=as.length):∃L,d9 c Y H Z B θ L/\bU c.toKx (c.g H L) vs as:=by obtain⟨L,b⟩:=b;have r:=b.rel;rw[QQ,QQ] at r;obtain⟨s,L2,e1,E,l⟩:=ax.split (by simp[e]) r;obtain⟨z,p⟩:=ax.FT E;subst z;have e1:L=L2:=e1;subst e1;exact⟨L,⟨b.nd,l,b.own,b.fr,b.kp,by have:=b.lt;simp at this;lia,b.hd⟩,p⟩
theorem d9.push{v:V}{a:A}(b:d9 c Y H Z B θ L)(h:RA c.toKx (c.g H L) v a):Bd c Y H Z (some v::B) (.fr a::θ):=
 ⟨L,b.nd,ax.cons (.fr h) b.rel,b.own,b.fr,b.kp,by simp[b.lt],b.hd⟩
theorem d9.new{L:List Addr}{p:Addr}{o:HO}(b:d9 c Y H Z B θ L)(h:H p=none):d9 c Y (upd H p o) Z B θ L/\Sq (c.g H L) (c.g (upd H p o) L)/\p∉L:=by
 have hp:p∉L:=λz=>by obtain⟨u,e⟩:=b.rel.is p z;rw[h] at e;cases e
 have sm:Sq (c.g H L) (c.g (upd H p o) L):=Sq.of λa u e=>by
  by_cases z:a∈L\/a∈c.Hd
  .rw[gZ z] at e;cases e
  .rw[bM (λy=>z (.inl y)) (λy=>z (.inr y))] at e;rw[bM (λy=>z (.inl y)) (λy=>z (.inr y)),ao (aD e h)];exact e
 exact⟨⟨b.nd,b.rel.sm sm (λq l u e=>by rw[ao (aD e h)];exact e),b.own,b.fr.new h,b.kp,b.lt,b.hd⟩,sm,hp⟩
theorem Bd.Kw{as:List A}(b:Bd c Y H Z (vs.map some++B) (as.map Sl.fr++θ))(e:vs.length=as.length)(h:H p=none)(ws:List V)(bs:List A)(n:∀G,bU c.toKx G vs as->bU c.toKx G ws bs):
  Bd c Y (upd H p (.tup ws)) Z (some (.ref p)::B) (.fr (.tup bs)::θ):=by
 obtain⟨L,bl,x⟩:=b.lE e;obtain⟨b2,sm,hp⟩:=bl.new (o:=.tup ws) h;exact b2.push (.tup (.inl (.inl (by rw[bM hp (bl.MT h)];exact aJ))) (n _ (x.sm sm)))
theorem d9.kP(b:d9 c Y H Z B θ L)(h:H p=none)(R:∀G H',Sq (c.g H L) G->H' p=some u->LR c.toKx G H' p o []):Bd c Y (upd H p u) Z (some (.ref p)::B) (.lv o::θ):=by
 have hp:p∉L:=λz=>by obtain⟨u,e⟩:=b.rel.is p z;rw[h] at e;cases e
 have sm:Sq (c.g H L) (c.g (upd H p u) (p::L)):=Sq.of λa w e=>by
  by_cases z:a∈L\/a∈c.Hd
  .rw[gZ z] at e;cases e
  .rw[bM (λy=>z (.inl y)) (λy=>z (.inr y))] at e;have s:=aD e h;rw[bM (λy=>by rcases QV.mp y with y|y;exact s y;exact z (.inl y)) (λy=>z (.inr y)),ao s];exact e
 refine⟨p::L,Rn.mpr ⟨hp,b.nd⟩,ax.cons (L:=[p]) (.lv (R _ _ sm aJ)) (b.rel.sm sm (λq l w e=>by rw[ao (aD e h)];exact e)),λq l=>?_,b.fr.new h,b.kp,by simp[b.lt],b.hd⟩;rcases QV.mp l with z|z
 .subst z;exact .inr (b.fr.fresh h)
 .exact b.own q z
theorem Bd.zF{as:List A}(b:Bd c Y H Z (vs.map some++B) (as.map Sl.fr++θ))(e:vs.length=as.length)(h:H p=none)(ws:List V)(bs:List A)(n:∀G,bU c.toKx G vs as->bU c.toKx G ws bs):
  Bd c Y (upd H p (.lst ws)) Z (some (.ref p)::B) (.lv (.lst bs)::θ):=by
 obtain⟨L,bl,x⟩:=b.lE e;exact bl.kP h λG H' sm q=>.lst q (n _ (x.sm sm))
theorem LR.a{k:Kx}{G H:Hp}{p:Addr}{o:LO}{q:List Addr}{a:A}(h:LR k G H p o q)(sm:Sq G H)(E:o.rd=some a):RA k H (.ref p) a:=by
 cases h with
 |lst e r=>cases E;exact .lst (.inl (.inl e)) (r.sm sm)
 |dic e r=>cases E;exact .dic (.inl e) (r.sm sm)
 |obj e m r=>cases E;exact .obj e m (r.sm sm)
 |dit e r=>cases E;exact .dit (.inl e) (r.sm sm)
 |nob=>cases E
theorem LR.a'{k:Kx}(h:LR k G H p o q)(sm:Sq G G')(e:∀a∈p::q,∀u,H a=some u->G' a=some u):RA k G' (.ref p) o.a:=by
 have I:=e p Q5;cases h with
 |lst q r=>exact .lst (.inl (.inl (I _ q))) (r.sm sm)
 |dic q r=>exact .dic (.inl (I _ q)) (r.sm sm)
 |obj q m r=>exact .obj (I _ q) m (r.sm sm)
 |dit q r=>exact .dit (.inl (I _ q)) (r.sm sm)
 |nob q m r l=>exact .obj (I _ q) m ((r.sm sm).app (l.a sm λa f=>e a (QW _ f)))
def Sl.a:Sl->Option A
 | .fr a=>some a
 | .lv o=>o.rd
 | .pv o=>o.rd
 | .cf a=>some a
 | .un=>none
theorem fE.read{k:Kx}{x:Option V}{a:A}(h:fE k G H x s L)(sm:Sq G H)(e:s.a=some a):∃v,x=some v/\RA k H v a:=by
 cases h with
 |un=>cases e
 |fr h=>cases e;exact⟨_,rfl,h.sm sm⟩
 |lv h=>exact⟨_,rfl,h.a sm e⟩
 |pv h=>exact⟨_,rfl,h.a sm e⟩
 |cf h=>cases e;exact⟨_,rfl,h.sm sm⟩
theorem fg.set{σ0 Y:St}{Z:List Sl}{i:Nat}{t:Sl}{y:Option V}(k:fg σ0 Y Z)(hi:i<Z.length)(e:cst t=false):fg σ0 (Y.set i y) (Z.set i t):=λj o q w=>by
 by_cases z:j=i
 .subst z;rw[Q9 hi] at q;cases q;rw[e] at w;cases w
 .rw[Rk (RP z)] at q ⊢;exact k j o q w
theorem fg.CT{σ0:St}{t:Sl}(k:fg σ0 Y Z)(h:cst t=true->∃s,Z[i]?=some s/\cst s=true):fg σ0 Y (Z.set i t):=λj o q w=>by
 by_cases z:j=i
 .subst z;by_cases hi:j<Z.length
  .rw[Q9 hi] at q;cases q;obtain⟨o',e,p⟩:=h w;exact k j o' e p
  .rw[R1 (by simp;exact UL.mp ‹_›)] at q;cases q
 .rw[Rk (RP z)] at q;exact k j o q w
theorem Bd.slot{a:A}(b:Bd c Y H Z B θ)(e:Z[i]?=some s)(E:s.a=some a):∃v,Y[i]?=some (some v)/\RA c.toKx H v a:=by obtain⟨L,b⟩:=b;obtain⟨u,L2,e1,g,l⟩:=ax.split b.lt b.rel;obtain⟨x,_,_,_,hx,hs,_⟩:=l.at e;obtain⟨v,rfl,h⟩:=hs.read (g_same _ _ _) E;exact⟨v,hx,h⟩
theorem Bd.FK(b:Bd c Y H Z B θ)(e:Z[i]?=some (.lv o)\/Z[i]?=some (.pv o)):∃p,Y[i]?=some (some (.ref p)):=by
 obtain⟨L,b⟩:=b;obtain⟨A,L2,e1,g,l⟩:=ax.split b.lt b.rel;rcases e with e|e
 .obtain⟨x,_,_,_,hx,hs,_⟩:=l.at e;cases hs;exact⟨_,hx⟩
 .obtain⟨x,_,_,_,hx,hs,_⟩:=l.at e;cases hs;exact⟨_,hx⟩
theorem Bd.load{a:A}(b:Bd c Y H Z B θ)(e:Z[i]?=some (.fr a)):∃v,Y[i]?=some (some v)/\Bd c Y H Z (some v::B) (.fr a::θ):=by
 obtain⟨L,b⟩:=b;obtain⟨s,L2,e1,g,l⟩:=ax.split b.lt b.rel;obtain⟨x,_,_,_,hx,hs,_⟩:=l.at e;cases hs with
 |fr h=>exact⟨_,hx,b.push h⟩
theorem Bd.FQ{a:A}(b:Bd c Y H Z B θ)(e:Z[i]?=some (.cf a)):∃v,Y[i]?=some (some v)/\Bd c Y H Z (some v::B) (.fr a::θ):=by
 obtain⟨L,b⟩:=b;obtain⟨s,L2,e1,g,l⟩:=ax.split b.lt b.rel;obtain⟨x,_,_,_,hx,hs,_⟩:=l.at e;cases hs with
 |cf h=>exact⟨_,hx,b.push h⟩
theorem eX.nf{k:Kx}{ls:List (Str×List A)}(h:eX k G H ws ls q):∀a∈q,∀ob w,H a≠some (.frz ob w):=by
 induction h with
 |nil=>intro a f;cases f
 |cons e r t m=>intro b d ob w z;rcases QV.mp d with rfl|d;rw[e] at z;cases z;exact m b d ob w z
theorem LR.nf{k:Kx}{G H:Hp}{p:Addr}{o:LO}{q:List Addr}(h:LR k G H p o q):∀a∈p::q,∀ob w,H a≠some (.frz ob w):=by
 intro a f ob w z;rcases QV.mp f with rfl|f
 .cases h with|lst e _=>rw[e] at z;cases z|dic e _=>rw[e] at z;cases z|obj e _ _=>rw[e] at z;cases z|dit e _=>rw[e] at z;cases z|nob e _ _ _=>rw[e] at z;cases z
 .cases h with|lst e _=>cases f|dic e _=>cases f|obj e _ _=>cases f|dit e _=>cases f|nob _ _ _ l=>exact l.nf a f ob w z
theorem jo{A B C:List α}(n:(A++B++C).Nodup):(A++C).Nodup/\∀a∈B,a∉A++C:=by
 obtain⟨e,Y,G⟩:=Q2.mp n;obtain⟨K,L,v⟩:=Q2.mp e;refine⟨Q2.mpr ⟨K,Y,λa f b d=>G a (QR _ f) b d⟩,λa f z=>?_⟩;rcases Q0.mp z with z|z
 .exact v a z a f rfl
 .exact G a (QO _ f) a z rfl
theorem set_same{v:Option V}(hx:Y[i]?=some v):Y.set i v=Y:=by
 apply Sy;intro j;by_cases z:j=i
 .subst z;rw[Q9 (QP.mp hx).1,hx]
 .rw[Rk (RP z)]
theorem Bd.wo(b:Bd c Y H Z B θ)(e:Z[i]?=some (.lv o)):Bd c Y H (Z.set i (.fr o.a)) B θ:=by
 obtain⟨L,b⟩:=b;obtain⟨A,L2,e1,E,l⟩:=ax.split b.lt b.rel;obtain⟨x,M1,T,C,hx,hs,e2,ins⟩:=l.at e;cases hs with
 |lv h=>
  rename_i p q;have nd:=b.nd;have P:L=(A++M1)++(p::q)++C:=by rw[e1,e2];simp
  rw[P] at nd;obtain⟨D,hp⟩:=jo nd;have sub:∀a,a∈A++M1++C->a∈L:=λa f=>by rw[P];simp only[Q0,QV] at f ⊢;rcases f with (z|z)|z<;>simp[z]
  have sm:Sq (c.g H L) (c.g H (A++M1++C)):=dz sub;have S:=ins (y:=some (.ref p)) (t:=.fr o.a) (L':=[]) sm (λ_ _ _ e=>e) (.fr (h.a' sm λa f u e=>by rw[bM (hp a f) (b.ye (by rw[P];exact QR _ (QO _ f)))];exact e));rw[set_same hx] at S;refine⟨A++M1++C,D,?_,λq O=>b.own q (sub q O),b.fr,b.kp.CT (λz=>by cases z),b.lt,b.hd⟩;have:=(E.sm sm (λ_ _ _ e=>e)).app S;simpa[QQ] using this
theorem d9.K0{t:Sl}(b:d9 c Y H Z B θ L)(e:Z[i]?=some s)(es:s=.lv o/\t=.lv o'\/s=.pv o/\t=.pv o')
  : ∃p q,Y[i]?=some (some (.ref p))/\LR c.toKx (c.g H L) H p o q/\(p::q).Nodup/\∀a∈p::q,(∀H',H' a=some u->(∀b∈p::q,b≠a->H' b=H b)->LR c.toKx (c.g H L) H' p o' q)->Bd c Y (upd H a u) (Z.set i t) B θ:=by
 obtain⟨A,L2,e1,E,K⟩:=ax.split b.lt b.rel;obtain⟨x,M1,T,C,hx,hs,e2,ins⟩:=K.at e;have key:∀p q,x=some (.ref p)->T=p::q->LR c.toKx (c.g H L) H p o q->(∀G H',LR c.toKx G H' p o' q->fE c.toKx G H' (some (.ref p)) t (p::q))->(cst t=true->∃s,Z[i]?=some s/\cst s=true)->
   ∃p q,Y[i]?=some (some (.ref p))/\LR c.toKx (c.g H L) H p o q/\(p::q).Nodup/\∀a∈p::q,(∀H',H' a=some u->(∀b∈p::q,b≠a->H' b=H b)->LR c.toKx (c.g H L) H' p o' q)->Bd c Y (upd H a u) (Z.set i t) B θ:=by
  intro p q ex em R mk pk;subst ex em;have nd:=b.nd;have P:L=(A++M1)++(p::q)++C:=by rw[e1,e2];simp
  rw[P] at nd;have D:(p::q).Nodup:=(Q2.mp (Q2.mp nd).1).2.1;refine⟨p,q,hx,R,D,λa f hn=>?_⟩;obtain⟨_,I⟩:=jo nd;have X:a∈L:=by rw[P];exact QR _ (QO _ f)
  have F:c.g (upd H a u) L=c.g H L:=by
   funext r
   by_cases z:r∈L\/r∈c.Hd
   .rw[gZ z,gZ z]
   .rw[bM (λy=>z (.inl y)) (λy=>z (.inr y)),bM (λy=>z (.inl y)) (λy=>z (.inr y)),ao λy=>z (.inl (by rw[y];exact X))]
  have v:∀q,q∈A++M1++C->∀w,H q=some w->upd H a u q=some w:=λq l w e=>by rw[ao λy=>I a f (by rw[<-y];exact l)];exact e
  have S:=ins (G':=c.g (upd H a u) L) (H':=upd H a u) (y:=some (.ref p)) (t:=t) (L':=p::q) (by rw[F];exact Sq.refl _) (λq l=>v q (by rcases Q0.mp l with z|z<;>simp[z])) (mk _ _ (by rw[F];exact hn _ aJ λr _ N=>ao N));rw[set_same hx] at S;refine⟨L,b.nd,?_,b.own,⟨λq w e=>?_,λq l=>?_⟩,b.kp.CT pk,b.lt,b.hd⟩
  .have:=(E.sm (G':=c.g (upd H a u) L) (H':=upd H a u) (by rw[F];exact Sq.refl _) (λq l=>v q (by simp[l]))).app S;have z:A++(M1++(p::q)++C)=L:=by rw[P];simp
   rw[z] at this;exact this
  .obtain⟨Q,h1,h2⟩:=b.fr.st q w e;by_cases z:q=a
   .subst z;refine⟨u,aJ,λJ=>?_⟩;rcases b.own q X with y|y
    .exact absurd y J
    .rw[y] at e;cases e
   .exact⟨Q,by rw[ao z];exact h1,h2⟩
  .obtain⟨h1,⟨ob,vs,h2⟩,h3⟩:=b.fr.pk q l;refine⟨?_,⟨ob,vs,h2⟩,h3⟩;rw[ao λy=>?_]
   .exact h1
   .rw[y,h2] at h1;exact R.nf a f _ _ h1
 rcases es with ⟨rfl,rfl⟩|⟨rfl,rfl⟩
 .cases hs with
  |lv h=>exact key _ _ rfl rfl h (λ_ _ h=>.lv h) (λz=>by cases z)
 .cases hs with
  |pv h=>exact key _ _ rfl rfl h (λ_ _ h=>.pv h) (λ_=>⟨_,e,rfl⟩)
theorem d9.change{t:Sl}(b:d9 c Y H Z B θ L)(e:Z[i]?=some s)(es:s=.lv o/\t=.lv o'\/s=.pv o/\t=.pv o')
  : ∃p q,Y[i]?=some (some (.ref p))/\LR c.toKx (c.g H L) H p o q/\((∀H',H' p=some u->(∀b∈q,H' b=H b)->LR c.toKx (c.g H L) H' p o' q)->Bd c Y (upd H p u) (Z.set i t) B θ):=by
 obtain⟨p,q,h1,h2,nd,h3⟩:=b.K0 (u:=u) e es;exact⟨p,q,h1,h2,λk=>h3 p Q5 λH' R sm=>k H' R λb d=>sm b (QW _ d) λz=>(Rn.mp nd).1 (z▸d)⟩
theorem Bd.store{t:Sl}{v:V}(b:Bd c Y H Z (some v::B) (t::θ))(e:Z[i]?=some s)(hs:∀o,s≠.pv o)(l:cst t=false):Bd c (Y.set i (some v)) H (Z.set i t) B θ:=by
 obtain⟨L,nd,rel,own,fr,kp,lt,n⟩:=b;have rel:ax c.toKx (c.g H L) H (some v::(B++Y)) (t::(θ++Z)) L:=rel;cases rel with
 |cons h r=>
  rename_i y L';obtain⟨A,L2,e1,E,p⟩:=ax.split (by simpa using lt) r;obtain⟨x,M1,T,C,hx,u,e2,ins⟩:=p.at e;subst e1 e2;have sub:∀a,a∈A++(M1++y++C)->a∈y++(A++(M1++T++C)):=λa f=>by simp at f ⊢;rcases f with z|z|z|z<;>simp[z]
  have sm:Sq (c.g H (y++(A++(M1++T++C)))) (c.g H (A++(M1++y++C))):=dz sub;have hi:i<Z.length:=(QP.mp e).1;refine⟨A++(M1++y++C),?_,?_,λq O=>own q (sub q O),fr,kp.set hi l,by simpa using lt,n⟩
  .have X:(y++(A++(M1++T++C))).Perm (T++(A++(M1++y++C))):=by rw[S3];intro a;simp only[Tc];lia
   exact(Q2.mp ((X.nodup_iff).mp nd)).2.1
  .exact(E.sm sm (λ_ _ _ e=>e)).app (ins sm (λ_ _ _ e=>e) (h.sm sm (λ_ _ _ e=>e)))
end
inductive Rr where
 |rf(i:Nat)|fr(a:A)|nw(o:LO)
noncomputable abbrev Mi(α:Type):=List Sl->Option (Except Str α×List Sl)
noncomputable def aV{α β:Type}(m:Mi α)(f:α->Mi β):Mi β:=λZ=>match m Z with
 |some (.ok x,U)=>f x U
 |some (.error e,U)=>some (.error e,U)
 |none=>none
noncomputable def lZ{α:Type}(x:α):Mi α:=λZ=>some (.ok x,Z)
noncomputable def cM:Rr->V->St->St
 | .rf _,_,B=>B
 | .fr _,v,B=>some v::B
 | .nw _,v,B=>some v::B
noncomputable def cL:Rr->List Sl->List Sl
 | .rf _,θ=>θ
 | .fr a,θ=>.fr a::θ
 | .nw o,θ=>.lv o::θ
def VR(Y:St):Rr->V->Prop
 | .rf i,v=>Y[i]?=some (some v)
 |_,_=>True
def res(Z:List Sl):Rr->Option A
 | .rf i=>match Z[i]? with
  |some s=>s.a
  |none=>none
 | .fr a=>some a
 | .nw o=>o.rd
def Pe(K:Kx)(E:XK)(c:Cn)(Y:St)(Z:List Sl)(B:St)(θ:List Sl)(Q:VK):Except Str Rr->Prop
 | .ok r=>∀v H,VR Y r v->Bd c Y H Z (cM r v B) (cL r θ)->Q v H
 | .error x=>∀C H,K.mg x=some (.ref C)->Bd c Y H Z B θ->E (.ref C) none H
inductive kQ(K:Kx)(E:XK)(m:Mi Rr)(Y:St)(H:Hp)(Q:VK):Prop
 |mk(c:Cn)(Z:List Sl)(B:St)(θ:List Sl)(o:Except Str Rr)(O:List Sl)(h1:c.toKx=K)(h2:Bd c Y H Z B θ)(h3:m Z=some (o,O))(h4:Pe K E c Y O B θ Q o)
def NF(K:Kx)(E:XK)(c:Cn)(Y:St)(Z:List Sl)(B:St)(θ:List Sl)(Q:Bool->Hp->Prop):Except Str Bool->Prop
 | .ok b=>∀H,Bd c Y H Z B θ->Q b H
 | .error x=>∀C H,K.mg x=some (.ref C)->Bd c Y H Z B θ->E (.ref C) none H
inductive C7(K:Kx)(E:XK)(m:Mi Bool)(Y:St)(H:Hp)(Q:Bool->Hp->Prop):Prop
 |mk(c:Cn)(Z:List Sl)(B:St)(θ:List Sl)(o:Except Str Bool)(O:List Sl)(h1:c.toKx=K)(h2:Bd c Y H Z B θ)(h3:m Z=some (o,O))(h4:NF K E c Y O B θ Q o)
def dr:List Rr->List V->St->St
 |r::rs,v::vs,B=>dr rs vs (cM r v B)
 |_,_,B=>B
def dk:List Rr->List Sl->List Sl
 |r::rs,θ=>dk rs (cL r θ)
 |[],θ=>θ
def lX(Y:St):List Rr->List V->Prop
 |[],[]=>True
 |r::rs,v::vs=>VR Y r v/\lX Y rs vs
 |_,_=>False
def MQ(K:Kx)(E:XK)(c:Cn)(Y:St)(Z:List Sl)(B:St)(θ:List Sl)(Q:List V->Hp->Prop):Except Str (List Rr)->Prop
 | .ok rs=>∀vs H,lX Y rs vs->Bd c Y H Z (dr rs vs B) (dk rs θ)->Q vs H
 | .error x=>∀C H,K.mg x=some (.ref C)->Bd c Y H Z B θ->E (.ref C) none H
inductive KJ(K:Kx)(E:XK)(m:Mi (List Rr))(Y:St)(H:Hp)(Q:List V->Hp->Prop):Prop
 |mk(c:Cn)(Z:List Sl)(B:St)(θ:List Sl)(o:Except Str (List Rr))(O:List Sl)(h1:c.toKx=K)(h2:Bd c Y H Z B θ)(h3:m Z=some (o,O))(h4:MQ K E c Y O B θ Q o)
noncomputable abbrev kx(X:Cx):Kx:=⟨X.K,X.mg,X.prog,X.w⟩
structure JE(X:Cx)(E:XK)(e:Expr)(m:Mi Rr):Prop where
 p:PE X e (kQ (kx X) E m)
structure JT(X:Cx)(E:XK)(e:Expr)(m:Mi Bool):Prop where
 p:PT X e (C7 (kx X) E m)
structure JW(X:Cx)(E:XK)(e:Expr)(m:Mi Bool):Prop where
 p:PW X e (C7 (kx X) E m)
structure JA(X:Cx)(E:XK)(es:List Expr)(m:Mi (List Rr)):Prop where
 p:PA X es (KJ (kx X) E m)
variable{X:Cx}{e:Expr}
theorem PE.weaken{t t':TE}(h:PE X e t)(f:∀Y H Q,t' Y H Q->t Y H Q):PE X e t':=λpins s Y H Q I q=>h pins s Y H Q I (f Y H Q q)
variable{t':TT}
theorem PT.weaken{t:TT}(h:PT X e t)(f:∀Y H Q,t' Y H Q->t Y H Q):PT X e t':=λpins s Y H Q I q=>h pins s Y H Q I (f Y H Q q)
theorem PW.weaken{t:TT}(h:PW X e t)(f:∀Y H Q,t' Y H Q->t Y H Q):PW X e t':=λZ pins s Y H Q I q=>h Z pins s Y H Q I (f Y H Q q)
theorem PA.weaken{e:List Expr}{t t':TA}(h:PA X e t)(f:∀Y H Q,t' Y H Q->t Y H Q):PA X e t':=λpos pins s Y H Q I q=>h pos pins s Y H Q I (f Y H Q q)
section
variable{c:Cn}{Y:St}{H:Hp}{Z:List Sl}{B:St}{θ:List Sl}
theorem Bd.drop{r:Rr}{v:V}(b:Bd c Y H Z (cM r v B) (cL r θ)):Bd c Y H Z B θ:=by
 cases r with
 |rf i=>exact b
 |fr a=>exact Bd.pop b
 |nw o=>exact Bd.pop b
theorem Bd.top{v:V}{a:A}(b:Bd c Y H Z (some v::B) (s::θ))(e:s.a=some a):RA c.toKx H v a:=by
 obtain⟨L,nd,rel,_⟩:=b;cases rel with
 |cons h r=>obtain⟨u,z,q⟩:=h.read (g_same _ _ _) e;cases z;exact q
theorem Bd.rd{r:Rr}{v:V}{a:A}(b:Bd c Y H Z (cM r v B) (cL r θ))(q:VR Y r v)(e:res Z r=some a):RA c.toKx H v a:=by
 cases r with
 |rf i=>
  delta res at e
  cases es:Z[i]? with
  |none=>simp only[es] at e;cases e
  |some s=>simp only[es] at e;obtain⟨u,h1,h2⟩:=Bd.slot b es e;rw[q] at h1;cases h1;exact h2
 |fr a'=>cases e;exact Bd.top b rfl
 |nw o=>exact Bd.top b e
theorem fE.items{k:Kx}{x:Option V}(h:fE k G H x s L)(sm:Sq G H):
  (∀as,s.a=some (.lst as)->∃p vs,x=some (.ref p)/\dj k.K H p vs/\bU k G vs as)/\(∀as,s.a=some (.tup as)->∃p vs,x=some (.ref p)/\gP k.K G p vs/\bU k G vs as) /\
  (∀as,s.a=some (.dic as)->∃p vs,x=some (.ref p)/\Rd H p (.dK vs)/\xp k G vs as):=by
 have lo:∀p o q,LR k G H p o q->(∀as,o.rd=some (A.lst as)->∃vs,dj k.K H p vs/\bU k G vs as)/\(∀as,o.rd≠some (A.tup as))/\(∀as,o.rd=some (A.dic as)->∃vs,Rd H p (.dK vs)/\xp k G vs as):=by
  intro p o q h;cases h with
  |lst e r=>exact⟨λas z=>by cases z;exact⟨_,.inl (.inl e),r⟩,λas z=>(by cases z),λas z=>(by cases z)⟩
  |dic e r=>exact⟨λas z=>(by cases z),λas z=>(by cases z),λas z=>by cases z;exact⟨_,.inl e,r⟩⟩
  |obj e m r=>exact⟨λas z=>(by cases z),λas z=>(by cases z),λas z=>(by cases z)⟩
  |dit e r=>exact⟨λas z=>(by cases z),λas z=>(by cases z),λas z=>(by cases z)⟩
  |nob e m r l=>exact⟨λas z=>(by cases z),λas z=>(by cases z),λas z=>(by cases z)⟩
 cases h with
 |un=>exact⟨λ_ z=>(by cases z),λ_ z=>(by cases z),λ_ z=>(by cases z)⟩
 |fr h=>
  refine⟨λas z=>?_,λas z=>?_,λas z=>?_⟩
  .cases z;cases h with|lst e r=>exact⟨_,_,rfl,dQ sm e,r⟩
  .cases z;cases h with|tup e r=>exact⟨_,_,rfl,e,r⟩
  .cases z;cases h with|dic e r=>exact⟨_,_,rfl,sm.OT e,r⟩
 |cf h=>
  refine⟨λas z=>?_,λas z=>?_,λas z=>?_⟩
  .cases z;cases h with|lst e r=>exact⟨_,_,rfl,dQ sm e,r⟩
  .cases z;cases h with|tup e r=>exact⟨_,_,rfl,e,r⟩
  .cases z;cases h with|dic e r=>exact⟨_,_,rfl,sm.OT e,r⟩
 |lv h=>
  rename_i p o q;obtain⟨Y,J,i⟩:=lo p o q h;refine⟨λas z=>?_,λas z=>absurd z (J as),λas z=>?_⟩
  .obtain⟨vs,h1,h2⟩:=Y as z;exact⟨p,vs,rfl,h1,h2⟩
  .obtain⟨vs,h1,h2⟩:=i as z;exact⟨p,vs,rfl,h1,h2⟩
 |pv h=>
  rename_i p o q;obtain⟨Y,J,i⟩:=lo p o q h;refine⟨λas z=>?_,λas z=>absurd z (J as),λas z=>?_⟩
  .obtain⟨vs,h1,h2⟩:=Y as z;exact⟨p,vs,rfl,h1,h2⟩
  .obtain⟨vs,h1,h2⟩:=i as z;exact⟨p,vs,rfl,h1,h2⟩
def yj(c:Cn)(H:Hp)(L:List Addr)(v:V)(a:A):Prop:=
  (∀as,a=.lst as->∃p vs,v=.ref p/\dj c.K H p vs/\bU c.toKx (c.g H L) vs as)/\(∀as,a=.tup as->∃p vs,v=.ref p/\gP c.K (c.g H L) p vs/\bU c.toKx (c.g H L) vs as) /\
  (∀as,a=.dic as->∃p vs,v=.ref p/\Rd H p (.dK vs)/\xp c.toKx (c.g H L) vs as)
theorem yj.mono{v:V}{a:A}(h:yj c H L v a)(s:∀a,a∈L'->a∈L):yj c H L' v a:=by
 obtain⟨h1,h2,h3⟩:=h;refine⟨λas e=>?_,λas e=>?_,λas e=>?_⟩
 .obtain⟨p,vs,j,n,C⟩:=h1 as e;exact⟨p,vs,j,n,C.sm (dz s)⟩
 .obtain⟨p,vs,j,n,C⟩:=h2 as e;exact⟨p,vs,j,fP (dz s) n,C.sm (dz s)⟩
 .obtain⟨p,vs,j,n,C⟩:=h3 as e;exact⟨p,vs,j,n,C.sm (dz s)⟩
theorem yj.of{L2:List Addr}{x:Option V}{v:V}{a:A}(ex:x=some v)(h:fE c.toKx (c.g H L) H x s L2)(E:s.a=some a):yj c H L v a:=by
 subst ex;obtain⟨G,J,i⟩:=h.items (g_same _ _ _);refine⟨λas z=>?_,λas z=>?_,λas z=>?_⟩<;>subst z
 .obtain⟨p,vs,q,h1,h2⟩:=G as E;exact⟨p,vs,Rj q,h1,h2⟩
 .obtain⟨p,vs,q,h1,h2⟩:=J as E;exact⟨p,vs,Rj q,h1,h2⟩
 .obtain⟨p,vs,q,h1,h2⟩:=i as E;exact⟨p,vs,Rj q,h1,h2⟩
theorem d9.open{r:Rr}{v:V}{a:A}{y:List Addr}(b:d9 c Y H Z (cM r v B) (cL r θ) y)(q:VR Y r v)(e:res Z r=some a):∃L,(∀a,a∈L->a∈y)/\d9 c Y H Z B θ L/\yj c H L v a:=by
 have t:∀s,d9 c Y H Z (some v::B) (s::θ) y->s.a=some a->∃L,(∀a,a∈L->a∈y)/\d9 c Y H Z B θ L/\yj c H L v a:=by
  intro s b E;obtain⟨nd,rel,own,fr,kp,lt,n⟩:=b;have rel:ax c.toKx (c.g H y) H (some v::(B++Y)) (s::(θ++Z)) y:=rel;cases rel with
  |cons h r=>rename_i u L2;have sm:Sq (c.g H (u++L2)) (c.g H L2):=dz λa f=>QO _ f;exact⟨L2,λa f=>QO _ f,⟨(Q2.mp nd).2.1,r.sm sm (λ_ _ _ e=>e),λp hp=>own p (QO _ hp),fr,kp,by simpa using lt,n⟩,yj.of rfl (h.sm sm (λ_ _ _ e=>e)) E⟩
 cases r with
 |rf i=>
  unfold res at e;cases es:Z[i]? with
  |none=>simp only[es] at e;cases e
  |some s=>simp only[es] at e;obtain⟨u,L2,e1,w,l⟩:=ax.split b.lt b.rel;obtain⟨x,_,_,_,hx,hs,_⟩:=l.at es;have q:Y[i]?=some (some v):=q;rw[q] at hx;exact⟨y,λ_ h=>h,b,yj.of (Rj hx).symm hs e⟩
 |fr a'=>exact t _ b e
 |nw o=>exact t _ b e
theorem Bd.open{r:Rr}{v:V}{a:A}(b:Bd c Y H Z (cM r v B) (cL r θ))(q:VR Y r v)(e:res Z r=some a):∃L,d9 c Y H Z B θ L/\yj c H L v a:=by obtain⟨L,b⟩:=b;obtain⟨L',_,h⟩:=b.open q e;exact⟨L',h⟩
theorem Bd.AF{r r':Rr}{v x:V}{a a':A}(b:Bd c Y H Z (cM r' x (cM r v B)) (cL r' (cL r θ)))(q:VR Y r v)(h:VR Y r' x)(e:res Z r=some a)(k:res Z r'=some a'):∃L,d9 c Y H Z B θ L/\yj c H L v a/\yj c H L x a':=by obtain⟨L,b⟩:=b;obtain⟨u,s1,b1,s⟩:=b.open h k;obtain⟨L2,s2,b2,I⟩:=b1.open q e;exact⟨L2,b2,I,s.mono s2⟩
end
variable{pos:Pos}{β:Type}{O:List Sl}{ma mb:Mi Rr}{Q:VK}{r:R2}{op:YA}{mt:Mi Bool}{es:List Expr}
section
variable{X:Cx}{E:XK}
noncomputable def ab(i:Nat):Mi Rr:=λZ=>match Z[i]? with
 |some (.fr a)=>some (.ok (.fr a),Z)
 |some (.cf a)=>some (.ok (.fr a),Z)
 |some (.lv _)=>some (.ok (.rf i),Z)
 |some (.pv _)=>some (.ok (.rf i),Z)
 |_=>none
noncomputable def ah(i:Nat):Mi Rr:=λZ=>match Z[i]? with
 |some (.fr a)=>some (.ok (.fr a),Z)
 |some (.cf a)=>some (.ok (.fr a),Z)
 |some (.lv o)=>some (.ok (.fr o.a),Z.set i (.fr o.a))
 |_=>none
noncomputable def mC(a:A):Mi Rr:=λZ=>some (.ok (.fr a),Z)
theorem IW{x:Str}(hN:X.N[i]?=some x)(A:ku X.env.scope x)(hd:fC x)(e:lA x):JE X E (.Name x pos) (ab i):=
 ⟨PE.weaken (bS hN A hd e) λY H Q h=>by
  obtain⟨c,Z,B,θ,o,O,t,b,em,q⟩:=h
  delta ab at em
  cases es:Z[i]? with
  |none=>rw[es] at em;cases em
  |some s=>
   cases s with
   |un=>rw[es] at em;cases em
   |fr a=>rw[es] at em;cases em;obtain⟨v,h1,h2⟩:=b.load es;exact⟨v,h1,q v H trivial h2⟩
   |cf a=>rw[es] at em;cases em;obtain⟨v,h1,h2⟩:=b.FQ es;exact⟨v,h1,q v H trivial h2⟩
   |lv o=>rw[es] at em;cases em;obtain⟨p,h1⟩:=b.FK (.inl es);exact⟨_,h1,q _ H h1 b⟩
   | pv o=>rw[es] at em;cases em;obtain⟨p,h1⟩:=b.FK (.inr es);exact⟨_,h1,q _ H h1 b⟩⟩
theorem EC{x:Str}(hN:X.N[i]?=some x)(A:ku X.env.scope x)(hd:fC x)(e:lA x):JE X E (.Name x pos) (ah i):=
 ⟨PE.weaken (bS hN A hd e) λY H Q h=>by
  obtain⟨c,Z,B,θ,o,O,t,b,em,q⟩:=h
  delta ah at em
  cases es:Z[i]? with
  |none=>rw[es] at em;cases em
  |some s=>
   cases s with
   |un=>rw[es] at em;cases em
   |fr a=>rw[es] at em;cases em;obtain⟨v,h1,h2⟩:=b.load es;exact⟨v,h1,q v H trivial h2⟩
   |cf a=>rw[es] at em;cases em;obtain⟨v,h1,h2⟩:=b.FQ es;exact⟨v,h1,q v H trivial h2⟩
   |lv o=>rw[es] at em;cases em;have b2:=b.wo es;have hi:=(QP.mp es).1;obtain⟨v,h1,h2⟩:=b2.load (Q9 hi);exact⟨v,h1,q v H trivial h2⟩
   | pv o=>rw[es] at em;cases em⟩
theorem z8{v:V}{a:A}(h:PE X e (tC v))(r:∀G,RA (kx X) G v a):JE X E e (mC a):=⟨PE.weaken h λY H Q h=>by obtain⟨c,Z,B,θ,o,O,t,b,em,q⟩:=h;cases em;exact q v H trivial (b.push (by rw[t];exact r))⟩
theorem HY{i j pos}:JE X E (.Constant (.int i) j pos) (mC (.int i)):=z8 JO λ_=>.int _
theorem Nl{b j pos}:JE X E (.Constant (.bool b) j pos) (mC (.bl b)):=z8 Lm λ_=>.bl _
theorem IY{j pos}:JE X E (.Constant .none j pos) (mC .non):=z8 G8 λ_=>.non
theorem Hx{x j pos}:JE X E (.Constant (.str x) j pos) (mC (.str x)):=z8 Iy λ_=>.str _
theorem E3{x:Str}{v:V}{u:Value}{a:A}(J:Gl X x)(hm:X.mg x=some u)(r:RelV v u)(p:∀G,RA (kx X) G v a)(hd:fC x):JE X E (.Name x pos) (mC a):=z8 (vx J hm r hd) p
def aC(f:A->A->Option Rr)(ma mb:Mi Rr):Mi Rr:=aV ma λx=>aV mb λy=>λZ=>match res Z x,res Z y with
 |some a,some b=>match f a b with
  |some r=>some (.ok r,Z)
  |none=>none
 |_,_=>none
def jl(K:Kx)(r:R2)(f:A->A->Option Rr):Prop:=∀(c:Cn)(Y:St)(H:Hp)(Z:List Sl)(B:St)(θ:List Sl)(x y:Rr)(v w:V)(a b:A)(q:Rr)(Q:VK),c.toKx=K->VR Y x v->VR Y y w->
 Bd c Y H Z (cM y w (cM x v B)) (cL y (cL x θ))->res Z x=some a->res Z y=some b->f a b=some q->(∀u H',VR Y q u->Bd c Y H' Z (cM q u B) (cL q θ)->Q u H')->r v w H Q
theorem bind_some{m:Mi α}{f:α->Mi β}{o:Except Str β}(h:aV m f Z=some (o,O)):(∃x U,m Z=some (.ok x,U)/\f x U=some (o,O))\/∃e,m Z=some (.error e,O)/\o=.error e:=by
 delta aV at h
 cases e:m Z with
 |none=>rw[e] at h;cases h
 |some p=>
  obtain⟨r,U⟩:=p;cases r with
  |ok x=>rw[e] at h;exact .inl ⟨x,U,rfl,h⟩
  |error x=>rw[e] at h;cases h;exact .inr ⟨x,rfl,rfl⟩
theorem bz{f:Rr->Mi β}{o:Except Str β}(t:c.toKx=kx X)(b:Bd c Y H Z B θ)(em:aV ma f Z=some (o,O))
  (h1:∀x v U V,VR Y x v->Bd c Y V U (cM x v B) (cL x θ)->f x U=some (o,O)->Q v V)
  (h2:∀e,o=.error e->∀C H,X.mg e=some (.ref C)->Bd c Y H O B θ->E (.ref C) none H):kQ (kx X) E ma Y H Q:=by
 rcases bind_some em with ⟨x,U,e1,e2⟩|⟨e,e1,e2⟩
 .exact⟨c,Z,B,θ,_,U,t,b,e1,λv V q b1=>h1 x v U V q b1 e2⟩
 .exact⟨c,Z,B,θ,_,O,t,b,e1,λC V hm b1=>h2 e e2 C V hm b1⟩
theorem c6{x:Rr}{v:V}{o:Except Str β}(h:∀e,o=.error e->∀C H,X.mg e=some (.ref C)->Bd c Y H O B θ->E (.ref C) none H):
  ∀e,o=.error e->∀C H,X.mg e=some (.ref C)->Bd c Y H O (cM x v B) (cL x θ)->E (.ref C) none H:=λe y C H hm b=>h e y C H hm b.drop
theorem bV{o:Except Str Rr}(q:Pe (kx X) E c Y O B θ Q o):∀e,o=.error e->∀C H,X.mg e=some (.ref C)->Bd c Y H O B θ->E (.ref C) none H:=λe y=>by subst y;exact q
theorem j9{o:Except Str Bool}{Q:Bool->Hp->Prop}(q:NF (kx X) E c Y O B θ Q o):∀e,o=.error e->∀C H,X.mg e=some (.ref C)->Bd c Y H O B θ->E (.ref C) none H:=λe y=>by subst y;exact q
theorem yJ{o:Except Str (List Rr)}{Q:List V->Hp->Prop}(q:MQ (kx X) E c Y O B θ Q o):∀e,o=.error e->∀C H,X.mg e=some (.ref C)->Bd c Y H O B θ->E (.ref C) none H:=λe y=>by subst y;exact q
theorem vd{f:A->A->Option Rr}{x y:Rr}{o:Except Str Rr}(h:(match res Z x,res Z y with|some a,some b=>(match f a b with|some r=>some ((.ok r:Except Str Rr),Z)|none=>none)|_,_=>none)=some (o,O)):
  ∃a b r,res Z x=some a/\res Z y=some b/\f a b=some r/\o=.ok r/\O=Z:=by
 cases e1:res Z x with
 |none=>rw[e1] at h;cases h
 |some a=>
  cases e2:res Z y with
  |none=>rw[e1,e2] at h;cases h
  |some b=>
   rw[e1,e2] at h;cases N:f a b with
   |none=>simp only[N] at h;cases h
   |some r=>simp only[N] at h;cases h;exact⟨a,b,r,rfl,rfl,N,rfl,rfl⟩
theorem jE{f:A->A->Option Rr}(hf:jl (kx X) r f)(Y:St)(H:Hp)(Q:VK)(h:kQ (kx X) E (aC f ma mb) Y H Q):GH r (kQ (kx X) E ma) (kQ (kx X) E mb) Y H Q:=by obtain⟨c,Z,B,θ,o,O,t,b,em,q⟩:=h;refine bz t b em (λx v U V K b1 e=>?_) (bV q);refine bz t b1 e (λy w F P n b2 D=>?_) (c6 (bV q));obtain⟨a,d,r,e1,e2,N,rfl,rfl⟩:=vd D;exact hf c Y P _ B θ x y v w a d r Q t K n b2 e1 e2 N q
theorem nc{op:Zr}{f:A->A->Option Rr}{a b:Expr}(ho:iP X (Yn op) r)(hf:jl (kx X) r f)(c:JE X E a ma)(d:JE X E b mb):JE X E (.BinOp a op b pos) (aC f ma mb):=
 ⟨PE.weaken (Mb ho c.p d.p) (jE hf)⟩
theorem gy{f:A->A->Option Rr}{a b:Expr}(ho:iP X (Yd op) r)(hf:jl (kx X) r f)(c:JE X E a ma)(d:JE X E b mb)(hm:X4 op b=false):JE X E (.Compare a [op] [b] pos) (aC f ma mb):=
 ⟨PE.weaken (CN ho c.p d.p hm) (jE hf)⟩
noncomputable def Qo:Rr->Option Bool
 | .fr (.bl b)=>some b
 |_=>none
def aj(m:Mi Rr):Mi Bool:=aV m λr Z=>match Qo r with
 |some b=>some (.ok b,Z)
 |none=>none
theorem ir{m:Mi Rr}(Y:St)(H:Hp)(Q:Bool->Hp->Prop)(h:C7 (kx X) E (aj m) Y H Q):kQ (kx X) E m Y H λx H'=>∃k,x=.bl k/\Q k H':=by
 obtain⟨c,Z,B,θ,o,O,t,b,em,q⟩:=h;refine bz t b em (λx v U V A b1 e=>?_) (j9 q);cases x with
 |rf i=>cases e
 |nw o=>cases e
 |fr a=>
  cases a with
  |bl k=>cases e;have r:=Bd.top b1 rfl;cases r;exact⟨k,rfl,q V b1.pop⟩
  |_=>exact kj e
theorem gu{f:A->A->Option Rr}{a b:Expr}(ho:iP X (Yd op) r)(hf:jl (kx X) r f)(c:JE X E a ma)(d:JE X E b mb)(hm:X4 op b=false):JT X E (.Compare a [op] [b] pos) (aj (aC f ma mb)):=
 ⟨PT.weaken (v8 ho c.p d.p hm) λY H Q h=>jE hf Y H _ (ir Y H Q h)⟩
theorem JM{m:Mi Rr}(h:JE X E e m)(he:∀whole,Zj e X.env whole=(do let v <- whole;YF e.pos;holding [v] (truthy v)):=by intro _;rfl):JT X E e (aj m):=
 ⟨PT.weaken (Jd h.p he) λY H Q h=>ir Y H Q h⟩
def m5(m n:Mi Bool):Mi Bool:=aV m λb=>if b then n else lZ false
def mJ(m n:Mi Bool):Mi Bool:=aV m λb=>if b then lZ true else n
def fz(m:Mi Bool):Mi Bool:=aV m λb=>lZ (!b)
theorem jU{m:Mi Bool}{f:Bool->Mi β}{o:Except Str β}{Q:Bool->Hp->Prop}(t:c.toKx=kx X)(b:Bd c Y H Z B θ)(em:aV m f Z=some (o,O))
  (h1:∀k U V,Bd c Y V U B θ->f k U=some (o,O)->Q k V)
  (h2:∀e,o=.error e->∀C H,X.mg e=some (.ref C)->Bd c Y H O B θ->E (.ref C) none H):C7 (kx X) E m Y H Q:=by
 rcases bind_some em with ⟨x,U,e1,e2⟩|⟨e,e1,e2⟩
 .exact⟨c,Z,B,θ,_,U,t,b,e1,λV b1=>h1 x U V b1 e2⟩
 .exact⟨c,Z,B,θ,_,O,t,b,e1,λC V hm b1=>h2 e e2 C V hm b1⟩
theorem Iz{a:Expr}{m:Mi Bool}(h:JT X E a m):JT X E (.UnaryOp .Not a pos) (fz m):=⟨PT.weaken (Jv h.p) λY H Q h=>by obtain⟨c,Z,B,θ,o,O,t,b,em,q⟩:=h;refine jU t b em (λk U V b1 e=>?_) (j9 q);cases e;exact q V b1⟩
theorem DA{a:Expr}{m:Mi Bool}(h:JT X E a m):JW X E (.BoolOp .And [a] pos) m:=⟨DV h.p⟩
theorem JU{a:Expr}{m:Mi Bool}(h:JT X E a m):JW X E (.BoolOp .Or [a] pos) m:=⟨GY h.p⟩
theorem IM{a b:Expr}{rest:List Expr}{m n:Mi Bool}(h:JT X E a m)(h':JW X E (.BoolOp .And (b::rest) pos) n):JW X E (.BoolOp .And (a::b::rest) pos) (m5 m n):=⟨PW.weaken (IZ h.p h'.p) λY H Q h=>by
 obtain⟨c,Z,B,θ,o,O,t,b,em,q⟩:=h;refine jU t b em (λk U V b1 e=>?_) (j9 q);cases k with
 |true=>rw[Zx rfl];exact⟨c,U,B,θ,o,O,t,b1,e,q⟩
 | false=>rw[Zy Z2];cases e;exact q V b1⟩
theorem ND{a b:Expr}{rest:List Expr}{m n:Mi Bool}(h:JT X E a m)(h':JW X E (.BoolOp .Or (b::rest) pos) n):JW X E (.BoolOp .Or (a::b::rest) pos) (mJ m n):=⟨PW.weaken (K8 h.p h'.p) λY H Q h=>by
 obtain⟨c,Z,B,θ,o,O,t,b,em,q⟩:=h;refine jU t b em (λk U V b1 e=>?_) (j9 q);cases k with
 |true=>rw[Zx rfl];cases e;exact q V b1
 | false=>rw[Zy Z2];exact⟨c,U,B,θ,o,O,t,b1,e,q⟩⟩
theorem MY{m:Mi Bool}(h:JW X E e m):JT X E e m:=⟨h.p.pt⟩
def il(m n:Mi Rr):Mi Rr:=aV (aj m) λb=>if b then n else mC (.bl false)
def AH(m:Mi Rr):Mi Rr:=aV (aj m) λb=>mC (.bl (!b))
theorem vi{m:Mi Rr}{f:Bool->Mi β}{o:Except Str β}{Q:Bool->Hp->Prop}(t:c.toKx=kx X)(b:Bd c Y H Z B θ)(em:aV (aj m) f Z=some (o,O))
  (h1:∀k U V,Bd c Y V U B θ->f k U=some (o,O)->Q k V)
  (h2:∀e,o=.error e->∀C H,X.mg e=some (.ref C)->Bd c Y H O B θ->E (.ref C) none H):kQ (kx X) E m Y H λx H'=>∃k,x=.bl k/\Q k H':=
 ir Y H Q (jU t b em h1 h2)
theorem IE{op}{a:Expr}{m:Mi Rr}(h:JE X E a m):JE X E (.BoolOp op [a] pos) m:=⟨Jn h.p⟩
theorem Ii{a b:Expr}{rest:List Expr}{m n:Mi Rr}(h:JE X E a m)(h':JE X E (.BoolOp .And (b::rest) pos) n):JE X E (.BoolOp .And (a::b::rest) pos) (il m n):=⟨PE.weaken (Jo h.p h'.p) λY H Q h=>by
 obtain⟨c,Z,B,θ,o,O,t,b,em,q⟩:=h;refine vi t b em (λk U V b1 e=>?_) (bV q);cases k with
 |true=>rw[Zx rfl];exact⟨c,U,B,θ,o,O,t,b1,e,q⟩
 | false=>rw[Zy Z2];cases e;exact q (.bl false) V trivial (b1.push λ_=>.bl _)⟩
theorem Ho{a:Expr}{m:Mi Rr}(h:JE X E a m):JE X E (.UnaryOp .Not a pos) (AH m):=⟨PE.weaken (Hg h.p) λY H Q h=>by obtain⟨c,Z,B,θ,o,O,t,b,em,q⟩:=h;refine vi t b em (λk U V b1 e=>?_) (bV q);cases e;exact q (.bl (!k)) V trivial (b1.push λ_=>.bl _)⟩
def Nv(t:Mi Bool)(m n:Mi Rr):Mi Rr:=aV t λb=>if b then m else n
theorem KO{t a b:Expr}{m n:Mi Rr}(l:JT X E t mt)(f:JE X E a m)(d:JE X E b n):JE X E (.IfExp t a b pos) (Nv mt m n):=⟨PE.weaken (A7 l.p f.p d.p) λY H Q h=>by
 obtain⟨c,Z,B,θ,o,O,v,b,em,q⟩:=h;refine jU v b em (λk U V b1 e=>?_) (bV q);cases k with
 |true=>rw[Zx rfl];exact⟨c,U,B,θ,o,O,v,b1,e,q⟩
 | false=>rw[Zy Z2];exact⟨c,U,B,θ,o,O,v,b1,e,q⟩⟩
def kY:Mi (List Rr):=lZ []
def da(m:Mi Rr)(n:Mi (List Rr)):Mi (List Rr):=aV m λr=>aV n λrs=>lZ (r::rs)
theorem Bx:JA X E [] kY:=⟨PA.weaken cw λY H Q h=>by obtain⟨c,Z,B,θ,o,O,t,b,em,q⟩:=h;cases em;exact q [] H trivial b⟩
theorem vI{m:Mi Rr}{n:Mi (List Rr)}(h:JE X E e m)(h':JA X E es n)(hs:XM (e::es) X.env=(false,eval e X.env)::XM es X.env:=by rfl):JA X E (e::es) (da m n):=⟨PA.weaken (aX h.p h'.p hs) λY H Q h=>by
 obtain⟨c,Z,B,θ,o,O,ek,b,em,q⟩:=h;refine bz ek b em (λx v U H1 hv b1 em1=>?_) (yJ q);rcases bind_some em1 with ⟨rs,F,e1,e2⟩|⟨e,e1,e2⟩
 .cases e2;exact⟨c,U,_,_,_,O,ek,b1,e1,λvs H2 hvs b2=>q (v::vs) H2 ⟨hv,hvs⟩ b2⟩
 .subst e2;exact⟨c,U,_,_,_,O,ek,b1,e1,λC H2 hm b2=>q C H2 hm b2.drop⟩⟩
end
variable{xs:St}{ss:List Sl}{rs:List Rr}
section
variable{c:Cn}{Y:St}{H:Hp}{Z:List Sl}{B:St}{θ:List Sl}
theorem zK{l:List α}{x:α}(h:l[i]?=some x):l.set i x=l:=by
 apply Sy;intro j;by_cases z:j=i
 .subst z;rw[Q9 (QP.mp h).1,h]
 .rw[Rk (RP z)]
theorem Dq(h:∀a,a∈L↔a∈L'):c.g H L=c.g H L':=by
 funext a
 by_cases z:a∈L\/a∈c.Hd
 .rw[gZ z,gZ (by rwa[<-h a])]
 .rw[bM (λy=>z (.inl y)) (λy=>z (.inr y)),bM (λy=>z (.inl ((h a).mpr y))) (λy=>z (.inr y))]
theorem d9.perm(b:d9 c Y H Z B θ L){J:St}{T:List Sl}(pm:L'.Perm L)(lt:J.length=T.length)(r:ax c.toKx (c.g H L) H (J++Y) (T++O) L')(kp:fg c.σ0 Y O):d9 c Y H O J T L':=
 ⟨(pm.nodup_iff).mpr b.nd,by rw[Dq (L':=L) λa=>pm.mem_iff];exact r,λp hp=>b.own p (pm.mem_iff.mp hp),b.fr,kp,lt,b.hd⟩
theorem Bd.MH{v:V}(e:xs.length=ss.length)(b:Bd c Y H Z (xs++some v::B) (ss++.lv o::θ)):Bd c Y H Z (xs++some v::B) (ss++.fr o.a::θ):=by
 obtain⟨L,b⟩:=b;have r:ax c.toKx (c.g H L) H (xs++(some v::(B++Y))) (ss++(.lv o::(θ++Z))) L:=by have:=b.rel;simpa[QQ] using this
 obtain⟨A,L2,e1,E,l⟩:=ax.split e r;cases l with
 |cons h S=>
  rename_i Q x;cases h with
  |lv h=>
   rename_i p q;have nd:=b.nd;rw[e1,<-QQ] at nd;obtain⟨D,hp⟩:=jo nd;have sub:∀a,a∈A++x->a∈L:=λa f=>by rw[e1];simp at f ⊢;rcases f with z|z<;>simp[z]
   have sm:Sq (c.g H L) (c.g H (A++x)):=dz sub;refine⟨A++x,D,?_,λq O=>b.own q (sub q O),b.fr,b.kp,by have:=b.lt;simp at this ⊢;exact id ‹_›,b.hd⟩;have:=(E.sm sm (λ_ _ _ e=>e)).app (ax.cons (L:=[]) (.fr (h.a' sm λa f u e=>by rw[bM (hp a f) (b.ye (by rw[e1];exact QO _ (QR _ f)))];exact e)) (S.sm sm (λ_ _ _ e=>e)));simpa[QQ] using this
theorem Bd.GG{v:V}{a:A}(e:xs.length=ss.length)(b:Bd c Y H Z (xs++B) (ss++θ))(q:Y[i]?=some (some v))(hs:Z[i]?=some (.fr a)):Bd c Y H Z (xs++some v::B) (ss++.fr a::θ):=by
 obtain⟨L,b⟩:=b;obtain⟨M1,T,_,_,l⟩:=ax.split b.lt b.rel;obtain⟨x,_,_,_,hx,X,_⟩:=l.at hs;rw[q] at hx;cases hx;cases X with
 |fr h=>
  have r:ax c.toKx (c.g H L) H (xs++(B++Y)) (ss++(θ++Z)) L:=by have:=b.rel;simpa[QQ] using this
  obtain⟨s,L2,e1,E,l⟩:=ax.split e r;refine⟨L,b.nd,?_,b.own,b.fr,b.kp,by have:=b.lt;simp at this ⊢;lia,b.hd⟩;have:=E.app (ax.cons (L:=[]) (.fr h) l);rw[e1] at this ⊢;simpa[QQ] using this
theorem Bt(A L2 M1 C q:List Addr):(A++(q++(L2++(M1++C)))).Perm (A++(L2++(M1++(q++C)))):=by rw[S3];intro a;simp only[Tc];lia
theorem Bd.IJ{v:V}(e:xs.length=ss.length)(b:Bd c Y H Z (xs++B) (ss++θ))(A:Y[i]?=some (some v))(hs:Z[i]?=some s)(hk:s=.lv o\/s=.pv o):
  Bd c Y H (Z.set i .un) (xs++some v::B) (ss++.lv o::θ):=by
 obtain⟨L,b⟩:=b;have r:ax c.toKx (c.g H L) H (xs++(B++Y)) (ss++(θ++Z)) L:=by have:=b.rel;simpa[QQ] using this
 obtain⟨u,L2,e1,E,l⟩:=ax.split e r;obtain⟨w,R,e2,S,K⟩:=ax.split (by have:=b.lt;simp at this;lia) l;obtain⟨x,M1,T,C,hx,X,N,ins⟩:=K.at hs;rw[A] at hx;cases hx;have fin:∀p q,v=.ref p->T=p::q->LR c.toKx (c.g H L) H p o q->Bd c Y H (Z.set i .un) (xs++some v::B) (ss++.lv o::θ):=by
  intro p q P em h;subst P em;have I:=ins (y:=some (.ref p)) (t:=.un) (L':=[]) (Sq.refl _) (λ_ _ _ e=>e) (.un _);rw[zK A] at I;have Q:=E.app (ax.cons (fE.lv h) (S.app I));have pm:(u++((p::q)++(w++(M1++[]++C)))).Perm L:=by rw[e1,e2,N];simpa using Bt u w M1 C (p::q)
  exact⟨_,b.perm pm (by have:=b.lt;simp at this ⊢;lia) (by simpa[QQ] using Q) (b.kp.CT (λz=>by cases z))⟩
 rcases hk with rfl|rfl
 .cases X with|lv h=>exact fin _ _ rfl rfl h
 .cases X with|pv h=>exact fin _ _ rfl rfl h
theorem Bd.putBack{v:V}{t:Sl}(b:Bd c Y H Z (some v::B) (.lv o::θ))(A:Y[i]?=some (some v))(hs:Z[i]?=some .un)(hk:t=.lv o\/(t=.pv o/\Y[i]?=c.σ0[i]?)):Bd c Y H (Z.set i t) B θ:=by
 obtain⟨L,b⟩:=b;have r:ax c.toKx (c.g H L) H (some v::(B++Y)) (.lv o::(θ++Z)) L:=b.rel;cases r with
 |cons h r=>
  rename_i y L';obtain⟨s,L2,e1,E,l⟩:=ax.split (by have:=b.lt;simpa using this) r;obtain⟨x,M1,T,C,hx,X,N,ins⟩:=l.at hs;cases X with
  |un=>
   cases h with
   |lv h=>
    rename_i p q;have fin:fE c.toKx (c.g H ((p::q)++L')) H (some (.ref p)) t (p::q)->fg c.σ0 Y (Z.set i t)->Bd c Y H (Z.set i t) B θ:=λh kp=>by
     have I:=ins (Sq.refl _) (λ_ _ _ e=>e) h;rw[zK A] at I;have pm:(s++(M1++(p::q)++C)).Perm ((p::q)++L'):=by rw[e1,N];rw[S3];intro a;simp only[Tc,List.count_cons,List.count_nil];lia
     exact⟨_,b.perm pm (by have:=b.lt;simpa using this) (E.app I) kp⟩
    rcases hk with rfl|⟨rfl,hk⟩
    .exact fin (.lv h) (b.kp.CT (λz=>by cases z))
    .refine fin (.pv h) λj o' q w=>?_;by_cases z:j=i
     .subst z;exact hk
     .rw[Rk (RP z)] at q;exact b.kp j o' q w
theorem dS:∀(rs:List Rr)(vs:List V)(B:St),dr rs vs B=dr rs vs []++B
 |[],_,B=>rfl
 |r::rs,[],B=>rfl
 |r::rs,v::vs,B=>by show dr rs vs (cM r v B)=dr rs vs (cM r v [])++B;rw[dS rs vs (cM r v B),dS rs vs (cM r v []),QQ];cases r<;>rfl
theorem dW:∀(rs:List Rr)(θ:List Sl),dk rs θ=dk rs []++θ
 |[],θ=>rfl
 |r::rs,θ=>by show dk rs (cL r θ)=dk rs (cL r [])++θ;rw[dW rs (cL r θ),dW rs (cL r []),QQ];cases r<;>rfl
theorem lX.len:∀{rs:List Rr}{vs:List V},lX Y rs vs->rs.length=vs.length
 |[],[],_=>rfl
 |_::rs,_::vs,h=>by rw[Q4,Q4,lX.len h.2]
 |[],_::_,h=>h.elim
 |_::_,[],h=>h.elim
theorem qc:∀(rs:List Rr)(vs:List V),rs.length=vs.length->(dr rs vs []).length=(dk rs []).length
 |[],[],_=>rfl
 |r::rs,v::vs,h=>by show (dr rs vs (cM r v [])).length=(dk rs (cL r [])).length;rw[dS,dW,Rc,Rc,qc rs vs (by simpa using h)];cases r<;>rfl
 |[],_::_,h=>by simp at h
 |_::_,[],h=>by simp at h
noncomputable def bX:Rr->List Sl->Option (A×List Sl)
 | .fr a,Z=>some (a,Z)
 | .nw o,Z=>some (o.a,Z)
 | .rf i,Z=>match Z[i]? with
  |some (.lv o)=>some (o.a,Z.set i (.fr o.a))
  |some (.fr a)=>some (a,Z)
  |_=>none
def d5:List Rr->List Sl->Option (List A×List Sl)
 |[],Z=>some ([],Z)
 |r::rs,Z=>match bX r Z with
  |some (a,U)=>match d5 rs U with
   |some (as,F)=>some (a::as,F)
   |none=>none
  |none=>none
theorem Bd.bX{r:Rr}{v:V}{a:A}{O:List Sl}{xs:St}{ss:List Sl}(e:xs.length=ss.length)(b:Bd c Y H Z (xs++cM r v B) (ss++cL r θ))(q:VR Y r v)(h:bX r Z=some (a,O)):Bd c Y H O (xs++some v::B) (ss++.fr a::θ):=by
 cases r with
 |fr a'=>cases h;exact b
 |nw o=>cases h;exact Bd.MH e b
 |rf i=>
  delta M.bX at h
  cases es:Z[i]? with
  |none=>simp only[es] at h;cases h
  |some s=>
   cases s with
   |un=>simp only[es] at h;cases h
   |pv o=>simp only[es] at h;cases h
   |cf o=>simp only[es] at h;cases h
   |fr a'=>simp only[es] at h;cases h;exact Bd.GG e b q es
   |lv o=>simp only[es] at h;cases h;have b2:=Bd.wo b es;exact Bd.GG e b2 q (Q9 (QP.mp es).1)
theorem xn{r:Rr}{as:List A}(h:d5 (r::rs) Z=some (as,O)):∃a H U,bX r Z=some (a,U)/\d5 rs U=some (H,O)/\as=a::H:=by
 unfold d5 at h;cases e1:bX r Z with
 |none=>rw[e1] at h;cases h
 |some p=>
  obtain⟨a,U⟩:=p;rw[e1] at h;cases e2:d5 rs U with
  |none=>simp only[e2] at h;cases h
  |some q=>obtain⟨H,F⟩:=q;simp only[e2] at h;cases h;exact⟨a,H,U,rfl,e2,rfl⟩
theorem Bd.d5:∀{rs:List Rr}{vs:List V}{as:List A}{Z O:List Sl}{B:St}{θ:List Sl},lX Y rs vs->Bd c Y H Z (dr rs vs B) (dk rs θ)->d5 rs Z=some (as,O)->Bd c Y H O (vs.reverse.map some++B) (as.reverse.map Sl.fr++θ)/\vs.length=as.length
 |[],[],_,_,_,_,_,_,b,h=>by cases h;exact⟨b,rfl⟩
 |r::rs,v::vs,_,Z,O,B,θ,hv,b,h=>by obtain⟨a,as,U,e1,e2,rfl⟩:=xn h;have b:Bd c Y H Z (dr rs vs (cM r v B)) (dk rs (cL r θ)):=b;rw[dS,dW] at b;have b1:=Bd.bX (qc rs vs (lX.len hv.2)) b hv.1 e1;rw [← dS rs vs (some v :: B),← dW rs (.fr a :: θ)] at b1;obtain ⟨b2,N⟩:=Bd.d5 hv.2 b1 e2;exact ⟨by simpa using b2,by simp [N]⟩
 |[],_ :: _,_,_,_,_,_,h,_,_=>h.elim
 |_ :: _,[],_,_,_,_,_,h,_,_=>h.elim
end
section
variable{X:Cx}{E:XK}
theorem vZ{m:Mi (List Rr)}{f:List Rr->Mi β}{o:Except Str β}{Q:List V->Hp->Prop}(t:c.toKx=kx X)(b:Bd c Y H Z B θ)(em:aV m f Z=some (o,O))
  (h1:∀rs vs U L,lX Y rs vs->Bd c Y L U (dr rs vs B) (dk rs θ)->f rs U=some (o,O)->Q vs L)
  (h2:∀e,o=.error e->∀C H,X.mg e=some (.ref C)->Bd c Y H O B θ->E (.ref C) none H):KJ (kx X) E m Y H Q:=by
 rcases bind_some em with ⟨x,U,e1,e2⟩|⟨e,e1,e2⟩
 .exact⟨c,Z,B,θ,_,U,t,b,e1,λvs L q b1=>h1 x vs U L q b1 e2⟩
 .exact⟨c,Z,B,θ,_,O,t,b,e1,λC L hm b1=>h2 e e2 C L hm b1⟩
def fv(m:Mi (List Rr)):Mi Rr:=aV m λrs Z=>match d5 rs Z with
 |some (as,O)=>if as.length<=1000 then some (.ok (.fr (.tup as)),O) else none
 |none=>none
def du(m:Mi (List Rr)):Mi Rr:=aV m λrs Z=>match d5 rs Z with
 |some (as,O)=>if as.length<=1000 then some (.ok (.nw (.lst as)),O) else none
 |none=>none
theorem ud{k:Kx}{as:List A}:∀G,bU k G vs.reverse as.reverse->bU k G vs as:=λG h=>by have:=h.rev;simpa using this
theorem rN:1000<=sizeLine:=by rw[Yi];decide
theorem HA{m:Mi (List Rr)}{x1 pos}(h:JA X E es m):JE X E (.Tuple es x1 pos) (fv m):=⟨PE.weaken (Ip h.p) λY H Q h=>by
 obtain⟨c,Z,B,θ,o,O,t,b,em,q⟩:=h;refine vZ t b em (λrs vs U V A b1 e=>?_) (bV q);cases e1:d5 rs U with
 |none=>rw[e1] at e;cases e
 |some p=>
  obtain⟨as,F⟩:=p;simp only[e1] at e;obtain⟨b2,e2⟩:=Bd.d5 A b1 e1;split at e
  .rename_i hl;cases e;exact⟨by have:=rN;lia,λp hp=>q (.ref p) _ trivial (Bd.Kw b2 (by simp[e2]) hp vs as ud)⟩
  .cases e⟩
theorem Gu{m:Mi (List Rr)}{pos}(h:JA X E es m):JE X E (.List es pos) (du m):=⟨PE.weaken (G6 h.p) λY H Q h=>by
 obtain⟨c,Z,B,θ,o,O,t,b,em,q⟩:=h;refine vZ t b em (λrs vs U V A b1 e=>?_) (bV q);cases e1:d5 rs U with
 |none=>rw[e1] at e;cases e
 |some p=>
  obtain⟨as,F⟩:=p;simp only[e1] at e;obtain⟨b2,e2⟩:=Bd.d5 A b1 e1;split at e
  .rename_i hl;cases e;exact⟨by have:=rN;lia,λp hp=>q (.ref p) _ trivial (Bd.zF b2 (by simp[e2]) hp vs as ud)⟩
  .cases e⟩
end
inductive Fl where
 |nx|rt(s:Sl)|bk|ct|ex(c:Str)
noncomputable abbrev Ms:=List Sl->Option (Fl×List Sl)
noncomputable def az:Nat->List Sl->List Sl
 |0,_=>[]
 |n+1,[]=>.un::az n []
 |n+1,.pv o::Z=>.pv o::az n Z
 |n+1,_::Z=>.un::az n Z
def je(K:Kx)(n:Nat)(m:Ms):Sp:=λvs H Q E=>vs.length=n/\∃(c:Cn)(Z:List Sl)(f:Fl)(O:List Sl),c.toKx=K/\c.σ0=vs.map some/\c.H0=H/\d9 c (vs.map some) H Z [] [] c.Lp/\m Z=some (f,O) /\
  (match f with
   | .rt s=>∀v H',(∀o,s≠.pv o)->Bd c (vs.map some) H' (az vs.length O) [some v] [s]->Q v H'
   | .ex x=>∀C H',K.mg x=some (.ref C)->Bd c (vs.map some) H' (az vs.length O) [] []->E (.ref C) none H'
   | _=>False)
section
variable{k:Kx}{G H:Hp}
theorem ax.back:∀{σ0 Y:St}{Z:List Sl}{L:List Addr},ax k G H Y Z L->(∀(i:Nat)(o:LO),Z[i]?=some (.pv o)->i<σ0.length->Y[i]?=σ0[i]?)->∃L',L'.Sublist L/\ax k G H σ0 (az σ0.length Z) L'
 |[],_,_,_,_,_=>⟨[],List.nil_sublist _,.nil⟩
 |x::σ0,_,_,_,.nil,h=>by obtain⟨L',s,r⟩:=ax.back .nil (λi o e=>by simp at e);exact⟨L',s,ax.cons (.un x) r⟩
 |x::σ0,_,_,_,.cons (x:=y) (s:=s) (Z:=U) (L:=L1) (L':=L2) hs r,h=>by
  obtain⟨L',sl,r'⟩:=ax.back r (λi o e hi=>by have:=h (i+1) o e (by simpa using hi);simpa using this);have fin:az (x::σ0).length (s::U)=.un::az σ0.length U->∃L',L'.Sublist (L1++L2)/\ax k G H (x::σ0) (az (x::σ0).length (s::U)) L':=λe=>by rw[e];exact⟨L',sl.trans (TQ _ _),ax.cons (.un x) r'⟩
  cases s with
  |un=>exact fin rfl
  |fr a=>exact fin rfl
  |lv o=>exact fin rfl
  |cf o=>exact fin rfl
  |pv o=>
   have e:=h 0 o rfl Z4;have e:y=x:=by simpa using e
   subst e;exact⟨L1++L',Th (Tv _) sl,ax.cons hs r'⟩
end
variable{as:List Sl}
section
variable{c:Cn}{Y:St}{H:Hp}{Z:List Sl}{B:St}{θ:List Sl}
theorem Bd.back(b:Bd c Y H Z B θ):Bd c c.σ0 H (az c.σ0.length Z) B θ:=by
 obtain⟨L,b⟩:=b;obtain⟨A,L2,e1,E,l⟩:=ax.split b.lt b.rel;obtain⟨L',sl,r⟩:=l.back (σ0:=c.σ0) (λi o e _=>b.kp i _ e rfl);have h:(A++L').Sublist L:=by rw[e1];exact Th (Tv _) sl
 have sm:Sq (c.g H L) (c.g H (A++L')):=dz λa f=>h.subset f;exact⟨A++L',b.nd.sublist h,(E.app r).sm sm (λ_ _ _ e=>e),λp hp=>b.own p (h.subset hp),b.fr,λi o _ _=>rfl,b.lt,b.hd⟩
noncomputable def take1:Rr->List Sl->Option (Sl×List Sl)
 | .fr a,Z=>some (.fr a,Z)
 | .nw o,Z=>some (.fr o.a,Z)
 | .rf i,Z=>match Z[i]? with
  |some (.lv o)=>some (.lv o,Z.set i .un)
  |some (.pv o)=>some (.lv o,Z.set i .un)
  |some (.fr a)=>some (.fr a,Z)
  |_=>none
def cy:List Rr->List Sl->Option (List Sl×List Sl)
 |[],Z=>some ([],Z)
 |r::rs,Z=>match take1 r Z with
  |some (a,U)=>match cy rs U with
   |some (as,F)=>some (a::as,F)
   |none=>none
  |none=>none
noncomputable def rB:Sl->Sl
 | .lv o=>.pv o
 |s=>s
theorem tQ{r:Rr}(h:cy (r::rs) Z=some (as,O)):∃a H U,take1 r Z=some (a,U)/\cy rs U=some (H,O)/\as=a::H:=by
 unfold cy at h;cases e1:take1 r Z with
 |none=>rw[e1] at h;cases h
 |some p=>
  obtain⟨a,U⟩:=p;rw[e1] at h;cases e2:cy rs U with
  |none=>simp only[e2] at h;cases h
  |some q=>obtain⟨H,F⟩:=q;simp only[e2] at h;cases h;exact⟨a,H,U,rfl,e2,rfl⟩
theorem Bd.take1{r:Rr}{v:V}{a:Sl}{O:List Sl}{xs:St}{ss:List Sl}(e:xs.length=ss.length)(b:Bd c Y H Z (xs++cM r v B) (ss++cL r θ))(A:VR Y r v)(h:take1 r Z=some (a,O)):Bd c Y H O (xs++some v::B) (ss++a::θ):=by
 cases r with
 |fr a'=>cases h;exact b
 |nw o=>cases h;exact Bd.MH e b
 |rf i=>
  delta M.take1 at h
  cases es:Z[i]? with
  |none=>simp only[es] at h;cases h
  |some s=>
   cases s with
   |un=>simp only[es] at h;cases h
   |fr a'=>simp only[es] at h;cases h;exact Bd.GG e b A es
   |lv o=>simp only[es] at h;cases h;exact Bd.IJ e b A es (.inl rfl)
   |pv o=>simp only[es] at h;cases h;exact Bd.IJ e b A es (.inr rfl)
   |cf o=>simp only[es] at h;cases h
theorem Bd.cy:∀{rs:List Rr}{vs:List V}{as:List Sl}{Z O:List Sl}{B:St}{θ:List Sl},lX Y rs vs->Bd c Y H Z (dr rs vs B) (dk rs θ)->cy rs Z=some (as,O)->Bd c Y H O (vs.reverse.map some++B) (as.reverse++θ)/\vs.length=as.length
 |[],[],_,_,_,_,_,_,b,h=>by cases h;exact⟨b,rfl⟩
 |r::rs,v::vs,_,Z,O,B,θ,hv,b,h=>by obtain⟨a,as,U,e1,e2,rfl⟩:=tQ h;have b:Bd c Y H Z (dr rs vs (cM r v B)) (dk rs (cL r θ)):=b;rw[dS,dW] at b;have b1:=Bd.take1 (qc rs vs (lX.len hv.2)) b hv.1 e1;rw[<-dS rs vs (some v::B),<-dW rs (a::θ)] at b1;obtain⟨b2,N⟩:=Bd.cy hv.2 b1 e2;exact⟨by simpa using b2,by simp[N]⟩
 |[],_::_,_,_,_,_,_,h,_,_=>h.elim
 |_::_,[],_,_,_,_,_,h,_,_=>h.elim
noncomputable def sx(S:List Sl):Rr->Sl->List Sl->Option (List Sl)
 | .rf i,s,Z=>match S[i]?,s,Z[i]? with
  |some (.lv _),.pv o,some .un=>some (Z.set i (.lv o))
  |some (.pv _),.pv o,some .un=>some (Z.set i (.pv o))
  |some (.fr _),_,_=>some Z
  |_,_,_=>none
 |_,_,Z=>some Z
def putL(S:List Sl):List Rr->List Sl->List Sl->Option (List Sl)
 |r::rs,s::ss,Z=>match putL S rs ss Z with
  |some U=>sx S r s U
  |none=>none
 |[],[],Z=>some Z
 |_,_,_=>none
end
section
variable{k:Kx}{G H:Hp}
theorem ax.IV:∀{Y:St}{Z:List Sl}{L:List Addr},ax k G H Y Z L->∃L',L'.Perm L/\ax k G H Y.reverse Z.reverse L'
 |_,_,_,.nil=>⟨[],.refl _,.nil⟩
 |_,_,_,.cons (L:=L1) h r=>by obtain⟨L',pm,r'⟩:=ax.IV r;refine⟨L'++(L1++[]),?_,by rw[TU,TU];exact r'.app (ax.cons h .nil)⟩;rw[RO];exact(pm.append_right L1).trans Ts
theorem ax.zt:∀{Y:St}{Z:List Sl}{L:List Addr},ax k G H Y Z L->∀p∈L,∀ob vs,H p=some (.frz ob vs)->False
 |_,_,_,.nil,p,hp,_,_,_=>by cases hp
 |_,_,_,.cons h r,p,hp,ob,vs,e=>by
  rcases Q0.mp hp with z|z
  .cases h with
   |un=>cases z
   |fr=>cases z
   |cf=>cases z
   |lv h=>exact h.nf p z _ _ e
   |pv h=>exact h.nf p z _ _ e
  .exact r.zt p z ob vs e
theorem ax.rB:∀{Y:St}{Z:List Sl}{L:List Addr},ax k G H Y Z L->ax k G H Y (Z.map rB) L
 |_,_,_,.nil=>.nil
 |_,_,_,.cons h r=>by
  refine ax.cons ?_ (ax.rB r);cases h with
  |un=>exact .un _
  |fr h=>exact .fr h
  |cf h=>exact .cf h
  |lv h=>exact .pv h
  |pv h=>exact .pv h
noncomputable def AN:Sl->Sl
 | .pv o=>.lv o
 |s=>s
theorem ax.AN:∀{Y:St}{Z:List Sl}{L:List Addr},ax k G H Y Z L->ax k G H Y (Z.map AN) L
 |_,_,_,.nil=>.nil
 |_,_,_,.cons h r=>by
  refine ax.cons ?_ (ax.AN r);cases h with
  |un=>exact .un _
  |fr h=>exact .fr h
  |cf h=>exact .cf h
  |lv h=>exact .lv h
  |pv h=>exact .lv h
end
section
variable{c:Cn}{Y:St}{H:Hp}{Z:List Sl}{B:St}{θ:List Sl}
theorem Bd.enter(e:vs.length=as.length)(b:Bd c Y H Z (vs.reverse.map some++B) (as.reverse++θ)):
  ∃x:Cn,x.toKx=c.toKx/\x.σ0=vs.map some/\x.H0=H/\d9 x (vs.map some) H (as.map rB) [] [] x.Lp /\
   ∀(H':Hp)(O:List Sl)(J:St)(T:List Sl),(∀s∈T,∀o,s≠.pv o)->O.length=vs.length->Bd x (vs.map some) H' O J T->Bd c Y H' Z (vs.reverse.map some++(J++B)) ((O.map AN).reverse++(T++θ)):=by
 obtain⟨L,b⟩:=b;have r:ax c.toKx (c.g H L) H (vs.reverse.map some++(B++Y)) (as.reverse++(θ++Z)) L:=by have:=b.rel;simpa[QQ] using this
 obtain⟨La,v,e1,f,l⟩:=ax.split (by simp[e]) r;obtain⟨Lp,pm,S⟩:=f.IV;have S:ax c.toKx (c.g H L) H (vs.map some) as Lp:=by simpa[<-We] using S
 have G:∀a,a∈Lp++(v++c.Hd)↔a∈L++c.Hd:=λa=>by
  rw[e1,Q0,Q0,Q0,Q0,pm.mem_iff];constructor
  .rintro(h|h|h)
   .exact .inl (.inl h)
   .exact .inl (.inr h)
   .exact .inr h
  .rintro((h|h)|h)
   .exact .inl h
   .exact .inr (.inl h)
   .exact .inr (.inr h)
 have nd:=b.nd;rw[e1] at nd;obtain⟨d,n2,k⟩:=Q2.mp nd
 let x:Cn:={ toKx:=c.toKx,σ0:=vs.map some,H0:=H,Lp:=Lp,Hd:=v++c.Hd,Wk:=[] }
 have U:∀V A L2,(∀a,a∈A++(v++c.Hd)↔a∈L2++c.Hd)->x.g V A=c.g V L2:=λV A L2 hm=>by
  funext a
  show (if a∈A++(v++c.Hd) then none else V a)=(if a∈L2++c.Hd then none else V a)
  by_cases z:a∈A++(v++c.Hd)
  .rw[Zx z,Zx ((hm a).mp z)]
  .rw[Zy z,Zy λy=>z ((hm a).mpr y)]
 refine⟨x,rfl,rfl,rfl,⟨(pm.nodup_iff).mpr d,?_,λp hp=>.inl hp,⟨λq o h=>⟨o,h,λ_ _=>rfl⟩,λq m=>by cases m⟩,λi o _ _=>rfl,rfl,λp hp=>?_⟩,?_⟩
 .show ax c.toKx (x.g H Lp) H (vs.map some) (as.map rB) Lp;rw[U H Lp L G];exact S.rB
 .rcases Q0.mp hp with z|z
  .exact⟨l.is p z,λy=>k p (pm.mem_iff.mp y) p z rfl⟩
  .refine⟨?_,λy=>b.ye (by rw[e1];exact QR _ (pm.mem_iff.mp y)) z⟩;obtain⟨⟨u,h1⟩,h2⟩:=b.hd p z;obtain⟨X,h3,_⟩:=b.fr.st p u h1;exact⟨X,h3⟩
 .intro H' O J T hθ hl D;obtain⟨L',D⟩:=D;obtain⟨Lt,Ls,e2,q1,q2⟩:=ax.split D.lt D.rel;obtain⟨P,j,q3⟩:=q2.AN.IV;have lt':B.length=θ.length:=by have:=b.lt;simp[e] at this;exact id ‹_›
  obtain⟨Lτ,Lσ,e3,s1,s2⟩:=ax.split lt' l;have K:∀p∈L',p∈Lp\/H p=none:=D.own;have C:∀p,p∈v->∀u,H p=some u->H' p=some u:=λp hp u h=>by obtain⟨X,h1,h2⟩:=D.fr.st p u h;have:p∉Lp:=λy=>k p (pm.mem_iff.mp y) p hp rfl;rw[h1,h2 this (λw n=>by cases n)]
  have I:∀p,p∈L'->p∉v:=λp hp y=>by
   rcases K p hp with z|z
   .exact k p (pm.mem_iff.mp z) p y rfl
   .obtain⟨u,h⟩:=l.is p y;rw[z] at h;cases h
  have Q:Sq (c.g H L) (x.g H' L'):=λa u h=>by
   by_cases z:a∈L\/a∈c.Hd
   .rw[gZ z] at h;cases h
   .rw[bM (λy=>z (.inl y)) (λy=>z (.inr y))] at h;have N:a∉Lp:=λy=>z (.inl (by rw[e1];exact QR _ (pm.mem_iff.mp y)));have nr:a∉v:=λy=>z (.inl (by rw[e1];exact QO _ y));obtain⟨X,h1,h2⟩:=D.fr.st a u h;refine⟨X,?_,.inl (h2 N (λw n=>by cases n))⟩;rw[bM (c:=x) (λy=>?_) (λy=>?_)]
    .exact h1
    .rcases K a y with w|w
     .exact N w
     .rw[w] at h;cases h
    .rcases Q0.mp y with w|w
     .exact nr w
     .exact z (.inr w)
  have F:x.g H' L'=c.g H' (L'++v):=U H' L' (L'++v) λa=>by simp[Q0,or_assoc]
  have s3:ax c.toKx (x.g H' L') H' (B++Y) (θ++Z) v:=l.sm Q C;have Ij:ax c.toKx (x.g H' L') H' (vs.reverse.map some++(J++B)++Y) ((O.map AN).reverse++(T++θ)++Z) (P++(Lt++v)):=by have:=q3.app (q1.app s3);simpa[QQ,<-We] using this
  have R:(P++(Lt++v)).Perm (L'++v):=by rw[e2];have:=j.append_right (Lt++v);refine this.trans ?_;rw[<-QQ];exact Ts.append_right v
  refine⟨P++(Lt++v),(R.nodup_iff).mpr (Q2.mpr ⟨D.nd,n2,λa ha b2 hb z=>I a ha (by rw[z];exact hb)⟩),?_,λp hp=>?_,⟨λq u h=>?_,λq m=>?_⟩,b.kp,?_,b.hd⟩
  .rw[Dq (c:=c) (H:=H') (L':=L'++v) λa=>R.mem_iff,<-F];exact Ij
  .rcases Q0.mp (R.mem_iff.mp hp) with z|z
   .rcases K p z with y|y
    .exact b.own p (by rw[e1];exact QR _ (pm.mem_iff.mp y))
    .exact .inr (b.fr.fresh y)
   .exact b.own p (by rw[e1];exact QO _ z)
  .obtain⟨u1,h1,h2⟩:=b.fr.st q u h;obtain⟨E,h3,h4⟩:=D.fr.st q u1 h1;refine⟨E,h3,λt nw=>?_⟩;rw[h4 (λy=>?_) (λw n=>by cases n),h2 t nw];rcases b.own q (by rw[e1];exact QR _ (pm.mem_iff.mp y)) with w|w
   .exact t w
   .rw[w] at h;cases h
  .obtain⟨h1,⟨ob,ws,h2⟩,h3⟩:=b.fr.pk q m;refine⟨?_,⟨ob,ws,h2⟩,h3⟩;obtain⟨E,h4,h5⟩:=D.fr.st q.1 q.2 h1;rw[h4,h5 (λy=>?_) (λw n=>by cases n)];exact S.zt q.1 y ob ws (by rw[h1,h2])
  .have:=D.lt;simp[hl];lia
end
section
variable{c:Cn}{Y:St}{H:Hp}{Z:List Sl}{B:St}{θ:List Sl}
theorem Bd.sx{S O:List Sl}{r:Rr}{s:Sl}{v:V}(kp:fg c.σ0 Y S)(A:VR Y r v)(b:Bd c Y H Z (some v::B) (AN s::θ))(h:sx S r s Z=some O):Bd c Y H O B θ:=by
 cases r with
 |fr a=>cases h;exact b.pop
 |nw o=>cases h;exact b.pop
 |rf i=>
  delta M.sx at h
  dsimp only at h
  cases I:S[i]? with
  |none=>rw[I] at h;cases h
  |some u=>
   rw[I] at h;cases u with
   |un=>cases h
   |fr a=>cases h;exact b.pop
   |cf a=>cases h
   |lv p=>
    cases s with
    |pv o=>
     cases e1:Z[i]? with
     |none=>rw[e1] at h;cases h
     |some s1=>
      rw[e1] at h;cases s1 with
      |un=>cases h;exact Bd.putBack b A e1 (.inl rfl)
      |_=>exact kj h
    |_=>exact kj h
   |pv p=>
    cases s with
    |pv o=>
     cases e1:Z[i]? with
     |none=>rw[e1] at h;cases h
     |some s1=>
      rw[e1] at h;cases s1 with
      |un=>cases h;exact Bd.putBack b A e1 (.inr ⟨rfl,kp i _ I rfl⟩)
      |_=>exact kj h
    |_=>exact kj h
theorem Bd.putL{S:List Sl}(kp:fg c.σ0 Y S):∀{rs:List Rr}{vs:List V}{ss:List Sl}{Z O:List Sl}{B:St}{θ:List Sl},lX Y rs vs->Bd c Y H Z (vs.reverse.map some++B) ((ss.map AN).reverse++θ)->M.putL S rs ss Z=some O->Bd c Y H O B θ
 |[],[],[],_,_,_,_,_,b,h=>by cases h;exact b
 |r::rs,v::vs,s::ss,Z,O,B,θ,hv,b,h=>by
  unfold M.putL at h;cases e:M.putL S rs ss Z with
  |none=>rw[e] at h;cases h
  |some U=>
   rw[e] at h;have b1:Bd c Y H Z (vs.reverse.map some++(some v::B)) ((ss.map AN).reverse++(AN s::θ)):=by simpa[QQ] using b
   exact Bd.sx kp hv.1 (Bd.putL kp hv.2 b1 e) h
 |[],_::_,_,_,_,_,_,h,_,_=>h.elim
 |_::_,[],_,_,_,_,_,h,_,_=>h.elim
 |[],[],_::_,_,_,_,_,_,_,h=>by cases h
 |_::_,_::_,[],_,_,_,_,_,_,h=>by cases h
theorem cD:∀(n:Nat)(Z:List Sl),(az n Z).length=n
 |0,_=>rfl
 |n+1,[]=>by show (Sl.un::az n []).length=_;rw[Q4,cD n []]
 |n+1,s::Z=>by cases s<;>(show (_::az n Z).length=_;rw[Q4,cD n Z])
theorem lX.app:∀{rs qs:List Rr}{vs us:List V},lX Y rs vs->lX Y qs us->lX Y (rs++qs) (vs++us)
 |[],_,[],_,_,h=>h
 |_::rs,_,_::vs,_,h1,h2=>⟨h1.1,lX.app h1.2 h2⟩
 |[],_,_::_,_,h,_=>h.elim
 |_::_,_,[],_,h,_=>h.elim
theorem lX.lE:∀{I:List A}{dvs:List V},I.length=dvs.length->lX Y (I.map Rr.fr) dvs
 |[],[],_=>trivial
 |_::I,_::dvs,h=>⟨trivial,lX.lE (by simpa using h)⟩
 |[],_::_,h=>by simp at h
 |_::_,[],h=>by simp at h
theorem mf:∀{rs:List Rr}{vs:List V}(qs:List Rr)(us:List V)(B:St),rs.length=vs.length->dr (rs++qs) (vs++us) B=dr qs us (dr rs vs B)
 |[],[],_,_,_,_=>rfl
 |r::rs,v::vs,qs,us,B,h=>mf qs us (cM r v B) (by simpa using h)
 |[],_::_,_,_,_,h=>by simp at h
 |_::_,[],_,_,_,h=>by simp at h
theorem kr:∀(rs qs:List Rr)(θ:List Sl),dk (rs++qs) θ=dk qs (dk rs θ)
 |[],_,_=>rfl
 |r::rs,qs,θ=>kr rs qs (cL r θ)
theorem Bd.tT:∀{I:List A}{dvs:List V}{B:St}{θ:List Sl},(∀G,bU c.toKx G dvs I)->Bd c Y H Z B θ->Bd c Y H Z (dr (I.map Rr.fr) dvs B) (dk (I.map Rr.fr) θ)
 |[],[],_,_,_,b=>b
 |a::I,v::dvs,_,_,h,b=>Bd.tT (dvs:=dvs) (λG=>by cases h G;assumption) (Bd.push b λG=>by cases h G;assumption)
 |[],_::_,_,_,h,_=>by cases h (λ_=>none)
 |_::_,[],_,_,h,_=>by cases h (λ_=>none)
end
noncomputable def qd:Sl->Option Rr
 | .fr a=>some (.fr a)
 | .lv o=>some (.nw o)
 |_=>none
def aY(f:Ms)(I:List A)(ma:Mi (List Rr)):Mi Rr:=aV ma λrs Z=>match cy (rs++I.map Rr.fr) Z with
 |some (as,T)=>match f (as.map rB) with
  |some (.rt s,U)=>match qd s,putL Z (rs++I.map Rr.fr) (az as.length U) T with
   |some r,some O=>some (.ok r,O)
   |_,_=>none
  |some (.ex x,U)=>match putL Z (rs++I.map Rr.fr) (az as.length U) T with
   |some O=>some (.error x,O)
   |none=>none
  |_=>none
 |none=>none
variable{dvs:List V}{CX:qG}{f:Addr}{fd:X1}{ps:List Str}
section
variable{X:Cx}{E:XK}
theorem kz{m:Ms}{n:Nat}{I:List A}(hd:∀G,bU (kx X) G dvs I){o:Except Str Rr}(t:c.toKx=kx X)(hn:(vs++dvs).length=n)
  (q:lX Y rs vs)(b:Bd c Y H Z (dr rs vs B) (dk rs θ)) (em:(match cy (rs++I.map Rr.fr) Z with
 |some (as,T)=>match m (as.map rB) with
  |some (.rt s,U)=>match qd s,putL Z (rs++I.map Rr.fr) (az as.length U) T with
   |some r,some O=>some (.ok r,O)
   |_,_=>none
  |some (.ex x,U)=>match putL Z (rs++I.map Rr.fr) (az as.length U) T with
   |some O=>some (.error x,O)
   |none=>none
  |_=>none
 | none=>none)=some (o,O)) (j:∀r,o=.ok r->∀v H',VR Y r v->Bd c Y H' O (cM r v B) (cL r θ)->Q v H') (S:∀x,o=.error x->∀C H',X.mg x=some (.ref C)->Bd c Y H' O B θ->E (.ref C) none H'):je (kx X) n m (vs++dvs) H Q E:=by
 refine⟨hn,?_⟩;cases e1:cy (rs++I.map Rr.fr) Z with
 |none=>rw[e1] at em;cases em
 |some p=>
  obtain⟨as,T⟩:=p;rw[e1] at em;have ld:=(hd λ_=>none).len.symm;have i:=q.app (lX.lE ld);have b2:Bd c Y H Z (dr (rs++I.map Rr.fr) (vs++dvs) B) (dk (rs++I.map Rr.fr) θ):=by rw[mf _ _ _ q.len,kr];exact Bd.tT (by rw[t];exact hd) b
  obtain⟨k,N⟩:=Bd.cy i b2 e1;obtain⟨y,e,g,l,d,R⟩:=Bd.enter N k;have kp:fg c.σ0 Y Z:=by obtain⟨L,b⟩:=b;exact b.kp
  cases K:m (as.map rB) with
  |none=>simp only[K] at em;cases em
  |some p=>
   obtain⟨f,U⟩:=p;simp only[K] at em;refine⟨y,_,f,U,e.trans t,g,l,d,K,?_⟩;cases f with
   |nx=>cases em
   |bk=>cases em
   |ct=>cases em
   |rt s=>
    cases w:qd s with
    |none=>simp only[w] at em;cases em
    |some r=>
     cases h:putL Z (rs++I.map Rr.fr) (az as.length U) T with
     |none=>simp only[w,h] at em;cases em
     |some F=>
      simp only[w,h] at em;cases em;intro v H' hs P;have D:=R H' _ _ _ (λs' u o z=>by rw[Rl.mp u] at z;exact hs o z) (cD _ _) P;rw[N] at D;have J:=Bd.putL kp i D h;cases s with
      |fr a=>cases w;exact j _ rfl v H' trivial J
      |lv o=>cases w;exact j _ rfl v H' trivial J
      |_=>exact kj w
   |ex x=>
    cases h:putL Z (rs++I.map Rr.fr) (az as.length U) T with
    |none=>simp only[h] at em;cases em
    |some F=>simp only[h] at em;cases em;intro C H' hm P;have D:=R H' _ _ _ (λs' u=>by cases u) (cD _ _) P;rw[N] at D;exact S x rfl C H' hm (Bd.putL kp i D h)
theorem Eu{k n:Nat}{m:Ms}{I:List A}{ds:List Value}{x:Str}{p:Pos}{ma:Mi (List Rr)}(F:dF X.prog X.w X.K X.mg X.base CX k f fd ps (je (kx X) n m))(hr:cW k X.A)(hg:Gl X x)
  (hm:X.mg x=some (.ref f))(hk:Sk X.K (.ref f)=true)(hb:Binds X.K fd ps ds)(hd:Vals dvs ds)(hda:∀G,bU (kx X) G dvs I)(hx:Passes CX X E)(ha:JA X E (e::es) ma)(hn:∀Z rs O,ma Z=some (.ok rs,O)->rs.length+I.length=n)(hdb:fC x)
  (he:XM (e::es) X.env=(false,eval e X.env)::XM es X.env:=by rfl)(hpl:(XW pos (XM es X.env)).any (·.1)=false:=by rfl):JE X E (.Call (.Name x p) (e::es) [] pos) (aY m I ma):=
 ⟨PE.weaken (CD F hr hg hm hk hb hd hx ha.p hdb he hpl) λY H Q h=>by
  obtain⟨c,Z,B,θ,o,O,ek,b,em,q⟩:=h;rcases bind_some em with ⟨rs,U,e1,e2⟩|⟨e,e1,e2⟩
  .refine⟨c,Z,B,θ,_,U,ek,b,e1,λvs H1 hv b1=>?_⟩;refine kz hda ek ?_ hv b1 e2 (λr hr v H' hv b=>by subst hr;exact q v H' hv b) (λx hx=>by subst hx;exact q);rw[Rc,<-hv.len,<-hn Z rs U e1,(hda λ_=>none).len]
  .subst e2;exact⟨c,Z,B,θ,_,O,ek,b,e1,λC H1 hm b1=>q C H1 hm b1⟩⟩
theorem zf:∀Z rs O,kY Z=some (.ok rs,O)->rs.length=0:=λZ rs O h=>by cases h;rfl
theorem v7{m:Mi Rr}{ma:Mi (List Rr)}{n:Nat}(h:∀Z rs O,ma Z=some (.ok rs,O)->rs.length=n):∀Z rs O,da m ma Z=some (.ok rs,O)->rs.length=n+1:=λZ rs O e=>by
 rcases bind_some e with ⟨r,U,e1,e2⟩|⟨_,_,e2⟩
 .rcases bind_some e2 with ⟨rs',F,N,K⟩|⟨_,_,K⟩
  .cases K;rw[Q4,h _ _ _ N]
  .cases K
 .cases e2
theorem HP{ma:Mi (List Rr)}{n d N:Nat}(h:∀Z rs O,ma Z=some (.ok rs,O)->rs.length=n)(e:n+d=N):∀Z rs O,ma Z=some (.ok rs,O)->rs.length+d=N:=λZ rs O q=>by rw[h Z rs O q];exact e
def GU(K:Kx)(E:XK)(c:Cn)(Z:List Sl)(B:St)(θ:List A)(D:Ends):Fl->Prop
 | .nx=>∀Y H,Bd c Y H Z B (θ.map Sl.fr)->D.nx Y H
 | .rt s=>∀v Y H,(∀o,s≠.pv o)->Bd c Y H Z (some v::B) (s::θ.map Sl.fr)->D.rt v H
 | .bk=>∀Y H,Bd c Y H Z B (θ.map Sl.fr)->D.bk Y H
 | .ct=>∀Y H,Bd c Y H Z B (θ.map Sl.fr)->D.ct Y H
 | .ex x=>∀C Y H,K.mg x=some (.ref C)->Bd c Y H Z B (θ.map Sl.fr)->E (.ref C) none H
inductive G3(K:Kx)(E:XK)(m:Ms)(D:Ends)(Y:St)(H:Hp):Prop
 |mk(c:Cn)(Z:List Sl)(B:St)(θ:List A)(f:Fl)(O:List Sl)(h1:c.toKx=K)(h2:Bd c Y H Z B (θ.map Sl.fr))(h3:m Z=some (f,O))(h4:GU K E c O B θ D f)
structure JS(X:Cx)(E:XK)(s:Stmt)(m:Ms):Prop where
 p:PS X s (G3 (kx X) E m)
structure qZ(X:Cx)(E:XK)(s:List Stmt)(m:Ms):Prop where
 p:qX X s (G3 (kx X) E m)
theorem PS.weaken{e:Stmt}{t t':TS}(h:PS X e t)(f:∀D Y H,t' D Y H->t D Y H):PS X e t':=λpins s Y H D I q=>h pins s Y H D I (f D Y H q)
theorem qX.weaken{e:List Stmt}{t t':TS}(h:qX X e t)(f:∀D Y H,t' D Y H->t D Y H):qX X e t':=λpins s Y H D I q=>h pins s Y H D I (f D Y H q)
noncomputable def bN:Ms:=λZ=>some (.nx,Z)
noncomputable def av(m n:Ms):Ms:=λZ=>match m Z with
 |some (.nx,U)=>n U
 |r=>r
theorem v5:qZ X E [] bN:=⟨qX.weaken Dc λD Y H h=>by obtain⟨c,Z,B,θ,f,O,t,b,em,q⟩:=h;cases em;exact q Y H b⟩
theorem wa{s:Stmt}{m:Ms}(h:JS X E s m):qZ X E [s] m:=⟨DS h.p⟩
theorem rp{s:Stmt}{r:List Stmt}{m n:Ms}(h:JS X E s m)(h':qZ X E r n):qZ X E (s::r) (av m n):=⟨qX.weaken (mF h.p h'.p) λD Y H h=>by
 obtain⟨c,Z,B,θ,f,O,t,b,em,q⟩:=h
 delta av at em
 cases e:m Z with
 |none=>rw[e] at em;cases em
 |some p=>
  obtain⟨u,U⟩:=p;rw[e] at em;refine⟨c,Z,B,θ,u,U,t,b,e,?_⟩;cases u with
  |nx=>exact λj H' a=>⟨c,U,B,θ,f,O,t,a,em,q⟩
  |rt s=>cases em;exact q
  |bk=>cases em;exact q
  |ct=>cases em;exact q
  | ex x=>cases em;exact q⟩
noncomputable def cX{α:Type}(m:Mi α)(f:α->Ms):Ms:=λZ=>match m Z with
 |some (.ok x,U)=>f x U
 |some (.error e,U)=>some (.ex e,U)
 |none=>none
theorem fq{m:Mi α}{f:α->Ms}{o:Fl}(h:cX m f Z=some (o,O)):(∃x U,m Z=some (.ok x,U)/\f x U=some (o,O))\/∃e,m Z=some (.error e,O)/\o=.ex e:=by
 delta cX at h
 cases e:m Z with
 |none=>rw[e] at h;cases h
 |some p=>
  obtain⟨r,U⟩:=p;cases r with
  |ok x=>rw[e] at h;exact .inl ⟨x,U,rfl,h⟩
  |error x=>rw[e] at h;cases h;exact .inr ⟨x,rfl,rfl⟩
theorem d6{θ:List A}{m:Mi Rr}{f:Rr->Ms}{o:Fl}{D:Ends}(t:c.toKx=kx X)(b:Bd c Y H Z B (θ.map Sl.fr))(em:cX m f Z=some (o,O))(q:GU (kx X) E c O B θ D o)
  (h1:∀x v U V,VR Y x v->Bd c Y V U (cM x v B) (cL x (θ.map Sl.fr))->f x U=some (o,O)->Q v V):kQ (kx X) E m Y H Q:=by
 rcases fq em with ⟨x,U,e1,e2⟩|⟨e,e1,e2⟩
 .exact⟨c,Z,B,_,_,U,t,b,e1,λv V K b1=>h1 x v U V K b1 e2⟩
 .subst e2;exact⟨c,Z,B,_,_,O,t,b,e1,λC V hm b1=>q C Y V hm b1⟩
theorem Es{θ:List A}{m:Mi Bool}{f:Bool->Ms}{o:Fl}{Q:Bool->Hp->Prop}{D:Ends}(t:c.toKx=kx X)(b:Bd c Y H Z B (θ.map Sl.fr))(em:cX m f Z=some (o,O))(q:GU (kx X) E c O B θ D o)
  (h1:∀k U V,Bd c Y V U B (θ.map Sl.fr)->f k U=some (o,O)->Q k V):C7 (kx X) E m Y H Q:=by
 rcases fq em with ⟨x,U,e1,e2⟩|⟨e,e1,e2⟩
 .exact⟨c,Z,B,_,_,U,t,b,e1,λV b1=>h1 x U V b1 e2⟩
 .subst e2;exact⟨c,Z,B,_,_,O,t,b,e1,λC V hm b1=>q C Y V hm b1⟩
def dA(m:Mi Rr):Ms:=cX m λ_ Z=>some (.nx,Z)
theorem DR{m:Mi Rr}(h:JE X E e m)(hs:X9 e none pos.line X.env=pure false:=by rfl):JS X E (.Expr e pos) (dA m):=⟨PS.weaken (Ef h.p hs) λD Y H h=>by obtain⟨c,Z,B,θ,f,O,ek,b,em,q⟩:=h;refine d6 ek b em q λx v U H1 hv b1 em1=>?_;cases em1;exact q Y H1 b1.drop⟩
def gJ(t:Mi Bool)(m n:Ms):Ms:=cX t λb=>if b then m else n
theorem NI{t:Expr}{a b:List Stmt}{m n:Ms}(l:JT X E t mt)(r:qZ X E a m)(d:qZ X E b n):JS X E (.If t a b pos) (gJ mt m n):=⟨PS.weaken (KW l.p r.p d.p) λD Y H h=>by
 obtain⟨c,Z,B,θ,f,O,v,b,em,q⟩:=h;refine Es v b em q λk U V b1 e=>?_;cases k with
 |true=>rw[Zx rfl];exact⟨c,U,B,θ,f,O,v,b1,e,q⟩
 | false=>rw[Zy Z2];exact⟨c,U,B,θ,f,O,v,b1,e,q⟩⟩
noncomputable def Hs:Rr->List Sl->Option (Sl×List Sl)
 | .fr a,Z=>some (.fr a,Z)
 | .nw o,Z=>some (.lv o,Z)
 | .rf i,Z=>match Z[i]? with
  |some (.lv o)=>some (.lv o,Z.set i .un)
  |_=>none
def bB(m:Mi Rr):Ms:=cX m λr Z=>match Hs r Z with
 |some (s,O)=>some (.rt s,O)
 |none=>none
theorem HI{m:Mi Rr}(h:JE X E e m):JS X E (.Return (some e) pos) (bB m):=⟨PS.weaken (Hj h.p) λD Y H h=>by
 obtain⟨c,Z,B,θ,f,O,t,b,em,q⟩:=h;refine d6 t b em q λx v U V A b1 r=>?_;cases x with
 |fr a=>cases r;exact q v Y V (λo z=>by cases z) b1
 |nw o=>cases r;exact q v Y V (λo z=>by cases z) b1
 |rf i=>
  delta Hs at r
  cases es:U[i]? with
  |none=>simp only[es] at r;cases r
  |some s=>
   cases s with
   |lv o=>simp only[es] at r;cases r;exact q v Y V (λo z=>by cases z) (Bd.IJ (xs:=[]) (ss:=[]) rfl b1 A es (.inl rfl))
   | _=>simp only[es] at r;cases r⟩
noncomputable def F9:Ms:=λZ=>some (.rt (.fr .non),Z)
theorem Eh:JS X E (.Return none pos) F9:=⟨PS.weaken Dk λD Y H h=>by obtain⟨c,Z,B,θ,f,O,t,b,em,q⟩:=h;cases em;exact q .non Y H (λo z=>by cases z) (b.push λ_=>.non)⟩
def yh:Rr->List Sl->Option (Sl×List Sl)
 | .fr a,Z=>some (.fr a,Z)
 | .nw o,Z=>some (.lv o,Z)
 | .rf i,Z=>match bX (.rf i) Z with
  |some (a,O)=>some (.fr a,O)
  |none=>none
noncomputable def put(i:Nat)(s:Sl)(Z:List Sl):Option (List Sl):=match Z[i]? with
 |some (.pv _)=>none
 |some _=>some (Z.set i s)
 |none=>none
theorem Bd.put{c:Cn}{Y:St}{H:Hp}{Z O:List Sl}{B:St}{θ:List Sl}{i:Nat}{v:V}{t:Sl}(b:Bd c Y H Z (some v::B) (t::θ))(l:cst t=false)(h:put i t Z=some O):Bd c (Y.set i (some v)) H O B θ:=by
 delta M.put at h
 cases es:Z[i]? with
 |none=>rw[es] at h;cases h
 |some s=>
  cases s with
  |pv o=>rw[es] at h;cases h
  |un=>rw[es] at h;cases h;exact b.store es (λo z=>by cases z) l
  |fr a=>rw[es] at h;cases h;exact b.store es (λo z=>by cases z) l
  |lv o=>rw[es] at h;cases h;exact b.store es (λo z=>by cases z) l
  |cf o=>rw[es] at h;cases h;exact b.store es (λo z=>by cases z) l
theorem Bd.yh{c:Cn}{Y:St}{H:Hp}{Z O:List Sl}{B:St}{θ:List Sl}{r:Rr}{v:V}{t:Sl}(A:VR Y r v)(b:Bd c Y H Z (cM r v B) (cL r θ))(h:yh r Z=some (t,O)):Bd c Y H O (some v::B) (t::θ)/\cst t=false:=by
 cases r with
 |fr a=>cases h;exact⟨b,rfl⟩
 |nw o=>cases h;exact⟨b,rfl⟩
 |rf i=>
  delta M.yh at h
  cases e:M.bX (.rf i) Z with
  |none=>simp only[e] at h;cases h
  |some p=>simp only[e] at h;cases h;exact⟨Bd.bX (xs:=[]) (ss:=[]) rfl b A e,rfl⟩
def aG(i:Nat)(m:Mi Rr):Ms:=cX m λr Z=>match yh r Z with
 |some (t,U)=>match put i t U with
  |some F=>some (.nx,F)
  |none=>none
 |none=>none
theorem zO{x:Str}{m:Mi Rr}{pos':Pos}(hN:X.N.Nodup)(hi:X.N[i]?=some x)(hx:Loc X.env.scope x)(he:JE X E e m)(hs:X9 e (some (.Name x pos')) pos.line X.env=pure false:=by rfl)
  (hf:X.fn x=true\/X.env.scope.names.lookup x=some .local:=by first|exact .inl rfl|exact .inr rfl|assumption):JS X E (.Assign [.Name x pos'] e pos) (aG i m):=⟨PS.weaken (JH hN hi hx he.p hs hf) λD Y H h=>by
 obtain⟨c,Z,B,θ,f,O,ek,b,em,q⟩:=h;refine d6 ek b em q λr v U H1 hv b1 em1=>?_;cases e1:yh r U with
 |none=>rw[e1] at em1;cases em1
 |some p=>
  obtain⟨t,F⟩:=p;rw[e1] at em1;obtain⟨b2,ht⟩:=Bd.yh hv b1 e1;cases e2:put i t F with
  |none=>simp only[e2] at em1;cases em1
  | some Z0=>simp only[e2] at em1;cases em1;exact q _ H1 (Bd.put b2 ht e2)⟩
noncomputable def cb(loc:Nat)(m:Ms):Ms:=λZ=>match m (Z++QX loc .un) with
 |some (.nx,O)=>some (.rt (.fr .non),O)
 |some (.rt s,O)=>some (.rt s,O)
 |some (.ex x,O)=>some (.ex x,O)
 |_=>none
theorem nh{k:Kx}{G H:Hp}:∀n,ax k G H (QX n none) (QX n Sl.un) []
 |0=>.nil
 |n+1=>ax.cons (.un _) (nh n)
theorem d9.start{c:Cn}{vs:List V}{H:Hp}{Z:List Sl}(N:List Str)(b:d9 c (vs.map some) H Z [] [] c.Lp)(e:c.σ0=vs.map some):Bd c (start N vs) H (Z++QX (N.length-vs.length) .un) [] []:=by
 have hl:vs.length=Z.length:=by have:=b.rel.len;simpa using this
 refine⟨c.Lp,b.nd,?_,b.own,b.fr,λi o h w=>?_,rfl,b.hd⟩
 .have:=b.rel.app (nh (N.length-vs.length));simpa[L2.start] using this
 .have hi:i<Z.length:=by
   by_cases z:i<Z.length
   .exact z
   .rw[RG (by exact UL.mp ‹_›)] at h;have:=RF h;have:=S5 this;subst this;cases w
  delta L2.start
  rw[RW (by simp;lia),e]
end
variable{r':R2}{K:Kx}
section
variable{X:Cx}{E:XK}
theorem iP.or'{f:Value->Value->Sem Value}(h:iP X f r)(h':iP X f r'):iP X f (λx y H Q=>r x y H Q\/r' x y H Q):=by
 intro pins s Y H x y v u Q I o z q;rcases q with q|q
 .exact h pins s Y H x y v u Q I o z q
 .exact h' pins s Y H x y v u Q I o z q
noncomputable def Oy(f g:A->A->Option Rr):A->A->Option Rr:=λa b=>match f a b with
 |some r=>some r
 |none=>g a b
theorem jl.or{f g:A->A->Option Rr}(h:jl K r f)(h':jl K r' g):jl K (λx y H Q=>r x y H Q\/r' x y H Q) (Oy f g):=by
 intro c Y H Z B θ x y v w a b q Q t i n bd e1 e2 N k
 delta Oy at N
 cases e:f a b with
 |some z=>rw[e] at N;cases N;exact .inl (h c Y H Z B θ x y v w a b _ Q t i n bd e1 e2 e k)
 |none=>rw[e] at N;exact .inr (h' c Y H Z B θ x y v w a b _ Q t i n bd e1 e2 N k)
theorem jl.scalar{f:A->A->Option Rr}(h:∀H v w a b q,RA K H v a->RA K H w b->f a b=some q->∃u d,q=.fr d/\(∀G,RA K G u d)/\∀Q:VK,Q u H->r v w H Q):jl K r f:=by intro c Y H Z B θ x y v w a b q Q t i n bd e1 e2 N k;have l:=Bd.rd bd n e2;have g:=Bd.rd bd.drop i e1;rw[t] at g l;obtain⟨u,d,rfl,p,O⟩:=h H v w a b q g l N;exact O Q (k u H trivial (Bd.push bd.drop.drop (by rw[t];exact p)))
noncomputable def fits(n:Nat)(i:Int):Bool:=decide (i.natAbs<2^n)
theorem qy{n:Nat}{i:Int}(h:fits n i=true):L2.Bd n i:=show i.natAbs<2^n from ZE h
theorem iB{n m:Nat}{i:Int}(h:L2.Bd m i)(k:m<=n):fits n i=true:=ZA (h.mono k)
noncomputable def nU(f:Int->Int->Option Rr):A->A->Option Rr
 | .int i,.int j=>f i j
 |_,_=>none
theorem cQ{f:Int->Int->Option Rr}{a b:A}{q:Rr}(h:nU f a b=some q):∃i j,a=.int i/\b=.int j/\f i j=some q:=by
 cases a with
 |int=>cases b with
  |int=>exact⟨_,_,rfl,rfl,h⟩
  |_=>exact kj h
 |_=>exact kj h
def Fm:A->A->Option Rr:=nU λi j=>some (.fr (.int (i+j)))
def jc:A->A->Option Rr:=nU λi j=>some (.fr (.int (i-j)))
def a9:A->A->Option Rr:=nU λi j=>if fits 20000 i&&fits 20000 j then some (.fr (.int (i*j))) else none
def iK:A->A->Option Rr:=nU λi j=>if j != 0&&fits 9000 j then some (.fr (.int (i.fdiv j))) else none
def kZ:A->A->Option Rr:=nU λi j=>if j != 0 then some (.fr (.int (i.fmod j))) else none
def pY:A->A->Option Rr:=nU λi j=>if 0<=j/\j<=1000000/\i.natAbs<2^64 then some (.fr (.int (i^j.toNat))) else none
def ka:A->A->Option Rr:=nU λi j=>some (.fr (.bl (decide (i<j))))
def ow:A->A->Option Rr:=nU λi j=>some (.fr (.bl (decide (j<i))))
def Fh:A->A->Option Rr:=nU λi j=>some (.fr (.bl (decide (j<=i))))
theorem CS:jl K (yc λi j=>.int (i+j)) Fm:=.scalar λH v w a b q g l h=>by
 replace h:=cQ h
 obtain⟨i,j,rfl,rfl,h⟩:=h
 cases g;cases l;cases h
 exact⟨_,_,rfl,λ_=>.int _,λQ k=>⟨_,_,rfl,rfl,k⟩⟩
theorem Hb:jl K (yc λi j=>.int (i-j)) jc:=.scalar λH v w a b q g l h=>by
 replace h:=cQ h
 obtain⟨i,j,rfl,rfl,h⟩:=h
 cases g;cases l;cases h
 exact⟨_,_,rfl,λ_=>.int _,λQ k=>⟨_,_,rfl,rfl,k⟩⟩
theorem EX:jl K (rI Zv λi j=>.int (i*j)) a9:=.scalar λH v w a b q g l h=>by
 replace h:=cQ h
 obtain⟨i,j,rfl,rfl,h⟩:=h
 cases g;cases l
 split at h
 .rename_i hc
  rw[QM] at hc
  cases h
  exact⟨_,_,rfl,λ_=>.int _,λQ k=>⟨_,_,rfl,rfl,(qy hc.1).LY (qy hc.2) Z2,k⟩⟩
 .cases h
theorem Kr:jl K (rI PY λi j=>.int (i.fdiv j)) iK:=.scalar λH v w a b q g l h=>by
 replace h:=cQ h
 obtain⟨i,j,rfl,rfl,h⟩:=h
 cases g;cases l
 split at h
 .rename_i hc
  rw[QM] at hc
  cases h
  exact⟨_,_,rfl,λ_=>.int _,λQ k=>⟨_,_,rfl,rfl,⟨by simpa using hc.1,qy hc.2⟩,k⟩⟩
 .cases h
theorem Hw:jl K (rI (λ_ j=>j≠0) λi j=>.int (i.fmod j)) kZ:=.scalar λH v w a b q g l h=>by
 replace h:=cQ h
 obtain⟨i,j,rfl,rfl,h⟩:=h
 cases g;cases l
 split at h
 .rename_i hc
  cases h
  exact⟨_,_,rfl,λ_=>.int _,λQ k=>⟨_,_,rfl,rfl,by simpa using hc,k⟩⟩
 .cases h
theorem JV:jl K (rI MI λi j=>.int (i^j.toNat)) pY:=.scalar λH v w a b q g l h=>by
 replace h:=cQ h
 obtain⟨i,j,rfl,rfl,h⟩:=h
 cases g;cases l
 split at h
 .rename_i hc
  cases h
  exact⟨_,_,rfl,λ_=>.int _,λQ k=>⟨_,_,rfl,rfl,hc,k⟩⟩
 .cases h
theorem FV:jl K (yc λi j=>.bl (decide (i<j))) ka:=.scalar λH v w a b q g l h=>by
 replace h:=cQ h
 obtain⟨i,j,rfl,rfl,h⟩:=h
 cases g;cases l;cases h
 exact⟨_,_,rfl,λ_=>.bl _,λQ k=>⟨_,_,rfl,rfl,k⟩⟩
theorem F4:jl K (yc λi j=>.bl (decide (j<i))) ow:=.scalar λH v w a b q g l h=>by
 replace h:=cQ h
 obtain⟨i,j,rfl,rfl,h⟩:=h
 cases g;cases l;cases h
 exact⟨_,_,rfl,λ_=>.bl _,λQ k=>⟨_,_,rfl,rfl,k⟩⟩
theorem Ff:jl K (yc λi j=>.bl (decide (j<=i))) Fh:=.scalar λH v w a b q g l h=>by
 replace h:=cQ h
 obtain⟨i,j,rfl,rfl,h⟩:=h
 cases g;cases l;cases h
 exact⟨_,_,rfl,λ_=>.bl _,λQ k=>⟨_,_,rfl,rfl,k⟩⟩
mutual
noncomputable def toD:A->Option D
 | .non=>some .non
 | .bl b=>some (.bl b)
 | .int i=>some (.int i)
 | .str x=>some (.str x)
 | .tup xs=>match g9 xs with
  |some ds=>some (.tup ds)
  |none=>none
 | .lst xs=>match g9 xs with
  |some ds=>some (.lst ds)
  |none=>none
 | .dic _=>none
 | .exc _=>none
 | .obj _ _=>none
 | .dit _=>none
 | .opq=>none
noncomputable def g9:List A->Option (List D)
 |[]=>some []
 |a::as=>match toD a,g9 as with
  |some d,some ds=>some (d::ds)
  |_,_=>none
end
mutual
theorem mP{K:Kx}{H:Hp}:∀{v:V}{a:A}{d:D},RA K H v a->toD a=some d->Den K.K H v d
 |_,_,_,.non,h=>by rw[toD] at h;cases h;exact .non
 |_,_,_,.bl b,h=>by rw[toD] at h;cases h;exact .bl _
 |_,_,_,.int i,h=>by rw[toD] at h;cases h;exact .int _
 |_,_,_,.str x,h=>by rw[toD] at h;cases h;exact .str _
 |_,_,_,.tup (as:=as) e r,h=>by
  rw[toD] at h;cases q:g9 as with
  |none=>simp only[q] at h;cases h
  |some ds=>simp only[q] at h;cases h;exact .tup e (pO r q)
 |_,_,_,.lst (as:=as) e r,h=>by
  rw[toD] at h;cases q:g9 as with
  |none=>simp only[q] at h;cases h
  |some ds=>simp only[q] at h;cases h;exact .lst e (pO r q)
 |_,_,_,.dic e r,h=>by rw[toD] at h;cases h
 |_,_,_,.exc e m,h=>by rw[toD] at h;cases h
 |_,_,_,.obj e m r,h=>by rw[toD] at h;cases h
 |_,_,_,.dit e r,h=>by rw[toD] at h;cases h
 |_,_,_,.opq,h=>by rw[toD] at h;cases h
theorem pO{K:Kx}{H:Hp}:∀{vs:List V}{as:List A}{ds:List D},bU K H vs as->g9 as=some ds->gf K.K H vs ds
 |_,_,_,.nil,h=>by rw[g9] at h;cases h;exact .nil
 |_,_,_,.cons (a:=a) (as:=as) q r,h=>by
  rw[g9] at h;cases e1:toD a with
  |none=>simp only[e1] at h;cases h
  |some d=>
   cases e2:g9 as with
   |none=>simp only[e1,e2] at h;cases h
   |some ds=>simp only[e1,e2] at h;cases h;exact .cons (mP q e1) (pO r e2)
end
def rH(a b:A):Option Bool:=match toD a,toD b with
 |some d,some e=>if D.depth d<=40 then some (D.eq d e) else none
 |_,_=>none
def iZ(a b:A):Option Rr:=match rH a b with
 |some k=>some (.fr (.bl k))
 |none=>none
def iN(a b:A):Option Rr:=match rH a b with
 |some k=>some (.fr (.bl (!k)))
 |none=>none
theorem rP{a b:A}{k:Bool}(h:rH a b=some k):∃d e,toD a=some d/\toD b=some e/\D.depth d<=40/\k=D.eq d e:=by
 delta rH at h
 cases e1:toD a with
 |none=>rw[e1] at h;cases h
 |some d=>
  cases e2:toD b with
  |none=>rw[e1,e2] at h;cases h
  |some e=>
   simp only[e1,e2] at h;split at h
   .rename_i hd;cases h;exact⟨d,e,rfl,rfl,hd,rfl⟩
   .cases h
theorem os_eq:jl K (KU K.K) iZ:=.scalar λH v w a b q g l h=>by
 delta iZ at h
 cases e:rH a b with
 |none=>rw[e] at h;cases h
 |some k=>rw[e] at h;cases h;obtain⟨d,d',h1,h2,h3,rfl⟩:=rP e;exact⟨_,_,rfl,λ_=>.bl _,λQ k=>⟨d,d',mP g h1,mP l h2,h3,k⟩⟩
theorem FU:jl K (KL K.K) iN:=.scalar λH v w a b q g l h=>by
 delta iN at h
 cases e:rH a b with
 |none=>rw[e] at h;cases h
 |some k=>rw[e] at h;cases h;obtain⟨d,d',h1,h2,h3,rfl⟩:=rP e;exact⟨_,_,rfl,λ_=>.bl _,λQ k=>⟨d,d',mP g h1,mP l h2,h3,k⟩⟩
theorem oZ:100000<=sizeLine:=by rw[Yi];decide
end
variable{w:V}{id:String}
section
variable{X:Cx}{E:XK}
def Cg:A->A->Option Rr
 | .lst xs,.int i=>match iq xs i with
  |some a=>some (.fr a)
  |none=>none
 | .tup xs,.int i=>match iq xs i with
  |some a=>some (.fr a)
  |none=>none
 | .str z,.int i=>if z.length<=100000 then match iq z.cps.toList i with
  |some c=>some (.fr (.str ⟨#[c]⟩))
  |none=>none else none
 |_,_=>none
theorem bU.iq{k:Kx}{G:Hp}{vs:List V}{as:List A}{i:Int}{a:A}(r:bU k G vs as)(h:iq as i=some a):∃v,iq vs i=some v/\RA k G v a:=by
 delta L2.iq at h ⊢
 rw[r.len]
 cases e:gH as.length i with
 |none=>rw[e] at h;cases h
 |some j=>rw[e] at h;obtain⟨v,h1,h2⟩:=r.ta h;exact⟨v,h1,h2⟩
theorem MG:jl K (PK K.K) Cg:=by
 intro c Y H Z B θ x y v w a b q Q t A n bd e1 e2 N k;subst t;have l:=Bd.rd bd n e2;obtain⟨L,bl,s,I⟩:=Bd.AF bd A n e1 e2;have g:=Bd.rd bd.drop A e1;cases a<;>first|exact kj N|(cases b<;>first|exact kj N|skip)
 .rename_i z i;cases g;cases l
  delta Cg at N
  simp only at N;split at N
  .rename_i hz;cases e:iq z.cps.toList i with
   |none=>rw[e] at N;cases N
   |some ch=>rw[e] at N;cases N;exact .inr (.inr ⟨z,i,ch,rfl,rfl,RE hz oZ,e,k _ H trivial (Bd.push ⟨L,bl⟩ λ_=>.str _)⟩)
  .cases N
 .rename_i xs i;cases l
  delta Cg at N
  cases e:iq xs i with
  |none=>simp only[e] at N;cases N
  |some d=>simp only[e] at N;cases N;obtain⟨p,vs,rfl,s1,h⟩:=s.2.1 xs rfl;obtain⟨u,h1,h2⟩:=h.iq e;exact .inr (.inl ⟨p,vs,i,u,rfl,rfl,fP (g_same _ _ _) s1,h1,k u H trivial (bl.push h2)⟩)
 .rename_i xs i;cases l
  delta Cg at N
  cases e:iq xs i with
  |none=>simp only[e] at N;cases N
  |some d=>simp only[e] at N;cases N;obtain⟨p,vs,rfl,s1,h⟩:=s.1 xs rfl;obtain⟨u,h1,h2⟩:=h.iq e;exact .inl ⟨p,vs,i,u,rfl,rfl,s1,h1,k u H trivial (bl.push h2)⟩
theorem GC{a b:Expr}(f:JE X E a ma)(d:JE X E b mb)(hs:jC b):JE X E (.Subscript a b pos) (aC Cg ma mb):=
 ⟨PE.weaken (zH Jq f.p d.p hs) (jE MG)⟩
noncomputable def fA:A->Bool
 | .non=>true
 | .bl _=>true
 | .int _=>true
 | .str _=>true
 |_=>false
noncomputable def k9:A->V
 | .non=>.non
 | .bl b=>.bl b
 | .int i=>.int i
 | .str x=>.str x
 |_=>.non
theorem uE{b:A}(r:RA K H w b)(h:fA b=true):w=k9 b/\gQ w=true:=by cases r<;>first|exact⟨rfl,rfl⟩|exact P7 h
theorem qt{K:Kx}{H:Hp}:∀{vs:List V}{as:List A},bU K H vs as->as.all fA=true->vs=as.map k9/\vs.all gQ=true
 |_,_,.nil,_=>⟨rfl,rfl⟩
 |_,_,.cons h r,e=>by rw[Rh,QM] at e;obtain⟨h1,h2⟩:=uE h e.1;obtain⟨h3,h4⟩:=qt r e.2;exact⟨by rw[h1,h3];rfl,by rw[Rh,h2,h4];rfl⟩
def JK(neg:Bool)(x:A)(xs:List A):Option Rr:=if fA x&&xs.all fA then some (.fr (.bl (if neg then !Ft (k9 x) (xs.map k9) else Ft (k9 x) (xs.map k9)))) else none
def rV(neg:Bool):A->A->Option Rr
 |x,.lst xs=>JK neg x xs
 |x,.tup xs=>JK neg x xs
 |_,_=>none
theorem qr{neg:Bool}:jl K (MC K.K neg) (rV neg):=.scalar λH v w a b q g l h=>by
 have key:∀(xs:List A)(vs:List V)(p:Addr),bU K H vs xs->(dj K.K H p vs\/gP K.K H p vs)->JK neg a xs=some q->∃u d,q=.fr d/\(∀G,RA K G u d)/\∀Q:VK,Q u H->MC K.K neg v (.ref p) H Q:=by
  intro xs vs p B sq h
  delta JK at h
  split at h
  .rename_i hc;rw[QM] at hc;cases h;obtain⟨rfl,h2⟩:=uE g hc.1;obtain⟨rfl,h4⟩:=qt B hc.2;exact⟨_,_,rfl,λ_=>.bl _,λQ k=>⟨p,_,rfl,sq,h2,h4,k⟩⟩
  .cases h
 cases b<;>first|exact kj h|skip
 .cases l with|tup e r=>exact key _ _ _ r (.inr e) h
 .cases l with|lst e r=>exact key _ _ _ r (.inl e) h
noncomputable def uJ:A->Bool
 | .non=>true
 |_=>false
def qv(neg:Bool):A->A->Option Rr
 |a,.non=>some (.fr (.bl (if neg then !uJ a else uJ a)))
 |_,_=>none
theorem vB{v:V}{a:A}(r:RA K H v a):decide (v=.non)=uJ a:=by cases r<;>rfl
theorem Gb:jl K (λx y H Q=>y=.non/\Q (.bl (decide (x=.non))) H) (qv false):=.scalar λH v w a b q g l h=>by
 cases b<;>first|exact kj h|skip
 cases l;cases h;exact⟨_,_,rfl,λ_=>.bl _,λQ k=>⟨rfl,by rw[vB g];exact k⟩⟩
theorem wb:jl K (λx y H Q=>y=.non/\Q (.bl (!decide (x=.non))) H) (qv true):=.scalar λH v w a b q g l h=>by
 cases b<;>first|(cases h;done)|skip
 cases l;cases h;exact⟨_,_,rfl,λ_=>.bl _,λQ k=>⟨rfl,by rw[vB g];exact k⟩⟩
def aL(f:A->Option Rr)(m:Mi Rr):Mi Rr:=aV m λx Z=>match res Z x with
 |some a=>match f a with
  |some r=>some (.ok r,Z)
  |none=>none
 |none=>none
def sY(K:Kx)(r:V->Hp->VK->Prop)(f:A->Option Rr):Prop:=∀(c:Cn)(Y:St)(H:Hp)(Z:List Sl)(B:St)(θ:List Sl)(x:Rr)(v:V)(a:A)(q:Rr)(Q:VK),c.toKx=K->VR Y x v->
 Bd c Y H Z (cM x v B) (cL x θ)->res Z x=some a->f a=some q->(∀u H',VR Y q u->Bd c Y H' Z (cM q u B) (cL q θ)->Q u H')->r v H Q
theorem Cv{f:A->Option Rr}{x:Rr}{o:Except Str Rr}(h:(match res Z x with|some a=>(match f a with|some r=>some ((.ok r:Except Str Rr),Z)|none=>none)|none=>none)=some (o,O)):∃a r,res Z x=some a/\f a=some r/\o=.ok r/\O=Z:=by
 cases e1:res Z x with
 |none=>rw[e1] at h;cases h
 |some a=>
  rw[e1] at h;cases N:f a with
  |none=>simp only[N] at h;cases h
  |some r=>simp only[N] at h;cases h;exact⟨a,r,rfl,N,rfl,rfl⟩
theorem jY{r:V->Hp->VK->Prop}{f:A->Option Rr}{m:Mi Rr}(hf:sY (kx X) r f)(Y:St)(H:Hp)(Q:VK)(h:kQ (kx X) E (aL f m) Y H Q):kQ (kx X) E m Y H λv H'=>r v H' Q:=by obtain⟨c,Z,B,θ,o,O,t,b,em,q⟩:=h;refine bz t b em (λx v U L i b1 e=>?_) (bV q);obtain⟨a,r,e1,N,rfl,rfl⟩:=Cv e;exact hf c Y L _ B θ x v a r Q t i b1 e1 N q
theorem sY.scalar{r:V->Hp->VK->Prop}{f:A->Option Rr}(h:∀H v a q,RA K H v a->f a=some q->∃u d,q=.fr d/\(∀G,RA K G u d)/\∀Q:VK,Q u H->r v H Q):sY K r f:=by intro c Y H Z B θ x v a q Q t i bd e1 N k;have g:=Bd.rd bd i e1;rw[t] at g;obtain⟨u,d,rfl,p,l⟩:=h H v a q g N;exact l Q (k u H trivial (Bd.push bd.drop (by rw[t];exact p)))
noncomputable def aU:A->Option Rr
 | .int i=>some (.fr (.int (-i)))
 |_=>none
theorem Hn{a:Expr}{m:Mi Rr}(h:JE X E a m):JE X E (.UnaryOp .USub a pos) (aL aU m):=⟨PE.weaken (Mr GX h.p) (jY (.scalar λH v a q g h=>by
 cases a<;>first|exact kj h|skip
 cases g;cases h;exact⟨_,_,rfl,λ_=>.int _,λQ k=>⟨_,rfl,k⟩⟩))⟩
noncomputable def one(f:A->Option Rr):List A->Option Rr
 |[a]=>f a
 |_=>none
def cx(f:A->Option Rr)(m:Mi Rr):Mi Rr:=aL f m
def Dz(f:A->A->Option Rr)(m n:Mi Rr):Mi Rr:=aC f m n
theorem oU{r:List V->Hp->VK->Prop}{f:A->Option Rr}{x:Str}{p:Pos}{m:Mi Rr}(hc:cZ X (.builtin id) r)(hf:sY (kx X) (λv=>r [v]) f)(hg:Gl X x)(hm:X.mg x=none)(hv:XQ x=some (.builtin id))(ha:JE X E e m)(hn:x ≠ "__name__")
  (hdb:fC x)(hs:XM [e] X.env=(false,eval e X.env)::XM [] X.env:=by rfl)(hp:(XW pos (XM [] X.env)).any (·.1)=false:=by rfl):JE X E (.Call (.Name x p) [e] [] pos) (cx f m):=
 ⟨PE.weaken (j6 hc hg hm hv (aX ha.p cw hs) hn hdb hs hp) λY H Q h=>jY hf Y H Q h⟩
theorem Af{T:String}{r:List V->Hp->VK->Prop}{f:A->Option Rr}{x:Str}{p:Pos}{m:Mi Rr}(hc:cZ X (.type T) r)(hf:sY (kx X) (λv=>r [v]) f)(hg:Gl X x)(hm:X.mg x=none)(hv:XQ x=some (.type T))(ha:JE X E e m)(hn:x ≠ "__name__")
  (hdb:fC x)(hs:XM [e] X.env=(false,eval e X.env)::XM [] X.env:=by rfl)(hp:(XW pos (XM [] X.env)).any (·.1)=false:=by rfl):JE X E (.Call (.Name x p) [e] [] pos) (cx f m):=
 ⟨PE.weaken (gh hc hg hm hv (aX ha.p cw hs) hn hdb hs hp) λY H Q h=>jY hf Y H Q h⟩
theorem FD{r:List V->Hp->VK->Prop}{f:A->A->Option Rr}{x:Str}{p:Pos}{e1 e2:Expr}{m n:Mi Rr}(hc:cZ X (.builtin id) r)(hf:jl (kx X) (λv w=>r [v,w]) f)(hg:Gl X x)(hm:X.mg x=none)(hv:XQ x=some (.builtin id))(h1:JE X E e1 m)(h2:JE X E e2 n)(hn:x ≠ "__name__")
  (hdb:fC x)(hs:XM [e1,e2] X.env=(false,eval e1 X.env)::XM [e2] X.env:=by rfl)(hs2:XM [e2] X.env=(false,eval e2 X.env)::XM [] X.env:=by rfl)(hp:(XW pos (XM [e2] X.env)).any (·.1)=false:=by rfl):JE X E (.Call (.Name x p) [e1,e2] [] pos) (Dz f m n):=
 ⟨PE.weaken (j6 hc hg hm hv (aX h1.p (aX h2.p cw hs2) hs) hn hdb hs hp) λY H Q h=>jE hf Y H Q h⟩
noncomputable def cC:A->Option Rr
 | .str z=>if z.length<=100000 then some (.fr (.int z.length)) else none
 | .lst xs=>some (.fr (.int xs.length))
 | .tup xs=>some (.fr (.int xs.length))
 |_=>none
theorem Jw:sY K (λv H Q=>∃x n,[v]=[x]/\K4 K.K x H n/\Q (.int n) H) cC:=.scalar λH v a q g h=>by
 cases a<;>first|exact kj h|skip
 .cases g
  delta cC at h
  simp only at h;split at h
  .rename_i hz;cases h;exact⟨_,_,rfl,λ_=>.int _,λQ k=>⟨_,_,rfl,⟨RE hz oZ,rfl⟩,k⟩⟩
  .cases h
 .cases g with
  |tup e r=>cases h;exact⟨_,_,rfl,λ_=>.int _,λQ k=>⟨_,_,rfl,.inr ⟨_,e,rfl⟩,by rw[r.len];exact k⟩⟩
 .cases g with
  |lst e r=>cases h;exact⟨_,_,rfl,λ_=>.int _,λQ k=>⟨_,_,rfl,.inl ⟨_,e,rfl⟩,by rw[r.len];exact k⟩⟩
noncomputable def BO:A->Option Rr
 | .int i=>some (.fr (.int (if i<0 then -i else i)))
 |_=>none
theorem HC:sY K (λv H Q=>∃i,[v]=[V.int i]/\Q (.int (if i<0 then -i else i)) H) BO:=.scalar λH v a q g h=>by
 cases a<;>first|exact kj h|skip
 cases g;cases h;exact⟨_,_,rfl,λ_=>.int _,λQ k=>⟨_,rfl,k⟩⟩
def Lg:A->A->Option Rr:=nU λi j=>some (.fr (.int (if j > i then j else i)))
def tj:A->A->Option Rr:=nU λi j=>some (.fr (.int (if j<i then j else i)))
theorem GS:jl K (λv w H Q=>∃i j,[v,w]=[V.int i,V.int j]/\Q (.int (if j > i then j else i)) H) Lg:=.scalar λH v w a b q g l h=>by
 replace h:=cQ h
 obtain⟨i,j,rfl,rfl,h⟩:=h
 cases g;cases l;cases h
 exact⟨_,_,rfl,λ_=>.int _,λQ k=>⟨_,_,rfl,k⟩⟩
theorem Ja:jl K (λv w H Q=>∃i j,[v,w]=[V.int i,V.int j]/\Q (.int (if j<i then j else i)) H) tj:=.scalar λH v w a b q g l h=>by
 replace h:=cQ h
 obtain⟨i,j,rfl,rfl,h⟩:=h
 cases g;cases l;cases h
 exact⟨_,_,rfl,λ_=>.int _,λQ k=>⟨_,_,rfl,k⟩⟩
noncomputable def uy:A->Option Rr
 | .int i=>some (.fr (.int i))
 | .bl k=>some (.fr (.int (if k then 1 else 0)))
 |_=>none
theorem JB:sY K (λv H Q=>(∃i,[v]=[V.int i]/\Q (.int i) H)\/∃k,[v]=[V.bl k]/\Q (.int (if k then 1 else 0)) H) uy:=.scalar λH v a q g h=>by
 cases a<;>first|exact kj h|skip
 .cases g;cases h;exact⟨_,_,rfl,λ_=>.int _,λQ k=>.inr ⟨_,rfl,k⟩⟩
 .cases g;cases h;exact⟨_,_,rfl,λ_=>.int _,λQ k=>.inl ⟨_,rfl,k⟩⟩
noncomputable def GR:A->Option (List A)
 | .lst xs=>some xs
 | .tup xs=>some xs
 |_=>none
def dD(a:A):Option Rr:=match GR a with
 |some xs=>some (.nw (.lst xs))
 |none=>none
def lP(a:A):Option Rr:=match GR a with
 |some xs=>some (.fr (.tup xs))
 |none=>none
theorem Ey:sY K (λv H Q=>∃p ys,[v]=[V.ref p]/\(dj K.K H p ys\/gP K.K H p ys)/\∀l,H l=none->Q (.ref l) (upd H l (.lst ys))) dD:=by
 intro c Y H Z B θ x v a q Q t A bd e1 N k;subst t;obtain⟨L,bl,s⟩:=Bd.open bd A e1;cases a<;>first|exact kj N|skip
 .rename_i xs;cases N;obtain⟨p,vs,rfl,s1,h⟩:=s.2.1 xs rfl;exact⟨p,vs,rfl,.inr (fP (g_same _ _ _) s1),λl hl=>k _ _ trivial (bl.kP hl λG H' sm q=>.lst q (h.sm sm))⟩
 .rename_i xs;cases N;obtain⟨p,vs,rfl,s1,h⟩:=s.1 xs rfl;exact⟨p,vs,rfl,.inl s1,λl hl=>k _ _ trivial (bl.kP hl λG H' sm q=>.lst q (h.sm sm))⟩
theorem Ak:sY K (λv H Q=>∃p ys,[v]=[V.ref p]/\((dj K.K H p ys/\∀l,H l=none->Q (.ref l) (upd H l (.tup ys)))\/(gP K.K H p ys/\Q (.ref p) H))) lP:=by
 intro c Y H Z B θ x v a q Q t A bd e1 N k;subst t;obtain⟨L,bl,s⟩:=Bd.open bd A e1;cases a<;>first|exact kj N|skip
 .rename_i xs;cases N;obtain⟨p,vs,rfl,s1,h⟩:=s.2.1 xs rfl;exact⟨p,vs,rfl,.inr ⟨fP (g_same _ _ _) s1,k _ _ trivial (bl.push (.tup s1 h))⟩⟩
 .rename_i xs;cases N;obtain⟨p,vs,rfl,s1,h⟩:=s.1 xs rfl;refine⟨p,vs,rfl,.inl ⟨s1,λl hl=>?_⟩⟩;obtain⟨b2,sm,np⟩:=bl.new hl;exact k _ _ trivial (b2.push (.tup (.inl (.inl (by rw[bM np (bl.MT hl)];exact aJ))) (h.sm sm)))
end
section
variable{c:Cn}{Y:St}{H:Hp}{Z:List Sl}{B:St}{θ:List Sl}
theorem Bd.uj{x:Option V}(e:xs.length=ss.length)(b:Bd c Y H Z (x::(xs++B)) (s::(ss++θ))):Bd c Y H Z (x::B) (s::θ):=by
 obtain⟨L,b⟩:=b;have r:ax c.toKx (c.g H L) H (x::(xs++(B++Y))) (s::(ss++(θ++Z))) L:=by have:=b.rel;simpa[QQ] using this
 cases r with
 |cons h r=>rename_i y L';obtain⟨A,L2,e1,E,l⟩:=ax.split e r;subst e1;have sl:(y++L2).Sublist (y++(A++L2)):=Th (Tv _) (TQ _ _);have sm:Sq (c.g H (y++(A++L2))) (c.g H (y++L2)):=dz λa f=>sl.subset f;exact⟨y++L2,b.nd.sublist sl,ax.cons (h.sm sm (λ_ _ _ e=>e)) (l.sm sm (λ_ _ _ e=>e)),λp hp=>b.own p (sl.subset hp),b.fr,b.kp,by have:=b.lt;simp at this ⊢;lia,b.hd⟩
theorem Bd.O8{ys:St}(b:Bd c (Y++ys) H Z B θ):Bd c Y H (Z.take Y.length) B θ:=by
 have hl:=b.qP;rw[Rc] at hl;obtain⟨L,b⟩:=b;have r:ax c.toKx (c.g H L) H ((B++Y)++ys) ((θ++Z.take Y.length)++Z.drop Y.length) L:=by have:=b.rel;rw[QQ,QQ,SM];exact this
 obtain⟨A,L2,e1,E,l⟩:=ax.split (by simp[b.lt];lia) r;subst e1;have sm:Sq (c.g H (A++L2)) (c.g H A):=dz λa f=>QR _ f;refine⟨A,(Q2.mp b.nd).1,E.sm sm (λ_ _ _ e=>e),λp hp=>b.own p (QR _ hp),b.fr,λi o h w=>?_,b.lt,b.hd⟩;have hi:i<(Z.take Y.length).length:=(QP.mp h).1;rw[RV] at hi;have h':Z[i]?=some o:=by rw[List.getElem?_take] at h;split at h;exact h;cases h
 have:=b.kp i o h' w;rwa[RW Q1] at this
theorem Bd.OO{n:Nat}(b:Bd c Y H Z B θ):Bd c (Y++QX n none) H (Z++QX n .un) B θ:=by
 have hl:=b.qP;obtain⟨L,b⟩:=b;refine⟨L,b.nd,?_,b.own,b.fr,λi o h w=>?_,b.lt,b.hd⟩
 .have:=b.rel.app (nh (k:=c.toKx) (G:=c.g H L) (H:=H) n);simpa[QQ] using this
 .by_cases z:i<Z.length
  .rw[RW z] at h;rw[RW Q1];exact b.kp i o h w
  .rw[RG (by exact UL.mp ‹_›)] at h;have:=S5 (RF h);subst this;cases w
end
noncomputable abbrev Mg:=A->List Sl->Option (List Sl)
noncomputable abbrev Cm:=List A->List Sl->Option (List Sl)
inductive N5(K:Kx)(lo:Nat)(G:Mg)(v:V)(Y:St)(H:Hp)(Q:St->Hp->Prop):Prop
 |mk(c:Cn)(Z:List Sl)(B:St)(θ:List Sl)(a:A)(O:List Sl)(h1:c.toKx=K)(h2:Bd c Y H Z (some v::B) (.fr a::θ))(h3:G a Z=some O)(h4:∀j H',j.take lo=Y.take lo->j.length=Y.length->Bd c j H' O B θ->Q j H')
inductive O2(K:Kx)(lo:Nat)(G:Cm)(vs:List V)(Y:St)(H:Hp)(Q:St->Hp->Prop):Prop
 |mk(c:Cn)(Z:List Sl)(B:St)(θ:List Sl)(as:List A)(O:List Sl)(h1:c.toKx=K)(h2:vs.length=as.length)(h3:Bd c Y H Z (vs.map some++B) (as.map Sl.fr++θ))(h4:G as Z=some O)(h5:∀j H',j.take lo=Y.take lo->j.length=Y.length->Bd c j H' O B θ->Q j H')
structure JG(X:Cx)(lo:Nat)(tg:Expr)(G:Mg):Prop where
 p:PG X tg (N5 (kx X) lo G)
structure Lk(X:Cx)(lo:Nat)(tg:List Expr)(G:Cm):Prop where
 p:Ka X tg (O2 (kx X) lo G)
def aM(i:Nat):Mg:=λa Z=>put i (.fr a) Z
noncomputable def fH:Cm:=λas Z=>match as with
 |[]=>some Z
 |_=>none
noncomputable def bT(g:Mg)(gs:Cm):Cm:=λas Z=>match as with
 |a::as=>match g a Z with
  |some U=>gs as U
  |none=>none
 |[]=>none
noncomputable def f6(n:Nat)(gs:Cm):Mg:=λa Z=>match a with
 | .tup as=>if as.length=n then gs as Z else none
 |_=>none
variable{gs:Cm}{tg iter:Expr}{body:List Stmt}
section
variable{X:Cx}{E:XK}{lo:Nat}
theorem CK{x:Str}(hN:X.N.Nodup)(hi:X.N[i]?=some x)(hx:Loc X.env.scope x)(hl:lo<=i)(hf:X.fn x=true\/X.env.scope.names.lookup x=some .local:=by first|exact .inl rfl|exact .inr rfl|assumption):JG X lo (.Name x pos) (aM i):=⟨λpins s Y H v u Q I r h=>by refine Eg hN hi hx hf pins s Y H v u Q I r ?_;obtain⟨c,Z,B,θ,a,O,ek,b,em,q⟩:=h;exact q _ H (by rw[List.take_set_of_le hl]) Z4 (Bd.put b rfl em)⟩
theorem DW:Lk X lo [] fH:=⟨λpins s Y H v u Q I r h=>by
 refine Dx pins s Y H v u Q I r ?_;obtain⟨c,Z,B,θ,as,O,t,hl,b,em,q⟩:=h;cases as with
 |nil=>cases em;cases v with|nil=>exact⟨rfl,q Y H rfl rfl b⟩|cons _ _=>simp at hl
 | cons _ _=>cases em⟩
theorem zd{g:Mg}(h1:JG X lo e g)(h2:Lk X lo es gs)(hp:∀{t:TG}{u:Fq},PG X e t->Ka X es u->Ka X (e::es) (Ga t u)):Lk X lo (e::es) (bT g gs):=⟨λpins s Y H v u Q I r h=>by
 refine hp h1.p h2.p pins s Y H v u Q I r ?_;obtain⟨c,Z,B,θ,as,O,x,hl,b,em,q⟩:=h;cases as with
 |nil=>cases em
 |cons a as=>
  cases v with
  |nil=>simp at hl
  |cons v vs=>
   delta bT at em
   simp only at em
   cases e1:g a Z with
   |none=>rw[e1] at em;cases em
   | some U=>rw[e1] at em;refine⟨v,vs,rfl,c,Z,_,_,a,U,x,b,e1,λj H' w G b1=>⟨c,U,B,θ,as,O,x,by simpa using hl,b1,em,λP z D J b2=>q P z (D.trans w) (J.trans G) b2⟩⟩⟩
theorem HN{k n:Nat}(hc:X.calm=true)(h:Lk X lo es gs)(hn:(X6 es X.env).length=n:=by rfl)(hst:(X6 es X.env).findIdx? (·.1)=none:=by rfl):JG X lo (.Tuple es k pos) (f6 n gs):=⟨λpins s Y H v u Q I r h'=>by
 refine HW hc h.p hn hst pins s Y H v u Q I r ?_;obtain⟨c,Z,B,θ,a,O,ek,b,em,q⟩:=h';cases a<;>first|exact kj em|skip
 rename_i as
 delta f6 at em
 simp only at em;split at em
 .rename_i hl;obtain⟨L,bl,i1⟩:=Bd.open (r:=.fr (.tup as)) b trivial rfl;obtain⟨p,vs,rfl,s1,rr⟩:=i1.2.1 as rfl;have:c.K=X.K:=by have:=ZC Kx.K ek;exact this
  refine⟨p,vs,rfl,by rw[<-this];exact fP (g_same _ _ _) s1,by rw[rr.len];exact hl,c,Z,B,θ,as,O,ek,rr.len,?_,em,q⟩;obtain⟨nd,rel,own,fr,kp,lt,hdd⟩:=bl;exact⟨L,nd,by have:=(ax.lE (H:=H) rr).app rel;simpa[QQ] using this,own,fr,kp,by simp[lt,rr.len],hdd⟩
 .cases em⟩
def H9(K:Kx)(J:It)(T:St)(S:List A)(as:List A):Prop:=∀(c:Cn)(Y:St)(H:Hp)(Z:List Sl)(D:St)(r:List Sl)(B:St)(θ:List Sl)(i:Nat),c.toKx=K->D.length=r.length->Bd c Y H Z (D++(T++B)) (r++(S.map Sl.fr++θ))->
 (as.length<=i->J.stop i H)/\∀a,as[i]?=some a->J.go i H/\∀x H',J.yld i H x H'->Bd c Y H' Z (some x::(D++(T++B))) (.fr a::(r++(S.map Sl.fr++θ)))
def Mq(K:Kx)(E:XK)(c:Cn)(Y:St)(Z:List Sl)(B:St)(θ:List Sl)(R:It->Hp->Prop):Except Str (List A)->Prop
 | .ok as=>∀J H T S,T.length=S.length->H9 K J T S as->Bd c Y H Z (T++B) (S.map Sl.fr++θ)->R J H
 | .error x=>∀C H,K.mg x=some (.ref C)->Bd c Y H Z B θ->E (.ref C) none H
inductive P2(K:Kx)(E:XK)(m:Mi (List A))(Y:St)(H:Hp)(R:It->Hp->Prop):Prop
 |mk(c:Cn)(Z:List Sl)(B:St)(θ:List Sl)(o:Except Str (List A))(O:List Sl)(h1:c.toKx=K)(h2:Bd c Y H Z B θ)(h3:m Z=some (o,O))(h4:Mq K E c Y O B θ R o)
structure JI(X:Cx)(E:XK)(tg iter:Expr)(m:Mi (List A)):Prop where
 p:PI X tg iter (P2 (kx X) E m)
theorem dd{o:Except Str (List A)}{R:It->Hp->Prop}(q:Mq (kx X) E c Y O B θ R o):∀e,o=.error e->∀C H,X.mg e=some (.ref C)->Bd c Y H O B θ->E (.ref C) none H:=λe y=>by subst y;exact q
def Ko:A->Option (List A)
 |a=>GR a
def cH(m:Mi Rr):Mi (List A):=aV m λr Z=>match bX r Z with
 |some (a,O)=>match Ko a with
  |some as=>some (.ok as,O)
  |none=>none
 |none=>none
theorem Bd.mid{v:V}{a:A}(e:xs.length=ss.length)(b:Bd c Y H Z (xs++(some v::B)) (ss++(.fr a::θ))):∃L,d9 c Y H Z (xs++(some v::B)) (ss++(.fr a::θ)) L/\RA c.toKx (c.g H L) v a:=by
 obtain⟨L,b⟩:=b;have r:ax c.toKx (c.g H L) H (xs++(some v::(B++Y))) (ss++(.fr a::(θ++Z))) L:=by have:=b.rel;simpa[QQ] using this
 obtain⟨s,L2,e1,E,l⟩:=ax.split e r;cases l with
 |cons h S=>cases h with|fr h=>exact⟨L,b,h⟩
theorem tY{l:Expr}{m:Mi Rr}(hl:JE X E l m):JI X E tg l (cH m):=⟨λpins s Y H R I h=>by
 refine EL hl.p pins s Y H R I ?_;obtain⟨c,Z,B,θ,o,O,t,b,em,q⟩:=h;refine bz t b em (λx v U V A b1 e=>?_) (dd q);cases e1:bX x U with
 |none=>rw[e1] at e;cases e
 |some p=>
  obtain⟨a,F⟩:=p;rw[e1] at e;have b2:=Bd.bX (xs:=[]) (ss:=[]) rfl b1 A e1;cases e2:Ko a with
  |none=>simp only[e2] at e;cases e
  |some as=>
   simp only[e2] at e;cases e;have C:c.K=X.K:=ZC Kx.K t;cases a<;>first|exact kj e2|skip
   .cases e2;have rt:=Bd.top b2 (a:=.tup as) rfl;cases rt with
    |tup z n=>
     rename_i p vs;refine⟨p,rfl,.inr ⟨⟨vs,by rw[<-C];exact z⟩,q _ V [some (.ref p)] [.tup as] rfl (λP j H' O D r J T i Q G k=>?_) b2⟩⟩;have w:P.K=X.K:=ZC Kx.K Q;obtain⟨L,bl,h⟩:=Bd.mid G k;cases h with
     |tup N S=>
      rename_i us;have sq:gP X.K H' p us:=by rw[<-w];exact fP (g_same _ _ _) N
      refine⟨λhi=>⟨us,sq,by rw[S.len];exact hi⟩,λa f=>?_⟩;obtain⟨u,h1,h2⟩:=S.ta f;refine⟨⟨us,u,sq,h1⟩,λx d y=>?_⟩;obtain⟨rfl,y⟩:=y;have:=y us sq;rw[h1] at this;cases this;exact bl.push h2
   .cases e2;have rt:=Bd.top b2 (a:=.lst as) rfl;cases rt with
    |lst z n=>
     rename_i p vs;refine⟨p,rfl,.inl ⟨⟨vs,by rw[<-C];exact z⟩,q _ V [some (.ref p)] [.lst as] rfl (λP j H' O D r J T i Q G k=>?_) b2⟩⟩;have w:P.K=X.K:=ZC Kx.K Q;obtain⟨L,bl,h⟩:=Bd.mid G k;cases h with
     |lst N S=>
      rename_i us;have sq:dj X.K H' p us:=by rw[<-w];exact dQ (g_same _ _ _) N
      refine⟨λhi=>⟨us,sq,by rw[S.len];exact hi⟩,λa f=>?_⟩;obtain⟨u,h1,h2⟩:=S.ta f;refine⟨⟨us,u,sq,h1⟩,λx d y=>?_⟩;obtain⟨rfl,y⟩:=y;have:=y us sq;rw[h1] at this;cases this;exact bl.push h2⟩
noncomputable def bI(lo:Int)(n:Nat):List A:=(Rb n).map λi=>.int (lo+(i:Nat))
theorem Ba{lo:Int}{n:Nat}:H9 K (Nj lo n) [] [] (bI lo n):=λc Y H Z D r B θ i t G b=>by
 have hl:(bI lo n).length=n:=by simp[bI]
 refine⟨λh=>by rw[hl] at h;exact h,λa f=>?_⟩;have hi:i<n:=by rw[<-hl];exact(QP.mp f).1
 refine⟨hi,λx H' y=>?_⟩;obtain⟨rfl,rfl⟩:=y;have:a=.int (lo+i):=by unfold bI at f;rw[Rm,Si hi] at f;exact(Rj f).symm
 subst this;exact b.push λ_=>.int _
def cU(m:Mi Rr):Mi (List A):=aV m λr Z=>match res Z r with
 |some (.int j)=>if -(2^60)<=j/\j<2^60 then some (.ok (bI 0 j.toNat),Z) else none
 |_=>none
theorem CI{a:Expr}{m:Mi Rr}{p:Pos}(hg:Gl X "range")(hm:X.mg "range" = none)(ha:JE X E a m)(hs:XM [a] X.env=[(false,eval a X.env)]:=by rfl)(hs':XM [a] X.env=(false,eval a X.env)::XM [] X.env:=by rfl):JI X E tg (.Call (.Name "range" p) [a] [] pos) (cU m):=⟨λpins s Y H R I h=>by
 refine xj hg hm (aX ha.p cw hs') hs pins s Y H R I ?_;obtain⟨c,Z,B,θ,o,O,ek,b,em,q⟩:=h;refine bz ek b em (λx v U H1 hv b1 em1=>?_) (dd q);cases e1:res U x with
 |none=>rw[e1] at em1;cases em1
 |some a=>
  have r1:=Bd.rd b1 hv e1;rw[e1] at em1;cases a<;>first|exact kj em1|skip
  rename_i j;simp only at em1;split at em1
  .rename_i hj;cases em1;cases r1;exact⟨j,rfl,by lia,by lia,q _ H1 [] [] rfl Ba b1.drop⟩
  .cases em1⟩
theorem BP{u:Option A}{F:Int->Option α}{r:α} (h:(match u with
   |some (.int k)=>F k
   | _=>none)=some r):∃k,u=some (.int k)/\F k=some r:=by
 split at h
 .rename_i k;exact⟨k,rfl,h⟩
 .cases h
theorem qS{u w:Option A}{F:Int->Int->Option α}{r:α} (h:(match u,w with
 |some (.int i),some (.int j)=>F i j
 | _,_=>none)=some r):∃i j,u=some (.int i)/\w=some (.int j)/\F i j=some r:=by
 split at h
 .rename_i i j;exact⟨i,j,rfl,rfl,h⟩
 .cases h
def rO(m n:Mi Rr):Mi (List A):=aV m λr=>aV n λt=>λZ=>match res Z r,res Z t with
 |some (.int i),some (.int j)=>if -(2^60)<=i/\i<2^60 /\ -(2^60)<=j/\j<2^60 then some (.ok (bI i (j-i).toNat),Z) else none
 |_,_=>none
theorem CZ{a b:Expr}{m n:Mi Rr}{p:Pos}(hg:Gl X "range")(hm:X.mg "range" = none)(ha:JE X E a m)(hb:JE X E b n)(hs:XM [a,b] X.env=[(false,eval a X.env),(false,eval b X.env)]:=by rfl)(hs2:XM [b] X.env=[(false,eval b X.env)]:=by rfl)
  (hs3:XM [a,b] X.env=(false,eval a X.env)::XM [b] X.env:=by rfl)(hs4:XM [b] X.env=(false,eval b X.env)::XM [] X.env:=by rfl):JI X E tg (.Call (.Name "range" p) [a,b] [] pos) (rO m n):=⟨λpins s Y H R I h=>by
 refine xD hg hm (aX ha.p (aX hb.p cw hs4) hs3) hs hs2 pins s Y H R I ?_;obtain⟨c,Z,B,θ,o,O,ek,b,em,q⟩:=h;refine bz ek b em (λx v U H1 hv b1 em1=>?_) (dd q);refine bz ek b1 em1 (λy w F H2 hw b2 em2=>?_) (c6 (dd q));obtain⟨i,j,e1,e2,em2⟩:=qS em2;obtain⟨rfl,rfl⟩:v=.int i/\w=.int j:=by have r2:=Bd.rd b2 hw e2;have r1:=Bd.rd b2.drop hv e1;cases r1;cases r2;exact⟨rfl,rfl⟩
 split at em2
 .rename_i hj;cases em2;exact⟨i,j,rfl,⟨by lia,by lia,by lia,by lia⟩,q _ H2 [] [] rfl Ba b2.drop.drop⟩
 .cases em2⟩
noncomputable def forL(G:Mg)(b:Ms):List A->Ms
 |[],Z=>some (.nx,Z)
 |a::as,Z=>match G a Z with
  |none=>none
  |some U=>match b U with
   |some (.nx,F)=>forL G b as F
   |some (.ct,F)=>forL G b as F
   |some (.bk,F)=>some (.nx,F)
   |r=>r
def fT(m:Mi (List A))(G:Mg)(b:Ms):Ms:=cX m λas Z=>forL G b as Z
theorem GO{m:Mi (List A)}{G:Mg}{mb:Ms}(hp:YL (XU X.prog X.w) X.A X.env X.xe)(hc:X.calm=true)(hi:JI X E tg iter m)(hg:JG X 0 tg G)(hb:qZ X E body mb)
  (hs:∀x,X7 iter X.env x=pure x:=by intro _;rfl):JS X E (.For tg iter body [] pos) (fT m G mb):=⟨PS.weaken (IX hp hc hi.p hg.p hb.p hs) λD Y H h=>by
 obtain⟨c,Z,B,θ,f,O,ek,b,em,q⟩:=h;rcases fq em with ⟨as,U,e1,e2⟩|⟨e,e1,e2⟩
 .refine⟨c,Z,B,_,_,U,ek,b,e1,λJ H1 T S li it b1=>?_⟩;refine⟨λi m j H'=>m=as.length-i/\i<=as.length/\∃R,Bd c j H' R (T++B) (S.map Sl.fr++θ.map Sl.fr)/\forL G mb (as.drop i) R=some (f,O),⟨_,rfl,SR _,U,b1,by simpa using e2⟩,?_⟩;rintro i m j H' ⟨rfl,hi,R,bi,ei⟩;obtain⟨i1,i2⟩:=it c j H' R [] [] B (θ.map Sl.fr) i ek rfl bi;by_cases hlt:i<as.length
  .have hd:as.drop i=as[i]::as.drop (i+1):=S0 hlt;rw[hd] at ei;obtain⟨go,yl⟩:=i2 as[i] (by simp[hlt]);refine .inr ⟨go,λP H2=>∃F,Bd c P H2 F (T++B) (S.map Sl.fr++θ.map Sl.fr)/\forL G mb (as.drop (i+1)) F=some (f,O),λP H2 ⟨F,q1,q2⟩=>⟨as.length-(i+1),by lia,rfl,hlt,F,q1,q2⟩,λx H2 y=>?_⟩;have b2:=yl x H2 y;unfold forL at ei;cases eg:G as[i] R with
   |none=>rw[eg] at ei;cases ei
   |some F=>
    rw[eg] at ei;refine⟨c,R,_,_,as[i],F,ek,b2,eg,λV H3 _ _ b3=>?_⟩;cases eb:mb F with
    |none=>simp only[eb] at ei;cases ei
    |some p=>
     obtain⟨f1,Z0⟩:=p;simp only[eb] at ei;refine⟨c,F,T++B,S++θ,f1,Z0,ek,by rw[Rz];exact b3,eb,?_⟩;cases f1 with
     |nx=>intro Q H4 b4;rw[Rz] at b4;exact⟨Z0,b4,ei⟩
     |ct=>intro Q H4 b4;rw[Rz] at b4;exact⟨Z0,b4,ei⟩
     |bk=>cases ei;intro Q H4 b4;rw[Rz] at b4;exact q Q H4 (Bd.CO (by simp[li]) b4)
     |rt s=>cases ei;intro v Q H4 hs b4;rw[Rz] at b4;exact q v Q H4 hs (Bd.uj (by simp[li]) b4)
     |ex x=>cases ei;intro C Q H4 hm b4;rw[Rz] at b4;exact q C Q H4 hm (Bd.CO (by simp[li]) b4)
  .have e:i=as.length:=by lia
   subst e;rw[T8] at ei;cases ei;exact .inl ⟨i1 (QY _),q j H' (Bd.CO (by simp[li]) bi)⟩
 .subst e2;exact⟨c,Z,B,_,_,O,ek,b,e1,λC H1 hm b1=>q C Y H1 hm b1⟩⟩
noncomputable def dB(t:Mi Bool)(b:Ms):Nat->Ms
 |0,_=>none
 |n+1,Z=>match t Z with
  |some (.ok true,U)=>match b U with
   |some (.nx,F)=>dB t b n F
   |some (.ct,F)=>dB t b n F
   |some (.bk,F)=>some (.nx,F)
   |r=>r
  |some (.ok false,U)=>some (.nx,U)
  |some (.error e,U)=>some (.ex e,U)
  |none=>none
def gn(n:Nat)(t:Mi Bool)(b:Ms):Ms:=dB t b n
theorem yo{n:Nat}{t:Expr}{mb:Ms}(hp:YL (XU X.prog X.w) X.A X.env X.xe)(l:JT X E t mt)(J:qZ X E body mb):JS X E (.While t body [] pos) (gn n mt mb):=⟨PS.weaken (Ap hp l.p J.p) λD Y H h=>by
 obtain⟨c,Z,B,θ,f,O,i,b,em,q⟩:=h;refine⟨λm j H'=>∃R,Bd c j H' R B (θ.map Sl.fr)/\dB mt mb m R=some (f,O),⟨n,Z,b,em⟩,?_⟩;rintro m j H' ⟨R,K,a⟩;cases m with
 |zero=>cases a
 |succ m=>
  unfold dB at a;cases I:mt R with
  |none=>rw[I] at a;cases a
  |some p=>
   obtain⟨o,U⟩:=p;refine⟨c,R,B,_,o,U,i,K,I,?_⟩;cases o with
   |error e=>rw[I] at a;cases a;exact λC V hm b1=>q C j V hm b1
   |ok k=>
    intro V b1;cases k with
    |false=>rw[I] at a;cases a;rw[Zy Z2];exact q j V b1
    |true=>
     rw[I] at a;rw[Zx rfl];refine⟨λP d=>∃F,Bd c P d F B (θ.map Sl.fr)/\dB mt mb m F=some (f,O),λP d w=>⟨m,Sn _,w⟩,?_⟩;cases z:mb U with
     |none=>simp only[z] at a;cases a
     |some p=>
      obtain⟨u,Z0⟩:=p;simp only[z] at a;refine⟨c,U,B,θ,u,Z0,i,b1,z,?_⟩;cases u with
      |nx=>exact λQ T r=>⟨Z0,r,a⟩
      |ct=>exact λQ T r=>⟨Z0,r,a⟩
      |bk=>cases a;exact λQ T r=>q Q T r
      |rt s=>cases a;exact λv Q T hs r=>q v Q T hs r
      | ex x=>cases a;exact λC Q T hm r=>q C Q T hm r⟩
end
theorem n6(r:Rr)(v:V)(t:St)(u:List Sl):cM r v t=cM r v []++t/\cL r u=cL r []++u/\(cM r v []).length=(cL r []).length:=by cases r<;>exact⟨rfl,rfl,rfl⟩
def dq(G:Mg)(t:Mi Bool)(e:Mi Rr):List A->List A->List Sl->Option (List A×List Sl)
 |[],acc,Z=>some (acc,Z)
 |a::as,acc,Z=>match G a Z with
  |none=>none
  |some U=>match t U with
   |some (.ok true,F)=>match e F with
    |some (.ok r,Z0)=>match bX r Z0 with
     |some (d,N)=>dq G t e as (acc++[d]) N
     |none=>none
    |_=>none
   |some (.ok false,F)=>dq G t e as acc F
   |_=>none
inductive MB(G:Mg)(t:Mi Bool)(e:Mi Rr)(a:A)(as acc:List A)(Z:List Sl)(r:List A×List Sl):Prop
 |skip{U F:List Sl}(g:G a Z=some U)(k:t U=some (.ok false,F))(q:dq G t e as acc F=some r)
 |take{d:A}{u:Rr}{U F Z0 N:List Sl}(g:G a Z=some U)(k:t U=some (.ok true,F))(m:e F=some (.ok u,Z0))(f:bX u Z0=some (d,N))(q:dq G t e as (acc++[d]) N=some r)
theorem xu{G:Mg}{t:Mi Bool}{e:Mi Rr}{a:A}{as acc:List A}{r:List A×List Sl}(h:dq G t e (a::as) acc Z=some r):MB G t e a as acc Z r:=by
 unfold dq at h;split at h
 .cases h
 .rename_i U Y;split at h
  .rename_i F I;split at h
   .rename_i u Z0 y;split at h
    .rename_i d N b;exact .take Y I y b h
    .cases h
   .cases h
  .rename_i F I;exact .skip Y I h
  .cases h
def aO:Mi Bool:=lZ true
def aP(n:Nat)(B:Mi (List A))(G:Mg)(t:Mi Bool)(e:Mi Rr):Mi Rr:=aV B λas Z=>if as.length<=100000 then match dq G t e as [] (Z++QX n .un) with
 |some (ys,O)=>some (.ok (.nw (.lst ys)),O.take Z.length)
 |none=>none else none
structure JF(X:Cx)(E:XK)(ifs:List Expr)(m:Mi Bool):Prop where
 p:PF X ifs (C7 (kx X) E m)
variable{me:Mi Rr}{lo:Nat}{N:List Str}{elt:Expr}{ifs:List Expr}{px:Pos}
section
variable{X:Cx}{E:XK}
theorem HX:JF X E [] aO:=⟨λpins s Y H Q I h=>by refine Ih pins s Y H Q I ?_;obtain⟨c,Z,B,θ,o,O,t,b,em,q⟩:=h;cases em;exact q H b⟩
theorem JC{t:Expr}{m:Mi Bool}(h:JT X E t m):JF X E [t] m:=⟨G9 h.p⟩
noncomputable abbrev vV:XK:=λ_ _ _=>False
theorem xa{n:Nat}{G:Mg}{T:St}{l:Hp}{U F:List Sl}{S as ys:List A}{J:It}(t:Y.length=lo)(g:c.toKx=kx X)(li:T.length=S.length)
  (it:∀Y H Z D r i,D.length=r.length->Bd c Y H Z (D++(T++B)) (r++(S.map Sl.fr++θ))->(as.length<=i->J.stop i H)/\∀a,as[i]?=some a->J.go i H/\∀x H',J.yld i H x H'->Bd c Y H' Z (some x::(D++(T++B))) (.fr a::(r++(S.map Sl.fr++θ))))
  (b1:Bd c Y l U (T++B) (S.map Sl.fr++θ))(h100:as.length<=100000)(ec:dq G mt me as [] (U++QX n .un)=some (ys,F))(q:Pe (kx X) E c Y (F.take U.length) B θ Q (.ok (.nw (.lst ys)))):
  zQ J (N5 (kx X) lo G) (C7 (kx X) vV mt) (kQ (kx X) vV me) Q (Y++QX n none) l:=by
 have u:=b1.qP;refine⟨λi m j vs H'=>m=as.length-i/\i<=as.length/\j.take lo=Y/\∃R acc,vs.length=acc.length/\acc.length<=i/\Bd c j H' R (vs.reverse.map some++(T++B)) (acc.reverse.map Sl.fr++(S.map Sl.fr++θ))/\dq G mt me (as.drop i) acc R=some (ys,F),
  ⟨_,rfl,SR _,by rw[<-t,List.take_left],_,[],rfl,SR _,b1.OO,by simpa using ec⟩,?_⟩
 rintro i m j vs H' ⟨rfl,hi,C,R,acc,lv,la,bi,w⟩;refine⟨by have:=oZ;lia,?_⟩;obtain⟨i1,i2⟩:=it j H' R (vs.reverse.map some) (acc.reverse.map Sl.fr) i (by simp[lv]) bi;by_cases h:i<as.length
 .have hd:=S0 h;rw[hd] at w;obtain⟨go,yl⟩:=i2 as[i] (by simp[h]);refine .inr ⟨go,λP z d=>P.take lo=Y/\∃Z0 b,z.length=b.length/\b.length<=i+1/\Bd c P d Z0 (z.reverse.map some++(T++B)) (b.reverse.map Sl.fr++(S.map Sl.fr++θ))/\dq G mt me (as.drop (i+1)) b Z0=some (ys,F),
   λP z d ⟨q0,Z0,b,q1,q2,q3,q4⟩=>⟨as.length-(i+1),by lia,rfl,h,q0,Z0,b,q1,q2,q3,q4⟩,λx d y=>?_⟩
  have b2:=yl x d y;have fin:∀{Z0 N:List Sl}{k:Bool},G as[i] R=some Z0->mt Z0=some (.ok k,N)->(∀V s,V.take lo=Y->Bd c V s N (vs.reverse.map some++(T++B)) (acc.reverse.map Sl.fr++(S.map Sl.fr++θ))->if k=true then kQ (kx X) vV me V s λv o=>V.take lo=Y/\∃Z0 b,(vs++[v]).length=b.length/\b.length<=i+1/\Bd c V o Z0 ((vs++[v]).reverse.map some++(T++B)) (b.reverse.map Sl.fr++(S.map Sl.fr++θ))/\dq G mt me (as.drop (i+1)) b Z0=some (ys,F) else V.take lo=Y/\∃Z0 b,vs.length=b.length/\b.length<=i+1/\Bd c V s Z0 (vs.reverse.map some++(T++B)) (b.reverse.map Sl.fr++(S.map Sl.fr++θ))/\dq G mt me (as.drop (i+1)) b Z0=some (ys,F))->N5 (kx X) lo G x j d λV H3=>C7 (kx X) vV mt V H3 λk s=>if k=true then kQ (kx X) vV me V s λv o=>V.take lo=Y/\∃Z0 b,(vs++[v]).length=b.length/\b.length<=i+1/\Bd c V o Z0 ((vs++[v]).reverse.map some++(T++B)) (b.reverse.map Sl.fr++(S.map Sl.fr++θ))/\dq G mt me (as.drop (i+1)) b Z0=some (ys,F) else V.take lo=Y/\∃Z0 b,vs.length=b.length/\b.length<=i+1/\Bd c V s Z0 (vs.reverse.map some++(T++B)) (b.reverse.map Sl.fr++(S.map Sl.fr++θ))/\dq G mt me (as.drop (i+1)) b Z0=some (ys,F):=
   λK I f=>⟨c,R,_,_,as[i],_,g,b2,K,λV H3 O l3 b3=>⟨c,_,_,_,.ok _,_,g,b3,I,λs L=>f V s (O.trans C) L⟩⟩
  cases xu w with
  |skip K I w=>exact fin K I λV s O L=>⟨O,_,acc,lv,by exact Wf ‹_›,L,w⟩
  |take K I ee ef w=>exact fin K I λV s O L=>⟨c,_,_,_,_,_,g,L,ee,λv o hv b5=>⟨O,_,_,by simp[lv],by simp;exact id ‹_›,by simpa using Bd.bX (xs:=[]) (ss:=[]) rfl b5 hv ef,w⟩⟩
 .have e:i=as.length:=by lia
  subst e;rw[T8] at w;cases w;refine .inl ⟨i1 (QY _),λp hp=>?_⟩;have b7:=Bd.zF bi (by simp[lv]) hp vs ys ud;have b8:=Bd.uj (by simp[li]) b7;have es:j=Y++j.drop lo:=by rw[<-C];exact(SM _ _).symm
  rw[es] at b8;have b9:=b8.O8;rw[u] at b9;exact q _ _ trivial b9
theorem pf{n:Nat}{a:Mi (List A)}{G:Mg}(Y:St)(H:Hp)(Q:VK)(F:Y.length=lo)(h:kQ (kx X) E (aP n a G mt me) Y H Q):
  BX n (P2 (kx X) E a) (N5 (kx X) lo G) (C7 (kx X) vV mt) (kQ (kx X) vV me) Y H Q:=by
 obtain⟨c,Z,B,θ,o,O,t,b,em,q⟩:=h;rcases bind_some em with ⟨as,U,e1,e2⟩|⟨e,e1,e2⟩
 .refine⟨c,Z,B,θ,_,U,t,b,e1,λJ V T S R it b1=>?_⟩;split at e2
  .rename_i v;cases x:dq G mt me as [] (U++QX n .un) with
   |none=>rw[x] at e2;cases e2
   |some p=>rw[x] at e2;cases e2;exact xa F t R (λY H Z D r i l b=>it c Y H Z D r B θ i t l b) b1 v x q
  .cases e2
 .subst e2;exact⟨c,Z,B,θ,_,O,t,b,e1,λC V hm b1=>q C V hm b1⟩
theorem DE{k:Nat}{sc:Scope}{mi:Mi (List A)}{G:Mg}(hc:X.calm=true)(S:gj X.N N k sc X.env.scope)(hlo:X.N.length=lo)(hi:JI X E tg iter mi)
  (hg:∀cl C s H fp,JG (jq X N sc cl C s H fp) lo tg G)(ht:∀cl C s H fp,JF (jq X N sc cl C s H fp) vV ifs mt)(he:∀cl C s H fp,JE (jq X N sc cl C s H fp) vV elt me)(hs:∀x,X7 iter X.env x=pure x:=by intro _;rfl):
  JE X E (.ListComp elt [⟨tg,iter,ifs,0⟩] sc pos) (aP k mi G mt me):=
 ⟨λpins s Y H Q I h=>EI hc S hi.p (λcl C s H fp=>(hg cl C s H fp).p) (λcl C s H fp=>(ht cl C s H fp).p) (λcl C s H fp=>(he cl C s H fp).p) hs pins s Y H Q I (pf Y H Q (I.len.trans hlo) h)⟩
theorem Cs{x:Str}{spos:Pos}{k:Nat}{sc:Scope}{mi:Mi (List A)}{G:Mg}(hc:X.calm=true)(S:gj X.N N k sc X.env.scope)(hlo:X.N.length=lo)(hN:X.N.Nodup)(hx:X.N[i]?=some x)
  (hl:X.env.scope.names.lookup x=some .local)(hsw:X9 (.ListComp elt [⟨tg,iter,ifs,0⟩] sc pos) (some (.Name x px)) spos.line X.env=pure true)(hi:JI X E tg iter mi)
  (hg:∀cl C s H fp,JG (jq X N sc cl C s H fp) lo tg G)(ht:∀cl C s H fp,JF (jq X N sc cl C s H fp) vV ifs mt)(he:∀cl C s H fp,JE (jq X N sc cl C s H fp) vV elt me)(hs:∀x,X7 iter X.env x=pure x:=by intro _;rfl):
  JS X E (.Assign [.Name x px] (.ListComp elt [⟨tg,iter,ifs,0⟩] sc pos) spos) (aG i (aP k mi G mt me)):=
 ⟨λpins s Y H D I h=>D4 hc S hN hx hl hsw hi.p (λcl C s H fp=>(hg cl C s H fp).p) (λcl C s H fp=>(ht cl C s H fp).p) (λcl C s H fp=>(he cl C s H fp).p) hs pins s Y H D I (by
  obtain⟨c,Z,B,θ,f,O,ek,b,em,q⟩:=h;refine pf Y H _ (I.len.trans hlo) (d6 ek b em q λr v U H1 hv b1 em1=>?_);cases e1:yh r U with
  |none=>rw[e1] at em1;cases em1
  |some p=>
   obtain⟨t,F⟩:=p;rw[e1] at em1;obtain⟨b2,ht⟩:=Bd.yh hv b1 e1;cases e2:put i t F with
   |none=>simp only[e2] at em1;cases em1
   | some Z0=>simp only[e2] at em1;cases em1;exact q _ H1 (Bd.put b2 ht e2))⟩
noncomputable def aE(Z:List Sl)(i:Nat):Option LO:=match Z[i]? with
 |some (.lv o)=>some o
 |some (.pv o)=>some o
 |_=>none
noncomputable def setAt(Z:List Sl)(i:Nat)(o:LO):List Sl:=match Z[i]? with
 |some (.pv _)=>Z.set i (.pv o)
 |_=>Z.set i (.lv o)
theorem d9.live(b:d9 c Y H Z B θ L)(h:aE Z i=some o)(o':LO)(u:HO):
  ∃p q,Y[i]?=some (some (.ref p))/\LR c.toKx (c.g H L) H p o q/\((∀H',H' p=some u->LR c.toKx (c.g H L) H' p o' q)->Bd c Y (upd H p u) (setAt Z i o') B θ):=by
 delta aE at h
 delta setAt
 cases es:Z[i]? with
 |none=>rw[es] at h;cases h
 |some s=>
  cases s with
  |un=>rw[es] at h;cases h
  |cf _=>rw[es] at h;cases h
  |fr a=>rw[es] at h;cases h
  |lv r=>rw[es] at h;cases h;obtain⟨p,q,h1,h2,h3⟩:=b.change es (.inl ⟨rfl,rfl⟩);exact⟨p,q,h1,h2,λk=>h3 λH' e _=>k H' e⟩
  |pv r=>rw[es] at h;cases h;obtain⟨p,q,h1,h2,h3⟩:=b.change es (.inr ⟨rfl,rfl⟩);exact⟨p,q,h1,h2,λk=>h3 λH' e _=>k H' e⟩
theorem Bd.tL{v:V}{a:A}(b:Bd c Y H Z (some v::B) (.fr a::θ)):∃L,d9 c Y H Z B θ L/\RA c.toKx (c.g H L) v a:=by obtain⟨L,bl,r⟩:=Bd.lE (vs:=[v]) (as:=[a]) b rfl;cases r with|cons h _=>exact⟨L,bl,h⟩
def CP(i:Nat)(m:Mi Rr):Mi Rr:=aV m λr Z=>match bX r Z with
 |some (a,U)=>match aE U i with
  |some (.lst xs)=>if xs.length<=16000000 then some (.ok (.fr .non),setAt U i (.lst (xs++[a]))) else none
  |_=>none
 |none=>none
theorem mU{xs:List A}(b:Bd c Y H Z B θ)(h:aE Z i=some (.lst xs)):∃p vs,Y[i]?=some (some (.ref p))/\H p=some (.lst vs):=by obtain⟨L,b⟩:=b;obtain⟨p,_,h1,h2,v⟩:=b.live h (.lst xs) (.lst []);cases h2 with|lst e r=>exact⟨p,_,h1,e⟩
def Mh(Z:List Sl)(i:Nat):Bool:=match aE Z i with
 |some (.lst _)=>true
 |_=>false
def Nt(i:Nat)(m:Mi Rr):Mi Rr:=λZ=>if Mh Z i then m Z else none
theorem rQ(h:Mh Z i=true):∃xs,aE Z i=some (.lst xs):=by
 delta Mh at h
 cases e:aE Z i with
 |none=>rw[e] at h;cases h
 |some o=>cases o with
  |lst xs=>exact⟨xs,rfl⟩
  |dic _=>rw[e] at h;cases h
  |dit _=>rw[e] at h;cases h
  |obj _ _=>rw[e] at h;cases h
  |nob _ _ _=>rw[e] at h;cases h
theorem KH{x:Str}{apos cpos:Pos}{m:Mi Rr}(hN:X.N[i]?=some x)(hv:ku X.env.scope x)(hd:fC x)(hcd:lA x)(he:JE X E e m)
  (hbase:XR (.Name x px) "append" X.env (eval (.Name x px) X.env)=eval (.Name x px) X.env:=by rfl)
  (hfew:((XW cpos (XM [e] X.env)).all (λx=>!x.1)&&(Yb cpos (X0 [] X.env)).all (λx=>x.1.isSome)&&decide (([e]:List Expr).length+([]:List X8).length+(if ([]:List X8).isEmpty then 0 else 1)<30))=true:=by rfl)
  (hline:(apos.endLine==cpos.line)=true:=by rfl)(hs:XM [e] X.env=(false,eval e X.env)::XM [] X.env:=by rfl)(hplain:(XW cpos (XM [] X.env)).any (·.1)=false:=by rfl):
  JE X E (.Call (.Attribute (.Name x px) "append" apos) [e] [] cpos) (Nt i (CP i m)):=
 ⟨PE.weaken (oN Sf TM TN kn (bS hN hv hd hcd) (aX he.p cw hs) hbase hfew hline hs hplain) λY H Q h=>by
  obtain⟨c,Z,B,θ,o,O,ek,b,em,q⟩:=h
  delta Nt at em
  split at em
  .rename_i hl;obtain⟨xs0,hl⟩:=rQ hl;obtain⟨p,vs,hp,hH⟩:=mU b hl;refine⟨_,hp,.inl ⟨rfl,vs,.inl (.inl hH)⟩,?_⟩;refine bz ek b em (λr v U H1 hv b1 em1=>?_) (bV q);cases e1:bX r U with
   |none=>rw[e1] at em1;cases em1
   |some pr=>
    obtain⟨a,F⟩:=pr;rw[e1] at em1;have b2:=Bd.bX (xs:=[]) (ss:=[]) rfl b1 hv e1;cases e2:aE F i with
    |none=>simp only[e2] at em1;cases em1
    |some lo=>
     cases lo with
     |dic _=>simp only[e2] at em1;cases em1
     |dit _=>simp only[e2] at em1;cases em1
     |obj _ _=>simp only[e2] at em1;cases em1
     |nob _ _ _=>simp only[e2] at em1;cases em1
     |lst xs=>
      simp only[e2] at em1;split at em1
      .rename_i hx;cases em1;obtain⟨L,bl,ra⟩:=Bd.tL b2;obtain⟨p',_,h1,h2,h3⟩:=bl.live e2 (.lst (xs++[a])) (.lst ((match H1 p with|some (.lst ws)=>ws|_=>[])++[v]));rw[hp] at h1;cases h1;cases h2 with
       |lst e rr=>rename_i ws;rw[e] at h3;refine⟨p,ws,v,rfl,rfl,e,by have:=rr.len;have:=Yi;lia,q _ _ trivial (Bd.push (h3 λH' hh=>.lst hh (rr.snoc ra)) λ_=>.non)⟩
      .cases em1
  .cases em⟩
def gr(i:Nat)(mk m:Mi Rr):Ms:=cX m λr S=>if Mh S i then cX mk (λrk=>λZ=>match bX r Z with
 |some (a,U)=>match res U rk,aE U i with
  |some (.int k),some (.lst xs)=>match gH xs.length k with
   |some j=>some (.nx,setAt U i (.lst (xs.set j a)))
   |none=>none
  |_,_=>none
 | none=>none) S else none
theorem BL{x:Str}{S:Pos}{t:Expr}{mk m:Mi Rr}(hN:X.N[i]?=some x)(A:ku X.env.scope x)(hd:fC x)(T:lA x)(hk:JE X E t mk)(he:JE X E e m)
  (hp:∀{u K n:TE},PE X (.Name x px) u->PE X t K->PE X e n->PS X (.Assign [.Subscript (.Name x px) t S] e pos) (rC n (AA u K qV))):JS X E (.Assign [.Subscript (.Name x px) t S] e pos) (gr i mk m):=
 ⟨PS.weaken (hp (bS hN A hd T) hk.p he.p) λD Y H h=>by
  obtain⟨c,Z,B,θ,f,O,t,b,em,q⟩:=h;refine d6 t b em q λr v U H1 A b1 P=>?_;split at P
  .rename_i hl;obtain⟨I,hl⟩:=rQ hl;obtain⟨p,vs,hp,hH⟩:=mU b1 hl;refine⟨_,hp,?_⟩;rcases fq P with ⟨rk,F,e1,e2⟩|⟨ee,e1,e2⟩
   .refine⟨c,U,_,_,_,F,t,b1,e1,λw d o b2=>?_⟩;cases z:bX r F with
    |none=>rw[z] at e2;cases e2
    |some pr=>
     obtain⟨a,Z0⟩:=pr;rw[z] at e2;have s:Bd c Y d Z0 (cM rk w (some v::B)) (cL rk (.fr a::θ.map Sl.fr)):=by obtain⟨g,V,l⟩:=n6 rk w (cM r v B) (cL r (θ.map Sl.fr));obtain⟨g4,g5,_⟩:=n6 rk w (some v::B) (.fr a::θ.map Sl.fr);rw[g4,g5];rw[g,V] at b2;exact Bd.bX l b2 A z
     cases Q:res Z0 rk with
     |none=>simp only[Q] at e2;cases e2
     |some ak=>
      cases ak<;>first|(simp only[Q] at e2;cases e2;done)|skip
      rename_i k;have G:=Bd.rd s o Q;cases G;cases R:aE Z0 i with
      |none=>simp only[Q,R] at e2;cases e2
      |some lo=>
       cases lo with
       |dic _=>simp only[Q,R] at e2;cases e2
       |dit _=>simp only[Q,R] at e2;cases e2
       |obj _ _=>simp only[Q,R] at e2;cases e2
       |nob _ _ _=>simp only[Q,R] at e2;cases e2
       |lst xs=>
        simp only[Q,R] at e2;cases J:gH xs.length k with
        |none=>rw[J] at e2;cases e2
        |some j=>
         rw[J] at e2;cases e2;obtain⟨L,bl,ra⟩:=Bd.tL s.drop;obtain⟨p',_,h1,h2,h3⟩:=bl.live R (.lst (xs.set j a)) (.lst ((match d p with|some (.lst ws)=>ws|_=>[]).set j v));rw[hp] at h1;cases h1;cases h2 with
         |lst e y=>rename_i ws;rw[e] at h3;exact⟨p,ws,k,j,rfl,rfl,e,by rw[y.len];exact J,q Y _ (h3 λH' hh=>.lst hh (y.set ra j))⟩
   .subst e2;exact⟨c,U,_,_,_,O,t,b1,e1,λC d hm b2=>q C Y d hm b2.drop⟩
  .cases P⟩
end
section
variable{X:Cx}{E:XK}
open PySem.Spec PyProof.Rows PySem.W in
open PySem.Spec PyProof.Rows PySem.W in
end
theorem d9.Mn{v:V}{a b:A}(bl:d9 c Y H Z B θ L)(h1:RA c.toKx (c.g H L) v a)(h2:RA c.toKx (c.g H L) w b):Bd c Y H Z (some v::some w::B) (.fr a::.fr b::θ):=
 ⟨L,bl.nd,ax.cons (.fr h1) (ax.cons (.fr h2) bl.rel),bl.own,bl.fr,bl.kp,by simp[bl.lt],bl.hd⟩
variable{j:Nat}
section
variable{X:Cx}{E:XK}
open PySem.Spec PyProof.Rows PySem.W in
def aH:Mi (Option Int):=lZ none
def bF(m:Mi Rr):Mi (Option Int):=aV m λr Z=>match res Z r with
 |some (.int i)=>some (.ok (some i),Z)
 |_=>none
def NO(K:Kx)(E:XK)(c:Cn)(Y:St)(Z:List Sl)(B:St)(θ:List Sl)(Q:Option Int->Hp->Prop):Except Str (Option Int)->Prop
 | .ok i=>∀H,Bd c Y H Z B θ->Q i H
 | .error x=>∀C H,K.mg x=some (.ref C)->Bd c Y H Z B θ->E (.ref C) none H
inductive P1(K:Kx)(E:XK)(m:Mi (Option Int))(Y:St)(H:Hp)(Q:Option Int->Hp->Prop):Prop
 |mk(c:Cn)(Z:List Sl)(B:St)(θ:List Sl)(o:Except Str (Option Int))(O:List Sl)(h1:c.toKx=K)(h2:Bd c Y H Z B θ)(h3:m Z=some (o,O))(h4:NO K E c Y O B θ Q o)
structure JP(X:Cx)(E:XK)(e:Option Expr)(m:Mi (Option Int)):Prop where
 p:PO X e (P1 (kx X) E m)
theorem PO.weaken{e:Option Expr}{t t':TO}(h:PO X e t)(f:∀Y H Q,t' Y H Q->t Y H Q):PO X e t':=λpins s Y H Q I q=>h pins s Y H Q I (f Y H Q q)
theorem Bi{o:Except Str (Option Int)}{Q:Option Int->Hp->Prop}(q:NO (kx X) E c Y O B θ Q o):∀e,o=.error e->∀C H,X.mg e=some (.ref C)->Bd c Y H O B θ->E (.ref C) none H:=λe y=>by subst y;exact q
theorem Dj:JP X E none aH:=⟨PO.weaken Cw λY H Q h=>by obtain⟨c,Z,B,θ,o,O,t,b,em,q⟩:=h;cases em;exact q H b⟩
theorem DU{m:Mi Rr}(h:JE X E e m):JP X E (some e) (bF m):=⟨PO.weaken (DH h.p) λY H Q h=>by
 obtain⟨c,Z,B,θ,o,O,t,b,em,q⟩:=h;refine bz t b em (λx v U V A b1 r=>?_) (Bi q);cases e1:res U x with
 |none=>rw[e1] at r;cases r
 |some a=>
  have g:=Bd.rd b1 A e1;cases a<;>first|(rw[e1] at r;cases r;done)|skip
  rw[e1] at r;cases r;cases g;exact⟨_,rfl,q V b1.drop⟩⟩
def i5(xs:List A)(lo hi:Option Int):List A:=(xs.drop (HT.jV xs.length 0 lo)).take (HT.jV xs.length xs.length hi-HT.jV xs.length 0 lo)
theorem HQ{k:Kx}{as:List A}(r:bU k G vs as)(lo hi:Option Int):bU k G (wW vs lo hi) (i5 as lo hi):=by
 delta wW i5
 rw[r.len]
 exact(r.drop _).take _
theorem vk{m:Mi (Option Int)}{f:Option Int->Mi β}{o:Except Str β}{Q:Option Int->Hp->Prop}(t:c.toKx=kx X)(b:Bd c Y H Z B θ)(em:aV m f Z=some (o,O))
  (h1:∀k U V,Bd c Y V U B θ->f k U=some (o,O)->Q k V)
  (h2:∀e,o=.error e->∀C H,X.mg e=some (.ref C)->Bd c Y H O B θ->E (.ref C) none H):P1 (kx X) E m Y H Q:=by
 rcases bind_some em with ⟨x,U,e1,e2⟩|⟨e,e1,e2⟩
 .exact⟨c,Z,B,θ,_,U,t,b,e1,λV b1=>h1 x U V b1 e2⟩
 .exact⟨c,Z,B,θ,_,O,t,b,e1,λC V hm b1=>h2 e e2 C V hm b1⟩
noncomputable def Qy(f g:Mg):Mg:=λa Z=>match f a Z with
 |some r=>some r
 |none=>g a Z
def LH(m:Mi Rr)(G:Mg):Ms:=cX m λr Z=>match bX r Z with
 |some (a,U)=>match G a U with
  |some F=>some (.nx,F)
  |none=>none
 |none=>none
theorem HZ{m:Mi Rr}{G:Mg}(he:JE X E e m)(hg:JG X 0 tg G)(hs:Yw [tg] e pos.line X.env=pure false:=by rfl)(hw:Yl [tg] e X.env=pure none:=by rfl)
  (hp:∀{te:TE}{g:TG},PE X e te->PG X tg g->PS X (.Assign [tg] e pos) (rC te g)):JS X E (.Assign [tg] e pos) (LH m G):=⟨PS.weaken (hp he.p hg.p) λD Y H h=>by
 obtain⟨c,Z,B,θ,f,O,ek,b,em,q⟩:=h;refine d6 ek b em q λr v U H1 hv b1 em1=>?_;cases e1:bX r U with
 |none=>rw[e1] at em1;cases em1
 |some p=>
  obtain⟨a,F⟩:=p;rw[e1] at em1;have b2:=Bd.bX (xs:=[]) (ss:=[]) rfl b1 hv e1;cases e2:G a F with
  |none=>simp only[e2] at em1;cases em1
  | some Z0=>simp only[e2] at em1;cases em1;exact⟨c,F,B,_,a,O,ek,b2,e2,λj H' _ _ b3=>q j H' b3⟩⟩
def DK(i j:Nat)(rs:List Rr)(Z:List Sl):Option (Fl×List Sl):=match d5 rs Z with
 |some ([a,b],U)=>match put i (.fr a) U with
  |some F=>match put j (.fr b) F with
   |some Z0=>some (.nx,Z0)
   |none=>none
  |none=>none
 |_=>none
theorem xi{f:Fl}(h:DK i j rs Z=some (f,O)):∃a d F Z0,d5 rs Z=some ([a,d],F)/\put i (.fr a) F=some Z0/\put j (.fr d) Z0=some O/\f=.nx:=by
 delta DK at h
 cases b:d5 rs Z with
 |none=>rw[b] at h;cases h
 |some p=>
  rw[b] at h;obtain⟨as,F⟩:=p
  match as,h with
  |[a,d],h=>
   dsimp only at h;cases J:put i (.fr a) F with
   |none=>rw[J] at h;cases h
   |some Z0=>
    rw[J] at h;dsimp only at h;cases K:put j (.fr d) Z0 with
    |none=>rw[K] at h;cases h
    |some N=>rw[K] at h;cases h;exact⟨a,d,F,Z0,rfl,J,K,rfl⟩
theorem CG{l:List α}(h:l.length=2):∃a b,l=[a,b]:=match l,h with
 |[a,b],_=>⟨a,b,rfl⟩
def Ay(i j:Nat)(m:Mi (List Rr)):Ms:=cX m (DK i j)
theorem Ha{s:Stmt}{m:Mi (List Rr)}(r:JA X E es m)(Q:i≠j)(hp:∀{ta:TA},PA X es ta->PS X s (Mu i j ta)):JS X E s (Ay i j m):=⟨PS.weaken (hp r.p) λD Y H h=>by
 obtain⟨c,Z,B,θ,f,O,t,b,em,q⟩:=h;rcases fq em with ⟨rs,U,e1,e2⟩|⟨e,e1,e2⟩
 .refine⟨c,Z,B,_,_,U,t,b,e1,λvs V A b1=>?_⟩;obtain⟨a,d,F,Z0,z,N,K,rfl⟩:=xi e2;obtain⟨b2,J⟩:=Bd.d5 A b1 z;obtain⟨v,w,rfl⟩:=CG J;refine⟨v,w,rfl,q _ V ?_⟩;have k:Bd c Y V F (some w::some v::B) (.fr d::.fr a::θ.map Sl.fr):=by simpa using b2
  obtain⟨L,bl,x⟩:=Bd.lE (vs:=[w,v]) (as:=[d,a]) k rfl;cases x with|cons h1 x=>cases x with|cons h2 _=>
  exact Bd.put (Bd.put (d9.Mn bl h2 h1) rfl N) rfl K
 .subst e2;exact⟨c,Z,B,_,_,O,t,b,e1,λC V hm b1=>q C Y V hm b1⟩⟩
end
section
variable{X:Cx}{E:XK}{a b:Expr}{ma mb:Mi Rr}{pos:Pos}
theorem IH(f:JE X E a ma)(d:JE X E b mb):JE X E (.BinOp a .Sub b pos) (aC jc ma mb):=nc Jp Hb f d
theorem Kp(f:JE X E a ma)(d:JE X E b mb):JE X E (.BinOp a .FloorDiv b pos) (aC iK ma mb):=nc zx Kr f d
theorem JR(f:JE X E a ma)(d:JE X E b mb):JE X E (.BinOp a .Mod b pos) (aC kZ ma mb):=nc Cp Hw f d
theorem He(f:JE X E a ma)(d:JE X E b mb):JE X E (.BinOp a .Pow b pos) (aC pY ma mb):=nc Hz JV f d
theorem LX(g:X.A.units+64<cLine)(f:JE X E a ma)(d:JE X E b mb):JE X E (.Compare a [.Eq] [b] pos) (aC iZ ma mb):=gy (BU g) os_eq f d (dw _)
theorem KQ(g:X.A.units+64<cLine)(f:JE X E a ma)(d:JE X E b mb):JE X E (.Compare a [.NotEq] [b] pos) (aC iN ma mb):=gy (ym g) FU f d (dw _)
theorem L4(f:JE X E a ma)(d:JE X E b mb):JE X E (.Compare a [.Lt] [b] pos) (aC ka ma mb):=gy iR FV f d (dw _)
theorem L8(f:JE X E a ma)(d:JE X E b mb):JE X E (.Compare a [.Gt] [b] pos) (aC ow ma mb):=gy kO F4 f d (dw _)
theorem Mp(f:JE X E a ma)(d:JE X E b mb):JE X E (.Compare a [.GtE] [b] pos) (aC Fh ma mb):=gy Fv Ff f d (dw _)
theorem K7(f:JE X E a ma)(d:JE X E b mb):JE X E (.Compare a [.Is] [b] pos) (aC (qv false) ma mb):=gy yZ Gb f d (dw _)
theorem EF(f:JE X E a ma)(d:JE X E b mb):JE X E (.Compare a [.IsNot] [b] pos) (aC (qv true) ma mb):=gy vq wb f d (dw _)
theorem Nk(g:X.A.units+64<cLine)(f:JE X E a ma)(d:JE X E b mb):JT X E (.Compare a [.Eq] [b] pos) (aj (aC iZ ma mb)):=gu (BU g) os_eq f d (dw _)
theorem Lf(g:X.A.units+64<cLine)(f:JE X E a ma)(d:JE X E b mb):JT X E (.Compare a [.NotEq] [b] pos) (aj (aC iN ma mb)):=gu (ym g) FU f d (dw _)
theorem Nr(f:JE X E a ma)(d:JE X E b mb):JT X E (.Compare a [.Lt] [b] pos) (aj (aC ka ma mb)):=gu iR FV f d (dw _)
theorem M4(f:JE X E a ma)(d:JE X E b mb):JT X E (.Compare a [.Gt] [b] pos) (aj (aC ow ma mb)):=gu kO F4 f d (dw _)
theorem NH(f:JE X E a ma)(d:JE X E b mb):JT X E (.Compare a [.GtE] [b] pos) (aj (aC Fh ma mb)):=gu Fv Ff f d (dw _)
theorem Mz(f:JE X E a ma)(d:JE X E b mb):JT X E (.Compare a [.Is] [b] pos) (aj (aC (qv false) ma mb)):=gu yZ Gb f d (dw _)
theorem CU(f:JE X E a ma)(d:JE X E b mb):JT X E (.Compare a [.IsNot] [b] pos) (aj (aC (qv true) ma mb)):=gu vq wb f d (dw _)
end
noncomputable def vg:Nat:=2^10000
noncomputable def yK(K:QN):Sp:=λvs H Q _=>∃(p:Addr)(ns:List Int),vs=[.ref p]/\dj K H p (ns.map V.int)/\ns.length<=63/\∀H',Q (.bl true) H'
theorem uL{k:Kx}{G:Hp}:∀(ns:List Int),bU k G (ns.map V.int) (ns.map A.int)
 |[]=>.nil
 |n::ns=>.cons (.int n) (uL ns)
theorem IS{P:Program}{w:XX}{K:QN}{mg:Str->Option Value}{base:Heap}{k:Nat}{m:Ms}(F:dF P w K mg base CX k f fd ps (je ⟨K,mg,P,w⟩ 1 m))
  (h:∀ns:List Int,ns.length<=63->∃Z,m [.fr (.lst (ns.map A.int))]=some (.rt (.fr (.bl true)),Z)):dF P w K mg base CX k f fd ps (yK K):=
 F.imp λvs H Q E q=>by
  obtain⟨p,ns,rfl,hs,hl,q⟩:=q;obtain⟨Z,e⟩:=h ns hl
  let c:Cn:={ K:=K,mg:=mg,P:=P,w:=w,σ0:=[some (.ref p)],H0:=H,Lp:=[],Hd:=[],Wk:=[] }
  refine⟨rfl,c,_,_,Z,rfl,rfl,rfl,⟨.nil,ax.cons (.fr (.lst (dQ (Sq.of λb o e=>?_) hs) (uL ns))) .nil,λp hp=>(by cases hp),⟨λb o e=>⟨o,e,λ_ _=>rfl⟩,λq l=>(by cases l)⟩,λi o _ _=>rfl,rfl,λq l=>(by cases l)⟩,e,λv H' _ b=>?_⟩
  .rw[bM (λz=>by cases z) (λz=>by cases z)];exact e
  .have r:=Bd.top b rfl;cases r;exact q H'
def lz(m:Mi Rr):Mi Rr:=aV m λr Z=>match bX r Z with
 |some (a,O)=>some (.ok (.fr a),O)
 |none=>none
theorem KP{E:XK}{m:Mi Rr}(he:JE X E e m):JE X E e (lz m):=⟨PE.weaken he.p λY H Q h=>by
 obtain⟨c,Z,B,θ,o,O,t,b,em,q⟩:=h;refine bz t b em (λx v U V A b1 r=>?_) (bV q);cases e1:bX x U with
 |none=>rw[e1] at r;cases r
 | some p=>rw[e1] at r;cases r;exact q v V trivial (Bd.bX (xs:=[]) (ss:=[]) rfl b1 A e1)⟩
section
variable{X:Cx}{E:XK}
inductive Ty where|bool|int|str|tuple|list|dict
 deriving DecidableEq
noncomputable def Ty.n:Ty->String
 | .bool=> "bool" | .int=> "int" | .str=> "str" | .tuple=> "tuple" | .list=> "list" | .dict=> "dict"
noncomputable def OU(T:Ty):A->Option Bool
 | .non=>some false
 | .bl _=>some (T=.bool || T=.int)
 | .int _=>some (T=.int)
 | .str _=>some (T=.str)
 | .tup _=>some (T=.tuple)
 | .lst _=>some (T=.list)
 | .dic _=>some (T=.dict)
 |_=>none
def pA(T:Ty)(a:A):Option Rr:=match OU T a with
 |some k=>some (.fr (.bl k))
 |none=>none
theorem JZ(K:QN)(T:Ty):Sm K (.type "NoneType") (.type T.n)=some false:=by cases T<;>kernel_rfl
theorem EJ(K:QN)(T:Ty):Sm K (.type "bool") (.type T.n)=some (T=.bool || T=.int:Bool):=by cases T<;>kernel_rfl
theorem Kd(K:QN)(T:Ty):Sm K (.type "int") (.type T.n)=some (T=.int:Bool):=by cases T<;>kernel_rfl
theorem HH(K:QN)(T:Ty):Sm K (.type "str") (.type T.n)=some (T=.str:Bool):=by cases T<;>kernel_rfl
theorem J7(K:QN)(T:Ty):Sm K (.type "tuple") (.type T.n)=some (T=.tuple:Bool):=by cases T<;>kernel_rfl
theorem Ib(K:QN)(T:Ty):Sm K (.type "list") (.type T.n)=some (T=.list:Bool):=by cases T<;>kernel_rfl
theorem Kq(K:QN)(T:Ty):Sm K (.type "dict") (.type T.n)=some (T=.dict:Bool):=by cases T<;>kernel_rfl
theorem HU(T:Ty):sY K (λv H Q=>∃x c t b,[v,V.ty T.n]=[x,c]/\HG K.K H x t/\Ac c=true/\Sm K.K t (JQ c)=some b/\Q (.bl b) H) (pA T):=.scalar λH v a q g h=>by
 cases a<;>first|exact kj h|skip
 .cases g;cases h;exact⟨_,_,rfl,λ_=>.bl _,λQ k=>⟨_,_,_,_,rfl,.of .non,rfl,JZ _ T,k⟩⟩
 .cases g;cases h;exact⟨_,_,rfl,λ_=>.bl _,λQ k=>⟨_,_,_,_,rfl,.of (.bl _),rfl,EJ _ T,k⟩⟩
 .cases g;cases h;exact⟨_,_,rfl,λ_=>.bl _,λQ k=>⟨_,_,_,_,rfl,.of (.int _),rfl,Kd _ T,k⟩⟩
 .cases g;cases h;exact⟨_,_,rfl,λ_=>.bl _,λQ k=>⟨_,_,_,_,rfl,.of (.str _),rfl,HH _ T,k⟩⟩
 .cases g with
  |tup e r=>cases h;exact⟨_,_,rfl,λ_=>.bl _,λQ k=>⟨_,_,_,_,rfl,.tup e,rfl,J7 _ T,k⟩⟩
 .cases g with
  |lst e r=>cases h;exact⟨_,_,rfl,λ_=>.bl _,λQ k=>⟨_,_,_,_,rfl,.lst e,rfl,Ib _ T,k⟩⟩
 .cases g with
  |dic e r=>cases h;exact⟨_,_,rfl,λ_=>.bl _,λQ k=>⟨_,_,_,_,rfl,.dic e,rfl,Kq _ T,k⟩⟩
theorem Ju{x y:Str}{p p2:Pos}{m:Mi Rr}(T:Ty)(hg:Gl X x)(hm:X.mg x=none)(hv:XQ x=some (.builtin "isinstance"))(hg2:Gl X y)(hm2:X.mg y=none)(hv2:XQ y=some (.type T.n))(ha:JE X E e m)(hn:x ≠ "__name__")
  (hdb:fC x)(hn2:y ≠ "__name__")(hdb2:fC y)(hs:XM [e,.Name y p2] X.env=(false,eval e X.env)::XM [.Name y p2] X.env:=by rfl)(hs2:XM [.Name y p2] X.env=(false,eval (.Name y p2) X.env)::XM [] X.env:=by rfl)(hp:(XW pos (XM [.Name y p2] X.env)).any (·.1)=false:=by rfl):JE X E (.Call (.Name x p) [e,.Name y p2] [] pos) (cx (pA T) m):=
 ⟨PE.weaken (j6 yX hg hm hv (aX ha.p (aX (ER hg2 hm2 hv2 (v:=.ty T.n) rfl hn2 hdb2) cw hs2) hs) hn hdb hs hp) λY H Q h=>jY (HU T) Y H Q h⟩
end
section
variable{X:Cx}{E:XK}
theorem Bd.D8{v:V}{a b:A}(e:xs.length=ss.length)(q:Bd c Y H Z (xs++(some v::some w::B)) (ss++(.fr a::.fr b::θ))):∃L,d9 c Y H Z (xs++(some v::some w::B)) (ss++(.fr a::.fr b::θ)) L/\RA c.toKx (c.g H L) v a/\RA c.toKx (c.g H L) w b:=by
 obtain⟨L,q⟩:=q;have r:ax c.toKx (c.g H L) H (xs++(some v::some w::(B++Y))) (ss++(.fr a::.fr b::(θ++Z))) L:=by have:=q.rel;simpa[QQ] using this
 obtain⟨s,L2,e1,E,l⟩:=ax.split e r;cases l with
 |cons h S=>
  cases S with
  |cons h2 K=>
   cases h with
   |fr h=>
    cases h2 with
    |fr h2=>exact⟨L,q,h,h2⟩
noncomputable def gK(as bs:List A):List A:=(as.zip bs).map λp=>.tup [p.1,p.2]
end
section
variable{X:Cx}{E:XK}
def A0(K:QN):R2:=λx y H Q=>∃a b xs ys,x=.ref a/\y=.ref b/\dj K H a xs/\dj K H b ys/\xs.length+ys.length<=sizeLine/\∀p,H p=none->Q (.ref p) (upd H p (.lst (xs++ys)))
theorem yM:iP X (Yn .Add) (A0 X.K):=by
 intro pins s Y H x y v u Q I o z h;obtain⟨a,b,xs,ys,rfl,rfl,f,d,hz,q⟩:=h;cases o;cases z;obtain⟨j,g,S,_⟩:=I.list f;obtain⟨B,l,C,_⟩:=I.list d;obtain⟨⟨P,R,T,G⟩,e,e1,c,p,Z⟩:=id S;obtain⟨⟨U,i,k,J⟩,A,e2,m,D,w⟩:=id C;subst c Z m w p D;have r:=g.length;have O:=l.length;refine concat_meets ⟨_,e1,rfl⟩ ⟨_,e2,rfl⟩ noFill_list_add seq_list_add PySem.F.slot_list_add PySem.F.entry_list_add (PySem.F.args_list_add_2 _ _) (Xh a b _ _ e A _ _ G J (by rw[QZ,QZ];lia)) ⟨e1,e2,?_⟩;have E:j.toArray++B.toArray=(j++B).toArray:=by simp
 rw[E];exact⟨.ref _,_,I.IB (g.append l) (by rw[Rc];lia),rfl,q _ I.fresh⟩
noncomputable def Au:A->A->Option Rr
 | .lst xs,.lst ys=>if xs.length+ys.length<=100000 then some (.nw (.lst (xs++ys))) else none
 |_,_=>none
theorem Df:jl K (A0 K.K) Au:=by
 intro c Y H Z B θ x y v w a b q Q t A n bd e1 e2 N k;cases a<;>first|exact kj N|(cases b<;>first|exact kj N|skip)
 rename_i xs ys
 delta Au at N
 simp only at N;split at N
 .rename_i hc;cases N;obtain⟨L,bl,s,I⟩:=Bd.AF bd A n e1 e2;obtain⟨S,X,rfl,s1,g⟩:=s.1 xs rfl;obtain⟨C,z,rfl,s2,l⟩:=I.1 ys rfl;have m:=g.len;have J:=l.len;subst t;exact⟨S,C,X,z,rfl,rfl,s1,s2,by have:=oZ;lia,λp hp=>k _ _ trivial (bl.kP hp λG H' sm q=>.lst q ((g.app l).sm sm))⟩
 .cases N
end
end M
set_option maxHeartbeats 4000000
set_option maxHeartbeats 1000000
namespace M
open PySem L2
variable{s:Sl}{cn:Str}{r:Rr}
section
variable{c:Cn}{Y:St}{H:Hp}{Z:List Sl}{B:St}{θ:List Sl}
theorem fE.Fe{k:Kx}{G:Hp}{x:Option V}{L:List Addr}{fs:List (Str×A)}(h:fE k G H x s L)(sm:Sq G H)(e:s.a=some (.obj cn fs)):∃p C dx vs,x=some (.ref p)/\H p=some (.ins C dx vs)/\k.mg cn=some (.ref C)/\ip k G vs fs:=by
 have lo:∀p o q,LR k G H p o q->o.rd=some (A.obj cn fs)->∃C dx vs,H p=some (.ins C dx vs)/\k.mg cn=some (.ref C)/\ip k G vs fs:=λp o q h z=>by
  cases h with
  |nob=>cases z
  |lst=>cases z
  |dic=>cases z
  |dit=>cases z
  |obj e m r=>cases z;exact⟨_,_,_,e,m,r⟩
 cases h with
 |un=>cases e
 |cf h=>cases e;cases h with|obj e m r=>exact⟨_,_,_,_,rfl,sm.keep e rfl,m,r⟩
 |fr h=>cases e;cases h with|obj e m r=>exact⟨_,_,_,_,rfl,sm.keep e rfl,m,r⟩
 |lv h=>obtain⟨C,dx,vs,h1,h2,h3⟩:=lo _ _ _ h e;exact⟨_,C,dx,vs,rfl,h1,h2,h3⟩
 |pv h=>obtain⟨C,dx,vs,h1,h2,h3⟩:=lo _ _ _ h e;exact⟨_,C,dx,vs,rfl,h1,h2,h3⟩
theorem Bd.Gm{v:V}{fs:List (Str×A)}(b:Bd c Y H Z (cM r v B) (cL r θ))(q:VR Y r v)(e:res Z r=some (.obj cn fs)):∃L p C dx vs,d9 c Y H Z B θ L/\v=.ref p/\H p=some (.ins C dx vs)/\c.mg cn=some (.ref C)/\ip c.toKx (c.g H L) vs fs:=by
 obtain⟨y,b⟩:=b;have t:∀s,d9 c Y H Z (some v::B) (s::θ) y->s.a=some (.obj cn fs)->∃L p C dx vs,d9 c Y H Z B θ L/\v=.ref p/\H p=some (.ins C dx vs)/\c.mg cn=some (.ref C)/\ip c.toKx (c.g H L) vs fs:=by
  intro s b E;obtain⟨nd,rel,own,fr,kp,lt,n⟩:=b;have rel:ax c.toKx (c.g H y) H (some v::(B++Y)) (s::(θ++Z)) y:=rel;cases rel with
  |cons h r=>rename_i u L2;have sm:Sq (c.g H (u++L2)) (c.g H L2):=dz λa f=>QO _ f;obtain⟨p,C,dx,vs,h1,h2,h3,h4⟩:=(h.sm sm (λ_ _ _ e=>e)).Fe (g_same _ _ _) E;exact⟨L2,p,C,dx,vs,⟨(Q2.mp nd).2.1,r.sm sm (λ_ _ _ e=>e),λp hp=>own p (QO _ hp),fr,kp,by simpa using lt,n⟩,Rj h1,h2,h3,h4⟩
 cases r with
 |rf i=>
  unfold res at e;cases es:Z[i]? with
  |none=>simp only[es] at e;cases e
  |some s=>simp only[es] at e;obtain⟨u,L2,e1,w,l⟩:=ax.split b.lt b.rel;obtain⟨x,_,_,_,hx,hs,_⟩:=l.at es;have q:Y[i]?=some (some v):=q;rw[q] at hx;obtain⟨p,C,dx,vs,h1,h2,h3,h4⟩:=hs.Fe (g_same _ _ _) e;rw[<-Rj hx] at h1;exact⟨y,p,C,dx,vs,b,Rj h1,h2,h3,h4⟩
 |fr a'=>exact t _ b e
 |nw o=>exact t _ b e
theorem Bd.QD{x:Option V}{ys:St}{ss:List Sl}(e:ys.length=ss.length)(b:Bd c Y H Z (x::(ys++B)) (s::(ss++θ))):Bd c Y H Z (ys++x::B) (ss++s::θ):=by
 obtain⟨L,b⟩:=b;have r:ax c.toKx (c.g H L) H (x::(ys++(B++Y))) (s::(ss++(θ++Z))) L:=by have:=b.rel;simpa[QQ] using this
 cases r with
 |cons h r=>
  rename_i A L2;obtain⟨Q,v,e1,E,l⟩:=ax.split e r;subst e1;have pm:(A++(Q++v)).Perm (Q++(A++v)):=by rw[<-QQ,<-QQ];exact Ts.append_right v
  refine⟨Q++(A++v),(pm.nodup_iff).mp b.nd,?_,λp hp=>b.own p (pm.mem_iff.mpr hp),b.fr,b.kp,by have:=b.lt;simp[e] at this ⊢;lia,b.hd⟩;have J:c.g H (Q++(A++v))=c.g H (A++(Q++v)):=Dq λa=>pm.mem_iff.symm;rw[J];have:=E.app (ax.cons h l);simpa[QQ] using this
end
variable{K:Kx}{cs:List Str}{f mn:Str}{e:Expr}{pos:Pos}{Z O:List Sl}{o:Except Str Rr}{mo:Mi Rr}{ma:Mi (List Rr)}{C:Addr}
section
variable{X:Cx}{E:XK}
def aq(cs:List Str)(f:Str):A->Option Rr
 | .obj c fs=>if cs.contains c then (match fs.lookup f with
  |some a=>some (.fr a)
  | none=>none) else none
 |_=>none
def Fu(K:QN)(f:Str):V->Hp->VK->Prop:=λx L Q=>∃a C dx fs v,x=.ref a/\L a=some (.ins C dx fs)/\gN K C/\bY K C f/\fs.lookup f=some v/\Q v L
theorem DD(hc:∀c C,cs.contains c=true->K.mg c=some (.ref C)->gN K.K C/\bY K.K C f):sY K (Fu K.K f) (aq cs f):=by
 intro c Y H Z B θ x v a q Q t A bd e1 N k;cases a<;>first|(cases N;done)|skip
 rename_i cn fs;unfold aq at N;simp only at N;split at N
 .rename_i b;cases R:fs.lookup f with
  |none=>simp only[R] at N;cases N
  |some w=>
   simp only[R] at N;cases N;obtain⟨L,p,C,dx,vs,bl,rfl,h2,h3,h4⟩:=Bd.Gm bd A e1;subst t;obtain⟨P,U⟩:=hc cn C b h3;rcases h4.get f with ⟨u,a,g,V,l⟩|⟨_,V⟩
   .rw[R] at V;cases V;exact⟨p,C,dx,vs,u,rfl,h2,P,U,g,k u H trivial (bl.push l)⟩
   .rw[R] at V;cases V
 .cases N
theorem vM{m:Mi Rr}(hc:∀c C,cs.contains c=true->X.mg c=some (.ref C)->gN X.K C/\bY X.K C f)(he:JE X E e m)(d:XR e f X.env (eval e X.env)=eval e X.env):JE X E (.Attribute e f pos) (aL (aq cs f) m):=
 ⟨PE.weaken (fm he.p d) λY H Q h=>jY (r:=Fu X.K f) (DD hc) Y H Q h⟩
def PZ(cs:List Str)(i:Nat)(f:Str)(m:Mi Rr):Ms:=cX m λr Z=>match bX r Z with
 |some (a,U)=>match aE U i with
  |some (.obj c fs)=>if cs.contains c&&SG fs.length 900 then some (.nx,setAt U i (.obj c (kM f a fs))) else none
  |_=>none
 |none=>none
def bK(cn m:Str)(mo:Mi Rr):Mi Rr:=aV mo λr Z=>match res Z r with
 |some (.obj c fs)=>if c==cn&&(fs.lookup m).isNone then some (.ok r,Z) else none
 |_=>none
theorem oJ{m:Str}{r':Rr}(h:(match res Z r with|some (.obj c fs)=>if c==cn&&(fs.lookup m).isNone then some ((.ok r:Except Str Rr),Z) else none|_=>none)=some (o,O)):∃fs,res Z r=some (.obj cn fs)/\fs.lookup m=none/\o=.ok r/\O=Z:=by
 split at h
 .rename_i c fs e;split at h
  .rename_i hc;rw[QM,ZD,RM] at hc;cases h;exact⟨fs,by rw[e,hc.1],hc.2,rfl,rfl⟩
  .cases h
 .cases h
inductive GD(cn mn:Str)(mo:Mi Rr)(ma:Mi (List Rr))(Z:List Sl)(x:Except Str (List Rr))(U:List Sl):Prop
 |ok{r:Rr}{rs:List Rr}{F:List Sl}{fs:List (Str×A)}(e:mo Z=some (.ok r,F))(g:res F r=some (.obj cn fs))(l:fs.lookup mn=none)(a:ma F=some (.ok rs,U))(q:x=.ok (r::rs))
 |err{y:Str}(e:mo Z=some (.error y,U))(q:x=.error y)
 |bad{r:Rr}{F:List Sl}{fs:List (Str×A)}{y:Str}(e:mo Z=some (.ok r,F))(g:res F r=some (.obj cn fs))(l:fs.lookup mn=none)(a:ma F=some (.error y,U))(q:x=.error y)
theorem sR{U:List Sl}{x:Except Str (List Rr)}(h:da (bK cn mn mo) ma Z=some (x,U)):GD cn mn mo ma Z x U:=by
 rcases bind_some h with ⟨r,F,J,K⟩|⟨y,J,K⟩
 .rcases bind_some J with ⟨n,Z0,w,H⟩|⟨_,_,H⟩
  .obtain⟨fs,g,V,l,b⟩:=oJ (r':=n) H;cases l;subst b;rcases bind_some K with ⟨rs,N,Y,B⟩|⟨y,Y,B⟩
   .cases B;exact .ok w g V Y rfl
   .exact .bad w g V Y B
  .cases H
 .rcases bind_some J with ⟨n,Z0,w,H⟩|⟨z,w,H⟩
  .obtain⟨fs,g,V,l,b⟩:=oJ (r':=n) H;cases l
  .cases H;exact .err w K
theorem oj{m:Ms}{n:Nat}{I:List A}{dvs:List V}(hd:∀G,bU (kx X) G dvs I)(R:X.mg cn=some (.ref C))(hn:∀Z rs O,ma Z=some (.ok rs,O)->rs.length+1+I.length=n)(Y:St)(H:Hp)(Q:VK)(h:kQ (kx X) E (aY m I (da (bK cn mn mo) ma)) Y H Q):
  vf C mn (je (kx X) n m) dvs E (kQ (kx X) E mo) (KJ (kx X) E ma) Y H Q:=by
 obtain⟨c,Z,B,θ,o,O,t,b,em,q⟩:=h;have P:∀{r:Rr}{F:List Sl}{fs:List (Str×A)}{v:V}{l:Hp},res F r=some (.obj cn fs)->fs.lookup mn=none->VR Y r v->Bd c Y l F (cM r v B) (cL r θ)->∃p dx vs,v=.ref p/\l p=some (.ins C dx vs)/\vs.lookup mn=none:=λg a i b1=>by
  obtain⟨L,p,u,dx,vs,bl,rfl,h2,h3,h4⟩:=Bd.Gm b1 i g;have D:X.mg cn=some (.ref u):=by have:=ZC (λk:Kx=>k.mg cn) t;simp only at this;rw[<-this];exact h3
  rw[R] at D;cases D;refine⟨p,dx,vs,rfl,h2,?_⟩;rcases h4.get mn with ⟨_,_,_,z,_⟩|⟨z,_⟩
  .rw[a] at z;cases z
  .exact z
 have fin:∀e,o=.error e->∀C H,X.mg e=some (.ref C)->Bd c Y H O B θ->E (.ref C) none H:=bV q;rcases bind_some em with ⟨rs,U,e1,e2⟩|⟨e,e1,e2⟩
 .cases sR e1 with
  |@ok r rs' F fs w g a j eq=>cases eq;refine⟨c,Z,B,θ,_,_,t,b,w,λv l i b1=>?_⟩;obtain⟨p,dx,vs,rfl,h2,hl⟩:=P g a i b1;refine⟨p,dx,vs,rfl,h2,hl,c,_,_,_,_,_,t,b1,j,λws d T b2=>?_⟩;refine kz (rs:=r::rs') (vs:=.ref p::ws) hd t ?_ ⟨i,T⟩ b2 e2 (λr S v H' i b=>by subst S;exact q v H' i b) (λx hx=>by subst hx;exact q);rw[SW,Q4,Rc,<-T.len,<-hn _ _ _ j,(hd λ_=>none).len];lia
  |err _ eq=>cases eq
  |bad _ _ _ _ eq=>cases eq
 .cases sR e1 with
  |ok _ _ _ _ eq=>cases eq
  |err w eq=>cases eq;exact⟨c,Z,B,θ,_,_,t,b,w,λC l hm b1=>fin _ e2 C l hm b1⟩
  |bad w g a j eq=>cases eq;refine⟨c,Z,B,θ,_,_,t,b,w,λv l i b1=>?_⟩;obtain⟨p,dx,vs,rfl,h2,hl⟩:=P g a i b1;exact⟨p,dx,vs,rfl,h2,hl,c,_,_,_,_,_,t,b1,j,λC d hm b2=>fin _ e2 C d hm b2.drop⟩
end
theorem iD{o:Expr}{m:Str}{apos:Pos}{args:List Expr}{env:Env}(H:XR o m env (eval o env)=eval o env)
  (B:Yu (args.length+([]:List X8).length) (XW pos (XM args env)) (Yb pos (X0 [] env))=true)(Y:(apos.endLine==pos.line)=true):
  eval (.Call (.Attribute o m apos) args [] pos) env=(do
   let ov <- eval o env
   YF apos.atName
   let (f,first) <- holding [ov] (YM ov m (do return (<- importBound o env).getD true))
   Zf pos f first (XW pos (XM args env)) (Yb pos (X0 [] env))):=by
 rw[arm_eval_Call,H];unfold methodCall calleeOf methodCallPos;rw[B,Y];rfl
variable{H:Hp}
section
variable{X:Cx}{E:XK}{CX:qG}{k n:Nat}{f C:Addr}{fd:X1}{ps:List Str}{m:Ms}{I:List A}{dvs:List V}{ds:List Value}{cn mn:Str}{apos pos:Pos}{o e:Expr}{es:List Expr}{mo:Mi Rr}{ma:Mi (List Rr)}
theorem D6(a:X.mg cn=some (.ref C))(hc:gN X.K C)(hm:Meth X.K C mn f)(F:dF X.prog X.w X.K X.mg X.base CX k f fd ps (je (kx X) n m))(R:cW k X.A)(d:Binds X.K fd ps ds)(hd:Vals dvs ds)(b:∀G,bU (kx X) G dvs I)(hx:Passes CX X E)
  (ho:JE X E o mo)(r:JA X E (e::es) ma)(hn:∀Z rs O,ma Z=some (.ok rs,O)->rs.length+1+I.length=n)(H:XR o mn X.env (eval o X.env)=eval o X.env)
  (B:Yu ((e::es).length+([]:List X8).length) (XW pos (XM (e::es) X.env)) (Yb pos (X0 [] X.env))=true)(Y:(apos.endLine==pos.line)=true)
  (c:XM (e::es) X.env=(false,eval e X.env)::XM es X.env)(T:(XW pos (XM es X.env)).any (·.1)=false):JE X E (.Call (.Attribute o mn apos) (e::es) [] pos) (aY m I (da (bK cn mn mo) ma)):=
 ⟨PE.weaken (vN ho.p hc hm F R d hd hx r.p c T (iD H B Y)) (oj b a hn)⟩
theorem kQ.mono{E:XK}{m:Mi Rr}{Y:St}{Q p:VK}(h:kQ K E m Y H Q)(f:∀v H,Q v H->p v H):kQ K E m Y H p:=by
 obtain⟨c,Z,B,θ,o,O,t,b,em,q⟩:=h;refine⟨c,Z,B,θ,o,O,t,b,em,?_⟩;cases o with
 |ok r=>exact λv H' A a=>f _ _ (q v H' A a)
 |error x=>exact q
theorem z7(R:X.mg cn=some (.ref C))(hc:gN X.K C)(hm:Meth X.K C mn f)(F:dF X.prog X.w X.K X.mg X.base CX k f fd ps (je (kx X) n m))(S:cW k X.A)(d:Binds X.K fd ps ds)(hd:Vals dvs ds)(U:∀G,bU (kx X) G dvs I)(hx:Passes CX X E)
  (ho:JE X E o mo)(hn:1+I.length=n)(x:XR o mn X.env (eval o X.env)=eval o X.env)(D:(apos.endLine==pos.line)=true):JE X E (.Call (.Attribute o mn apos) [] [] pos) (aY m I (da (bK cn mn mo) kY)):=
 ⟨PE.weaken (q9 ho.p hc hm F S d hd hx (iD x rfl D)) λY H Q h=>by
  have h1:=oj (X:=X) (E:=E) (C:=C) (n:=n) U R (ma:=kY) (λZ rs O q=>by cases q;rw[<-hn];simp) Y H Q h;refine kQ.mono h1 λv V ⟨a,dx,fs,g,i,l,j⟩=>⟨a,dx,fs,g,i,l,?_⟩
  obtain⟨c,Z,B,θ,o,O,t,b,em,q⟩:=j;cases em;exact q [] V trivial b⟩
def pd(cn:Str)(f:Ms)(I:List A)(ma:Mi (List Rr)):Mi Rr:=aV ma λrs Z=>match cy (rs++I.map Rr.fr) Z with
 |some (as,T)=>match f (.pv (.obj cn [])::as.map rB) with
  |some (.rt (.fr .non),.pv o2::Y)=>match putL Z (rs++I.map Rr.fr) (az as.length Y) T with
   |some O=>some (.ok (.nw o2),O)
   |none=>none
  |some (.ex x,s::Y)=>match putL Z (rs++I.map Rr.fr) (az as.length Y) T with
   |some O=>some (.error x,O)
   |none=>none
  |_=>none
 |none=>none
theorem xB(n:Nat)(s:Sl)(Z:List Sl):∃t,az (n+1) (s::Z)=t::az n Z:=by cases s<;>exact⟨_,rfl⟩
inductive Jt(cn:Str)(f:Ms)(rs':List Rr)(Z:List Sl)(o:Except Str Rr)(O:List Sl):Prop
 |ok{as T Y:List Sl}{o2:LO}(t:cy rs' Z=some (as,T))(e:f (.pv (.obj cn [])::as.map rB)=some (.rt (.fr .non),.pv o2::Y))(p:putL Z rs' (az as.length Y) T=some O)(q:o=.ok (.nw o2))
 |err{as T Y:List Sl}{s:Sl}{x:Str}(t:cy rs' Z=some (as,T))(e:f (.pv (.obj cn [])::as.map rB)=some (.ex x,s::Y))(p:putL Z rs' (az as.length Y) T=some O)(q:o=.error x)
theorem zN{f:Ms}{rs':List Rr}{o:Except Str Rr} (h:(match cy rs' Z with
 |some (as,T)=>match f (.pv (.obj cn [])::as.map rB) with
  |some (.rt (.fr .non),.pv o2::Y)=>match putL Z rs' (az as.length Y) T with
   |some O=>some (.ok (.nw o2),O)
   |none=>none
  |some (.ex x,s::Y)=>match putL Z rs' (az as.length Y) T with
   |some O=>some (.error x,O)
   |none=>none
  |_=>none
 | none=>none:Option (Except Str Rr×List Sl))=some (o,O)):Jt cn f rs' Z o O:=by
 split at h
 .rename_i as T t;split at h
  .rename_i o2 Y e;split at h
   .rename_i p;cases h;exact .ok t e p rfl
   .cases h
  .rename_i x s Y e;split at h
   .rename_i p;cases h;exact .err t e p rfl
   .cases h
  .cases h
 .cases h
theorem xG(D:∀G,bU (kx X) G dvs I)(hC:X.mg cn=some (.ref C))(hn:∀Z rs O,ma Z=some (.ok rs,O)->rs.length+1+I.length=n)(Y:St)(H:Hp)(Q:VK)(h:kQ (kx X) E (pd cn m I ma) Y H Q):
  Gg C (je (kx X) n m) dvs E (KJ (kx X) E ma) Y H Q:=by
 obtain⟨c,Z,B,θ,o,O,g,b,em,q⟩:=h;rcases bind_some em with ⟨rs,U,e1,em⟩|⟨e,e1,e2⟩
 .refine⟨c,Z,B,θ,_,U,g,b,e1,λvs l A b1 x dx hx j r=>?_⟩;have ld:I.length=dvs.length:=(D λ_=>none).len.symm;refine⟨by rw[Q4,Rc,<-A.len,<-hn _ _ _ e1,ld];lia,?_⟩;have i:lX Y (rs++I.map Rr.fr) (vs++dvs):=A.app (lX.lE ld);have w:c.mg cn=some (.ref C):=by have:=ZC (λk:Kx=>k.mg cn) g;simp only at this;rw[this];exact hC
  have kp:fg c.σ0 Y U:=by obtain⟨L,b⟩:=b1;exact b.kp
  have pre:∀{as T:List Sl},cy (rs++I.map Rr.fr) U=some (as,T)->(vs++dvs).length=as.length/\Bd c Y (upd (upd l dx (.own x)) x (.ins C dx [])) T ((V.ref x::(vs++dvs)).reverse.map some++B) ((Sl.lv (.obj cn [])::as).reverse++θ):=λ{as T} e2=>by obtain⟨b3,N⟩:=Bd.cy i (by rw[mf _ _ _ A.len,kr];exact Bd.tT (by rw[g];exact D) b1:Bd c Y l U (dr (rs++I.map Rr.fr) (vs++dvs) B) (dk (rs++I.map Rr.fr) θ)) e2;obtain⟨L,b5⟩:=b3.new (o:=.own x) j;have b6:=b5.kP (u:=.ins C dx []) (o:=.obj cn []) (by rw[ao r.symm];exact hx) λG H' sm q=>.obj q w .nil;have b7:=Bd.QD (ys:=(vs++dvs).reverse.map some) (ss:=as.reverse) (by simp only[QU,List.length_reverse];exact N) b6;exact⟨N,by simpa[QQ] using b7⟩
  cases zN em with
  |ok t K R eq=>obtain⟨N,s⟩:=pre t;obtain⟨y,S,J,f,d,k5⟩:=Bd.enter (by rw[Q4,Q4,N]) s;refine⟨y,_,_,_,S.trans g,J,f,d,K,λv H' hs P=>?_⟩;have rv:=Bd.top P (a:=.non) rfl;cases rv;refine⟨rfl,?_⟩;have p:=k5 H' _ _ _ (λs' F o z=>by rw[Rl.mp F] at z;exact hs o z) (cD _ _) P;rw[Q4,N] at p;rw[eq] at q;exact q (.ref x) H' trivial (Bd.uj (xs:=[some .non]) (ss:=[.fr .non]) rfl (Bd.putL kp i (by simpa[az,AN,QQ] using p) R))
  |err t K R eq=>obtain⟨N,s⟩:=pre t;obtain⟨y,S,J,f,d,k5⟩:=Bd.enter (by rw[Q4,Q4,N]) s;refine⟨y,_,_,_,S.trans g,J,f,d,K,λC' H' hm P=>?_⟩;have p:=k5 H' _ _ _ (λs' F=>by cases F) (cD _ _) P;rw[Q4,N] at p;obtain⟨t,ht⟩:=xB _ _ _;rw[ht] at p;rw[eq] at q;exact q C' H' hm (Bd.putL kp i (by simpa[QQ] using p) R).pop
 .subst e2;exact⟨c,Z,B,θ,_,O,g,b,e1,λC l hm b1=>q C l hm b1⟩
theorem DT{x:Str}{p:Pos}(L:Mk X.K C f)(F:dF X.prog X.w X.K X.mg X.base CX k f fd ps (je (kx X) n m))(R:cW (k+1) X.A)(J:Gl X x)(a:X.mg x=some (.ref C))(d:Binds X.K fd ps ds)(hd:Vals dvs ds)(b:∀G,bU (kx X) G dvs I)(hx:Passes CX X E)
  (c:JA X E (e::es) ma)(hn:∀Z rs O,ma Z=some (.ok rs,O)->rs.length+1+I.length=n)(H:fC x)(he:XM (e::es) X.env=(false,eval e X.env)::XM es X.env)(T:(XW pos (XM es X.env)).any (·.1)=false):
  JE X E (.Call (.Name x p) (e::es) [] pos) (pd x m I ma):=
 ⟨PE.weaken (DF L F R J a d hd hx c.p H he T) (xG b a hn)⟩
noncomputable def aQ(m n:Mi Rr):Mi Rr:=λZ=>match m Z with
 |some x=>some x
 |none=>n Z
theorem qf{m n:Mi Rr}(h:JE X E e m)(h':JE X E e n):JE X E e (aQ m n):=⟨λpins s Y H Q I t=>by
 obtain⟨c,Z,B,θ,o,O,v,b,em,q⟩:=t;unfold aQ at em;cases e1:m Z with
 |some x=>simp only[e1] at em;cases em;exact h.p pins s Y H Q I ⟨c,Z,B,θ,o,O,v,b,e1,q⟩
 | none=>simp only[e1] at em;exact h'.p pins s Y H Q I ⟨c,Z,B,θ,o,O,v,b,em,q⟩⟩
end
noncomputable def gX:List A->Option (List Bool)
 |[]=>some []
 | .bl b::r=>match gX r with
  |some bs=>some (b::bs)
  |none=>none
 |_=>none
theorem oI:∀{xs:List A}{bs:List Bool},gX xs=some bs->xs=bs.map A.bl
 |[],bs,h=>by cases h;rfl
 |a::r,bs,h=>by
  cases a<;>first|(cases h;done)|skip
  unfold gX at h;cases e:gX r with
  |none=>simp only[e] at h;cases h
  |some cs=>simp only[e] at h;cases h;rw[oI e];rfl
def kS(g:List Bool->Bool):A->Option Rr
 | .lst xs=>match gX xs with
  |some bs=>some (.fr (.bl (g bs)))
  |none=>none
 |_=>none
theorem sS{K:Kx}{G:Hp}:∀{bs:List Bool}{vs:List V},bU K G vs (bs.map A.bl)->vs=bs.map V.bl
 |[],vs,h=>by cases h;rfl
 |b::bs,vs,h=>by
  cases h with
  |cons h1 h2=>cases h1;rw[sS h2];rfl
theorem Hl{g:List Bool->Bool}:sY K (λv=>Ng K.K g [v]) (kS g):=.scalar λH v a q E h=>by
 cases a<;>first|(cases h;done)|skip
 rename_i xs;unfold kS at h;simp only at h;cases e:gX xs with
 |none=>simp only[e] at h;cases h
 |some bs=>
  simp only[e] at h;cases h;have:=oI e;subst this;cases E with
  |lst I n=>exact⟨_,_,rfl,λ_=>.bl _,λQ k=>⟨_,_,bs,rfl,I,sS n,k⟩⟩
section
variable{X:Cx}{E:XK}{a b:Expr}{ma mb:Mi Rr}{pos:Pos}
theorem AS:XQ "any" = some (.builtin "any"):=by decide +kernel
end
def Lq(G G':Hp):Prop:=∀a u,G a=some u->(∀ws,u≠.lst ws)->G' a=some u
section
variable{k:Kx}{G G' H:Hp}(s:Lq G G')
theorem ax.pick:∀{Y:St}{Z:List Sl}{L:List Addr}{j:Nat}{t:Sl},ax k G H Y Z L->Z[j]?=some t->∃x A B L2,Y[j]?=some x/\L=A++(B++L2)/\fE k G H x t B /\
  ∀{G':Hp}{t':Sl}{L':List Addr},(∀{x:Option V}{t:Sl}{L:List Addr},t∈Z->fE k G H x t L->fE k G' H x t L)->fE k G' H x t' L'->ax k G' H Y (Z.set j t') (A++(L'++L2))
 |_,_,_,j,t,.nil,e=>by simp at e
 |x::Y,u::Z,_,0,t,.cons (L:=La) (L':=Lb) h r,e=>by
  cases e;refine⟨x,[],La,Lb,rfl,rfl,h,λ{G2 D b} f h'=>?_⟩;rw[Tz];have:∀{Y:St}{O:List Sl}{L:List Addr},(∀t∈O,t∈u::Z)->ax k G H Y O L->ax k G2 H Y O L:=by
   intro Y O L hm r;induction r with
   |nil=>exact .nil
   |cons h r X=>exact .cons (f (hm _ Q5) h) (X λt l=>hm t (QW _ l))
  exact .cons h' (this (λt l=>QW _ l) r)
 |x::Y,u::Z,_,j+1,t,.cons (L:=La) (L':=Lb) h r,e=>by obtain⟨y,A,B,L2,h1,h2,h3,h4⟩:=ax.pick r (j:=j) (by simpa using e);refine⟨y,La++A,B,L2,by simpa using h1,by rw[h2,QQ],h3,λf h'=>?_⟩;have:=h4 (λm=>f (QW _ m)) h';rw[QQ];exact .cons (f Q5 h) this
end
noncomputable def Ag:Option Sl->Bool
 |some .un=>true
 |_=>false
theorem uS{o:Option Sl}(h:Ag o=true):o=some .un:=by
 cases o with
 |none=>cases h
 |some s=>cases s<;>first|rfl|cases h
theorem gR:∀{n j:Nat}{Z:List Sl}{o:LO},az n ((az n Z).set j (.pv o))=(az n Z).set j (.pv o)
 |0,_,_,_=>rfl
 |n+1,0,Z,o=>by
  have:∀Z:List Sl,az n (az n Z)=az n Z:=λZ=>backL_idem n Z;cases Z with
  |nil=>show az (n+1) (.pv o::az n [])=.pv o::az n [];rw[az,this]
  |cons s Z=>cases s<;>(show az (n+1) (.pv o::az n Z)=.pv o::az n Z;rw[az,this])
 |n+1,j+1,Z,o=>by
  cases Z with
  |nil=>show az (n+1) (.un::(az n []).set j (.pv o))=.un::(az n []).set j (.pv o);rw[az,gR];intro o z;cases z
  |cons s Z=>cases s<;>first
   |(show az (n+1) (.un::(az n Z).set j (.pv o))=.un::(az n Z).set j (.pv o);rw[az,gR];intro o z;cases z)
   |(show az (n+1) (.pv _::(az n Z).set j (.pv o))=.pv _::(az n Z).set j (.pv o);rw[az,gR])
where backL_idem:∀(n:Nat)(Z:List Sl),az n (az n Z)=az n Z
 |0,_=>rfl
 |n+1,[]=>by show az (n+1) (.un::az n [])=.un::az n [];rw[az,backL_idem];intro o z;cases z
 |n+1,s::Z=>by cases s<;>first
   |(show az (n+1) (.un::az n Z)=.un::az n Z;rw[az,backL_idem];intro o z;cases z)
   |(show az (n+1) (.pv _::az n Z)=.pv _::az n Z;rw[az,backL_idem])
section
variable{X:Cx}{E:XK}
theorem bU.erase{K:Kx}{G:Hp}:∀{vs:List V}{as:List A}(j:Nat),bU K G vs as->bU K G (vs.eraseIdx j) (as.eraseIdx j)
 |_,_,_,.nil=>.nil
 |_,_,0,.cons h r=>r
 |_,_,j+1,.cons h r=>.cons h (r.erase j)
end
end M
namespace L2
open PySem PySem.Spec PyProof.Rows PySem.W
def LA(K:QN):List V->Hp->VK->Prop:=λxs H Q=>∃(p:Addr)(ys:List V)(ns:List Int),xs=[.ref p]/\dj K H p ys/\ys=ns.map V.int/\Q (.int ns.sum) H
theorem preSum_eq(ns:List Int):∀n,n<=ns.length->preSum (λi=>ns.getD i 0) n=(ns.take n).sum
 |0,_=>by rw[List.take_zero];rfl
 |n+1,h=>by rw[preSum,preSum_eq ns n Q1,Td,List.sum_append,So,Rg Q1];simp
theorem Bh{X:Cx}(hc:X.calm=true):cZ X (.builtin "sum") (LA X.K):=by
 intro pins s Y H xs us Q I r h;obtain⟨p,ys,ns,rfl,l,rfl,q⟩:=h;obtain⟨u,rfl,S⟩:=vals1 r;cases S;obtain⟨j,r',pl,hz⟩:=I.list l;have n:=r'.length;refine call_sum_walkG (Yj pl.isList ?_);refine⟨s.heap.objs.size,_,_,_,_,_,(λi=>ns.getD i 0),rfl,U9 (A:=X.A.in1) (I.ok.hd hc) _ p (by obtain⟨o,ho,_⟩:=pl.isList;exact Rw (Q7 ho)) j.toArray,⟨⟨_,Rf _ rfl,rfl,rfl⟩,pl.isList.at λo e=>Q3 _ e⟩,?_,λi v m=>?_,λh' tk t' hk=>?_⟩
 .intro b d;simp only[QV,Ru,or_false] at d;rcases d with rfl|rfl
  .show _<(s.heap.push _).objs.size;rw[R6];exact Sn _
  .obtain⟨o,ho,_⟩:=pl.isList;show _<(s.heap.push _).objs.size;rw[R6];exact T3 (Q7 ho)
 .have c:j[i]?=some v:=by simpa using m
  cases O:ns[i]? with
  |none=>have h1:=SX.mp O;have h2:=(QP.mp c).1;rw[QU] at n;lia
  |some b=>obtain⟨u,g,F⟩:=r'.get (i:=i) (x:=.int b) (by rw[Rm,O];rfl);rw [c] at g;cases g;obtain ⟨t,rfl⟩:=F;exact ⟨t,by show TF b t = TF (ns.getD i 0) t; rw [So,O]; rfl⟩
 .have e1:j.toArray.size=ns.length:=by simp at n ⊢;lia
  rw[e1,preSum_eq ns ns.length (QY _),Wg];exact⟨.int _,H,I.kept (t':=tk) λb o e=>hk b o (λz=>by have:=Rl.mp z;subst this;exact absurd (Q7 e) (Ri _)) (Q3 _ e),⟨t',rfl⟩,q⟩
end L2
namespace M
open PySem L2
noncomputable def kU:List A->Option (List Int)
 |[]=>some []
 | .int b::r=>match kU r with
  |some bs=>some (b::bs)
  |none=>none
 |_=>none
theorem qJ:∀{xs:List A}{bs:List Int},kU xs=some bs->xs=bs.map A.int
 |[],bs,h=>by cases h;rfl
 |a::r,bs,h=>by
  cases a<;>first|(cases h;done)|skip
  unfold kU at h;cases e:kU r with
  |none=>simp only[e] at h;cases h
  |some cs=>simp only[e] at h;cases h;rw[qJ e];rfl
theorem sj:∀ns:List Int,kU (ns.map A.int)=some ns
 |[]=>rfl
 |n::ns=>by rw[RC,kU,sj ns]
def yT:A->Option Rr
 | .lst xs=>match kU xs with
  |some bs=>some (.fr (.int bs.sum))
  |none=>none
 |_=>none
theorem uU{K:Kx}{G:Hp}:∀{bs:List Int}{vs:List V},bU K G vs (bs.map A.int)->vs=bs.map V.int
 |[],vs,h=>by cases h;rfl
 |b::bs,vs,h=>by
  cases h with
  |cons h1 h2=>cases h1;rw[uU h2];rfl
theorem J8{K:Kx}:sY K (λv=>LA K.K [v]) yT:=.scalar λH v a q g h=>by
 cases a<;>first|(cases h;done)|skip
 rename_i xs;unfold yT at h;simp only at h;cases e:kU xs with
 |none=>simp only[e] at h;cases h
 |some bs=>
  simp only[e] at h;cases h;have:=qJ e;subst this;cases g with
  |lst I n=>exact⟨_,_,rfl,λ_=>.int _,λQ k=>⟨_,_,bs,rfl,I,uU n,k⟩⟩
theorem J2:XQ "sum" = some (.builtin "sum"):=by decide +kernel
end M
set_option maxHeartbeats 4000000
namespace L2
open PySem PySem.Spec PyProof.Rows PySem.W
structure BS(h:Heap)(z TI TO i j l m:Addr)(k:Nat):Prop where
 hz:Y8 h z TI TO .none
 hi:YC h TI (.ref i) (.ref j)
 ho:∃a b,YC h TO a b
 h1:h.IsListIter i l k
 h2:h.IsListIter j m k
def Ma(K:QN)(a b:Addr):It:=
  ⟨λi H=>∃xs ys x y,dj K H a xs/\dj K H b ys/\xs[i]?=some x/\ys[i]?=some y,
   λi H v H'=>∃t x y,v=.ref t/\H t=none/\H'=upd H t (.tup [x,y])/\∀xs ys,dj K H a xs->dj K H b ys->xs[i]?=some x/\ys[i]?=some y,
   λi H=>∃xs ys,dj K H a xs/\dj K H b ys/\(xs[i]?=none\/ys[i]?=none)⟩
theorem wO{P:Program}{w:XX}{K:QN}{es:List Expr}{kk:Nat}{tp:Pos}{z TI TO i j a b:Addr}(D:Zw z TI TO i j a b):
  Turn P w K (.Tuple es kk tp) (Ma K a b) [z,TI,TO,i,j] z (λn h=>BS h z TI TO i j a b n) where
 mem:=by simp
 obj:=λn h Z c hc=>by
  obtain⟨hz,hi,⟨u,v,ho⟩,⟨U,e1,_,d1⟩,⟨o2,e2,_,d2⟩⟩:=Z;simp only[QV,Ru,or_false] at hc;rcases hc with rfl|rfl|rfl|rfl|rfl
  .exact⟨_,hz,λv q=>by cases q⟩
  .exact⟨_,hi,λv q=>by cases q⟩
  .exact⟨_,ho,λv q=>by cases q⟩
  .exact⟨_,e1,λv q=>by rw[d1] at q;cases q⟩
  .exact⟨_,e2,λv q=>by rw[d2] at q;cases q⟩
 keep:=λn h h' Z k=>by obtain⟨hz,hi,⟨u,v,ho⟩,⟨U,e1,g⟩,⟨o2,e2,l⟩⟩:=Z;exact⟨k _ Z4 _ hz,k _ Z4 _ hi,⟨u,v,k _ Z4 _ ho⟩,⟨U,k _ Z4 _ e1,g⟩,⟨o2,k _ Z4 _ e2,l⟩⟩
 item:=by
  intro X A f t hc n pins s Y H E I hf Z V;subst A f t;obtain⟨xs,ys,x,y,L,N,hx,hy⟩:=V;obtain⟨its,rv,p,_⟩:=I.list L;obtain⟨jts,Q,p',_⟩:=I.list N;obtain⟨u,hu,ru⟩:=rv.get hx;obtain⟨v,hv,rv'⟩:=Q.get hy;obtain⟨uo,vo,F⟩:=Z.ho;refine wpAny_pyNext_zip_item D Z.hz Z.hi F Z.h1 Z.h2 p.isList p'.isList (x:=u) (y:=v) (by simpa using hu) (by simpa using hv) λh' z1 z2 z3 z4 z5 z6 keep=>?_;refine⟨_,rfl,YD (s:={ s with heap:=h' }) z1 λh2 hz2 sb=>?_⟩;have ch:∀c∈[z,TO,i,j],c∈[z,TI,TO,i,j]:=λc hc=>by simp only[QV,Ru,or_false] at hc ⊢;rcases hc with e|e|e|e<;>simp[e]
  have O:∀c o,c∉[z,TO,i,j]->s.heap.get? c=some o->h2.get? c=some o:=λc o hc e=>by simp only[QV,Ru,or_false,not_or] at hc;exact sb.extBut c o hc.1 (keep c o hc.1 hc.2.1 hc.2.2.1 hc.2.2.2 e)
  have G:∀c o,s.heap.get? c=some o->c≠s.heap.objs.size:=λc o e=>Rw (Q7 e);have C:∀c o,H c=some o->c∉[z,TO,i,j]:=λc o e hc=>by have:=(hf c (ch c hc)).1;rw[e] at this;cases this
  have hn:H s.heap.objs.size=none:=I.fresh;have nzT:s.heap.objs.size≠z:=(G _ _ Z.hz).symm;have I2:Inv X pins Y (upd H s.heap.objs.size (.tup [x,y])) { s with heap:=h2,gens:=s.gens,drawn:=s.drawn,toks:=s.toks }:=by
   refine I.step (ch:=[z,TO,i,j]) (λc hc=>?_) (λc o _ _ hc e _=>O c o hc e) (λc o _ _ hc e _=>⟨o.slots,O c o hc e⟩) (λc o _ e q=>by rw[ao (G c o e)];exact q) (λc o hc e=>⟨o,O c o hc e⟩)
    (λc q e=>by rw[ao (aD e hn)];exact e) (λc o q e=>by rw[ao (aD e hn)];exact e) (λc q e=>⟨#[],by rw[ao (aD e hn),e];simp⟩) (λm hm=>?_) (λc o e=>?_) I.bare
   .obtain⟨f0,f1,f2,f3,f4,f5⟩:=hf c (ch c hc);exact⟨f3,f1,f4,f5⟩
   .obtain⟨o,T,S,ho,r⟩:=hm;exact⟨o,T,S,O _ o (λhc=>(hf _ (ch _ hc)).2.1 rfl) ho,r⟩
   .by_cases hc:c=s.heap.objs.size
    .subst hc;rw[aJ] at e;cases e;refine⟨(show 2<=sizeLine by decide),[u,v],.cons ru (.cons rv' .nil),?_⟩;exact⟨_,sb.extBut _ _ nzT z5,rfl,_,rfl,rfl⟩
    .rw[ao hc] at e;refine(I.hok c o e).iM (λd w hd q=>O d w ?_ q) (λd q=>by rw[ao (aD q hn)];exact q) λd q r=>by rw[ao (aD r hn)];exact r
     rcases hd with rfl|hd
     .exact C _ _ e
     .exact C _ _ hd
  have B:∀c o,c≠z->h'.get? c=some o->h2.get? c=some o:=λc o hc e=>sb.extBut c o hc e;have R:YC h' TI (.ref i) (.ref j):=keep _ _ D.TIz D.TITO D.TIi1 D.TIi2 Z.hi;obtain⟨U,e1,g⟩:=z3;obtain⟨o2,e2,l⟩:=z4;refine⟨.ref s.heap.objs.size,_,I2,rfl,⟨s.heap.objs.size,x,y,rfl,hn,rfl,λxs' ys' T S=>?_⟩,⟨hz2,B _ _ D.TIz R,⟨_,_,B _ _ D.TOz z2⟩,⟨U,B _ _ D.i1z e1,g⟩,⟨o2,B _ _ D.i2z e2,l⟩⟩,λc hc=>?_⟩
  .rw[I.gi T L,I.gi S N];exact⟨hx,hy⟩
  .rw[ao]
   .exact(hf c hc).1
   .rintro rfl;obtain⟨hz,hi,⟨u,v,ho⟩,⟨U,e1,_⟩,⟨o2,e2,_⟩⟩:=Z;simp only[QV,Ru,or_false] at hc;rcases hc with q|q|q|q|q
    .rw[<-q] at hz;exact G _ _ hz rfl
    .rw[<-q] at hi;exact G _ _ hi rfl
    .rw[<-q] at ho;exact G _ _ ho rfl
    .rw[<-q] at e1;exact G _ _ e1 rfl
    .rw[<-q] at e2;exact G _ _ e2 rfl
 done:=by
  intro X A f t hc n pins s Y H E I hf Z V;subst A f t;obtain⟨xs,ys,L,N,J⟩:=V;obtain⟨its,rv,p,_⟩:=I.list L;obtain⟨jts,Q,p',_⟩:=I.list N;obtain⟨uo,vo,F⟩:=Z.ho;have ch:∀c∈[z,TO,i,j],c∈[z,TI,TO,i,j]:=λc hc=>by simp only[QV,Ru,or_false] at hc ⊢;rcases hc with e|e|e|e<;>simp[e]
  refine wpAny_pyNext_zip_end (I.ok.hd hc) D Z.hz Z.hi F Z.h1 Z.h2 p.isList p'.isList (J.imp (λq=>by simpa using rv.none_of q) (λq=>by simpa using Q.none_of q)) λh' keep=>⟨rfl,?_⟩
  have O:∀c o,c∉[z,TO,i,j]->s.heap.get? c=some o->h'.get? c=some o:=λc o hc e=>by simp only[QV,Ru,or_false,not_or] at hc;exact keep c o hc.1 hc.2.1 hc.2.2.1 hc.2.2.2 e
  have C:∀c o,H c=some o->c∉[z,TO,i,j]:=λc o e hc=>by have:=(hf c (ch c hc)).1;rw[e] at this;cases this
  refine I.step (g':=s.gens) (d':=s.drawn) (t':=s.toks) (ch:=[z,TO,i,j]) (λc hc=>?_) (λc o _ _ hc e _=>O c o hc e) (λc o _ _ hc e _=>⟨o.slots,O c o hc e⟩) (λc o _ e q=>q) (λc o hc e=>⟨o,O c o hc e⟩)
   (λc q e=>e) (λc o q e=>e) (λc q e=>⟨#[],by rw[e];simp⟩) (λm hm=>?_) (λc o e=>?_) I.bare
  .obtain⟨f0,f1,f2,f3,f4,f5⟩:=hf c (ch c hc);exact⟨f3,f1,f4,f5⟩
  .obtain⟨o,T,S,ho,r⟩:=hm;exact⟨o,T,S,O _ o (λhc=>(hf _ (ch _ hc)).2.1 rfl) ho,r⟩
  .refine(I.hok c o e).iM (λd w hd q=>O d w ?_ q) (λd q=>q) λd q r=>r;rcases hd with rfl|hd
   .exact C _ _ e
   .exact C _ _ hd
 self:=λ_ _ _ _ _ Z q=>YO Z.hz q
end L2
set_option maxHeartbeats 1000000
set_option maxHeartbeats 4000000
set_option maxHeartbeats 1000000
set_option maxHeartbeats 4000000
namespace L2
open PySem PySem.Spec PyProof.Rows PySem.W
section
variable{prog:Program}{w:XX}{A:XZ}{E:Value->Shared->Prop}{s:Shared}
theorem set_same{a:Addr}{h h':Heap}{S:Key->Bool}{n:Nat}(x:h.SetOf (iI prog w) a S n)(e:∀o,h.get? a=some o->h'.get? a=some o):h'.SetOf (iI prog w) a S n:=let ⟨o,es,ep,t,ho,r⟩:=x;⟨o,es,ep,t,e _ ho,r⟩
end
end L2
set_option maxHeartbeats 1000000
set_option maxHeartbeats 4000000
set_option maxHeartbeats 1000000
namespace M
open PySem L2
section
variable{X:Cx}{E:XK}
open PySem.Spec PyProof.Rows PySem.W in
end
open PySem.W (KasT kas_asc kas_desc kas_rev kas_tail3 kas_descPart kas_count kas_place kas_bin kas_sort)
open PyProof.Rows (mirror_perm bubble_perm bubble)
section
variable{X:Cx}{E:XK}
open PySem.Spec PyProof.Rows PySem.W in
end
section
open PySem PyProof.Rows PySem.W
variable{f:Nat->Nat->Bool}{n:Nat}{r:Nat->Nat}
noncomputable def Ra(r:Nat->Nat)(p:Array Nat)(i:Nat):Nat:=r (p.getD i 0)
end
section
variable{X:Cx}{E:XK}{pins:List (Addr×Obj)}{Y:St}{H:Hp}{s:Shared}{a b:Addr}
open PySem.Spec PyProof.Rows PySem.W in
end
noncomputable def eD:List A->Option (List Int)
 |[]=>some []
 | .int i::r=>match eD r with
  |some is=>some (i::is)
  |none=>none
 |_::_=>none
theorem j7{K:Kx}{G:Hp}:∀{as:List A}{vs:List V}{is:List Int},bU K G vs as->eD as=some is->vs=is.map V.int
 |[],_,_,.nil,h=>by cases h;rfl
 |a::as,_,_,.cons q r,h=>by
  cases a<;>first|(cases h;done)|skip
  unfold eD at h;cases e:eD as with
  |none=>simp only[e] at h;cases h
  |some Y=>simp only[e] at h;cases h;cases q;rw[j7 r e];rfl
noncomputable def rX(ns:List Int):Int:=ns.getD (argBest (λi j=>decide (ns.getD i 0<ns.getD j 0)) (ns.length-1)) 0
noncomputable def tw:List Int->Int->Option Nat
 |[],_=>none
 |a::r,i=>if a=i then some 0 else (tw r i).map (·+1)
theorem jb:∀{ns:List Int}{us:List Value},Vals (ns.map V.int) us->∃xs:List (Int×Tok),us.toArray=Yo xs.toArray/\xs.map (·.1)=ns
 |[],_,.nil=>⟨[],by simp[Yo],rfl⟩
 |n::ns,_,.cons h r=>by obtain⟨t,rfl⟩:=h;obtain⟨xs,h1,h2⟩:=jb r;refine⟨(n,t)::xs,?_,by rw[RC,h2]⟩;have h1:_=_:=ZC Vu h1;apply Wb.mp;simp[Yo] at h1 ⊢;exact h1
section
variable{X:Cx}{E:XK}
open PySem.Builtin PyProof.Rows PySem.W in
end
section
variable{X:Cx}{E:XK}{pins:List (Addr×Obj)}{Y:St}{H:Hp}{s:Shared}
open Classical in
variable{a b:Expr}{ma mb:Mi Rr}{pos:Pos}
end
section
open PySem PyProof.Rows PySem.W
open SetTable in
noncomputable def aw(m:Nat)(p:Probe):Probe:=if p.more > 0 then { p with j:=p.j+1,more:=p.more-1 } else { p with j:=(leap m p.i p.perturb).1,more:=runEnd m (leap m p.i p.perturb).1-(leap m p.i p.perturb).1,i:=(leap m p.i p.perturb).1,perturb:=(leap m p.i p.perturb).2 }
open SetTable in
open SetTable in
def sp(m:Nat)(h:Int):Nat->Probe
 |0=>{ j:=bits h%(m+1),more:=runEnd m (bits h%(m+1))-bits h%(m+1),i:=bits h%(m+1),perturb:=bits h,dummy:=none }
 |n+1=>aw m (sp m h n)
open SetTable in
def nl(m:Nat)(h:Int)(N:Nat):Nat:=N+(sp m h N).more+1
end
theorem jf{α:Type}{f:Str}:∀{vs ws:List (Str×α)}{u:α},vs.lookup f=some u->(vs++ws).lookup f=some u
 |[],_,_,h=>nomatch h
 |(y,v)::vs,ws,u,h=>by
  rw[Q6] at h;rw[SW,Q6];split at h
  .exact h
  .exact jf h
theorem kW{α:Type}{f:Str}:∀{vs ws:List (Str×α)},vs.lookup f=none->ws.lookup f=none->(vs++ws).lookup f=none
 |[],_,_,h=>h
 |(y,v)::vs,ws,h,h'=>by
  rw[Q6] at h;rw[SW,Q6];split at h
  .cases h
  .exact kW h h'
theorem kL{α:Type}{f:Str}:∀{vs ws:List (Str×α)}{u:α},vs.lookup f=none->ws.lookup f=some u->(vs++ws).lookup f=some u
 |[],_,_,_,h=>h
 |(y,v)::vs,ws,u,h,h'=>by
  rw[Q6] at h;rw[SW,Q6];split at h
  .cases h
  .exact kL h h'
theorem eX.none{k:Kx}{G H:Hp}{f:Str}:∀{ws:List (Str×V)}{ls:List (Str×List A)}{q:List Addr},eX k G H ws ls q->ls.lookup f=none->ws.lookup f=none
 |_,_,_,.nil,_=>rfl
 |_,_,_,.cons (y:=y) e r t,h=>by
  rw[Q6] at h ⊢;split at h
  .cases h
  .exact eX.none t h
theorem eX.get{k:Kx}{G H:Hp}{f:Str}{xs:List A}:∀{ws:List (Str×V)}{ls:List (Str×List A)}{q:List Addr},eX k G H ws ls q->ls.lookup f=some xs->∃a us,ws.lookup f=some (.ref a)/\a∈q/\H a=some (.lst us)/\bU k G us xs
 |_,_,_,.nil,h=>nomatch h
 |_,_,_,.cons (y:=y) (a:=a) (us:=us) e r t,h=>by
  rw[Q6] at h;rw[Q6];split at h
  .cases h;exact⟨a,us,rfl,Q5,e,r⟩
  .obtain⟨a,us,h1,h2,h3,h4⟩:=eX.get t h;exact⟨a,us,h1,QW _ h2,h3,h4⟩
noncomputable def iJ(f:Str)(xs:List A):List (Str×List A)->List (Str×List A)
 |[]=>[]
 |(y,zs)::r=>if f==y then (y,xs)::r else (y,zs)::iJ f xs r
theorem eX.put{k:Kx}{G H H':Hp}{f:Str}{xs Y:List A}{a:Addr}{Z:List V}:∀{ws:List (Str×V)}{ls:List (Str×List A)}{q:List Addr},eX k G H ws ls q->q.Nodup->ls.lookup f=some xs->ws.lookup f=some (.ref a)->H' a=some (.lst Z)->(∀b∈q,b≠a->H' b=H b)->bU k G Z Y->eX k G H' ws (iJ f Y ls) q
 |_,_,_,.nil,_,h,_,_,_,_=>nomatch h
 |_,_,_,.cons (y:=y) (a:=b) e r t,nd,h,h2,h3,sm,ra=>by
  rw[Q6] at h h2;unfold iJ;have nd:=Rn.mp nd;cases hc:f==y with
  |true=>rw[hc] at h2;cases h2;rw[Zx rfl];exact .cons h3 ra (t.sm (Sq.refl _) λc hc u e=>by rw[sm c (QW _ hc) λz=>nd.1 (z▸hc)];exact e)
  |false=>rw[hc] at h h2;rw[Zy Z2];obtain⟨a',us,g,i,-,-⟩:=eX.get t h;have h2:_=some (V.ref a):=h2;rw[g] at h2;cases h2;refine .cons ?_ r (eX.put t nd.2 h g h3 (λc hc=>sm c (QW _ hc)) ra);rw[sm b Q5 λz=>nd.1 (z▸i)];exact e
variable{i:Nat}{f cn:Str}{Z:List Sl}
section
variable{X:Cx}{E:XK}
def aN(cs:List Str)(i:Nat)(f:Str):Mi Rr:=λZ=>match aE Z i with
 | some (.nob c fs _)=>if cs.contains c then (match fs.lookup f with
  |some a=>some (.ok (.fr a),Z)
  | none=>none) else none
 |_=>none
theorem Br{x:Str}{cs:List Str}{D pos:Pos}(hN:X.N[i]?=some x)(A:ku X.env.scope x)(hd:fC x)(T:lA x)(hc:∀c C,cs.contains c=true->X.mg c=some (.ref C)->gN X.K C/\bY X.K C f)
  (d:XR (.Name x D) f X.env (eval (.Name x D) X.env)=eval (.Name x D) X.env):JE X E (.Attribute (.Name x D) f pos) (aN cs i f):=
 ⟨PE.weaken (fm (bS hN A hd T) d) λY H Q h=>by
  obtain⟨c,Z,B,θ,o,O,t,b,em,q⟩:=h;unfold aN at em;cases R:aE Z i with
  |none=>simp only[R] at em;cases em
  |some lo=>
   cases lo with
   |lst _=>simp only[R] at em;cases em
   |dic _=>simp only[R] at em;cases em
   |obj _ _=>simp only[R] at em;cases em
   |dit _=>simp only[R] at em;cases em
   |nob cn fs ls=>
    simp only[R] at em;split at em
    .rename_i F;cases e2:fs.lookup f with
     |none=>simp only[e2] at em;cases em
     |some a=>
      simp only[e2] at em;cases em;obtain⟨L,bl⟩:=b;obtain⟨p,_,h1,h2,v⟩:=bl.live R (.nob cn fs ls) (.lst []);clear v;cases h2 with
      |nob e m r l=>
       rename_i C dx vs ws;have J:X.mg cn=some (.ref C):=by have:=ZC (λk:Kx=>k.mg cn) t;simp only at this;rw[<-this];exact m
       obtain⟨P,U⟩:=hc cn C F J;rcases r.get f with ⟨u,a',g,V,G⟩|⟨_,V⟩
       .rw[e2] at V;cases V;exact⟨_,h1,p,C,dx,vs++ws,u,rfl,e,P,U,jf g,q u H trivial (bl.push G)⟩
       .rw[e2] at V;cases V
    .cases em⟩
def aR(cn m:Str)(i:Nat):Mi Rr:=λZ=>match aE Z i with
 |some (.nob c fs ls)=>if c==cn&&(fs.lookup m).isNone&&(ls.lookup m).isNone then some (.ok (.rf i),Z) else none
 |_=>none
theorem jh{m:Str}{O:List Sl}{o:Except Str Rr}(h:aR cn m i Z=some (o,O)):∃fs ls,aE Z i=some (.nob cn fs ls)/\fs.lookup m=none/\ls.lookup m=none/\o=.ok (.rf i)/\O=Z:=by
 unfold aR at h;split at h
 .rename_i c fs ls e;split at h
  .rename_i hc;rw[QM,QM,ZD,RM,RM] at hc;cases h;exact⟨fs,ls,by rw[e,hc.1.1],hc.1.2,hc.2,rfl,rfl⟩
  .cases h
 .cases h
theorem mY{m:Ms}{n:Nat}{mn:Str}{C:Addr}{I:List A}{dvs:List V}(hd:∀G,bU (kx X) G dvs I){ma:Mi (List Rr)}(f:X.mg cn=some (.ref C))(hn:∀Z rs O,ma Z=some (.ok rs,O)->rs.length+1+I.length=n)(Y:St)(H:Hp)(Q:VK)(h:kQ (kx X) E (aY m I (da (aR cn mn i) ma)) Y H Q):
  vf C mn (je (kx X) n m) dvs E (lT i) (KJ (kx X) E ma) Y H Q:=by
 obtain⟨c,Z,B,θ,o,O,t,b,em,q⟩:=h;have S:∀{fs:List (Str×A)}{ls:List (Str×List A)},aE Z i=some (.nob cn fs ls)->fs.lookup mn=none->ls.lookup mn=none->∃p dx vs,Y[i]?=some (some (.ref p))/\H p=some (.ins C dx vs)/\vs.lookup mn=none:=λg w D=>by
  obtain⟨L,bl⟩:=b;obtain⟨p,_,h1,h2,a⟩:=bl.live g (.lst []) (.lst []);clear a;cases h2 with
  |nob e mm r l=>
   rename_i C' dx vs ws;have P:X.mg cn=some (.ref C'):=by have:=ZC (λk:Kx=>k.mg cn) t;simp only at this;rw[<-this];exact mm
   rw[f] at P;cases P;refine⟨p,dx,vs++ws,h1,e,kW ?_ (l.none D)⟩;rcases r.get mn with ⟨_,_,_,z,_⟩|⟨z,_⟩
   .rw[w] at z;cases z
   .exact z
 have fin:∀e,o=.error e->∀C H,X.mg e=some (.ref C)->Bd c Y H O B θ->E (.ref C) none H:=bV q;rcases bind_some em with ⟨rs,U,e1,e2⟩|⟨e,e1,e2⟩
 .rcases bind_some e1 with ⟨r,F,J,K⟩|⟨y,J,K⟩
  .obtain⟨fs,ls,g,w,D,T,R⟩:=jh J;cases T;subst R;rcases bind_some K with ⟨rs',N,j,u⟩|⟨y,j,u⟩
   .cases u;obtain⟨p,dx,vs,hp,h2,hl⟩:=S g w D;refine⟨.ref p,hp,p,dx,vs,rfl,h2,hl,c,_,_,_,_,_,t,b,j,λws d s b2=>?_⟩;refine kz (rs:=.rf i::rs') (vs:=.ref p::ws) hd t ?_ ⟨hp,s⟩ b2 e2 (λr hr v H' hv b=>by subst hr;exact q v H' hv b) (λx hx=>by subst hx;exact q);rw[SW,Q4,Rc,<-s.len,<-hn _ _ _ j,(hd λ_=>none).len];lia
   .cases u
  .cases K
 .rcases bind_some e1 with ⟨r,F,J,K⟩|⟨y,J,K⟩
  .obtain⟨fs,ls,g,w,D,T,R⟩:=jh J;cases T;subst R;rcases bind_some K with ⟨rs',N,j,u⟩|⟨y,j,u⟩
   .cases u
   .cases u;obtain⟨p,dx,vs,hp,h2,hl⟩:=S g w D;exact⟨.ref p,hp,p,dx,vs,rfl,h2,hl,c,_,_,_,_,_,t,b,j,λC d hm b2=>fin _ e2 C d hm b2⟩
  .obtain⟨_,_,_,_,_,T,_⟩:=jh J;cases T
end
section
variable{X:Cx}{E:XK}{CX:qG}{k n i:Nat}{f C:Addr}{fd:X1}{ps:List Str}{m:Ms}{I:List A}{dvs:List V}{ds:List Value}{cn mn x:Str}{px apos pos:Pos}{e:Expr}{es:List Expr}{ma:Mi (List Rr)}
theorem sG(a:X.mg cn=some (.ref C))(hc:gN X.K C)(hm:Meth X.K C mn f)(F:dF X.prog X.w X.K X.mg X.base CX k f fd ps (je (kx X) n m))(R:cW k X.A)(d:Binds X.K fd ps ds)(hd:Vals dvs ds)(b:∀G,bU (kx X) G dvs I)(hx:Passes CX X E)
  (hN:X.N[i]?=some x)(q:ku X.env.scope x)(h:fC x)(T:lA x)(r:JA X E (e::es) ma)(hn:∀Z rs O,ma Z=some (.ok rs,O)->rs.length+1+I.length=n)(H:XR (.Name x px) mn X.env (eval (.Name x px) X.env)=eval (.Name x px) X.env)
  (B:Yu ((e::es).length+([]:List X8).length) (XW pos (XM (e::es) X.env)) (Yb pos (X0 [] X.env))=true)(Y:(apos.endLine==pos.line)=true)
  (c:XM (e::es) X.env=(false,eval e X.env)::XM es X.env)(v:(XW pos (XM es X.env)).any (·.1)=false):JE X E (.Call (.Attribute (.Name x px) mn apos) (e::es) [] pos) (aY m I (da (aR cn mn i) ma)):=
 ⟨PE.weaken (vN (bS hN q h T) hc hm F R d hd hx r.p c v (iD H B Y)) (mY b a hn)⟩
theorem oT(R:X.mg cn=some (.ref C))(hc:gN X.K C)(hm:Meth X.K C mn f)(F:dF X.prog X.w X.K X.mg X.base CX k f fd ps (je (kx X) n m))(S:cW k X.A)(d:Binds X.K fd ps ds)(hd:Vals dvs ds)(U:∀G,bU (kx X) G dvs I)(hx:Passes CX X E)
  (hN:X.N[i]?=some x)(r:ku X.env.scope x)(z:fC x)(T:lA x)(hn:1+I.length=n)(p:XR (.Name x px) mn X.env (eval (.Name x px) X.env)=eval (.Name x px) X.env)(D:(apos.endLine==pos.line)=true):JE X E (.Call (.Attribute (.Name x px) mn apos) [] [] pos) (aY m I (da (aR cn mn i) kY)):=
 ⟨PE.weaken (q9 (bS hN r z T) hc hm F S d hd hx (iD p rfl D)) λY H Q h=>by obtain⟨v,u,a,dx,fs,g,V,l,j⟩:=mY (X:=X) (E:=E) (C:=C) (n:=n) U R (ma:=kY) (λZ rs O q=>by cases q;rw[<-hn];simp) Y H Q h;refine⟨v,u,a,dx,fs,g,V,l,?_⟩;obtain⟨c,Z,B,θ,o,O,t,b,em,q⟩:=j;cases em;exact q [] H trivial b⟩
end
section
variable{c:Cn}{Y:St}{H:Hp}{Z:List Sl}{B:St}{θ:List Sl}
theorem Bd.give{a:Addr}{xs:List A}{fs:List (Str×A)}(b:Bd c Y H Z (some (.ref a)::B) (.lv (.lst xs)::θ))(R:aE Z i=some (.obj cn fs)):
  ∃p C dx vs,Y[i]?=some (some (.ref p))/\H p=some (.ins C dx vs)/\c.mg cn=some (.ref C)/\vs.length=fs.length/\(fs.lookup f=none->vs.lookup f=none)/\Bd c Y (upd H p (.ins C dx (vs++[(f,.ref a)]))) (setAt Z i (.nob cn fs [(f,xs)])) B θ:=by
 obtain⟨L,b⟩:=b;have rel:ax c.toKx (c.g H L) H (some (.ref a)::(B++Y)) (.lv (.lst xs)::(θ++Z)) L:=b.rel;have lt:B.length=θ.length:=by simpa using b.lt
 cases rel with
 |cons h r=>
  rename_i La L';cases h with
  |lv K=>
   cases K with
   |lst ea ra=>
    rename_i us;have nd:a∉L'/\L'.Nodup:=Rn.mp b.nd;obtain⟨v,L2,e1,r1,r2⟩:=ax.split lt r;have key:∀(s t:Sl)(o:LO),Z[i]?=some s->(s=.lv (.obj cn fs)/\t=.lv (.nob cn fs [(f,xs)])\/s=.pv (.obj cn fs)/\t=.pv (.nob cn fs [(f,xs)]))->setAt Z i (.nob cn fs [(f,xs)])=Z.set i t->
      ∃p C dx vs,Y[i]?=some (some (.ref p))/\H p=some (.ins C dx vs)/\c.mg cn=some (.ref C)/\vs.length=fs.length/\(fs.lookup f=none->vs.lookup f=none)/\Bd c Y (upd H p (.ins C dx (vs++[(f,.ref a)]))) (setAt Z i (.nob cn fs [(f,xs)])) B θ:=by
     intro s t _ es P Q;obtain⟨x,M1,M2,X,hx,hs,e2,ins⟩:=r2.at es;have k:∀p,x=some (.ref p)->M2=[p]->LR c.toKx (c.g H (a::L')) H p (.obj cn fs) []->(∀G H' ,LR c.toKx G H' p (.nob cn fs [(f,xs)]) [a]->fE c.toKx G H' (some (.ref p)) t [p,a])->
       ∃p C dx vs,Y[i]?=some (some (.ref p))/\H p=some (.ins C dx vs)/\c.mg cn=some (.ref C)/\vs.length=fs.length/\(fs.lookup f=none->vs.lookup f=none)/\Bd c Y (upd H p (.ins C dx (vs++[(f,.ref a)]))) (setAt Z i (.nob cn fs [(f,xs)])) B θ:=by
      intro p ex T K mk;subst ex T;cases K with
      |obj e m n=>
       rename_i C dx vs;have E:p≠a:=λz=>nd.1 (by rw[e1,e2,<-z];simp);have U:∀b,b∈v++(M1++[p,a]++X)↔b∈a::L':=λb=>by
        rw[e1,e2];simp only[Q0,QV,Rl,Ru,or_false];constructor
        .rintro(h|(h|h|h)|h)<;>simp[h]
        .rintro(h|h|(h|h)|h)<;>simp[h]
       have hg:∀H',c.g H' (v++(M1++[p,a]++X))=c.g H' (a::L'):=λH'=>Dq U;have pL:p∈a::L':=by rw[e1,e2];simp
       have N:c.g (upd H p (.ins C dx (vs++[(f,.ref a)]))) (a::L')=c.g H (a::L'):=by
        funext z
        by_cases F:z∈a::L'\/z∈c.Hd
        .rw[gZ F,gZ F]
        .rw[bM (λy=>F (.inl y)) (λy=>F (.inr y)),bM (λy=>F (.inl y)) (λy=>F (.inr y)),ao (λ(y:z=p)=>F (.inl (by rw[y];exact pL)))]
       have V:∀b∈v++(M1++X),b≠p:=λb d z=>by
        have D:=nd.2;rw[e1,e2] at D;subst z;obtain⟨n1,n2,n3⟩:=Q2.mp D;rcases Q0.mp d with z|z
        .exact n3 _ z _ Z4 rfl
        .obtain⟨m1,m2⟩:=jo n2;exact m2 b Z4 z
       have keep:∀b∈v++(M1++X),∀u,H b=some u->upd H p (.ins C dx (vs++[(f,.ref a)])) b=some u:=λb d u e=>by rw[ao (V b d)];exact e
       refine⟨p,C,dx,vs,hx,e,m,n.len,(λz=>by
        rcases n.get f with ⟨_,_,_,y,_⟩|⟨y,_⟩
        .rw[z] at y;cases y
        .exact y),v++(M1++[p,a]++X),?_,?_,λz hz=>b.own z ((U z).mp hz),?_,?_,lt,b.hd⟩
       .have pm:(v++(M1++[p,a]++X)).Perm (a::L'):=by
         rw[e1,e2];have q1:(M1++[p,a]++X).Perm (a::(M1++[p]++X)):=by
          have:M1++[p,a]++X=(M1++[p])++(a::X):=by simp
          rw[this];exact Sb
         exact(List.Perm.append_left v q1).trans Sb
        exact pm.nodup_iff.mpr b.nd
       .rw[hg,N,Q];have i1:=ins (G':=c.g H (a::L')) (H':=upd H p (.ins C dx (vs++[(f,.ref a)]))) (y:=some (.ref p)) (t:=t) (L':=[p,a]) (Sq.refl _) (λb d=>keep b (QO _ d)) (mk _ _ (.nob (by rw[aJ]) m n (.cons (by rw[ao E.symm];exact ea) ra .nil)));have l:Y.set i (some (.ref p))=Y:=by
         apply Sy;intro j;by_cases O:i=j
         .subst O;rw[Q9 (QP.mp hx).1,hx]
         .rw[Rk O]
        rw[l] at i1;exact(r1.sm (Sq.refl _) λb d=>keep b (QR _ d)).app i1
       .refine⟨λz o e'=>?_,λw hw=>?_⟩
        .obtain⟨u,u1,u2⟩:=b.fr.st z o e';by_cases hz:z=p
         .subst hz;refine⟨_,aJ,λna _=>?_⟩;rcases b.own z pL with y|y
          .exact absurd y na
          .rw[y] at e';cases e'
         .exact⟨u,by rw[ao hz];exact u1,u2⟩
        .obtain⟨S,J,k3⟩:=b.fr.pk w hw;refine⟨?_,J,k3⟩;rw[ao λz=>?_]
         .exact S
         .obtain⟨ob,us',J⟩:=J;rw[z,e] at S;rw[J] at S;cases S
       .rw[Q];intro j o O w;by_cases I:i=j
        .subst I;rw[Q9 (QP.mp es).1] at O;rcases P with ⟨_,rfl⟩|⟨rfl,rfl⟩
         .cases O;cases w
         .exact b.kp i _ es rfl
        .rw[Rk I] at O;exact b.kp j o O w
     rcases P with ⟨rfl,rfl⟩|⟨rfl,rfl⟩
     .cases hs with
      |lv h=>
       rename_i p q;have:q=[]:=by cases h;rfl
       subst this;exact k p rfl rfl h λG H' h=>.lv h
     .cases hs with
      |pv h=>
       rename_i p q;have:q=[]:=by cases h;rfl
       subst this;exact k p rfl rfl h λG H' h=>.pv h
    unfold aE at R;cases es:Z[i]? with
    |none=>simp only[es] at R;cases R
    |some s=>
     cases s with
     |un=>simp only[es] at R;cases R
     |cf _=>simp only[es] at R;cases R
     |fr a=>simp only[es] at R;cases R
     |lv o1=>simp only[es] at R;cases R;exact key _ _ (.obj cn fs) es (.inl ⟨rfl,rfl⟩) (by unfold setAt;simp only[es])
     |pv o1=>simp only[es] at R;cases R;exact key _ _ (.obj cn fs) es (.inr ⟨rfl,rfl⟩) (by unfold setAt;simp only[es])
end
variable{H:Hp}
section
variable{X:Cx}{E:XK}
theorem sE(f:Str)(v:V):∀{fs:List (Str×V)},fs.lookup f=none->dR f v fs=fs++[(f,v)]
 |[],_=>rfl
 |(g,x)::r,h=>by
  rw[Q6] at h;unfold dR;split at h
  .cases h
  .rename_i hc;have:¬ g=f:=λz=>by rw[z] at hc;simp at hc
   rw[Zy this,sE f v h];rfl
theorem Bd.tP{c:Cn}{Y:St}{B:St}{θ:List Sl}{v:V}{o:LO}(b:Bd c Y H Z (some v::B) (.lv o::θ)):∃a,v=.ref a:=by
 obtain⟨L,b⟩:=b;have rel:ax c.toKx (c.g H L) H (some v::(B++Y)) (.lv o::(θ++Z)) L:=b.rel;cases rel with
 |cons h r=>cases h with
  |lv h=>exact⟨_,rfl⟩
end
mutual
noncomputable def pl:A->Bool
 | .tup xs=>Ep xs
 | .lst _=>false
 | .dic _=>false
 | .dit _=>false
 | .obj _ _=>false
 | .exc _=>false
 |_=>true
noncomputable def Ep:List A->Bool
 |[]=>true
 |a::r=>pl a&&Ep r
end
def NS:LO->Bool
 | .lst xs=>Ep xs
 |_=>false
def yd:Sl->Bool
 | .fr a=>pl a
 | .cf a=>pl a
 | .lv o=>NS o
 | .pv o=>NS o
 | .un=>true
def Tq(G G':Hp):Prop:=∀a u,G a=some u->(∀ws,u≠.lst ws)->(∀C dx fs,u≠.ins C dx fs)->G' a=some u
variable{vs:List V}
section
variable{k:Kx}{G G' H:Hp}
theorem GW{p:Addr}(s:Tq G G')(q:gP k.K G p vs):gP k.K G' p vs:=q.imp (λr=>by
 rcases r with r|⟨o,r⟩
 .exact .inl (s _ _ r (λws z=>by cases z) λC dx fs z=>by cases z)
 .exact .inr ⟨o,s _ _ r (λws z=>by cases z) λC dx fs z=>by cases z⟩) id
mutual
theorem RA.pl(s:Tq G G'):∀{v:V}{a:A},RA k G v a->M.pl a=true->RA k G' v a
 |_,_,.non,_=>.non
 |_,_,.bl b,_=>.bl b
 |_,_,.int i,_=>.int i
 |_,_,.str x,_=>.str x
 |_,_,.tup e r,h=>.tup (GW s e) (bU.pl s r (by rw[M.pl] at h;exact h))
 |_,_,.lst e r,h=>by rw[M.pl] at h;cases h
 |_,_,.dic e r,h=>by rw[M.pl] at h;cases h
 |_,_,.exc e m,h=>by rw[M.pl] at h;cases h
 |_,_,.obj e m r,h=>by rw[M.pl] at h;cases h
 |_,_,.dit e r,h=>by rw[M.pl] at h;cases h
 |_,_,.opq,_=>.opq
theorem bU.pl(s:Tq G G'):∀{vs:List V}{as:List A},bU k G vs as->Ep as=true->bU k G' vs as
 |_,_,.nil,_=>.nil
 |_,_,.cons h r,e=>by rw[Ep,QM] at e;exact .cons (RA.pl s h e.1) (bU.pl s r e.2)
end
theorem LR.pl{p:Addr}{o:LO}{q:List Addr}(s:Tq G G')(h:LR k G H p o q)(e:NS o=true):LR k G' H p o q:=by
 cases h with
 |nob=>cases e
 |lst x r=>exact .lst x (r.pl s e)
 |dic x r=>cases e
 |obj x m r=>cases e
 |dit x r=>cases e
theorem fE.pl{x:Option V}{t:Sl}{L:List Addr}(s:Tq G G')(h:fE k G H x t L)(e:yd t=true):fE k G' H x t L:=by
 cases h with
 |un=>exact .un _
 |fr h=>exact .fr (h.pl s e)
 |cf h=>exact .cf (h.pl s e)
 |lv h=>exact .lv (h.pl s e)
 |pv h=>exact .pv (h.pl s e)
theorem eX.kind{ws:List (Str×V)}{ls:List (Str×List A)}{q:List Addr}(h:eX k G H ws ls q):∀a∈q,∃us,H a=some (.lst us):=by
 induction h with
 |nil=>intro a f;cases f
 |cons e r t m=>intro b d;rcases QV.mp d with rfl|d;exact⟨_,e⟩;exact m b d
theorem LR.kind{p:Addr}{cn:Str}{fs:List (Str×A)}{ls:List (Str×List A)}{q:List Addr}(h:LR k G H p (.nob cn fs ls) q):∀a∈p::q,(∃us,H a=some (.lst us))\/∃C dx fs,H a=some (.ins C dx fs):=by
 cases h with
 |nob e m r l=>
  intro a f;rcases QV.mp f with rfl|f
  .exact .inr ⟨_,_,_,e⟩
  .exact .inl (l.kind a f)
end
def bE(j:Nat)(m:Ms):Ms:=λZ=>match Z[j]? with
 |some (.pv (.nob c fs ls))=>match m (Z.set j (.fr (LO.nob c fs ls).a)) with
  |some (.rt s,U)=>if Ag (az Z.length U)[j]?&&(s::az Z.length U).all yd then some (.rt s,(az Z.length U).set j (.pv (.nob c fs ls))) else none
  |some (.ex x,U)=>if Ag (az Z.length U)[j]?&&(az Z.length U).all yd then some (.ex x,(az Z.length U).set j (.pv (.nob c fs ls))) else none
  |_=>none
 |_=>m Z
theorem je.zR{K:Kx}{n j:Nat}{m:Ms}{Q:VK}{E:XK}(h:je K n (bE j m) vs H Q E):je K n m vs H Q E:=by
 obtain⟨hn,c,Z,f,O,ek,es,F,b,em,q⟩:=h;unfold bE at em;split at em
 .rename_i cn fs ls ej;have rel:ax c.toKx (c.g H c.Lp) H (vs.map some) Z c.Lp:=b.rel;obtain⟨x,A,Lj,L2,x1,L,x3,D⟩:=rel.pick ej;cases x3 with
  |pv lr=>
   rename_i p qs;have Y:=lr;cases lr with
   |nob ep mm rr ll=>
    rename_i C dx ws us;have nd:=b.nd;rw[L] at nd;have R:(A++L2).Nodup:=nd.sublist (Th (Tv _) (TQ _ _));have np:∀a∈p::qs,a∉A++L2:=λa r=>(jo (by rw[<-QQ] at nd;exact nd)).2 a r;have S:(p::qs).Nodup:=(Q2.mp (Q2.mp nd).2.1).1;have J:=Y.is;have N:=Y.nf;have sub:∀a,a∈A++L2->a∈c.Lp:=λa r=>by
     rw[L];rcases Q0.mp r with z|z
     .exact QR _ z
     .exact QO _ (QO _ z)
    have pin:∀a∈p::qs,a∈c.Lp:=λa r=>by rw[L];exact QO _ (QR _ r)
    have ye:∀a∈p::qs,a∉c.Hd:=λa r=>b.ye (pin a r)
    let c2:Cn:={ c with Lp:=A++L2 }
    have X:Z.length=vs.length:=by have:=rel.len;simpa using this.symm
    have b2:d9 c2 (vs.map some) H (Z.set j (.fr (LO.nob cn fs ls).a)) [] [] c2.Lp:=by refine⟨R,?_,λa r=>.inl r,⟨λa o e=>⟨o,by rw[<-F];exact e,λ_ _=>rfl⟩,λw G=>b.fr.pk w G⟩,λi o _ _=>by rw[es],rfl,λa r=>⟨(b.hd a r).1,λy=>(b.hd a r).2 (sub a y)⟩⟩;have sm:Sq (c.g H c.Lp) (c.g H (A++L2)):=dz sub;have:ax c.toKx (c.g H (A++L2)) H (vs.map some) (Z.set j (.fr (LO.nob cn fs ls).a)) (A++([]++L2)):=D (λ_ h=>h.sm sm (λ_ _ _ e=>e)) (.fr (Y.a' sm λa r u e=>by rw[bM (np a r) (ye a r)];exact e));exact this
    have key:∀(H':Hp)(β:List Sl)(B:St)(θ:List Sl),B.length=θ.length->β[j]?=some .un->(θ++β).all yd=true->Bd c2 (vs.map some) H' β B θ->Bd c (vs.map some) H' (β.set j (.pv (.nob cn fs ls))) B θ:=by
     intro H' β B θ lt t V k;obtain⟨L',k⟩:=k;have d:∀a∈p::qs,∀w,(a,w)∉c.Wk:=λa r w G=>by obtain⟨h1,⟨ob,us,h2⟩,_⟩:=b.fr.pk _ G;simp only at h1 h2;exact N a r _ _ (by rw[h1,h2])
     have P:∀a∈p::qs,∀u,H a=some u->H' a=some u:=λa r u e=>by obtain⟨l,h1,h2⟩:=k.fr.st a u (by show c.H0 a=_;rw[F];exact e);rw[h1,h2 (np a r) (d a r)]
     have npL:∀a∈p::qs,a∉L':=λa r y=>by
      rcases k.own a y with z|z
      .exact np a r z
      .have z:c.H0 a=none:=z;obtain⟨u,I⟩:=J a r;rw[F,I] at z;cases z
     have jj:(θ++β)[θ.length+j]?=some .un:=by rw[RG (S1 _ _),Uc];exact t
     obtain⟨y,M1,Mj,T,y1,y2,y3,y4⟩:=ax.pick k.rel jj;cases y3 with
     |un=>
      have yx:y=some (.ref p):=by rw[<-lt,RG (S1 _ _),Uc,x1] at y1;exact(Rj y1).symm
      subst yx;have eL:L'=M1++T:=y2;have hN:∀a,a∈M1++((p::qs)++T)↔a∈p::qs\/a∈L':=λa=>by
       rw[eL];simp only[Q0];constructor
       .rintro(h|h|h)
        .exact .inr (.inl h)
        .exact .inl h
        .exact .inr (.inr h)
       .rintro(h|h|h)
        .exact .inr (.inl h)
        .exact .inl h
        .exact .inr (.inr h)
      have lq:Tq (c.g H' L') (c.g H' (M1++((p::qs)++T))):=λa u e nl ni=>by
       by_cases z:a∈L'\/a∈c.Hd
       .rw[gZ z] at e;cases e
       .rw[bM (λy=>z (.inl y)) (λy=>z (.inr y))] at e;rw[bM (λy=>?_) (λy=>z (.inr y))]
        .exact e
        .rcases(hN a).mp y with w|w
         .rcases Y.kind a w with ⟨us,I⟩|⟨C,dx,fs,I⟩
          .rw[P a w _ I] at e;exact nl us (Rj e).symm
          .rw[P a w _ I] at e;exact ni C dx fs (Rj e).symm
         .exact z (.inl w)
      have sq:Sq (c.g H c.Lp) (c.g H' (M1++((p::qs)++T))):=λa u e=>by
       by_cases z:a∈c.Lp\/a∈c.Hd
       .rw[gZ z] at e;cases e
       .rw[bM (λy=>z (.inl y)) (λy=>z (.inr y))] at e;obtain⟨l,h1,h2⟩:=k.fr.st a u (by show c.H0 a=_;rw[F];exact e);have I:l=u:=by
         by_cases G:∃w,(a,w)∈c.Wk
         .obtain⟨w,G⟩:=G;have p1:=(b.fr.pk _ G).1;have p2:=(k.fr.pk _ G).1;simp only at p1 p2;rw[e] at p1;rw[h1] at p2;rw[Rj p2,Rj p1]
         .exact h2 (λy=>z (.inl (sub a y))) λw y=>G ⟨w,y⟩
        subst I;refine⟨l,?_,.inl rfl⟩;rw[bM (λy=>?_) (λy=>z (.inr y))]
        .exact h1
        .rcases(hN a).mp y with w|w
         .exact z (.inl (pin a w))
         .rcases k.own a w with v|v
          .exact z (.inl (sub a v))
          .have v:c.H0 a=none:=v;rw[F,e] at v;cases v
      have Ij:ax c.toKx (c.g H' (M1++((p::qs)++T))) H' (B++vs.map some) ((θ++β).set (θ.length+j) (.pv (.nob cn fs ls))) (M1++((p::qs)++T)):=
       y4 (λm h=>h.pl lq (Sd.mp V _ m)) (.pv (Y.sm sq P))
      rw[Uq _ _ (S1 _ _),Uc] at Ij;refine⟨M1++((p::qs)++T),?_,Ij,λa r=>?_,⟨λa o e=>?_,λw G=>k.fr.pk w G⟩,λi o _ _=>by rw[es],lt,b.hd⟩
      .have pm:(M1++((p::qs)++T)).Perm ((p::qs)++(M1++T)):=by rw[<-QQ,<-QQ];exact Ts.append_right T
       refine(pm.nodup_iff).mpr (Q2.mpr ⟨S,by rw[<-eL];exact k.nd,λa r b hb z=>npL a r (by rw[eL,z];exact hb)⟩)
      .rcases(hN a).mp r with w|w
       .exact .inl (pin a w)
       .rcases k.own a w with v | v
        .exact .inl (sub a v)
        .exact .inr v
      .obtain⟨u,h1,h2⟩:=k.fr.st a o e;exact⟨u,h1,λna nw=>h2 (λy=>na (sub a y)) nw⟩
    cases e4:m (Z.set j (.fr (LO.nob cn fs ls).a)) with
    |none=>simp only[e4] at em;cases em
    |some pr=>
     obtain⟨g,U⟩:=pr;simp only[e4] at em;refine⟨hn,c2,_,g,U,ek,es,F,b2,e4,?_⟩;cases g with
     |nx=>cases em
     |bk=>cases em
     |ct=>cases em
     |rt s=>
      simp only at em;split at em
      .rename_i hc;cases em;intro v H' hs k;rw[QM] at hc;rw[X] at hc q;simp only[gR] at q;exact q v H' hs (key H' _ _ _ rfl (uS hc.1) hc.2 k)
      .cases em
     |ex x=>
      simp only at em;split at em
      .rename_i hc;cases em;intro C H' hm k;rw[QM] at hc;rw[X] at hc q;simp only[gR] at q;exact q C H' hm (key H' _ _ _ rfl (uS hc.1) hc.2 k)
      .cases em
 .exact⟨hn,c,Z,f,O,ek,es,F,b,em,q⟩
section
variable{k:Kx}{G G' H:Hp}
theorem ax.Fi:∀{Y:St}{Z:List Sl}{L:List Addr},(∀{x:Option V}{t:Sl}{L:List Addr}(j:Nat),Z[j]?=some t->fE k G H x t L->fE k G' H x t L)->ax k G H Y Z L->ax k G' H Y Z L
 |_,_,_,_,.nil=>.nil
 |_,_,_,f,.cons h r=>.cons (f 0 rfl h) (ax.Fi (λj a=>f (j+1) (by simpa using a)) r)
end
def Ov:Rr->Bool
 | .rf _=>false
 | .fr a=>pl a
 | .nw o=>NS o
end M
set_option maxHeartbeats 4000000
namespace L2
open PySem PySem.Spec PyProof.Rows PySem.W
structure GN(h:Heap)(e it l:Addr)(n:Nat):Prop where
 he:∃old,IsEnum h e it ((n:Nat):Int) old
 hi:h.IsListIter it l n
def Pz(K:QN)(a:Addr):It:=
  ⟨λi H=>∃xs x,dj K H a xs/\xs[i]?=some x,
   λi H v H'=>∃t x,v=.ref t/\H t=none/\H'=upd H t (.tup [.int i,x])/\∀xs,dj K H a xs->xs[i]?=some x,
   λi H=>∃xs,dj K H a xs/\xs[i]?=none⟩
variable{es:List Expr}{kk:Nat}{tp:Pos}
theorem xJ{P:Program}{w:XX}{K:QN}{e it a:Addr}(D:e≠it):
  Turn P w K (.Tuple es kk tp) (Pz K a) [e,it] e (λn h=>GN h e it a n) where
 mem:=by simp
 obj:=λn h Z c hc=>by
  obtain⟨⟨old,he⟩,⟨o,e1,_,l⟩⟩:=Z;simp only[QV,Ru,or_false] at hc;rcases hc with rfl|rfl
  .exact⟨_,he,λv q=>by cases q⟩
  .exact⟨_,e1,λv q=>by rw[l] at q;cases q⟩
 keep:=λn h h' Z k=>by obtain⟨⟨old,he⟩,⟨o,e1,g⟩⟩:=Z;exact⟨⟨old,k _ Z4 _ he⟩,⟨o,k _ Z4 _ e1,g⟩⟩
 item:=by
  intro X A f t hc n pins s Y H E I hf Z U;subst A f t;obtain⟨xs,x,L,hx⟩:=U;obtain⟨j,y,p,_⟩:=I.list L;obtain⟨u,hu,ru⟩:=y.get hx;obtain⟨⟨old,he⟩,hi⟩:=Z;refine wpAny_pyNext_enum_item he hi p.isList (by simpa using hu) D λh' z1 z2 z3 z4 keep=>?_;refine⟨_,rfl,wpAny_letOwnedTupleGo_enum z1 λh2 B sb=>?_⟩;have O:∀c o,c∉[e,it]->s.heap.get? c=some o->h2.get? c=some o:=λc o hc q=>by simp only[QV,Ru,or_false,not_or] at hc;exact sb.extBut c o hc.1 (keep c o hc.1 hc.2 q)
  have G:∀c o,s.heap.get? c=some o->c≠s.heap.objs.size:=λc o q=>Rw (Q7 q);have C:∀c o,H c=some o->c∉[e,it]:=λc o q hc=>by have:=(hf c hc).1;rw[q] at this;cases this
  have hn:=I.fresh;have Q:=(G _ _ he).symm;have I2:Inv X pins Y (upd H s.heap.objs.size (.tup [.int n,x])) { s with heap:=h2,gens:=s.gens,drawn:=s.drawn,toks:=s.toks+1 }:=by
   refine I.step (λc hc=>?_) (λc o _ _ hc q _=>O c o hc q) (λc o _ _ hc q _=>⟨o.slots,O c o hc q⟩) (λc o _ q z=>by rw[ao (G c o q)];exact z) (λc o hc q=>⟨o,O c o hc q⟩)
    (λc z q=>by rw[ao (aD q hn)];exact q) (λc o z q=>by rw[ao (aD q hn)];exact q) (λc z q=>⟨#[],by rw[ao (aD q hn),q];simp⟩) (λm hm=>?_) (λc o q=>?_) I.bare
   .obtain⟨f0,i,f2,F,S,T⟩:=hf c hc;exact⟨F,i,S,T⟩
   .obtain⟨o,R,q2,ho,r⟩:=hm;exact⟨o,R,q2,O _ o (λhc=>(hf _ hc).2.1 rfl) ho,r⟩
   .by_cases hc:c=s.heap.objs.size
    .subst hc;rw[aJ] at q;cases q;refine⟨(show 2<=sizeLine by decide),[.int n s.toks,u],.cons ⟨_,rfl⟩ (.cons ru .nil),?_⟩;exact⟨_,sb.extBut _ _ Q z3,rfl,_,rfl,rfl⟩
    .rw[ao hc] at q;refine(I.hok c o q).iM (λd w hd z=>O d w ?_ z) (λd z=>by rw[ao (aD z hn)];exact z) λd z r=>by rw[ao (aD r hn)];exact r
     rcases hd with rfl|hd
     .exact C _ _ q
     .exact C _ _ hd
  have N:=λc o hc q=>sb.extBut c o hc q;obtain⟨o1,e1,g⟩:=z2;obtain⟨oi,V,_⟩:=id hi;have en:((n+1:Nat):Int)=(n:Int)+1:=by push_cast;rfl
  refine⟨.ref s.heap.objs.size,_,I2,rfl,⟨s.heap.objs.size,x,rfl,hn,rfl,λxs' R=>?_⟩,⟨⟨_,by rw[en];exact B⟩,⟨o1,N _ _ (RP D) e1,g⟩⟩,λc hc=>?_⟩
  .rw[I.gi R L];exact hx
  .rw[ao]
   .exact(hf c hc).1
   .rintro rfl;simp only[QV,Ru,or_false] at hc;rcases hc with q|q
    .rw[<-q] at he;exact G _ _ he rfl
    .rw[<-q] at V;exact G _ _ V rfl
 done:=by
  intro X A f t hc n pins s Y H E I hf Z U;subst A f t;obtain⟨xs,L,J⟩:=U;obtain⟨j,y,p,_⟩:=I.list L;obtain⟨⟨old,he⟩,hi⟩:=Z;refine wpAny_pyNext_enum_end (I.ok.hd hc) he hi p.isList (by simpa using y.none_of J) λh' eb=>⟨rfl,?_⟩
  obtain⟨f0,i,f2,F,S,T⟩:=hf it Z4;exact I.turned (λb o hb q=>eb b o hb q) f0 i F S T
 self:=λ_ _ _ _ _ Z q=>let ⟨_,he⟩:=Z.he;Zh he q
def K6(K:QN)(ta:TA):TI:=λY H R=>ta Y H λvs V=>∃a xs,vs=[.ref a]/\dj K V a xs/\R (Pz K a) V
theorem Dg{X:Cx}{e1:Expr}{ta:TA}{p pos:Pos}(hg:Gl X "enumerate")(hm:X.mg "enumerate" = none)(ha:PA X [e1] ta)(hs:XM [e1] X.env=[(false,eval e1 X.env)]:=by rfl):
  PI X (.Tuple es kk tp) (.Call (.Name "enumerate" p) [e1] [] pos) (K6 X.K ta):=by
 intro pins s Y H R I h;refine Call_ (gY I hg hm qu (R0 (cE (ha pos pins s Y H _ I h) λus s1 ⟨vs,H1,I1,r1,q1⟩=>?_) (by rw[hs];rfl) rfl));obtain⟨a,xs,rfl,qa,q⟩:=q1;obtain⟨u,rfl,r⟩:=r1.one;cases r;obtain⟨its,rv,pa,_⟩:=I1.list qa;refine call_enumerate_list pa.isList λh' z1 z2 z3 keep=>?_;have I2:=I1.kept (t':=s1.toks) keep;refine Zh z1 ⟨_,[s1.heap.objs.size+1,s1.heap.objs.size],_,_,H1,rfl,I2,xJ (Nat.succ_ne_self _),⟨⟨_,z1⟩,z2⟩,λc hc=>?_,q⟩;have hle:s1.heap.objs.size<=c:=by simp only[QV,Ru,or_false] at hc;rcases hc with rfl|rfl<;>first|exact S1 _ _|exact QY _
 exact I1.wA hle (I1.hok.fresh hle)
end L2
namespace M
open PySem L2
section
variable{X:Cx}{E:XK}
noncomputable def iQ:Nat->List A->List A
 |_,[]=>[]
 |i,a::as=>.tup [.int i,a]::iQ (i+1) as
theorem kF:∀(as:List A)(i:Nat),(iQ i as).length=as.length
 |[],_=>rfl
 |_::as,i=>by rw[iQ,Q4,Q4,kF as]
theorem my:∀(as:List A)(i j:Nat)(a:A),(iQ i as)[j]?=some a->∃b,as[j]?=some b/\a=.tup [.int (i+j:Nat),b]
 |[],_,_,_,h=>by simp[iQ] at h
 |b::as,i,0,a,h=>by cases h;exact⟨b,rfl,rfl⟩
 |b::as,i,j+1,a,h=>by obtain⟨c,h1,h2⟩:=my as (i+1) j a h;exact⟨c,by rw[List.getElem?_cons_succ];exact h1,by rw[h2,show i+1+j=i+(j+1) by lia]⟩
def vL(ma:Mi Rr):Mi (List A):=aV ma λx=>λZ=>match d5 [x] Z with
 |some ([.lst as],O)=>some (.ok (iQ 0 as),O)
 |_=>none
theorem DG{e1:Expr}{m:Mi Rr}{p pos:Pos}{es:List Expr}{kk:Nat}{tp:Pos}(hg:Gl X "enumerate")(hm:X.mg "enumerate" = none)(h1:JE X E e1 m)(hs:XM [e1] X.env=[(false,eval e1 X.env)]:=by rfl)(hs3:XM [e1] X.env=(false,eval e1 X.env)::XM [] X.env:=by rfl):
  JI X E (.Tuple es kk tp) (.Call (.Name "enumerate" p) [e1] [] pos) (vL m):=⟨λpins s Y H R I h=>by
 refine Dg hg hm (aX h1.p cw hs3) hs pins s Y H R I ?_;obtain⟨c,Z,B,θ,o,O,ek,b,em,q⟩:=h;refine bz ek b em (λx v U H1 hv b1 em1=>?_) (dd q);cases ef:d5 [x] U with
 |none=>rw[ef] at em1;cases em1
 |some pr=>
  rw[ef] at em1;obtain⟨q1,N⟩:=pr;rcases q1 with _|⟨a1,_|_⟩
  .cases em1
  rotate_left
  .cases a1<;>exact kj em1
  cases a1 with
  |lst as=>
   cases em1;have eK:c.K=X.K:=ZC Kx.K ek;have b3:=(Bd.d5 (rs:=[x]) (vs:=[v]) ⟨hv,trivial⟩ b1 ef).1;obtain⟨L0,bl0,v0⟩:=Bd.mid (xs:=[]) (ss:=[]) rfl b3;cases v0 with
   |lst ve vr=>
   rename_i pv ts;refine⟨pv,ts,rfl,by rw[<-eK];exact dQ (g_same _ _ _) ve,q _ H1 [some (.ref pv)] [.lst as] rfl (λc' j H' O D r J T i ek' lx b'=>?_) b3⟩;have eK':c'.K=X.K:=ZC Kx.K ek';obtain⟨L,bl,v1⟩:=Bd.mid lx b';cases v1 with
   |lst ve vr=>
   rename_i ts';have sv:dj X.K H' pv ts':=by rw[<-eK'];exact dQ (g_same _ _ _) ve
   refine⟨λhi=>⟨ts',sv,?_⟩,λa ha=>?_⟩
   .rw[kF] at hi;exact R1 (by rw[vr.len];exact hi)
   .obtain⟨b0,za,rfl⟩:=my as 0 i a ha;obtain⟨t,g1,g2⟩:=vr.ta za;refine⟨⟨ts',t,sv,g1⟩,λx H2 yy=>?_⟩;obtain⟨tt,x',rfl,hn,rfl,hall⟩:=yy;have z1:=hall ts' sv;rw[g1] at z1;cases z1;obtain⟨b2,sm,np⟩:=bl.new hn;rw[Uo];exact b2.push (.tup (.inl (.inl (by rw[bM np (bl.MT hn)];exact aJ))) ((bU.cons (.int _) (.cons g2 .nil)).sm sm))
  | _=>cases em1⟩
end
end M
set_option maxHeartbeats 1000000
namespace M
open PySem L2
variable{i j:Nat}{cn f:Str}
section
variable{c:Cn}{Y:St}{H:Hp}{Z:List Sl}{B:St}{θ:List Sl}{L:List Addr}
theorem d9.Nz{fs:List (Str×A)}{ls:List (Str×List A)}{xs:List A}(b:d9 c Y H Z B θ L)(R:aE Z i=some (.nob cn fs ls))(e1:fs.lookup f=none)(e2:ls.lookup f=some xs):
  ∃p C dx ws a ys,Y[i]?=some (some (.ref p))/\H p=some (.ins C dx ws)/\c.mg cn=some (.ref C)/\ws.lookup f=some (.ref a)/\H a=some (.lst ys)/\bU c.toKx (c.g H L) ys xs /\
   ∀I x,bU c.toKx (c.g H L) I x->Bd c Y (upd H a (.lst I)) (setAt Z i (.nob cn fs (iJ f x ls))) B θ:=by
 obtain⟨p,q0,h1,h2,h⟩:=b.live R (.nob cn fs ls) (.lst []);clear h;cases h2 with
 |nob e m r l=>
  rename_i C dx ws us;obtain⟨a,ys,S,k2,D,d⟩:=l.get e2;have F:ws.lookup f=none:=by
   rcases r.get f with ⟨_,_,_,y,_⟩|⟨y,_⟩
   .rw[e1] at y;cases y
   .exact y
  refine⟨p,C,dx,ws++us,a,ys,h1,e,m,kL F S,D,d,λI x U=>?_⟩;have fin:∀(s t:Sl),Z[i]?=some s->(s=.lv (.nob cn fs ls)/\t=.lv (.nob cn fs (iJ f x ls))\/s=.pv (.nob cn fs ls)/\t=.pv (.nob cn fs (iJ f x ls)))->Bd c Y (upd H a (.lst I)) (Z.set i t) B θ:=by
   intro s t es P;obtain⟨p',q',w,j,nd,K⟩:=b.K0 (u:=.lst I) es P;rw[h1] at w;cases w;cases j with
   |nob k n r' G=>
    rename_i C' o X q;rw[e] at k;have J:X=ws/\q=us:=by
     have v:X.length=ws.length:=by rw[r'.len,r.len]
     injection k with k;injection k with _ _ k;exact⟨(Wy k.symm v).1,(Wy k.symm v).2⟩
    obtain⟨rfl,rfl⟩:=J;obtain⟨a',E,T,O,w3,w4⟩:=G.get e2;rw[S] at T;cases T;injection k with k;injection k with eC edx _;subst eC edx;refine K a (QW _ O) λH' Q sm=>?_;refine .nob (dx:=dx) ?_ n r' (eX.put G (Rn.mp nd).2 e2 S Q (λb N V=>sm b (QW _ N) V) U);rw[sm p Q5 λz=>(Rn.mp nd).1 (z▸O)];exact e
  unfold aE at R;unfold setAt;cases es:Z[i]? with
  |none=>rw[es] at R;cases R
  |some s=>
   rw[es] at R;cases s with
   |un=>cases R
   |cf _=>cases R
   |fr a=>cases R
   |lv o1=>cases R;exact fin _ _ es (.inl ⟨rfl,rfl⟩)
   |pv o1=>cases R;exact fin _ _ es (.inr ⟨rfl,rfl⟩)
theorem d9.ED{a:A}(b:d9 c Y H Z B θ L)(e:Z[j]?=some (.fr a)):∃v,Y[j]?=some (some v)/\RA c.toKx (c.g H L) v a:=by
 obtain⟨s,L2,N,E,l⟩:=ax.split b.lt b.rel;obtain⟨x,_,_,_,hx,hs,_⟩:=l.at e;cases hs with
 |fr h=>exact⟨_,hx,h⟩
end
variable{α:Type}
theorem Ic{xs:List α}{a:α}(h:gH xs.length k=some j)(e:xs[j]?=some a):iq xs k=some a:=by
 delta L2.iq
 rw[h];exact e
variable{cs:List Str}{Z:List Sl}{px py p1 p2 pos:Pos}{e:Expr}
section
variable{X:Cx}{E:XK}
def ownAt(cs:List Str)(Z:List Sl)(i:Nat)(f:Str):Option (List A):=match aE Z i with
 |some (.nob c fs ls)=>if cs.contains c&&(fs.lookup f).isNone then ls.lookup f else none
 |_=>none
theorem mX{xs:List A}(h:ownAt cs Z i f=some xs):∃c fs ls,aE Z i=some (.nob c fs ls)/\cs.contains c=true/\fs.lookup f=none/\ls.lookup f=some xs:=by
 delta ownAt at h
 cases R:aE Z i with
 |none=>rw[R] at h;cases h
 |some lo=>
  rw[R] at h;cases lo with
  |nob cn fs ls=>
   by_cases e:(cs.contains cn&&(fs.lookup f).isNone)=true
   .have h:(if (cs.contains cn&&(fs.lookup f).isNone)=true then ls.lookup f else none)=some xs:=h;rw[Zx e] at h;rw[QM,RM] at e;exact⟨cn,fs,ls,rfl,e.1,e.2,h⟩
   .have h:(if (cs.contains cn&&(fs.lookup f).isNone)=true then ls.lookup f else none)=some xs:=h;rw[Zy e] at h;cases h
  |_=>cases h
noncomputable def intAt(Z:List Sl)(j:Nat):Option Int:=match Z[j]? with
 |some (.fr (.int k))=>some k
 |_=>none
theorem i7(h:intAt Z j=some k):Z[j]?=some (.fr (.int k)):=by
 delta intAt at h
 cases e:Z[j]? with
 |none=>rw[e] at h;cases h
 |some s=>
  rw[e] at h;cases s with
  |fr a=>cases a with
   |int i=>cases h;rfl
   |_=>cases h
  |_=>cases h
def Qr(cs:List Str)(i:Nat)(f:Str)(j:Nat):Mi Rr:=λZ=>match ownAt cs Z i f,intAt Z j with
 |some xs,some k=>match iq xs k with
  |some a=>some (.ok (.fr a),Z)
  |none=>none
 |_,_=>none
def gz(Z:List Sl)(i:Nat)(f:Str)(xs:List A):List Sl:=match aE Z i with
 |some (.nob c fs ls)=>setAt Z i (.nob c fs (iJ f xs ls))
 |_=>Z
theorem km{c:Str}{fs:List (Str×A)}{ls:List (Str×List A)}(xs:List A)(h:aE Z i=some (.nob c fs ls)):gz Z i f xs=setAt Z i (.nob c fs (iJ f xs ls)):=by delta gz;rw[h]
def fD(cs:List Str)(i:Nat)(f:Str)(j:Nat)(m:Mi Rr):Ms:=cX m λr Z=>match bX r Z with
 |some (a,U)=>match ownAt cs U i f,intAt U j with
  |some xs,some k=>match gH xs.length k with
   |some n=>some (.nx,gz U i f (xs.set n a))
   |none=>none
  |_,_=>none
 |none=>none
theorem wx{x y:Str}{m:Mi Rr}(hN:X.N[i]?=some x)(A:ku X.env.scope x)(hd:fC x)(T:lA x)
  (z:X.N[j]?=some y)(u:ku X.env.scope y)(G:fC y)(Q:lA y)
  (hc:∀c C,cs.contains c=true->X.mg c=some (.ref C)->gN X.K C/\bY X.K C f)
  (d:XR (.Name x px) f X.env (eval (.Name x px) X.env)=eval (.Name x px) X.env)(he:JE X E e m)
  (hp:∀{o S R:TE},PE X (.Attribute (.Name x px) f p2) o->PE X (.Name y py) S->PE X e R->PS X (.Assign [.Subscript (.Attribute (.Name x px) f p2) (.Name y py) p1] e pos) (rC R (AA o S qV))):
  JS X E (.Assign [.Subscript (.Attribute (.Name x px) f p2) (.Name y py) p1] e pos) (fD cs i f j m):=
 ⟨PS.weaken (hp (fm (bS hN A hd T) d) (bS z u G Q) he.p) λD Y H h=>by
  obtain⟨c,Z,B,θ,fl,O,t,b,em,q⟩:=h;refine d6 t b em q λr v U H1 A b1 P=>?_;cases I:bX r U with
  |none=>rw[I] at P;cases P
  |some pr=>
   obtain⟨a,F⟩:=pr;rw[I] at P;dsimp only at P;have b2:=Bd.bX (xs:=[]) (ss:=[]) rfl b1 A I;cases e1:ownAt cs F i f with
   |none=>rw[e1] at P;cases P
   |some xs=>
    rw[e1] at P;cases e2:intAt F j with
    |none=>rw[e2] at P;cases P
    |some k=>
     rw[e2] at P;dsimp only at P;cases J:gH xs.length k with
     |none=>rw[J] at P;cases P
     |some n=>
      rw[J] at P;cases P;obtain⟨cn,fs,ls,V,s,l,g2⟩:=mX e1;obtain⟨L,bl,ra⟩:=Bd.tL b2;obtain⟨p,C,dx,ws,a',ys,h1,h2,h3,h4,h5,g,h7⟩:=bl.Nz V l g2;obtain⟨w,k1,k2⟩:=bl.ED (i7 e2);cases k2;have e4:X.mg cn=some (.ref C):=by have:=ZC (λk:Kx=>k.mg cn) t;simp only at this;rw[<-this];exact h3
      obtain⟨c1,c2⟩:=hc cn C s e4;rw[km _ V] at q;exact⟨_,h1,p,C,dx,ws,_,rfl,h2,c1,c2,h4,_,k1,a',ys,k,n,rfl,rfl,h5,by rw[g.len];exact J,q Y _ (h7 _ _ (g.set ra n))⟩⟩
end
variable{K:Kx}
section
open PyProof.Rows
noncomputable def tG(ns:List Int):Int:=ns.getD (argBest (λi j=>decide (ns.getD i 0 > ns.getD j 0)) (ns.length-1)) 0
section
variable{X:Cx}{E:XK}
def Gj(K:QN):List V->Hp->VK->Prop:=λus H Q=>∃(a:Addr)(ns:List Int),us=[.ref a]/\dj K H a (ns.map V.int)/\ns≠[]/\Q (.int (rX ns)) H
theorem xH(hc:X.calm=true):cZ X (.builtin "min") (Gj X.K):=by
 intro pins s Y H vs us Q I y h;obtain⟨a,ns,rfl,l,V,q⟩:=h;obtain⟨u,rfl,F⟩:=y.one;cases F;obtain⟨j,r,p,hz⟩:=I.list l;obtain⟨xs,e1,e2⟩:=jb r;rw[e1] at p;have m:s.heap.IsList a (Yo xs.toArray):=p.isList;have Z:a<s.heap.objs.size:=let ⟨_,e,_⟩:=m;Q7 e
 have hsz:xs.length=ns.length:=by rw[<-e2,QU]
 have x:0<ns.length:=V0.mpr V;refine call_min_walk (Yj m ?_);refine⟨_,[_,a],[_],_,_,_,_,rfl,U9 (A:=X.A.in1) (I.ok.hd hc) _ a (Rw Z) (Yo xs.toArray),
  ⟨⟨_,Rf _ rfl,rfl,rfl⟩,m.push _⟩,λc hc=>?_,by simp[Yo,hsz,x],CmpOf.ints_lt (numAt xs.toArray) (λ_ _=>Y5),λv h' tk B hk=>?_⟩
 .show c<(s.heap.push _).objs.size;rw[R6];rcases QV.mp hc with rfl|hc
  .exact Sn _
  .rcases QV.mp hc with rfl|hc
   .exact T3 Z
   .cases hc
 .have b:∀c o,s.heap.get? c=some o->h'.get? c=some o:=λc o e=>by
   refine hk c o (λhm=>?_) (Q3 _ e);rcases QV.mp hm with e1|hm
   .have:=Q7 e;rw[e1] at this;exact Ri _ this
   .cases hm
  have en:numAt xs.toArray=λi=>ns.getD i 0:=funext λi=>by rw[<-e2];unfold numAt;rw[VJ,Rp,Rm]
  have k:∃t,v=.int (rX ns) t:=by obtain⟨t,C⟩:=Y5 B;refine⟨t,?_⟩;rw[C,en];unfold rX;simp[Yo,hsz]
  obtain⟨t,rfl⟩:=k;exact⟨.int (rX ns),H,I.kept b,⟨t,rfl⟩,q⟩
def rZ:A->Option Rr
 | .lst as=>match eD as with
  |some ns=>if ns=[] then none else some (.fr (.int (rX ns)))
  |none=>none
 |_=>none
theorem De:sY K (λv=>Gj K.K [v]) rZ:=.scalar λH v a q g h=>by
 cases a<;>first|(cases h;done)|skip
 rename_i as;cases g with
 |lst e r=>
  unfold rZ at h;simp only at h;cases e1:eD as with
  |none=>simp only[e1] at h;cases h
  |some ns=>
   simp only[e1] at h;split at h
   .cases h
   .rename_i hn;cases h;have B:=j7 r e1;subst B;exact⟨_,_,rfl,λ_=>.int _,λQ k=>⟨_,ns,rfl,e,hn,k⟩⟩
def Fy(K:QN):List V->Hp->VK->Prop:=λus H Q=>∃(a:Addr)(ns:List Int),us=[.ref a]/\dj K H a (ns.map V.int)/\ns≠[]/\Q (.int (tG ns)) H
theorem wF(hc:X.calm=true):cZ X (.builtin "max") (Fy X.K):=by
 intro pins s Y H vs us Q I y h;obtain⟨a,ns,rfl,l,V,q⟩:=h;obtain⟨u,rfl,F⟩:=y.one;cases F;obtain⟨j,r,p,hz⟩:=I.list l;obtain⟨xs,e1,e2⟩:=jb r;rw[e1] at p;have m:s.heap.IsList a (Yo xs.toArray):=p.isList;have Z:a<s.heap.objs.size:=let ⟨_,e,_⟩:=m;Q7 e
 have hsz:xs.length=ns.length:=by rw[<-e2,QU]
 have x:0<ns.length:=V0.mpr V;refine call_max_walk (Yj m ?_);refine⟨_,[_,a],[_],_,_,_,_,rfl,U9 (A:=X.A.in1) (I.ok.hd hc) _ a (Rw Z) (Yo xs.toArray),
  ⟨⟨_,Rf _ rfl,rfl,rfl⟩,m.push _⟩,λc hc=>?_,by simp[Yo,hsz,x],CmpOf.ints_gt (numAt xs.toArray) (λ_ _=>Y5),λv h' tk B hk=>?_⟩
 .show c<(s.heap.push _).objs.size;rw[R6];rcases QV.mp hc with rfl|hc
  .exact Sn _
  .rcases QV.mp hc with rfl|hc
   .exact T3 Z
   .cases hc
 .have b:∀c o,s.heap.get? c=some o->h'.get? c=some o:=λc o e=>by
   refine hk c o (λhm=>?_) (Q3 _ e);rcases QV.mp hm with e1|hm
   .have:=Q7 e;rw[e1] at this;exact Ri _ this
   .cases hm
  have en:numAt xs.toArray=λi=>ns.getD i 0:=funext λi=>by rw[<-e2];unfold numAt;rw[VJ,Rp,Rm]
  have k:∃t,v=.int (tG ns) t:=by obtain⟨t,C⟩:=Y5 B;refine⟨t,?_⟩;rw[C,en];unfold tG;simp[Yo,hsz]
  obtain⟨t,rfl⟩:=k;exact⟨.int (tG ns),H,I.kept b,⟨t,rfl⟩,q⟩
def sd:A->Option Rr
 | .lst as=>match eD as with
  |some ns=>if ns=[] then none else some (.fr (.int (tG ns)))
  |none=>none
 |_=>none
theorem DL:sY K (λv=>Fy K.K [v]) sd:=.scalar λH v a q g h=>by
 cases a<;>first|(cases h;done)|skip
 rename_i as;cases g with
 |lst e r=>
  unfold sd at h;simp only at h;cases e1:eD as with
  |none=>simp only[e1] at h;cases h
  |some ns=>
   simp only[e1] at h;split at h
   .cases h
   .rename_i hn;cases h;have B:=j7 r e1;subst B;exact⟨_,_,rfl,λ_=>.int _,λQ k=>⟨_,ns,rfl,e,hn,k⟩⟩
end
end
section
open PyProof.Rows PySem.W
theorem vm:∀{ns:List Int}{us:List Value}{i:Int}{j:Nat},Vals (ns.map V.int) us->tw ns i=some j->kf_ints us=true/\kf_at i us=some j
 |[],_,_,_,.nil,h=>nomatch h
 |n::ns,_,i,j,.cons h r,e=>by
  obtain⟨t,rfl⟩:=h;have H:∀{ns:List Int}{us:List Value},Vals (ns.map V.int) us->kf_ints us=true:=λ{ns}=>by
   induction ns with
   |nil=>intro us r;cases r;rfl
   |cons n ns m=>intro us r;cases r with|cons h r=>obtain⟨t,rfl⟩:=h;have z:=m r;exact z
  refine⟨H (ns:=n::ns) (.cons ⟨t,rfl⟩ r),?_⟩;by_cases c:n=i
  .subst c;have e:(if n=n then some 0 else (tw ns n).map (·+1))=some j:=e;rw[Zx rfl] at e;cases e;show cond (n==n) _ _=_;rw[beq_self_eq_true];rfl
  .have e:(if n=i then some 0 else (tw ns i).map (·+1))=some j:=e;rw[Zy c] at e;cases e2:tw ns i with
   |none=>rw[e2] at e;cases e
   |some Y=>rw[e2] at e;cases e;have:=(vm r e2).2;show cond (n==i) _ (match kf_at i _ with|some j=>some (j+1)|none=>none)=_;rw[this,beq_eq_false_iff_ne.mpr c];rfl
section
open PySem.Builtin PyProof.Rows PySem.W
noncomputable def LV(b:Array Value)(n:Nat)(sl:Array (Option Value)):Obj:={ cls:=.type "list",dict:=none,data:=.seq b n,slots:=sl }
theorem qU{a:Addr}{b:Array Value}{n:Nat}{sl:Array (Option Value)}{v:Int}{t:Tok}(hi:kf_ints b.toList=true){j:Nat}(O:j<b.size)(b1:isInt v b[j]=true)(P:∀m (h:m<b.size),m<j->isInt v b[m]=false){up:Int}(p:(j:Int)<up):
  ∀d i,i+d=j->Meets (Builtin.«list.index.loop» ⟨[.ref a,.int v t,Zk ((i:Nat):Int),Zk up],[]⟩) λ_ R s=>s.heap.get? a=some (LV b n sl)/\R (.ok (.ret (.int j s.toks))) { s with toks:=s.toks+1 }
 |0,i,e=>by
  obtain rfl:i=j:=e;rintro prog w A R ⟨hp,g,dp,tk,os⟩ ⟨hl,h⟩
  delta LV at hl
  wp_walk using Y1 hl
  rw[show (if ((i:Nat):Int)<up then b[((i:Nat):Int).toNat]? else none)=some b[i] by rw[Zx p,SO];exact Vc O];refine XN (kf_eq hi _ Z4 prog w _ _ _ _ ?_);rw[b1]
  wp_walk
  exact h
 |d+1,i,e=>by
  rintro prog w A R ⟨hp,g,dp,tk,os⟩ ⟨hl,h⟩;have H:=hl
  delta LV at hl
  wp_walk using Y1 hl
  have lt:i<b.size:=by lia
  rw[show (if ((i:Nat):Int)<up then b[((i:Nat):Int).toNat]? else none)=some b[i] by rw[Zx Q1,SO];exact Vc lt];refine XN (kf_eq hi _ Z4 prog w _ _ _ _ ?_);rw[P i lt Q1]
  wp_walk
  exact⟨plainId_quiet SQ _,codeAny_builtin U3 (by rw[VB SQ _];exact qU hi O b1 P p d (i+1) Q1 prog w A R _ ⟨H,h⟩)⟩
theorem xV{a:Addr}{b:Array Value}{n:Nat}{sl:Array (Option Value)}{v:Int}{t:Tok}(hi:kf_ints b.toList=true)(O:j<b.size)(b1:isInt v b[j]=true)(P:∀m (h:m<b.size),m<j->isInt v b[m]=false)(p:(j:Int)<2^63-1):
  Meets (Builtin.«list.index» ⟨[.ref a,.int v t],[]⟩) λ_ R s=>s.heap.get? a=some (LV b n sl)/\R (.ok (.ret (.int j s.toks))) { s with toks:=s.toks+1 }:=by
 rintro prog w A R ⟨hp,g,dp,tk,os⟩ ⟨hl,h⟩;have H:=hl
 delta LV at hl
 wp_walk using Y1 hl
 rw[show ((λi:Int=>if i<0 then max 0 (i+(b.size:Int)) else i) ((none:Option Int).getD 0))=((0:Nat):Int) by simp,show ((λi:Int=>if i<0 then max 0 (i+(b.size:Int)) else i) ((none:Option Int).getD (2^63-1)))=2^63-1 by simp];exact⟨plainId_quiet SQ _,codeAny_builtin U3 (by rw[VB SQ _];exact qU hi O b1 P p j 0 (Uo j) prog w A R _ ⟨H,h⟩)⟩
end
section
variable{X:Cx}{E:XK}
def FH(K:QN):V->List V->Hp->VK->Prop:=λx us H Q=>∃(a:Addr)(ns:List Int)(i:Int)(j:Nat),x=.ref a/\us=[.int i]/\dj K H a (ns.map V.int)/\tw ns i=some j/\Q (.int j) H
theorem yP:Pn X "list.index" (FH X.K):=by
 intro pins s Y H x vs v us Q I o y h;obtain⟨a,ns,i,j,rfl,rfl,l,O,q⟩:=h;cases o;obtain⟨u,rfl,D⟩:=y.one;obtain⟨t,rfl⟩:=D;obtain⟨b,r,⟨⟨oc,od,c,osl⟩,n,p,T,S,C⟩,hz⟩:=I.list l;cases T;cases S;cases C;obtain⟨h1,h2⟩:=vm r O;obtain⟨a1,b1,P⟩:=kf_at_spec h2;have hl:b.length<=sizeLine:=by rw[<-r.length];exact hz
 rw[Yi] at hl;refine YY TV ⟨_,p,rfl⟩ PySem.F.entry_list_index (PySem.F.args_list_index_2 _ _) (xV (n:=n) (sl:=osl) (by simpa using h1) (j:=j) (by simpa using a1) (by simpa using b1) (λm hm Z=>by simpa using P m (by simpa using hm) Z) Q1) ⟨p,?_⟩;exact⟨.int j,H,I.tok _,⟨_,rfl⟩,q⟩
end
end
variable{Y B:St}{H:Hp}{c:Cn}{θ:List Sl}{L:List Addr}{apos cpos:Pos}
section
variable{X:Cx}{E:XK}
def p0(X:Cx)(e:Expr)(g:List Sl->Option A):Prop:=∃n,PE X e n/\∀{c:Cn}{Y:St}{H:Hp}{Z:List Sl}{B:St}{θ:List Sl}{L:List Addr}{a:A},d9 c Y H Z B θ L->g Z=some a->∃v,(∀Q:VK,Q v H->n Y H Q)/\RA c.toKx (c.g H L) v a
noncomputable def yi(j:Nat)(Z:List Sl):Option A:=match Z[j]? with
 |some (.fr a)=>some a
 |_=>none
theorem As{a:A}(h:yi j Z=some a):Z[j]?=some (.fr a):=by
 delta yi at h
 cases e:Z[j]? with
 |none=>rw[e] at h;cases h
 |some s=>
  rw[e] at h;cases s with
  |fr a=>cases h;rfl
  |_=>cases h
theorem xl{y:Str}(hN:X.N[j]?=some y)(A:ku X.env.scope y)(hd:fC y)(T:lA y):p0 X (.Name y py) (yi j):=
 ⟨_,bS hN A hd T,λb h=>by obtain⟨v,h1,h2⟩:=b.ED (As h);exact⟨v,λQ q=>⟨v,h1,q⟩,h2⟩⟩
noncomputable def ze(k:Int)(_:List Sl):Option A:=some (.int k)
theorem yk(h:PE X e (tC (.int k))):p0 X e (ze k):=
 ⟨_,h,λ_ e=>by cases e;exact⟨_,λQ q=>q,.int _⟩⟩
def Cf(Y:St)(H:Hp)(i:Nat)(f:Str)(a:Addr):Prop:=∃p C dx ws,Y[i]?=some (some (.ref p))/\H p=some (.ins C dx ws)/\ws.lookup f=some (.ref a)
theorem Cf.one{a b:Addr}(h:Cf Y H i f a)(h':Cf Y H i f b):a=b:=by obtain⟨p,C,dx,ws,h1,h2,h3⟩:=h;obtain⟨x,u,o,X,g,V,l⟩:=h';rw[h1] at g;cases g;rw[h2] at V;cases V;rw[h3] at l;cases l;rfl
theorem gp{xs:List A}(t:c.toKx=kx X)(hc:∀c C,cs.contains c=true->X.mg c=some (.ref C)->gN X.K C/\bY X.K C f)(bl:d9 c Y H Z B θ L)(e1:ownAt cs Z i f=some xs):
  ∃a ys,Cf Y H i f a/\(∀Q:VK,Q (.ref a) H->E2 X.K (lT i) f Y H Q)/\H a=some (.lst ys)/\bU c.toKx (c.g H L) ys xs/\∀I x,bU c.toKx (c.g H L) I x->Bd c Y (upd H a (.lst I)) (gz Z i f x) B θ:=by
 obtain⟨cn,fs,ls,R,b,l,V⟩:=mX e1;obtain⟨p,C,dx,ws,a,ys,h1,h2,h3,h4,h5,h,v⟩:=bl.Nz R l V;have m:X.mg cn=some (.ref C):=by have:=ZC (λk:Kx=>k.mg cn) t;simp only at this;rw[<-this];exact h3
 obtain⟨P,U⟩:=hc cn C b m;exact⟨a,ys,⟨p,C,dx,ws,h1,h2,h4⟩,λQ q=>⟨_,h1,p,C,dx,ws,_,rfl,h2,P,U,h4,q⟩,h5,h,λI x r=>by rw[km _ R];exact v _ _ r⟩
def gC(cs:List Str)(i:Nat)(f:Str)(g:List Sl->Option A):Mi Rr:=λZ=>match ownAt cs Z i f,g Z with
 |some xs,some (.int k)=>match eD xs with
  |some ns=>match tw ns k with
   |some j=>some (.ok (.fr (.int j)),Z)
   |none=>none
  |none=>none
 |_,_=>none
theorem xU{x:Str}{g:List Sl->Option A}(hN:X.N[i]?=some x)(r:ku X.env.scope x)(hd:fC x)(T:lA x)
  (hc:∀c C,cs.contains c=true->X.mg c=some (.ref C)->gN X.K C/\bY X.K C f)
  (d:XR (.Name x px) f X.env (eval (.Name x px) X.env)=eval (.Name x px) X.env)(he:p0 X e g)
  (m:XR (.Attribute (.Name x px) f p1) "index" X.env (eval (.Attribute (.Name x px) f p1) X.env)=eval (.Attribute (.Name x px) f p1) X.env)
  (w:((XW cpos (XM [e] X.env)).all (λx=>!x.1)&&(Yb cpos (X0 [] X.env)).all (λx=>x.1.isSome)&&decide (([e]:List Expr).length+([]:List X8).length+(if ([]:List X8).isEmpty then 0 else 1)<30))=true)
  (D:(apos.endLine==cpos.line)=true)(hs:XM [e] X.env=(false,eval e X.env)::XM [] X.env)(p:(XW cpos (XM [] X.env)).any (·.1)=false):
  JE X E (.Call (.Attribute (.Attribute (.Name x px) f p1) "index" apos) [e] [] cpos) (gC cs i f g):=by
 obtain⟨n,he,l⟩:=he;exact⟨PE.weaken (oN Sf TV Vd yP (fm (bS hN r hd T) d) (aX he cw hs) m w D hs p) λY H Q h=>by
  obtain⟨c,Z,B,θ,o,O,t,b,em,q⟩:=h
  delta gC at em
  cases e1:ownAt cs Z i f with
  |none=>rw[e1] at em;cases em
  |some xs=>
   cases e2:g Z with
   |none=>rw[e1,e2] at em;cases em
   |some a=>
    rw[e1,e2] at em;cases a with
    |int k=>
     dsimp only at em;cases J:eD xs with
     |none=>rw[J] at em;cases em
     |some ns=>
      rw[J] at em;dsimp only at em;cases z:tw ns k with
      |none=>rw[z] at em;cases em
      |some j=>rw[z] at em;cases em;obtain⟨L,bl⟩:=b;obtain⟨a,ys,_,h1,h5,u,_⟩:=gp t hc bl e1;obtain⟨v,S,G⟩:=l bl e2;cases G;have s:=j7 u J;subst s;refine h1 _ ⟨.inl ⟨rfl,_,.inl (.inl h5)⟩,?_⟩;exact S _ ⟨a,ns,k,j,rfl,rfl,.of h5,z,q _ H trivial (bl.push (.int _))⟩
    | _=>cases em⟩
def rW(cs:List Str)(i:Nat)(f:Str)(g:List Sl->Option A):Mi Rr:=λZ=>match ownAt cs Z i f,g Z with
 |some xs,some a=>if xs.length<=100000 then some (.ok (.fr .non),gz Z i f (xs++[a])) else none
 |_,_=>none
theorem Er{x:Str}{g:List Sl->Option A}(hN:X.N[i]?=some x)(r:ku X.env.scope x)(hd:fC x)(T:lA x)
  (hc:∀c C,cs.contains c=true->X.mg c=some (.ref C)->gN X.K C/\bY X.K C f)
  (d:XR (.Name x px) f X.env (eval (.Name x px) X.env)=eval (.Name x px) X.env)(he:p0 X e g)
  (m:XR (.Attribute (.Name x px) f p1) "append" X.env (eval (.Attribute (.Name x px) f p1) X.env)=eval (.Attribute (.Name x px) f p1) X.env)
  (w:((XW cpos (XM [e] X.env)).all (λx=>!x.1)&&(Yb cpos (X0 [] X.env)).all (λx=>x.1.isSome)&&decide (([e]:List Expr).length+([]:List X8).length+(if ([]:List X8).isEmpty then 0 else 1)<30))=true)
  (D:(apos.endLine==cpos.line)=true)(hs:XM [e] X.env=(false,eval e X.env)::XM [] X.env)(k:(XW cpos (XM [] X.env)).any (·.1)=false):
  JE X E (.Call (.Attribute (.Attribute (.Name x px) f p1) "append" apos) [e] [] cpos) (rW cs i f g):=by
 obtain⟨n,he,l⟩:=he;exact⟨PE.weaken (oN Sf TM TN kn (fm (bS hN r hd T) d) (aX he cw hs) m w D hs k) λY H Q h=>by
  obtain⟨c,Z,B,θ,o,O,t,b,em,q⟩:=h
  delta rW at em
  cases e1:ownAt cs Z i f with
  |none=>rw[e1] at em;cases em
  |some xs=>
   cases e2:g Z with
   |none=>rw[e1,e2] at em;cases em
   |some a=>
    rw[e1,e2] at em;dsimp only at em;by_cases hl:xs.length<=100000
    .rw[Zx hl] at em;cases em;obtain⟨L,bl⟩:=b;obtain⟨p,ys,_,h1,h5,u,z⟩:=gp t hc bl e1;obtain⟨v,S,J⟩:=l bl e2;refine h1 _ ⟨.inl ⟨rfl,_,.inl (.inl h5)⟩,?_⟩;exact S _ ⟨p,ys,v,rfl,rfl,h5,by have:=u.len;have:=Yi;lia,q _ _ trivial (Bd.push (z _ _ (u.snoc J)) λ_=>.non)⟩
    .rw[Zy hl] at em;cases em⟩
def si(cs:List Str)(i:Nat)(f:Str)(g:List Sl->Option A):Mi Rr:=λZ=>match ownAt cs Z i f,g Z with
 | some xs,some (.int k)=>if k.natAbs<2^62 then (match YN k xs.length with
  |some n=>match xs[n]? with
   |some a=>some (.ok (.fr a),gz Z i f (xs.eraseIdx n))
   |none=>none
  | none=>none) else none
 |_,_=>none
theorem bU.one{k:Kx}{G:Hp}{a:A}:∀{vs:List V}{as:List A}{n:Nat},bU k G vs as->as[n]?=some a->∃v,vs[n]?=some v/\RA k G v a
 |_,_,_,.nil,h=>nomatch h
 |_,_,0,.cons h r,e=>by cases e;exact⟨_,rfl,h⟩
 |_,_,n+1,.cons h r,e=>bU.one r (n:=n) e
theorem Eb{x:Str}{g:List Sl->Option A}(hN:X.N[i]?=some x)(U:ku X.env.scope x)(hd:fC x)(T:lA x)
  (hc:∀c C,cs.contains c=true->X.mg c=some (.ref C)->gN X.K C/\bY X.K C f)
  (d:XR (.Name x px) f X.env (eval (.Name x px) X.env)=eval (.Name x px) X.env)(he:p0 X e g)
  (w:XR (.Attribute (.Name x px) f p1) "pop" X.env (eval (.Attribute (.Name x px) f p1) X.env)=eval (.Attribute (.Name x px) f p1) X.env)
  (z:((XW cpos (XM [e] X.env)).all (λx=>!x.1)&&(Yb cpos (X0 [] X.env)).all (λx=>x.1.isSome)&&decide (([e]:List Expr).length+([]:List X8).length+(if ([]:List X8).isEmpty then 0 else 1)<30))=true)
  (D:(apos.endLine==cpos.line)=true)(hs:XM [e] X.env=(false,eval e X.env)::XM [] X.env)(m:(XW cpos (XM [] X.env)).any (·.1)=false):
  JE X E (.Call (.Attribute (.Attribute (.Name x px) f p1) "pop" apos) [e] [] cpos) (si cs i f g):=by
 obtain⟨te,he,l⟩:=he;exact⟨PE.weaken (oN Sf PySem.F.slot_list_pop PySem.F.type_list_pop yL (fm (bS hN U hd T) d) (aX he cw hs) w z D hs m) λY H Q h=>by
  obtain⟨c,Z,B,θ,o,O,t,b,em,q⟩:=h
  delta si at em
  cases e1:ownAt cs Z i f with
  |none=>rw[e1] at em;cases em
  |some xs=>
   cases e2:g Z with
   |none=>rw[e1,e2] at em;cases em
   |some a=>
    rw[e1,e2] at em;cases a with
    |int k=>
     dsimp only at em;by_cases hl:k.natAbs<2^62
     .rw[Zx hl] at em;cases J:YN k xs.length with
      |none=>rw[J] at em;cases em
      |some n=>
       rw[J] at em;dsimp only at em;cases r:xs[n]? with
       |none=>rw[r] at em;cases em
       |some a=>rw[r] at em;cases em;obtain⟨L,bl⟩:=b;obtain⟨p,ys,s,h1,h5,G,_⟩:=gp t hc bl e1;obtain⟨v,S,y⟩:=l bl e2;cases y;obtain⟨u,j,I⟩:=bU.one G r;refine h1 _ ⟨.inl ⟨rfl,_,.inl (.inl h5)⟩,?_⟩;obtain⟨L2,b2⟩:=bl.push I;obtain⟨p2,P,V,_,R,g6,g7⟩:=gp t hc b2 e1;obtain rfl:=s.one V;rw[h5] at R;cases R;exact S _ ⟨p,ys,k,n,u,rfl,rfl,h5,by lia,by lia,by rw[G.len];exact J,j,q _ _ trivial (g7 _ _ (bU.erase n g6))⟩
     .rw[Zy hl] at em;cases em
    | _=>cases em⟩
end
variable{te:TE}{p:Pos}
section
variable{X:Cx}{E:XK}
def wZ(neg:Bool)(cs:List Str)(i:Nat)(f:Str)(g:List Sl->Option A):Mi Rr:=λZ=>match ownAt cs Z i f,g Z with
 |some xs,some a=>if fA a&&xs.all fA then some (.ok (.fr (.bl (if neg then !Ft (k9 a) (xs.map k9) else Ft (k9 a) (xs.map k9)))),Z) else none
 |_,_=>none
theorem zA{neg:Bool}{g:List Sl->Option A}(hc:∀c C,cs.contains c=true->X.mg c=some (.ref C)->gN X.K C/\bY X.K C f)
  (l:∀{c:Cn}{Y:St}{H:Hp}{Z:List Sl}{B:St}{θ:List Sl}{L:List Addr}{a:A},d9 c Y H Z B θ L->g Z=some a->∃v,(∀Q:VK,Q v H->te Y H Q)/\RA c.toKx (c.g H L) v a)
  (Y:St)(H:Hp)(Q:VK)(h:kQ (kx X) E (wZ neg cs i f g) Y H Q):GH (MC X.K neg) te (E2 X.K (lT i) f) Y H Q:=by
 obtain⟨c,Z,B,θ,o,O,t,b,em,q⟩:=h
 delta wZ at em
 cases e1:ownAt cs Z i f with
 |none=>rw[e1] at em;cases em
 |some xs=>
  cases e2:g Z with
  |none=>rw[e1,e2] at em;cases em
  |some a=>
   rw[e1,e2] at em;dsimp only at em;by_cases hl:(fA a&&xs.all fA)=true
   .rw[Zx hl] at em;rw[QM] at hl;cases em;obtain⟨L,bl⟩:=b;obtain⟨p,ys,_,h1,h5,u,_⟩:=gp t hc bl e1;obtain⟨v,S,J⟩:=l bl e2;obtain⟨rfl,h2⟩:=uE J hl.1;obtain⟨rfl,h4⟩:=qt u hl.2;exact S _ (h1 _ ⟨p,_,rfl,.inl (.of h5),h2,h4,q _ H trivial (bl.push (.bl _))⟩)
   .rw[Zy hl] at em;cases em
theorem JN{x:Str}{g:List Sl->Option A}(hN:X.N[i]?=some x)(q:ku X.env.scope x)(hd:fC x)(T:lA x)
  (hc:∀c C,cs.contains c=true->X.mg c=some (.ref C)->gN X.K C/\bY X.K C f)
  (d:XR (.Name x px) f X.env (eval (.Name x px) X.env)=eval (.Name x px) X.env)(he:p0 X e g)(hm:X4 .In (.Attribute (.Name x px) f p1)=false):
  JT X E (.Compare e [.In] [.Attribute (.Name x px) f p1] pos) (aj (wZ false cs i f g)):=by
 obtain⟨te,he,l⟩:=he;exact⟨PT.weaken (v8 kC he (fm (bS hN q hd T) d) hm) λY H Q h=>zA hc l Y H _ (ir Y H Q h)⟩
def jS(cs:List Str)(i:Nat)(f:Str):Mi Rr:=λZ=>match ownAt cs Z i f with
 |some xs=>some (.ok (.fr (.int xs.length)),Z)
 |none=>none
theorem DC{x y:Str}(hN:X.N[i]?=some x)(hv:ku X.env.scope x)(hd:fC x)(hcd:lA x)
  (hc:∀c C,cs.contains c=true->X.mg c=some (.ref C)->gN X.K C/\bY X.K C f)
  (hb:XR (.Name x px) f X.env (eval (.Name x px) X.env)=eval (.Name x px) X.env)
  (hg:Gl X y)(hm:X.mg y=none)(hv2:XQ y=some (.builtin "len"))(hn:y ≠ "__name__")(hdb:fC y)(hs:XM [.Attribute (.Name x px) f p1] X.env=(false,eval (.Attribute (.Name x px) f p1) X.env)::XM [] X.env:=by rfl)(hp:(XW pos (XM [] X.env)).any (·.1)=false:=by rfl):
  JE X E (.Call (.Name y p) [.Attribute (.Name x px) f p1] [] pos) (jS cs i f):=
 ⟨PE.weaken (j6 pI hg hm hv2 (aX (fm (bS hN hv hd hcd) hb) cw hs) hn hdb hs hp) λY H Q h=>by
  obtain⟨c,Z,B,θ,o,O,ek,b,em,q⟩:=h
  delta jS at em
  cases e1:ownAt cs Z i f with
  |none=>rw[e1] at em;cases em
  | some xs=>rw[e1] at em;cases em;obtain⟨L,bl⟩:=b;obtain⟨p,ys,_,h1,h5,h6,_⟩:=gp ek hc bl e1;exact h1 _ ⟨p,ys,rfl,.inl (.of h5),by rw[h6.len];exact q _ H trivial (bl.push (.int _))⟩⟩
def qm(cs:List Str)(i:Nat)(f:Str)(g:List Sl->Option A):Mi Rr:=λZ=>match ownAt cs Z i f,g Z with
 |some xs,some (.int k)=>match iq xs k with
  |some a=>some (.ok (.fr a),Z)
  |none=>none
 |_,_=>none
theorem Hm{x:Str}{g:List Sl->Option A}(hN:X.N[i]?=some x)(r:ku X.env.scope x)(hd:fC x)(T:lA x)
  (hc:∀c C,cs.contains c=true->X.mg c=some (.ref C)->gN X.K C/\bY X.K C f)
  (d:XR (.Name x px) f X.env (eval (.Name x px) X.env)=eval (.Name x px) X.env)(he:p0 X e g)(hs:jC e):
  JE X E (.Subscript (.Attribute (.Name x px) f p1) e pos) (qm cs i f g):=by
 obtain⟨te,he,l⟩:=he;exact⟨PE.weaken (zH pR (fm (bS hN r hd T) d) he hs) λY H Q h=>by
  obtain⟨c,Z,B,θ,o,O,t,b,em,q⟩:=h
  delta qm at em
  cases e1:ownAt cs Z i f with
  |none=>rw[e1] at em;cases em
  |some xs=>
   cases e2:g Z with
   |none=>rw[e1,e2] at em;cases em
   |some a=>
    rw[e1,e2] at em;cases a with
    |int k=>
     dsimp only at em;cases J:iq xs k with
     |none=>rw[J] at em;cases em
     |some a=>rw[J] at em;cases em;obtain⟨L,bl⟩:=b;obtain⟨p,ys,_,h1,h5,G,_⟩:=gp t hc bl e1;obtain⟨v,S,y⟩:=l bl e2;cases y;obtain⟨u,j,I⟩:=G.iq J;exact h1 _ (S _ ⟨p,ys,k,u,rfl,rfl,.of h5,j,q u H trivial (bl.push I)⟩)
    | _=>cases em⟩
end
section
variable{k:Kx}{G G' H:Hp}
theorem ax.Fp:∀{Y:St}{Z:List Sl}{L:List Addr},(∀{x:Option V}{t:Sl}{L:List Addr}(j:Nat),Y[j]?=some x->Z[j]?=some t->fE k G H x t L->fE k G' H x t L)->ax k G H Y Z L->ax k G' H Y Z L
 |_,_,_,_,.nil=>.nil
 |_,_,_,f,.cons h r=>.cons (f 0 rfl rfl h) (ax.Fp (λj hs a=>f (j+1) (by simpa using hs) (by simpa using a)) r)
theorem ax.FL:∀{Y:St}{Z:List Sl}{L:List Addr}{j:Nat}{t:Sl},ax k G H Y Z L->Z[j]?=some t->∃x A B L2,Y[j]?=some x/\fE k G H x t B/\L=A++(B++L2) /\
  ∀{G':Hp}{t':Sl}{L':List Addr},(∀{x:Option V}{t:Sl}{L:List Addr}(n:Nat),Y[n]?=some x->Z[n]?=some t->n≠j->fE k G H x t L->fE k G' H x t L)->fE k G' H x t' L'->ax k G' H Y (Z.set j t') (A++(L'++L2))
 |_,_,_,j,t,.nil,e=>by simp at e
 |x::Y,u::Z,_,0,t,.cons (L:=La) (L':=Lb) h r,e=>by cases e;refine⟨x,[],La,Lb,rfl,h,rfl,λ{G2 D b} f h'=>?_⟩;rw[Tz];exact .cons h' (ax.Fp (λn hs hn=>f (n+1) (by simpa using hs) (by simpa using hn) (U4 n)) r)
 |x::Y,u::Z,_,j+1,t,.cons (L:=La) (L':=Lb) h r,e=>by obtain⟨y,A,B,L2,h1,h3,h2,h4⟩:=ax.FL r (j:=j) (by simpa using e);refine⟨y,La++A,B,L2,by simpa using h1,h3,by rw[h2,QQ],λf h'=>?_⟩;have:=h4 (λn hs hn I=>f (n+1) (by simpa using hs) (by simpa using hn) (λz=>I (Vf z))) h';rw[QQ];exact .cons (f 0 rfl rfl (U4 j).symm h) this
end
section
variable{c:Cn}{Y:St}{H:Hp}{Z:List Sl}{B:St}{θ:List Sl}
theorem Bd.LQ{s:Sl}{fs:List (Str×A)}{ls:List (Str×List A)}(b:Bd c Y H Z B θ)(es:Z[i]?=some s)(hs:s=.lv (.nob cn fs ls)\/s=.pv (.nob cn fs ls)):
  ∃m:Cn,m.toKx=c.toKx/\Bd m Y H (Z.set i (.fr (LO.nob cn fs ls).a)) [] []/\∀H' U F X,Bd m Y H' U F X->(∃a,U[i]?=some (.fr a))->(∀j t,j≠i->U[j]?=some t->yd t=true\/∃a,t=.fr a/\Z[j]?=some (.fr a))->X.all yd=true->(∀f a,Cf Y H i f a->Cf Y H' i f a)/\Bd c Y H' (U.set i s) (F++B) (X++θ):=by
 obtain⟨L,b⟩:=b;obtain⟨k,L2,e1,r1,r2⟩:=ax.split b.lt b.rel;obtain⟨x,M1,M2,T,hx,l,e2,ins⟩:=r2.at es;have key:∀p q,x=some (.ref p)->M2=p::q->LR c.toKx (c.g H L) H p (.nob cn fs ls) q->(∀G H',LR c.toKx G H' p (.nob cn fs ls) q->fE c.toKx G H' (some (.ref p)) s (p::q))->
   ∃m:Cn,m.toKx=c.toKx/\Bd m Y H (Z.set i (.fr (LO.nob cn fs ls).a)) [] []/\∀H' U F X,Bd m Y H' U F X->(∃a,U[i]?=some (.fr a))->(∀j t,j≠i->U[j]?=some t->yd t=true\/∃a,t=.fr a/\Z[j]?=some (.fr a))->X.all yd=true->(∀f a,Cf Y H i f a->Cf Y H' i f a)/\Bd c Y H' (U.set i s) (F++B) (X++θ):=by
  intro p q ex em lr mk;subst ex em;have nd:=b.nd;rw[e1,e2] at nd;obtain⟨n1,n2,n3⟩:=Q2.mp nd;obtain⟨m1,m2⟩:=jo n2;have ndq:(p::q).Nodup:=(Q2.mp (Q2.mp n2).1).2.1;have Q:∀a,a∈L↔a∈k\/a∈p::q\/a∈M1++T:=λa=>by
   rw[e1,e2];simp only[Q0];constructor
   .rintro(h|(h|h)|h)
    .exact .inl h
    .exact .inr (.inr (.inl h))
    .exact .inr (.inl h)
    .exact .inr (.inr (.inr h))
   .rintro(h|h|h|h)
    .exact .inl h
    .exact .inr (.inl (.inr h))
    .exact .inr (.inl (.inl h))
    .exact .inr (.inr h)
  have N:∀a∈L,∃u,H a=some u:=b.rel.is;have J:∀a∈L,a∉c.Hd:=λa r=>b.ye r;have nq:∀a∈p::q,a∉M1++T:=m2;have n1q:∀a∈k,a∉p::q:=λa r hq=>n3 a r a (QR _ (QO _ hq)) rfl;have n1m:∀a∈k,a∉M1++T:=λa r hq=>by
   rcases Q0.mp hq with z|z
   .exact n3 a r a (QR _ (QR _ z)) rfl
   .exact n3 a r a (QO _ z) rfl
  let m:Cn:={ c with H0:=H,Lp:=M1++T,Hd:=k++c.Hd,Wk:=[] }
  have g2in:∀{H':Hp}{K:List Addr}{a:Addr},a∈K\/a∈k\/a∈c.Hd->m.g H' K a=none:=λ{H' K a} h=>gZ (c:=m) (by rcases h with h|h|h;exact .inl h;exact .inr (QR _ h);exact .inr (QO _ h));have D:∀{H':Hp}{K:List Addr}{a:Addr},a∉K->a∉k->a∉c.Hd->m.g H' K a=H' a:=λ{H' K a} h1 h2 h3=>bM (c:=m) h1 (λy=>by rcases Q0.mp y with z|z;exact h2 z;exact h3 z);have sm0:Sq (c.g H L) (m.g H (M1++T)):=λa u e=>by
   by_cases z:a∈L\/a∈c.Hd
   .rw[gZ z] at e;cases e
   .have n:a∉L:=λy=>z (.inl y);rw[bM n (λy=>z (.inr y))] at e;refine⟨u,?_,.inl rfl⟩;rw[D (λy=>n ((Q a).mpr (.inr (.inr y)))) (λy=>n ((Q a).mpr (.inl y))) (λy=>z (.inr y))];exact e
  have es2:Y.set i (some (.ref p))=Y:=by
   apply Sy;intro j;by_cases O:i=j
   .subst O;rw[Q9 (QP.mp hx).1,hx]
   .rw[Rk O]
  refine⟨m,rfl,⟨M1++T,m1,?_,λa r=>.inl r,⟨λa o e=>⟨o,e,λ_ _=>rfl⟩,λw S=>nomatch S⟩,λj o O w0=>?_,rfl,λa r=>?_⟩,?_⟩
  .have i1:=ins (G':=m.g H (M1++T)) (H':=H) (y:=some (.ref p)) (t:=.fr (LO.nob cn fs ls).a) (L':=[]) sm0 (λ_ _ _ e=>e) (.fr (lr.a' sm0 λa r u e=>by rw[D (nq a r) (λy=>n1q a y r) (J a ((Q a).mpr (.inr (.inl r))))];exact e))
   rw[es2,RO] at i1;exact i1
  .by_cases I:i=j
   .subst I;rw[Q9 (QP.mp es).1] at O;cases O;cases w0
   .rw[Rk I] at O;exact b.kp j o O w0
  .rcases Q0.mp r with z|z
   .exact⟨N a ((Q a).mpr (.inl z)),n1m a z⟩
   .obtain⟨⟨u,V⟩,_⟩:=b.hd a z;obtain⟨u',h1,_⟩:=b.fr.st a u V;exact⟨⟨u',h1⟩,λy=>J a ((Q a).mpr (.inr (.inr y))) z⟩
  .rintro H' U F X ⟨L',P⟩ ⟨a0,ea0⟩ hpl hp1;have iM:∀a u,H a=some u->a∉M1++T->H' a=some u:=λa u e na=>by obtain⟨u',h1,h2⟩:=P.fr.st a u e;rw[h1,h2 na λw S=>nomatch S]
   have E:∀a∈p::q,∀u,H a=some u->H' a=some u:=λa r u e=>iM a u e (nq a r);have h1':∀a∈k,∀u,H a=some u->H' a=some u:=λa r u e=>iM a u e (n1m a r);have npL:∀a∈p::q,a∉L':=λa r y=>by
    rcases P.own a y with z|z
    .exact nq a r z
    .obtain⟨u,V⟩:=N a ((Q a).mpr (.inr (.inl r)));have z:H a=none:=z;rw[V] at z;cases z
   have n1L:∀a∈k,a∉L':=λa r y=>P.ye y (QR _ r);obtain⟨K1,K2,e5,t1,t2⟩:=ax.split P.lt P.rel;obtain⟨y,R,N2,N3,hy,hys,e4,ins2⟩:=t2.FL ea0;have yp:y=some (.ref p):=by rw[hx] at hy;exact(Rj hy).symm
   subst yp;cases hys with
   |fr hra=>
    have eL:L'=K1++(R++N3):=by rw[e5,e4];simp
    have pm:(K1++(k++(R++((p::q)++N3)))).Perm (k++((p::q)++L')):=by rw[eL,S3];intro a;simp only[Tc];lia
    have hN:∀a,a∈K1++(k++(R++((p::q)++N3)))↔a∈k\/a∈p::q\/a∈L':=λa=>by rw[pm.mem_iff,Q0,Q0]
    have lq:Tq (m.g H' L') (c.g H' (K1++(k++(R++((p::q)++N3))))):=λa u e nl ni=>by
     by_cases z:a∈L'\/a∈k\/a∈c.Hd
     .rw[g2in z] at e;cases e
     .rw[D (λy=>z (.inl y)) (λy=>z (.inr (.inl y))) (λy=>z (.inr (.inr y)))] at e;rw[bM (λy=>?_) (λy=>z (.inr (.inr y)))]
      .exact e
      .rcases(hN a).mp y with w|w|w
       .exact z (.inr (.inl w))
       .rcases lr.kind a w with ⟨us,V⟩|⟨C,dx,fs,V⟩
        .rw[E a w _ V] at e;exact nl us (Rj e).symm
        .rw[E a w _ V] at e;exact ni C dx fs (Rj e).symm
       .exact z (.inl w)
    have sq:Sq (c.g H L) (c.g H' (K1++(k++(R++((p::q)++N3))))):=λa u e=>by
     by_cases z:a∈L\/a∈c.Hd
     .rw[gZ z] at e;cases e
     .have n:a∉L:=λy=>z (.inl y);rw[bM n (λy=>z (.inr y))] at e;refine⟨u,?_,.inl rfl⟩;rw[bM (λy=>?_) (λy=>z (.inr y))]
      .exact iM a u e λy=>n ((Q a).mpr (.inr (.inr y)))
      .rcases(hN a).mp y with w|w|w
       .exact n ((Q a).mpr (.inl w))
       .exact n ((Q a).mpr (.inr (.inl w)))
       .rcases P.own a w with v|v
        .exact n ((Q a).mpr (.inr (.inr v)))
        .have v:H a=none:=v;rw[e] at v;cases v
    have Ij:ax c.toKx (c.g H' (K1++(k++(R++((p::q)++N3))))) H' Y (U.set i s) (R++((p::q)++N3)):=by
     refine ins2 (λ{x t L} j hx O hne h=>?_) (mk _ _ (lr.sm sq E));rcases hpl j t hne O with z|⟨a1,rfl,ej⟩
     .exact h.pl lq z
     .obtain⟨x',_,_,_,hx',hs',_⟩:=r2.at ej;rw[hx] at hx';cases hx';cases hs' with
      |fr ra=>
       cases h with
       |fr _=>exact .fr (ra.sm sq)
    have tem:ax c.toKx (c.g H' (K1++(k++(R++((p::q)++N3))))) H' F X K1:=t1.Fi λj O h=>h.pl lq (Sd.mp hp1 _ (RF O));refine⟨λf a ⟨p',C,dx,ws,g1,g2,g3⟩=>?_,?_⟩
    .rw[hx] at g1;cases g1;exact⟨p,C,dx,ws,hx,E p Q5 _ g2,g3⟩
    refine⟨K1++(k++(R++((p::q)++N3))),?_,(by rw[QQ,QQ];exact tem.app ((r1.sm sq h1').app Ij)),λa r=>?_,⟨λa o e=>?_,λw S=>?_⟩,λj o O w0=>?_,(by rw[Rc,Rc,P.lt,b.lt]),b.hd⟩
    .refine(pm.nodup_iff).mpr (Q2.mpr ⟨n1,Q2.mpr ⟨ndq,P.nd,λa r b hb z=>npL a r (by rw[z];exact hb)⟩,λa r b hb z=>?_⟩);subst z;rcases Q0.mp hb with w|w
     .exact n1q a r w
     .exact n1L a r w
    .rcases(hN a).mp r with w|w|w
     .exact b.own a ((Q a).mpr (.inl w))
     .exact b.own a ((Q a).mpr (.inr (.inl w)))
     .rcases P.own a w with v|v
      .exact b.own a ((Q a).mpr (.inr (.inr v)))
      .exact .inr (b.fr.fresh v)
    .obtain⟨u,f1,f2⟩:=b.fr.st a o e;obtain⟨u',g1,g2⟩:=P.fr.st a u f1;refine⟨u',g1,λk1 d=>?_⟩;rw[g2 (λy=>?_) λw S=>nomatch S]
     .exact f2 k1 d
     .rcases b.own a ((Q a).mpr (.inr (.inr y))) with v|v
      .exact k1 v
      .rw[e] at v;cases v
    .obtain⟨k1,d,k3⟩:=b.fr.pk w S;refine⟨iM _ _ k1 λy=>?_,d,k3⟩;have hw2:=(Q w.1).mpr (.inr (.inr y));obtain⟨ob,vs,d⟩:=d;exact b.rel.zt _ hw2 ob vs (by rw[k1,d])
    .by_cases I:i=j
     .subst I;have hlt:i<U.length:=(QP.mp ea0).1;rw[Q9 hlt] at O;cases O;exact b.kp i _ es w0
     .rw[Rk I] at O;exact P.kp j o O w0
 rcases hs with rfl|rfl
 .cases l with
  |lv h=>exact key _ _ rfl rfl h λG H' h=>.lv h
 .cases l with
  |pv h=>exact key _ _ rfl rfl h λG H' h=>.pv h
end
noncomputable def OJ:Sl->Bool
 | .fr _=>true
 | .un=>true
 |_=>false
def GZ(i:Nat)(Z:List Sl):Bool:=(Z.set i .un).all OJ
def om(i:Nat)(Z:List Sl):Option LO:=match Z[i]? with
 |some (.lv (.nob c fs ls))=>some (.nob c fs ls)
 |some (.pv (.nob c fs ls))=>some (.nob c fs ls)
 |_=>none
variable{o:LO}
theorem uF(h:om i Z=some o):∃s cn fs ls,o=.nob cn fs ls/\Z[i]?=some s/\(s=.lv (.nob cn fs ls)\/s=.pv (.nob cn fs ls)):=by
 delta om at h
 cases e:Z[i]? with
 |none=>rw[e] at h;cases h
 |some s=>
  rw[e] at h;cases s with
  |lv o=>cases o with
   |nob cn fs ls=>cases h;exact⟨_,cn,fs,ls,rfl,rfl,.inl rfl⟩
   |_=>cases h
  |pv o=>cases o with
   |nob cn fs ls=>cases h;exact⟨_,cn,fs,ls,rfl,rfl,.inr rfl⟩
   |_=>cases h
  |_=>cases h
open Classical in
def iS(i:Nat)(m:Mi Rr)(Z:List Sl):Option Rr:=match om i Z with
 |some o=>match m (Z.set i (.fr o.a)) with
  |some (.ok r,U)=>if U=Z.set i (.fr o.a)/\GZ i Z=true/\Ov r=true then some r else none
  |_=>none
 |none=>none
variable{r:Rr}
theorem uI{m:Mi Rr}(h:iS i m Z=some r):∃o,om i Z=some o/\m (Z.set i (.fr o.a))=some (.ok r,Z.set i (.fr o.a))/\GZ i Z=true/\Ov r=true:=by
 delta iS at h
 cases e:om i Z with
 |none=>rw[e] at h;cases h
 |some o=>
  rw[e] at h;dsimp only at h;cases e1:m (Z.set i (.fr o.a)) with
  |none=>rw[e1] at h;cases h
  |some p=>
   obtain⟨x,U⟩:=p;rw[e1] at h;cases x with
   |error _=>cases h
   |ok r'=>
    dsimp only at h;split at h
    .rename_i z;cases h;exact⟨o,rfl,by rw[z.1] at e1;exact e1,z.2.1,z.2.2⟩
    .cases h
variable{Q:VK}
section
variable{X:Cx}{E:XK}
theorem wz{E:XK}{m:Mi Rr}(x:c.toKx=K)(b:Bd c Y H Z B θ)(h:iS i m Z=some r)
  (q:∀v V,VR Y r v->(∀f a,Cf Y H i f a->Cf Y V i f a)->Bd c Y V Z (cM r v B) (cL r θ)->Q v V):kQ K E m Y H Q:=by
 obtain⟨o,h1,h2,h3,h4⟩:=uI h;obtain⟨s,cn,fs,ls,rfl,es,hs⟩:=uF h1;obtain⟨U,S,J,D⟩:=Bd.LQ b es hs;have hi:i<Z.length:=(QP.mp es).1;have back:(Z.set i (.fr (LO.nob cn fs ls).a)).set i s=Z:=by
  apply Sy;intro j;by_cases O:i=j
  .subst O;rw[Q9 (by simpa using hi),es]
  .rw[Rk O,Rk O]
 have cond:∀j t,j≠i->(Z.set i (.fr (LO.nob cn fs ls).a))[j]?=some t->yd t=true\/∃a,t=.fr a/\Z[j]?=some (.fr a):=λj t O e=>by
  rw[Rk (RP O)] at e;have z:=Sd.mp h3 t (RF (i:=j) (by rw[Rk (RP O)];exact e));cases t with
  |fr a=>exact .inr ⟨a,rfl,e⟩
  |un=>exact .inl rfl
  |_=>cases z
 refine⟨U,_,[],[],.ok r,_,S.trans x,J,h2,λv V A b1=>?_⟩;cases r with
 |rf j=>cases h4
 |fr a=>obtain⟨g,w⟩:=D V _ [some v] [.fr a] b1 ⟨_,Q9 hi⟩ cond (by simp only[Rh,TH,S4];exact h4);rw[back] at w;exact q v V A g w
 |nw o=>obtain⟨g,w⟩:=D V _ [some v] [.lv o] b1 ⟨_,Q9 hi⟩ cond (by simp only[Rh,TH,S4];exact h4);rw[back] at w;exact q v V A g w
end
section
variable{X:Cx}{pins:List (Addr×Obj)}{Y:St}{H:Hp}{s:Shared}{a C dx:Addr}{fs Z1:List (Str×V)}{f:Str}{o value:Expr}{ta tv:TE}{pos pos':Pos}
theorem oz(I:Inv X pins Y H s)(e:H a=some (.ins C dx fs))(hl:∀g,Z1.lookup g=fs.lookup g)(c:∀g,g∈fs.map (·.1)->g∈Z1.map (·.1))(hz:Z1.length<=1000):Inv X pins Y (upd H a (.ins C dx Z1)) s:=by
 obtain⟨d,z,ne,ob,mA,n,r,q⟩:=(show c9 X.prog X.w H s.heap a (.ins C dx fs) from I.hok a _ e)
 exact I.write (x:=a) (e:=dx) (o:=.ins C dx Z1) (h':=s.heap) (t':=s.toks) (by rw[e];exact V3) (.inr d) (λb u _ e=>e) (I.hok dx _ d) ⟨by rw[ao ne];exact d,hz,ne,ob,mA,n,λf=>by rw[hl];exact r f,λy hy=>c y (q y hy)⟩
def MS(K:QN)(ta tv:TE)(f:Str):TS:=λD Y H=>tv Y H λy V=>ta Y V λx U=>∃a C dx fs Z1,x=.ref a/\U a=some (.ins C dx fs)/\gN K C/\bY K C f/\fs.length<1000 /\
 (∀g,Z1.lookup g=(dR f y fs).lookup g)/\(∀g,g∈(dR f y fs).map (·.1)->g∈Z1.map (·.1))/\Z1.length<=1000/\D.nx Y (upd U a (.ins C dx Z1))
theorem uY(H:Hp)(a:Addr)(x y:HO):upd (upd H a x) a y=upd H a y:=by
 funext b
 by_cases e:b=a
 .rw[e,aJ,aJ]
 .rw[ao e,ao e,ao e]
theorem u4(r:PE X o ta)(A:PE X value tv)(hs:X9 value (some (.Attribute o f pos')) pos.line X.env=pure false):PS X (.Assign [.Attribute o f pos'] value pos) (MS X.K ta tv f):=by intro pins s Y H D I h;refine plainObj_wpAny_Assign_Attribute (cE (A pins s Y H _ I h) λu s1 ⟨y,V,L,P,q⟩=>cE (r pins s1 Y V _ L q) λZ s2 ⟨x,U,k,i,a,C,dx,fs,Z1,ex,E,c,n,l,S,J,p,B⟩=>?_) hs;subst ex;obtain rfl:Z=R9 a:=i;exact tU k E c n l P λT F=>⟨Y,_,by have z:=oz F aJ S J p;rw[uY] at z;exact z,B⟩
end
section
variable{c:Cn}{Y:St}{H:Hp}{Z:List Sl}{B:St}{θ:List Sl}{L K:List Addr}
noncomputable def Py(s:Sl)(o:LO):Sl:=match s with
 | .lv _=>.lv o
 |_=>.pv o
def qK(c:Cn)(Y:St)(H:Hp)(Z:List Sl)(B:St)(θ:List Sl)(i:Nat)(cn:Str)(fs:List (Str×A))(ls:List (Str×List A))(G:Hp)(K:List Addr):Prop:=
 ∃p C dx vs ws q,Y[i]?=some (some (.ref p))/\H p=some (.ins C dx (vs++ws))/\c.mg cn=some (.ref C)/\ip c.toKx G vs fs/\eX c.toKx G H ws ls q/\q.Nodup/\p∉q/\p∉K/\(∀a∈K,a∉q) /\
  ∀x v h X t,(∀G',Sq G G'->(∀z∈q,z∉t->∀u,H z=some u->G' z=some u)->ip c.toKx G' h x)->eX c.toKx G (upd H p (.ins C dx (h++X))) X v t->t.Nodup->(∀z∈t,z∈q\/z∈K)->Bd c Y (upd H p (.ins C dx (h++X))) (setAt Z i (.nob cn x v)) B θ
theorem mS{fs:List (Str×A)}{ls:List (Str×List A)}(ye:∀z∈K++L,z∉c.Hd)(nd:(K++L).Nodup)(lt:B.length=θ.length)(rel:ax c.toKx (c.g H (K++L)) H (B++Y) (θ++Z) L)(own:∀z∈K++L,z∈c.Lp\/c.H0 z=none)(fr:Fr c H)(kp:fg c.σ0 Y Z)
  (mkB:∀H' O L',L'.Nodup->ax c.toKx (c.g H' L') H' (B++Y) (θ++O) L'->(∀z∈L',z∈c.Lp\/c.H0 z=none)->Fr c H'->fg c.σ0 Y O->Bd c Y H' O B θ)
  (R:aE Z i=some (.nob cn fs ls)):qK c Y H Z B θ i cn fs ls (c.g H (K++L)) K:=by
 have ndL:L.Nodup:=(Q2.mp nd).2.1;obtain⟨k,L2,e1,r1,r2⟩:=ax.split lt rel;have key:∀(s:Sl),Z[i]?=some s->(s=.lv (.nob cn fs ls)\/s=.pv (.nob cn fs ls))->(∀o',setAt Z i o'=Z.set i (Py s o'))->qK c Y H Z B θ i cn fs ls (c.g H (K++L)) K:=by
  intro s es P Q;obtain⟨x,M1,M2,T,hx,hs,e2,ins⟩:=r2.at es;have b:∀p q,x=some (.ref p)->M2=p::q->LR c.toKx (c.g H (K++L)) H p (.nob cn fs ls) q->(∀G H' o' t,LR c.toKx G H' p o' t->fE c.toKx G H' (some (.ref p)) (Py s o') (p::t))->qK c Y H Z B θ i cn fs ls (c.g H (K++L)) K:=by
   intro p q ex em2 lr mk;subst ex em2;cases lr with
   |nob e m r l=>
    rename_i C dx vs ws;have U:=ndL;rw[e1,e2] at U;obtain⟨n1,n2,f⟩:=Q2.mp U;obtain⟨m1,d⟩:=jo n2;have D:(p::q).Nodup:=(Q2.mp (Q2.mp n2).1).2.1;have pL:p∈L:=by rw[e1,e2];simp
    have qL:∀z∈q,z∈L:=λz hz=>by rw[e1,e2];simp[hz]
    have I:∀z∈K,z∉L:=λz hz hy=>(Q2.mp nd).2.2 z hz z hy rfl;refine⟨p,C,dx,vs,ws,q,hx,e,m,r,l,(Rn.mp D).2,(Rn.mp D).1,λhp=>I p hp pL,λa ha hq=>I a ha (qL a hq),λZ1 ls' X v t rf ol n sub=>?_⟩;have E:p∉t:=λhp=>by
     rcases sub p hp with z|z
     .exact(Rn.mp D).1 z
     .exact I p z pL
    have N:∀z∈k++(M1++(p::t)++T),z∈K++L:=λz hz=>by
     have:z∈L\/z∈t:=by
      rw[e1,e2];simp only[Q0,QV] at hz ⊢;rcases hz with h|(h|h|h)|h
      .exact .inl (.inl h)
      .exact .inl (.inr (.inl (.inl h)))
      .exact .inl (.inr (.inl (.inr (.inl h))))
      .exact .inr h
      .exact .inl (.inr (.inr h))
     rcases this with h|h
     .exact QO _ h
     .rcases sub z h with h|h
      .exact QO _ (qL z h)
      .exact QR _ h
    have sq:Sq (c.g H (K++L)) (c.g (upd H p (.ins C dx (X++v))) (k++(M1++(p::t)++T))):=λz u ez=>by
     by_cases hz:z∈K++L\/z∈c.Hd
     .rw[gZ hz] at ez;cases ez
     .rw[bM (λy=>hz (.inl y)) (λy=>hz (.inr y))] at ez;refine⟨u,?_,.inl rfl⟩;rw[bM (λy=>hz (.inl (N z y))) (λy=>hz (.inr y)),ao λ(y:z=p)=>hz (.inl (by rw[y];exact QO _ pL))];exact ez
    have J:∀z∈t,z∉k/\z∉M1++T:=λz hz=>by
     rcases sub z hz with h|h
     .exact⟨λy=>f z y z (by simp[h]) rfl,d z (QW _ h)⟩
     .refine⟨λy=>I z h (by rw[e1];simp[y]),λy=>I z h ?_⟩;rw[e1,e2];rcases Q0.mp y with w|w<;>simp[w]
    have V:∀z∈k++(M1++T),z≠p:=λz hz y=>by
     subst y;rcases Q0.mp hz with w|w
     .exact f _ w _ Z4 rfl
     .exact d z Z4 w
    have keep:∀z∈k++(M1++T),∀u,H z=some u->upd H p (.ins C dx (X++v)) z=some u:=λz hz u e=>by rw[ao (V z hz)];exact e
    refine mkB _ _ (k++(M1++(p::t)++T)) ?_ ?_ (λz hz=>own z (N z hz)) ?_ ?_
    .have pm:(k++(M1++(p::t)++T)).Perm ((p::t)++(k++(M1++T))):=by rw[S3];intro z;simp only[Tc];lia
     refine pm.nodup_iff.mpr (Q2.mpr ⟨Rn.mpr ⟨E,n⟩,?_,λz hz y hy e=>?_⟩)
     .refine Q2.mpr ⟨n1,m1,λz hz y hy e=>?_⟩;subst e;exact f z hz z (by rcases Q0.mp hy with w|w<;>simp[w]) rfl
     .subst e;rcases QV.mp hz with rfl|hz
      .exact V z hy rfl
      .rcases Q0.mp hy with w|w
       .exact(J z hz).1 w
       .exact(J z hz).2 w
    .rw[Q];have rf':=rf (c.g (upd H p (.ins C dx (X++v))) (k++(M1++(p::t)++T))) sq λz hz nz u e=>by
      have zp:z≠p:=λy=>(Rn.mp D).1 (y▸hz);rw[bM (λy=>?_) (ye z (QO _ (qL z hz))),ao zp]
      .exact e
      .simp only[Q0,QV] at y;rcases y with y|(y|y|y)|y
       .exact f z y z (by simp[hz]) rfl
       .exact d z (QW _ hz) (by simp[y])
       .exact zp y
       .exact nz y
       .exact d z (QW _ hz) (by simp[y])
     have i1:=ins (G':=c.g (upd H p (.ins C dx (X++v))) (k++(M1++(p::t)++T))) (H':=upd H p (.ins C dx (X++v))) (y:=some (.ref p)) (L':=p::t) sq (λz hz=>keep z (QO _ hz)) (mk _ _ (.nob cn Z1 ls') t (.nob (by rw[aJ]) m rf' (ol.sm sq λz _ u e=>e)));have es2:Y.set i (some (.ref p))=Y:=by
      apply Sy;intro j;by_cases F:i=j
      .subst F;rw[Q9 (QP.mp hx).1,hx]
      .rw[Rk F]
     rw[es2] at i1;exact(r1.sm sq λz hz=>keep z (QR _ hz)).app i1
    .refine⟨λz o e'=>?_,λw hw=>?_⟩
     .obtain⟨u,u1,u2⟩:=fr.st z o e';by_cases hz:z=p
      .subst hz;refine⟨_,aJ,λna _=>?_⟩;rcases own z (QO _ pL) with y|y
       .exact absurd y na
       .rw[y] at e';cases e'
      .exact⟨u,by rw[ao hz];exact u1,u2⟩
     .obtain⟨k1,k2,k3⟩:=fr.pk w hw;refine⟨?_,k2,k3⟩;rw[ao λz=>?_]
      .exact k1
      .obtain⟨ob,us',k2⟩:=k2;rw[z,e] at k1;rw[k2] at k1;cases k1
    .rw[Q];intro j o F w;by_cases S:i=j
     .subst S;rw[Q9 (QP.mp es).1] at F;rcases P with rfl|rfl
      .cases F;cases w
      .exact kp i _ es rfl
     .rw[Rk S] at F;exact kp j o F w
  rcases P with rfl|rfl
  .cases hs with
   |lv h=>exact b _ _ rfl rfl h λG H' o' t h=>.lv h
  .cases hs with
   |pv h=>exact b _ _ rfl rfl h λG H' o' t h=>.pv h
 unfold aE at R;cases es:Z[i]? with
 |none=>rw[es] at R;cases R
 |some s=>
  rw[es] at R;cases s with
  |un=>cases R
  |cf _=>cases R
  |fr a=>cases R
  |lv o1=>cases R;exact key _ es (.inl rfl) λo'=>by unfold setAt;rw[es];rfl
  |pv o1=>cases R;exact key _ es (.inr rfl) λo'=>by unfold setAt;rw[es];rfl
theorem Bd.Gz{fs:List (Str×A)}{ls:List (Str×List A)}{a:Addr}{xs:List A}(b:Bd c Y H Z (some (.ref a)::B) (.lv (.lst xs)::θ))(R:aE Z i=some (.nob cn fs ls)):
  ∃G us,H a=some (.lst us)/\bU c.toKx G us xs/\qK c Y H Z B θ i cn fs ls G [a]:=by
 obtain⟨L,b⟩:=b;have rel:ax c.toKx (c.g H L) H (some (.ref a)::(B++Y)) (.lv (.lst xs)::(θ++Z)) L:=b.rel;have lt:B.length=θ.length:=by simpa using b.lt
 cases rel with
 |cons h r=>
  rename_i Q L';cases h with
  |lv p=>
   cases p with
   |lst E x=>rename_i us;exact⟨_,us,E,x,mS (K:=[a]) (λz hz=>b.ye hz) b.nd lt r b.own b.fr b.kp (λH' O L2 e q k X v=>⟨L2,e,q,k,X,v,lt,b.hd⟩) R⟩
theorem d9.By{fs:List (Str×A)}{ls:List (Str×List A)}(b:d9 c Y H Z B θ L)(R:aE Z i=some (.nob cn fs ls)):qK c Y H Z B θ i cn fs ls (c.g H L) []:=
 mS (K:=[]) (λz hz=>b.ye hz) b.nd b.lt b.rel b.own b.fr b.kp (λH' O L2 e q G X v=>⟨L2,e,q,G,X,v,b.lt,b.hd⟩) R
end
noncomputable def cI{α:Type}(f:Str):List (Str×α)->List (Str×α)
 |[]=>[]
 |(y,v)::r=>if f==y then cI f r else (y,v)::cI f r
section
variable{α:Type}{f g:Str}{k:Kx}{G H H':Hp}
theorem jM:∀{l:List (Str×α)},(cI f l).lookup g=if g=f then none else l.lookup g
 |[]=>by split<;>rfl
 |(y,v)::r=>by
  have m:=jM (l:=r);unfold cI;by_cases c:(f==y)=true
  .rw[Zx c,m,Q6];have:=eq_of_beq c;subst this;by_cases e:g=f
   .rw[Zx e,Zx e]
   .rw[Zy e,Zy e,beq_eq_false_iff_ne.mpr e]
  .rw[Zy c,Q6,Q6,m];by_cases e:g=f
   .subst e;rw[Zx rfl,Zx rfl];cases z:(g==y) with
    |true=>exact absurd z c
    |false=>rfl
   .rw[Zy e,Zy e]
theorem gL:∀{l:List (Str×α)},(cI f l).length<=l.length
 |[]=>QY _
 |(y,v)::r=>by
  have m:=gL (l:=r);unfold cI;split
  .exact Wf m
  .exact Ub m
theorem mW:∀{l:List (Str×α)},g∈l.map (·.1)↔l.lookup g≠none
 |[]=>by simp
 |(y,v)::r=>by
  have m:=mW (l:=r);rw[RC,QV,Q6];cases c:(g==y) with
  |true=>simp[eq_of_beq c]
  |false=>simp only[beq_eq_false_iff_ne.mp c,false_or];exact m
theorem l8{l G:List (Str×α)}(h:∀g,G.lookup g=l.lookup g)(g:Str):g∈l.map (·.1)->g∈G.map (·.1):=λz=>mW.mpr (by rw[h];exact mW.mp z)
theorem ip.del:∀{vs:List (Str×V)}{fs:List (Str×A)},ip k G vs fs->ip k G (cI f vs) (cI f fs)
 |_,_,.nil=>.nil
 |(y,v)::vs,_,.cons h r=>by
  have m:=ip.del r;unfold cI;split
  .exact m
  .exact .cons h m
theorem eX.del:∀{ws:List (Str×V)}{ls:List (Str×List A)}{q:List Addr},eX k G H ws ls q->q.Nodup->∃Y,eX k G H (cI f ws) (cI f ls) Y/\Y.Nodup/\∀z∈Y,z∈q
 |_,_,_,.nil,_=>⟨[],.nil,.nil,λ_ h=>h⟩
 |(y,_)::ws,_,_,.cons (a:=a) e r t,nd=>by
  obtain⟨Y,h1,h2,h3⟩:=eX.del t (Rn.mp nd).2;unfold cI;split
  .exact⟨Y,h1,h2,λz hz=>QW _ (h3 z hz)⟩
  .exact⟨a::Y,.cons e r h1,Rn.mpr ⟨λz=>(Rn.mp nd).1 (h3 _ z),h2⟩,λz hz=>by
    rcases QV.mp hz with rfl|hz
    .exact Q5
    .exact QW _ (h3 z hz)⟩
theorem eX.snoc{a:Addr}{us:List V}{xs:List A}(e:H a=some (.lst us))(r:bU k G us xs):∀{ws:List (Str×V)}{ls:List (Str×List A)}{q:List Addr},eX k G H ws ls q->eX k G H (ws++[(f,.ref a)]) (ls++[(f,xs)]) (q++[a])
 |_,_,_,.nil=>.cons e r .nil
 |_,_,_,.cons e' r' t=>.cons e' r' (eX.snoc e r t)
theorem eX.qP:∀{ws:List (Str×V)}{ls:List (Str×List A)}{q:List Addr},eX k G H ws ls q->ws.length=ls.length
 |_,_,_,.nil=>rfl
 |_,_,_,.cons _ _ t=>ZC (·+1) (eX.qP t)
end
section
variable{X:Cx}{E:XK}
def iY(cs:List Str)(i:Nat)(f:Str)(m:Mi Rr):Ms:=cX m λr Z=>match r,aE Z i with
 | .nw (.lst xs),some (.nob c fs ls)=>if cs.contains c&&SG (fs.length+ls.length) 900 then some (.nx,setAt Z i (.nob c (cI f fs) (cI f ls++[(f,xs)]))) else none
 | .nw (.lst xs),some (.obj c fs)=>if cs.contains c&&SG fs.length 900&&(fs.lookup f).isNone then some (.nx,setAt Z i (.nob c fs [(f,xs)])) else none
 |_,_=>none
theorem CV{x:Str}{m:Mi Rr}(hN:X.N[i]?=some x)(A:ku X.env.scope x)(hd:fC x)(T:lA x)(hc:∀c C,cs.contains c=true->X.mg c=some (.ref C)->gN X.K C/\bY X.K C f)(he:JE X E e m)
  (hs:X9 e (some (.Attribute (.Name x px) f p1)) pos.line X.env=pure false):JS X E (.Assign [.Attribute (.Name x px) f p1] e pos) (iY cs i f m):=
 ⟨PS.weaken (u4 (bS hN A hd T) he.p hs) λD Y H h=>by
  obtain⟨c,Z,B,θ,fl,O,t,b,em,q⟩:=h;refine d6 t b em q λr v U H1 A b1 P=>?_;cases r with
  |rf j=>cases P
  |fr a=>cases P
  |nw o=>
   cases o with
   |lst xs=>
    cases R:aE U i with
    |none=>rw[R] at P;cases P
    |some lo=>
     rw[R] at P;cases lo with
     |nob cn fs ls=>
      dsimp only at P;by_cases hl:(cs.contains cn&&SG (fs.length+ls.length) 900)=true
      .rw[Zx hl] at P;cases P;rw[QM] at hl;have Q:=RS hl.2;obtain⟨a,rfl⟩:=Bd.tP b1;obtain⟨G,us,ha,ra,p,C,dx,vs,ws,q0,h1,h2,h3,h4,h5,F,h7,h8,h9,fin⟩:=b1.Gz R;have J:X.mg cn=some (.ref C):=by have:=ZC (λk:Kx=>k.mg cn) t;simp only at this;rw[<-this];exact h3
       obtain⟨L,I⟩:=hc cn C hl.1 J;obtain⟨q',o1,o2,n⟩:=eX.del (f:=f) h5 F;have lv:=h4.len;have lw:=h5.qP;have S:p≠a:=λz=>h8 (Rl.mpr z);have d:∀g,(cI f vs++(cI f ws++[(f,V.ref a)])).lookup g=(dR f (.ref a) (vs++ws)).lookup g:=λg=>by
        rw[eH,RH,RH,jM,jM,RH];by_cases e:g=f
        .simp only[Zx e];rw[e];simp
        .simp only[Zy e];rw[Q6,beq_eq_false_iff_ne.mpr e];simp
       refine⟨_,h1,p,C,dx,vs++ws,cI f vs++(cI f ws++[(f,V.ref a)]),rfl,h2,L,I,by rw[Rc];lia,d,l8 d,?_,q Y _ (fin _ _ _ _ (q'++[a]) (λ_ s _=>h4.del.sm s) (eX.snoc ?_ ra (o1.sm (Sq.refl _) λz hz u e=>?_)) ?_ ?_)⟩
       .have:=gL (f:=f) (l:=vs);have:=gL (f:=f) (l:=ws);simp only[Rc,Tp];lia
       .rw[ao S.symm];exact ha
       .rw[ao λ(y:z=p)=>h7 (by rw[<-y];exact n z hz)];exact e
       .exact Q2.mpr ⟨o2,by simp,λz hz y hy e=>h9 a (Rl.mpr rfl) (by rw[<-Rl.mp hy,<-e];exact n z hz)⟩
       .intro z hz;rcases Q0.mp hz with w|w
        .exact .inl (n z w)
        .exact .inr w
      .rw[Zy hl] at P;cases P
     |obj cn fs=>
      dsimp only at P;by_cases hl:(cs.contains cn&&SG fs.length 900&&(fs.lookup f).isNone)=true
      .rw[Zx hl] at P;cases P;rw[QM,QM,RM] at hl;have Q:=RS hl.1.2;obtain⟨a,rfl⟩:=Bd.tP b1;obtain⟨p,C,dx,vs,h1,h2,h3,h4,h5,F⟩:=Bd.give (f:=f) b1 R;have J:X.mg cn=some (.ref C):=by have:=ZC (λk:Kx=>k.mg cn) t;simp only at this;rw[<-this];exact h3
       obtain⟨L,I⟩:=hc cn C hl.1.1 J;have z:=sE f (.ref a) (h5 hl.2);exact⟨_,h1,p,C,dx,vs,vs++[(f,.ref a)],rfl,h2,L,I,by lia,λg=>by rw[z],λg hg=>by rw[z] at hg;exact hg,by simp only[Rc,Tp];lia,q Y _ F⟩
      .rw[Zy hl] at P;cases P
     |_=>cases P
   | _=>cases P⟩
def dG(cs:List Str)(i:Nat)(f:Str)(m:Mi Rr):Ms:=cX m λr Z=>match bX r Z with
 |some (a,U)=>match aE U i with
  |some (.nob c fs ls)=>if cs.contains c&&SG (fs.length+ls.length) 900 then some (.nx,setAt U i (.nob c (kM f a fs) (cI f ls))) else none
  |some (.obj c fs)=>if cs.contains c&&SG fs.length 900 then some (.nx,setAt U i (.obj c (kM f a fs))) else none
  |_=>none
 |none=>none
theorem En{x:Str}{m:Mi Rr}(hN:X.N[i]?=some x)(A:ku X.env.scope x)(hd:fC x)(T:lA x)(hc:∀c C,cs.contains c=true->X.mg c=some (.ref C)->gN X.K C/\bY X.K C f)(he:JE X E e m)
  (hs:X9 e (some (.Attribute (.Name x px) f p1)) pos.line X.env=pure false):JS X E (.Assign [.Attribute (.Name x px) f p1] e pos) (dG cs i f m):=
 ⟨PS.weaken (u4 (bS hN A hd T) he.p hs) λD Y H h=>by
  obtain⟨c,Z,B,θ,fl,O,t,b,em,q⟩:=h;refine d6 t b em q λr v U V A b1 P=>?_;cases e1:bX r U with
  |none=>rw[e1] at P;cases P
  |some pr=>
   obtain⟨a,F⟩:=pr;rw[e1] at P;dsimp only at P;have b2:=Bd.bX (xs:=[]) (ss:=[]) rfl b1 A e1;cases R:aE F i with
   |none=>rw[R] at P;cases P
   |some lo=>
    rw[R] at P;cases lo with
    |nob cn fs ls=>
     dsimp only at P;by_cases hl:(cs.contains cn&&SG (fs.length+ls.length) 900)=true
     .rw[Zx hl] at P;cases P;rw[QM] at hl;have Q:=RS hl.2;obtain⟨L,bl,w⟩:=Bd.tL b2;obtain⟨p,C,dx,vs,ws,q0,h1,h2,h3,h4,h5,d,h7,h8,h9,fin⟩:=bl.By R;have J:X.mg cn=some (.ref C):=by have:=ZC (λk:Kx=>k.mg cn) t;simp only at this;rw[<-this];exact h3
      obtain⟨j,I⟩:=hc cn C hl.1 J;obtain⟨q',o1,o2,n⟩:=eX.del (f:=f) h5 d;have lv:=h4.len;have lw:=h5.qP;have G:∀g,(dR f v vs++cI f ws).lookup g=(dR f v (vs++ws)).lookup g:=λg=>by
       rw[eH,RH,jM,eH,RH];by_cases e:g=f
       .simp only[Zx e];simp
       .simp only[Zy e]
      refine⟨_,h1,p,C,dx,vs++ws,dR f v vs++cI f ws,rfl,h2,j,I,by rw[Rc];lia,G,l8 G,?_,q Y _ (fin _ _ _ _ q' (λ_ s _=>(h4.put w).sm s) (o1.sm (Sq.refl _) λz hz u e=>?_) o2 λz hz=>.inl (n z hz))⟩
      .have:=gL (f:=f) (l:=ws);have:=fB f v vs;simp only[Rc];lia
      .rw[ao λ(y:z=p)=>h7 (by rw[<-y];exact n z hz)];exact e
     .rw[Zy hl] at P;cases P
    |obj cn fs=>
     dsimp only at P;by_cases hl:(cs.contains cn&&SG fs.length 900)=true
     .rw[Zx hl] at P;cases P;rw[QM] at hl;have Q:=RS hl.2;obtain⟨L,bl,w⟩:=Bd.tL b2;obtain⟨p,_,h1,h2,h3⟩:=bl.live R (.obj cn (kM f a fs)) (match V (match Y[i]? with|some (some (.ref p))=>p|_=>0) with|some (.ins C dx ws)=>.ins C dx (dR f v ws)|_=>.lst []);cases h2 with
      |obj o mm S=>
       rename_i C dx ws;simp only[h1,o] at h3;have J:X.mg cn=some (.ref C):=by have:=ZC (λk:Kx=>k.mg cn) t;simp only at this;rw[<-this];exact mm
       obtain⟨j,I⟩:=hc cn C hl.1 J;have lw:=S.len;exact⟨_,h1,p,C,dx,ws,dR f v ws,rfl,o,j,I,by lia,λg=>rfl,λg hg=>hg,by have:=fB f v ws;lia,q Y _ (h3 λH' hh=>.obj hh mm (S.put w))⟩
     .rw[Zy hl] at P;cases P
    | _=>cases P⟩
end
def Cc:A->A->Option Rr
 | .lst as,.int i=>match eD as with
  |some ns=>match tw ns i with
   |some j=>some (.fr (.int j))
   |none=>none
  |none=>none
 |_,_=>none
noncomputable def B2:A->Bool
 | .lst _=>true
 |_=>false
section
variable{X:Cx}{E:XK}
theorem Kb:jl K (λx y H Q=>FH K.K x [y] H Q) Cc:=.scalar λH v w a b q g l h=>by
 cases a with
 |lst as=>
  cases b with
  |int i=>
   have h:(match eD as with
    |some ns=>match tw ns i with
     |some j=>some (Rr.fr (.int j))
     |none=>none
    | none=>none)=some q:=h
   cases e1:eD as with
   |none=>rw[e1] at h;cases h
   |some ns=>
    rw[e1] at h;dsimp only at h;cases e2:tw ns i with
    |none=>rw[e2] at h;cases h
    |some j=>
     rw[e2] at h;cases h;cases l;cases g with
     |lst e r=>have B:=j7 r e1;subst B;exact⟨_,_,rfl,λ_=>.int _,λQ k=>⟨_,ns,i,j,rfl,rfl,e,e2,k⟩⟩
  |_=>cases h
 |_=>cases h
def vc(mo m:Mi Rr):Mi Rr:=aV mo λx S=>match res S x with
 | some a0=>if B2 a0=true then aV m (λy Z=>match res Z x,res Z y with
  |some a,some b=>match Cc a b with
   |some q=>some (.ok q,Z)
   |none=>none
  | _,_=>none) S else none
 |none=>none
theorem Dl{o:Expr}{mo m:Mi Rr}(ho:JE X E o mo)(he:JE X E e m)
  (hbase:XR o "index" X.env (eval o X.env)=eval o X.env:=by rfl)(hfew:((XW cpos (XM [e] X.env)).all (λx=>!x.1)&&(Yb cpos (X0 [] X.env)).all (λx=>x.1.isSome)&&decide (([e]:List Expr).length+([]:List X8).length+(if ([]:List X8).isEmpty then 0 else 1)<30))=true:=by rfl)
  (hline:(apos.endLine==cpos.line)=true:=by rfl)(hs:XM [e] X.env=(false,eval e X.env)::XM [] X.env:=by rfl)(hplain:(XW cpos (XM [] X.env)).any (·.1)=false:=by rfl):JE X E (.Call (.Attribute o "index" apos) [e] [] cpos) (vc mo m):=
 ⟨PE.weaken (oN Sf TV Vd yP ho.p (aX he.p cw hs) hbase hfew hline hs hplain) λY H Q h=>by
  obtain⟨c,Z,B,θ,oo,O,ek,b,em,q⟩:=h;refine bz ek b em (λx v U H1 hv b1 em1=>?_) (bV q);cases e0:res U x with
  |none=>rw[e0] at em1;cases em1
  |some a0=>
   rw[e0] at em1;dsimp only at em1;by_cases ht:B2 a0=true
   .rw[Zx ht] at em1;have r0:=Bd.rd b1 hv e0;rw[ek] at r0;cases a0 with
    |lst as=>
     cases r0 with
     |lst sq0 _=>refine⟨.inl ⟨rfl,_,sq0⟩,?_⟩;refine bz ek b1 em1 (λy w F H2 hw b2 em2=>?_) (c6 (bV q));obtain⟨a,d,r,e1,e2,e3,rfl,rfl⟩:=vd em2;exact Kb c Y H2 _ B θ x y _ w a d r Q ek hv hw b2 e1 e2 e3 q
    |_=>cases ht
   .rw[Zy ht] at em1;cases em1⟩
end
section
variable{k:Kx}{G H:Hp}{f:Str}
theorem eX.MV:∀{ws:List (Str×V)}{ls:List (Str×List A)}{q:List Addr}{xs:List A},eX k G H ws ls q->q.Nodup->ls.lookup f=some xs->∃a ys Z,ws.lookup f=some (.ref a)/\H a=some (.lst ys)/\bU k G ys xs/\a∈q/\a∉Z/\eX k G H (cI f ws) (cI f ls) Z/\Z.Nodup/\∀z∈Z,z∈q
 |_,_,_,_,.nil,_,h=>nomatch h
 |_,_,_,_,.cons (y:=y) (a:=a0) (us:=us) e r t,nd,h=>by
  have Y:=Rn.mp nd;rw[Q6] at h;rw[Q6];unfold cI;cases hc:f==y with
  |true=>rw[hc] at h;cases h;obtain⟨Z,h1,h2,h3⟩:=eX.del (f:=f) t Y.2;exact⟨a0,us,Z,rfl,e,r,Q5,λz=>Y.1 (h3 _ z),h1,h2,λz hz=>QW _ (h3 z hz)⟩
  |false=>
   rw[hc] at h;obtain⟨a,ys,Z,h1,h2,h3,h4,h5,u,v,c⟩:=eX.MV t Y.2 h;refine⟨a,ys,a0::Z,h1,h2,h3,QW _ h4,λz=>?_,.cons e r u,Rn.mpr ⟨λz=>Y.1 (c _ z),v⟩,λz hz=>?_⟩
   .rcases QV.mp z with rfl|z
    .exact Y.1 h4
    .exact h5 z
   .rcases QV.mp hz with rfl|hz
    .exact Q5
    .exact QW _ (c z hz)
end
section
variable{c:Cn}{Y:St}{H:Hp}{Z:List Sl}{B:St}{θ:List Sl}
theorem Bd.EW{fs:List (Str×A)}{ls:List (Str×List A)}{xs:List A}(b:Bd c Y H Z B θ)(R:aE Z i=some (.nob cn fs ls))(e1:fs.lookup f=none)(e2:ls.lookup f=some xs):
  ∃p C dx ws X,Y[i]?=some (some (.ref p))/\H p=some (.ins C dx ws)/\(∀g,X.lookup g=ws.lookup g)/\(∀g,g∈ws.map (·.1)->g∈X.map (·.1))/\X.length<=fs.length+ls.length+1/\Bd c Y (upd H p (.ins C dx X)) (setAt Z i (.nob cn (fs++[(f,.lst xs)]) (cI f ls))) B θ:=by
 obtain⟨L,bl⟩:=b;obtain⟨p,C,dx,vs,ws,w,h1,h2,h3,h4,h5,F,v,k,O,fin⟩:=bl.By R;obtain⟨a,ys,t,S,J,D,d,q,x,K,h⟩:=eX.MV h5 F e2;have lv:=h4.len;have r:=h5.qP;have Q:vs.lookup f=none:=by
  rcases h4.get f with ⟨_,_,_,y,_⟩|⟨y,_⟩
  .rw[e1] at y;cases y
  .exact y
 have G:∀g,(vs++[(f,V.ref a)]++cI f ws).lookup g=(vs++ws).lookup g:=λg=>by
  rw[QQ];by_cases e:g=f
  .subst e;rw[RH,RH,RH,Q,S];simp
  .rw[RH,RH,RH,jM,Zy e,Q6,beq_eq_false_iff_ne.mpr e];simp
 refine⟨p,C,dx,vs++ws,vs++[(f,V.ref a)]++cI f ws,h1,h2,G,l8 G,?_,fin (fs++[(f,.lst xs)]) (cI f ls) (vs++[(f,V.ref a)]) (cI f ws) t (λG' s kp=>ip.app (h4.sm s) (.cons (.lst (.inl (.inl (kp a d q _ J))) (D.sm s)) .nil)) (x.sm (Sq.refl _) λz hz u e=>?_) K λz hz=>.inl (h z hz)⟩
 .have:=gL (f:=f) (l:=ws);simp only[Rc,Tp];lia
 .rw[ao λ(y:z=p)=>v (by rw[<-y];exact h z hz)];exact e
end
theorem Cd{o':LO}(h:aE Z i=some o):aE (setAt Z i o') i=some o':=by
 delta aE at h
 delta aE setAt
 cases e:Z[i]? with
 |none=>rw[e] at h;cases h
 |some s=>
  rw[e] at h;have hi:=(QP.mp e).1;cases s with
  |lv r=>dsimp only;rw[Q9 hi]
  |pv r=>dsimp only;rw[Q9 hi]
  |_=>cases h
theorem set_set{r o2:LO}(h:aE Z i=some o):setAt (setAt Z i r) i o2=setAt Z i o2:=by
 delta aE at h
 delta setAt
 cases e:Z[i]? with
 |none=>rw[e] at h;cases h
 |some s=>
  rw[e] at h;have hi:=(QP.mp e).1;cases s with
  |lv r=>dsimp only;rw[Q9 hi];simp
  |pv r=>dsimp only;rw[Q9 hi];simp
  |_=>cases h
theorem u0{f:Str}{xs x:List A}:∀{ls:List (Str×List A)},ls.lookup f=some xs->(iJ f x ls).lookup f=some x
 |[],h=>nomatch h
 |(y,zs)::r,h=>by
  rw[Q6] at h;unfold iJ;cases hc:f==y with
  |true=>rw[Zx rfl,Q6,hc]
  |false=>rw[hc] at h;rw[Zy Z4,Q6,hc];exact u0 h
theorem oh{f:Str}{x:List A}:∀{ls:List (Str×List A)},cI f (iJ f x ls)=cI f ls
 |[]=>rfl
 |(y,zs)::r=>by
  unfold iJ;cases hc:f==y with
  |true=>rw[Zx rfl];delta cI;show (if (f==y)=true then _ else _)=(if (f==y)=true then _ else _);rw[hc];rfl
  |false=>rw[Zy Z4];show (if (f==y)=true then cI f (iJ f x r) else (y,zs)::cI f (iJ f x r))=(if (f==y)=true then cI f r else (y,zs)::cI f r);rw[hc,oh]
theorem rj{f:Str}{x:List A}:∀{ls:List (Str×List A)},(iJ f x ls).length=ls.length
 |[]=>rfl
 |(y,zs)::r=>by
  unfold iJ;split
  .rfl
  .rw[Q4,Q4,rj]
section
variable{X:Cx}{E:XK}
theorem AG{t:TE}(h:PE X e t):PE X e (λY H Q=>t Y H λv V=>∃a C dx fs x,V a=some (.ins C dx fs)/\(∀g,x.lookup g=fs.lookup g)/\(∀g,g∈fs.map (·.1)->g∈x.map (·.1))/\x.length<=1000/\Q v (upd V a (.ins C dx x))):=
 λpins s Y H Q I q=>cE (h pins s Y H _ I q) λu s1 ⟨y,V,L,z,a,C,dx,fs,x,e,S,J,D,q⟩=>⟨y,_,oz L e S J D,z,q⟩
def qH(cs:List Str)(Z:List Sl)(i:Nat)(f:Str)(a:A):Option (List Sl):=match aE Z i with
 | some (.nob c fs ls)=>if cs.contains c&&(fs.lookup f).isNone&&SG (fs.length+ls.length) 900 then (match ls.lookup f with
  |some xs=>if xs.length<=100000 then some (setAt Z i (.nob c (fs++[(f,.lst (xs++[a]))]) (cI f ls))) else none
  | none=>none) else none
 |_=>none
theorem tD{O:List Sl}{a:A}(h:qH cs Z i f a=some O):∃c fs ls xs,aE Z i=some (.nob c fs ls)/\fs.lookup f=none/\fs.length+ls.length<=900/\ls.lookup f=some xs/\xs.length<=100000/\ownAt cs Z i f=some xs/\O=setAt Z i (.nob c (fs++[(f,.lst (xs++[a]))]) (cI f ls)):=by
 delta qH at h
 delta ownAt
 cases R:aE Z i with
 |none=>rw[R] at h;cases h
 |some lo=>
  rw[R] at h;cases lo with
  |nob cn fs ls=>
   dsimp only at h;by_cases e:(cs.contains cn&&(fs.lookup f).isNone&&SG (fs.length+ls.length) 900)=true
   .rw[Zx e] at h;rw[QM] at e;have k:=e.1;rw[QM,RM] at k;cases H:ls.lookup f with
    |none=>rw[H] at h;cases h
    |some xs=>
     rw[H] at h;dsimp only at h;by_cases hl:xs.length<=100000
     .rw[Zx hl] at h;cases h;exact⟨cn,fs,ls,xs,rfl,k.2,RS e.2,H,hl,by dsimp only;rw[Zx e.1];exact H,rfl⟩
     .rw[Zy hl] at h;cases h
   .rw[Zy e] at h;cases h
  |_=>cases h
def nB(cs:List Str)(i:Nat)(f:Str)(m:Mi Rr):Mi Rr:=λZ=>match ownAt cs Z i f,iS i m Z with
 |some _,some r=>match bX r Z with
  |some (a,U)=>match qH cs U i f a with
   |some F=>some (.ok (.fr .non),F)
   |none=>none
  |none=>none
 |_,_=>none
theorem CY{x:Str}{m:Mi Rr}(hN:X.N[i]?=some x)(A:ku X.env.scope x)(hd:fC x)(T:lA x)
  (hc:∀c C,cs.contains c=true->X.mg c=some (.ref C)->gN X.K C/\bY X.K C f)
  (d:XR (.Name x px) f X.env (eval (.Name x px) X.env)=eval (.Name x px) X.env)(he:JE X E e m)
  (w:XR (.Attribute (.Name x px) f p1) "append" X.env (eval (.Attribute (.Name x px) f p1) X.env)=eval (.Attribute (.Name x px) f p1) X.env)
  (z:((XW cpos (XM [e] X.env)).all (λx=>!x.1)&&(Yb cpos (X0 [] X.env)).all (λx=>x.1.isSome)&&decide (([e]:List Expr).length+([]:List X8).length+(if ([]:List X8).isEmpty then 0 else 1)<30))=true)
  (D:(apos.endLine==cpos.line)=true)(hs:XM [e] X.env=(false,eval e X.env)::XM [] X.env)(k:(XW cpos (XM [] X.env)).any (·.1)=false):
  JE X E (.Call (.Attribute (.Attribute (.Name x px) f p1) "append" apos) [e] [] cpos) (nB cs i f m):=
 ⟨PE.weaken (AG (oN Sf TM TN kn (fm (bS hN A hd T) d) (aX he.p cw hs) w z D hs k)) λY H Q h=>by
  obtain⟨c,Z,B,θ,o,O,t,b,em,q⟩:=h
  delta nB at em
  cases e1:ownAt cs Z i f with
  |none=>rw[e1] at em;cases em
  |some xs=>
   cases e2:iS i m Z with
   |none=>rw[e1,e2] at em;cases em
   |some r=>
    rw[e1,e2] at em;dsimp only at em;cases J:bX r Z with
    |none=>rw[J] at em;cases em
    |some pr=>
     obtain⟨a,U⟩:=pr;rw[J] at em;dsimp only at em;cases s:qH cs U i f a with
     |none=>rw[s] at em;cases em
     | some F=>rw[s] at em;cases em;obtain⟨cn,fs,ls,S,R,g,l9,V,hl,l,rfl⟩:=tD s;obtain⟨L,bl⟩:=id b;obtain⟨p,ys,l1,h1,h5,h6,_⟩:=gp t hc bl e1;refine h1 _ ⟨.inl ⟨rfl,_,.inl (.inl h5)⟩,?_⟩;refine wz t b e2 λv H1 A u b1=>?_;have b2:=Bd.bX (xs:=[]) (ss:=[]) rfl b1 A J;obtain⟨L2,y,ra⟩:=Bd.tL b2;obtain⟨p2,P,l2,_,g5,G,g7⟩:=gp t hc y l;obtain rfl:=(u f p l1).one l2;have I:=g7 _ _ (G.snoc ra);rw[km _ R] at I;obtain⟨p',C,dx,ws,j,w1,w2,w3,w4,w5,n⟩:=Bd.EW I (Cd R) g (u0 V);rw[set_set R,oh] at n;rw[rj] at w5;exact⟨p,P,v,rfl,rfl,g5,by have:=G.len;have:=Yi;lia,p',C,dx,ws,j,w2,w3,w4,by lia,q _ _ trivial (Bd.push n λ_=>.non)⟩⟩
end
section
variable{c:Cn}{Y:St}{H:Hp}{Z:List Sl}{B:St}{θ:List Sl}
theorem Bd.Jj{p:Addr}{as:List A}(b:Bd c Y H Z (some (.ref p)::B) (.lv (.lst as)::θ)):∃us,H p=some (.lst us)/\us.length=as.length/\∀(q:Nat)(s:Int),Bd c Y (upd H p (.lst (us.set q (.int s)))) Z (some (.ref p)::B) (.lv (.lst (as.set q (.int s)))::θ):=by
 obtain⟨L,b⟩:=b;have rel:ax c.toKx (c.g H L) H (some (.ref p)::(B++Y)) (.lv (.lst as)::(θ++Z)) L:=b.rel;cases rel with
 |cons h r=>
  rename_i Q L';cases h with
  |lv K=>
   cases K with
   |lst e x=>
    rename_i us;refine⟨us,e,x.len,λq s=>?_⟩;have nd:p∉L'/\L'.Nodup:=Rn.mp b.nd;have i:p∈[p]++L':=by simp
    have sq:Sq (c.g H ([p]++L')) (c.g (upd H p (.lst (us.set q (.int s)))) ([p]++L')):=λz u a=>by
     by_cases hz:z∈[p]++L'\/z∈c.Hd
     .rw[gZ hz] at a;cases a
     .rw[bM (λy=>hz (.inl y)) (λy=>hz (.inr y))] at a;refine⟨u,?_,.inl rfl⟩;rw[bM (λy=>hz (.inl y)) (λy=>hz (.inr y)),ao λ(y:z=p)=>hz (.inl (by rw[y];exact i))];exact a
    refine⟨[p]++L',b.nd,?_,b.own,⟨λz o k=>?_,λw n=>?_⟩,b.kp,b.lt,b.hd⟩
    .exact .cons (.lv (.lst aJ ((x.sm sq).set (.int s) q))) (r.sm sq λz hz u e=>by rw[ao λ(y:z=p)=>nd.1 (y▸hz)];exact e)
    .obtain⟨u,j,I⟩:=b.fr.st z o k;by_cases hz:z=p
     .subst hz;refine⟨_,aJ,λN _=>?_⟩;rcases b.own z i with y|y
      .exact absurd y N
      .rw[y] at k;cases k
     .exact⟨u,by rw[ao hz];exact j,I⟩
    .obtain⟨S,J,D⟩:=b.fr.pk w n;refine⟨?_,J,D⟩;rw[ao λz=>?_]
     .exact S
     .obtain⟨ob,C,J⟩:=J;rw[z,e] at S;rw[J] at S;cases S
end
section
variable{X:Cx}{E:XK}
def Dv(cs:List Str)(Z:List Sl)(o:Nat)(f:Str):Option Int:=match aE Z o with
 | some (.nob c fs _)=>if cs.contains c then (match fs.lookup f with
  |some (.int s)=>some s
  | _=>none) else none
 |_=>none
theorem xk{o:Nat}{s:Int}(h:Dv cs Z o f=some s):∃c fs ls,aE Z o=some (.nob c fs ls)/\cs.contains c=true/\fs.lookup f=some (.int s):=by
 delta Dv at h
 cases R:aE Z o with
 |none=>rw[R] at h;cases h
 |some lo=>
  rw[R] at h;cases lo with
  |nob cn fs ls=>
   dsimp only at h;by_cases e:cs.contains cn=true
   .rw[Zx e] at h;cases e2:fs.lookup f with
    |none=>rw[e2] at h;cases h
    |some a=>
     rw[e2] at h;cases a with
     |int i=>cases h;exact⟨cn,fs,ls,rfl,e,e2⟩
     |_=>cases h
   .rw[Zy e] at h;cases h
  |_=>cases h
theorem d9.Pc{fs:List (Str×A)}{ls:List (Str×List A)}{a:A}(bl:d9 c Y H Z B θ L)(R:aE Z i=some (.nob cn fs ls))(e2:fs.lookup f=some a):
  ∃p C dx ws v,Y[i]?=some (some (.ref p))/\H p=some (.ins C dx ws)/\c.mg cn=some (.ref C)/\ws.lookup f=some v/\RA c.toKx (c.g H L) v a:=by
 obtain⟨p,_,h1,h2,h⟩:=bl.live R (.nob cn fs ls) (.lst []);clear h;cases h2 with
 |nob e m r l=>
  rename_i C dx vs ws;rcases r.get f with ⟨u,a',q,V,G⟩|⟨_,V⟩
  .rw[e2] at V;cases V;exact⟨p,C,dx,vs++ws,u,h1,e,m,jf q,G⟩
  .rw[e2] at V;cases V
def wm(cs:List Str)(i j z o:Nat)(f:Str)(m:Mi Rr):Ms:=cX m λr Z=>match r with
 | .nw (.lst as)=>match aE Z i,intAt Z j,intAt Z z,Dv cs Z o f with
  |some (.lst xs),some k,some l,some s=>match gH xs.length k,gH as.length l with
   |some n,some q=>some (.nx,setAt Z i (.lst (xs.set n (.lst (as.set q (.int s))))))
   |_,_=>none
  |_,_,_,_=>none
 |_=>none
theorem zV{a b:Addr}{x y:HO}(h:a≠b):upd (upd H a x) b y=upd (upd H b y) a x:=by
 funext d
 by_cases e:d=b
 .subst e;rw[aJ,ao (λz=>h z.symm),aJ]
 .by_cases e2:d=a
  .subst e2;rw[ao e,aJ,aJ]
  .rw[ao e,ao e2,ao e2,ao e]
theorem xW{z o:Nat}{m:Mi Rr}(hc:∀c C,cs.contains c=true->X.mg c=some (.ref C)->gN X.K C/\bY X.K C f)(hw:∀Y H Q,kQ (kx X) E m Y H Q->te Y H Q)(D:Ends)(Y:St)(H:Hp)
  (h:G3 (kx X) E (wm cs i j z o f m) D Y H):BK (rC te (AA (lT i) (lT j) qV)) (rC (E2 X.K (lT o) f) (AA (GH (GF X.K) (lT i) (lT j)) (lT z) qV)) D Y H:=by
 obtain⟨c,Z,B,θ,fl,O,ek,b,em,q⟩:=h;refine hw _ _ _ (d6 ek b em q λr v U T hv b1 P=>?_);cases r with
 |rf j=>cases P
 |fr a=>cases P
 |nw lo=>
  cases lo with
  |lst as=>
   dsimp only at P;cases e1:aE U i with
   |none=>rw[e1] at P;cases P
   |some lo=>
    cases e2:intAt U j with
    |none=>rw[e1,e2] at P;cases lo<;>cases P
    |some k=>
     cases J:intAt U z with
     |none=>rw[e1,e2,J] at P;cases lo<;>cases P
     |some l=>
      cases R:Dv cs U o f with
      |none=>rw[e1,e2,J,R] at P;cases lo<;>cases P
      |some s=>
       rw[e1,e2,J,R] at P;cases lo with
       |lst xs=>
        dsimp only at P;cases N:gH xs.length k with
        |none=>rw[N] at P;cases P
        |some n=>
         cases S:gH as.length l with
         |none=>rw[N,S] at P;cases P
         |some F=>
          rw[N,S] at P;cases P;obtain⟨p,rfl⟩:=Bd.tP b1;obtain⟨us,k1,k2,k3⟩:=Bd.Jj b1;have b2:=k3 F s;have b3:Bd c Y (upd T p (.lst (us.set F (.int s)))) U (some (.ref p)::B) (.fr (.lst (as.set F (.int s)))::θ.map Sl.fr):=Bd.bX (xs:=[]) (ss:=[]) (r:=.nw (.lst (as.set F (.int s)))) rfl b2 (by trivial) rfl;obtain⟨L3,A,ra⟩:=Bd.tL b3;obtain⟨y,vs,s1,s2⟩:=mU b1 e1;obtain⟨L1,G⟩:=id b1;obtain⟨cn,fs,ls,f1,f2,f3⟩:=xk R;obtain⟨po,C,dx,ws,vo,o1,o2,o3,o4,o5⟩:=G.Pc f1 f3;obtain⟨vj,j1,j2⟩:=G.ED (i7 e2);obtain⟨vz,z1,z2⟩:=G.ED (i7 J);cases j2;cases z2;cases o5;have t:X.mg cn=some (.ref C):=by have:=ZC (λk:Kx=>k.mg cn) ek;simp only at this;rw[<-this];exact o3
          obtain⟨c1,c2⟩:=hc cn C f2 t;have d:y≠po:=λw=>by rw[w,o2] at s2;cases s2
          have yp:y≠p:=λw=>by
           obtain⟨L,bb⟩:=b1;have rel:ax c.toKx (c.g T L) T (some (.ref p)::(B++Y)) (.lv (.lst as)::(θ.map Sl.fr++U)) L:=bb.rel;cases rel with
           |cons h r=>
            cases h with
            |lv lr=>
             obtain⟨L1,L2,g1,r1,r2⟩:=ax.split (by have:(some (V.ref p)::B).length=(Sl.lv (.lst as)::θ.map Sl.fr).length:=bb.lt;simpa using this) r;have key:∀s:Sl,U[i]?=some s->(s=.lv (.lst xs)\/s=.pv (.lst xs))->False:=λs es hst=>by
              obtain⟨x,M1,M2,M3,hx,hs,g2,_⟩:=r2.at es;rw[s1] at hx;cases hx;have:y∈M2:=by
               rcases hst with rfl|rfl
               .cases hs;exact Q5
               .cases hs;exact Q5
              have nd:=bb.nd;rw[g1,g2] at nd;have:=(Q2.mp nd).2.2 p Q5 y (by simp[this]);exact this w.symm
             delta aE at e1
             cases es:U[i]? with
             |none=>rw[es] at e1;cases e1
             |some s=>
              rw[es] at e1;cases s with
              |lv o=>cases e1;exact key _ es (.inl rfl)
              |pv o=>cases e1;exact key _ es (.inr rfl)
              |_=>cases e1
          obtain⟨y',_,h1,h2,h3⟩:=A.live e1 (.lst (xs.set n (.lst (as.set F (.int s))))) (.lst (vs.set n (.ref p)));rw[s1] at h1;cases h1;have hvs:∃vl,bU c.toKx (c.g (upd T p (.lst (us.set F (.int s)))) L3) vl xs/\vl=vs:=by
           cases h2 with
           |lst e r=>rw[ao yp,s2] at e;cases e;exact⟨_,r,rfl⟩
          obtain⟨vl,I,evl⟩:=hvs;rw[evl] at I;have u:=I.len;have hn:n<vs.length:=by rw[u];exact(lB N).2.1
          refine⟨_,s1,_,j1,y,vs,k,n,rfl,rfl,s2,by rw[u];exact N,?_⟩;refine⟨_,o1,po,C,dx,ws,_,rfl,by rw[ao d.symm];exact o2,c1,c2,o4,?_⟩;refine⟨_,s1,_,j1,y,vs.set n (.ref p),k,.ref p,rfl,rfl,.of aJ,Ic (by rw[U5,u];exact N) (by rw[Q9 hn]),_,z1,p,us,l,F,rfl,rfl,by rw[ao yp.symm];exact k1,by rw[k2];exact S,?_⟩;rw[zV yp];cases h2 with
          |lst e r=>exact q Y _ (h3 λH' hh=>.lst hh (I.set ra n))
       |_=>cases P
  |_=>cases P
theorem Bp{a b:Stmt}{r:List Stmt}{ta tb:TS}{m n:Ms}(i:PS X a ta)(C:PS X b tb)(w:∀D Y H,G3 (kx X) E m D Y H->BK ta tb D Y H)(h':qZ X E r n):qZ X E (a::b::r) (av m n):=⟨qX.weaken (mF i (mF C h'.p)) λD Y H h=>by
 refine w { D with nx:=G3 (kx X) E n D } Y H ?_;obtain⟨c,Z,B,θ,f,O,t,b,em,q⟩:=h
 delta av at em
 cases e:m Z with
 |none=>rw[e] at em;cases em
 |some p=>
  obtain⟨u,U⟩:=p;rw[e] at em;refine⟨c,Z,B,θ,u,U,t,b,e,?_⟩;cases u with
  |nx=>exact λj H' k=>⟨c,U,B,θ,f,O,t,k,em,q⟩
  |rt s=>cases em;exact q
  |bk=>cases em;exact q
  |ct=>cases em;exact q
  | ex x=>cases em;exact q⟩
end
variable{w:XX}{lo hi:Int}{u:Tok}{q1 q2:Pos}
section
open PyProof.Rows
noncomputable def MF(p:Addr)(lo hi:Int):HO:=.exd λh=>∃t u v,IsRange h p lo hi 1 t u v
section
variable{X:Cx}{E:XK}
theorem E8{prog:Program}{h:Heap}{p:Addr}{t v:Tok}(e:IsRange h p lo hi 1 t u v):c9 prog w H h p (MF p lo hi):=
 ⟨⟨t,u,v,e⟩,⟨_,e⟩,λ_ _ ⟨t,u,v,q⟩ k=>⟨t,u,v,k _ q⟩⟩
theorem wL:cZ X (.type "range") (λxs H Q=>∃j:Int,xs=[.int j]/\∀p,H p=none->Q (.ref p) (upd H p (MF p 0 j))):=by intro pins s Y H xs us Q I r h;obtain⟨j,rfl,q⟩:=h;obtain⟨u,rfl,i⟩:=vals1 r;obtain⟨t,rfl⟩:=i;exact call_range_1 ⟨.ref s.heap.objs.size,_,I.laid (λb o e=>Q3 _ e) (QY _) (E8 (Rf _ rfl)),rfl,q _ (I.hok.fresh (QY _))⟩
theorem wN:cZ X (.type "range") (λxs H Q=>∃i j:Int,xs=[.int i,.int j]/\∀p,H p=none->Q (.ref p) (upd H p (MF p i j))):=by
 intro pins s Y H xs us Q I r h;obtain⟨i,j,rfl,q⟩:=h;cases r with
 |cons r B=>
  cases B with
  |cons l B=>cases B;obtain⟨t,rfl⟩:=r;obtain⟨D,rfl⟩:=l;exact call_range_2 ⟨.ref s.heap.objs.size,_,I.laid (λb o e=>Q3 _ e) (QY _) (E8 (Rf _ rfl)),rfl,q _ (I.hok.fresh (QY _))⟩
noncomputable def uu(lo:Int)(n:Nat):List V:=(Rb n).map λi=>.int (lo+(i:Nat))
theorem zg{n:Nat}{acc:Array Value}(h:ItemsOf (λi v=>∃t,v=TF (lo+(i:Nat)*1) t) acc n):Vals (uu lo n) acc.toList:=by
 obtain⟨h1,h2⟩:=h;obtain⟨l⟩:=acc;have h1:l.length=n:=h1;have h2:∀(j:Nat)(v:Value),l[j]?=some v->∃t,v=TF (lo+(j:Nat)*1) t:=λj v e=>h2 j v (by simpa using e);have key:∀(l:List Value)(k n:Nat),l.length=n->(∀(j:Nat)(v:Value),l[j]?=some v->∃t,v=TF (lo+((j+k:Nat):Int)*1) t)->Vals ((List.range' k n).map λi=>V.int (lo+(i:Nat))) l:=by
  intro l;induction l with
  |nil=>intro k n e _;subst e;exact .nil
  |cons a l m=>
   intro k n e h;subst e;rw[Q4,List.range'_succ,RC];refine .cons ?_ (m (k+1) _ rfl λj v e=>?_)
   .obtain⟨t,rfl⟩:=h 0 a rfl;exact⟨t,by simp⟩
   .obtain⟨t,rfl⟩:=h (j+1) v e;exact⟨t,by rw[show j+1+k=j+(k+1) by lia]⟩
 have:=key l 0 n h1 (by simpa using h2);rw[<-List.range_eq_range'] at this;exact this
theorem ph(hc:X.calm=true):cZ X (.type "list") (λxs H Q=>∃(p:Addr)(lo hi:Int),xs=[.ref p]/\H p=some (MF p lo hi) /\ -(2^60)<=lo/\lo<2^60 /\ -(2^60)<=hi/\hi<2^60/\(hi-lo).toNat<=100000/\∀l,H l=none->Q (.ref l) (upd H l (.lst (uu lo (hi-lo).toNat)))):=by
 intro pins s Y H xs us Q I r h;obtain⟨p,lo,hi,rfl,hp,b1,b2,k,L,P,q⟩:=h;obtain⟨u,rfl,o⟩:=vals1 r;cases o;obtain⟨⟨t,u,v,e⟩,_,_⟩:=(show c9 X.prog X.w H s.heap p (MF p lo hi) from I.hok p _ hp)
 have hn:Su lo hi 1=((hi-lo).toNat:Nat):=by rw[rangeSize_one];split<;>lia
 refine call_list_range (n:=(hi-lo).toNat) (I.ok.hd hc) e (small_one Q1 Q1 Q1 Q1) hn Q1 λh' tk Z x kp c b=>?_;refine⟨.ref s.heap.objs.size,_,I.laid (t':=tk) kp (QY _) (show c9 X.prog X.w _ h' _ (.lst (uu lo (hi-lo).toNat)) from ⟨?_,Z.toList,x,zg b,by simpa using c⟩),rfl,q _ (I.hok.fresh (QY _))⟩;have:=Yi;unfold uu;rw[QU,Te];lia
theorem C0{k:Kx}{G:Hp}(lo:Int)(n:Nat):bU k G (uu lo n) (bI lo n):=by
 unfold uu bI;generalize Rb n=l;induction l with
 |nil=>exact .nil
 |cons i l m=>exact .cons (.int _) m
theorem rz{Y:L2.St}{B:L2.St}{n:Nat}(b:Bd c Y H Z B θ)(q:∀v H',VR Y (.nw (.lst (bI lo n))) v->Bd c Y H' Z (some v::B) (.lv (.lst (bI lo n))::θ)->Q v H')(l:Addr)(h:H l=none):Q (.ref l) (upd H l (.lst (uu lo n))):=by obtain⟨L,bl⟩:=b;exact q _ _ trivial (bl.kP h λG H' _ e=>.lst e (C0 lo n))
noncomputable def Gh(lo hi:Int):Bool:=decide (-(2^60)<=lo/\lo<2^60 /\ -(2^60)<=hi/\hi<2^60/\(hi-lo).toNat<=100000)
def lY(m:Mi Rr):Mi Rr:=aV m λr Z=>match res Z r with
 |some (.int j)=>if Gh 0 j=true then some (.ok (.nw (.lst (bI 0 (j-0).toNat))),Z) else none
 |_=>none
theorem zv{a:Expr}{m:Mi Rr}(hc:X.calm=true)(J:Gl X "list")(hm:X.mg "list" = none)(A:XQ "list" = some (.type "list"))(e:Gl X "range")(i:X.mg "range" = none)(f:JE X E a m)
  (hs:XM [a] X.env=(false,eval a X.env)::XM [] X.env):JE X E (.Call (.Name "list" p1) [.Call (.Name "range" p2) [a] [] q2] [] q1) (lY m):=
 ⟨PE.weaken (gh (ph hc) J hm A (aX (gh wL e i YU (aX f.p cw hs) Z2 Z2 hs rfl) cw rfl) Z2 Z2 rfl rfl) λY H Q h=>by
  obtain⟨c,Z,B,θ,o,O,t,b,em,q⟩:=h;refine bz t b em (λx v U V A b1 P=>?_) (bV q);obtain⟨j,e1,D⟩:=BP P;have g:=Bd.rd b1 A e1;cases g;by_cases hl:Gh 0 j=true
  .rw[Zx hl] at D;cases D;have hl:=ZE hl;refine⟨j,rfl,λp hp=>⟨p,0,j,rfl,aJ,by lia,by lia,by lia,by lia,hl.2.2.2.2,λl hl=>?_⟩⟩;exact rz (b1.drop.new hp) q l hl
  .rw[Zy hl] at D;cases D⟩
def mO(m n:Mi Rr):Mi Rr:=aV m λr=>aV n λt=>λZ=>match res Z r,res Z t with
 |some (.int i),some (.int j)=>if Gh i j=true then some (.ok (.nw (.lst (bI i (j-i).toNat))),Z) else none
 |_,_=>none
theorem AM{a C:Expr}{m n:Mi Rr}(hc:X.calm=true)(J:Gl X "list")(hm:X.mg "list" = none)(A:XQ "list" = some (.type "list"))(e:Gl X "range")(z:X.mg "range" = none)(f:JE X E a m)(s:JE X E C n)
  (hs:XM [a,C] X.env=(false,eval a X.env)::XM [C] X.env)(P:XM [C] X.env=(false,eval C X.env)::XM [] X.env)(hp:(XW q2 (XM [C] X.env)).any (·.1)=false):JE X E (.Call (.Name "list" p1) [.Call (.Name "range" p2) [a,C] [] q2] [] q1) (mO m n):=
 ⟨PE.weaken (gh (ph hc) J hm A (aX (gh wN e z YU (aX f.p (aX s.p cw P) hs) Z2 Z2 hs hp) cw rfl) Z2 Z2 rfl rfl) λY H Q h=>by
  obtain⟨c,Z,B,θ,o,O,t,b,em,q⟩:=h;refine bz t b em (λx v U V A b1 r=>?_) (bV q);refine bz t b1 r (λy w F d G b2 D=>?_) (c6 (bV q));obtain⟨i,j,e1,e2,D⟩:=qS D;obtain⟨rfl,rfl⟩:v=.int i/\w=.int j:=by have K:=Bd.rd b2 G e2;have g:=Bd.rd b2.drop A e1;cases g;cases K;exact⟨rfl,rfl⟩
  by_cases hl:Gh i j=true
  .rw[Zx hl] at D;cases D;have hl:=ZE hl;refine⟨i,j,rfl,λp hp=>⟨p,i,j,rfl,aJ,by lia,by lia,by lia,by lia,hl.2.2.2.2,λl hl=>?_⟩⟩;exact rz (b2.drop.drop.new hp) q l hl
  .rw[Zy hl] at D;cases D⟩
end
end
variable{d:Expr}
section
open PyProof.Rows
noncomputable def Di(lo c:Int)(n:Nat):It:=⟨λi _=>i<n,λi H x H'=>H'=H/\x=.int (lo+i*c),λi _=>n<=i⟩
theorem rG{P:Program}{K:QN}{tg:Expr}(it:Addr)(lo c:Int)(n:Nat):Turn P w K tg (Di lo c n) [it] it (λi h=>Y3 h it (lo+(i:Nat)*c) ((n:Int)-(i:Nat)) c) where
 mem:=by simp
 obj:=λi h st b d=>by
  have e:b=it:=by simpa using d
  subst e;exact⟨_,st,λv z=>by have y:W6 _=XE v:=z;cases y⟩
 keep:=λi h h' st k=>k it Z4 _ st
 item:=by intro X m G q hc i pins s Y H E I hf st J;subst m G q;obtain⟨f0,u,Z,B,C,D⟩:=hf it Z4;have W:=WX (prog:=X.prog) (w:=X.w) (I.ok.hd hc) it lo c n;refine W.item i s _ _ J st λv h' tk A N R=>?_;obtain⟨t,rfl⟩:=A;have L:Inv X pins Y H { s with heap:=h',toks:=tk }:=I.turned (λb o d e=>R b o (by simpa using d) e) f0 u B C D;exact⟨_,rfl,vP (s:={ s with heap:=h',toks:=tk }) (n:= "range_iterator") N rfl rfl Z2 ⟨.int (lo+i*c),H,L,⟨t,rfl⟩,⟨rfl,rfl⟩,N,λb d=>(hf b d).1⟩⟩
 done:=by intro X m G q hc i pins s Y H E I hf st J;subst m G q;obtain⟨f0,u,Z,B,C,D⟩:=hf it Z4;exact YS (I.ok.hd hc) st (by have:n<=i:=J;lia) λh' O=>⟨rfl,I.turned (t':=s.toks) (λb o d e=>O b o d e) f0 u B C D⟩
 self:=λ_ _ _ _ _ st h=>YT st h
noncomputable def yg(lo hi c:Int):Nat:=if lo<hi then ((hi-lo-1) / c+1).toNat else 0
theorem GP{c:Int}(h:0<c):Su lo hi c=(yg lo hi c:Nat):=by
 unfold Su yg;rw[Zx h];by_cases e:lo<hi
 .rw[Zx e,Zx e];have:=Int.ediv_nonneg (show 0<=hi-lo-1 by lia) (show 0<=c by lia);lia
 .rw[Zy e,Zy e];rfl
section
variable{X:Cx}{E:XK}{tg:Expr}
theorem wX{pins:List (Addr×Obj)}{Y:L2.St}{s:Shared}{R:It->Hp->Prop}{E:Value->Shared->Prop}{c:Int}{t v:Tok}{tk:Nat}(I:Inv X pins Y H s)(h:T6 lo hi c=true)(hc:0<c)
  (q:R (Di lo c (yg lo hi c)) H):XO (XU X.prog X.w) X.A (pyIter (.ref s.heap.objs.size)) (NR X pins Y tg R) E { s with heap:=s.heap.push { cls:=.type "range",data:=.fields #[.int lo t,.int hi u,.int c v] },toks:=tk }:=by
 refine Zb (WC ..) h ?_;have L:Inv X pins Y H { s with heap:=s.heap.push { cls:=.type "range",data:=.fields #[.int lo t,.int hi u,.int c v] },toks:=tk }:=I.kept λb o e=>Q3 _ e;refine⟨(s.heap.push { cls:=.type "range",data:=.fields #[.int lo t,.int hi u,.int c v] }).objs.size,[(s.heap.push { cls:=.type "range",data:=.fields #[.int lo t,.int hi u,.int c v] }).objs.size],_,_,H,rfl,
  L.kept (t':=tk) λb o e=>Q3 _ e,rG _ lo c (yg lo hi c),?_,λb d=>?_,q⟩
 .have e1:lo+((0:Nat):Int)*c=lo:=by simp
  have e2:((yg lo hi c:Nat):Int)-((0:Nat):Int)=Su lo hi c:=by rw[GP hc];simp
  show Y3 _ _ (lo+((0:Nat):Int)*c) (((yg lo hi c:Nat):Int)-((0:Nat):Int)) c;rw[e1,e2];exact Rf _ rfl
 .have e:b=(s.heap.push { cls:=.type "range",data:=.fields #[.int lo t,.int hi u,.int c v] }).objs.size:=by simpa using d
  subst e;exact L.wA (QY _) (L.hok.fresh (QY _))
noncomputable def IA(lo hi c:Int):Bool:=decide (0<c)&&decide (c.natAbs<2^60)&&T6 lo hi c
def MA(ta:TA):TI:=λY H R=>ta Y H λvs V=>∃i j c:Int,vs=[.int i,.int j,.int c]/\IA i j c=true/\R (Di i c (yg i j c)) V
theorem zY{c:Int}(h:IA lo hi c=true):0<c/\T6 lo hi c=true/\∀x,U0 x c=false:=by unfold IA at h;rw[QM,QM,decide_eq_true_eq,decide_eq_true_eq] at h;refine⟨h.1.1,h.2,λx=>?_⟩;unfold U0;have:c.natAbs.log2<60:=(VY Q1).mpr h.1.2;rw[Bool.and_eq_false_iff];left;refine Zz ?_;show ¬ (if (c==0)=true then 0 else c.natAbs.log2 / 30+1) > 300;split<;>lia
theorem wG{a b:Expr}{ta:TA}(J:Gl X "range")(hm:X.mg "range" = none)(f:PA X [a,b,d] ta)(hs:XM [a,b,d] X.env=(false,eval a X.env)::XM [b,d] X.env)(hp:(XW pos (XM [b,d] X.env)).any (·.1)=false):
  PI X tg (.Call (.Name "range" p) [a,b,d] [] pos) (MA ta):=by
 intro pins s Y H R I h;refine Call_ (gY I J hm YU (R0 (cE (f pos pins s Y H _ I h) λus s1 ⟨vs,V,L,g,q1⟩=>?_) hs hp));obtain⟨i,j,c,e,ok,q⟩:=q1;subst e;obtain⟨S,O,D⟩:=zY ok;cases g with
 |cons r B=>
  cases B with
  |cons r' B=>
   cases B with
   |cons Z B=>cases B;obtain⟨t,rfl⟩:=r;obtain⟨t',rfl⟩:=r';obtain⟨v,rfl⟩:=Z;exact call_range_3 Q1 (wX L O S q) (.inl (D _))
noncomputable def rA(lo c:Int)(n:Nat):List A:=(Rb n).map λi=>.int (lo+(i:Nat)*c)
theorem EE{c:Int}{n:Nat}:H9 K (Di lo c n) [] [] (rA lo c n):=λcn Y H Z D r B θ i t G b=>by
 have hl:(rA lo c n).length=n:=by simp[rA]
 refine⟨λh=>by rw[hl] at h;exact h,λa f=>?_⟩;have hi:i<n:=by rw[<-hl];exact(QP.mp f).1
 refine⟨hi,λx H' y=>?_⟩;obtain⟨rfl,rfl⟩:=y;have:a=.int (lo+i*c):=by unfold rA at f;rw[Rm,Si hi] at f;exact(Rj f).symm
 subst this;exact b.push λ_=>.int _
theorem Bl{u w x:Option A}{F:Int->Int->Int->Option α}{r:α} (h:(match u,w,x with
 |some (.int i),some (.int j),some (.int k)=>F i j k
 | _,_,_=>none)=some r):∃i j k,u=some (.int i)/\w=some (.int j)/\x=some (.int k)/\F i j k=some r:=by
 split at h
 .rename_i i j k;exact⟨i,j,k,rfl,rfl,rfl,h⟩
 .cases h
def oF(m n o:Mi Rr):Mi (List A):=aV m λr=>aV n λt=>aV o λu=>λZ=>match res Z r,res Z t,res Z u with
 |some (.int i),some (.int j),some (.int c)=>if IA i j c=true then some (.ok (rA i c (yg i j c)),Z) else none
 |_,_,_=>none
theorem Et{a b:Expr}{m n o:Mi Rr}(J:Gl X "range")(hm:X.mg "range" = none)(f:JE X E a m)(A:JE X E b n)(hd:JE X E d o)
  (C:XM [a,b,d] X.env=(false,eval a X.env)::XM [b,d] X.env)(K:XM [b,d] X.env=(false,eval b X.env)::XM [d] X.env)(r:XM [d] X.env=(false,eval d X.env)::XM [] X.env)(hp:(XW pos (XM [b,d] X.env)).any (·.1)=false):JI X E tg (.Call (.Name "range" p) [a,b,d] [] pos) (oF m n o):=⟨λpins s Y H R I h=>by
 refine wG J hm (aX f.p (aX A.p (aX hd.p cw r) K) C) C hp pins s Y H R I ?_;obtain⟨c,Z,B,θ,o,O,t,b,em,q⟩:=h;refine bz t b em (λx v U H1 G b1 P=>?_) (dd q);refine bz t b1 P (λy w F H2 S b2 D=>?_) (c6 (dd q));refine bz t b2 D (λz u Z0 N g Q e=>?_) (c6 (c6 (dd q)));obtain⟨i,j,k,e1,e2,T,e⟩:=Bl e;obtain⟨rfl,rfl,rfl⟩:v=.int i/\w=.int j/\u=.int k:=by have V:=Bd.rd Q g T;have l:=Bd.rd Q.drop S e2;have r1:=Bd.rd Q.drop.drop G e1;cases r1;cases l;cases V;exact⟨rfl,rfl,rfl⟩
 by_cases L:IA i j k=true
 .rw[Zx L] at e;cases e;exact⟨i,j,k,rfl,L,q _ N [] [] rfl EE Q.drop.drop.drop⟩
 .rw[Zy L] at e;cases e⟩
end
end
end M
set_option maxHeartbeats 4000000
namespace L2
open PySem PySem.Spec PyProof.Rows PySem.W
variable{i j:Addr}{xs ys:Array Value}{Q:Value->Shared->Prop}
section
variable{prog:Program}{w:XX}{A:XZ}{E:Value->Shared->Prop}{s:Shared}
structure mj(h:Heap)(z TI TO i j l m:Addr)(k:Nat)(f0:Value):Prop where
 hz:Y8 h z TI TO f0
 hi:YC h TI (.ref i) (.ref j)
 ho:∃a b,YC h TO a b
 h1:h.IsListIter i l k
 h2:h.IsTupleIter j m k
theorem zP{z TI TO l m:Addr}{k:Nat}{x y:Value}(D:Zw z TI TO i j l m)(Z:mj s.heap z TI TO i j l m k .none)
  (hl:s.heap.IsList l xs)(hm:s.heap.IsTuple m ys)(hx:xs[k]?=some x)(hy:ys[k]?=some y)
  (q:∀h',mj h' z TI TO i j l m (k+1) (Zk s.heap.objs.size)->YC h' s.heap.objs.size x y->(∀c o,c≠z->c≠TO->c≠i->c≠j->s.heap.get? c=some o->h'.get? c=some o)->Q (.ref s.heap.objs.size) { s with heap:=h' }):
  XO (XU prog w) A (Builtin.«zip.__next__» ⟨[.ref z],[]⟩) (λfin s'=>∃v,fin=.done (.ret v)/\Q v s') E s:=by
 obtain⟨hz,O,⟨a,b,J⟩,g1,g2⟩:=Z;show XO _ _ (field (.ref z) 2 >>= _) _ _ _;refine XN (Yc hz rfl (x:=.bool false) rfl ?_);show XO _ _ (field (.ref z) 3 >>= _) _ _ _;refine XN (Yc hz rfl (x:=.ref TI) rfl (XN (Ye O rfl ?_)));show XO _ _ (Sa (.ref z) >>= _) _ _ _;refine XN ?_;unfold Sa;refine XN (Yc hz rfl (x:=.none) rfl (XT ?_));simp only[if_true];refine XN (Za (XN (Yc hz rfl (x:=.ref TO) rfl (XN (Yg hz Z4 λk1 B s1=>?_)))));have B:Y8 k1 z TI TO .ellipsis:=B;refine XN ?_;simp only[Wh,Wz,Um,WE];refine XN (XN (YK ?_));show XO _ _ (RK (.ref i) >>= _) _ _ _;refine XN (Y0 (g1.extBut s1.extBut D.i1z) (hl.extBut s1.extBut D.l1z) hx λk2 f s2=>XT ?_);have p:YC k2 TO a b:=s2.extBut _ _ D.TOi1 (s1.extBut _ _ D.TOz J);refine XN (Ye p rfl (XN (Yx p λk3 Y T=>?_)));have Y:YC k3 TO x b:=Y;refine XN (Zm (XT (XN (XN (YK ?_)))));show XO _ _ (RK (.ref j) >>= _) _ _ _;refine XN (EO (((g2.extBut s1.extBut D.i2z).extBut s2.extBut D.i12.symm).extBut T.extBut D.TOi2.symm) (((hm.extBut s1.extBut D.l2z).extBut s2.extBut D.l2i1).extBut T.extBut D.l2TO) hy λk4 g u=>XT ?_);have X:YC k4 TO x b:=u.extBut _ _ D.TOi2 Y;refine XN (Ye X rfl (XN (Yx X λR H F=>?_)));have H:YC R TO x y:=H;refine XN (Zm (XT (XT (XN (Ye H rfl (XN (wpAny_newTuple ?_)))))));have sz:R.objs.size=s.heap.objs.size:=by rw[F.1,u.1,T.1,s2.1,s1.1]
 have I:Y8 R z TI TO .ellipsis:=F.extBut _ _ D.TOz.symm (u.extBut _ _ D.i2z.symm (T.extBut _ _ D.TOz.symm (s2.extBut _ _ D.i1z.symm B)));have keep:∀c o,c≠z->c≠TO->c≠i->c≠j->s.heap.get? c=some o->R.get? c=some o:=λc o P S V d e=>F.extBut _ _ S (u.extBut _ _ d (T.extBut _ _ S (s2.extBut _ _ V (s1.extBut _ _ P e))));have g15:R.IsListIter i l (k+1):=((f.extBut T.extBut D.TOi1.symm).extBut u.extBut D.i12).extBut F.extBut D.TOi1.symm;have g25:R.IsTupleIter j m (k+1):=g.extBut F.extBut D.TOi2.symm;show XO _ _ (TL (.ref z) (.ref R.objs.size) >>= _) _ _ _;refine XN ?_;unfold TL;have hz6:Y8 (R.push { cls:=.type "tuple",data:=.seq #[x,y] }) z TI TO .ellipsis:=Q3 _ I;refine XN (Yg hz6 Z4 λk7 C s7=>?_);have C:Y8 k7 z TI TO (Zk R.objs.size):=C;refine Yg C Z4 λU h s8=>?_;have h:Y8 U z TI TO (Zk R.objs.size):=h;have L:R.objs.size≠z:=VF (Q7 I);have up:∀c o,c≠z->R.get? c=some o->U.get? c=some o:=λc o P e=>s8.extBut _ _ P (s7.extBut _ _ P (Q3 _ e));have G:YC U R.objs.size x y:=s8.extBut _ _ L (s7.extBut _ _ L (Rf _ rfl));rw[sz] at h G;refine XT ⟨_,rfl,?_⟩;show Q (.ref R.objs.size) _;rw[sz];have N:∀{b t:Addr}{n:Nat},b≠z->R.IsTupleIter b t n->U.IsTupleIter b t n:=λhb ⟨o,e,r⟩=>⟨o,up _ o hb e,r⟩
 have K:∀{b t:Addr}{n:Nat},b≠z->R.IsListIter b t n->U.IsListIter b t n:=λhb ⟨o,e,r⟩=>⟨o,up _ o hb e,r⟩
 exact q U ⟨h,up _ _ D.TIz (keep _ _ D.TIz D.TITO D.TIi1 D.TIi2 O),⟨_,_,up _ _ D.TOz H⟩,K D.i1z g15,N D.i2z g25⟩ G λc o P S V d e=>up c o P (keep c o P S V d e)
theorem A5{z TI TO l m:Addr}{k:Nat}{Q:Fin->Shared->Prop}(u:A.handled=none)(D:Zw z TI TO i j l m)(Z:mj s.heap z TI TO i j l m k .none)
  (hl:s.heap.IsList l xs)(hm:s.heap.IsTuple m ys)(J:xs[k]?=none\/ys[k]?=none)
  (q:∀h' e,(∀c o,c≠z->c≠TO->c≠i->c≠j->s.heap.get? c=some o->h'.get? c=some o)->(∃o,h'.get? e=some o/\o.cls=.type "StopIteration")->E (.ref e) { s with heap:=h' }):
  XO (XU prog w) A (Builtin.«zip.__next__» ⟨[.ref z],[]⟩) Q E s:=by
 obtain⟨hz,O,⟨a,b,F⟩,g,r⟩:=Z;show XO _ _ (field (.ref z) 2 >>= _) _ _ _;refine XN (Yc hz rfl (x:=.bool false) rfl ?_);show XO _ _ (field (.ref z) 3 >>= _) _ _ _;refine XN (Yc hz rfl (x:=.ref TI) rfl (XN (Ye O rfl ?_)));show XO _ _ (Sa (.ref z) >>= _) _ _ _;refine XN ?_;unfold Sa;refine XN (Yc hz rfl (x:=.none) rfl (XT ?_));simp only [if_true];refine XN (Za (XN (Yc hz rfl (x:=.ref TO) rfl (XN (Yg hz Z4 fun k1 B s1=>?_)))));have B:Y8 k1 z TI TO .ellipsis:=B;refine XN ?_;simp only[Wh,Wz,Um,WE];refine XN (XN (YK ?_));show XO _ _ (RK (.ref i) >>= _) _ _ _;cases hx:xs[k]? with
 |none=>
  refine XN (wpAny_nextOf_list_end u (g.extBut s1.extBut D.i1z) (hl.extBut s1.extBut D.l1z) hx λy e s2 ⟨v,he,H⟩=>?_);have Y:Y8 y z TI TO .ellipsis:=s2 _ _ D.i1z.symm B;have ne:e≠z:=λx=>by subst x;rw[Y] at he;cases he;simp at H
  exact Yg Y Z4 λf _ T=>q f e (λc o P _ V _ x=>T.extBut _ _ P (s2 _ _ V (s1.extBut _ _ P x))) ⟨v,T.extBut _ _ ne he,H⟩
 |some x=>
  have hy:ys[k]?=none:=by rcases J with h|h;rw[hx] at h;cases h;exact h
  refine XN (Y0 (g.extBut s1.extBut D.i1z) (hl.extBut s1.extBut D.l1z) hx λy n s2=>XT ?_);have p:YC y TO a b:=s2.extBut _ _ D.TOi1 (s1.extBut _ _ D.TOz F);refine XN (Ye p rfl (XN (Yx p λf C T=>?_)));refine XN (Zm (XT (XN (XN (YK ?_)))));show XO _ _ (RK (.ref j) >>= _) _ _ _;refine XN (Ee u (((r.extBut s1.extBut D.i2z).extBut s2.extBut D.i12.symm).extBut T.extBut D.TOi2.symm) (((hm.extBut s1.extBut D.l2z).extBut s2.extBut D.l2i1).extBut T.extBut D.l2TO) hy λd e K ⟨v,he,H⟩=>?_);have X:Y8 d z TI TO .ellipsis:=K _ _ D.i2z.symm (T.extBut _ _ D.TOz.symm (s2.extBut _ _ D.i1z.symm B));have ne:e≠z:=λx=>by subst x;rw[X] at he;cases he;simp at H
  exact Yg X Z4 λR _ U=>q R e (λc o P I V L x=>U.extBut _ _ P (K _ _ L (T.extBut _ _ I (s2.extBut _ _ V (s1.extBut _ _ P x))))) ⟨v,U.extBut _ _ ne he,H⟩
noncomputable abbrev N9(h:Heap)(l:Addr):Heap:=h.push { cls:=.type "list_iterator",data:=.fields #[.ref l,.int 0 0] }
abbrev NZ(h:Heap)(l m:Addr):Heap:=(N9 h l).push { cls:=.type "tuple_iterator",data:=.fields #[.ref m,.int 0 0] }
abbrev NT(h:Heap)(l m:Addr):Heap:=(NZ h l m).push { cls:=.type "tuple",data:=.seq #[.ref h.objs.size,.ref (N9 h l).objs.size] }
abbrev N8(h:Heap)(l m:Addr):Heap:=(NT h l m).push { cls:=.type "tuple",data:=.seq #[.none,.none] }
abbrev Ky(h:Heap)(l m:Addr):Heap:=(N8 h l m).push { cls:=.type "zip",data:=.fields #[.none,.bool false,.bool false,.ref (NZ h l m).objs.size,.ref (NT h l m).objs.size] }
theorem uA(l m:Addr)(xs ys:Array Value):Meets (Builtin.«zip.__new__» ⟨[.type "zip",.ref l,.ref m],[]⟩) (λ_ R s=>s.heap.IsList l xs/\s.heap.IsTuple m ys /\
  R (.ok (.ret (.ref (N8 s.heap l m).objs.size))) { s with heap:=Ky s.heap l m }):=
 .of_wp λprog w A R s h=>by
  obtain⟨hp,g,d,tk,os⟩:=s;obtain⟨hl,hm,h⟩:=h;have H:=sub_zip;have e1:Heap.IsList (WN ⟨hp,g,d,tk,os⟩) l xs:=hl;have e2:Heap.IsTuple (WN ⟨hp.push { cls:=.type "list_iterator",data:=.fields #[.ref l,.int 0 0] },g,d,tk,os⟩) m ys:=Xi hm _
  wp_walk using Yj e1,Zc e2
  exact⟨_,rfl,h⟩
theorem xg{l m:Addr}(hl:s.heap.IsList l xs)(hm:s.heap.IsTuple m ys)
  (q:∀h',mj h' (s.heap.objs.size+4) (s.heap.objs.size+2) (s.heap.objs.size+3) s.heap.objs.size (s.heap.objs.size+1) l m 0 .none->(∀c o,s.heap.get? c=some o->h'.get? c=some o)->Q (.ref (s.heap.objs.size+4)) { s with heap:=h' }):
  XO (XU prog w) A (call (.type "zip") [.ref l,.ref m]) Q E s:=by
 refine callType_new F.called_zip Z2 (F.typeCall_zip_2 _ _) (F.newCall_zip_2 _ _) (λobj=>F.args_object_init_3 obj _ _) F.entry_zip_new (uA l m xs ys) ⟨hl,hm,?_⟩;have d:(N9 s.heap l).objs.size=s.heap.objs.size+1:=R6 ..;have Y:(NZ s.heap l m).objs.size=s.heap.objs.size+2:=by rw[R6,d]
 have G:(NT s.heap l m).objs.size=s.heap.objs.size+3:=by rw[R6,Y]
 have X:(N8 s.heap l m).objs.size=s.heap.objs.size+4:=by rw[R6,G]
 have up:∀{h:Heap}{o o':Obj}{b:Addr},h.get? b=some o->(h.push o').get? b=some o:=λe=>Q3 _ e;have H:(Ky s.heap l m).get? (N8 s.heap l m).objs.size=some _:=Rf _ rfl;have a:(Ky s.heap l m).get? (NT s.heap l m).objs.size=some _:=up (Rf _ rfl);have Z:(Ky s.heap l m).get? (NZ s.heap l m).objs.size=some _:=up (up (Rf _ rfl));have C:(Ky s.heap l m).get? (N9 s.heap l).objs.size=some _:=up (up (up (Rf _ rfl)));have a1:(Ky s.heap l m).get? s.heap.objs.size=some _:=up (up (up (up (Rf _ rfl))));show _/\_;rw[Y,G,X] at H;rw[d,Y] at Z;rw[G] at a;rw[d] at C;rw[X];exact⟨⟨_,H,rfl⟩,q _ ⟨H,Z,⟨_,_,a⟩,⟨_,a1,rfl,rfl⟩,⟨_,C,rfl,rfl⟩⟩ λc o e=>up (up (up (up (up e))))⟩
end
def ME(K:QN)(a b:Addr):It:=
  ⟨λi H=>∃xs ys x y,dj K H a xs/\gP K H b ys/\xs[i]?=some x/\ys[i]?=some y,
   λi H v H'=>∃t x y,v=.ref t/\H t=none/\H'=upd H t (.tup [x,y])/\∀xs ys,dj K H a xs->gP K H b ys->xs[i]?=some x/\ys[i]?=some y,
   λi H=>∃xs ys,dj K H a xs/\gP K H b ys/\(xs[i]?=none\/ys[i]?=none)⟩
theorem xA{P:Program}{w:XX}{K:QN}{es:List Expr}{kk:Nat}{tp:Pos}{z TI TO a b:Addr}(D:Zw z TI TO i j a b):
  Turn P w K (.Tuple es kk tp) (ME K a b) [z,TI,TO,i,j] z (λn h=>mj h z TI TO i j a b n .none) where
 mem:=by simp
 obj:=λn h Z c hc=>by
  obtain⟨hz,hi,⟨u,v,ho⟩,⟨O,e1,_,d1⟩,⟨o2,e2,_,d2⟩⟩:=Z;simp only[QV,Ru,or_false] at hc;rcases hc with rfl|rfl|rfl|rfl|rfl
  .exact⟨_,hz,λv q=>by cases q⟩
  .exact⟨_,hi,λv q=>by cases q⟩
  .exact⟨_,ho,λv q=>by cases q⟩
  .exact⟨_,e1,λv q=>by rw[d1] at q;cases q⟩
  .exact⟨_,e2,λv q=>by rw[d2] at q;cases q⟩
 keep:=λn h h' Z k=>by obtain⟨hz,hi,⟨u,v,ho⟩,⟨O,e1,g⟩,⟨o2,e2,l⟩⟩:=Z;exact⟨k _ Z4 _ hz,k _ Z4 _ hi,⟨u,v,k _ Z4 _ ho⟩,⟨O,k _ Z4 _ e1,g⟩,⟨o2,k _ Z4 _ e2,l⟩⟩
 item:=by
  intro X f V hK hc n pins s Y H E I hf Z hg;subst f V hK;obtain⟨xs,ys,x,y,L,N,hx,hy⟩:=hg;obtain⟨its,rv,p,_⟩:=I.list L;obtain⟨Q,U,p',_⟩:=I.tuple N;obtain⟨u,hu,ru⟩:=rv.get hx;obtain⟨v,hv,rv'⟩:=U.get hy;have t:s.TypeIs (.ref z) "zip" := ⟨_,Z.hz,rfl⟩
  unfold pyNext;refine XN (wpAny_attempt (Yk (name:=UY "__next__") t Uu (Yv Uu t WO
   (zP D Z p.isList (show s.heap.IsTuple b Q.toArray from p') (x:=u) (y:=v) (by simpa using hu) (by simpa using hv) λh' Z' T' keep=>XT ?_) (WG _))))
  refine⟨_,rfl,YD (s:={ s with heap:=h' }) Z'.hz λh2 hz2 sb=>?_⟩;have ch:∀c∈[z,TO,i,j],c∈[z,TI,TO,i,j]:=λc hc=>by simp only[QV,Ru,or_false] at hc ⊢;rcases hc with e|e|e|e<;>simp[e]
  have J:∀c o,c∉[z,TO,i,j]->s.heap.get? c=some o->h2.get? c=some o:=λc o hc e=>by simp only[QV,Ru,or_false,not_or] at hc;exact sb.extBut c o hc.1 (keep c o hc.1 hc.2.1 hc.2.2.1 hc.2.2.2 e)
  have G:∀c o,s.heap.get? c=some o->c≠s.heap.objs.size:=λc o e=>Rw (Q7 e);have C:∀c o,H c=some o->c∉[z,TO,i,j]:=λc o e hc=>by have:=(hf c (ch c hc)).1;rw[e] at this;cases this
  have hn:H s.heap.objs.size=none:=I.fresh;have nzT:s.heap.objs.size≠z:=(G _ _ Z.hz).symm;have I2:Inv X pins Y (upd H s.heap.objs.size (.tup [x,y])) { s with heap:=h2,gens:=s.gens,drawn:=s.drawn,toks:=s.toks }:=by
   refine I.step (ch:=[z,TO,i,j]) (λc hc=>?_) (λc o _ _ hc e _=>J c o hc e) (λc o _ _ hc e _=>⟨o.slots,J c o hc e⟩) (λc o _ e q=>by rw[ao (G c o e)];exact q) (λc o hc e=>⟨o,J c o hc e⟩)
    (λc q e=>by rw[ao (aD e hn)];exact e) (λc o q e=>by rw[ao (aD e hn)];exact e) (λc q e=>⟨#[],by rw[ao (aD e hn),e];simp⟩) (λm hm=>?_) (λc o e=>?_) I.bare
   .obtain⟨f0,f1,f2,f3,f4,f5⟩:=hf c (ch c hc);exact⟨f3,f1,f4,f5⟩
   .obtain⟨o,R,S,ho,r⟩:=hm;exact⟨o,R,S,J _ o (λhc=>(hf _ (ch _ hc)).2.1 rfl) ho,r⟩
   .by_cases hc:c=s.heap.objs.size
    .subst hc;rw[aJ] at e;cases e;refine⟨(show 2<=sizeLine by decide),[u,v],.cons ru (.cons rv' .nil),?_⟩;exact⟨_,sb.extBut _ _ nzT T',rfl,_,rfl,rfl⟩
    .rw[ao hc] at e;refine(I.hok c o e).iM (λd w hd q=>J d w ?_ q) (λd q=>by rw[ao (aD q hn)];exact q) λd q r=>by rw[ao (aD r hn)];exact r
     rcases hd with rfl|hd
     .exact C _ _ e
     .exact C _ _ hd
  have B:∀c o,c≠z->h'.get? c=some o->h2.get? c=some o:=λc o hc e=>sb.extBut c o hc e;obtain⟨_,hi',⟨u',v',ho'⟩,⟨O,e1,g⟩,⟨o2,e2,l⟩⟩:=Z';refine⟨.ref s.heap.objs.size,_,I2,rfl,⟨s.heap.objs.size,x,y,rfl,hn,rfl,λxs' ys' R S=>?_⟩,⟨hz2,B _ _ D.TIz hi',⟨u',v',B _ _ D.TOz ho'⟩,⟨O,B _ _ D.i1z e1,g⟩,⟨o2,B _ _ D.i2z e2,l⟩⟩,λc hc=>?_⟩
  .rw[I.gi R L,I.kG S N];exact⟨hx,hy⟩
  .rw[ao]
   .exact(hf c hc).1
   .rintro rfl;obtain⟨hz,hi,⟨u,v,ho⟩,⟨O,e1,_⟩,⟨o2,e2,_⟩⟩:=Z;simp only[QV,Ru,or_false] at hc;rcases hc with q|q|q|q|q
    .rw[<-q] at hz;exact G _ _ hz rfl
    .rw[<-q] at hi;exact G _ _ hi rfl
    .rw[<-q] at ho;exact G _ _ ho rfl
    .rw[<-q] at e1;exact G _ _ e1 rfl
    .rw[<-q] at e2;exact G _ _ e2 rfl
 done:=by
  intro X f V hK hc n pins s Y H E I hf Z hg;subst f V hK;obtain⟨xs,ys,L,N,F⟩:=hg;obtain⟨its,rv,p,_⟩:=I.list L;obtain⟨Q,U,p',_⟩:=I.tuple N;have t:s.TypeIs (.ref z) "zip" := ⟨_,Z.hz,rfl⟩
  have ch:∀c∈[z,TO,i,j],c∈[z,TI,TO,i,j]:=λc hc=>by simp only[QV,Ru,or_false] at hc ⊢;rcases hc with e|e|e|e<;>simp[e]
  unfold pyNext;refine XN (wpAny_attempt (Yk (name:=UY "__next__") t Uu (Yv Uu t WO
   (A5 (A:=X.A.in1) (I.ok.hd hc) D Z p.isList (show s.heap.IsTuple b Q.toArray from p') (F.imp (λq=>by simpa using rv.none_of q) (λq=>by simpa using U.none_of q)) λh' e keep ⟨o,ho,hcl⟩=>?_) (WG _))))
  refine XN (wpAny_isInstance (T:= "StopIteration") (b:=true) ⟨o,ho,hcl⟩ isSubtype_stop (XT ⟨rfl,?_⟩));have J:∀c o,c∉[z,TO,i,j]->s.heap.get? c=some o->h'.get? c=some o:=λc o hc e=>by simp only[QV,Ru,or_false,not_or] at hc;exact keep c o hc.1 hc.2.1 hc.2.2.1 hc.2.2.2 e
  have C:∀c o,H c=some o->c∉[z,TO,i,j]:=λc o e hc=>by have:=(hf c (ch c hc)).1;rw[e] at this;cases this
  refine I.step (g':=s.gens) (d':=s.drawn) (t':=s.toks) (ch:=[z,TO,i,j]) (λc hc=>?_) (λc o _ _ hc e _=>J c o hc e) (λc o _ _ hc e _=>⟨o.slots,J c o hc e⟩) (λc o _ e q=>q) (λc o hc e=>⟨o,J c o hc e⟩)
   (λc q e=>e) (λc o q e=>e) (λc q e=>⟨#[],by rw[e];simp⟩) (λm hm=>?_) (λc o e=>?_) I.bare
  .obtain⟨f0,f1,f2,f3,f4,f5⟩:=hf c (ch c hc);exact⟨f3,f1,f4,f5⟩
  .obtain⟨o,R,S,ho,r⟩:=hm;exact⟨o,R,S,J _ o (λhc=>(hf _ (ch _ hc)).2.1 rfl) ho,r⟩
  .refine(I.hok c o e).iM (λd w hd q=>J d w ?_ q) (λd q=>q) λd q r=>r;rcases hd with rfl|hd
   .exact C _ _ e
   .exact C _ _ hd
 self:=λ_ _ _ _ _ Z q=>YO Z.hz q
end L2
set_option maxHeartbeats 1000000
namespace M
open PySem L2
section
variable{X:Cx}{E:XK}
def E9(K:QN):R2:=λx y H Q=>∃l k xs,x=.ref l/\y=.int k/\dj K H l xs /\ -(2^63)<=k/\k<2^63/\xs.length*k.toNat<=sizeLine/\∀p,H p=none->Q (.ref p) (upd H p (.lst (QX k.toNat xs).flatten))
theorem D7:iP X (Yn .Mult) (E9 X.K):=by
 intro pins s Y H x y v u Q I o P h;obtain⟨l,k,xs,rfl,rfl,C,h1,h2,hz,q⟩:=h;cases o;obtain⟨t,rfl⟩:=P;obtain⟨b,r,S,_⟩:=I.list C;obtain⟨⟨O,E,G,D⟩,n,e,p,Z,i⟩:=id S;simp only at p i Z;subst p i Z;have hl:=r.length;have z:b.toArray.size*k.toNat<=sizeLine:=by rw[QZ,<-hl];exact hz
 have w:¬ b.toArray.size*k.toNat > (2^63-1) / 8:=by
  have:(sizeLine:Nat)<=(2^63-1) / 8:=by decide
  lia
 have B:¬ (!Xj k)=true:=by rw[fitsIndex_both h1 h2];exact Ry
 have c:¬ Tx (b.toArray.size*k.toNat)=true:=by rw[Az z];exact Ry
 have j:UG (λR L=>R++L) #[] (QX (if b.toArray.isEmpty=true then 0 else k.toNat) b.toArray)=(QX k.toNat b).flatten.toArray:=by
  have f0:∀m:Nat,UG (λR L=>R++L) #[] (QX m b.toArray)=(QX m b).flatten.toArray:=λm=>by have:=foldl_rep b m [];rw[Tz] at this;exact this
  rw[f0];cases b with
  |nil=>simp
  |cons a r'=>rw[Zy Z4]
 refine wpAny_binaryOp_repeat_ref (T:= "list") (U:= "int") Z2 ⟨_,e,rfl⟩ (λs'=>Zu s' k t) noFill_list_mul F.fills_int_mul W2 repeat_list F.slot_int_index.lookup
  (YY W2 (Zu s k t) F.entry_int_rmul (F.args_int_rmul_2 _ _) (lm_int_rmul_list_any k t l b.toArray n _ _)
   ⟨e,rfl,⟨_,e,rfl⟩,YY F.slot_list_mul ⟨_,e,rfl⟩ F.entry_list_mul (F.args_list_mul_2 _ _) (lm_list_mul_any l b.toArray n _ _ k t B w c) ⟨e,?_⟩⟩)
 rw[j];exact⟨.ref _,_,I.IB (t':=s.toks) (r.rep k.toNat) (by rw[len_rep,TJ];exact hz),rfl,q _ I.fresh⟩
theorem bU.rep{k:Kx}{G:Hp}{vs:List V}{as:List A}(r:bU k G vs as):∀n:Nat,bU k G (QX n vs).flatten (QX n as).flatten
 |0=>.nil
 |n+1=>by rw[RY,RY,Sw,Sw];exact r.app (bU.rep r n)
noncomputable def t6:A->A->Option Rr
 | .lst xs,.int k=>if 0<=k/\k<=1000/\xs.length<=100 then some (.nw (.lst (QX k.toNat xs).flatten)) else none
 |_,_=>none
theorem HK{K:Kx}:jl K (E9 K.K) t6:=by
 intro c Y H Z B θ x y v w a b q Q t A S bd e1 e2 N k;cases a<;>first|(cases N;done)|(cases b<;>first|(cases N;done)|skip)
 rename_i xs n
 delta t6 at N
 dsimp only at N;by_cases hc:0<=n/\n<=1000/\xs.length<=100
 .rw[Zx hc] at N;cases N;obtain⟨L,bl,s,I⟩:=Bd.AF bd A S e1 e2;obtain⟨h,X,rfl,s1,g⟩:=s.1 xs rfl;have l:=Bd.rd bd S e2;cases l;have m:=g.len;subst t;have hz:X.length*n.toNat<=sizeLine:=RE (WQ (show X.length<=100 by lia) (show n.toNat<=1000 by lia)) oZ;exact⟨h,n,X,rfl,rfl,s1,by lia,by lia,hz,λp hp=>k _ _ trivial (bl.kP hp λG H' sm q=>.lst q ((g.rep n.toNat).sm sm))⟩
 .rw[Zy hc] at N;cases N
theorem HS{a b:Expr}{ma mb:Mi Rr}{pos:Pos}(f:JE X E a ma)(d:JE X E b mb):JE X E (.BinOp a .Mult b pos) (aC t6 ma mb):=nc D7 HK f d
end
end M
set_option maxHeartbeats 4000000
namespace M
open PySem L2
def MR(K:QN)(ta:TA):TI:=λY H R=>ta Y H λvs V=>∃a b xs ys,vs=[.ref a,.ref b]/\((dj K V a xs/\dj K V b ys/\R (Ma K a b) V)\/(dj K V a xs/\gP K V b ys/\R (ME K a b) V))
variable{e1 e2:Expr}{p pos tp:Pos}{es:List Expr}{kk:Nat}{ma mb:Mi Rr}
section
variable{X:Cx}{E:XK}
theorem Ed{ta:TA}(k:Gl X "zip")(hm:X.mg "zip" = none)(f:PA X [e1,e2] ta)(hs:XM [e1,e2] X.env=[(false,eval e1 X.env),(false,eval e2 X.env)])(P:XM [e2] X.env=[(false,eval e2 X.env)]):
  PI X (.Tuple es kk tp) (.Call (.Name "zip" p) [e1,e2] [] pos) (MR X.K ta):=by
 intro pins s Y H R I h;refine Xk (gY I k hm GI (R0 (cE (f pos pins s Y H _ I h) λus s1 ⟨vs,V,L,g,j⟩=>?_) (by rw[hs,P]) (by rw[P];rfl)));obtain⟨a,b,xs,ys,rfl,j⟩:=j;obtain⟨u,v,rfl,r,r'⟩:=g.two;cases r;cases r';have fin:∀{J:It}{St:Nat->Heap->Prop}{h':Heap},a<s1.heap.objs.size->b<s1.heap.objs.size->(∀c o,s1.heap.get? c=some o->h'.get? c=some o)->Y8 h' (s1.heap.objs.size+4) (s1.heap.objs.size+2) (s1.heap.objs.size+3) .none->St 0 h'->
   Turn X.prog X.w X.K (.Tuple es kk tp) J [s1.heap.objs.size+4,s1.heap.objs.size+2,s1.heap.objs.size+3,s1.heap.objs.size,s1.heap.objs.size+1] (s1.heap.objs.size+4) St->R J V->XO (XU X.prog X.w) X.A (pyIter (.ref (s1.heap.objs.size+4))) (NR X pins Y (.Tuple es kk tp) R) X.xe { s1 with heap:=h' }:=by
  intro J St h' i z keep Z y T q;have m:Inv X pins Y V { s1 with heap:=h' }:=L.kept (t':=s1.toks) keep;refine YO (s:={ s1 with heap:=h' }) Z ⟨_,[s1.heap.objs.size+4,s1.heap.objs.size+2,s1.heap.objs.size+3,s1.heap.objs.size,s1.heap.objs.size+1],_,_,V,rfl,m,T,y,λc hc=>?_,q⟩;have x:s1.heap.objs.size<=c:=by simp only[QV,Ru,or_false] at hc;rcases hc with rfl|rfl|rfl|rfl|rfl<;>first|exact S1 _ _|exact QY _
  exact L.wA x (L.hok.fresh x)
 rcases j with ⟨U,N,q⟩|⟨U,N,q⟩
 .obtain⟨G,t,Q,_⟩:=L.list U;obtain⟨B,E,C,_⟩:=L.list N;have i:a<s1.heap.objs.size:=by obtain⟨o,e,_⟩:=Q.isList;exact Q7 e
  have z:b<s1.heap.objs.size:=by obtain⟨o,e,_⟩:=C.isList;exact Q7 e
  exact call_zip_2 Q.isList C.isList λh' n F O D S d keep=>fin i z keep n (⟨n,F,⟨_,_,O⟩,D,S⟩:BS h' _ _ _ _ _ a b 0) (wO (UP i z)) q
 .obtain⟨G,t,Q,_⟩:=L.list U;obtain⟨B,E,C,_⟩:=L.tuple N;have i:a<s1.heap.objs.size:=by obtain⟨o,e,_⟩:=Q.isList;exact Q7 e
  have z:b<s1.heap.objs.size:=by obtain⟨o,e,_⟩:=C;exact Q7 e
  exact xg Q.isList (show s1.heap.IsTuple b B.toArray from C) λh' Z keep=>fin i z keep Z.hz Z (xA (UP i z)) q
def jT(ma mb:Mi Rr):Mi (List A):=aV ma λx=>aV mb λy=>λZ=>match d5 [x,y] Z with
 |some ([.lst as,.lst bs],O)=>some (.ok (gK as bs),O)
 |some ([.lst as,.tup bs],O)=>some (.ok (gK as bs),O)
 |_=>none
theorem Cy{m n:Mi Rr}(hg:Gl X "zip")(hm:X.mg "zip" = none)(h1:JE X E e1 m)(h2:JE X E e2 n)(hs:XM [e1,e2] X.env=[(false,eval e1 X.env),(false,eval e2 X.env)])(hs2:XM [e2] X.env=[(false,eval e2 X.env)])(hs3:XM [e1,e2] X.env=(false,eval e1 X.env)::XM [e2] X.env)(hs4:XM [e2] X.env=(false,eval e2 X.env)::XM [] X.env):
  JI X E (.Tuple es kk tp) (.Call (.Name "zip" p) [e1,e2] [] pos) (jT m n):=⟨λpins s Y H R I h=>by
 refine Ed hg hm (aX h1.p (aX h2.p cw hs4) hs3) hs hs2 pins s Y H R I ?_;obtain⟨c,Z,B,θ,o,O,ek,b,em,q⟩:=h;refine bz ek b em (λx v U H1 hv b1 em1=>?_) (dd q);refine bz ek b1 em1 (λy w F H2 hw b2 Q=>?_) (c6 (dd q));cases ef:d5 [x,y] F with
 |none=>simp only[ef] at Q;cases Q
 |some pr=>
  obtain⟨cs,Z0⟩:=pr;simp only[ef] at Q;split at Q
  .rename_i as bs N P;cases P;cases Q;have eK:c.K=X.K:=ZC Kx.K ek;have b3:Bd c Y H2 _ ([some w,some v]++B) ([Sl.fr (.lst bs),Sl.fr (.lst as)]++θ):=(Bd.d5 (rs:=[x,y]) (vs:=[v,w]) ⟨hv,hw,trivial⟩ b2 ef).1;obtain⟨L0,bl0,w0,v0⟩:=Bd.D8 (xs:=[]) (ss:=[]) rfl b3;cases w0 with
   |lst S A=>
   cases v0 with
   |lst g V=>
   rename_i pw us pv ts;refine⟨pv,pw,ts,us,rfl,.inl ⟨by rw[<-eK];exact dQ (g_same _ _ _) g,by rw[<-eK];exact dQ (g_same _ _ _) S,q _ H2 [some (.ref pw),some (.ref pv)] [.lst bs,.lst as] rfl (λc' j H' O D r J T i d lx b'=>?_) b3⟩⟩;have k:c'.K=X.K:=ZC Kx.K d;obtain⟨L,bl,w1,v1⟩:=Bd.D8 (B:=J) (θ:=T) lx b';cases w1 with
   |lst S A=>
   cases v1 with
   |lst g V=>
   rename_i C e;have l:dj X.K H' pw C:=by rw[<-k];exact dQ (g_same _ _ _) S
   have sv:dj X.K H' pv e:=by rw[<-k];exact dQ (g_same _ _ _) g
   refine⟨λhi=>⟨e,C,sv,l,?_⟩,λa f=>?_⟩
   .unfold gK at hi;rw[QU,SJ] at hi;by_cases z:as.length<=i
    .exact .inl (R1 (by rw[V.len];exact z))
    .exact .inr (R1 (by rw[A.len];lia))
   .unfold gK at f;rw[Rm] at f;cases ez:(as.zip bs)[i]? with
    |none=>rw[ez] at f;cases f
    |some pr=>rw[ez] at f;cases f;obtain⟨za,zb⟩:=RX.mp ez;obtain⟨t,g1,g2⟩:=V.ta za;obtain⟨u,k1,k2⟩:=A.ta zb;refine⟨⟨e,C,t,u,sv,l,g1,k1⟩,λx H2 yy=>?_⟩;obtain⟨tt,x',y',rfl,hn,rfl,G⟩:=yy;obtain⟨z1,z2⟩:=G e C sv l;rw[g1] at z1;cases z1;rw[k1] at z2;cases z2;obtain⟨b2,sm,np⟩:=bl.new (o:=.tup [t,u]) hn;exact b2.push (.tup (.inl (.inl (by rw[bM np (bl.MT hn)];exact aJ))) ((bU.cons g2 (.cons k2 .nil)).sm sm))
  .rename_i as bs N P;cases P;cases Q;have eK:c.K=X.K:=ZC Kx.K ek;have b3:Bd c Y H2 _ ([some w,some v]++B) ([Sl.fr (.tup bs),Sl.fr (.lst as)]++θ):=(Bd.d5 (rs:=[x,y]) (vs:=[v,w]) ⟨hv,hw,trivial⟩ b2 ef).1;obtain⟨L0,bl0,w0,v0⟩:=Bd.D8 (xs:=[]) (ss:=[]) rfl b3;cases w0 with
   |tup S A=>
   cases v0 with
   |lst g V=>
   rename_i pw us pv ts;refine⟨pv,pw,ts,us,rfl,.inr ⟨by rw[<-eK];exact dQ (g_same _ _ _) g,by rw[<-eK];exact fP (g_same _ _ _) S,q _ H2 [some (.ref pw),some (.ref pv)] [.tup bs,.lst as] rfl (λc' j H' O D r J T i d lx b'=>?_) b3⟩⟩;have k:c'.K=X.K:=ZC Kx.K d;obtain⟨L,bl,w1,v1⟩:=Bd.D8 (B:=J) (θ:=T) lx b';cases w1 with
   |tup S A=>
   cases v1 with
   |lst g V=>
   rename_i C e;have l:gP X.K H' pw C:=by rw[<-k];exact fP (g_same _ _ _) S
   have sv:dj X.K H' pv e:=by rw[<-k];exact dQ (g_same _ _ _) g
   refine⟨λhi=>⟨e,C,sv,l,?_⟩,λa f=>?_⟩
   .unfold gK at hi;rw[QU,SJ] at hi;by_cases z:as.length<=i
    .exact .inl (R1 (by rw[V.len];exact z))
    .exact .inr (R1 (by rw[A.len];lia))
   .unfold gK at f;rw[Rm] at f;cases ez:(as.zip bs)[i]? with
    |none=>rw[ez] at f;cases f
    |some pr=>rw[ez] at f;cases f;obtain⟨za,zb⟩:=RX.mp ez;obtain⟨t,g1,g2⟩:=V.ta za;obtain⟨u,k1,k2⟩:=A.ta zb;refine⟨⟨e,C,t,u,sv,l,g1,k1⟩,λx H2 yy=>?_⟩;obtain⟨tt,x',y',rfl,hn,rfl,G⟩:=yy;obtain⟨z1,z2⟩:=G e C sv l;rw[g1] at z1;cases z1;rw[k1] at z2;cases z2;obtain⟨b2,sm,np⟩:=bl.new (o:=.tup [t,u]) hn;exact b2.push (.tup (.inl (.inl (by rw[bM np (bl.MT hn)];exact aJ))) ((bU.cons g2 (.cons k2 .nil)).sm sm))
  .cases Q⟩
def cF(m:Mi Rr)(H Y:Mi (Option Int)):Mi Rr:=aV m λx=>aV H λlo=>aV Y λhi=>λZ=>match res Z x with
 |some (.lst xs)=>some (.ok (.nw (.lst (i5 xs lo hi))),Z)
 |_=>none
theorem HB{e:Expr}{lo hi:Option Expr}{m:Mi Rr}{s w:Mi (Option Int)}{C:Pos}(h:JE X E e m)(hl:JP X E lo s)(N:JP X E hi w):JE X E (.Subscript e (.Slice lo hi none C) pos) (cF m s w):=
 ⟨PE.weaken (Bk EA h.p hl.p N.p) λY H Q h=>by
  obtain⟨c,Z,B,θ,o,O,t,b,em,q⟩:=h;refine bz t b em (λx v U V A b1 P=>?_) (bV q);refine vk t b1 P (λl F d b2 D=>?_) (c6 (bV q));refine vk t b2 D (λu Z0 j k i=>?_) (c6 (bV q));have z:c.K=X.K:=ZC Kx.K t;cases e1:res Z0 x with
  |none=>rw[e1] at i;cases i
  |some a=>
   rw[e1] at i;cases a with
   |lst xs=>cases i;obtain⟨L,bl,y⟩:=Bd.open k A e1;obtain⟨p,vs,rfl,s1,n⟩:=y.1 xs rfl;exact⟨p,vs,rfl,by rw[<-z];exact s1,λr hp=>q _ _ trivial (bl.kP hp λG H' sm q=>.lst q ((HQ n l u).sm sm))⟩
   | _=>cases i⟩
abbrev a6:=Oy Fm Au
theorem EB{a b:Expr}(f:JE X E a ma)(d:JE X E b mb):JE X E (.BinOp a .Add b pos) (aC a6 ma mb):=nc (iP.or' Kj yM) (CS.or Df) f d
theorem D2{a b:Expr}(f:JE X E a ma)(d:JE X E b mb):JE X E (.BinOp a .Mult b pos) (aC a9 ma mb):=nc Ew EX f d
end
end M
set_option maxHeartbeats 1000000
namespace M
open PySem L2 W
def eS(f:Ms)(I:List A):List Rr->Mi Rr:=λrs Z=>match cy (rs++I.map Rr.fr) Z with
 |some (as,T)=>match f (as.map rB) with
  |some (.rt s,U)=>match qd s,putL Z (rs++I.map Rr.fr) (az as.length U) T with
   |some r,some O=>some (.ok r,O)
   |_,_=>none
  |some (.ex x,U)=>match putL Z (rs++I.map Rr.fr) (az as.length U) T with
   |some O=>some (.error x,O)
   |none=>none
  |_=>none
 |none=>none
def Val(f:Ms)(as:List A)(a:A):Prop:=∃Z,f (as.map Sl.fr)=some (.rt (.fr a),Z)
def nW(f:Ms)(as:List A)(o:LO):Prop:=∃Z,f (as.map Sl.fr)=some (.rt (.lv o),Z)
def cS(f:Ms)(o:LO)(as:List A)(s:Sl)(o':LO):Prop:=∃Z,f (.pv o::as.map Sl.fr)=some (.rt s,.pv o'::Z)
theorem jJ(as:List A)(Z:List Sl):cy (as.map Rr.fr) Z=some (as.map Sl.fr,Z):=by
 induction as generalizing Z with
 |nil=>rfl
 |cons a as m=>simp only[RC,cy,take1,m]
theorem mE(as:List A):(as.map Sl.fr).map rB=as.map Sl.fr:=by rw[Rx];rfl
theorem jX(S:List Sl):∀(as:List A)(ss:List Sl)(Z:List Sl),as.length=ss.length->putL S (as.map Rr.fr) ss Z=some Z
 |[],[],Z,_=>rfl
 |a::as,s::ss,Z,h=>by rw[RC,putL,jX S as ss Z (by simpa using h)];rfl
 |[],_::_,_,h=>by simp at h
 |_::_,[],_,h=>by simp at h
variable{f:Ms}
theorem aI{as:List A}{a:A}(h:Val f as a)(Z:List Sl):eS f [] (as.map Rr.fr) Z=some (.ok (.fr a),Z):=by
 obtain⟨U,h⟩:=h
 delta eS
 rw[Ta,RO,jJ];simp only[mE,h,qd];rw[jX _ _ _ _ (by rw[cD,QU])]
variable{o:LO}
theorem jB{as:List A}(h:nW f as o)(Z:List Sl):eS f [] (as.map Rr.fr) Z=some (.ok (.nw o),Z):=by
 obtain⟨U,h⟩:=h
 delta eS
 rw[Ta,RO,jJ];simp only[mE,h,qd];rw[jX _ _ _ _ (by rw[cD,QU])]
variable{i:Nat}{Z:List Sl}
theorem cK{as:List A}{o':LO}{s:Sl}{r:Rr}(h:cS f o as s o')(R:qd s=some r)(hl:aE Z i=some o):eS f [] (.rf i::as.map Rr.fr) Z=some (.ok r,setAt Z i o'):=by
 obtain⟨U,h⟩:=h;unfold aE at hl;unfold setAt;have hi:∀s,Z[i]?=some s->(Z.set i Sl.un)[i]?=some .un:=λs e=>Q9 (QP.mp e).1;have key:∀(u:Sl)(k:LO->Sl),Z[i]?=some u->take1 (.rf i) Z=some (.lv o,Z.set i .un)->(∀s O,O[i]?=some Sl.un->sx Z (.rf i) (.pv s) O=some (O.set i (k s)))->eS f [] (.rf i::as.map Rr.fr) Z=some (.ok r,Z.set i (k o')):=by
  intro u k es l hp;unfold eS;rw[Ta,RO,cy,l];simp only[jJ];have h':f (WH rB (Sl.lv o::WH Sl.fr as))=some (.rt s,.pv o'::U):=by rw[RC,mE];exact h
  rw[h'];simp only[R];have d:az (Sl.lv o::WH Sl.fr as).length (.pv o'::U)=.pv o'::az as.length U:=by rw[Q4,QU];rfl
  rw[d,putL,jX _ _ _ _ (by rw[cD])];simp only[hp _ _ (hi u es),List.set_set]
 cases es:Z[i]? with
 |none=>simp only[es] at hl;cases hl
 |some t=>
  cases t with
  |un=>simp only[es] at hl;cases hl
  |cf _=>simp only[es] at hl;cases hl
  |fr a=>simp only[es] at hl;cases hl
  |lv c=>simp only[es] at hl;cases hl;refine key _ Sl.lv es (by unfold take1;simp only[es]) λs O e=>?_;unfold sx;simp only[es,e]
  |pv c=>simp only[es] at hl;cases hl;refine key _ Sl.pv es (by unfold take1;simp only[es]) λs O e=>?_;unfold sx;simp only[es,e]
variable{G:Mg}
theorem zw{b:Ms}{as:List A}(P:Nat->List Sl->Prop)(S:P 0 Z)(hs:∀i a Z,as[i]?=some a->P i Z->∃U F,G a Z=some U/\(b U=some (.nx,F)\/b U=some (.ct,F))/\P (i+1) F):
  ∃O,forL G b as Z=some (.nx,O)/\P as.length O:=by
 have key:∀n i Z,as.length-i=n->i<=as.length->P i Z->∃O,forL G b (as.drop i) Z=some (.nx,O)/\P as.length O:=by
  intro n;induction n with
  |zero=>
   intro i Z e hi p;have:i=as.length:=by lia
   subst this;exact⟨Z,by rw[T8];rfl,p⟩
  |succ n m=>
   intro i Z e hi p;have h:i<as.length:=by lia
   obtain⟨U,F,h1,h2,h3⟩:=hs i as[i] Z (by simp[h]) p;obtain⟨O,h4,h5⟩:=m (i+1) F Q1 h h3;refine⟨O,?_,h5⟩;rw[S0 h,forL,h1];rcases h2 with h2|h2
   .simp only[h2];exact h4
   .simp only[h2];exact h4
 simpa using key as.length 0 Z Z4 (SR _) S
theorem eZ{t:Mi Bool}{e:Mi Rr}{as:List A}(P:Nat->List A->List Sl->Prop)(u:P 0 [] Z)
  (hs:∀i a acc Z,as[i]?=some a->P i acc Z->∃U,G a Z=some U/\((∃F r Z0 d N,t U=some (.ok true,F)/\e F=some (.ok r,Z0)/\bX r Z0=some (d,N)/\P (i+1) (acc++[d]) N)\/∃F,t U=some (.ok false,F)/\P (i+1) acc F)):
  ∃ys O,dq G t e as [] Z=some (ys,O)/\P as.length ys O:=by
 have key:∀n i acc Z,as.length-i=n->i<=as.length->P i acc Z->∃ys O,dq G t e (as.drop i) acc Z=some (ys,O)/\P as.length ys O:=by
  intro n;induction n with
  |zero=>
   intro i acc Z k hi p;have:i=as.length:=by lia
   subst this;exact⟨acc,Z,by rw[T8];rfl,p⟩
  |succ n m=>
   intro i acc Z k hi p;have h:i<as.length:=by lia
   obtain⟨U,h1,h2⟩:=hs i as[i] acc Z (by simp[h]) p;rw[S0 h,dq,h1];rcases h2 with ⟨F,r,Z0,d,N,j,S,C,H⟩|⟨F,j,S⟩
   .simp only[j,S,C];exact m (i+1) _ N Q1 h H
   .simp only[j];exact m (i+1) _ F Q1 h S
 simpa using key as.length 0 [] Z Z4 (SR _) u
theorem oQ{t:Mi Bool}{b:Ms}(P:Nat->List Sl->Prop)(Q:List Sl->Prop)(hs:∀k Z,P k Z->(∃U,t Z=some (.ok false,U)/\Q U)\/∃U F H,t Z=some (.ok true,U)/\(b U=some (.nx,F)\/b U=some (.ct,F))/\H<k/\P H F):
  ∀{n k:Nat}{Z:List Sl},P k Z->k<n->∃O,dB t b n Z=some (.nx,O)/\Q O:=by
 intro n;induction n with
 |zero=>intro k Z _ h;lia
 |succ n m=>
  intro k Z p hk;rcases hs k Z p with ⟨U,h1,h2⟩|⟨U,F,H,h1,h2,h3,h4⟩
  .exact⟨U,by rw[dB,h1],h2⟩
  .obtain⟨O,h5,u⟩:=m h4 Q1;refine⟨O,?_,u⟩;rw[dB,h1];rcases h2 with h2|h2
   .simp only[h2];exact h5
   .simp only[h2];exact h5
theorem pF{n:Nat}(h:n<2^9500):n<vg:=Q8 h (by delta vg;exact SS Z2 Z2)
noncomputable def nm(x:Num):A:=.tup [.int x.1,.int x.2]
theorem IG(x:Num):toD (nm x)=some (.tup [.int x.1,.int x.2]):=by simp[nm,toD,g9]
theorem Iq(x y:Num):rH (nm x) (nm y)=some (decide (x=y)):=by
 delta rH
 simp only[IG]
 obtain⟨R,L⟩:=x
 obtain⟨Q,Y⟩:=y
 show some ((R==Q)&&((L==Y)&&true))=_
 simp[VL]
theorem pU(i j:Int):rH (.int i) (.int j)=some (decide (i=j)):=by
 delta rH
 simp only[toD]
 show some (i==j)=_
 simp[VL]
section
variable{α β:Type}{Z:List Sl}
def lh(f:A->A->Option Rr)(x y:Rr)(Z:List Sl):Option (Except Str Rr×List Sl):=match res Z x,res Z y with
 |some a,some b=>match f a b with
  |some r=>some (.ok r,Z)
  |none=>none
 |_,_=>none
def OS(f:A->Option Rr)(x:Rr)(Z:List Sl):Option (Except Str Rr×List Sl):=match res Z x with
 |some a=>match f a with
  |some r=>some (.ok r,Z)
  |none=>none
 |none=>none
theorem Px(m n:Mi Bool):m5 m n Z=(match m Z with|some (.ok true,U)=>n U|some (.ok false,U)=>some (.ok false,U)|some (.error e,U)=>some (.error e,U)|none=>none):=by
 unfold m5 aV;cases m Z with
 |none=>rfl
 |some p=>obtain⟨o,U⟩:=p;cases o with|error e=>rfl|ok k=>cases k<;>rfl
theorem GA(m n:Mi Rr):il m n Z=(match aj m Z with|some (.ok true,U)=>n U|some (.ok false,U)=>some (.ok (.fr (.bl false)),U)|some (.error e,U)=>some (.error e,U)|none=>none):=by
 unfold il aV;cases aj m Z with
 |none=>rfl
 |some p=>obtain⟨o,U⟩:=p;cases o with|error e=>rfl|ok k=>cases k<;>rfl
theorem NM(t:Mi Bool)(m n:Mi Rr):Nv t m n Z=(match t Z with|some (.ok true,U)=>m U|some (.ok false,U)=>n U|some (.error e,U)=>some (.error e,U)|none=>none):=by
 unfold Nv aV;cases t Z with
 |none=>rfl
 |some p=>obtain⟨o,U⟩:=p;cases o with|error e=>rfl|ok k=>cases k<;>rfl
def tupK(rs:List Rr)(Z:List Sl):Option (Except Str Rr×List Sl):=match d5 rs Z with
 |some (as,O)=>if as.length<=1000 then some (.ok (.fr (.tup as)),O) else none
 |none=>none
def lstK(rs:List Rr)(Z:List Sl):Option (Except Str Rr×List Sl):=match d5 rs Z with
 |some (as,O)=>if as.length<=1000 then some (.ok (.nw (.lst as)),O) else none
 |none=>none
theorem FG(m n:Ms):av m n Z=(match m Z with|some (.nx,U)=>n U|r=>r):=rfl
def DB(i:Nat)(r:Rr)(Z:List Sl):Option (Fl×List Sl):=match yh r Z with
 |some (t,U)=>match put i t U with
  |some F=>some (.nx,F)
  |none=>none
 |none=>none
def Pf(r:Rr)(Z:List Sl):Option (Fl×List Sl):=match Hs r Z with
 |some (s,O)=>some (.rt s,O)
 |none=>none
theorem LZ(loc:Nat)(m:Ms):cb loc m Z=(match m (Z++QX loc .un) with|some (.nx,O)=>some (.rt (.fr .non),O)|some (.rt s,O)=>some (.rt s,O)|some (.ex x,O)=>some (.ex x,O)|_=>none):=by
 delta cb
 cases m (Z++QX loc .un) with
 |none=>rfl
 |some p=>obtain⟨f,U⟩:=p;cases f<;>rfl
theorem Lz(m:Mi (List A))(G:Mg)(b:Ms):fT m G b Z=(match m Z with|some (.ok as,U)=>forL G b as U|some (.error e,U)=>some (.ex e,U)|none=>none):=by
 delta fT cX
 cases m Z with
 |none=>rfl
 |some p=>
  obtain⟨o,U⟩:=p;cases o with
  |error e=>rfl
  |ok x=>rfl
def Om(r:Rr)(Z:List Sl):Option (Except Str (List A)×List Sl):=match bX r Z with
 |some (a,O)=>match Ko a with
  |some as=>some (.ok as,O)
  |none=>none
 |none=>none
def P4(r:Rr)(Z:List Sl):Option (Except Str (List A)×List Sl):=match res Z r with
 |some (.int j)=>if -(2^60)<=j/\j<2^60 then some (.ok (bI 0 j.toNat),Z) else none
 |_=>none
def ig(n:Nat)(G:Mg)(t:Mi Bool)(e:Mi Rr)(as:List A)(Z:List Sl):Option (Except Str Rr×List Sl):=if as.length<=100000 then match dq G t e as [] (Z++QX n .un) with
 |some (ys,O)=>some (.ok (.nw (.lst ys)),O.take Z.length)
 |none=>none else none
def Qg(i:Nat)(r:Rr)(Z:List Sl):Option (Except Str Rr×List Sl):=match bX r Z with
 |some (a,U)=>match aE U i with
  |some (.lst xs)=>if xs.length<=16000000 then some (.ok (.fr .non),setAt U i (.lst (xs++[a]))) else none
  |_=>none
 |none=>none
def PL(i:Nat)(r rk:Rr)(Z:List Sl):Option (Fl×List Sl):=match bX r Z with
 |some (a,U)=>match res U rk,aE U i with
  |some (.int k),some (.lst xs)=>match gH xs.length k with
   |some j=>some (.nx,setAt U i (.lst (xs.set j a)))
   |none=>none
  |_,_=>none
 |none=>none
def Qd(r:Rr)(Z:List Sl):Option (Except Str Rr×List Sl):=match bX r Z with
 |some (a,O)=>some (.ok (.fr a),O)
 |none=>none
end
section
variable{Z:List Sl}
def PN(cs:List Str)(i:Nat)(f:Str)(r:Rr)(Z:List Sl):Option (Fl×List Sl):=match bX r Z with
 |some (a,U)=>match aE U i with
  |some (.obj c fs)=>if cs.contains c&&SG fs.length 900 then some (.nx,setAt U i (.obj c (kM f a fs))) else none
  |_=>none
 |none=>none
def wt(cn:Str)(f:Ms)(I:List A)(rs:List Rr)(Z:List Sl):Option (Except Str Rr×List Sl):=match cy (rs++I.map Rr.fr) Z with
 |some (as,T)=>match f (.pv (.obj cn [])::as.map rB) with
  |some (.rt (.fr .non),.pv o2::Y)=>match putL Z (rs++I.map Rr.fr) (az as.length Y) T with
   |some O=>some (.ok (.nw o2),O)
   |none=>none
  |some (.ex x,s::Y)=>match putL Z (rs++I.map Rr.fr) (az as.length Y) T with
   |some O=>some (.error x,O)
   |none=>none
  |_=>none
 |none=>none
def Nc(cn mn:Str)(r:Rr)(Z:List Sl):Option (Except Str Rr×List Sl):=match res Z r with
 |some (.obj c fs)=>if c==cn&&(fs.lookup mn).isNone then some (.ok r,Z) else none
 |_=>none
theorem Gy(a b:A):iK a b=(nU λi j=>if j != 0&&fits 9000 j then some (.fr (.int (i.fdiv j))) else none) a b:=rfl
theorem MN(a b:A):ka a b=(nU λi j=>some (.fr (.bl (decide (i<j))))) a b:=rfl
theorem ML(a b:A):ow a b=(nU λi j=>some (.fr (.bl (decide (j<i))))) a b:=rfl
end
noncomputable def np:Sl->Bool
 | .pv _=>false
 |_=>true
theorem vw(a:A):np (.fr a)=true:=rfl
theorem E7(o:LO):np (.lv o)=true:=rfl
theorem FP(i:Nat)(s:Sl)(Z:List Sl):put i s Z=(match Z[i]? with|some t=>if np t=true then some (Z.set i s) else none|none=>none):=by
 delta put
 cases Z[i]? with
 |none=>rfl
 |some t=>cases t<;>rfl
def Wp(m:Ms)(Z:List Sl)(Q:Fl->List Sl->Prop):Prop:=∃f O,m Z=some (f,O)/\Q f O
section
variable{m n b:Ms}{Z U:List Sl}{Q:Fl->List Sl->Prop}
theorem Wp.st(h:m Z=some (.nx,U))(k:Wp n U Q):Wp (av m n) Z Q:=by obtain⟨f,O,e,q⟩:=k;exact⟨f,O,by rw[FG,h];exact e,q⟩
theorem Wp.sq(k:Wp m Z λf U=>f=.nx/\Wp n U Q):Wp (av m n) Z Q:=by obtain⟨f,U,e,rfl,G,F,e2,q⟩:=k;exact⟨G,F,by rw[FG,e];exact e2,q⟩
theorem Wp.en{f:Fl}(h:m Z=some (f,U))(q:Q f U):Wp m Z Q:=⟨_,_,h,q⟩
theorem Wp.mono{p:Fl->List Sl->Prop}(k:Wp m Z Q)(h:∀f U,Q f U->p f U):Wp m Z p:=by obtain⟨f,U,e,q⟩:=k;exact⟨f,U,e,h f U q⟩
theorem Wp.fr{B:Mi (List A)}{as:List A}(P:Nat->List Sl->Prop)(h:B Z=some (.ok as,U))(S:P 0 U)(hs:∀i a Z,as[i]?=some a->P i Z->∃U,G a Z=some U/\Wp b U λf F=>(f=.nx\/f=.ct)/\P (i+1) F)(l:∀O,P as.length O->Q .nx O):Wp (fT B G b) Z Q:=by
 obtain⟨O,h1,h2⟩:=zw P S (λi a Z r p=>by
  obtain⟨U,g,f,F,e,hf,x⟩:=hs i a Z r p;refine⟨U,F,g,?_,x⟩;rcases hf with rfl|rfl
  .exact .inl e
  .exact .inr e)
 exact⟨_,O,by rw[Lz,h];exact h1,l O h2⟩
theorem Wp.Qe{B:Mi (List A)}(as:List A)(P:List Sl->Prop)(h:B Z=some (.ok as,U))(S:P U)(hs:∀a∈as,∀Z,P Z->∃U,G a Z=some U/\Wp b U λf F=>(f=.nx\/f=.ct)/\P F)(l:∀O,P O->Q .nx O):Wp (fT B G b) Z Q:=
 Wp.fr (λ_=>P) h S (λ_ a Z r p=>hs a (RF r) Z p) l
theorem Wp.df{loc:Nat}(k:Wp m (Z++QX loc .un) λf O=>match f with | .nx=>Q (.rt (.fr .non)) O | .rt s=>Q (.rt s) O | .ex x=>Q (.ex x) O|_=>False):Wp (cb loc m) Z Q:=by
 obtain⟨f,O,e,q⟩:=k
 delta Wp
 rw[LZ,e];cases f with
 |nx=>exact⟨_,_,rfl,q⟩
 |rt s=>exact⟨_,_,rfl,q⟩
 |ex x=>exact⟨_,_,rfl,q⟩
 |bk=>exact q.elim
 |ct=>exact q.elim
theorem Val.of{as:List A}{a:A}(k:Wp f (as.map Sl.fr) λg _=>g=.rt (.fr a)):Val f as a:=by obtain⟨g,O,e,rfl⟩:=k;exact⟨O,e⟩
theorem nW.of{as:List A}(k:Wp f (as.map Sl.fr) λg _=>g=.rt (.lv o)):nW f as o:=by obtain⟨g,O,e,rfl⟩:=k;exact⟨O,e⟩
theorem cS.of{as:List A}{R:Sl->LO->Prop}(k:Wp f (.pv o::as.map Sl.fr) λg Z=>∃s o' U,g=.rt s/\Z=.pv o'::U/\R s o'):∃s o',cS f o as s o'/\R s o':=by obtain⟨g,O,e,s,o',U,rfl,rfl,r⟩:=k;exact⟨s,o',⟨U,e⟩,r⟩
end
def Dt(n:Nat)(a:A):Prop:=∃d,toD a=some d/\D.depth d<=n
def qC(n:Nat)(as:List A):Prop:=∃ds,g9 as=some ds/\D.gm ds<=n
theorem Dt.int{n:Nat}(i:Int):Dt n (.int i):=⟨.int i,by rw[toD],by simp[D.depth]⟩
theorem Dt.str{n:Nat}(x:Str):Dt n (.str x):=⟨.str x,by rw[toD],by simp[D.depth]⟩
theorem qC.nil{n:Nat}:qC n []:=⟨[],by rw[g9],by simp[D.gm]⟩
theorem qC.cons{n:Nat}{a:A}{as:List A}(h:Dt n a)(k:qC n as):qC n (a::as):=by obtain⟨d,h1,h2⟩:=h;obtain⟨ds,h3,h4⟩:=k;exact⟨d::ds,by rw[g9,h1,h3],by rw[D.gm];lia⟩
theorem qC.of{n:Nat}:∀{as:List A},(∀a∈as,Dt n a)->qC n as
 |[],_=>.nil
 |a::as,h=>.cons (h a Q5) (qC.of λb d=>h b (QW _ d))
theorem Dt.tup{n:Nat}{as:List A}(h:qC n as):Dt (n+1) (.tup as):=by obtain⟨ds,h1,h2⟩:=h;exact⟨.tup ds,by rw[toD,h1],by rw[D.depth];lia⟩
theorem Dt.lst{n:Nat}{as:List A}(h:qC n as):Dt (n+1) (.lst as):=by obtain⟨ds,h1,h2⟩:=h;exact⟨.lst ds,by rw[toD,h1],by rw[D.depth];lia⟩
theorem Dt.nm{n:Nat}(x:Num):Dt (n+1) (nm x):=Dt.tup (.cons (.int _) (.cons (.int _) .nil))
theorem Bv{a:A}(h:Dt 40 a):rH a a=some true:=by
 obtain⟨d,h1,h2⟩:=h
 delta rH
 simp only[h1];rw[Zx h2,D.ly]
theorem iy(n:Nat):(bI 0 n).length=n:=by simp[bI]
theorem nC{n:Nat}{a:A}(h:(bI 0 n)[i]?=some a):i<n/\a=.int i:=by
 have hi:=(QP.mp h).1;rw[iy] at hi
 delta bI at h
 rw[Rm,Si hi] at h;simp at h;exact⟨hi,h.symm⟩
open PySem L2
section
variable{G:Mg}{b:Ms}{g:Key×A->A}{j:Nat}{Z:List Sl}{kvs:List (Key×A)}
theorem DZ{a:A}(h:Z[j]?=some (.fr a)):ah j Z=some (.ok (.fr a),Z):=by unfold ah;rw[h]
end
variable{rs:List Rr}{cn:Str}
section
variable{α β:Type}{Z S U F Z0:List Sl}{m n mk:Mi Rr}{t u:Mi Bool}{x y r rk:Rr}
theorem bk{m:Mi α}{f:α->Mi β}{x:α}{q:Option (Except Str β×List Sl)}(h:m Z=some (.ok x,U))(k:f x U=q):aV m f Z=q:=by unfold aV;rw[h];exact k
theorem sk{m:Mi α}{f:α->Ms}{x:α}{q:Option (Fl×List Sl)}(h:m Z=some (.ok x,U))(k:f x U=q):cX m f Z=q:=by unfold cX;rw[h];exact k
theorem au{I:List A}{ms:Mi (List Rr)}(h:ms Z=some (.ok rs,U))(c:eS f I rs U=some (.ok r,F)):aY f I ms Z=some (.ok r,F):=bk h c
theorem ae{ms:Mi (List Rr)}(h:m Z=some (.ok x,U))(k:ms U=some (.ok rs,F)):da m ms Z=some (.ok (x::rs),F):=bk h (bk k rfl)
theorem ag{f:A->A->Option Rr}(h:m Z=some (.ok x,U))(k:n U=some (.ok y,F))(o:lh f x y F=some (.ok r,Z0)):aC f m n Z=some (.ok r,Z0):=bk h (bk k o)
theorem eP{f:A->Option Rr}(h:m Z=some (.ok x,U))(o:OS f x U=some (.ok r,F)):aL f m Z=some (.ok r,F):=bk h o
theorem kR(h:m Z=some (.ok x,U))(o:Qd x U=some (.ok r,F)):lz m Z=some (.ok r,F):=bk h o
theorem dZ{ms:Mi (List Rr)}(h:ms Z=some (.ok rs,U))(o:tupK rs U=some (.ok r,F)):fv ms Z=some (.ok r,F):=bk h o
theorem hJ{ms:Mi (List Rr)}(h:ms Z=some (.ok rs,U))(o:lstK rs U=some (.ok r,F)):du ms Z=some (.ok r,F):=bk h o
theorem DJ{I:List A}{ms:Mi (List Rr)}(h:ms Z=some (.ok rs,U))(c:wt cn f I rs U=some (.ok r,F)):pd cn f I ms Z=some (.ok r,F):=bk h c
theorem jZ{mn:Str}(h:m Z=some (.ok x,U))(c:Nc cn mn x U=some (.ok r,F)):bK cn mn m Z=some (.ok r,F):=bk h c
theorem aB{b:Bool}(h:m Z=some (.ok (.fr (.bl b)),U)):aj m Z=some (.ok b,U):=bk h rfl
theorem fK{b:Bool}(h:t Z=some (.ok b,U)):fz t Z=some (.ok (!b),U):=bk h rfl
theorem IF(h:t Z=some (.ok true,U)):mJ t u Z=some (.ok true,U):=bk h rfl
theorem dC{b:Bool}(h:t Z=some (.ok false,U))(k:u U=some (.ok b,F)):mJ t u Z=some (.ok b,F):=bk h k
theorem Ea(h:t Z=some (.ok false,U)):m5 t u Z=some (.ok false,U):=bk h rfl
theorem pJ{b:Bool}(h:t Z=some (.ok true,U))(k:u U=some (.ok b,F)):m5 t u Z=some (.ok b,F):=bk h k
theorem lJ(h:m Z=none)(k:n Z=some (.ok r,U)):aQ m n Z=some (.ok r,U):=by unfold aQ;rw[h];exact k
theorem bQ(h:m Z=some (.ok r,U)):aQ m n Z=some (.ok r,U):=by unfold aQ;rw[h]
theorem Bz(h:m Z=some (.ok r,U))(k:DB i r U=some (.nx,F)):aG i m Z=some (.nx,F):=sk h k
theorem aK{f:Fl}(h:m Z=some (.ok r,U))(k:Pf r U=some (f,F)):bB m Z=some (f,F):=sk h k
theorem eY(h:m Z=some (.ok r,U)):dA m Z=some (.nx,U):=sk h rfl
theorem M7{a:Sl}(h:yh r Z=some (a,U))(k:U[i]?=some s)(hn:np s=true):DB i r Z=some (.nx,U.set i a):=by unfold DB;rw[h];dsimp only;rw[FP,k];dsimp only;rw[Zx hn]
end
end M
namespace W
open PySem L2
noncomputable def yQ(o:Obj):Bool:=match o.data with
 | .freed=>false
 |_=>true
def o8:List Nat->List Obj->QN->QN
 |a::as,o::os,K=>o8 as os (match yQ o with|true=>(a,o)::K|false=>K)
 |_,_,K=>K
def iF(h:Heap):QN:=match h.get? XY with
 |some o=>(XY,o)::o8 (Rb h.objs.size) h.objs.toList []
 |none=>[]
theorem oH{o:Obj}{a:Addr}:∀{K:QN},K.lookup a=some o->(a,o)∈K
 |(b,u)::K,e=>by
  rw[Q6] at e;split at e
  .rename_i q;cases e;rw[ZD.mp q];exact Q5
  .exact QW _ (oH e)
theorem sL{h:Heap}:∀{as:List Nat}{os:List Obj}{K:QN},(∀(i a:Nat)(o:Obj),as[i]?=some a->os[i]?=some o->h.objs[a]?=some o)->(∀(a:Nat)(o:Obj),(a,o)∈K->h.get? a=some o)->∀a o,(a,o)∈o8 as os K->h.get? a=some o
 |[],_,K,_,k=>by delta o8;exact k
 |_::_,[],K,_,k=>by delta o8;exact k
 |a::as,o::os,K,e,k=>by
  unfold o8;refine sL (λi b u h1 h2=>e (i+1) b u h1 h2) ?_;cases c:yQ o with
  |false=>exact k
  |true=>
   intro b u m;rcases QV.mp m with m|m
   .cases m
    delta Heap.get?
    rw[e 0 a o rfl rfl];obtain⟨Q,H,Y,Z⟩:=o;cases Y<;>first|rfl|cases c
   .exact k b u m
theorem nj(h:Heap):(iF h).In h:=λa o e=>by
 have m:=oH e;unfold iF at m;split at m
 .rename_i o' Y;rcases QV.mp m with m|m
  .cases m;exact Y
  .refine sL (λi b u h1 h2=>?_) (λ_ _ q=>by cases q) a o m;have hi:=(QP.mp h1).1 |> λq=>by rwa[Te] at q
   rw[Si hi] at h1;cases h1;rw[<-Vz];exact h2
 .cases m
noncomputable def Lx(K:QN)(n:Str):Option (Str×Str×Arguments×Zi×Scope×Addr×List (Str×Addr)×Value×Addr×Bool):=
 match Vj K XY n with
 | some (some (.ref f))=>(match K.lookup f with
  |some ⟨_,_,.func d,_⟩=>some (d.name,d.qualname,d.params,d.body,d.scope,d.globals,d.closure,d.defaults,d.builtins,Ul K d.code n&&Sk K (.ref f))
  | _=>none)
 |_=>none
def L9(n:Str)(st:Stmt):Option (Str×Str×Arguments×Zi×Scope×Addr×List (Str×Addr)×Value×Addr×Bool):=some (n,n,eu st,.stmts (fG st),bx st,XY,[],.none,YR,true)
noncomputable def OC(K:QN)(a:Addr)(i j:Int):Bool:=match K.lookup a with
 | some ⟨.type "tuple",none,.seq its _,_⟩=>(match its.toList with
  |[.int x _,.int y _]=>x==i&&y==j
  | _=>false)
 |_=>false
def Kz(ds:List (Str×Stmt))(a:QN->Bool)(K:QN):=(ds.map λx=>Lx K x.1,a K)
def KG(ds:List (Str×Stmt)):List (Option (Str×Str×Arguments×Zi×Scope×Addr×List (Str×Addr)×Value×Addr×Bool))×Bool:=(ds.map λx=>L9 x.1 x.2,true)
def hk(ds:List (Str×Stmt))(a:QN->Bool):WA where
 α:=List (Option (Str×Str×Arguments×Zi×Scope×Addr×List (Str×Addr)×Value×Addr×Bool))×Bool
 obs:=λs=>Kz ds a (iF s.heap)
 val:=λ_=>KG ds
 says:=λ_ h=>∃K:QN,Kz ds a K=KG ds/\K.In h
 of:=λ_ s e=>⟨iF s.heap,e,nj _⟩
 keeps:=λ_ _ _ ⟨K,e,i⟩ k=>⟨K,e,i.keeps k⟩
noncomputable def MW(p:Program):List Stmt:=p.main.body.filter λs=>match s with | .FunctionDef n ..=>n==("law" : Str)|_=>false
noncomputable def MD:Stmt->List Str
 | .FunctionDef n ..=>[n]
 | .ClassDef n ..=>[n]
 | .Assign [.Name n _] _ _=>[n]
 |_=>[]
def Mo(p:Program):Program:={ p with main:={ p.main with body:=MW p } }
def uK(p:Program):List Str:=(p.main.body.flatMap MD).filter λn=>n != ("law" : Str)
open PySem PySem.W PyProof.Rows
noncomputable abbrev Fx:=Xl
noncomputable abbrev ug:=Xm
noncomputable abbrev LS:=Xn
noncomputable abbrev Bu:=Xo
noncomputable abbrev FW:=Xp
noncomputable abbrev F5:=Xq
noncomputable abbrev BW:=Xr
theorem Bf:denote=Fx:=Xs
theorem oX:YQ=ug:=Xu
theorem Cr:stepOk=LS:=Xv
theorem wM:stepT=Bu:=Xw
theorem zh:importEnds=FW:=Xx
theorem yH:fenceModules?=F5:=Xy
theorem xR:openSeen=BW:=Xz
def AQ(p:Program)(w:XX)(Z:Nat)(c:Option Value):Nat->Zo->Thread->Option Zo
 |0,_,_=>none
 |m+1,s,t=>match through t with
  |true=>some s
  |false=>match LS Z c t with
   |false=>none
   |true=>match Bu (Fx ug) p w s t with
    |some (s',t')=>AQ p w Z c m s' t'
    |none=>none
theorem vY{p:Program}{w:XX}{Z:Nat}{c:Option Value}:∀{m:Nat}{s s2:Zo}{t:Thread},AQ p w Z c m s t=some s2->topRun YQ p w Z c m s.abs t=some s2.abs
 |0,_,_,_,e=>by cases e
 |m+1,s,s2,t,e=>by
  unfold AQ at e;rw[<-Cr,<-wM,<-Bf,<-oX] at e;unfold topRun;cases I:through t with
  |true=>rw[I] at e;cases e;rfl
  |false=>
   rw[I] at e;cases a:stepOk Z c t with
   |false=>rw[a] at e;cases e
   |true=>
    rw[a] at e;cases es:stepT (denote YQ) p w s t with
    |none=>rw[es] at e;cases e
    |some q=>rw[es] at e;rw[stepT_spec es];exact vY e
noncomputable def KC:List Obj->Nat->BT->Option BT
 |[],_,t=>some t
 |o::os,n,t=>match ((t.ins n o).get n).isSome with
  |true=>KC os (n+1) (t.ins n o)
  |false=>none
theorem yu(l:Life):∀{os:List Obj}{n:Nat}{t t':BT},KC os n t=some t'->absHeap t' (n+os.length) l=⟨(absHeap t n l).objs++os.toArray,l⟩
 |[],n,t,t',e=>by cases e;rfl
 |o::os,n,t,t',e=>by
  unfold KC at e;cases Y:((t.ins n o).get n).isSome with
  |false=>rw[Y] at e;cases e
  |true=>
   rw[Y] at e;have i:=yu l e;rw[absHeap_ins Y] at i;have e2:n+1+os.length=n+(o::os).length:=by rw[Q4];lia
   rw[<-e2,i];show Heap.mk (((absHeap t n l).objs.push o)++os.toArray) l=_;simp
theorem yO{h:Heap}{t:BT}(e:KC h.objs.toList 0 .nil=some t):absHeap t h.objs.size h.life=h:=by have i:=yu h.life e;rw[Uo,Uv] at i;rw[i];obtain⟨objs,l⟩:=h;show Heap.mk (#[]++objs.toList.toArray) l=_;simp
def Kv(p:Program)(w:XX)(N:Nat)(s₀:Shared):Option Shared:=match s₀.heap.isNs XY&&s₀.gens.size==0 with
 |true=>match KC s₀.heap.objs.toList 0 .nil with
  |some t=>(AQ p w s₀.heap.objs.size (s₀.heap.nsMap XY "__annotations__") N ⟨t,s₀.heap.objs.size,s₀.heap.life,s₀.gens,s₀.drawn,s₀.toks,s₀.os⟩ (topStub p)).bind λq=>match staticsOk (importedModules p.main.body) s₀.heap q.abs.heap&&namesBound p q.abs.heap&&gensDone q.abs&&laidKept s₀.heap q.abs.heap with
   |true=>some q.abs
   |false=>none
  |none=>none
 |false=>none
variable{p:Program}{w:XX}{N:Nat}{s:Shared}
theorem Ct{s₀:Shared}(e:Kv p w N s₀=some s):topFrom YQ p w N s₀=some s:=by
 delta Kv at e
 delta topFrom
 cases e1:s₀.heap.isNs XY&&s₀.gens.size==0 with
 |false=>rw[e1] at e;cases e
 |true=>
  rw[e1] at e;cases e2:KC s₀.heap.objs.toList 0 .nil with
  |none=>rw[e2] at e;cases e
  |some t=>
   rw[e2] at e;simp only at e;cases J:AQ p w s₀.heap.objs.size (s₀.heap.nsMap XY "__annotations__") N ⟨t,s₀.heap.objs.size,s₀.heap.life,s₀.gens,s₀.drawn,s₀.toks,s₀.os⟩ (topStub p) with
   |none=>rw[J] at e;cases e
   |some q=>
    rw[J] at e;have k:=vY J;have c:WI ⟨t,s₀.heap.objs.size,s₀.heap.life,s₀.gens,s₀.drawn,s₀.toks,s₀.os⟩=s₀:=by
     delta WI
     rw[yO e2]
    rw[c] at k;rw[k];exact e
def vR(p:Program)(w:XX)(N:Nat):Option Shared:=((FW ug (opening p) w N (start (opening p)).1 (start (opening p)).2).bind (F5 p)).bind (Kv p w N)
theorem yD(e:vR p w N=some s):openEnds YQ p w N=some s:=by
 delta vR at e
 delta openEnds fencedOpening
 rw[<-zh,<-oX,<-yH] at e
 cases e1:(importEnds YQ (opening p) w N (start (opening p)).1 (start (opening p)).2).bind (fenceModules? p) with
 |none=>rw[e1] at e;cases e
 |some u=>rw[e1] at e;exact Ct e
theorem AW{q:Program}{loose:List Str}{Xt:Shared->Bool}{α:Type}{Yf:Shared->α}{Ya:XX->α}
  (h:∀w,Option.map (λs=>(BW q loose (importedModules p.main.body) Xt true s,Yf s)) (vR p w N)=some (openGood q loose,Ya w)):LeftO p q loose Xt Yf Ya N:=λw=>by
 have h:=h w;rw[<-xR] at h;cases e:vR p w N with
 |none=>rw[e] at h;cases h
 |some s=>rw[e] at h;rw[yD e];exact h
end W
namespace L2
open PySem PySem.Spec PyProof.Rows
section
variable{P:Program}{w:XX}{K:QN}{mg:Str->Option Value}{base:Heap}{dV:Value}
theorem qi.P9{CX:qG}{x qual:Str}{st:Stmt}{f:Addr}{fd:X1}{N ps:List Str}{k:Nat}{sp:Sp}(F:qi K x qual st f fd dV)(S:jP N ps (bx st))(len:∀vs H Q E,sp vs H Q E->vs.length=ps.length)
  (X:∀(cdv:Value)(A:XZ)(outer:List Env)(s:Shared)(H:Hp)(vs:List V)(Q:VK)(E:XK),cW k (A.deeper (Y4 qual (bx st) s.heap.objs.size f cdv))->sp vs H Q E->
   ∃t,qX (uC CX P w K mg base N qual (bx st) f cdv A outer s H E) (fG st) t/\t { nx:=λ_ H'=>Q .non H',rt:=Q } (start N vs) H):dF P w K mg base CX (k+1) f fd ps sp:=by
 obtain⟨oc,od,kV,doc,pm,an,cdv,ct,osl,rfl,G,T⟩:=F.ex;exact M8 G T S len λA outer s H vs Q E R p=>X cdv A outer s H vs Q E R p
end
end L2
namespace M
open PySem L2
section
variable{X:Cx}{E:XK}
theorem EN{CX:qG}{P:Program}{w:XX}{K:QN}{mg:Str->Option Value}{base:Heap}{dV:Value}{x qual:Str}{st:Stmt}{f:Addr}{fd:X1}{N ps:List Str}{k:Nat}{m:Ms}(F:qi K x qual st f fd dV)(S:jP N ps (bx st))
  (d:∀(cdv:Value)(A:XZ)(outer:List Env)(s:Shared)(H:Hp)(E:XK),cW k (A.deeper (XA qual (bx st) s.heap.objs.size f cdv))->
   qZ (uC CX P w K mg base N qual (bx st) f cdv A outer s H E) E (fG st) m):dF P w K mg base CX (k+1) f fd ps (je ⟨K,mg,P,w⟩ ps.length (cb (N.length-ps.length) m)):=
 F.P9 S (λvs H Q E h=>h.1) λcdv A outer s H vs Q E R h=>by
  obtain⟨hn,c,Z,f,O,t,I,e1,b,em,q⟩:=h;refine⟨_,(d cdv A outer s H E R).p,?_⟩;have bs:=b.start N I;rw[hn] at bs
  delta cb at em
  cases e:m (Z++QX (N.length-ps.length) .un) with
  |none=>rw[e] at em;cases em
  |some p=>
   obtain⟨u,U⟩:=p;rw[e] at em;refine⟨c,_,[],[],u,U,t,bs,e,?_⟩;have bk:∀{j:St}{H':Hp}{J:St}{T:List Sl},Bd c j H' U J T->Bd c (vs.map some) H' (az vs.length U) J T:=λa=>by have:=a.back;rw[I,QU] at this;exact this
   cases u with
   |nx=>cases em;exact λj H' a=>q .non H' (λo z=>by cases z) ((bk a).push λ_=>.non)
   |rt s=>cases em;exact λv j H' hs a=>q v H' hs (bk a)
   |ex x=>cases em;exact λC j H' hm a=>q C H' hm (bk a)
   |bk=>cases em
   |ct=>cases em
noncomputable def Ce:qG:=λ_ _ _ _ _ _=>False
noncomputable def rM:Ms:=λ_=>none
theorem ET{s:Stmt}:JS X E s rM:=⟨λpins s Y H D I h=>by obtain⟨c,Z,B,θ,f,O,t,b,em,q⟩:=h;cases em⟩
end
end M
namespace W
open PySem L2
theorem wQ{CX:qG}{l:V5}{n k:Nat}{q:Program}{loose:List Str}{XP:(Str->Option Value)->Heap->Prop}{YP:XX->Heap->Prop}{d:DefRec}{x:Str}{sp:QN->Sp}
  (hn:l.most=some n)(X:n<=sizeLine)(Q:d.params.defaults=[])(R:cW k YZ)
  (F:∀(w:XX)(mg:Str->Option Value)(A:Addr)(h:Heap),YP w h->h.Ns XY mg->mg d.name=some (.ref A)->
   ∃K:QN,K.In h/\∃fd:X1,(∀(s:Shared)(u:Value),YV s fd ⟨[u],[]⟩ [(x,u)])/\∀base:Heap,K.In base->base.Ns XY mg->dF l.prog w K mg base CX k A fd [x] (sp K))
  (hx:∀l H s e s',CX l H s (λ_ _ _=>False) e s'->False) (C:∀(K:QN)(H:Hp)(a:Addr)(ns:List Int),ns.length<=n->Hu H->dj K H a (ns.map V.int)->sp K [.ref a] H (λv _=>v=.bl true) λ_ _ _=>False):
  Wi q loose XP YP l.row.toRowW d [] (λf vs=>VX f vs):=by
 refine Att.rL hn Q λw s₀ Z mg mb A o pm cd doc a vs ns G Y ho hd B i I p c J=>?_;obtain⟨K,D,fd,E,y⟩:=F w mg A _ Y G.T.g i;exact Bj D G.T.g G.T.b G.T.builtins G.T.nolimit J I p (RE c X) R y E (λH O U=>C K H a ns c O U) λH e s' z=>hx _ _ _ _ _ z
end W
namespace M
open PySem L2
structure FI where
 n:Nat
 m:Ms
 mu:List Bool
 df:List A
 hf:Bool
structure Tb where
 fns:List (Str×FI)
 cst:List (Str×A)
 exs:List Str
 kit:List (Str×List (Str×Bool))
 exm:List (Str×List Str)
 fld:List (Str×List Str)
 fM:List (Str×FI)
 mts:List (Str×Str×FI)
structure Sc where
 N:List Str
 nm:List (Str×NameKind)
 di:List Str
 ca:List Str
 hd:Bool
 lv:List Str
 tp:Bool:=false
noncomputable def OV(s:Sc):Sc:={ s with tp:=false }
noncomputable def af{α β:Type}(x:Option α)(f:α->Option β):Option β:=match x with
 |some a=>f a
 |none=>none
noncomputable def c7{α:Type}(b:Bool)(x:Option α):Option α:=match b with
 |true=>x
 |false=>none
variable{α:Type}
theorem aa{β:Type}{x:Option α}{f:α->Option β}{y:β}(h:af x f=some y):∃a,x=some a/\f a=some y:=by
 cases x with
 |none=>cases h
 |some a=>exact⟨a,rfl,h⟩
theorem ai{b:Bool}{x:Option α}{y:α}(h:c7 b x=some y):b=true/\x=some y:=by
 cases b with
 |false=>cases h
 |true=>exact⟨rfl,h⟩
def qE(s:Sc)(x:Str)(k:NameKind):Bool:=s.nm.lookup x==some k
def EG(s:Sc)(x:Str):Bool:=qE s x .local || qE s x .cell || qE s x .free
def tN(s:Sc)(x:Str):Bool:=qE s x .local || qE s x .cell
noncomputable def okN(x:Str):Bool:=!(x==("__debug__" : Str))&&!(x==("__classdict__" : Str))
def nN(s:Sc)(x:Str):Bool:=qE s x .globalImplicit&&okN x
def gH(x:Str):List Str->Nat->Option Nat
 |[],_=>none
 |y::ys,i=>if x==y then some i else gH x ys (i+1)
theorem lQ{x:Str}:∀{N:List Str}{k i:Nat},gH x N k=some i->∃j,i=k+j/\N[j]?=some x
 |[],_,_,h=>by cases h
 |y::ys,k,i,h=>by
  unfold gH at h;split at h
  .rename_i e;cases h;exact⟨0,rfl,by rw[ZD.mp e];rfl⟩
  .obtain⟨j,e1,e2⟩:=lQ h;exact⟨j+1,by lia,by simpa using e2⟩
def slot(s:Sc)(x:Str):Option Nat:=c7 (EG s x&&okN x) (gH x s.N 0)
def iV(s:Sc)(x:Str):Option Nat:=c7 (tN s x&&okN x) (gH x s.N 0)
noncomputable def CW:List Str:=["len", "isinstance", "abs", "max", "min", "int", "bool", "str", "tuple", "list", "dict", "range", "ValueError", "sorted", "all", "zip", "set", "sum", "enumerate", "any", "reversed"]
def mr(P:Program)(w:XX)(K:QN)(mg:Str->Option Value)(fd:X1)(ps:List Str)(df:List A):Prop:=∀j,j<=df.length->∃ds dvs,Binds K fd ps ds/\Vals dvs ds/\∀G,bU ⟨K,mg,P,w⟩ G dvs (df.drop j)
noncomputable def nJ(fi:FI)(n:Nat):List A:=fi.df.drop (fi.df.length-(fi.n-n))
variable{w:XX}{K:QN}{mg:Str->Option Value}{fd:X1}{ps:List Str}
theorem mr.of{P:Program}{fi:FI}(h:mr P w K mg fd ps fi.df)(n:Nat):∃ds dvs,Binds K fd ps ds/\Vals dvs ds/\∀G,bU ⟨K,mg,P,w⟩ G dvs (nJ fi n):=h _ (Nat.sub_le _ _)
noncomputable def fk(tb:Tb)(f:Str):List Str:=(tb.fld.filter λp=>p.2.contains f).map (·.1)
noncomputable def FZ(tb:Tb)(m:Str):List (Str×FI):=tb.mts.filterMap λp=>if p.1==m then some p.2 else none
structure Gd(tb:Tb)(k:Nat)(P:Program)(w:XX)(K:QN)(mg:Str->Option Value)(base:Heap):Prop where
 fn:∀x f,tb.fns.lookup x=some f->∃a fd ps,dF P w K mg base Ce k a fd ps (je ⟨K,mg,P,w⟩ f.n f.m)/\mg x=some (.ref a)/\Sk K (.ref a)=true/\mr P w K mg fd ps f.df
 cs:∀x a,tb.cst.lookup x=some a->∃v u,mg x=some u/\RelV v u/\∀G,RA ⟨K,mg,P,w⟩ G v a
 bl:∀x∈CW,mg x=none
 fl:∀f c C,(fk tb f).contains c=true->mg c=some (.ref C)->gN K C/\bY K C f
 im:∀c f,tb.fM.lookup c=some f->∃C a fd ps j,j+1<=k/\dF P w K mg base Ce j a fd ps (je ⟨K,mg,P,w⟩ f.n f.m)/\mg c=some (.ref C)/\Mk K C a/\mr P w K mg fd ps f.df
 mt:∀m c f,(m,c,f)∈tb.mts->∃C a fd ps,dF P w K mg base Ce k a fd ps (je ⟨K,mg,P,w⟩ f.n f.m)/\mg c=some (.ref C)/\gN K C/\Meth K C m a/\mr P w K mg fd ps f.df
structure Sit(tb:Tb)(k:Nat)(X:Cx)(E:XK)(s:Sc):Prop where
 n:X.N=s.N
 nd:s.N.Nodup
 gl:∀x,s.nm.lookup x=some .globalImplicit->Gl X x
 vs:∀x,EG s x=true->ku X.env.scope x
 lo:∀x,tN s x=true->Loc X.env.scope x
 lc:∀x,s.nm.lookup x=some .local->X.env.scope.names.lookup x=some .local
 ce:∀x,(s.nm.lookup x=some .cell->X.env.scope.names.lookup x=some .cell)/\(s.nm.lookup x=some .free->X.env.scope.names.lookup x=some .cell\/X.env.scope.names.lookup x=some .free)
 fx:∀x,tN s x=true->X.fn x=true\/X.env.scope.names.lookup x=some .local
 cm:s.hd=false->X.calm=true
 rm:s.hd=false->cW k X.A
 ps:s.hd=false->Passes Ce X E
 gd:Gd tb k X.prog X.w X.K X.mg X.base
variable{i:Nat}
section
variable{tb:Tb}{k:Nat}{X:Cx}{E:XK}{s:Sc}
theorem qp{x:Str}(h:okN x=true):fC x/\lA x:=by unfold okN at h;rw[QM] at h;exact⟨by simpa using h.1,by simpa using h.2⟩
theorem Sit.slot(S:Sit tb k X E s){x:Str}(h:M.slot s x=some i):X.N[i]?=some x/\ku X.env.scope x/\fC x/\lA x:=by
 obtain⟨h1,h2⟩:=ai h;rw[QM] at h1;obtain⟨j,e1,e2⟩:=lQ h2;obtain rfl:i=j:=by lia
 exact⟨by rw[S.n];exact e2,S.vs x h1.1,(qp h1.2).1,(qp h1.2).2⟩
theorem Sit.iV(S:Sit tb k X E s){x:Str}(h:M.iV s x=some i):X.N[i]?=some x/\Loc X.env.scope x/\fC x/\(X.fn x=true\/X.env.scope.names.lookup x=some .local):=by
 obtain⟨h1,h2⟩:=ai h;rw[QM] at h1;obtain⟨j,e1,e2⟩:=lQ h2;obtain rfl:i=j:=by lia
 exact⟨by rw[S.n];exact e2,S.lo x h1.1,(qp h1.2).1,S.fx x h1.1⟩
theorem Sit.glob(S:Sit tb k X E s){x:Str}(h:nN s x=true):Gl X x/\fC x:=by unfold nN qE at h;rw[QM,ZD] at h;exact⟨S.gl x h.1,(qp h.2).1⟩
end
noncomputable def notStar:Expr->Bool
 | .Starred _ _=>false
 |_=>true
variable{e:Expr}
theorem ay(h:notStar e=true)(es:List Expr)(env:Env):XM (e::es) env=(false,eval e env)::XM es env:=by cases e<;>first|rfl|cases h
theorem dN{env:Env}{pos:Pos}:∀{es:List Expr},es.all notStar=true->(XW pos (XM es env)).any (·.1)=false
 |[],_=>rfl
 |e::es,h=>by rw[Rh,QM] at h;rw[ay h.1];show (false || (XW pos (XM es env)).any (·.1))=false;rw[dN h.2];rfl
noncomputable def jD:Expr->Bool
 | .ListComp _ _ _ _=>false
 | .SetComp _ _ _ _=>false
 | .DictComp _ _ _ _ _=>false
 |_=>true
theorem kf(h:jD e=true)(t:Option Expr)(l:Nat)(env:Env):X9 e t l env=pure false:=by cases e<;>first|rfl|cases h
noncomputable def kv:Expr->Bool
 | .Set _ _ _=>false
 |_=>true
theorem mG(h:kv e=true)(env:Env)(x:Value):X7 e env x=pure x:=by cases e<;>first|rfl|cases h
noncomputable def plainT:Expr->Bool
 | .UnaryOp _ _ _=>false
 | .BoolOp _ _ _=>false
 | .IfExp _ _ _ _=>false
 | .Compare _ _ _ _=>false
 |_=>true
theorem tq(h:plainT e=true)(env:Env):∀z,Zj e env z=(do let v <- z;YF e.pos;holding [v] (truthy v)):=by intro z;cases e<;>first|rfl|cases h
noncomputable def ju:Expr->Bool
 | .Slice _ _ _ _=>false
 |_=>true
theorem s9(h:ju e=true):jC e:=by intro o i;cases e<;>first|rfl|cases h
variable{op:YA}
theorem jt(h:kv e=true):X4 op e=false:=by cases e<;>first|rfl|cases h
theorem uO{env:Env}:∀es:List Expr,(X6 es env).length=es.length
 |[]=>rfl
 |e::es=>by cases e<;>(show (_::X6 es env).length=_;rw[Q4,Q4,uO es])
theorem r9{env:Env}:∀es:List Expr,es.all notStar=true->(X6 es env).findIdx? (·.1)=none
 |[],_=>rfl
 |e::es,h=>by
  rw[Rh,QM] at h;have m:=r9 (env:=env) es h.2;have e1:X6 (e::es) env=(false,assign e env)::X6 es env:=by cases e<;>first|rfl|cases h.1
  rw[e1,List.findIdx?_cons];simp[m]
variable{env:Env}
theorem Cb{es:List Expr}(h:notStar e=true):(X6 (e::es) env).map (·.2)=assign e env::(X6 es env).map (·.2):=by cases e<;>first|rfl|cases h
variable{q:Mi Rr}{pos p:Pos}{f:Str}
section
variable{tb:Tb}{k:Nat}{X:Cx}{E:XK}{s:Sc}
def BV(F:Expr->Option (Mi Rr)):List Expr->Option (Mi (List Rr))
 |[]=>some kY
 |e::es=>c7 (notStar e) (af (F e) λm=>af (BV F es) λn=>some (da m n))
def Ds(F G:Expr->Option (Mi Rr)):List Expr->List Bool->Option (Mi (List Rr))
 |[],_=>some kY
 |e::es,b::bs=>c7 (notStar e) (af (match b with|true=>F e|false=>G e) λm=>af (Ds F G es bs) λn=>some (da m n))
 |_::_,[]=>none
def NL(m:Mi (List Rr))(n:Nat):Prop:=∀Z rs O,m Z=some (.ok rs,O)->rs.length=n
theorem lF{F:Expr->Option (Mi Rr)}(h:∀e m,F e=some m->JE X E e m):∀{es:List Expr}{m:Mi (List Rr)},BV F es=some m->JA X E es m/\NL m es.length/\es.all notStar=true
 |[],m,e=>by cases e;exact⟨Bx,zf,rfl⟩
 |a::es,m,e=>by obtain⟨h1,e⟩:=ai e;obtain⟨K,e1,e⟩:=aa e;obtain⟨L,e2,e⟩:=aa e;cases e;obtain⟨s,I,q⟩:=lF h e2;exact⟨vI (h _ _ e1) s (ay h1 _ _),v7 I,by rw[Rh,h1,q];rfl⟩
theorem lH{F G:Expr->Option (Mi Rr)}(h:∀e m,F e=some m->JE X E e m)(g:∀e m,G e=some m->JE X E e m):∀{es:List Expr}{bs:List Bool}{m:Mi (List Rr)},Ds F G es bs=some m->JA X E es m/\NL m es.length/\es.all notStar=true
 |[],_,m,e=>by cases e;exact⟨Bx,zf,rfl⟩
 |_::_,[],m,e=>by cases e
 |a::es,b::bs,m,e=>by
  obtain⟨h1,e⟩:=ai e;obtain⟨K,e1,e⟩:=aa e;obtain⟨L,e2,e⟩:=aa e;cases e;obtain⟨s,I,q⟩:=lH h g e2;refine⟨vI ?_ s (ay h1 _ _),v7 I,by rw[Rh,h1,q];rfl⟩;cases b
  .exact g _ _ e1
  .exact h _ _ e1
def Pj(op:BoolOp)(F:Expr->Option (Mi Rr)):List Expr->Option (Mi Rr)
 |[]=>none
 |[a]=>F a
 |a::b::r=>af (F a) λm=>af (Pj op F (b::r)) λn=>(match op with | .And=>some (il m n) | .Or=>none)
theorem zJ{op:BoolOp}{F:Expr->Option (Mi Rr)}{pos:Pos}(h:∀e m,F e=some m->JE X E e m):∀{es:List Expr}{m:Mi Rr},Pj op F es=some m->JE X E (.BoolOp op es pos) m
 |[],m,e=>by cases e
 |[a],m,e=>IE (h _ _ e)
 |a::b::r,m,e=>by
  obtain⟨K,e1,e⟩:=aa e;obtain⟨L,e2,e⟩:=aa e;have i:=zJ (pos:=pos) h e2;cases op
  .cases e;exact Ii (h _ _ e1) i
  .cases e
def Ol(op:BoolOp)(F:Expr->Option (Mi Bool)):List Expr->Option (Mi Bool)
 |[]=>none
 |[a]=>F a
 |a::b::r=>af (F a) λm=>af (Ol op F (b::r)) λn=>some (match op with | .And=>m5 m n | .Or=>mJ m n)
theorem AR{op:BoolOp}{F:Expr->Option (Mi Bool)}{pos:Pos}(h:∀e m,F e=some m->JT X E e m):∀{es:List Expr}{m:Mi Bool},Ol op F es=some m->JW X E (.BoolOp op es pos) m
 |[],m,e=>by cases e
 |[a],m,e=>by cases op;exact DA (h _ _ e);exact JU (h _ _ e)
 |a::b::r,m,e=>by
  obtain⟨K,e1,e⟩:=aa e;obtain⟨L,e2,e⟩:=aa e;have i:=AR (pos:=pos) h e2;cases op
  .cases e;exact IM (h _ _ e1) i
  .cases e;exact ND (h _ _ e1) i
def Pu(s:Sc)(op:YA)(a b:Expr)(m n:Mi Rr):Option (Mi Rr):=match op with
 | .Eq=>c7 (!s.hd) (some (aC iZ m n))
 | .NotEq=>c7 (!s.hd) (some (aC iN m n))
 | .Lt=>some (aC ka m n)
 | .LtE=>none
 | .Gt=>some (aC ow m n)
 | .GtE=>some (aC Fh m n)
 | .Is=>some (aC (qv false) m n)
 | .IsNot=>some (aC (qv true) m n)
 | .In=>c7 (!s.hd&&kv b) (some (aC (rV false) m n))
 | .NotIn=>c7 (!s.hd&&kv b) (some (aC (rV true) m n))
theorem Jb(S:Sit tb k X E s){a b:Expr}{m n:Mi Rr}(h:Pu s op a b m n=some q)(f:JE X E a m)(d:JE X E b n):JE X E (.Compare a [op] [b] pos) q/\JT X E (.Compare a [op] [b] pos) (aj q):=by
 cases op
 case Eq=>obtain⟨h1,h⟩:=ai h;have g:=(S.rm (by simpa using h1)).units;cases h;exact⟨LX g f d,Nk g f d⟩
 case NotEq=>obtain⟨h1,h⟩:=ai h;have g:=(S.rm (by simpa using h1)).units;cases h;exact⟨KQ g f d,Lf g f d⟩
 case Lt=>cases h;exact⟨L4 f d,Nr f d⟩
 case LtE=>cases h
 case Gt=>cases h;exact⟨L8 f d,M4 f d⟩
 case GtE=>cases h;exact⟨Mp f d,NH f d⟩
 case Is=>cases h;exact⟨K7 f d,Mz f d⟩
 case IsNot=>cases h;exact⟨EF f d,CU f d⟩
 case In=>obtain⟨h1,h⟩:=ai h;rw[QM] at h1;cases h;exact⟨gy kC qr f d (jt h1.2),gu kC qr f d (jt h1.2)⟩
 case NotIn=>obtain⟨h1,h⟩:=ai h;rw[QM] at h1;cases h;exact⟨gy jv qr f d (jt h1.2),gu jv qr f d (jt h1.2)⟩
def OA(f:Str):Option (A->Option Rr):=
 if f==("len" : Str) then some cC else if f==("abs" : Str) then some BO else if f==("int" : Str) then some uy else if f==("tuple" : Str) then some lP else
 if f==("list" : Str) then some dD else if f==("any" : Str) then some (kS λbs=>bs.any id) else none
theorem bD(S:Sit tb k X E s){x:Str}(h:CW.contains x=true):X.mg x=none:=S.gd.bl x (SN.mp h)
theorem Ji(S:Sit tb k X E s){g:A->Option Rr}{a:Expr}{m:Mi Rr}(h:OA f=some g)(J:nN s f=true)(u:s.hd=false)(hs:notStar a=true)(r:JE X E a m):JE X E (.Call (.Name f p) [a] [] pos) (cx g m):=by
 obtain⟨l,V⟩:=S.glob J;have hc:=S.cm u;have h1:=ay hs [] X.env;have h2:(XW pos (XM [] X.env)).any (·.1)=false:=rfl;unfold OA at h;split at h
 .rename_i z;rw[ZD] at z;subst z;cases h;exact oU BG Jw l (bD S Z3) Ah r Z3 V h1 h2
 split at h
 .rename_i z;rw[ZD] at z;subst z;cases h;exact oU AL HC l (bD S Z3) G5 r Z3 V h1 h2
 split at h
 .rename_i z;rw[ZD] at z;subst z;cases h;exact Af xN JB l (bD S Z3) yS r Z3 V h1 h2
 split at h
 .rename_i z;rw[ZD] at z;subst z;cases h;exact Af nM Ak l (bD S Z3) sW r Z3 V h1 h2
 split at h
 .rename_i z;rw[ZD] at z;subst z;cases h;exact Af pN Ey l (bD S Z3) lC r Z3 V h1 h2
 split at h
 .rename_i z;rw[ZD] at z;subst z;cases h;exact oU (BN hc) Hl l (bD S Z3) AS r Z3 V h1 h2
 .cases h
def NV(f:Str):Option (A->A->Option Rr):=if f==("max" : Str) then some Lg else if f==("min" : Str) then some tj else none
theorem B3(S:Sit tb k X E s){g:A->A->Option Rr}{a b:Expr}{m n:Mi Rr}(h:NV f=some g)(J:nN s f=true)(N:s.hd=false)(hs:notStar a=true)(u:notStar b=true)(r:JE X E a m)(d:JE X E b n):JE X E (.Call (.Name f p) [a,b] [] pos) (Dz g m n):=by
 obtain⟨l,V⟩:=S.glob J;have hc:=S.cm N;have h1:=ay hs [b] X.env;have h3:=ay u [] X.env;have h2:(XW pos (XM [b] X.env)).any (·.1)=false:=dN (by rw[Rh,u];rfl);unfold NV at h;split at h
 .rename_i z;rw[ZD] at z;subst z;cases h;exact FD (xw hc) GS l (bD S Z3) yz r d Z3 V h1 h3 h2
 split at h
 .rename_i z;rw[ZD] at z;subst z;cases h;exact FD (xr hc) Ja l (bD S Z3) AZ r d Z3 V h1 h3 h2
 .cases h
noncomputable def Oi(x:Str):Option Ty:=if x==("int" : Str) then some .int else if x==("bool" : Str) then some .bool else if x==("str" : Str) then some .str else if x==("tuple" : Str) then some .tuple else if x==("list" : Str) then some .list else if x==("dict" : Str) then some .dict else none
theorem G0{x:Str}{T:Ty}(h:Oi x=some T):XQ x=some (.type T.n)/\CW.contains x=true/\x ≠ "__name__" := by
 unfold Oi at h;split at h
 .rename_i z;rw[ZD] at z;subst z;cases h;exact⟨yS,by decide +kernel,by decide +kernel⟩
 split at h
 .rename_i z;rw[ZD] at z;subst z;cases h;exact⟨EV,by decide +kernel,by decide +kernel⟩
 split at h
 .rename_i z;rw[ZD] at z;subst z;cases h;exact⟨J6,by decide +kernel,by decide +kernel⟩
 split at h
 .rename_i z;rw[ZD] at z;subst z;cases h;exact⟨sW,by decide +kernel,by decide +kernel⟩
 split at h
 .rename_i z;rw[ZD] at z;subst z;cases h;exact⟨lC,by decide +kernel,by decide +kernel⟩
 split at h
 .rename_i z;rw[ZD] at z;subst z;cases h;exact⟨Dy,by decide +kernel,by decide +kernel⟩
 .cases h
end
structure Tr where
 E:Sc->Expr->Option (Mi Rr)
 T:Sc->Expr->Option (Mi Bool)
 I:Sc->Expr->Expr->Option (Mi (List A))
structure cG(tb:Tb)(k:Nat)(r:Tr):Prop where
 E:∀{X E s e m},Sit tb k X E s->r.E s e=some m->JE X E e m
 T:∀{X E s e m},Sit tb k X E s->r.T s e=some m->JT X E e m
 I:∀{X E s tg e m},Sit tb k X E s->r.I s tg e=some m->JI X E tg e m
def CH(s:Sc)(lo:Nat):Nat->Expr->Option Mg
 |0,_=>none
 |d+1,.Name x _=>af (iV s x) λi=>c7 (SG lo i) (some (aM i))
 |d+1,.Tuple es _ _=>c7 (!s.hd) (af (trGs (CH s lo d) es) λgs=>some (f6 es.length gs))
 |_+1,_=>none
where trGs (F:Expr->Option Mg):List Expr->Option Cm
 |[]=>some fH
 |e::es=>c7 (notStar e) (af (F e) λg=>af (trGs F es) λgs=>some (bT g gs))
variable{r:Tr}{tg:Expr}
section
variable{tb:Tb}{k:Nat}{X:Cx}{E:XK}{s:Sc}
theorem uW{lo:Nat}{F:Expr->Option Mg}(h:∀e g,F e=some g->JG X lo e g):∀{es:List Expr}{gs:Cm},CH.trGs F es=some gs->Lk X lo es gs/\es.all notStar=true
 |[],gs,e=>by cases e;exact⟨DW,rfl⟩
 |a::es,gs,e=>by obtain⟨h1,e⟩:=ai e;obtain⟨g,e1,e⟩:=aa e;obtain⟨H,e2,e⟩:=aa e;cases e;obtain⟨s,I⟩:=uW h e2;exact⟨zd (h _ _ e1) s (λx y=>yE x y (Cb h1)),by rw[Rh,h1,I];rfl⟩
theorem qA(S:Sit tb k X E s){lo:Nat}:∀{d:Nat}{e:Expr}{g:Mg},CH s lo d e=some g->JG X lo e g
 |0,e,g,h=>by cases h
 |d+1,e,g,h=>by
  unfold CH at h;split at h
  .rename_i P;cases P
  .rename_i P;cases P;obtain⟨i,e1,h⟩:=aa h;obtain⟨h1,h⟩:=ai h;cases h;obtain⟨a1,C,Z,a⟩:=S.iV e1;exact CK (by rw[S.n];exact S.nd) a1 C (RS h1) a
  .rename_i P;cases P;obtain⟨u,h⟩:=ai h;obtain⟨gs,e1,h⟩:=aa h;cases h;obtain⟨w,I⟩:=uW (λe g h=>qA S h) e1;have hc:=S.cm (by simpa using u);exact HN hc w (uO _) (r9 _ I)
  .cases h
noncomputable def zi:Expr->Bool
 | .Tuple _ _ _=>true
 |_=>false
noncomputable def PM:Expr->Bool
 | .Name _ _=>true
 |_=>false
def Hf(r:Tr)(s:Sc)(tg:Expr):Expr->Option (Mi (List A))
 | .Call (.Name f p) [a] [] pos=>match f==("range" : Str) with
  |true=>c7 (nN s f&&notStar a) (af (r.E s a) λm=>some (cU m))
  |false=>af (r.E s (.Call (.Name f p) [a] [] pos)) λm=>some (cH m)
 | .Call (.Name f p) [a,b] [] pos=>match f==("range" : Str) with
  |true=>c7 (nN s f&&notStar a&&notStar b) (af (r.E s a) λm=>af (r.E s b) λn=>some (rO m n))
  |false=>match f==("zip" : Str) with
   |true=>c7 (nN s f&&notStar a&&notStar b&&zi tg) (af (r.E s a) λm=>af (r.E s b) λn=>some (jT m n))
   |false=>af (r.E s (.Call (.Name f p) [a,b] [] pos)) λm=>some (cH m)
 |e=>af (r.E s e) λm=>some (cH m)
theorem DQ(R:cG tb k r)(S:Sit tb k X E s){m:Mi (List A)}(h:Hf r s tg e=some m):JI X E tg e m:=by
 unfold Hf at h;split at h
 .split at h
  .rename_i z;rw[ZD] at z;subst z;obtain⟨h1,h⟩:=ai h;rw[QM] at h1;obtain⟨K,e1,h⟩:=aa h;cases h;exact CI (S.glob h1.1).1 (bD S Z3) (R.E S e1) (ay h1.2 _ _) (ay h1.2 _ _)
  .obtain⟨K,e1,h⟩:=aa h;cases h;exact tY (R.E S e1)
 .split at h
  .rename_i z;rw[ZD] at z;subst z;obtain⟨h1,h⟩:=ai h;rw[QM,QM] at h1;obtain⟨K,e1,h⟩:=aa h;obtain⟨L,e2,h⟩:=aa h;cases h;have H:=ay h1.1.2;have J:=ay h1.2;exact CZ (S.glob h1.1.1).1 (bD S Z3) (R.E S e1) (R.E S e2) (by rw[H,J];rfl) (by rw[J];rfl) (H _ _) (J _ _)
  .split at h
   .rename_i z;rw[ZD] at z;subst z;obtain⟨h1,h⟩:=ai h;rw[QM,QM,QM] at h1;obtain⟨K,e1,h⟩:=aa h;obtain⟨L,e2,h⟩:=aa h;cases h;have H:=ay h1.1.1.2;have J:=ay h1.1.2;cases tg<;>first|(cases h1.2;done)|skip
    exact Cy (S.glob h1.1.1.1).1 (bD S Z3) (R.E S e1) (R.E S e2) (by rw[H,J];rfl) (by rw[J];rfl) (H _ _) (J _ _)
   .obtain⟨K,e1,h⟩:=aa h;cases h;exact tY (R.E S e1)
 .obtain⟨K,e1,h⟩:=aa h;cases h;exact tY (R.E S e1)
noncomputable def mR{α:Type}(a b:Option α):Option α:=match a with
 |some x=>some x
 |none=>b
theorem ba{a b:Option α}{x:α}(h:mR a b=some x):a=some x\/b=some x:=by
 cases a with
 |none=>exact .inr h
 |some y=>exact .inl h
def Ou(r:Tr)(s:Sc)(tg e:Expr):Option (Mi (List A)):=mR (r.I s tg e) (Hf r s tg e)
theorem Aa(R:cG tb k r)(S:Sit tb k X E s){m:Mi (List A)}(h:Ou r s tg e=some m):JI X E tg e m:=by
 rcases ba h with h|h
 .exact R.I S h
 .exact DQ R S h
noncomputable def PH:Nat->Expr->List Str
 |0,_=>[]
 |_+1,.Name x _=>[x]
 |d+1,.Tuple es _ _=>es.flatMap (PH d)
 |_+1,_=>[]
noncomputable def Pa(N own:List Str):List Str:=N.map (λn=>if own.contains n then n++(" (of the def)" : Str) else n)++own
def yF(s:Sc)(N:List Str)(own:Nat)(sc:Scope):Bool:=
 sc.kind==.function&&sc.names.all (λy=>y.2 != .cell)&&sc.names.all (λy=>y.2 != .local || sc.names.lookup y.1==some .local)&&N.length==s.N.length+own&&decide N.Nodup &&
 ((N.take s.N.length).zip s.N).all (λp=>p.1==p.2 || sc.names.lookup p.1==none)&&(N.take s.N.length).all (λn=>sc.names.lookup n != some .local)&&sc.names.all (λy=>y.2 != .free || (s.nm.lookup y.1==some .cell || s.nm.lookup y.1==some .free))
def zy(s:Sc)(N:List Str)(sc:Scope):Sc:={ N:=N,nm:=sc.names,di:=s.di,ca:=[],hd:=false,lv:=s.lv }
end
variable{elt:Expr}{gs:List YJ}{args:List Expr}
section
variable{tb:Tb}{k:Nat}{X:Cx}{E:XK}{s:Sc}
theorem eI{α:Type}{x:Str}{v:α}:∀{l:List (Str×α)},l.lookup x=some v->(x,v)∈l
 |(y,u)::l,h=>by
  rw[Q6] at h;split at h
  .rename_i e;cases h;rw[ZD.mp e];exact Q5
  .exact QW _ (eI h)
theorem Sit.comp(S:Sit tb k X E s){N:List Str}{sc:Scope}{own:Nat}(h:yF s N own sc=true)(u:s.hd=false):
  gj X.N N own sc X.env.scope/\∀cl C Y H fp,Sit tb k (jq X N sc cl C Y H fp) vV (zy s N sc):=by
 unfold yF at h;simp only[QM,ZD,decide_eq_true_eq,Sd,Sv,bne_iff_ne,ne_eq] at h;obtain⟨⟨⟨⟨⟨⟨⟨h1,h2⟩,h3⟩,h4⟩,h5⟩,F⟩,v⟩,c⟩:=h;refine⟨⟨h1,h2,λy hy e=>?_,by rw[S.n];exact h4,h5,by rw[S.n];exact F,by rw[S.n];exact v,λy hy e=>?_⟩,λcl C Y H fp=>?_⟩
 .rcases h3 y hy with z|z
  .exact absurd e z
  .exact z
 .rcases c y hy with z|z
  .exact absurd e z
  .rcases z with z|z
   .exact .inl ((S.ce _).1 z)
   .exact(S.ce _).2 z
 .have loc:∀x,tN (zy s N sc) x=true->sc.names.lookup x=some .local:=λx hx=>by
   unfold tN qE zy at hx;simp only[Sv,ZD] at hx;rcases hx with z|z
   .exact z
   .exact absurd rfl (h2 _ (eI z))
  refine⟨rfl,h5,λx hx=>AE hx,λx hx=>?_,λx hx=>.inl (iG (loc x hx)),λx hx=>iG hx,λx=>⟨λhx=>absurd rfl (h2 _ (eI hx)),λhx=>by rcases eJ (env:=X.env) hx with z|⟨_,z⟩;exact .inr z;exact .inl z⟩,λx hx=>.inr (iG (loc x hx)),λ_=>S.cm u,λ_=>S.rm u,λ_=>(λ_ _ _ _ _ _ _ x=>x.elim),S.gd⟩;unfold EG qE zy at hx;simp only[Sv,ZD] at hx;rcases hx with (z|z)|z
  .exact .inl (iG z)
  .exact absurd rfl (h2 _ (eI z))
  .exact sI z
def GK(r:Tr)(s:Sc):List Expr->Option (Mi Bool)
 |[]=>some aO
 |[t]=>r.T s t
 |_=>none
def pQ(r:Tr)(s:Sc)(elt:Expr)(gs:List YJ)(sc:Scope):Option (Mi Rr):=match gs with
 |[g]=>
  let own:=PH 9 g.target
  let N:=Pa s.N own
  let s':=zy s N sc
  c7 (!s.hd&&g.is_async==0&&kv g.iter&&yF s N own.length sc) (af (Ou r s g.target g.iter) λB=>af (CH s' s.N.length 9 g.target) λG=>af (GK r s' g.ifs) λmt=>af (r.E s' elt) λh=>some (aP own.length B G mt h))
 |_=>none
theorem EZ(R:cG tb k r)(S:Sit tb k X E s){ifs:List Expr}{m:Mi Bool}(h:GK r s ifs=some m):JF X E ifs m:=by
 unfold GK at h;split at h
 .cases h;exact HX
 .exact JC (R.T S h)
 .cases h
theorem oY(R:cG tb k r)(S:Sit tb k X E s){sc:Scope}{m:Mi Rr}(h:pQ r s elt gs sc=some m):
  s.hd=false/\∃N own tg iter ifs B G mt Z,gs=[⟨tg,iter,ifs,0⟩]/\m=aP own B G mt Z/\gj X.N N own sc X.env.scope/\JI X E tg iter B/\(∀cl C u H fp,JG (jq X N sc cl C u H fp) X.N.length tg G) /\
   (∀cl C u H fp,JF (jq X N sc cl C u H fp) vV ifs mt)/\(∀cl C u H fp,JE (jq X N sc cl C u H fp) vV elt Z)/\∀x,X7 iter X.env x=pure x:=by
 unfold pQ at h;split at h
 .rename_i g;obtain⟨tg,iter,ifs,Y⟩:=g;obtain⟨A,h⟩:=ai h;simp only[QM,ZD,Rt] at A;obtain⟨⟨⟨h1,rfl⟩,h3⟩,h4⟩:=A;obtain⟨B,e1,h⟩:=aa h;obtain⟨G,e2,h⟩:=aa h;obtain⟨mt,J,h⟩:=aa h;obtain⟨Z,K,h⟩:=aa h;cases h;obtain⟨q,p⟩:=S.comp h4 h1;exact⟨h1,_,_,tg,iter,ifs,B,G,mt,Z,rfl,rfl,q,Aa R S e1,λcl C u H fp=>by rw[S.n];exact qA (p cl C u H fp) e2,λcl C u H fp=>EZ R (p cl C u H fp) J,λcl C u H fp=>R.E (p cl C u H fp) K,mG h3 _⟩
 .cases h
def Ph(F:Expr->Option (Mi Rr)):Option Expr->Option (Mi (Option Int))
 |none=>some aH
 |some e=>af (F e) λm=>some (bF m)
theorem B9{F:Expr->Option (Mi Rr)}(h:∀e m,F e=some m->JE X E e m){o:Option Expr}{m:Mi (Option Int)}(e:Ph F o=some m):JP X E o m:=by
 cases o with
 |none=>cases e;exact Dj
 |some a=>obtain⟨K,e1,e⟩:=aa e;cases e;exact DU (h _ _ e1)
def zT(r:Tr)(s:Sc)(a:Expr):Expr->Option (Mi Rr)
 | .Slice lo hi none _=>af (r.E s a) λm=>af (Ph (r.E s) lo) λH=>af (Ph (r.E s) hi) λY=>some (cF m H Y)
 |b=>c7 (ju b&&!s.hd) (af (r.E s a) λm=>af (r.E s b) λn=>some (aC Cg m n))
theorem zB(R:cG tb k r)(S:Sit tb k X E s){a b:Expr}{m:Mi Rr}(h:zT r s a b=some m):JE X E (.Subscript a b pos) m:=by
 unfold zT at h;split at h
 .obtain⟨K,e1,h⟩:=aa h;obtain⟨L,e2,h⟩:=aa h;obtain⟨v,N,h⟩:=aa h;cases h;exact HB (R.E S e1) (B9 (λ_ _=>R.E S) e2) (B9 (λ_ _=>R.E S) N)
 .obtain⟨u,h⟩:=ai h;simp only[QM,Rt] at u;obtain⟨K,e1,h⟩:=aa h;obtain⟨L,e2,h⟩:=aa h;cases h;exact GC (R.E S e1) (R.E S e2) (s9 u.1)
noncomputable def Qj(f:Str):Bool:=match f.cps[0]? with
 |some c=>SG 65 c&&SG c 90
 |none=>false
def Im:Expr->Bool
 | .ListComp _ _ _ _=>true
 | .List _ _=>true
 | .Dict _ _ _=>true
 | .BinOp _ .Add _ _=>true
 | .Subscript _ (.Slice _ _ _ _) _=>true
 | .Call (.Name f _) _ _ _=>f==("list" : Str) || f==("sorted" : Str) || f==("dict" : Str) || Qj f
 | .Call (.Attribute _ _ _) _ _ _=>true
 |_=>false
def NC(r:Tr)(s:Sc)(e:Expr):Option (Mi Rr):=match e with
 | .Name x _=>match s.lv.contains x with
  |true=>r.E s e
  |false=>match slot s x with
   |some i=>some (ah i)
   |none=>r.E s e
 |e=>match Im e with
  |true=>af (r.E s e) λm=>some (lz m)
  |false=>r.E s e
theorem qB(R:cG tb k r)(S:Sit tb k X E s){m:Mi Rr}(h:NC r s e=some m):JE X E e m:=by
 unfold NC at h;split at h
 .split at h
  .exact R.E S h
  split at h
  .rename_i e1;cases h;obtain⟨a1,C,Z,a⟩:=S.slot e1;exact EC a1 C Z a
  .exact R.E S h
 .split at h
  .obtain⟨K,e1,h⟩:=aa h;cases h;exact KP (R.E S e1)
  .exact R.E S h
noncomputable def fJ(s:Sc):Nat->List Expr->List Bool->List Nat
 |j,.Name x _::es,false::bs=>match s.lv.contains x with
  |true=>j::fJ s (j+1) es bs
  |false=>fJ s (j+1) es bs
 |j,_::es,_::bs=>fJ s (j+1) es bs
 |_,_,_=>[]
def eU:List Nat->Ms->Ms
 |[],m=>m
 |j::js,m=>bE j (eU js m)
theorem je.eU{K:Kx}{n:Nat}{m:Ms}{vs:List V}{H:Hp}{Q:VK}{E:XK}:∀{Y:List Nat},je K n (M.eU Y m) vs H Q E->je K n m vs H Q E
 |[],h=>h
 |_::_,h=>je.eU (je.zR h)
def ID(tb:Tb)(r:Tr)(s:Sc)(fi:FI)(args:List Expr):Option (Mi (List Rr)):=c7 (args.length+(nJ fi args.length).length==fi.n) (Ds (r.E s) (NC r s) args fi.mu)
def yn(tb:Tb)(r:Tr)(s:Sc)(fi:FI)(args:List Expr):Option (Mi (List Rr)):=c7 (args.length+1+(nJ fi (args.length+1)).length==fi.n) (Ds (r.E s) (NC r s) args (fi.mu.drop 1))
def yI(tb:Tb)(r:Tr)(s:Sc)(f:Str):List Expr->Option (Mi Rr)
 |[]=>none
 |a::as=>af (tb.fM.lookup f) λfi=>c7 (!s.hd) (af (yn tb r s fi (a::as)) λm=>some (pd f (eU (fJ s 1 (a::as) (fi.mu.drop 1)) fi.m) (nJ fi ((a::as).length+1)) m))
def F2(tb:Tb)(r:Tr)(s:Sc)(a:Expr)(x:Str):Option (Mi Rr):=match Oi x with
 |some T=>af (r.E s a) λm=>some (cx (pA T) m)
 |none=>none
def zE(tb:Tb)(r:Tr)(s:Sc)(f:Str)(args:List Expr):Option (Mi Rr):=c7 (nN s f) (match tb.fns.lookup f with
 |some fi=>match args with
  |[]=>none
  |a::as=>match s.hd with
   |true=>none
   |false=>af (ID tb r s fi (a::as)) λm=>some (aY (eU (fJ s 0 (a::as) fi.mu) fi.m) (nJ fi (a::as).length) m)
 |none=>match tb.fM.lookup f with
 |some _=>yI tb r s f args
 |none=>match args with
  |[a]=>c7 (notStar a&&!s.hd) (af (OA f) λg=>af (r.E s a) λm=>some (cx g m))
  |[a,.Name x p]=>match f==("isinstance" : Str) with
   |true=>c7 (notStar a&&nN s x) (F2 tb r s a x)
   |false=>c7 (notStar a&&!s.hd) (af (NV f) λg=>af (r.E s a) λm=>af (r.E s (.Name x p)) λn=>some (Dz g m n))
  |[a,b]=>c7 (notStar a&&notStar b&&!s.hd) (af (NV f) λg=>af (r.E s a) λm=>af (r.E s b) λn=>some (Dz g m n))
  | _=>none)
theorem xF(R:cG tb k r)(S:Sit tb k X E s){m:Mi Rr}(h:zE tb r s f args=some m):JE X E (.Call (.Name f p) args [] pos) m:=by
 have h':=ai h;clear h;obtain⟨J,h⟩:=h';split at h
 .rename_i fi i;split at h
  .cases h
  .rename_i a as;split at h
   .cases h
   rename_i N;obtain⟨ma,e1,h⟩:=aa h;cases h;obtain⟨h1,e1⟩:=ai e1;obtain⟨w,I,v⟩:=lH (λ_ _=>R.E S) (λ_ _=>qB R S) e1;obtain⟨A,fd,ps,F,hm,hk,d⟩:=S.gd.fn f fi i;obtain⟨ds,dvs,c,H,e⟩:=d.of (a::as).length;have b:=v;rw[Rh,QM] at b;exact Eu (F.imp λ_ _ _ _ q=>je.eU q) (S.rm N) (S.glob J).1 hm hk c H e (S.ps N) w (HP I (by rw[ZD] at h1;exact h1)) (S.glob J).2 (ay b.1 _ _) (dN b.2)
 split at h
 .unfold yI at h;split at h
  .cases h
  .rename_i a as;obtain⟨fi,i,h⟩:=aa h;obtain⟨N,h⟩:=ai h;have N:s.hd=false:=by simpa using N
   obtain⟨ma,e1,h⟩:=aa h;cases h;obtain⟨h1,e1⟩:=ai e1;rw[ZD] at h1;obtain⟨w,I,v⟩:=lH (λ_ _=>R.E S) (λ_ _=>qB R S) e1;obtain⟨C,A,fd,ps,j,L,F,hm,hk,d⟩:=S.gd.im f fi i;obtain⟨ds,dvs,c,H,e⟩:=d.of ((a::as).length+1);have b:=v;rw[Rh,QM] at b;exact DT hk (F.imp λ_ _ _ _ q=>je.eU q) ((S.rm N).mono L) (S.glob J).1 hm c H e (S.ps N) w (λZ rs O q=>by rw[I Z rs O q];exact h1) (S.glob J).2 (ay b.1 _ _) (dN b.2)
 .split at h
  .obtain⟨u,h⟩:=ai h;simp only[QM,Rt] at u;obtain⟨g,e1,h⟩:=aa h;obtain⟨K,e2,h⟩:=aa h;cases h;exact Ji S e1 J u.2 u.1 (R.E S e2)
  .split at h
   .rename_i z;rw[ZD] at z;subst z;obtain⟨u,h⟩:=ai h;simp only[QM] at u;obtain⟨l,V⟩:=S.glob J;obtain⟨G,x⟩:=S.glob u.2;unfold F2 at h;split at h
    .rename_i T y;obtain⟨K,e2,h⟩:=aa h;cases h;obtain⟨o,D,Q⟩:=G0 y;exact Ju T l (bD S Z3) nG G (bD S D) o (R.E S e2) Z3 V Q x (ay u.1 _ _)
    .cases h
   .obtain⟨u,h⟩:=ai h;simp only[QM,Rt] at u;obtain⟨g,e1,h⟩:=aa h;obtain⟨K,e2,h⟩:=aa h;obtain⟨U,Y,h⟩:=aa h;cases h;exact B3 S e1 J u.2 u.1 rfl (R.E S e2) (R.E S Y)
  .obtain⟨u,h⟩:=ai h;simp only[QM,Rt] at u;obtain⟨g,e1,h⟩:=aa h;obtain⟨K,e2,h⟩:=aa h;obtain⟨U,Y,h⟩:=aa h;cases h;exact B3 S e1 J u.2 u.1.1 u.1.2 (R.E S e2) (R.E S Y)
  .cases h
end
variable{o:Expr}{apos cpos px:Pos}
section
variable{tb:Tb}{k:Nat}{X:Cx}{E:XK}{s:Sc}
noncomputable def oK(o:Expr):Bool:=match o with
 | .Call f args kw _=>match f with
  | .Name _ _=>!(args.isEmpty&&kw.isEmpty)
  |_=>true
 |_=>true
theorem bj(h:oK o=true)(m:Str)(env:Env)(w:Sem Value):XR o m env w=w:=by
 cases o with
 |Call f args F p=>cases f with
  |Name _ _=>cases args with
   |cons _ _=>rfl
   |nil=>cases F with
    |cons _ _=>rfl
    |nil=>cases h
  |_=>rfl
 |_=>rfl
theorem OF(h:notStar e=true)(cpos:Pos)(env:Env):((XW cpos (XM [e] env)).all (λx=>!x.1)&&(Yb cpos (X0 [] env)).all (λx=>x.1.isSome)&&decide (([e]:List Expr).length+([]:List X8).length+(if ([]:List X8).isEmpty then 0 else 1)<30))=true:=by rw[ay h];rfl
def Qx(e:Expr):Option (Expr×Str×Pos×Pos):=match e with
 | .Call f args kw cpos=>match f with
  | .Attribute o m apos=>c7 (args.isEmpty&&kw.isEmpty) (some (o,m,apos,cpos))
  |_=>none
 |_=>none
def Ht(e:Expr):Option (Expr×Str×Pos×Expr×Pos):=match e with
 | .Call f args kw cpos=>match f with
  | .Attribute o m apos=>match args with
   |[a]=>c7 (kw.isEmpty&&notStar a) (some (o,m,apos,a,cpos))
   |_=>none
  |_=>none
 |_=>none
theorem xh{a:Expr}{m:Str}(h:Ht e=some (o,m,apos,a,cpos)):e=.Call (.Attribute o m apos) [a] [] cpos/\notStar a=true:=by
 unfold Ht at h;split at h
 .rename_i f args F c;split at h
  .split at h
   .obtain⟨S,h⟩:=ai h;rw[QM,Se] at S;cases h;rw[S.1];exact⟨rfl,S.2⟩
   .cases h
  .cases h
 .cases h
def pV(e:Expr):Option (Str×Pos×Expr×Pos):=match e with
 | .Call f args kw cpos=>match f with
  | .Name x p=>match args with
   |[a]=>c7 (kw.isEmpty&&notStar a) (some (x,p,a,cpos))
   |_=>none
  |_=>none
 |_=>none
theorem dY{a:Expr}{x:Str}(h:pV e=some (x,p,a,cpos)):e=.Call (.Name x p) [a] [] cpos/\notStar a=true:=by
 unfold pV at h;split at h
 .rename_i f args F c;split at h
  .split at h
   .obtain⟨S,h⟩:=ai h;rw[QM,Se] at S;cases h;rw[S.1];exact⟨rfl,S.2⟩
   .cases h
  .cases h
 .cases h
noncomputable def vK(e:Expr):Option (Str×Pos):=match e with
 | .Name x p=>some (x,p)
 |_=>none
theorem cJ{x:Str}(h:vK e=some (x,p)):e=.Name x p:=by
 unfold vK at h;split at h
 .cases h;rfl
 .cases h
def II(e:Expr):Option (Str×Pos×Expr×Expr×Pos):=match e with
 | .Call f args kw cpos=>match f with
  | .Name x p=>match args with
   |[a,b]=>c7 (kw.isEmpty&&notStar a&&notStar b) (some (x,p,a,b,cpos))
   |_=>none
  |_=>none
 |_=>none
theorem xt{a b:Expr}{x:Str}(h:II e=some (x,p,a,b,cpos)):e=.Call (.Name x p) [a,b] [] cpos/\notStar a=true/\notStar b=true:=by
 unfold II at h;split at h
 .rename_i f args F c;split at h
  .split at h
   .obtain⟨S,h⟩:=ai h;rw[QM,QM,Se] at S;cases h;rw[S.1.1];exact⟨rfl,S.1.2,S.2⟩
   .cases h
  .cases h
 .cases h
def wg(_:Tb)(r:Tr)(s:Sc)(tg e:Expr):Option (Mi (List A)):=af (pV e) λ(f,_,a,_)=>c7 (f==("enumerate" : Str)&&nN s f&&zi tg) (af (r.E s a) λn=>some (vL n))
theorem uv(R:cG tb k r)(S:Sit tb k X E s){q:Mi (List A)}(h:wg tb r s tg e=some q):JI X E tg e q:=by
 obtain⟨⟨f,p,a,cpos⟩,h1,g⟩:=aa h;clear h;obtain⟨rfl,hs⟩:=dY h1;obtain⟨h2,g⟩:=ai g;simp only[QM,ZD] at h2;obtain⟨n,e2,g⟩:=aa g;cases g;obtain⟨⟨rfl,J⟩,l⟩:=h2;cases tg<;>first|(cases l;done)|skip
 exact DG (S.glob J).1 (bD S Z3) (R.E S e2) (ay hs _ _) (ay hs _ _)
def A2(_:Tb)(r:Tr)(s:Sc)(e:Expr):Option (Mi Rr):=af (pV e) λ(f,_,a,_)=>c7 (f==("sum" : Str)&&nN s f&&!s.hd) (af (r.E s a) λn=>some (cx yT n))
theorem wK(R:cG tb k r)(S:Sit tb k X E s)(h:A2 tb r s e=some q):JE X E e q:=by obtain⟨⟨f,p,a,cpos⟩,h1,g⟩:=aa h;clear h;obtain⟨rfl,hs⟩:=dY h1;obtain⟨h2,h⟩:=ai g;rw[QM,QM,ZD,Rt] at h2;obtain⟨n,e2,h⟩:=aa h;cases h;obtain⟨⟨rfl,J⟩,u⟩:=h2;exact oU (Bh (S.cm u)) J8 (S.glob J).1 (bD S Z3) J2 (R.E S e2) Z3 (S.glob J).2 (ay hs _ _) rfl
def uP(_:Tb)(r:Tr)(s:Sc)(e:Expr):Option (Mi Rr):=af (pV e) λ(f,_,a,_)=>c7 (f==("min" : Str)&&nN s f&&!s.hd) (af (r.E s a) λn=>some (cx rZ n))
theorem t5(R:cG tb k r)(S:Sit tb k X E s)(h:uP tb r s e=some q):JE X E e q:=by obtain⟨⟨f,p,a,cpos⟩,h1,g⟩:=aa h;clear h;obtain⟨rfl,hs⟩:=dY h1;obtain⟨h2,g⟩:=ai g;simp only[QM,ZD,Rt] at h2;obtain⟨n,e2,g⟩:=aa g;cases g;obtain⟨⟨rfl,J⟩,u⟩:=h2;exact oU (xH (S.cm u)) De (S.glob J).1 (bD S Z3) AZ (R.E S e2) Z3 (S.glob J).2 (ay hs _ _) rfl
def uV(_:Tb)(r:Tr)(s:Sc)(e:Expr):Option (Mi Rr):=af (pV e) λ(f,_,a,_)=>c7 (f==("max" : Str)&&nN s f&&!s.hd) (af (r.E s a) λn=>some (cx sd n))
theorem tu(R:cG tb k r)(S:Sit tb k X E s)(h:uV tb r s e=some q):JE X E e q:=by obtain⟨⟨f,p,a,cpos⟩,h1,g⟩:=aa h;clear h;obtain⟨rfl,hs⟩:=dY h1;obtain⟨h2,g⟩:=ai g;simp only[QM,ZD,Rt] at h2;obtain⟨n,e2,g⟩:=aa g;cases g;obtain⟨⟨rfl,J⟩,u⟩:=h2;exact oU (wF (S.cm u)) DL (S.glob J).1 (bD S Z3) yz (R.E S e2) Z3 (S.glob J).2 (ay hs _ _) rfl
def vH(_:Tb)(r:Tr)(s:Sc)(e:Expr):Option (Mi Rr):=af (Ht e) λ(o,m,apos,a,cpos)=>c7 (m==("index" : Str)&&apos.endLine==cpos.line) (c7 (oK o) <| af (r.E s o) λn=>af (r.E s a) λq=>some (vc n q))
theorem tX(R:cG tb k r)(S:Sit tb k X E s)(h:vH tb r s e=some q):JE X E e q:=by obtain⟨⟨o,m,apos,a,cpos⟩,h1,g⟩:=aa h;clear h;obtain⟨rfl,hs⟩:=xh h1;obtain⟨h2,h⟩:=ai g;rw[QM,ZD] at h2;obtain⟨d,V⟩:=ai h;clear h;obtain⟨n,e1,h⟩:=aa V;obtain⟨j,e2,h⟩:=aa h;cases h;obtain⟨rfl,hl⟩:=h2;exact Dl (R.E S e1) (R.E S e2) (bj d _ _ _) (OF hs _ _) hl (ay hs _ _) rfl
def KI(tb:Tb)(s:Sc)(e:Expr):Option (List Sl->Option A):=af (vK e) λ(x,_)=>match slot s x with
 |some j=>some (yi j)
 |none=>af (tb.cst.lookup x) λa=>match a with
  | .int i=>c7 (nN s x) (some (ze i))
  |_=>none
theorem xM{x:Str}{v:V}{u:Value}{i:Int}(J:Gl X x)(hm:X.mg x=some u)(r:RelV v u)(p:∀G,RA (kx X) G v (.int i))(hd:fC x):p0 X (.Name x pos) (ze i):=by have z:=p λ_=>none;cases z;exact yk (vx J hm r hd)
theorem nD(S:Sit tb k X E s){g:List Sl->Option A}(h:KI tb s e=some g):p0 X e g/\jC e/\notStar e=true:=by
 obtain⟨⟨x,p⟩,h1,w⟩:=aa h;clear h;obtain rfl:=cJ h1;refine⟨?_,λ_ _=>rfl,rfl⟩;dsimp only at w;cases e1:slot s x with
 |some j=>rw[e1] at w;cases w;obtain⟨a1,C,Z,q⟩:=S.slot e1;exact xl a1 C Z q
 |none=>
  rw[e1] at w;obtain⟨a,e2,O⟩:=aa w;clear w;cases a with
  |int i=>obtain⟨J,K⟩:=ai O;cases K;obtain⟨v,u,l,V,G⟩:=S.gd.cs _ _ e2;exact xM (S.glob J).1 l V G (S.glob J).2
  |_=>cases O
def xm(s:Sc)(e:Expr):Option (Nat×Str×Str×Pos×Pos):=match e with
 | .Attribute o f p=>af (vK o) λ(x,px)=>c7 (s.lv.contains ("*nob" : Str)&&s.lv.contains f) (af (slot s x) λi=>some (i,x,f,px,p))
 |_=>none
theorem fU(S:Sit tb k X E s){x:Str}(h:xm s e=some (i,x,f,px,p)):e=.Attribute (.Name x px) f p/\X.N[i]?=some x/\ku X.env.scope x/\fC x/\lA x:=by
 cases e with
 |Attribute o b r=>obtain⟨⟨c,a⟩,h1,w⟩:=aa h;clear h;obtain⟨_,O⟩:=ai w;obtain⟨H,e1,K⟩:=aa O;cases K;obtain rfl:=cJ h1;obtain⟨a1,C,Z,q⟩:=S.slot e1;exact⟨rfl,a1,C,Z,q⟩
 |_=>cases h
noncomputable def ox(e:Expr):Option (Expr×Expr×Pos):=match e with
 | .Subscript a b p=>some (a,b,p)
 |_=>none
theorem fw{a b:Expr}(h:ox e=some (a,b,p)):e=.Subscript a b p:=by
 cases e with
 |Subscript=>cases h;rfl
 |_=>cases h
def FY(e:Expr):Option (Expr×Str×Pos×Expr×Pos):=match e with
 | .Call c as ks cpos=>match c with
  | .Attribute o m apos=>match as,ks with
   |[a],[]=>c7 (apos.endLine==cpos.line) (some (o,m,apos,a,cpos))
   |_,_=>none
  |_=>none
 |_=>none
theorem uG{a:Expr}{m:Str}(h:FY e=some (o,m,apos,a,cpos)):e=.Call (.Attribute o m apos) [a] [] cpos/\(apos.endLine==cpos.line)=true:=by
 cases e with
 |Call c as b p=>
  cases c with
  |Attribute o' Q X=>
   rcases as with _|⟨a',_|_⟩
   .cases h
   .cases b with
    |nil=>obtain⟨S,h⟩:=ai h;cases h;exact⟨rfl,S⟩
    |cons=>cases h
   .cases h
  |_=>cases h
 |_=>cases h
def LU(tb:Tb)(r:Tr)(s:Sc)(i:Nat)(f m:Str)(a:Expr):Option (Mi Rr):=match m==("index" : Str) with
 |true=>af (KI tb s a) λg=>some (gC (fk tb f) i f g)
 |false=>match m==("pop" : Str) with
  |true=>af (KI tb s a) λg=>some (si (fk tb f) i f g)
  |false=>match m==("append" : Str) with
   |true=>mR (af (KI tb s a) λg=>some (rW (fk tb f) i f g)) (c7 (notStar a) (af (r.E s a) λq=>some (nB (fk tb f) i f q)))
   |false=>none
def BA(tb:Tb)(r:Tr)(s:Sc)(e:Expr):Option (Mi Rr):=mR (af (ox e) λ(a,b,_)=>af (xm s a) λ(i,_,f,_,_)=>af (KI tb s b) λg=>some (qm (fk tb f) i f g))
 (mR (af (FY e) λ(o,m,_,a,_)=>af (xm s o) λ(i,_,f,_,_)=>LU tb r s i f m a)
 (af (pV e) λ(l,_,a,_)=>c7 (l==("len" : Str)&&nN s l) (af (xm s a) λ(i,_,f,_,_)=>some (jS (fk tb f) i f))))
theorem wY(R:cG tb k r)(S:Sit tb k X E s){m:Mi Rr}(h:BA tb r s e=some m):JE X E e m:=by
 rcases ba h with w|w
 .obtain⟨⟨a,b,p⟩,h1,T⟩:=aa w;clear w h;obtain rfl:=fw h1;obtain⟨⟨i,x,f,px,y⟩,h2,v⟩:=aa T;clear T;obtain⟨rfl,a1,Y,Z,H⟩:=fU S h2;obtain⟨g,h3,K⟩:=aa v;cases K;obtain⟨j,n,_⟩:=nD S h3;exact Hm a1 Y Z H (λc C=>S.gd.fl _ c C) (bj rfl _ _ _) j n
 clear h;rcases ba w with z|z
 .obtain⟨⟨o,mm,apos,a,cpos⟩,h1,T⟩:=aa z;clear w z;obtain⟨rfl,hl⟩:=uG h1;obtain⟨⟨i,x,f,px,y⟩,h2,h⟩:=aa T;clear T;obtain⟨rfl,a1,Y,Z,H⟩:=fU S h2;dsimp only at h
  delta LU at h
  cases P:mm==("index" : Str) with
  |true=>rw[P] at h;obtain⟨g,h3,h⟩:=aa h;cases h;obtain rfl:=eq_of_beq P;obtain⟨j,_,O⟩:=nD S h3;exact xU a1 Y Z H (λc C=>S.gd.fl _ c C) (bj rfl _ _ _) j (bj rfl _ _ _) (by rw[ay O _ _];rfl) hl (ay O _ _) rfl
  |false=>
   rw[P] at h;dsimp only at h;cases U:mm==("pop" : Str) with
   |true=>rw[U] at h;obtain⟨g,h3,h⟩:=aa h;cases h;obtain rfl:=eq_of_beq U;obtain⟨j,_,O⟩:=nD S h3;exact Eb a1 Y Z H (λc C=>S.gd.fl _ c C) (bj rfl _ _ _) j (bj rfl _ _ _) (by rw[ay O _ _];rfl) hl (ay O _ _) rfl
   |false=>
    rw[U] at h;dsimp only at h;cases V:mm==("append" : Str) with
    |true=>
     rw[V] at h;obtain rfl:=eq_of_beq V;rcases ba h with h|h
     .obtain⟨g,h3,h⟩:=aa h;cases h;obtain⟨j,_,O⟩:=nD S h3;exact Er a1 Y Z H (λc C=>S.gd.fl _ c C) (bj rfl _ _ _) j (bj rfl _ _ _) (by rw[ay O _ _];rfl) hl (ay O _ _) rfl
     .obtain⟨u,h⟩:=ai h;obtain⟨q,h3,h⟩:=aa h;cases h;exact CY a1 Y Z H (λc C=>S.gd.fl _ c C) (bj rfl _ _ _) (R.E S h3) (bj rfl _ _ _) (by rw[ay u _ _];rfl) hl (ay u _ _) rfl
    |false=>rw[V] at h;cases h
 .obtain⟨⟨l,p,a,cpos⟩,h1,T⟩:=aa z;clear w z;obtain⟨rfl,hs⟩:=dY h1;obtain⟨u,v⟩:=ai T;clear T;rw[QM,ZD] at u;obtain⟨⟨i,x,f,px,y⟩,h2,K⟩:=aa v;obtain⟨rfl,a1,Y,Z,H⟩:=fU S h2;cases K;obtain⟨rfl,J⟩:=u;exact DC a1 Y Z H (λc C=>S.gd.fl _ c C) (bj rfl _ _ _) (S.glob J).1 (bD S Z3) Ah Z3 (S.glob J).2 (ay rfl _ _) rfl
def A4(tb:Tb)(_:Tr)(s:Sc)(e:Expr):Option (Mi Bool):=match e with
 | .Compare a ops bs _=>match ops,bs with
  |[op],[b]=>match op with
   | .In=>af (xm s b) λ(i,_,f,_,_)=>af (KI tb s a) λg=>some (aj (wZ false (fk tb f) i f g))
   |_=>none
  |_,_=>none
 |_=>none
theorem ya(R:cG tb k r)(S:Sit tb k X E s){q:Mi Bool}(h:A4 tb r s e=some q):JT X E e q:=by
 cases e with
 |Compare a ops bs p=>
  rcases ops with _|⟨op,_|_⟩
  .cases h
  .rcases bs with _|⟨b,_|_⟩
   .cases h
   .cases op with
    |In=>obtain⟨⟨i,x,f,px,y⟩,h2,w⟩:=aa h;clear h;obtain⟨rfl,a1,Y,Z,H⟩:=fU S h2;obtain⟨g,h3,O⟩:=aa w;cases O;exact JN a1 Y Z H (λc C=>S.gd.fl _ c C) (bj rfl _ _ _) (nD S h3).1 rfl
    |_=>cases h
   .cases h
  .cases h
 |_=>cases h
def vQ(_:Tb)(r:Tr)(s:Sc)(e:Expr):Option (Mi Rr):=af (pV e) λ(f,_,a,_)=>c7 (f==("list" : Str)&&nN s f&&!s.hd) (mR
 (af (pV a) λ(g,_,b,_)=>c7 (g==("range" : Str)&&nN s g) (af (r.E s b) λn=>some (lY n)))
 (af (II a) λ(g,_,b,c,_)=>c7 (g==("range" : Str)&&nN s g) (af (r.E s b) λn=>af (r.E s c) λq=>some (mO n q))))
theorem ue(R:cG tb k r)(S:Sit tb k X E s)(h:vQ tb r s e=some q):JE X E e q:=by
 obtain⟨⟨f,p,a,cpos⟩,h1,x⟩:=aa h;clear h;obtain⟨rfl,hs⟩:=dY h1;obtain⟨h2,v⟩:=ai x;clear x;simp only[QM,ZD,Rt] at h2;obtain⟨⟨rfl,J⟩,u⟩:=h2;rcases ba v with w|w
 .clear v;obtain⟨⟨G,H,b,i⟩,h3,T⟩:=aa w;clear w;obtain⟨rfl,P⟩:=dY h3;obtain⟨h4,O⟩:=ai T;clear T;rw[QM,ZD] at h4;obtain⟨n,e2,K⟩:=aa O;cases K;obtain⟨rfl,z⟩:=h4;exact zv (S.cm u) (S.glob J).1 (bD S Z3) lC (S.glob z).1 (bD S Z3) (R.E S e2) (ay P _ _)
 .clear v;obtain⟨⟨G,H,b,c,i⟩,h3,T⟩:=aa w;clear w;obtain⟨rfl,P,C⟩:=xt h3;obtain⟨h4,O⟩:=ai T;clear T;rw[QM,ZD] at h4;obtain⟨n,e2,K⟩:=aa O;obtain⟨Y,N,Z⟩:=aa K;cases Z;obtain⟨rfl,z⟩:=h4;exact AM (S.cm u) (S.glob J).1 (bD S Z3) lC (S.glob z).1 (bD S Z3) (R.E S e2) (R.E S N) (ay P _ _) (ay C _ _) (dN (by rw[Rh,C];rfl))
def Hr(e:Expr):Option (Str×Pos×Expr×Expr×Expr×Pos):=match e with
 | .Call f args kw cpos=>match f with
  | .Name x p=>match args with
   |[a,b,d]=>c7 (kw.isEmpty&&notStar a&&notStar b&&notStar d) (some (x,p,a,b,d,cpos))
   |_=>none
  |_=>none
 |_=>none
theorem wC{a b d:Expr}{x:Str}(h:Hr e=some (x,p,a,b,d,cpos)):e=.Call (.Name x p) [a,b,d] [] cpos/\notStar a=true/\notStar b=true/\notStar d=true:=by
 unfold Hr at h;split at h
 .rename_i f args F c;split at h
  .split at h
   .obtain⟨S,h⟩:=ai h;rw[QM,QM,QM,Se] at S;cases h;obtain⟨⟨⟨rfl,h1⟩,h2⟩,h3⟩:=S;exact⟨rfl,h1,h2,h3⟩
   .cases h
  .cases h
 .cases h
def vp(_:Tb)(r:Tr)(s:Sc)(_ e:Expr):Option (Mi (List A)):=af (Hr e) λ(f,_,a,b,d,_)=>c7 (f==("range" : Str)&&nN s f) (af (r.E s a) λm=>af (r.E s b) λn=>af (r.E s d) λo=>some (oF m n o))
theorem ux(R:cG tb k r)(S:Sit tb k X E s){q:Mi (List A)}(h:vp tb r s tg e=some q):JI X E tg e q:=by obtain⟨⟨f,p,a,b,d,cpos⟩,h1,g⟩:=aa h;clear h;obtain⟨rfl,hs,P,C⟩:=wC h1;obtain⟨h2,V⟩:=ai g;clear g;simp only[QM,ZD] at h2;obtain⟨m,e1,l⟩:=aa V;obtain⟨n,e2,j⟩:=aa l;obtain⟨o,N,c⟩:=aa j;cases c;obtain⟨rfl,J⟩:=h2;exact Et (S.glob J).1 (bD S Z3) (R.E S e1) (R.E S e2) (R.E S N) (ay hs _ _) (ay P _ _) (ay C _ _) (dN (by rw[Rh,P,Rh,C];rfl))
noncomputable def Ik:Expr->Bool
 | .List _ _=>true
 |_=>false
noncomputable def yG:Expr->Option (Expr×Expr×Pos)
 | .BinOp a .Mult b p=>some (a,b,p)
 |_=>none
theorem tK{a b:Expr}(h:yG e=some (a,b,p)):e=.BinOp a .Mult b p:=by
 unfold yG at h;split at h
 .cases h;rfl
 .cases h
def BC(_:Tb)(r:Tr)(s:Sc)(e:Expr):Option (Mi Rr):=af (yG e) λ(a,b,_)=>c7 (Ik a) (af (r.E s a) λm=>af (r.E s b) λn=>some (aC t6 m n))
theorem xC(R:cG tb k r)(S:Sit tb k X E s)(h:BC tb r s e=some q):JE X E e q:=by obtain⟨⟨a,b,p⟩,h1,g⟩:=aa h;clear h;obtain rfl:=tK h1;obtain⟨_,V⟩:=ai g;obtain⟨m,e1,l⟩:=aa V;obtain⟨n,e2,j⟩:=aa l;cases j;exact HS (R.E S e1) (R.E S e2)
def xP(tb:Tb)(r:Tr)(s:Sc)(e:Expr):Option (Mi Rr):=mR (BA tb r s e) (mR (BC tb r s e) (none))
theorem MM(R:cG tb k r)(S:Sit tb k X E s){m:Mi Rr}(h:xP tb r s e=some m):JE X E e m:=by
 rcases ba h with h|h
 .exact wY R S h
 rcases ba h with h|h
 .exact xC R S h
 cases h
def xE(tb:Tb)(r:Tr)(s:Sc)(e:Expr):Option (Mi Rr):=mR (A2 tb r s e) (mR (uP tb r s e) (mR (uV tb r s e) (mR (vH tb r s e) (mR (vQ tb r s e) (none)))))
theorem LD(R:cG tb k r)(S:Sit tb k X E s){m:Mi Rr}(h:xE tb r s e=some m):JE X E e m:=by
 rcases ba h with h|h
 .exact wK R S h
 rcases ba h with h|h
 .exact t5 R S h
 rcases ba h with h|h
 .exact tu R S h
 rcases ba h with h|h
 .exact tX R S h
 rcases ba h with h|h
 .exact ue R S h
 cases h
def xT(tb:Tb)(r:Tr)(s:Sc)(e:Expr):Option (Mi Bool):=mR (A4 tb r s e) (none)
theorem NK(R:cG tb k r)(S:Sit tb k X E s){m:Mi Bool}(h:xT tb r s e=some m):JT X E e m:=by
 rcases ba h with h|h
 .exact ya R S h
 cases h
def xI(tb:Tb)(r:Tr)(s:Sc)(tg e:Expr):Option (Mi (List A)):=mR (wg tb r s tg e) (mR (vp tb r s tg e) (none))
theorem L6(R:cG tb k r)(S:Sit tb k X E s){m:Mi (List A)}(h:xI tb r s tg e=some m):JI X E tg e m:=by
 rcases ba h with h|h
 .exact uv R S h
 rcases ba h with h|h
 .exact ux R S h
 cases h
end
variable{mn:Str}
section
variable{tb:Tb}{k:Nat}{X:Cx}{E:XK}{s:Sc}
noncomputable def LK:Expr->Bool
 | .Name x _=>x==("self" : Str)
 |_=>false
def yt(r:Tr)(s:Sc)(fi:FI)(o:Expr):Option (Mi Rr):=match LK o || fi.mu.headD true with
 |true=>r.E s o
 |false=>NC r s o
def IL(s:Sc)(o:Expr):Option (Str×Pos×Nat):=match o with
 | .Name x p=>c7 (s.lv.contains ("*nob" : Str)) (af (slot s x) λi=>some (x,p,i))
 |_=>none
theorem oR{s:Sc}{x:Str}(h:IL s o=some (x,p,i)):o=.Name x p/\slot s x=some i:=by
 cases o<;>first|(cases h;done)|skip
 obtain⟨_,h⟩:=ai h;obtain⟨j,e,h⟩:=aa h;cases h;exact⟨rfl,e⟩
def t4(tb:Tb)(r:Tr)(s:Sc)(o:Expr)(m:Str)(args:List Expr)(c:Str)(fi:FI):Option (Mi Rr):=c7 (!s.hd&&SG args.length 20) (af (yt r s fi o) λmo=>af (yn tb r s fi args) λma=>(match IL s o with
 |some (_,_,i)=>some (aQ (aY (eU (fJ s 1 args (fi.mu.drop 1)) fi.m) (nJ fi (args.length+1)) (da (aR c m i) ma)) (aQ (aY (bE 0 (eU (fJ s 1 args (fi.mu.drop 1)) fi.m)) (nJ fi (args.length+1)) (da (aR c m i) ma)) (aY (eU (fJ s 1 args (fi.mu.drop 1)) fi.m) (nJ fi (args.length+1)) (da (bK c m mo) ma))))
 | none=>some (aY (eU (fJ s 1 args (fi.mu.drop 1)) fi.m) (nJ fi (args.length+1)) (da (bK c m mo) ma))))
def yV(tb:Tb)(r:Tr)(s:Sc)(o:Expr)(m:Str)(args:List Expr):List (Str×FI)->Option (Mi Rr)
 |[]=>none
 |[p]=>t4 tb r s o m args p.1 p.2
 |p::q::ps=>af (t4 tb r s o m args p.1 p.2) λa=>af (yV tb r s o m args (q::ps)) λb=>some (aQ a b)
theorem pT(h:args.all notStar=true)(hl:args.length<=20)(pos:Pos)(env:Env):Yu (args.length+([]:List X8).length) (XW pos (XM args env)) (Yb pos (X0 [] env))=true:=by
 have:∀{es:List Expr},es.all notStar=true->(XW pos (XM es env)).all (λx=>!x.1)=true:=by
  intro es;induction es with
  |nil=>intro _;rfl
  |cons e es m=>intro h;rw[Rh,QM] at h;rw[ay h.1];show (true&&(XW pos (XM es env)).all (λx=>!x.1))=true;rw[m h.2];rfl
 unfold Yu;rw[this h];show (true&&(true&&decide (args.length+0+0<30)))=true;rw[show decide (args.length+0+0<30)=true from ZA Q1];rfl
theorem n0(R:cG tb k r)(S:Sit tb k X E s){m:Mi Rr}{c:Str}{fi:FI}(hl:(apos.endLine==cpos.line)=true)(d:oK o=true)(hc:(mn,c,fi)∈tb.mts)(h:t4 tb r s o mn args c fi=some m):JE X E (.Call (.Attribute o mn apos) args [] cpos) m:=by
 obtain⟨u,h⟩:=ai h;simp only[QM,Rt] at u;obtain⟨mo,e1,h⟩:=aa h;obtain⟨ma,e2,h⟩:=aa h;obtain⟨h1,e2⟩:=ai e2;rw[ZD] at h1;obtain⟨y,I,v⟩:=lH (λ_ _=>R.E S) (λ_ _=>qB R S) e2;obtain⟨C,A,fd,ps,F,hm,f,L,Q⟩:=S.gd.mt _ _ _ hc;obtain⟨ds,dvs,e,H,p⟩:=Q.of (args.length+1);have ho:JE X E o mo:=by
  unfold yt at e1;split at e1
  .exact R.E S e1
  .exact qB R S e1
 have len:=RS u.2;have old:JE X E (.Call (.Attribute o mn apos) args [] cpos) (aY (eU (fJ s 1 args (fi.mu.drop 1)) fi.m) (nJ fi (args.length+1)) (da (bK c mn mo) ma)):=by
  cases args with
  |nil=>cases e2;exact z7 hm f L F (S.rm u.1) e H p (S.ps u.1) ho (by simpa using h1) (bj d _ _ _) hl
  |cons a as=>have b:=v;rw[Rh,QM] at b;exact D6 hm f L (F.imp λ_ _ _ _ q=>je.eU q) (S.rm u.1) e H p (S.ps u.1) ho y (λZ rs O q=>by rw[I Z rs O q];exact h1) (bj d _ _ _) (pT v len _ _) hl (ay b.1 _ _) (dN b.2)
 split at h
 .rename_i x px i en;cases h;obtain⟨rfl,sl⟩:=oR en;obtain⟨a1,Y,w,z⟩:=S.slot sl;refine qf ?_ (qf ?_ old)
  .cases args with
   |nil=>cases e2;exact oT hm f L F (S.rm u.1) e H p (S.ps u.1) a1 Y w z (by simpa using h1) (bj d _ _ _) hl
   |cons a as=>have b:=v;rw[Rh,QM] at b;exact sG hm f L (F.imp λ_ _ _ _ q=>je.eU q) (S.rm u.1) e H p (S.ps u.1) a1 Y w z y (λZ rs O q=>by rw[I Z rs O q];exact h1) (bj d _ _ _) (pT v len _ _) hl (ay b.1 _ _) (dN b.2)
  .cases args with
   |nil=>cases e2;exact oT hm f L (F.imp λ_ _ _ _ q=>je.zR q) (S.rm u.1) e H p (S.ps u.1) a1 Y w z (by simpa using h1) (bj d _ _ _) hl
   |cons a as=>have b:=v;rw[Rh,QM] at b;exact sG hm f L (F.imp λ_ _ _ _ q=>je.eU (je.zR q)) (S.rm u.1) e H p (S.ps u.1) a1 Y w z y (λZ rs O q=>by rw[I Z rs O q];exact h1) (bj d _ _ _) (pT v len _ _) hl (ay b.1 _ _) (dN b.2)
 .cases h;exact old
theorem sU{r:Tr}(R:cG tb k r)(S:Sit tb k X E s){o:Expr}{mn:Str}{args:List Expr}{apos cpos:Pos}(hl:(apos.endLine==cpos.line)=true)(d:oK o=true):∀{cs:List (Str×FI)}{m:Mi Rr},(∀p∈cs,(mn,p.1,p.2)∈tb.mts)->yV tb r s o mn args cs=some m->JE X E (.Call (.Attribute o mn apos) args [] cpos) m
 |[],m,_,h=>by cases h
 |[p],m,hc,h=>n0 R S hl d (hc p Q5) h
 |p::q::ps,m,hc,h=>by obtain⟨a,e1,h⟩:=aa h;obtain⟨b,e2,h⟩:=aa h;cases h;exact qf (n0 R S hl d (hc p Q5) e1) (sU R S hl d (λx hx=>hc x (QW _ hx)) e2)
def zm(tb:Tb)(r:Tr)(s:Sc)(o:Expr)(m:Str)(apos:Pos)(args:List Expr)(cpos:Pos):Option (Mi Rr):=c7 (apos.endLine==cpos.line&&oK o) (match FZ tb m with
 |p::ps=>yV tb r s o m args (p::ps)
 | []=>none)
theorem yb(R:cG tb k r)(S:Sit tb k X E s){m:Mi Rr}(h:zm tb r s o mn apos args cpos=some m):JE X E (.Call (.Attribute o mn apos) args [] cpos) m:=by
 have h':=ai h;clear h;obtain⟨u,h⟩:=h';rw[QM] at u;split at h
 .rename_i p ps i;refine sU R S u.1 u.2 (λx hx=>?_) h;rw[<-i] at hx;unfold FZ at hx;obtain⟨⟨a,b⟩,h1,h2⟩:=UE.mp hx;simp only at h2;split at h2
  .rename_i z;cases h2;rw[ZD] at z;subst z;exact h1
  .cases h2
 .cases h
def stK:Const->Option (Mi Rr)
 | .none=>some (mC .non)
 | .bool b=>some (mC (.bl b))
 | .int i=>some (mC (.int i))
 | .str x=>some (mC (.str x))
 |_=>none
def MX(m n:Mi Rr):Zr->Option (Mi Rr)
 | .Add=>some (aC a6 m n)
 | .Sub=>some (aC jc m n)
 | .Mult=>some (aC a9 m n)
 | .FloorDiv=>some (aC iK m n)
 | .Mod=>some (aC kZ m n)
 | .Pow=>some (aC pY m n)
 |_=>none
theorem Ei{a b:Expr}{m n:Mi Rr}{op:Zr}(h:MX m n op=some q)(f:JE X E a m)(d:JE X E b n):JE X E (.BinOp a op b pos) q:=by
 cases op<;>first|(cases h;done)|skip
 .cases h;exact EB f d
 .cases h;exact IH f d
 .cases h;exact D2 f d
 .cases h;exact JR f d
 .cases h;exact He f d
 .cases h;exact Kp f d
def u9(r:Tr)(s:Sc)(a:Expr)(ops:List YA)(bs:List Expr):Option (Mi Rr):=match ops,bs with
 |[op],[b]=>af (r.E s a) λm=>af (r.E s b) λn=>Pu s op a b m n
 |_,_=>none
theorem rE(R:cG tb k r)(S:Sit tb k X E s){a:Expr}{ops:List YA}{bs:List Expr}{m:Mi Rr}(h:u9 r s a ops bs=some m):JE X E (.Compare a ops bs pos) m/\JT X E (.Compare a ops bs pos) (aj m):=by
 unfold u9 at h;split at h
 .obtain⟨K,e1,h⟩:=aa h;obtain⟨L,e2,h⟩:=aa h;exact Jb S h (R.E S e1) (R.E S e2)
 .cases h
def Kn(tb:Tb)(r:Tr)(s:Sc)(f:Expr)(args:List Expr)(F:List X8)(cpos:Pos):Option (Mi Rr):=match F with
 |[]=>match f with
  | .Name f _=>zE tb r s f args
  | .Attribute o m apos=>zm tb r s o m apos args cpos
  |_=>none
 |_::_=>none
theorem D9(R:cG tb k r)(S:Sit tb k X E s){f:Expr}{F:List X8}{m:Mi Rr}(h:Kn tb r s f args F pos=some m):JE X E (.Call f args F pos) m:=by
 unfold Kn at h;split at h
 .split at h
  .exact xF R S h
  .exact yb R S h
  .cases h
 .cases h
def PU(tb:Tb)(r:Tr)(s:Sc):Expr->Option (Mi Rr)
 | .Name x _=>match slot s x with
  |some i=>some (ab i)
  |none=>af (tb.cst.lookup x) λa=>c7 (nN s x) (some (mC a))
 | .Constant c _ _=>stK c
 | .BinOp a op b _=>af (r.E s a) λm=>af (r.E s b) λn=>MX m n op
 | .UnaryOp op a _=>match op with
  | .USub=>af (r.E s a) λm=>some (aL aU m)
  | .Not=>af (r.E s a) λm=>some (AH m)
  |_=>none
 | .BoolOp op vs _=>Pj op (r.E s) vs
 | .Compare a ops bs _=>u9 r s a ops bs
 | .IfExp t a b _=>af (r.T s t) λmt=>af (r.E s a) λm=>af (r.E s b) λn=>some (Nv mt m n)
 | .Tuple es _ _=>af (BV (r.E s) es) λm=>some (fv m)
 | .List es _=>af (BV (r.E s) es) λm=>some (du m)
 | .Subscript a b _=>zT r s a b
 | .Call f args kw cpos=>Kn tb r s f args kw cpos
 | .Attribute o f _=>c7 (oK o) (af (r.E s o) λm=>match IL s o with
  |some (_,_,i)=>some (aQ (aN (fk tb f) i f) (aL (aq (fk tb f) f) m))
  | none=>some (aL (aq (fk tb f) f) m))
 | .ListComp elt gs sc _=>pQ r s elt gs sc
 |_=>none
theorem Kg(R:cG tb k r)(S:Sit tb k X E s){m:Mi Rr}(h:PU tb r s e=some m):JE X E e m:=by
 cases e with
 |Name x _=>
  have h:(match slot s x with
   |some i=>some (ab i)
   | none=>af (tb.cst.lookup x) λa=>c7 (nN s x) (some (mC a)))=some m:=h
  split at h
  .rename_i e1;cases h;obtain⟨a1,Y,Z,q⟩:=S.slot e1;exact IW a1 Y Z q
  .obtain⟨a,e1,h⟩:=aa h;obtain⟨J,h⟩:=ai h;cases h;obtain⟨v,u,h1,h2,h3⟩:=S.gd.cs _ _ e1;exact E3 (S.glob J).1 h1 h2 h3 (S.glob J).2
 |Constant c _ _=>
  cases c<;>first|(cases h;done)|skip
  .cases h;exact IY
  .cases h;exact Nl
  .cases h;exact HY
  .cases h;exact Hx
 |BinOp a op b _=>obtain⟨K,e1,h⟩:=aa h;obtain⟨L,e2,h⟩:=aa h;exact Ei h (R.E S e1) (R.E S e2)
 |UnaryOp op a _=>
  cases op<;>first|(cases h;done)|skip
  .obtain⟨K,e1,h⟩:=aa h;cases h;exact Ho (R.E S e1)
  .obtain⟨K,e1,h⟩:=aa h;cases h;exact Hn (R.E S e1)
 |BoolOp op vs _=>exact zJ (λ_ _=>R.E S) h
 |Compare a ops bs _=>exact(rE R S h).1
 |IfExp t a b _=>obtain⟨mt,e1,h⟩:=aa h;obtain⟨K,e2,h⟩:=aa h;obtain⟨L,p,h⟩:=aa h;cases h;exact KO (R.T S e1) (R.E S e2) (R.E S p)
 |Tuple es _ _=>obtain⟨K,e1,h⟩:=aa h;cases h;exact HA (lF (λ_ _=>R.E S) e1).1
 |List es _=>obtain⟨K,e1,h⟩:=aa h;cases h;exact Gu (lF (λ_ _=>R.E S) e1).1
 |Dict j vs _=>cases h
 |Subscript a b _=>exact zB R S h
 |Call f args F cpos=>exact D9 R S h
 |Attribute o f _=>
  obtain⟨d,h⟩:=ai h;obtain⟨K,e1,h⟩:=aa h;split at h
  .rename_i x px i en;cases h;obtain⟨rfl,sl⟩:=oR en;obtain⟨a1,Y,Z,q⟩:=S.slot sl;exact qf (Br a1 Y Z q (λc C=>S.gd.fl _ c C) (bj d _ _ _)) (vM (λc C=>S.gd.fl _ c C) (R.E S e1) (bj d _ _ _))
  .cases h;exact vM (λc C=>S.gd.fl _ c C) (R.E S e1) (bj d _ _ _)
 |ListComp elt gs sc _=>obtain⟨w,N,own,tg,iter,ifs,n,G,mt,O,rfl,rfl,z,H,U,y,B,Q⟩:=oY R S h;exact DE (S.cm w) z rfl H U y B Q
 |JoinedStr es _=>cases h
 |_=>cases h
def Kk(r:Tr)(s:Sc):Expr->Option (Mi Bool)
 | .Compare a ops bs _=>af (u9 r s a ops bs) λq=>some (aj q)
 | .UnaryOp .Not a _=>af (r.T s a) λm=>some (fz m)
 | .BoolOp op vs _=>Ol op (r.T s) vs
 |e=>c7 (plainT e) (af (r.E s e) λm=>some (aj m))
theorem Cu(R:cG tb k r)(S:Sit tb k X E s){m:Mi Bool}(h:Kk r s e=some m):JT X E e m:=by
 unfold Kk at h;split at h
 .obtain⟨q,e1,h⟩:=aa h;cases h;exact(rE R S e1).2
 .obtain⟨K,e1,h⟩:=aa h;cases h;exact Iz (R.T S e1)
 .exact MY (AR (λ_ _=>R.T S) h)
 .obtain⟨u,h⟩:=ai h;obtain⟨K,e1,h⟩:=aa h;cases h;exact JM (R.E S e1) (tq u _)
def tr(tb:Tb):Nat->Tr
 |0=>⟨λ_ _=>none,λ_ _=>none,λ_ _ _=>none⟩
 |n+1=>⟨λs e=>mR (xP tb (tr tb n) s e) (mR (PU tb (tr tb n) s e) (xE tb (tr tb n) s e)),λs e=>mR (xT tb (tr tb n) s e) (Kk (tr tb n) s e),xI tb (tr tb n)⟩
theorem jW:∀n,cG tb k (tr tb n)
 |0=>⟨λ_ h=>(by cases h),λ_ h=>(by cases h),λ_ h=>(by cases h)⟩
 | n+1=>⟨λS h=>by
   rcases ba h with h|h
   .exact MM (jW n) S h
   rcases ba h with h|h
   .exact Kg (jW n) S h
   .exact LD (jW n) S h,λS h=>by
   rcases ba h with h|h
   .exact NK (jW n) S h
   .exact Cu (jW n) S h,λS h=>L6 (jW n) S h⟩
end
structure jd(tb:Tb)(k:Nat)(X:Cx)(E:XK)(s:Sc):Prop extends Sit tb k X E s where
 po:s.hd=false->YL (XU X.prog X.w) X.A X.env X.xe
 st:s.hd=false->X.stack=X.env::X.outer/\X.env.frame=some X.env.locals/\X.ex=[]
 bk:X.env.blockKind=.function
noncomputable def NU:Expr->Bool
 | .Starred ..=>true
 |_=>false
def OX(x y:Str)(px h:Pos)(a b:Expr):Bool:=x != y&&px.line==h.line&&notStar a&&notStar b&&!([a,b].all (foldedForSure 8))&&!([a,b].all (constantsAlone 8))
variable{py:Pos}{kt:Nat}
theorem Mx{x y:Str}{pt X:Pos}{J:Nat}{a b:Expr}(h:OX x y px py a b=true)(hx:env.kindOf x=some .local)(hy:env.kindOf y=some .local)(d:env.blockKind=.function):
  Yl [.Tuple [.Name x px,.Name y py] kt pt] (.Tuple [a,b] J X) env=pure (some [x,y]):=by
 unfold OX at h;simp only[QM,bne_iff_ne,ne_eq,ZD,Rt] at h;obtain⟨⟨⟨⟨⟨h1,h2⟩,h3⟩,h4⟩,h5⟩,u⟩:=h;have s1:(([a,b]:List Expr).any fun | .Starred ..=>true|_=>false)=false:=by
  rw[TR];intro e he;have hn:notStar e=true:=by
   rcases QV.mp he with z|z
   .rw[z];exact h3
   .rw[Rl.mp z];exact h4
  cases e<;>first|(cases hn;done)|exact Ry
 have c:(y==x)=false:=beq_eq_false_iff_ne.mpr λz=>h1 z.symm;have q:(x==y)=false:=beq_eq_false_iff_ne.mpr h1;unfold Yl;have pn:∀(n:Str)(p:Pos),(Expr.Name n p).pos=p:=λ_ _=>rfl;simp[d,s1,hx,hy,pn,<-h2,h5,u,List.eraseDups_cons,c,q];intro z;exfalso;rcases z with z|z
 .cases a<;>first|(cases h3;done)|cases z
 .cases b<;>first|(cases h4;done)|cases z
noncomputable def vT:Expr->Bool
 | .Tuple _ _ _=>false
 |_=>true
theorem mw(h:vT e=true):Yl [tg] e env=pure none:=by cases tg<;>first|rfl|(cases e<;>first|rfl|cases h)
theorem gD{i:Expr}:Yl [.Subscript o i p] e env=pure none:=by cases e<;>rfl
theorem wI{i:Expr}{l:Nat}:X9 e (some (.Subscript o i p)) l env=pure false:=by cases e<;>rfl
theorem uc{sc:Scope}{x:Str}{l:Nat}(h:env.kindOf x=some .cell):X9 (.ListComp elt gs sc pos) (some (.Name x px)) l env=pure false:=by unfold X9;show (pure (env.blockKind==.function&&env.kindOf x==some .local&&px.line==pos.line&&!(sc.names.any λp=>p.1==x&&(p.2==.local || p.2==.cell))):Sem Bool)=pure false;rw[h,show (some (NameKind.cell)==some (NameKind.local))=false from rfl,Ut,Va,Va]
theorem rq{t:Expr}(h:jD e=true)(l:Nat)(env:Env):Yw [t] e l env=pure false:=kf h (some t) l env
theorem jG{i:Expr}{l:Nat}:Yw [.Subscript o i p] e l env=pure false:=wI (e:=e) (o:=o) (i:=i) (p:=p) (l:=l) (env:=env)
theorem lu{i:Expr}(h:ju i=true)(v:Value):assign (.Subscript o i p) env v=(do
   let ov <- holding [v] (eval o env)
   let iv <- holding [v,ov] (eval i env)
   YF p
   holding [v,ov,iv] (setItem ov iv v)
   release [v,ov,iv] []):=by cases i<;>first|rfl|cases h
variable{ts:List Expr}
section
variable{tb:Tb}{k:Nat}{X:Cx}{E:XK}{s:Sc}
def Ca(r:Tr)(s:Sc)(x:Str)(px:Pos)(e:Expr):Option Ms:=af (iV s x) λi=>match e with
 | .ListComp elt gs sc pos=>match qE s x .local with
  |true=>c7 (px.line==pos.line&&!(sc.names.any λp=>p.1==x&&(p.2==.local || p.2==.cell))) (af (pQ r s elt gs sc) λm=>some (aG i m))
  |false=>af (r.E s e) λm=>some (aG i m)
 |e=>c7 (jD e) (af (r.E s e) λm=>some (aG i m))
theorem wB(R:cG tb k r)(S:jd tb k X E s){x:Str}{m:Ms}(h:Ca r s x px e=some m):JS X E (.Assign [.Name x px] e pos) m:=by
 obtain⟨i,e1,h⟩:=aa h;obtain⟨a1,C,Z,a⟩:=S.iV e1;have hN:X.N.Nodup:=by rw[S.n];exact S.nd
 split at h
 .split at h
  .rename_i z;obtain⟨u,h⟩:=ai h;simp only[QM,Rt] at u;obtain⟨K,e2,h⟩:=aa h;have hl:X.env.scope.names.lookup x=some .local:=S.lc x (by unfold qE at z;simpa using z);obtain⟨w,N,own,tg,iter,ifs,c,G,mt,O,rfl,rfl,q,p,U,b,B,Q⟩:=oY R S.toSit e2;cases h;exact Cs (S.cm w) q rfl hN a1 hl (uk S.bk hl u.1 u.2) p U b B Q
  .rename_i z;obtain⟨K,e2,h⟩:=aa h;cases h;refine zO hN a1 C (R.E S.toSit e2) (uc ?_) a;obtain⟨g,_⟩:=ai e1;simp only[QM,tN,Sv] at g;rcases g.1 with y|y
   .rw[y] at z;cases z
   .exact(S.ce x).1 (by unfold qE at y;simpa using y)
 .obtain⟨u,h⟩:=ai h;obtain⟨K,e2,h⟩:=aa h;cases h;exact zO hN a1 C (R.E S.toSit e2) (kf u _ _ _) a
noncomputable def GQ(e:Expr):Option (Expr×Expr):=match e with
 | .Tuple es _ _=>match es with
  |[a,b]=>some (a,b)
  |_=>none
 |_=>none
theorem wV{a b:Expr}(h:GQ e=some (a,b)):∃c p,e=.Tuple [a,b] c p:=by
 cases e with
 |Tuple es c p=>match es,h with
  |[a,b],h=>cases h;exact⟨c,p,rfl⟩
 |_=>cases h
def Io(ts:List Expr):Option ((Str×Pos)×Str×Pos):=match ts with
 |[a,b]=>af (vK a) λp=>af (vK b) λq=>some (p,q)
 |_=>none
theorem xo{x y:Str}(h:Io ts=some ((x,px),y,py)):ts=[.Name x px,.Name y py]:=by
 match ts,h with
 |[a,b],h=>obtain⟨p,h1,h⟩:=aa h;obtain⟨q,h2,h⟩:=aa h;cases h;rw[cJ h1,cJ h2]
def tF(r:Tr)(s:Sc)(ts:List Expr)(e:Expr):Option Ms:=c7 (vT e&&jD e) (af (r.E s e) λm=>af (CH s 0 9 (.Tuple ts 0 default)) λg=>some (LH m g))
def Bn(r:Tr)(s:Sc)(ts:List Expr)(e:Expr):Option Ms:=match Io ts with
 | some ((x,px),y,py)=>(match GQ e with
  |some (a,b)=>c7 (!s.hd&&qE s x .local&&qE s y .local&&okN x&&okN y&&OX x y px py a b) (af (iV s x) λi=>af (iV s y) λj=>c7 (i != j) (af (BV (r.E s) [a,b]) λm=>some (Ay i j m)))
  | none=>tF r s ts e)
 |none=>tF r s ts e
theorem Iw{lo d:Nat}{n v:Nat}{x:Pos}{g:Mg}(h:CH s lo d (.Tuple ts n p)=some g):CH s lo d (.Tuple ts v x)=some g:=by
 cases d with
 |zero=>cases h
 |succ d=>exact h
theorem nY(R:cG tb k r)(S:jd tb k X E s){pt:Pos}{m:Ms}(h:tF r s ts e=some m):JS X E (.Assign [.Tuple ts kt pt] e pos) m:=by obtain⟨u,h⟩:=ai h;rw[QM] at u;obtain⟨K,e1,h⟩:=aa h;obtain⟨g,e2,h⟩:=aa h;cases h;exact HZ (R.E S.toSit e1) (qA S.toSit (Iw e2)) (rq u.2 _ _) (mw u.1) (hp:=λx y=>nE x y (rq u.2 _ _) (mw u.1))
theorem Ad(R:cG tb k r)(S:jd tb k X E s){pt:Pos}{m:Ms}(h:Bn r s ts e=some m):JS X E (.Assign [.Tuple ts kt pt] e pos) m:=by
 unfold Bn at h;cases T:Io ts with
 |none=>rw[T] at h;exact nY R S h
 |some p=>
  obtain⟨⟨x,px⟩,y,py⟩:=p;rw[T] at h;dsimp only at h;cases B:GQ e with
  |none=>rw[B] at h;exact nY R S h
  |some p=>
   obtain⟨a,b⟩:=p;rw[B] at h;obtain⟨u,h⟩:=ai h;simp only[QM,Rt] at u;obtain⟨⟨⟨⟨⟨h1,h2⟩,h3⟩,_⟩,_⟩,h4⟩:=u;obtain⟨i,e1,h⟩:=aa h;obtain⟨j,e2,h⟩:=aa h;obtain⟨I,h⟩:=ai h;obtain⟨ma,Y,h⟩:=aa h;cases h;obtain rfl:=xo T;obtain⟨c,p,rfl⟩:=wV B;have hN:X.N.Nodup:=by rw[S.n];exact S.nd
   have G:=S.lc x (show s.nm.lookup _=_ by unfold qE at h2;simpa using h2);have J:=S.lc y (show s.nm.lookup _=_ by unfold qE at h3;simpa using h3);have q:i≠j:=by simpa using I
   exact Ha (lF (λ_ _=>R.E S.toSit) Y).1 q (λy=>Ks (S.cm h1) hN (S.iV e1).1 (S.iV e2).1 q G J y (Mx h4 G J S.bk))
def Ny(r:Tr)(s:Sc)(x:Str)(t e:Expr):Option Ms:=af (slot s x) λi=>af (r.E s t) λmk=>af (r.E s e) λm=>c7 (!s.hd&&ju t) (some (gr i mk m))
theorem CB(R:cG tb k r)(S:jd tb k X E s){x:Str}{a:Pos}{t:Expr}{m:Ms}(h:Ny r s x t e=some m):JS X E (.Assign [.Subscript (.Name x px) t a] e pos) m:=by obtain⟨i,e1,h⟩:=aa h;obtain⟨mk,e2,h⟩:=aa h;obtain⟨K,N,h⟩:=aa h;obtain⟨u,h⟩:=ai h;simp only[QM,Rt] at u;obtain⟨a1,C,Z,q⟩:=S.slot e1;cases h;exact BL a1 C Z q (R.E S.toSit e2) (R.E S.toSit N) (λx y z=>nE z (pD x y set_list (lu u.2)) jG gD)
theorem o7{l:Nat}:X9 e (some (.Attribute o f p)) l env=pure false:=by cases e<;>rfl
def BZ(tb:Tb)(r:Tr)(s:Sc)(t e:Expr):Option Ms:=match t with
 | .Name x px=>Ca r s x px e
 | .Tuple ts _ _=>Bn r s ts e
 | .Subscript (.Name x _) ek _=>Ny r s x ek e
 |_=>none
theorem yW(R:cG tb k r)(S:jd tb k X E s){t:Expr}{m:Ms}(h:BZ tb r s t e=some m):JS X E (.Assign [t] e pos) m:=by
 unfold BZ at h;split at h
 .exact wB R S h
 .exact Ad R S h
 .exact CB R S h
 .cases h
end
section
variable{tb:Tb}{k:Nat}{X:Cx}{E:XK}{s:Sc}
def tf(F:Stmt->Option Ms):List Stmt->Option Ms
 |[]=>some bN
 |[a]=>F a
 |a::b::r=>af (F a) λm=>af (tf F (b::r)) λn=>some (av m n)
theorem iH{F:Stmt->Option Ms}(h:∀a m,F a=some m->JS X E a m):∀{l:List Stmt}{m:Ms},tf F l=some m->qZ X E l m
 |[],m,e=>by cases e;exact v5
 |[a],m,e=>wa (h _ _ e)
 |a::b::r,m,e=>by obtain⟨K,e1,e⟩:=aa e;obtain⟨L,e2,e⟩:=aa e;cases e;exact rp (h _ _ e1) (iH h e2)
noncomputable def vO(st:Stmt):Option (Expr×Expr×Pos):=match st with
 | .Assign ts e pos=>match ts with
  |[t]=>some (t,e,pos)
  |_=>none
 |_=>none
theorem i8{st:Stmt}{t:Expr}(h:vO st=some (t,e,pos)):st=.Assign [t] e pos:=by
 cases st with
 |Assign ts k p=>
  rcases ts with _|⟨t',_|_⟩
  .cases h
  .cases h;rfl
  .cases h
 |_=>cases h
noncomputable def B1(e:Expr):Option (Expr×Str×Pos):=match e with
 | .Attribute o f p=>some (o,f,p)
 |_=>none
theorem m8(h:B1 e=some (o,f,p)):e=.Attribute o f p:=by
 cases e with
 |Attribute=>cases h;rfl
 |_=>cases h
def u6(tb:Tb)(r:Tr)(s:Sc)(_:Sc->Stmt->Option Ms)(st:Stmt):Option Ms:=af (vO st) λ(t,e,_)=>mR
 (af (B1 t) λ(o,f,_)=>af (vK o) λ(x,_)=>c7 (s.lv.contains ("*nob" : Str)) (af (slot s x) λi=>af (r.E s e) λm=>match s.lv.contains f with
  |true=>some (iY (fk tb f) i f m)
  | false=>some (dG (fk tb f) i f m)))
 (af (ox t) λ(a,b,_)=>af (xm s a) λ(i,_,f,_,_)=>af (vK b) λ(y,_)=>af (slot s y) λj=>af (r.E s e) λm=>some (fD (fk tb f) i f j m))
theorem tH{F:Sc->Stmt->Option Ms}(R:cG tb k r)(S:jd tb k X E s)(B:∀Q,Passes Ce X Q->∀a m,F (OV s) a=some m->JS X Q a m){st:Stmt}{m:Ms}(h:u6 tb r s F st=some m):JS X E st m:=by
 obtain⟨⟨t,e,pos⟩,h1,w⟩:=aa h;clear h;obtain rfl:=i8 h1;rcases ba w with z|z
 .clear w;obtain⟨⟨o,f,p⟩,h2,O⟩:=aa z;clear z;obtain rfl:=m8 h2;obtain⟨⟨x,px⟩,h3,K⟩:=aa O;clear O;obtain rfl:=cJ h3;obtain⟨_,Z⟩:=ai K;clear K;obtain⟨i,e1,v⟩:=aa Z;clear Z;obtain⟨q,e2,n⟩:=aa v;clear v;obtain⟨a1,Y,H,U⟩:=S.slot e1;cases P:s.lv.contains f with
  |true=>rw[P] at n;cases n;exact CV a1 Y H U (λc C=>S.gd.fl _ c C) (R.E S.toSit e2) o7
  |false=>rw[P] at n;cases n;exact En a1 Y H U (λc C=>S.gd.fl _ c C) (R.E S.toSit e2) o7
 .clear w;obtain⟨⟨a,b,D⟩,h2,O⟩:=aa z;clear z;obtain rfl:=fw h2;obtain⟨⟨i,x,f,px,G⟩,h3,K⟩:=aa O;clear O;obtain⟨rfl,a1,Y,H,U⟩:=fU S.toSit h3;obtain⟨⟨y,py⟩,h4,Z⟩:=aa K;clear K;obtain rfl:=cJ h4;obtain⟨j,e1,v⟩:=aa Z;clear Z;obtain⟨q,e2,n⟩:=aa v;cases n;obtain⟨b1,b2,I,L⟩:=S.slot e1;exact wx a1 Y H U b1 b2 I L (λc C=>S.gd.fl _ c C) (bj rfl _ _ _) (R.E S.toSit e2) (λx y z=>nE z (pD x y set_list (lu rfl)) jG gD)
def xS(tb:Tb)(r:Tr)(s:Sc)(F:Sc->Stmt->Option Ms)(st:Stmt):Option Ms:=mR (u6 tb r s F st) (none)
theorem MU{F:Sc->Stmt->Option Ms}(R:cG tb k r)(S:jd tb k X E s)(e:∀B,Passes Ce X B->∀a m,F (OV s) a=some m->JS X B a m){st:Stmt}{m:Ms}(h:xS tb r s F st=some m):JS X E st m:=by
 rcases ba h with h|h
 .exact tH R S e h
 cases h
end
variable{base:Heap}{dV:Value}
section
variable{tb:Tb}{k:Nat}{X:Cx}{E:XK}{s:Sc}
def Fw(r:Tr)(s:Sc)(tg it:Expr)(b:Ms):Option Ms:=c7 (kv it) (af (Ou r s tg it) λm=>af (CH s 0 9 tg) λG=>some (fT m G b))
theorem AY(R:cG tb k r)(S:jd tb k X E s)(u:s.hd=false){it:Expr}{body:List Stmt}{b m:Ms}(d:qZ X E body b)(h:Fw r s tg it b=some m):JS X E (.For tg it body [] pos) m:=by obtain⟨A,h⟩:=ai h;obtain⟨K,e1,h⟩:=aa h;obtain⟨G,e2,h⟩:=aa h;cases h;exact GO (S.po u) (S.cm u) (Aa R S.toSit e1) (qA S.toSit e2) d (mG A _)
def BB(tb:Tb)(r:Tr)(s:Sc)(ts:List Expr)(e:Expr):Option Ms:=match ts with
 |[t]=>BZ tb r s t e
 |_=>none
def Oc(tb:Tb)(r:Tr)(s:Sc)(ex ca:Option Expr):Option Ms:=some rM
def Qp(tb:Tb)(r:Tr)(s:Sc)(F:Sc->Stmt->Option Ms):Stmt->Option Ms
 | .Assign ts e _=>BB tb r s ts e
 | .Return none _=>some F9
 | .Return (some e) _=>af (r.E s e) λm=>some (bB m)
 | .If t a b _=>af (r.T s t) λmt=>af (tf (F s) a) λm=>af (tf (F s) b) λn=>some (gJ mt m n)
 | .While t b els _=>c7 (!s.hd&&els.isEmpty) (af (r.T s t) λmt=>af (tf (F s) b) λm=>some (gn vg mt m))
 | .For tg it b els _=>c7 (!s.hd&&els.isEmpty) (af (tf (F s) b) λm=>Fw r s tg it m)
 | .Raise ex ca _=>Oc tb r s ex ca
 | .Expr e _=>c7 (jD e) (af (r.E s e) λm=>some (dA m))
 |_=>none
def HD(tb:Tb)(r:Tr):Nat->Sc->Stmt->Option Ms
 |0,_,_=>none
 |d+1,s,st=>mR (xS tb r s (HD tb r d) st) (Qp tb r s (HD tb r d) st)
theorem jd.K5{Q:XK}(S:jd tb k X E s)(h1:Passes Ce X Q):jd tb k X Q (OV s):=⟨⟨S.n,S.nd,S.gl,S.vs,S.lo,S.lc,S.ce,S.fx,S.cm,S.rm,λ_=>h1,S.gd⟩,S.po,S.st,S.bk⟩
theorem pC{r:Tr}(R:cG tb k r):∀{d:Nat}{X:Cx}{E:XK}{s:Sc}{st:Stmt}{m:Ms},jd tb k X E s->HD tb r d s st=some m->JS X E st m
 |0,X,E,s,st,m,S,h=>by cases h
 |d+1,X,E,s,st,m,S,h=>by
  have c:∀a m,HD tb r d s a=some m->JS X E a m:=λa m e=>pC R S e;unfold HD at h;have h':=ba h;clear h;rcases h' with h|h
  .exact MU R S (λQ h1 a m e=>pC R (S.K5 h1) e) h
  cases st with
  |Assign ts e _=>
   have h:BB tb r s ts e=some m:=h;unfold BB at h;split at h
   .exact yW R S h
   .cases h
  |Return v _=>cases v with
   |none=>cases h;exact Eh
   |some e=>obtain⟨K,e1,h⟩:=aa h;cases h;exact HI (R.E S.toSit e1)
  |If t a b _=>obtain⟨mt,e1,h⟩:=aa h;obtain⟨K,e2,h⟩:=aa h;obtain⟨L,J,h⟩:=aa h;cases h;exact NI (R.T S.toSit e1) (iH c e2) (iH c J)
  |While t b i _=>have h':=ai h;clear h;obtain⟨u,h⟩:=h';simp only[QM,Rt,Se] at u;obtain⟨N,rfl⟩:=u;obtain⟨mt,e1,h⟩:=aa h;obtain⟨K,e2,h⟩:=aa h;cases h;exact yo (S.po N) (R.T S.toSit e1) (iH c e2)
  |For tg it b i _=>have h':=ai h;clear h;obtain⟨u,h⟩:=h';simp only[QM,Rt,Se] at u;obtain⟨N,rfl⟩:=u;obtain⟨K,e2,h⟩:=aa h;exact AY R S N (iH c e2) h
  |Raise ex ca _=>cases h;exact ET
  |Expr e _=>obtain⟨u,h⟩:=ai h;obtain⟨K,e1,h⟩:=aa h;cases h;exact DR (R.E S.toSit e1) (kf u _ _ _)
  |Pass _=>cases h
  |Break _=>cases h
  |Continue _=>cases h
  |_=>cases h
structure DI where
 cl:Option Str
 name:Str
 st:Stmt
 N:List Str
 n:Nat
 di:List Str
 mu:List Bool
 df:List A
 lv:List Str
 m:Ms
 ce:List Str:=[]
 tp:Bool:=false
 sp:Bool:=false
 bo:Option (Nat×Nat×Nat×List Nat):=none
def DI.sc(d:DI):Sc:={ N:=d.N,nm:=(bx d.st).names,di:=d.di,ca:=[],hd:=false,lv:=d.lv }
def hW(d:DI):Bool:=(bx d.st).kind==.function&&!(bx d.st).isCoroutine&&!(bx d.st).isGenerator&&decide d.N.Nodup&&SG d.n d.N.length&&(d.N.take d.n).all (λx=>(bx d.st).names.lookup x==some .local || (bx d.st).names.lookup x==some .cell)&&(bx d.st).names.all (λy=>y.2 != .free)
variable{d:DI}
theorem iu(h:hW d=true):jP d.N (d.N.take d.n) (bx d.st)/\(d.N.take d.n).length=d.n:=by
 unfold hW at h;simp only[QM,ZD,Rt,decide_eq_true_eq,Sd,Sv,bne_iff_ne,ne_eq] at h;obtain⟨⟨⟨⟨⟨⟨h1,h2⟩,h3⟩,h4⟩,h5⟩,u⟩,v⟩:=h;have hl:(d.N.take d.n).length=d.n:=by rw[RV];have:=RS h5;lia
 exact⟨⟨h1,h2,h3,h4,by rw[hl],u,v⟩,hl⟩
def DI.M(d:DI):Ms:=cb (d.N.length-d.n) d.m
noncomputable def DI.fi(d:DI):FI:=⟨d.n,d.M,d.mu,d.df,!d.ce.isEmpty⟩
noncomputable def DI.qual(d:DI):Str:=match d.cl with
 |none=>d.name
 |some c=>c++(("." : Str)++d.name)
def Tb.add(tb:Tb)(d:DI):Tb:=match d.cl with
 |none=>{ tb with fns:=(d.name,d.fi)::tb.fns }
 |some c=>match d.name==("__init__" : Str) with
  |true=>{ tb with fM:=(c,d.fi)::tb.fM }
  |false=>{ tb with mts:=(d.name,c,d.fi)::tb.mts }
noncomputable def sM:Nat:=40
noncomputable def Gp:Ms:=λ_=>none
theorem A1{l:List Stmt}:qZ X E l Gp:=⟨λpins s Y H D I h=>by obtain⟨c,Z,B,θ,f,O,t,b,em,q⟩:=h;cases em⟩
def vy(tb:Tb)(r:Tr)(s:Sc)(a b:Stmt):Option Ms:=af (vO a) λ(t,e,_)=>af (ox t) λ(R,Q,_)=>af (vK R) λ(x,_)=>af (vK Q) λ(y,_)=>
 af (vO b) λ(D,e2,_)=>af (ox D) λ(u,n,_)=>af (ox u) λ(L,Y,_)=>af (vK L) λ(c,_)=>af (vK Y) λ(h,_)=>af (vK n) λ(z,_)=>af (B1 e2) λ(U,f,_)=>af (vK U) λ(o,_)=>
 c7 (s.lv.contains ("*nob" : Str)&&x==c&&y==h) (af (slot s x) λi=>af (slot s y) λj=>af (slot s z) λl=>af (slot s o) λq=>af (r.E s e) λm=>some (wm (fk tb f) i j l q f m))
theorem tO(R:cG tb k r)(S:jd tb k X E s){a b:Stmt}{m:Ms}(h:vy tb r s a b=some m):∃ta w,PS X a ta/\PS X b w/\∀D Y H,G3 (kx X) E m D Y H->BK ta w D Y H:=by
 obtain⟨⟨t,e,p1⟩,h1,I⟩:=aa h;clear h;obtain rfl:=i8 h1;obtain⟨⟨x1,y1,p2⟩,h2,P⟩:=aa I;clear I;obtain rfl:=fw h2;obtain⟨⟨x,p3⟩,h3,K⟩:=aa P;clear P;obtain rfl:=cJ h3;obtain⟨⟨y,p4⟩,h4,N⟩:=aa K;clear K;obtain rfl:=cJ h4;obtain⟨⟨t2,e2,p5⟩,h5,L⟩:=aa N;clear N;obtain rfl:=i8 h5;obtain⟨⟨u,z1,p6⟩,h6,A⟩:=aa L;clear L;obtain rfl:=fw h6;obtain⟨⟨x2,y2,p7⟩,h7,J⟩:=aa A;clear A;obtain rfl:=fw h7;obtain⟨⟨x',p8⟩,h8,g⟩:=aa J;clear J;obtain rfl:=cJ h8;obtain⟨⟨y',p9⟩,h9,V⟩:=aa g;clear g;obtain rfl:=cJ h9;obtain⟨⟨z,q1⟩,g1,v⟩:=aa V;clear V;obtain rfl:=cJ g1;obtain⟨⟨o1,f,q2⟩,g2,Z⟩:=aa v;clear v;obtain rfl:=m8 g2;obtain⟨⟨o,q3⟩,g3,U⟩:=aa Z;clear Z;obtain rfl:=cJ g3;obtain⟨d,B⟩:=ai U;clear U;rw[QM,QM,ZD,ZD] at d;obtain⟨⟨_,rfl⟩,rfl⟩:=d;obtain⟨i,e3,n⟩:=aa B;clear B;obtain⟨j,e4,F⟩:=aa n;clear n;obtain⟨l,e5,O⟩:=aa F;clear F;obtain⟨q,e6,T⟩:=aa O;clear O;obtain⟨m1,e7,G⟩:=aa T;clear T;cases G;obtain⟨a1,a2,a3,a4⟩:=S.slot e3;obtain⟨b1,b2,b3,b4⟩:=S.slot e4;obtain⟨c1,c2,c3,c4⟩:=S.slot e5;obtain⟨d1,d2,d3,d4⟩:=S.slot e6;exact⟨_,_,nE (R.E S.toSit e7).p (pD (bS a1 a2 a3 a4) (bS b1 b2 b3 b4) set_list (lu rfl)) jG gD,
  nE (fm (bS d1 d2 d3 d4) (bj rfl _ _ _)) (pD (zH pR (bS a1 a2 a3 a4) (bS b1 b2 b3 b4) (λ_ _=>rfl)) (bS c1 c2 c3 c4) set_list (lu rfl)) jG gD,
  xW (λc C=>S.gd.fl _ c C) λY H Q h=>h⟩
def Dn(P:Stmt->Stmt->Option Ms)(F:Stmt->Option Ms):List Stmt->Option Ms
 |[]=>some bN
 |[a]=>F a
 |a::b::r=>mR (af (P a b) λm=>af (Dn P F r) λn=>some (av m n)) (af (F a) λm=>af (Dn P F (b::r)) λn=>some (av m n))
theorem qj{P:Stmt->Stmt->Option Ms}{F:Stmt->Option Ms}(hp:∀a b m,P a b=some m->∃ta tb,PS X a ta/\PS X b tb/\∀D Y H,G3 (kx X) E m D Y H->BK ta tb D Y H)(h:∀a m,F a=some m->JS X E a m):∀{l:List Stmt}{m:Ms},Dn P F l=some m->qZ X E l m
 |[],m,e=>by cases e;exact v5
 |[a],m,e=>wa (h _ _ e)
 |a::b::r,m,e=>by
  rcases ba e with e|e
  .obtain⟨K,e1,e⟩:=aa e;obtain⟨L,e2,e⟩:=aa e;cases e;obtain⟨ta,tb,i,C,w⟩:=hp _ _ _ e1;exact Bp i C w (qj hp h e2)
  .obtain⟨K,e1,e⟩:=aa e;obtain⟨L,e2,e⟩:=aa e;cases e;exact rp (h _ _ e1) (qj hp h e2)
def tW(tb:Tb)(d:DI):Option Ms:=match d.sp with
 |true=>some Gp
 |false=>Dn (vy tb (tr tb sM) d.sc) (HD tb (tr tb sM) sM d.sc) (fG d.st)
theorem D5{m:Ms}(h:tW tb d=some m)(S:jd tb k X E d.sc):qZ X E (fG d.st) m:=by
 unfold tW at h;split at h
 .cases h;exact A1
 .have ok:∀{l:List Stmt}{m:Ms},tf (HD tb (tr tb sM) sM d.sc) l=some m->qZ X E l m:=λh=>iH (λa m e=>pC (jW sM) S e) h;exact qj (λa b m e=>tO (jW sM) S e) (λa m e=>pC (jW sM) S e) h
theorem F7{P:Program}{f:Addr}{qual:Str}(G:Gd tb k P w K mg base)(F:qi K d.name qual d.st f fd dV)(hs:hW d=true)
  (h:tW tb d=some d.m):dF P w K mg base Ce (k+1) f fd (d.N.take d.n) (je ⟨K,mg,P,w⟩ d.n d.M):=by
 obtain⟨S,hl⟩:=iu hs;have key:=EN (CX:=Ce) (P:=P) (w:=w) (mg:=mg) (base:=base) (k:=k) (m:=d.m) F S (λcdv A outer s H E R=>D5 h (?_:jd tb k _ E d.sc))
 .rw[hl] at key;exact key
 .refine⟨⟨rfl,S.nd,λx hx=>hx,λx hx=>?_,λx hx=>?_,λx hx=>hx,λx=>⟨λhx=>hx,.inr⟩,λx hx=>.inl rfl,λ_=>rfl,λ_=>R,λ_ _ _ _ _ _ _ _ x=>x.elim,G⟩,λ_=>YL.leaving,λ_=>⟨rfl,rfl,rfl⟩,?_⟩
  .unfold EG qE DI.sc at hx;simp only[Sv,ZD] at hx;rcases hx with (z|z)|z
   .exact .inl z
   .exact .inr (.inl z)
   .exact .inr (.inr z)
  .unfold tN qE DI.sc at hx;simp only[Sv,ZD] at hx;exact hx
  .show (if (bx d.st).kind.isAnnotationScope then ScopeKind.function else (bx d.st).kind)=.function;rw[S.kind];rfl
end
theorem tZ:∀{us:List Value}{n:Str},us.length=ps.length->n∈ps->((ps.zip us).lookup n).isSome=true:=by
 induction ps with
 |nil=>intro us n _ h;cases h
 |cons p ps m=>
  intro us n hl h;cases us with
  |nil=>cases hl
  |cons u us=>
   rw[S8,Q6];split
   .rfl
   .rename_i z;rcases QV.mp h with y|y
    .rw[y,beq_self_eq_true] at z;cases z
    .exact m (by simpa using hl) y
theorem lO:∀{us:List Value}{pre:List (Str×Value)},us.length=ps.length->ps.Nodup->(∀n∈ps,pre.lookup n=none)->ps.filterMap (λn=>((pre++ps.zip us).lookup n).map (n,·))=ps.zip us:=by
 induction ps with
 |nil=>intro us pre _ _ _;rfl
 |cons p ps m=>
  intro us pre hl nd hp;cases us with
  |nil=>cases hl
  |cons u us=>
   obtain⟨e,Y⟩:=Rn.mp nd;have e1:(pre++(p,u)::ps.zip us).lookup p=some u:=by rw[RH,hp p Q5,Q6,beq_self_eq_true];rfl
   rw[S8,TC,e1];show (p,u)::_=_
   congr 1
   have:=m (us:=us) (pre:=pre++[(p,u)]) (by simpa using hl) Y (λn hn=>by rw[RH,hp n (QW _ hn),Q6];have:(n==p)=false:=beq_eq_false_iff_ne.mpr λz=>e (z▸hn);rw[this];rfl)
   simpa[QQ] using this
theorem kI{α β:Type}{f:α->β->Sem (ForInStep β)}{g:β->α->β}(h:∀a b,f a b=pure (.yield (g b a))):∀(l:List α)(b:β),(forIn l b f:Sem β)=pure (l.foldl g b)
 |[],_=>rfl
 |a::l,b=>by rw[Um,h,pure_bind];exact kI h l _
noncomputable def sH(S:List (Str×Value))(x:Str×Value):List (Str×Value):=if (S.lookup x.1).isNone=true then S++[(x.1,x.2)] else S
variable{us:List Value}
theorem qz(h1:fd.params.posonlyargs=[])(h2:fd.params.kwonlyargs=[])(h3:fd.params.vararg=none)(h4:fd.params.kwarg=none)(u:fd.params.args.map (·.arg)=ps)(hl:us.length<=ps.length):
  ∃k,bindArgs fd ⟨us,[]⟩=seqItems? fd.defaults >>= k/\∀(o:Option (Array Value))(ds:List Value),(o.getD #[]).toList.drop ((o.getD #[]).toList.length-ps.length)=ds->
   (ps.take (ps.length-ds.length)).filter (λn=>((ps.zip us).lookup n).isNone)=[]->
   k o=pure ((ps++[]).filterMap λn=>((((ps.drop (ps.length-ds.length)).zip ds).foldl sH (ps.zip us)).lookup n).map (n,·)):=by
 obtain⟨nm,s,pr,bo,sc,gl,cl,de,x,c,pm,an,cd,ct,K⟩:=fd;obtain⟨po,h,X,e,p,F,df⟩:=pr;obtain rfl:h.map (·.arg)=ps:=u;obtain rfl:po=[]:=h1;obtain rfl:e=[]:=h2;obtain rfl:X=none:=h3;obtain rfl:F=none:=h4;refine⟨_,rfl,λo ds hd hm=>?_⟩;subst hd;refine(Zy (λz=>?_)).trans ?_
 .rw[QM,decide_eq_true_eq] at z;exact absurd z.1 (UL.mpr hl)
 refine(Zy (λz=>?_)).trans ?_
 .rw[Rt,List.isEmpty_eq_false_iff] at z;exact z hm
 refine(ZC (· >>= _) (kI (g:=sH) (λa b=>?_) _ _)).trans ?_
 .unfold sH;by_cases z:(b.lookup a.1).isNone=true
  .rw[Zx z];exact Zx z
  .rw[Zy z];exact Zy z
 .exact rfl
theorem jA(hl:us.length=ps.length):ps.filter (λn=>((ps.zip us).lookup n).isNone)=[]:=by
 rw[SI];intro n hn;have:=tZ hl hn;cases e:(ps.zip us).lookup n with
 |none=>rw[e] at this;cases this
 |some v=>exact Ry
theorem sD(h1:fd.params.posonlyargs=[])(h2:fd.params.kwonlyargs=[])(h3:fd.params.vararg=none)(h4:fd.params.kwarg=none)(h5:fd.defaults=.none)(u:fd.params.args.map (·.arg)=ps)(nd:ps.Nodup)(hl:us.length=ps.length):
  bindArgs fd ⟨us,[]⟩=pure (ps.zip us):=by
 obtain⟨k,e1,e2⟩:=qz (us:=us) h1 h2 h3 h4 u (Uk hl);rw[e1,h5];refine(e2 none [] WR (by rw[List.length_nil,VM,Wg];exact jA hl)).trans ?_;rw[RO,List.zip_nil_right];have G:=lO (pre:=[]) hl nd (λn _=>rfl);rw[Tz] at G;exact ZC pure G
theorem yR:∀{us:List Value}{z:Str},z∉ps->(ps.zip us).lookup z=none:=by
 induction ps with
 |nil=>intro us z _;rfl
 |cons p ps m=>
  intro us z hz;cases us with
  |nil=>rfl
  |cons u us=>rw[S8,Q6];have:(z==p)=false:=beq_eq_false_iff_ne.mpr λy=>hz (y▸Q5);rw[this];exact m λy=>hz (QW _ y)
theorem xf{qs:List Str}:∀{us:List Value},us.length=ps.length->(ps++qs).zip us=ps.zip us:=by
 induction ps with
 |nil=>intro us h;cases us with
  |nil=>cases qs<;>rfl
  |cons _ _=>cases h
 |cons p ps m=>intro us h;cases us with
  |nil=>cases h
  |cons u us=>rw[SW,S8,S8,m (by simpa using h)]
theorem Aw{s:Shared}{qs:List Str}{z:Str}{a:Addr}{o:Obj}{h:Value}{i:Nat}(h1:fd.params.posonlyargs=[])(h2:fd.params.kwonlyargs=[])(h3:fd.params.vararg=none)(h4:fd.params.kwarg=none)(h5:fd.defaults=.ref a)(ho:s.heap.get? a=some o)(hs:o.data=.seq #[h] i)
  (u:fd.params.args.map (·.arg)=qs++[z])(nd:(qs++[z]).Nodup):
  (us.length=(qs++[z]).length->YV s fd ⟨us,[]⟩ ((qs++[z]).zip us))/\(us.length=qs.length->YV s fd ⟨us,[]⟩ ((qs++[z]).zip (us++[h]))):=by
 have nz:z∉qs:=λy=>(Q2.mp nd).2.2 z y z Q5 rfl;have e1:Wj (1-(qs++[z]).length) [h]=[h]:=by rw[show 1-(qs++[z]).length=0 by simp];rfl
 have e2:(qs++[z]).take ((qs++[z]).length - [h].length)=qs:=by simp
 have Y:(qs++[z]).drop ((qs++[z]).length - [h].length)=[z]:=by simp
 refine⟨λhl=>?_,λhl=>?_⟩
 .obtain⟨k,S,J⟩:=qz (us:=us) h1 h2 h3 h4 u (Uk hl);refine .of_defaults h5 ho hs S ((J (some #[h]) [h] e1 ?_).trans ?_)
  .rw[e2,SI];exact λn hn=>SI.mp (jA hl) n (QR _ hn)
  .have B:¬ (((qs++[z]).zip us).lookup z).isNone=true:=SI.mp (jA hl) z (QO _ Q5);rw[Y];have K:UG sH ((qs++[z]).zip us) ([z].zip [h])=(qs++[z]).zip us:=Zy B;rw[K,RO];exact ZC pure (lO (pre:=[]) hl nd (λn _=>rfl))
 .obtain⟨k,S,J⟩:=qz (us:=us) h1 h2 h3 h4 u (by rw[hl,Rc];exact S1 _ _);have hz:(qs++[z]).zip us=qs.zip us:=xf hl;refine .of_defaults h5 ho hs S ((J (some #[h]) [h] e1 ?_).trans ?_)
  .rw[e2,hz];exact jA hl
  .have N:(us++[h]).length=(qs++[z]).length:=by rw[Rc,Rc,hl];rfl
   have C:(qs++[z]).zip (us++[h])=qs.zip us++[(z,h)]:=by rw[List.zip_append hl.symm];rfl
   rw[Y,hz];have K:UG sH (qs.zip us) ([z].zip [h])=qs.zip us++[(z,h)]:=Zx (by rw[yR nz];rfl);rw[K,<-C,RO];exact ZC pure (lO (pre:=[]) N nd (λn _=>rfl))
mutual
noncomputable def zM(K:QN):Nat->Value->A->Bool
 |0,_,_=>false
 |n+1,v,a=>match v,a with
  | .none,.non=>true
  | .bool b,.bl c=>b==c
  | .int i _,.int j=>i==j
  | .str x _,.str y=>x==y
  | .ref p,.tup as=>(match K.lookup p with
   |some ⟨.type "tuple",none,.seq its _,_⟩=>SG its.size 1000&&vU K n its.toList as
   | _=>false)
  |_,_=>false
noncomputable def vU(K:QN):Nat->List Value->List A->Bool
 |0,_,_=>false
 |_+1,[],[]=>true
 |n+1,v::vs,a::as=>zM K n v a&&vU K n vs as
 |_+1,_,_=>false
end
mutual
theorem qx{P:Program}{w:XX}{K:QN}{mg:Str->Option Value}:∀{n:Nat}{v:Value}{a:A},zM K n v a=true->∃x,RelV x v/\∀G,RA ⟨K,mg,P,w⟩ G x a
 |0,v,a,h=>by cases h
 |n+1,v,a,h=>by
  cases v with
  |none=>cases a with
   |non=>exact⟨.non,rfl,λ_=>.non⟩
   |_=>exact P7 h
  |bool b=>cases a with
   |bl c=>obtain rfl:b=c:=eq_of_beq h;exact⟨.bl _,rfl,λ_=>.bl _⟩
   |_=>exact P7 h
  |int i t=>cases a with
   |int j=>obtain rfl:i=j:=eq_of_beq h;exact⟨.int _,⟨_,rfl⟩,λ_=>.int _⟩
   |_=>exact P7 h
  |str x t=>cases a with
   |str y=>obtain rfl:x=y:=eq_of_beq h;exact⟨.str _,⟨_,rfl⟩,λ_=>.str _⟩
   |_=>exact P7 h
  |ref p=>cases a with
   |tup as=>
    replace h:(match K.lookup p with
     |some ⟨.type "tuple",none,.seq its _,_⟩=>SG its.size 1000&&vU K n its.toList as
     | _=>false)=true:=h
    split at h
    .rename_i b i sl e;rw[QM] at h;obtain⟨xs,h1,h2⟩:=rl (P:=P) (w:=w) (mg:=mg) h.2;refine⟨.ref _,rfl,λG=>.tup (.inr ⟨_,b,_,e,⟨rfl,rfl⟩,rfl,?_,h1⟩) (h2 G)⟩;have:=RS h.1;have:=oZ;lia
    .cases h
   |_=>exact P7 h
  |_=>exact P7 h
theorem rl{P:Program}{w:XX}{K:QN}{mg:Str->Option Value}:∀{n:Nat}{vs:List Value}{as:List A},vU K n vs as=true->∃xs,Vals xs vs/\∀G,bU ⟨K,mg,P,w⟩ G xs as
 |0,vs,as,h=>by cases h
 |_+1,[],[],h=>⟨[],.nil,λ_=>.nil⟩
 |n+1,v::vs,a::as,h=>by replace h:(zM K n v a&&vU K n vs as)=true:=h;rw[QM] at h;obtain⟨x,h1,h2⟩:=qx (P:=P) (w:=w) (mg:=mg) h.1;obtain⟨xs,h3,h4⟩:=rl (P:=P) (w:=w) (mg:=mg) h.2;exact⟨x::xs,.cons h1 h3,λG=>.cons (h2 G) (h4 G)⟩
 |_+1,[],_::_,h=>by cases h
 |_+1,_::_,[],h=>by cases h
end
noncomputable def gV(K:QN)(x:Str):Option Value:=match Vj K XY x with
 |some (some v)=>some v
 |_=>none
variable{h:Heap}
theorem vG(X:K.In h)(G:h.Ns XY mg){x:Str}{v:Value}(e:gV K x=some v):mg x=some v:=by
 unfold gV at e;split at e
 .rename_i q;cases e;exact PySem.W.mg_of X G q
 .cases e
def Np(K:QN)(p:Str×A):Bool:=match gV K p.1 with
 |some v=>zM K 20 v p.2
 |none=>false
noncomputable def qg(K:QN)(C:Addr):Bool:=Tf K C Str.empty&&TK K C&&UB K C&&RZ K (.ref C) "__setattr__" == some (some (.builtin "object.__setattr__"))
theorem n8{C:Addr}(h:qg K C=true):gN K C:=by unfold qg at h;simp only[QM,ZD] at h;obtain⟨⟨⟨h1,h2⟩,h3⟩,h4⟩:=h;exact⟨h1,h2,h3,h4⟩
def Nf(K:QN)(p:Str×List Str):Bool:=match gV K p.1 with
 |some (.ref C)=>qg K C&&p.2.all λf=>RZ K (.ref C) f==some none
 |_=>false
def Gk(tb:Tb)(K:QN):Bool:=tb.fns.isEmpty&&tb.cst.all (Np K)&&CW.all (λx=>Vj K XY x==some none)&&tb.fld.all (Nf K)&&tb.fM.isEmpty&&tb.mts.isEmpty
variable{tb:Tb}
theorem HE{P:Program}(X:K.In h)(G:h.Ns XY mg)(e:Gk tb K=true):Gd tb 1 P w K mg base:=by
 unfold Gk at e;simp only[QM,Se,Sd,ZD] at e;obtain⟨⟨⟨⟨⟨e1,e2⟩,N⟩,j⟩,u⟩,b⟩:=e;refine⟨λx f q=>(by rw[e1] at q;cases q),λx a q=>?_,λx q=>PySem.W.mg_none_of X G (N x q),λf c C q hm=>?_,λc f q=>(by rw[u] at q;cases q),λm c f q=>(by rw[b] at q;cases q)⟩
 .have:=e2 _ (eI q);unfold Np at this;split at this
  .rename_i v B;obtain⟨y,Q,Y⟩:=qx (P:=P) (w:=w) (mg:=mg) this;exact⟨y,v,vG X G B,Q,Y⟩
  .cases this
 .obtain⟨p,T,n⟩:=Rq.mp (SN.mp q);obtain⟨O,H⟩:=Ui.mp T;have t:=j p O;subst n;unfold Nf at t;split at t
  .rename_i s B;have:=vG X G B;rw[hm] at this;cases this;rw[QM,Sd] at t;have:=t.2 f (SN.mp H);exact⟨n8 t.1,by rw[ZD] at this;exact this⟩
  .cases t
def um(d:DI):Bool:=(eu d.st).posonlyargs.isEmpty&&(eu d.st).kwonlyargs.isEmpty&&(eu d.st).vararg.isNone&&(eu d.st).kwarg.isNone&&(eu d.st).args.map (·.arg)==d.N.take d.n
def Je(K:QN)(dV:Value)(a:A):Bool:=match dV with
 | .ref td=>match K.lookup td with
  | some ⟨_,_,.seq its _,_⟩=>(match its.toList with
   |[v]=>zM K 20 v a
   | _=>false)
  |_=>false
 |_=>false
def xy(K:QN)(dV:Value):List A->Bool
 |[]=>match dV with
  | .none=>true
  |_=>false
 |[a]=>Je K dV a
 |_=>false
variable{d:DI}
theorem Js{P:Program}{qual:Str}{f:Addr}(h:um d=true)(hs:hW d=true)(F:qi K d.name qual d.st f fd dV)(hd:xy K dV d.df=true):mr P w K mg fd (d.N.take d.n) d.df:=by
 unfold um at h;simp only[QM,Se,RM,ZD] at h;obtain⟨⟨⟨⟨h1,h2⟩,h3⟩,h4⟩,h5⟩:=h;obtain⟨S,hl⟩:=iu hs;have nd:=S.nd.sublist (UR d.n d.N);obtain⟨X,C⟩:fd.params=eu d.st/\fd.defaults=dV:=by obtain⟨oc,od,kV,doc,pm,an,cdv,ct,osl,e,_⟩:=F.ex;rw[e];exact⟨rfl,rfl⟩
 rw[<-X] at h1 h2 h3 h4 h5;clear F X S hl hs;cases e:d.df with
 |nil=>
  rw[e] at hd;have hd:dV=.none:=by cases dV<;>first|rfl|cases hd
  subst hd
  .intro j O;refine⟨[],[],Binds.all λus g=>sD h1 h2 h3 h4 C h5 nd g,.nil,λ_=>?_⟩;rw[WR];exact .nil
 |cons a as=>
  cases as with
  |cons _ _=>rw[e] at hd;cases hd
  |nil=>
   rw[e] at hd
   replace hd:Je K dV a=true:=hd
   unfold Je at hd;split at hd
   .rename_i o;split at hd
    .rename_i x y b i sl R;split at hd
     .rename_i v B;obtain⟨p,E,l⟩:=qx (P:=P) (w:=w) (mg:=mg) hd;have hi:b=#[v]:=by rw[<-Wb,B]
      subst hi;have bo:∀(s:Shared)(us:List Value),K.In s.heap->((us.length=(d.N.take d.n).length->YV s _ ⟨us,[]⟩ ((d.N.take d.n).zip us))/\(us.length+1=(d.N.take d.n).length->YV s _ ⟨us,[]⟩ ((d.N.take d.n).zip (us++[v])))):=λs us H=>by
       rcases List.eq_nil_or_concat (d.N.take d.n) with z|⟨qs,c,z⟩
       .rw[z] at h5 ⊢;refine⟨λhl=>?_,λhl=>by cases hl⟩;cases us with
        |cons _ _=>cases hl
        |nil=>obtain⟨k,r,J⟩:=qz (us:=[]) h1 h2 h3 h4 h5 (QY 0);exact .of_defaults C (H _ _ R) rfl r (J (some #[v]) [] rfl rfl)
       .rw[List.concat_eq_append] at z;rw[z] at h5 nd ⊢;have:=Aw (s:=s) (us:=us) h1 h2 h3 h4 C (H _ _ R) rfl h5 nd;exact⟨this.1,λq=>this.2 (by simpa using q)⟩
      intro j O;rcases Nat.le_one_iff_eq_zero_or_eq_one.mp O with rfl|rfl
      .exact⟨[v],[p],λs us H g=>(bo s us H).2 (by simpa using g),.cons E .nil,λG=>.cons (l G) .nil⟩
      .exact⟨[],[],λs us H g=>by rw[RO] at g ⊢;exact(bo s us H).1 g,.nil,λG=>.nil⟩
     .cases hd
    .cases hd
   .cases hd
def uT:Tb->List DI->List (Option Ms)
 |_,[]=>[]
 |tb,d::ds=>tW tb d::uT (tb.add d) ds
def wj:Tb->List DI->Tb
 |tb,[]=>tb
 |tb,d::ds=>wj (tb.add d) ds
def ji(K:QN)(mg:Str->Option Value)(d:DI)(f:Addr):Prop:=match d.cl with
 |none=>mg d.name=some (.ref f)
 |some c=>∃C,mg c=some (.ref C)/\gN K C/\Meth K C d.name f/\(d.name=("__init__" : Str)->Mk K C f)
section
variable{P:Program}{w:XX}{K:QN}{mg:Str->Option Value}{base:Heap}
theorem Gd.up{j k:Nat}(G:Gd tb j P w K mg base)(h:j<=k):Gd tb k P w K mg base:=⟨λx f e=>by
 obtain⟨a,fd,ps,F,r⟩:=G.fn x f e;exact⟨a,fd,ps,F.mono h,r⟩,G.cs,G.bl,G.fl,λc f e=>by
 obtain⟨C,a,fd,ps,i,hi,r⟩:=G.im c f e;exact⟨C,a,fd,ps,i,RE hi h,r⟩,λm c f e=>by
 obtain⟨C,a,fd,ps,F,r⟩:=G.mt m c f e;exact⟨C,a,fd,ps,F.mono h,r⟩⟩
theorem Gd.add{tb:Tb}{k:Nat}(G:Gd tb k P w K mg base){d:DI}{f:Addr}{fd:X1}{dV:Value}(m:ji K mg d f)(F:qi K d.name d.qual d.st f fd dV)(hd:xy K dV d.df=true)(hs:hW d=true)(hp:um d=true)
  (h:tW tb d=some d.m):Gd (tb.add d) (k+2) P w K mg base:=by
 have G2:=G.up (show k<=k+2 by lia);have a:=F7 G F hs h;have X:mr P w K mg fd (d.N.take d.n) d.df:=Js hp hs F hd;unfold Tb.add;unfold ji at m;split
 .rename_i hc;rw[hc] at m;refine⟨λx fi e=>?_,G2.cs,G2.bl,G2.fl,G2.im,G2.mt⟩
  .have e:((d.name,d.fi)::tb.fns).lookup x=some fi:=e;rw[Q6] at e;cases z:x==d.name with
   |true=>rw[z] at e;cases e;rw[ZD] at z;subst z;exact⟨f,fd,_,a.mono (Ux _),m,F.kp,X⟩
   |false=>rw[z] at e;exact G2.fn x fi e
 .rename_i c hc;rw[hc] at m;obtain⟨C,p,L,v,q⟩:=m;split
  .rename_i z;rw[ZD] at z;refine⟨G2.fn,G2.cs,G2.bl,G2.fl,λx fi e=>?_,G2.mt⟩;have e:((c,d.fi)::tb.fM).lookup x=some fi:=e;rw[Q6] at e;cases y:x==c with
   |true=>rw[y] at e;cases e;rw[ZD] at y;subst y;exact⟨C,f,fd,_,k+1,QY _,a,p,q z,X⟩
   |false=>rw[y] at e;exact G2.im x fi e
  .refine⟨G2.fn,G2.cs,G2.bl,G2.fl,G2.im,λx y fi e=>?_⟩;rcases QV.mp e with e|e
   .cases e;exact⟨C,f,fd,_,a.mono (Ux _),p,L,v,X⟩
   .exact G2.mt x y fi e
theorem Gd.all:∀{ds:List DI}{tb:Tb}{k:Nat},Gd tb k P w K mg base->(∀d∈ds,∃f fd dV,ji K mg d f/\qi K d.name d.qual d.st f fd dV/\xy K dV d.df=true)->ds.all (λd=>hW d&&um d)=true->uT tb ds=ds.map (λd=>some d.m)->Gd (wj tb ds) (k+2*ds.length) P w K mg base
 |[],tb,k,G,_,_,_=>G
 |d::ds,tb,k,G,hf,hs,ht=>by rw[Rh,QM,QM] at hs;obtain⟨o,D⟩:=List.cons.inj ht;obtain⟨f,fd,dV,m,F,hd⟩:=hf d Q5;have:=Gd.all (G.add m F hd hs.1.1 hs.1.2 o) (λe he=>hf e (QW _ he)) hs.2 D;rw[Q4,show k+2*(ds.length+1)=k+2+2*ds.length by lia];exact this
end
noncomputable abbrev zu:=Str×Str×Arguments×Zi×Scope×Addr×List (Str×Addr)×Addr×Bool
def MJ(K:QN)(d:DI):Option Addr:=match d.cl with
 |none=>match gV K d.name with
  |some (.ref f)=>some f
  |_=>none
 |some c=>match gV K c with
  |some (.ref C)=>match RZ K (.ref C) d.name with
   |some (some (.ref f))=>some f
   |_=>none
  |_=>none
def KD(K:QN)(d:DI)(f:Addr):Bool:=match d.cl with
 |none=>true
 |some c=>match gV K c with
  |some (.ref C)=>qg K C&&UA K (.ref f)&&(!(d.name==("__init__" : Str)) || (UX K C&&Sk K (.ref C)))
  |_=>false
def HR(K:QN)(d:DI):Option zu:=match MJ K d with
 |some f=>match K.lookup f with
  |some ⟨_,_,.func x,_⟩=>some (x.name,x.qualname,x.params,x.body,x.scope,x.globals,x.closure,x.builtins,Ul K x.code d.qual&&Sk K (.ref f)&&xy K x.defaults d.df&&KD K d f)
  |_=>none
 |none=>none
def Jk(d:DI):Option zu:=some (d.name,d.qual,eu d.st,.stmts (fG d.st),bx d.st,XY,[],YR,true)
theorem Dp(X:K.In h)(G:h.Ns XY mg)(e:HR K d=Jk d):∃f fd dV,ji K mg d f/\qi K d.name d.qual d.st f fd dV/\xy K dV d.df=true:=by
 unfold HR Jk at e;split at e
 .rename_i f b;split at e
  .rename_i a1 Y x Z R;obtain⟨b1,b2,I,L,P,D,J,H,v,p,s,q,w,o,i⟩:=x;simp only[Vr,Prod.mk.injEq] at e;obtain⟨rfl,rfl,rfl,rfl,rfl,rfl,rfl,rfl,E⟩:=e;simp only[QM] at E;obtain⟨⟨⟨g,V⟩,l⟩,j⟩:=E;refine⟨f,_,_,?_,⟨⟨_,_,_,_,_,_,_,_,_,rfl,R,g⟩,V⟩,l⟩;unfold ji;unfold MJ at b;unfold KD at j;split
   .rename_i hc;rw[hc] at b;simp only at b;split at b
    .rename_i k B;cases b;exact vG X G B
    .cases b
   .rename_i c hc;rw[hc] at b j;simp only at b j;split at b
    .rename_i C B;rw[B] at j;simp only[QM,Sv,Rt,beq_eq_false_iff_ne] at j;split at b
     .rename_i k a;cases b;refine⟨C,vG X G B,n8 j.1.1,⟨a,j.1.2,V⟩,λz=>?_⟩;rcases j.2 with y|y
      .exact absurd z y
      .rw[z] at a;exact⟨y.1,a,j.1.2,y.2⟩
     .cases b
    .cases b
  .cases e
 .cases e
def Kz(ds:List DI)(a:QN->Bool)(K:QN):List (Option zu)×Bool:=(ds.map (HR K),a K)
def KG(ds:List DI):List (Option zu)×Bool:=(ds.map Jk,true)
def hk(ds:List DI)(a:QN->Bool):WA where
 α:=List (Option zu)×Bool
 obs:=λs=>Kz ds a (W.iF s.heap)
 val:=λ_=>KG ds
 says:=λ_ h=>∃K:QN,Kz ds a K=KG ds/\K.In h
 of:=λ_ s e=>⟨W.iF s.heap,e,W.nj _⟩
 keeps:=λ_ _ _ ⟨K,e,i⟩ k=>⟨K,e,i.keeps k⟩
variable{ds:List DI}
theorem Dh{a:QN->Bool}(X:K.In h)(G:h.Ns XY mg)(e:Kz ds a K=KG ds):a K=true/\∀d∈ds,∃f fd dV,ji K mg d f/\qi K d.name d.qual d.st f fd dV/\xy K dV d.df=true:=by obtain⟨e1,e2⟩:=Prod.mk.inj e;exact⟨e2,λd hd=>Dp X G (List.map_eq_map_iff.mp e1 d hd)⟩
theorem yU{l:V5}{q:Program}{loose:List Str}{XP:(Str->Option Value)->Heap->Prop}{d:DefRec}{x:Str}{di:DI}(hn:l.most=some 63)(Q:d.params.defaults=[])(dn:d.name = "law")
  (hs:(ds++[di]).all (λd=>hW d&&um d)=true)(C:uT tb ds=ds.map (λd=>some d.m))(hl:tW (wj tb ds) di=some di.m)(o:di.name = "law")(y:di.cl=none)(i:di.df=[])(hx:di.N.take di.n=[x])(R:cW (2+2*ds.length) YZ)
  (hm:∀ns:List Int,ns.length<=63->∃Z,di.M [.fr (.lst (ns.map A.int))]=some (.rt (.fr (.bl true)),Z)):
  Wi q loose XP (hk (ds++[di]) (Gk tb)).says l.row.toRowW d [] (λf vs=>VX f vs):=by
 refine W.wQ (CX:=Ce) (l:=l) (n:=63) (k:=2+2*ds.length) (x:=x) (sp:=yK) hn Z2 Q R (λw mg F h Y G c=>?_) (λ_ _ _ _ _ z=>z) (λ_ _ a ns hl _ U=>⟨a,ns,rfl,U,hl,λ_=>rfl⟩);obtain⟨K,e,D⟩:=Y;obtain⟨e1,e2⟩:=Dh D G e;refine⟨K,D,?_⟩;rw[List.all_append,QM] at hs;obtain⟨f,fd,dV,p,v,b⟩:=e2 di (QO _ Q5);rw[i] at b;have b:dV=.none:=by cases dV<;>first|rfl|cases b
 subst b;unfold ji at p;rw[dn] at c;rw[y] at p;simp only at p;rw[o,c] at p;cases p;have X:=Sd.mp hs.2 di Q5;rw[QM] at X;have H:di.n=1:=by have:=(iu X.1).2;rw[hx] at this;exact this.symm
 refine⟨fd,λs u=>?_,λbase _ _=>?_⟩
 .obtain⟨oc,od,kV,doc,pm,an,cdv,ct,osl,rfl,B,T⟩:=v.ex;obtain⟨S,j⟩:=iu X.1;have hp:=X.2;unfold um at hp;simp only[QM,Se,RM,ZD] at hp;obtain⟨⟨⟨⟨h1,h2⟩,h3⟩,h4⟩,h5⟩:=hp;have:=sD (fd:=UC di.name di.qual (eu di.st) (fG di.st) (bx di.st) .none kV doc pm an cdv ct) (us:=[u]) h1 h2 h3 h4 rfl h5 (S.nd.sublist (UR _ _)) (by rw[hx];rfl);rw[hx] at this;exact .of_eq this
 .have E:=Gd.all (HE (P:=l.prog) (w:=w) (base:=base) D G e1) (λd hd=>e2 d (QR _ hd)) hs.1 C;have r:=F7 E v X.1 hl;rw[hx,H,show 1+2*ds.length+1=2+2*ds.length by lia] at r;exact IS r hm
end M
set_option maxHeartbeats 4000000
namespace W
open PySem L2 M
noncomputable def top(i:Nat):Stmt:=PySem.Challenge.pw_fitwhatever_k33_whole_programs.main.body.getD i (.Pass ⟨0,0,0,0⟩)
def topC(i j:Nat):Stmt:=match top i with
 | .ClassDef _ _ _ b _ _ _ _ _ _ _=>b.getD j (.Pass ⟨0,0,0,0⟩)
 |s=>s
abbrev mix(m n:Mi Rr):Mi Rr:=aC Cg m n
abbrev aA(i:Int):Mi Rr:=mC (.int i)
abbrev a8(f:Ms)(m:Mi (List Rr)):Mi Rr:=aY f [] m
abbrev vW(t:Mi Bool):Ms:=gJ t (bB (mC (.bl false))) bN
abbrev cR(a:Mi Rr):Mi (List Rr):=da a kY
abbrev cu(a b:Mi Rr):Mi (List Rr):=da a (cR b)
abbrev eO(a b c:Mi Rr):Mi (List Rr):=da a (cu b c)
abbrev Ck(a b c d:Mi Rr):Mi (List Rr):=da a (eO b c d)
def kK:Ms:=av (aG 2 (aA 0)) (av (gJ (aj (aC ka (ab 1) (cx cC (ab 0)))) (aG 2 (mix (ab 0) (ab 1))) bN) (bB (du (eO (cx uy (aC Fh (cx BO (ab 2)) (aC pY (aA 10) (aA 18)))) (ab 2) (aC a9 (aA 17) (ab 1))))))
def gT:Ms:=cb 1 kK
def kJ:Ms:=av (gJ (aj (aC iZ (mix (ab 0) (aA 0)) (aA 1))) (av (aG 2 (aC kZ (mix (ab 0) (aA 1)) (ab 1))) (av (gr 0 (aA 1) (aC iK (mix (ab 0) (aA 1)) (ab 1))) (bB (ab 2)))) bN) (av (aG 3 (aC a6 (mix (ab 0) (aA 2)) (aA 1))) (av (gr 0 (aA 2) (ab 3)) (av (aG 4 (aC kZ (aC a9 (aC a6 (aC a6 (mix (ab 0) (aA 1)) (aC a9 (aC a9 (aA 7919) (ab 3)) (ab 3))) (ab 3)) (aA 48271)) (aA 2305843009213693951))) (bB (aC kZ (aC iK (aC kZ (aC a6 (aC a9 (ab 4) (aA 1442695040888963407)) (aA 4321)) (aA 2305843009213693921)) (aA 64)) (ab 1))))))
def bu:Ms:=cb 3 kJ
def jK:Ms:=av (aG 1 (a8 bu (cu (ab 0) (aA 8)))) (av (gJ (aj (aC ka (ab 1) (aA 3))) (bB (aA 0)) bN) (av (gJ (aj (aC ka (ab 1) (aA 7))) (bB (aC jc (a8 bu (cu (ab 0) (aA 9))) (aA 4))) bN) (bB (aC jc (a8 bu (cu (ab 0) (lz (aC a6 (aC a9 (aA 2) (aC pY (aA 10) (aA 9))) (aA 1))))) (aC pY (aA 10) (aA 9))))))
def a7:Ms:=cb 1 jK
def j5:Ms:=bB (aC ka (aC a9 (mix (ab 0) (aA 0)) (mix (ab 1) (aA 1))) (aC a9 (mix (ab 1) (aA 0)) (mix (ab 0) (aA 1))))
def dJ:Ms:=cb 0 j5
def iW:Ms:=av (gn vg (aj (aC iN (ab 1) (aA 0))) (Ay 0 1 (cu (ab 1) (aC kZ (ab 0) (ab 1))))) (bB (cx BO (ab 0)))
def fI:Ms:=cb 0 iW
def mq:Ms:=av (gJ (aj (aC ka (ab 1) (aA 0))) (av (aG 0 (aC jc (aA 0) (ab 0))) (aG 1 (aC jc (aA 0) (ab 1)))) bN) (av (aG 2 (a8 fI (cu (ah 0) (ah 1)))) (bB (fv (cu (aC iK (ab 0) (ab 2)) (aC iK (ab 1) (ab 2))))))
def gE:Ms:=cb 1 mq
def mM:Ms:=bB (a8 gE (cu (lz (aC a6 (aC a9 (mix (ab 0) (aA 0)) (mix (ab 1) (aA 1))) (aC a9 (mix (ab 1) (aA 0)) (mix (ab 0) (aA 1))))) (aC a9 (mix (ab 0) (aA 1)) (mix (ab 1) (aA 1)))))
def mZ:Ms:=cb 0 mM
def ny:Ms:=bB (a8 gE (cu (aC a9 (mix (ab 0) (aA 0)) (mix (ab 1) (aA 0))) (aC a9 (mix (ab 0) (aA 1)) (mix (ab 1) (aA 1)))))
def mD:Ms:=cb 0 ny
def lS:Ms:=av (aG 2 (fv (cu (aA 0) (aA 1)))) (av (fT (jT (ab 0) (ab 1)) (f6 2 (bT (aM 3) (bT (aM 4) fH))) (aG 2 (a8 mZ (cu (ah 2) (a8 mD (cu (fv (cu (ab 3) (aA 1))) (ah 4))))))) (bB (ab 2)))
def dg:Ms:=cb 3 lS
def jr:Ms:=av (fT (jT (ab 0) (ab 1)) (f6 2 (bT (aM 3) (bT (aM 4) fH))) (vW (aj (a8 dJ (cu (fv (cu (ab 4) (aA 1))) (a8 dg (cu (ah 3) (ah 2)))))))) (bB (mC (.bl true)))
def eV:Ms:=cb 2 jr
def iX:Ms:=av (fT (cU (cx cC (ab 0))) (aM 3) (av (aG 4 (a8 dg (cu (lz (aP 1 (cH (ab 1)) (aM 5) aO (mix (ab 5) (ab 3)))) (ah 2)))) (vW (aj (a8 dJ (cu (ah 4) (fv (cu (mix (ab 0) (ab 3)) (aA 1))))))))) (bB (mC (.bl true)))
def fO:Ms:=cb 2 iX
def jw:Ms:=bB (il (cx (pA Ty.int) (ab 0)) (AH (cx (pA Ty.bool) (ab 0))))
def gG:Ms:=cb 0 jw
def fW:Ms:=av (vW (mJ (fz (aj (cx (pA Ty.tuple) (ab 0)))) (mJ (aj (aC iN (cx cC (ab 0)) (aA 2))) (mJ (fz (aj (a8 gG (cR (mix (ab 0) (aA 0)))))) (fz (aj (a8 gG (cR (mix (ab 0) (aA 1)))))))))) (bB (il (aC ow (mix (ab 0) (aA 1)) (aA 0)) (aC iZ (a8 gE (cu (mix (ab 0) (aA 0)) (mix (ab 0) (aA 1)))) (ab 0))))
def cT:Ms:=cb 0 fW
def fh:Ms:=av (vW (mJ (fz (aj (cx (pA Ty.tuple) (ab 0)))) (aj (aC iN (cx cC (ab 0)) (ab 1))))) (bB (aC iZ (aP 1 (cH (ab 0)) (aM 3) (mJ (fz (aj (a8 cT (cR (ah 3))))) (m5 (fz (aj (ab 2))) (aj (aC ka (mix (ab 3) (aA 0)) (aA 0))))) (ab 3)) (du kY)))
def bq:Ms:=cb 0 fh
def j0:Ms:=av (vW (mJ (fz (aj (cx (pA Ty.tuple) (ab 3)))) (mJ (aj (aC iZ (ab 3) (fv kY))) (aj (aC (rV true) (mix (ab 3) (aA 0)) (du (eO (mC (.str "best")) (mC (.str "open")) (mC (.str "none"))))))))) (av (gJ (aj (aC iZ (mix (ab 3) (aA 0)) (mC (.str "none")))) (av (vW (mJ (aj (aC iN (cx cC (ab 3)) (aA 2))) (fz (aj (a8 bq (eO (mix (ab 3) (aA 1)) (cx cC (ab 1)) (mC (.bl false)))))))) (bB (il (a8 fO (eO (aC t6 (du (cR (aA 0))) (cx cC (ab 0))) (ah 1) (mix (ab 3) (aA 1)))) (a8 dJ (cu (a8 dg (cu (ah 2) (mix (ab 3) (aA 1)))) (fv (cu (aA 0) (aA 1)))))))) bN) (av (vW (aj (aC iN (cx cC (ab 3)) (mix (du (cu (aA 4) (aA 3))) (cx uy (aC iZ (mix (ab 3) (aA 0)) (mC (.str "open")))))))) (av (gJ (aj (aC iZ (mix (ab 3) (aA 0)) (mC (.str "open")))) (av (vW (mJ (fz (aj (a8 bq (eO (mix (ab 3) (aA 1)) (cx cC (ab 0)) (mC (.bl false)))))) (fz (aj (a8 bq (eO (mix (ab 3) (aA 2)) (cx cC (ab 0)) (mC (.bl false)))))))) (av (aG 4 (il (a8 eV (eO (ah 1) (aC t6 (du (cR (aA 0))) (cx cC (ab 1))) (mix (ab 3) (aA 2)))) (a8 dJ (cu (fv (cu (aA 0) (aA 1))) (a8 dg (cu (ah 0) (mix (ab 3) (aA 2)))))))) (bB (il (ab 4) (a8 eV (eO (ah 1) (ah 2) (mix (ab 3) (aA 1)))))))) bN) (av (vW (mJ (fz (aj (a8 bq (eO (mix (ab 3) (aA 2)) (cx cC (ab 0)) (mC (.bl false)))))) (fz (aj (a8 bq (eO (mix (ab 3) (aA 3)) (cx cC (ab 1)) (mC (.bl false)))))))) (av (vW (mJ (fz (aj (a8 cT (cR (mix (ab 3) (aA 1)))))) (mJ (aj (aC iN (a8 dg (cu (ah 0) (mix (ab 3) (aA 2)))) (mix (ab 3) (aA 1)))) (aj (aC iN (a8 dg (cu (ah 2) (mix (ab 3) (aA 3)))) (mix (ab 3) (aA 1))))))) (bB (il (a8 eV (eO (ah 1) (ah 2) (mix (ab 3) (aA 2)))) (a8 fO (eO (ah 0) (ah 1) (mix (ab 3) (aA 3)))))))))))
def gq:Ms:=cb 1 j0
def jy:Ms:=av (dG ["Board"] 0 "long" (cx cC (ab 1))) (av (dG ["Board"] 0 "many" (cx cC (ab 2))) (av (dG ["Board"] 0 "scale" (aA 1)) (av (iY ["Board"] 0 "across" (lY (aQ (aN ["Board"] 0 "long") (aL (aq ["Board"] "long") (ab 0))))) (av (iY ["Board"] 0 "down" (mO (aQ (aN ["Board"] 0 "long") (aL (aq ["Board"] "long") (ab 0))) (aC a6 (aQ (aN ["Board"] 0 "long") (aL (aq ["Board"] "long") (ab 0))) (aQ (aN ["Board"] 0 "many") (aL (aq ["Board"] "many") (ab 0)))))) (av (iY ["Board"] 0 "grid" (aP 2 (jT (ab 2) (ab 3)) (f6 2 (bT (aM 4) (bT (aM 5) fH))) aO (aC a6 (cx dD (ab 4)) (du (cR (ab 5)))))) (dA (nB ["Board"] 0 "grid" (aC a6 (aP 1 (cH (ab 1)) (aM 4) aO (aL aU (ab 4))) (du (cR (aA 0)))))))))))
def dH:Ms:=cb 0 jy
def hV:Ms:=bB (aC a6 (aC a9 (aL (aq ["Board"] "scale") (ab 0)) (aL (aq ["Board"] "scale") (ab 0))) (cx yT (aP 1 (cH (cF (aL (aq ["Board"] "grid") (ab 0)) aH (bF (aL aU (aA 1))))) (aM 2) aO (aC a9 (mix (ab 2) (ab 1)) (mix (ab 2) (ab 1))))))
def dI:Ms:=cb 0 hV
def fQ:Ms:=av (aG 2 (mC .non)) (av (aG 3 (fv (cu (aA 0) (aA 1)))) (av (fT (vL (ab 1)) (f6 2 (bT (aM 4) (bT (aM 5) fH))) (gJ (aj (aC ow (ab 5) (aA 0))) (av (aG 6 (fv (cu (aC a9 (ab 5) (ab 5)) (a8 dI (cu (bK "Board" "stride" (ah 0)) (ah 4)))))) (gJ (aj (aC ow (aC a9 (mix (ab 6) (aA 0)) (mix (ab 3) (aA 1))) (aC a9 (mix (ab 3) (aA 0)) (mix (ab 6) (aA 1))))) (av (aG 2 (ab 4)) (aG 3 (ab 6))) bN)) bN)) (bB (ab 2))))
def bP:Ms:=cb 5 fQ
def gU:Ms:=av (gJ (aj (aC (rV false) (ab 2) (aL (aq ["Board"] "across") (ab 0)))) (bB (mix (mix (aL (aq ["Board"] "grid") (ab 0)) (ab 1)) (vc (aL (aq ["Board"] "across") (ab 0)) (ab 2)))) bN) (bB (Nv (aj (aC iZ (mix (aL (aq ["Board"] "down") (ab 0)) (ab 1)) (ab 2))) (aL (aq ["Board"] "scale") (ab 0)) (aA 0)))
def cg:Ms:=cb 0 gU
def gW:Ms:=av (aG 4 (aC a9 (mix (mix (aL (aq ["Board"] "grid") (ab 0)) (ab 1)) (aL aU (aA 1))) (mix (mix (aL (aq ["Board"] "grid") (ab 0)) (ab 2)) (ab 3)))) (av (aG 5 (aC a9 (mix (mix (aL (aq ["Board"] "grid") (ab 0)) (ab 2)) (aL aU (aA 1))) (mix (mix (aL (aq ["Board"] "grid") (ab 0)) (ab 1)) (ab 3)))) (av (gJ (aj (aC iN (ab 4) (ab 5))) (bB (aC ka (ab 4) (ab 5))) bN) (av (fT (rO (aL (aq ["Board"] "long") (ab 0)) (aC a6 (aL (aq ["Board"] "long") (ab 0)) (aL (aq ["Board"] "many") (ab 0)))) (aM 6) (av (aG 4 (aC a9 (a8 cg (eO (bK "Board" "top_of" (ah 0)) (ah 1) (ah 6))) (mix (mix (aL (aq ["Board"] "grid") (ab 0)) (ab 2)) (ab 3)))) (av (aG 5 (aC a9 (a8 cg (eO (bK "Board" "top_of" (ah 0)) (ah 2) (ah 6))) (mix (mix (aL (aq ["Board"] "grid") (ab 0)) (ab 1)) (ab 3)))) (gJ (aj (aC iN (ab 4) (ab 5))) (bB (aC ka (ab 4) (ab 5))) bN)))) (bB (mC (.bl false))))))
def dE:Ms:=cb 3 gW
def iO:Ms:=av (aG 2 (mC .non)) (av (fT (cU (aL (aq ["Board"] "many") (ab 0))) (aM 3) (gJ (m5 (aj (aC ow (mix (mix (aL (aq ["Board"] "grid") (ab 0)) (ab 3)) (ab 1)) (aA 0))) (mJ (aj (aC (qv false) (ab 2) (mC .non))) (aj (a8 dE (Ck (ah 0) (ah 3) (ah 2) (ah 1)))))) (aG 2 (ab 3)) bN)) (bB (ab 2)))
def aZ:Ms:=cb 2 iO
def jF:Ms:=av (aG 4 (mix (ab 1) (ab 2))) (av (aG 5 (mix (ab 0) (ab 2))) (av (gJ (aj (aC iZ (ab 5) (aA 0))) (bB (aP 1 (cH (ab 0)) (aM 7) aO (aC iK (aC a9 (ab 4) (ab 7)) (ab 3)))) bN) (av (aG 6 (aP 2 (jT (ab 0) (ab 1)) (f6 2 (bT (aM 7) (bT (aM 8) fH))) aO (aC iK (aC jc (aC a9 (ab 4) (ab 7)) (aC a9 (ab 5) (ab 8))) (ab 3)))) (av (gr 6 (ab 2) (aL aU (ab 5))) (bB (ab 6))))))
def eW:Ms:=cb 3 jF
def gS:Ms:=bB (aP 1 (cH (ab 0)) (aM 1) aO (aL aU (ab 1)))
def aS:Ms:=cb 0 gS
def j4:Ms:=av (aG 3 (mix (aQ (aN ["Board"] 0 "grid") (aL (aq ["Board"] "grid") (ab 0))) (ab 1))) (av (aG 4 (aP 1 (cH (aQ (aN ["Board"] 0 "grid") (aL (aq ["Board"] "grid") (ab 0)))) (aM 6) aO (a8 eW (Ck (ah 6) (ah 3) (ah 2) (aQ (aN ["Board"] 0 "scale") (aL (aq ["Board"] "scale") (ab 0))))))) (av (wm ["Board"] 4 1 2 0 "scale" (cx dD (ab 3))) (av (dG ["Board"] 0 "scale" (mix (ab 3) (ab 2))) (av (dG ["Board"] 0 "grid" (ab 4)) (av (gJ (aj (aC ka (aQ (aN ["Board"] 0 "scale") (aL (aq ["Board"] "scale") (ab 0))) (aA 0))) (av (dG ["Board"] 0 "scale" (aL aU (aQ (aN ["Board"] 0 "scale") (aL (aq ["Board"] "scale") (ab 0))))) (dG ["Board"] 0 "grid" (aP 1 (cH (ab 4)) (aM 6) aO (a8 aS (cR (ah 6)))))) bN) (av (aG 5 (qm ["Board"] 0 "across" (yi 2))) (av (fD ["Board"] 0 "across" 2 (qm ["Board"] 0 "down" (yi 1))) (fD ["Board"] 0 "down" 1 (ab 5)))))))))
def aF:Ms:=cb 3 j4
def f9:Ms:=av (gn vg (aj (aC iN (ab 1) (aA 0))) (av (aG 2 (aC kZ (ab 0) (ab 1))) (av (aG 0 (ab 1)) (aG 1 (ab 2))))) (bB (ab 0))
def fV:Ms:=cb 1 f9
def gO:Ms:=av (aG 2 (a8 fV (cu (ah 0) (ah 1)))) (bB (fv (cu (aC iK (ab 0) (ab 2)) (aC iK (ab 1) (ab 2)))))
def cA:Ms:=cb 1 gO
def eR:Ms:=av (aG 2 (aP 1 (cU (aL (aq ["Board"] "long") (ab 0))) (aM 5) aO (mC (.tup [.int 0,.int 1])))) (av (fT (jT (aL (aq ["Board"] "down") (ab 0)) (ab 1)) (f6 2 (bT (aM 3) (bT (aM 4) fH))) (gJ (aj (aC ka (ab 3) (aL (aq ["Board"] "long") (ab 0)))) (gr 2 (ab 3) (a8 cA (cu (ah 4) (aL (aq ["Board"] "scale") (ab 0))))) bN)) (bB (cx lP (ab 2))))
def cz:Ms:=cb 3 eR
def iU:Ms:=bB (a8 cz (cu (bK "Board" "spread_down" (ab 0)) (lz (aP 1 (cH (aL (aq ["Board"] "grid") (ab 0))) (aM 1) aO (mix (ab 1) (aL aU (aA 1)))))))
def bC:Ms:=cb 0 iU
def hZ:Ms:=av (aG 2 (aP 1 (cU (aL (aq ["Board"] "many") (ab 0))) (aM 5) aO (mC (.tup [.int 0,.int 1])))) (av (fT (jT (aL (aq ["Board"] "across") (ab 0)) (ab 1)) (f6 2 (bT (aM 3) (bT (aM 4) fH))) (gJ (aj (aC Fh (ab 3) (aL (aq ["Board"] "long") (ab 0)))) (gr 2 (aC jc (ab 3) (aL (aq ["Board"] "long") (ab 0))) (a8 cA (cu (ah 4) (aL (aq ["Board"] "scale") (ab 0))))) bN)) (bB (cx lP (ab 2))))
def aW:Ms:=cb 3 hZ
def kT:Ms:=av (aG 2 (cx dD (a8 cz (cu (bK "Board" "spread_down" (ab 0)) (lz (aP 1 (cH (aL (aq ["Board"] "grid") (ab 0))) (aM 3) aO (aL aU (mix (ab 3) (ab 1))))))))) (av (gJ (aj (aC ka (mix (aL (aq ["Board"] "across") (ab 0)) (ab 1)) (aL (aq ["Board"] "long") (ab 0)))) (gr 2 (mix (aL (aq ["Board"] "across") (ab 0)) (ab 1)) (mC (.tup [.int 1,.int 1]))) bN) (bB (cx lP (ab 2))))
def cN:Ms:=cb 1 kT
def oS:Ms:=gn vg (aj (mC (.bl true))) (av (aG 1 (aY (bE 0 bP) [] (cu (ab 0) (a8 aS (cR (lz (cF (mix (aQ (aN ["Board"] 0 "grid") (aL (aq ["Board"] "grid") (ab 0))) (aL aU (aA 1))) aH (bF (aL aU (aA 1)))))))))) (av (gJ (aj (aC (qv false) (ab 1) (mC .non))) (av (aG 2 (a8 cA (cu (mix (mix (aQ (aN ["Board"] 0 "grid") (aL (aq ["Board"] "grid") (ab 0))) (aL aU (aA 1))) (aL aU (aA 1))) (aQ (aN ["Board"] 0 "scale") (aL (aq ["Board"] "scale") (ab 0)))))) (bB (fv (Ck (mC (.str "best")) (ab 2) (aQ (a8 bC (cR (aR "Board" "point" 0))) (aQ (aY (bE 0 bC) [] (cR (aR "Board" "point" 0))) (a8 bC (cR (bK "Board" "point" (ab 0)))))) (aQ (a8 aW (cu (aR "Board" "prices" 0) (mix (aQ (aN ["Board"] 0 "grid") (aL (aq ["Board"] "grid") (ab 0))) (aL aU (aA 1))))) (aQ (aY (bE 0 aW) [] (cu (aR "Board" "prices" 0) (mix (aQ (aN ["Board"] 0 "grid") (aL (aq ["Board"] "grid") (ab 0))) (aL aU (aA 1))))) (a8 aW (cu (bK "Board" "prices" (ab 0)) (mix (aQ (aN ["Board"] 0 "grid") (aL (aq ["Board"] "grid") (ab 0))) (aL aU (aA 1))))))))))) bN) (av (aG 3 (aY (bE 0 aZ) [] (cu (ab 0) (ah 1)))) (av (gJ (aj (aC (qv false) (ab 3) (mC .non))) (bB (fv (eO (mC (.str "open")) (aQ (a8 bC (cR (aR "Board" "point" 0))) (aQ (aY (bE 0 bC) [] (cR (aR "Board" "point" 0))) (a8 bC (cR (bK "Board" "point" (ab 0)))))) (aQ (a8 cN (cu (aR "Board" "way" 0) (ah 1))) (aQ (aY (bE 0 cN) [] (cu (aR "Board" "way" 0) (ah 1))) (a8 cN (cu (bK "Board" "way" (ab 0)) (ah 1)))))))) bN) (dA (aQ (a8 aF (eO (aR "Board" "turn" 0) (ah 3) (ah 1))) (aQ (aY (bE 0 aF) [] (eO (aR "Board" "turn" 0) (ah 3) (ah 1))) (a8 aF (eO (bK "Board" "turn" (ab 0)) (ah 3) (ah 1))))))))))
def fY:Ms:=cb 3 oS
def fe:Ms:=av (dA (rW ["Board"] 0 "across" (ze (S9 0)))) (av (aG 1 (mix (aQ (aN ["Board"] 0 "grid") (aL (aq ["Board"] "grid") (ab 0))) (aL aU (aA 1)))) (av (iY ["Board"] 0 "grid" (aP 1 (cH (cF (aQ (aN ["Board"] 0 "grid") (aL (aq ["Board"] "grid") (ab 0))) aH (bF (aL aU (aA 1))))) (aM 2) aO (aC a6 (aC a6 (cF (ab 2) aH (bF (aL aU (aA 1)))) (du (cR (aL aU (aA 1))))) (cF (ab 2) (bF (aL aU (aA 1))) aH)))) (dA (nB ["Board"] 0 "grid" (aC a6 (aC a6 (cF (ab 1) aH (bF (aL aU (aA 1)))) (du (cR (aA 0)))) (cF (ab 1) (bF (aL aU (aA 1))) aH))))))
def bp:Ms:=cb 1 fe
def eQ:Ms:=av (aG 1 (gC ["Board"] 0 "across" (ze (S9 0)))) (av (dA (si ["Board"] 0 "across" (yi 1))) (dG ["Board"] 0 "grid" (aP 1 (cH (aQ (aN ["Board"] 0 "grid") (aL (aq ["Board"] "grid") (ab 0)))) (aM 2) aO (aC a6 (cF (ab 2) aH (bF (ab 1))) (cF (ab 2) (bF (aC a6 (ab 1) (aA 1))) aH)))))
def bf:Ms:=cb 1 eQ
def jN:Ms:=av (aG 1 (cx rZ (ab 0))) (bB (cx sd (aP 2 (vL (ab 0)) (f6 2 (bT (aM 2) (bT (aM 3) fH))) (aj (aC iZ (ab 3) (ab 1))) (ab 2))))
def dy:Ms:=cb 1 jN
def jH:Ms:=av (dA (aQ (a8 bp (cR (aR "Board" "put_helper" 0))) (aQ (aY (bE 0 bp) [] (cR (aR "Board" "put_helper" 0))) (a8 bp (cR (bK "Board" "put_helper" (ab 0))))))) (av (dA (aQ (a8 aF (eO (aR "Board" "turn" 0) (a8 dy (cR (lz (aP 1 (cH (cF (aQ (aN ["Board"] 0 "grid") (aL (aq ["Board"] "grid") (ab 0))) aH (bF (aL aU (aA 1))))) (aM 3) aO (mix (ab 3) (aL aU (aA 1))))))) (aC jc (jS ["Board"] 0 "across") (aA 1)))) (aQ (aY (bE 0 aF) [] (eO (aR "Board" "turn" 0) (a8 dy (cR (lz (aP 1 (cH (cF (aQ (aN ["Board"] 0 "grid") (aL (aq ["Board"] "grid") (ab 0))) aH (bF (aL aU (aA 1))))) (aM 3) aO (mix (ab 3) (aL aU (aA 1))))))) (aC jc (jS ["Board"] 0 "across") (aA 1)))) (a8 aF (eO (bK "Board" "turn" (ab 0)) (a8 dy (cR (lz (aP 1 (cH (cF (aQ (aN ["Board"] 0 "grid") (aL (aq ["Board"] "grid") (ab 0))) aH (bF (aL aU (aA 1))))) (aM 3) aO (mix (ab 3) (aL aU (aA 1))))))) (aC jc (jS ["Board"] 0 "across") (aA 1))))))) (av (gn vg (aj (wZ false ["Board"] 0 "down" (ze (S9 0)))) (av (aG 1 (mix (aQ (aN ["Board"] 0 "grid") (aL (aq ["Board"] "grid") (ab 0))) (gC ["Board"] 0 "down" (ze (S9 0))))) (av (aG 2 (aY (bE 0 bP) [] (cu (ab 0) (lz (cF (ab 1) aH (bF (aL aU (aA 1)))))))) (av (gJ (aj (aC (qv false) (ab 2) (mC .non))) (bB (aQ (a8 aW (cu (aR "Board" "prices" 0) (a8 aS (cR (ah 1))))) (aQ (aY (bE 0 aW) [] (cu (aR "Board" "prices" 0) (a8 aS (cR (ah 1))))) (a8 aW (cu (bK "Board" "prices" (ab 0)) (a8 aS (cR (ah 1)))))))) bN) (dA (aQ (a8 aF (eO (aR "Board" "turn" 0) (aY (bE 0 aZ) [] (cu (ab 0) (ah 2))) (ah 2))) (aQ (aY (bE 0 aF) [] (eO (aR "Board" "turn" 0) (aY (bE 0 aZ) [] (cu (ab 0) (ah 2))) (ah 2))) (a8 aF (eO (bK "Board" "turn" (ab 0)) (aY (bE 0 aZ) [] (cu (ab 0) (ah 2))) (ah 2)))))))))) (av (dA (aQ (a8 bf (cR (aR "Board" "drop_helper" 0))) (aQ (aY (bE 0 bf) [] (cR (aR "Board" "drop_helper" 0))) (a8 bf (cR (bK "Board" "drop_helper" (ab 0))))))) (bB (mC .non)))))
def dO:Ms:=cb 2 jH
def rK:Ms:=av (aG 3 (pd "Board" dH [] (eO (ah 0) (ah 1) (ah 2)))) (av (gJ (aj (cx (kS λbs=>VS bs id) (aP 1 (cH (ab 2)) (aM 5) aO (aC ka (ab 5) (aA 0))))) (av (aG 4 (a8 dO (cR (ab 3)))) (gJ (aj (aC (qv true) (ab 4) (mC .non))) (bB (fv (cu (mC (.str "none")) (ab 4)))) bN)) bN) (bB (a8 fY (cR (ab 3)))))
def qY:Ms:=cb 2 rK
def o9:Ms:=av (gJ (mJ (aj (aC ow (cx cC (ab 0)) (aA 48))) (aj (aC ow (cx cC (ab 1)) (aA 48)))) rM bN) (av (gJ (aj (aC iN (cx cC (ab 2)) (cx cC (ab 1)))) rM bN) (av (gJ (aj (cx (kS λbs=>VS bs id) (aP 1 (cH (ab 1)) (aM 3) aO (aC iN (cx cC (ab 3)) (cx cC (ab 0)))))) rM bN) (bB (a8 qY (eO (ah 0) (ah 1) (ah 2))))))
def iw:Ms:=cb 0 o9
def Ge:Ms:=av (fT (oF (aA 0) (aC a6 (Dz tj (cx cC (ab 0)) (aA 60)) (aA 1)) (aA 12)) (aM 1) (av (aG 2 (a8 gT (cu (ah 0) (ah 1)))) (av (aG 3 (mix (du (cu (aA 6) (aA 10))) (cx uy (aC iZ (a8 bu (cu (ab 2) (aA 16))) (aA 7))))) (av (aG 4 (a8 bu (cu (ab 2) (ah 3)))) (av (aG 5 (a8 bu (cu (ab 2) (ah 3)))) (av (aG 6 (aP 1 (cU (ab 4)) (aM 11) aO (a8 a7 (cR (ab 2))))) (av (aG 7 (aP 1 (cU (ab 5)) (aM 11) aO (aP 1 (cU (ab 4)) (aM 12) aO (a8 a7 (cR (ab 2)))))) (av (aG 8 (aP 1 (cU (ab 5)) (aM 11) aO (a8 a7 (cR (ab 2))))) (av (aG 9 (du (eO (cx dD (ab 6)) (aP 1 (cH (ab 7)) (aM 11) aO (cx dD (ab 11))) (cx dD (ab 8))))) (av (fT (cU (aA 2)) (aM 10) (vW (fz (aj (a8 gq (Ck (ah 6) (ah 7) (ah 8) (a8 iw (eO (mix (ab 9) (aA 0)) (mix (ab 9) (aA 1)) (mix (ab 9) (aA 2)))))))))) (vW (aj (aC iN (ab 9) (du (eO (ab 6) (ab 7) (ab 8)))))))))))))))) (bB (mC (.bl true)))
def E5:Ms:=cb 10 Ge
def IQ:Tb:={ fns:=[],cst:=[("ZERO",(.tup [(.int 0),(.int 1)])),("ONE",(.tup [(.int 1),(.int 1)])),("MOST_LONG",(.int 48)),("HELPER",(.int (-1)))],exs:=["NoProgram"],kit:=[],exm:=[],fld:=[("Board",["long", "many", "scale", "across", "down", "grid"])],fM:=[],mts:=[] }
def Dw:List DI:=[
 ⟨none, "_law_well",top 23,["_law_script", "_law_k", "_law_cell"],2,[],[false,false],[],[],kK,[],false,false,none⟩,
 ⟨none, "_law_take",top 24,["_law_well_here", "_law_many", "_law_digit", "_law_turn", "_law_number"],2,[],[true,false],[],[],kJ,[],false,false,none⟩,
 ⟨none, "_law_entry",top 33,["_law_well_here", "_law_way"],1,[],[true],[],[],jK,[],false,false,none⟩,
 ⟨none, "_law_below",top 29,["_law_one", "_law_other"],2,[],[false,false],[],[],j5,[],false,false,none⟩,
 ⟨none, "_law_common",top 25,["_law_one", "_law_other"],2,[],[false,false],[],[],iW,[],false,false,none⟩,
 ⟨none, "_law_num",top 26,["_law_top", "_law_bottom", "_law_by"],2,[],[false,false],[],[],mq,[],false,false,none⟩,
 ⟨none, "_law_add",top 27,["_law_one", "_law_other"],2,[],[false,false],[],[],mM,[],false,false,none⟩,
 ⟨none, "_law_mul",top 28,["_law_one", "_law_other"],2,[],[false,false],[],[],ny,[],false,false,none⟩,
 ⟨none, "_law_dot",top 34,["_law_row", "_law_point", "_law_total", "_law_number", "_law_one"],2,[],[false,false],[],[],lS,[],false,false,none⟩,
 ⟨none, "_law_keeps",top 35,["_law_rows", "_law_limits", "_law_point", "_law_row", "_law_limit"],3,[],[false,false,false],[],[],jr,[],false,false,none⟩,
 ⟨none, "_law_priced",top 36,["_law_goal", "_law_rows", "_law_prices", "_law_k", "_law_total"],3,[],[false,false,false],[],[],iX,[],false,false,none⟩,
 ⟨none, "_law_whole",top 30,["_law_found"],1,[],[false],[],[],jw,[],false,false,none⟩,
 ⟨none, "_law_is_number",top 31,["_law_found"],1,[],[false],[],[],fW,[],false,false,none⟩,
 ⟨none, "_law_are_numbers",top 32,["_law_found", "_law_many", "_law_below_too"],3,[],[false,false,false],[],[],fh,[],false,false,none⟩,
 ⟨none, "_law_right",top 37,["_law_goal", "_law_rows", "_law_limits", "_law_told", "_law_still"],4,[],[false,false,false,false],[],[],j0,[],false,false,none⟩,
 ⟨some "Board", "__init__",topC 13 0,["self", "goal", "rows", "limits"],4,[],[true,false,false,false],[],["*nob", "across", "down", "grid"],jy,[],false,false,none⟩,
 ⟨some "Board", "stride",topC 13 3,["self", "column"],2,[],[false,false],[],[],hV,[],false,false,none⟩,
 ⟨none, "gaining_column",top 16,["board", "gains", "found", "steepest", "k", "gain", "slope"],2,[],[false,false],[],[],fQ,[],false,false,none⟩,
 ⟨some "Board", "top_of",topC 13 2,["self", "at", "name"],3,[],[false,false,false],[],[],gU,[],false,false,none⟩,
 ⟨none, "binds_before",top 18,["board", "one", "other", "column", "sooner", "later", "name"],4,[],[false,false,false,false],[],[],gW,[],false,false,none⟩,
 ⟨none, "binding_row",top 17,["board", "column", "found", "k"],2,[],[false,false],[],[],iO,[],false,false,none⟩,
 ⟨none, "turned_row",top 15,["row", "pivot_row", "column", "scale", "pivot", "factor", "turned"],4,[],[false,false,false,false],[],[],jF,[],false,false,none⟩,
 ⟨none, "negative_row",top 14,["row"],1,[],[false],[],[],gS,[],false,false,none⟩,
 ⟨some "Board", "turn",topC 13 1,["self", "at", "column", "pivot_row", "turned", "name"],3,[],[true,false,false],[],["*nob", "across", "down"],j4,[],false,false,none⟩,
 ⟨none, "common_divisor",top 6,["a", "b", "rest"],2,[],[false,false],[],[],f9,[],false,false,none⟩,
 ⟨none, "lowest_terms",top 7,["top", "bottom", "divisor"],2,[],[false,false],[],[],gO,[],false,false,none⟩,
 ⟨some "Board", "spread_down",topC 13 8,["self", "tops", "told", "name", "top"],2,[],[false,false],[],[],eR,[],false,false,none⟩,
 ⟨some "Board", "point",topC 13 6,["self"],1,[],[false],[],[],iU,[],false,false,none⟩,
 ⟨some "Board", "prices",topC 13 9,["self", "tops", "told", "name", "top"],2,[],[false,false],[],[],hZ,[],false,false,none⟩,
 ⟨some "Board", "way",topC 13 7,["self", "column", "told"],2,[],[false,false],[],[],kT,[],false,false,none⟩,
 ⟨none, "climbed",top 21,["board", "column", "value", "at"],1,[],[true],[],["*nob", "board"],oS,[],false,false,none⟩,
 ⟨some "Board", "put_helper",topC 13 4,["self", "goal"],1,[],[true],[],["*nob", "across", "down", "grid"],fe,[],false,false,none⟩,
 ⟨some "Board", "drop_helper",topC 13 5,["self", "at"],1,[],[true],[],["*nob", "across", "down"],eQ,[],false,false,none⟩,
 ⟨none, "last_least",top 19,["limits", "least"],1,[],[false],[],[],jN,[],false,false,none⟩,
 ⟨none, "find_point",top 20,["board", "row", "column"],1,[],[true],[],["*nob", "across", "down", "board"],jH,[],false,false,none⟩,
 ⟨none, "solved",top 12,["goal", "rows", "limits", "board", "prices"],3,[],[false,false,false],[],["*nob", "board"],rK,[],false,false,none⟩,
 ⟨none, "best_of",top 11,["goal", "rows", "limits"],3,[],[false,false,false],[],[],o9,[],false,false,none⟩]
def nR:DI:=⟨none, "law",top 38,["_law_script", "_law_k", "_law_well_here", "_law_most", "_law_wide", "_law_high", "_law_goal", "_law_rows", "_law_limits", "_law_handed", "_law_turn"],1,[],[false],[],[],Ge,[],false,false,none⟩
theorem J3:uT IQ Dw=Dw.map (λd=>some d.m):=by kernel_rfl
theorem GJ:tW (wj IQ Dw) nR=some nR.m:=by kernel_rfl
theorem Ir:(Dw++[nR]).all (λd=>hW d&&um d)=true:=by decide +kernel
end W
section
open PySem PySem.W PyProof.Rows L2
set_option maxRecDepth 100000 in
theorem W.hl:LeftO PySem.Challenge.rw_fitwhatever_k33_whole_programs.row.prog (W.Mo PySem.Challenge.pw_fitwhatever_k33_whole_programs) (W.uK PySem.Challenge.pw_fitwhatever_k33_whole_programs) (λs=>xlAt (W.Mo PySem.Challenge.pw_fitwhatever_k33_whole_programs) [] s&&recOk PySem.Challenge.rw_fitwhatever_k33_whole_programs.row.records s) (Hook.obs (M.hk (W.Dw++[W.nR]) (M.Gk W.IQ))) (Hook.val (M.hk (W.Dw++[W.nR]) (M.Gk W.IQ))) 20000:=W.AW λw=>by kernel_rfl
set_option maxRecDepth 100000 in
set_option maxHeartbeats 0 in
theorem W.fin(LT:∀ns:List Int,ns.length<=63->∃Z,W.nR.M [.fr (.lst (ns.map M.A.int))]=some (.rt (.fr (.bl true)),Z)):PySem.Challenge.rw_fitwhatever_k33_whole_programs.Holds:=by
 w_on
 refine holds_law Z3 λh=>?_
 refine holds_open (q:=W.Mo PySem.Challenge.pw_fitwhatever_k33_whole_programs) (loose:=W.uK PySem.Challenge.pw_fitwhatever_k33_whole_programs) (Xt:=λs=>xlAt (W.Mo PySem.Challenge.pw_fitwhatever_k33_whole_programs) [] s&&recOk (RowW.records _) s) (XP:=XL (W.Mo PySem.Challenge.pw_fitwhatever_k33_whole_programs) []) (Yf:=Hook.obs (M.hk (W.Dw++[W.nR]) (M.Gk W.IQ))) (Ya:=Hook.val (M.hk (W.Dw++[W.nR]) (M.Gk W.IQ))) (YP:=Hook.says (M.hk (W.Dw++[W.nR]) (M.Gk W.IQ))) (N:=20000) W.hl (Hook.of _) (Hook.keeps _) (λs e=>xl_of s (VT.mp e).1) XL.keeps (by rfl) (by rfl) (by rfl) (λs e=>recFacts_of (VT.mp e).2) (by rfl) h Z3 ⟨rfl,rfl,rfl,rfl,rfl,by decide +kernel⟩ ?hw ?hc
 case hw=>w_witness2
 case hc=>exact M.yU rfl rfl rfl W.Ir W.J3 W.GJ rfl rfl rfl rfl ⟨rfl,by decide,by decide⟩ LT
end
set_option maxHeartbeats 1000000
set_option exponentiation.threshold 100000
namespace Sx
noncomputable def su(n:Nat)(f:Nat->Int):Int:=match n with
 |0=>0
 |n+1=>su n f+f n
variable{f:Nat->Int}
theorem bG{n:Nat}{g:Nat->Int}(h:∀i,i<n->f i=g i):su n f=su n g:=by
 induction n with
 |zero=>rfl
 |succ n m=>rw[su,su,m λi hi=>h i Q1,h n Q1]
theorem kh{n:Nat}{g:Nat->Int}{x y:Int}:su n (λi=>x*f i+y*g i)=x*su n f+y*su n g:=by
 induction n with
 |zero=>simp[su]
 |succ n m=>simp only[su,m];grind
theorem iL{n:Nat}(h:∀i,i<n->f i=0):su n f=0:=by
 induction n with
 |zero=>rfl
 |succ n m=>rw[su,m λi hi=>h i Q1,h n Q1];rfl
theorem i4{n a:Nat}(r:a<n)(h:∀i,i<n->i≠a->f i=0):su n f=f a:=by
 induction n with
 |zero=>lia
 |succ n m=>
  by_cases e:a=n
  .subst e;rw[su,iL λi hi=>h i Q1 Q1];lia
  .rw[su,m Q1 λi hi=>h i Q1,h n Q1 Q1];lia
theorem Oe{n a:Nat}(r:a+1<n)(h:∀i,i<n->i≠a->i≠a+1->f i=0)(e:f a+f (a+1)=0):su n f=0:=by
 induction n with
 |zero=>lia
 |succ n m=>
  by_cases c:a+1=n
  .subst c;rw[su,i4 (a:=a) Q1 λi hi hn=>h i Q1 hn Q1];exact e
  .rw[su,m Q1 λi hi=>h i Q1,h n Q1 Q1 Q1];rfl
noncomputable abbrev Ve:=Nat->Int
noncomputable def sk(i:Nat)(v:Nat->Ve):Nat->Ve:=λj=>if j<i then v j else v (j+1)
noncomputable def up(a:Nat)(u:Ve)(v:Nat->Ve):Nat->Ve:=λj=>if j=a then u else v j
noncomputable def sg(i:Nat):Int:=if i%2=0 then 1 else -1
def D:Nat->(Nat->Ve)->Int
 |0,_=>1
 |k+1,v=>su (k+1) λi=>sg i*v i k*D k (sk i v)
theorem D.eq(k:Nat)(v:Nat->Ve):D (k+1) v=su (k+1) λi=>sg i*v i k*D k (sk i v):=rfl
theorem D.congr:∀{k:Nat}{v w:Nat->Ve},(∀i j,i<k->j<k->v i j=w i j)->D k v=D k w
 |0,_,_,_=>rfl
 |k+1,v,w,h=>bG λi hi=>by
  rw[h i k hi Q1,D.congr (k:=k) (v:=sk i v) (w:=sk i w) λa b f d=>by
   unfold sk;split
   .exact h a b Q1 Q1
   .exact h _ b Q1 Q1]
variable{i:Nat}
theorem NP{a:Nat}(h:i≠a)(u:Ve)(v:Nat->Ve):sk i (up a u v)=up (if a<i then a else a-1) u (sk i v):=by funext j;unfold sk up;grind
theorem Kt(a:Nat)(u:Ve)(v:Nat->Ve):sk a (up a u v)=sk a v:=by funext j;unfold sk up;grind
theorem D.FX:∀{k a:Nat}{v:Nat->Ve}{u w:Ve}{x y:Int},a<k->D k (up a (λj=>x*u j+y*w j) v)=x*D k (up a u v)+y*D k (up a w v)
 |0,_,_,_,_,_,_,h=>absurd h Q1
 |k+1,a,v,u,w,x,y,h=>by
  rw[D.eq,D.eq,D.eq,<-kh];refine bG λi hi=>?_;by_cases e:i=a
  .subst e;simp only[Kt];simp only[up,Zx];grind
  .simp only[NP e];rw[D.FX (k:=k) (a:=if a<i then a else a-1) (by split<;>lia)];simp only[up,Zy e];grind
theorem Od(i:Nat):sg (i+1) =-sg i:=by unfold sg;split<;>split<;>lia
theorem D.LG:∀{k a:Nat}{v:Nat->Ve},a+1<k->v a=v (a+1)->D k v=0
 |0,_,_,h,_=>absurd h Q1
 |k+1,a,v,h,e=>by
  rw[D.eq];refine Oe (a:=a) h (λi hi h1 h2=>?_) ?_
  .rw[D.LG (k:=k) (a:=if a<i then a else a-1) (v:=sk i v) (by split<;>lia) (by
    unfold sk;split
    .rw[Zx Q1];exact e
    .rw[Zy Q1,Zy Q1];rw[show a-1+1=a by lia];exact e)]
   exact RB _
  .have:sk a v=sk (a+1) v:=by
    funext j;unfold sk
    by_cases c:j=a
    .subst c;rw[Zy Q1,Zx Q1,e]
    .by_cases U:j<a
     .rw[Zx U,Zx Q1]
     .rw[Zy U,Zy Q1]
   rw[this,e,Od];grind
theorem B7{a b:Nat}(h:a≠b)(u w:Ve)(v:Nat->Ve):up a u (up b w v)=up b w (up a u v):=by funext j;unfold up;grind
theorem sQ(a:Nat)(v:Nat->Ve):up a (v a) v=v:=by funext j;unfold up;split<;>simp_all
variable{w:Ve}
theorem D.add{k a:Nat}{v:Nat->Ve}{u:Ve}(h:a<k):D k (up a (λj=>u j+w j) v)=D k (up a u v)+D k (up a w v):=by have:=D.FX (v:=v) (u:=u) (w:=w) (x:=1) (y:=1) h;simpa using this
theorem D.swap{k a:Nat}{v:Nat->Ve}(h:a+1<k):D k (up a (v (a+1)) (up (a+1) (v a) v)) =-D k v:=by have z:=D.LG (k:=k) (a:=a) (v:=up a (λj=>v a j+v (a+1) j) (up (a+1) (λj=>v a j+v (a+1) j) v)) h (by simp[up]);rw[D.add Q1,B7 Q1,D.add h,B7 (a:=a) (b:=a+1) Q1 (v (a+1)),D.add h] at z;rw[D.LG (v:=up (a+1) (v a) (up a (v a) v)) h (by simp[up])] at z;rw[D.LG (v:=up (a+1) (v (a+1)) (up a (v (a+1)) v)) h (by simp[up])] at z;rw[sQ,sQ,<-B7 Q1] at z;lia
theorem D.two:∀{d k a:Nat}{v:Nat->Ve},a+d+1<k->v a=v (a+d+1)->D k v=0
 |0,k,a,v,h,e=>D.LG h e
 |d+1,k,a,v,h,e=>by
  have s:=D.swap (k:=k) (a:=a+d+1) (v:=v) h;have z:=D.two (d:=d) (k:=k) (a:=a) (v:=up (a+d+1) (v (a+d+1+1)) (up (a+d+1+1) (v (a+d+1)) v)) Q1 (by simp only[up];rw[Zy Q1,Zy Q1];simp only[if_true];exact e)
  lia
theorem D.alike{k a b:Nat}{v:Nat->Ve}(f:a<k)(E:b<k)(h:a≠b)(e:v a=v b):D k v=0:=by
 by_cases c:a<b
 .exact D.two (d:=b-a-1) (a:=a) Q1 (by rw[show a+(b-a-1)+1=b by lia];exact e)
 .exact D.two (d:=a-b-1) (a:=b) Q1 (by rw[show b+(a-b-1)+1=a by lia];exact e.symm)
variable{c:Nat->Int}
theorem D.sum{k a m:Nat}{v:Nat->Ve}{u:Nat->Ve}(h:a<k):D k (up a (λj=>su m λl=>c l*u l j) v)=su m λl=>c l*D k (up a (u l) v):=by
 induction m with
 |zero=>have:=D.FX (k:=k) (a:=a) (v:=v) (u:=λ_=>0) (w:=λ_=>0) (x:=0) (y:=0) h;simpa[su] using this
 |succ m X=>simp only[su];rw[D.add h,X];have:=D.FX (k:=k) (a:=a) (v:=v) (u:=u m) (w:=u m) (x:=c m) (y:=0) h;simp only[S2,R7] at this;rw[this]
variable{s:Int}
theorem D.Ig{k a:Nat}{v:Nat->Ve}(h:a<k)(e:∀j,j<k->s*w j=su k λl=>c l*v l j):s*D k (up a w v)=c a*D k v:=by
 have e1:=D.FX (k:=k) (a:=a) (v:=v) (u:=w) (w:=w) (x:=s) (y:=0) h;simp only[S2,R7] at e1;rw[<-e1,D.congr (w:=up a (λj=>su k λl=>c l*v l j) v) λi j hi O=>by
  unfold up;split
  .exact e j O
  .rfl,D.sum h,i4 h λi hi hn=>by rw[D.alike (b:=i) h hi (RP hn) (by simp[up,hn]),RB],sQ]
noncomputable def mv(k c:Nat)(v:Nat->Ve):Nat->Ve:=λj=>if j<c then v j else if j+1<k then v (j+1) else if j+1=k then v c else v j
theorem D.mv:∀{d k c:Nat}{v:Nat->Ve},c+d+1=k->(D k (mv k c v)).natAbs=(D k v).natAbs
 |0,k,c,v,h=>by
  have:Sx.mv k c v=v:=by funext j;unfold Sx.mv;grind
  rw[this]
 |d+1,k,c,v,h=>by have s:=D.swap (k:=k) (a:=c) (v:=v) Q1;have z:=D.mv (d:=d) (k:=k) (c:=c+1) (v:=up c (v (c+1)) (up (c+1) (v c) v)) Q1;rw[s] at z;rw[show Sx.mv k c v=Sx.mv k (c+1) (up c (v (c+1)) (up (c+1) (v c) v)) by funext j;unfold Sx.mv up;grind,z];lia
noncomputable def un(i:Nat):Ve:=λj=>if j=i then 1 else 0
theorem D.un:∀{k:Nat}{v:Nat->Ve},(∀i,i<k->v i=un i)->(D k v).natAbs=1
 |0,_,_=>rfl
 |k+1,v,h=>by
  rw[D.eq,i4 (a:=k) Q1 λi hi hn=>by rw[h i hi];simp[Sx.un,RP hn]];rw[h k Q1];have z:=D.un (k:=k) (v:=sk k v) λi hi=>by unfold sk;rw[Zx hi];exact h i Q1
  simp only[Sx.un,Zx];rw[R3,z];unfold sg;split<;>rfl
theorem nk{k z:Nat}(h:z<k):su k f=f z+su k λl=>if l=z then 0 else f l:=by
 induction k with
 |zero=>lia
 |succ k m=>
  by_cases e:z=k
  .subst e;simp only[su,if_true];rw[bG (n:=z) (f:=λl=>if l=z then 0 else f l) (g:=f) λi hi=>Zy Q1];lia
  .simp only[su,Zy (RP e)];rw[m Q1];lia
theorem cV{k:Nat}{x:Int}:su k (λl=>x*f l)=x*su k f:=by have:=kh (n:=k) (f:=f) (g:=f) (x:=x) (y:=0);simpa using this
noncomputable def Gt(at' z:Nat)(s:Int)(G:Nat->Nat->Int):Nat->Nat->Int:=λi l=>if i=at' then (if l=z then s else G at' l) else if l=z then-G i z else (G at' z*G i l-G i z*G at' l) / s
def Id(k m:Nat)(q:Nat->Int)(s:Int)(W:Nat->Ve)(G:Nat->Nat->Int)(v:Nat->Ve):Prop:=∀i,i<=m->∀j,j<k->s*W i j=su k λl=>q l*G i l*v l j
variable{k m at' col:Nat}{q:Nat->Int}{s:Int}{W v:Nat->Ve}{G:Nat->Nat->Int}
theorem Id.mid(hk:col<k)(hc:q col = -1)(id:Id k m q s W G v)(f:at'<=m)(i:Nat)(hi:i<=m)(j:Nat)(a:j<k):(s*G at' col)*W i j=su k λl=>(if l=col then s*G i col else q l*(G at' col*G i l-G i col*G at' l))*up col (W at') v l j:=by
 have h1:=id i hi j a;have h2:=id at' f j a;rw[nk hk] at h1 h2 ⊢;simp only[if_true,hc,up] at h1 h2 ⊢;have e:(su k λl=>if l=col then 0 else (if l=col then s*G i col else q l*(G at' col*G i l-G i col*G at' l))*(if l=col then W at' else v l) j)=G at' col*(su k λl=>if l=col then 0 else q l*G i l*v l j)+(- G i col)*su k λl=>if l=col then 0 else q l*G at' l*v l j:=by
  rw[<-kh];refine bG λl hl=>?_;by_cases c:l=col
  .simp[c]
  .simp only[Zy c];grind
 rw[e];grind
theorem Id.det(hk:col<k)(hc:q col = -1)(hs:s≠0)(K:(D k v).natAbs=s.natAbs)(id:Id k m q s W G v)(f:at'<=m):(D k (up col (W at') v)).natAbs=(G at' col).natAbs:=by
 have h:=D.Ig (v:=v) (w:=W at') (s:=s) (c:=λl=>q l*G at' l) hk λj a=>id at' f j a;simp only[hc] at h;have e:=ZC XH h;rw[R3,R3,R3,K] at e;have:0<s.natAbs:=by lia
 apply Vq this;rw[e];simp;exact TJ _ _
theorem Id.dvd(hk:col<k)(O:∀l,q l=1\/q l = -1)(hc:q col = -1)(hs:s≠0)(K:(D k v).natAbs=s.natAbs)(id:Id k m q s W G v)(f:at'<=m)(hp:G at' col≠0)(i:Nat)(hi:i<=m)(l:Nat)(hl:l<k)(hn:l≠col):s ∣ G at' col*G i l-G i col*G at' l:=by
 have d:=id.det hk hc hs K f;have c:=D.Ig (v:=up col (W at') v) (w:=W i) (s:=s*G at' col) hl (id.mid hk hc f i hi);simp only[Zy hn] at c;generalize D k (up l (W i) (up col (W at') v))=x at c;generalize D k (up col (W at') v)=y at c d;generalize G at' col*G i l-G i col*G at' l=z at c ⊢;have e:y=G at' col\/y =-G at' col:=by lia
 have e2:q l*z=s*x\/q l*z=s*(-x):=by
  rcases e with e|e<;>subst e
  .exact .inl (Sr hp (by grind))
  .exact .inr (Sr hp (by grind))
 rcases O l with N|N<;>rw[N] at e2<;>rcases e2 with e2|e2
 .exact⟨x,by grind⟩
 .exact⟨-x,by grind⟩
 .exact⟨-x,by grind⟩
 .exact⟨x,by grind⟩
theorem Id.turn(hk:col<k)(O:∀l,q l=1\/q l = -1)(hc:q col = -1)(hs:s≠0)(K:(D k v).natAbs=s.natAbs)(id:Id k m q s W G v)(f:at'<=m)(hp:G at' col≠0):Id k m q (G at' col) (up at' (v col) W) (Gt at' col s G) (up col (W at') v):=λi hi j a=>by
 by_cases e:i=at'
 .subst e;have h:=id i hi j a;rw[nk hk] at h ⊢;simp only[if_true,hc,up,Gt] at h ⊢;rw[bG (g:=λl=>if l=col then 0 else q l*G i l*v l j) λl hl=>by by_cases c:l=col<;>simp[c]]
  grind
 .have h:=id.mid hk hc f i hi j a;rw[show up at' (v col) W i=W i by simp[up,e]];apply Int.eq_of_mul_eq_mul_left hs;rw[<-cV,<-UH,h];refine bG λl hl=>?_;simp only[Gt,Zy e];by_cases c:l=col
  .simp only[c,if_true,hc];grind
  .simp only[Zy c];have z:=Uy (id.dvd hk O hc hs K f hp i hi l hl c);generalize (G at' col*G i l-G i col*G at' l) / s=x at z ⊢;rw[<-z];grind
def LP(M:Nat)(f:Nat->Int):Prop:=∃t,t<M/\0<f t/\∀u,u<t->f u=0
def LN(M:Nat)(f:Nat->Int):Prop:=¬ LP M λt=>- f t
variable{M:Nat}{f g h:Nat->Int}{x y:Int}
theorem LP.congr(e:∀t,t<M->f t=g t)(h:LP M f):LP M g:=by obtain⟨t,a,b,c⟩:=h;exact⟨t,a,by rw[<-e t a];exact b,λu p=>by rw[<-e u Q1];exact c u p⟩
theorem LP.mul(hx:0<x)(h:LP M f):LP M λt=>x*f t:=by obtain⟨t,a,b,c⟩:=h;exact⟨t,a,XB hx b,λu g=>by simp only[c u g,RB]⟩
theorem LP.tI(hx:0<x)(h:LP M λt=>x*f t):LP M f:=by obtain⟨t,a,b,c⟩:=h;exact⟨t,a,Int.pos_of_mul_pos_right b hx,λu g=>(WJ.mp (c u g)).resolve_left Q1⟩
theorem LN.or(h:LN M f):LP M f\/∀t,t<M->f t=0:=by
 induction M with
 |zero=>exact .inr λt l=>absurd l Q1
 |succ M m=>
  rcases m λ⟨t,a,b⟩=>h ⟨t,by lia,b⟩ with ⟨t,a,b⟩|z
  .exact .inl ⟨t,by lia,b⟩
  .rcases Int.lt_trichotomy (f M) 0 with c|c|c
   .exact absurd ⟨M,by lia,by show-f M > 0;lia,λu g=>by show-f u=0;rw[z u g];rfl⟩ h
   .exact .inr λt l=>by
     by_cases e:t=M
     .rw[e];exact c
     .exact z t Q1
   .exact .inl ⟨M,by lia,c,λu g=>z u g⟩
theorem LP.add(a:LP M f)(b:LP M g):LP M λt=>f t+g t:=by
 obtain⟨t,a1,C,Z⟩:=a;obtain⟨u,b1,b2,k⟩:=b;rcases Wm t u with c|c|c
 .exact⟨t,a1,by show 0<f t+g t;rw[k t c];lia,λw n=>by show f w+g w=0;rw[Z w n,k w Q1];rfl⟩
 .subst c;exact⟨t,a1,by show 0<f t+g t;lia,λw n=>by show f w+g w=0;rw[Z w n,k w n];rfl⟩
 .exact⟨u,b1,by show 0<f u+g u;rw[Z u c];lia,λw n=>by show f w+g w=0;rw[Z w Q1,k w n];rfl⟩
theorem LP.OH(a:LP M f)(b:LN M g):LP M λt=>f t+g t:=by
 rcases b.or with b|b
 .exact a.add b
 .exact a.congr λt l=>by rw[b t l];lia
theorem LP.ln(a:LP M f):LN M f:=λb=>by obtain⟨t,_,c,_⟩:=a.add b;have c:0<f t +-f t:=c;lia
theorem LN.mul(hx:0<=x)(h:LN M f):LN M λt=>x*f t:=by
 rcases h.or with h|h
 .by_cases e:x=0
  .subst e;rintro⟨t,_,c,_⟩;simp at c
  .exact(LP.mul Q1 h).ln
 .rintro⟨t,a,c,_⟩;simp only[h t a] at c;simp at c
def LL(M:Nat)(f:Nat->Int)(s:Int)(g:Nat->Int)(s':Int):Prop:=LP M λt=>s*g t-s'*f t
theorem LL.Pt:¬ LL M f s f s:=λ⟨t,_,b,_⟩=>by have b:0<s*f t-s*f t:=b;lia
variable{s' s'':Int}
theorem LL.trans(h1:0<s)(h2:0<s')(h3:0<s'')(a:LL M f s g s')(b:LL M g s' h s''):LL M f s h s'':=
 LP.tI (x:=s') h2 (((LP.mul h1 b).add (LP.mul h3 a)).congr λt _=>by grind)
theorem LL.nt(h1:0<s)(h2:0<s')(h3:0<s'')(a:¬ LL M f s g s')(b:LL M h s'' g s'):¬ LL M f s h s'':=λc=>a (LL.trans h1 h3 h2 c b)
def F(N m:Nat)(ac dn:Nat->Int)(G:Nat->Nat->Int)(s:Int)(i:Nat)(u:Int):Int:=(su N λl=>if ac l=u then G i l else 0)+if i<m/\dn i=u then s else 0
noncomputable def qD(a:Nat)(u:Int)(v:Nat->Int):Nat->Int:=λj=>if j=a then u else v j
variable{N m at' col i:Nat}{ac dn:Nat->Int}{G:Nat->Nat->Int}{s u:Int}
theorem F.own(hk:col<N)(r:at'<m):F N m (qD col (dn at') ac) (qD at' (ac col) dn) (Gt at' col s G) (G at' col) at' u=F N m ac dn G s at' u:=by
 unfold F;rw[nk hk,nk (f:=λl=>if ac l=u then G at' l else 0) hk];rw[bG (g:=λl=>if l=col then 0 else if ac l=u then G at' l else 0) λl hl=>by
  by_cases c:l=col
  .simp only[Zx c]
  .simp only[Zy c,qD,Gt,if_true]]
 simp only[qD,Gt,if_true,r,true_and];lia
theorem F.Qk(hk:col<N)(r:at'<m)(hn:i≠at')(hd:∀l,l<N->l≠col->s ∣ G at' col*G i l-G i col*G at' l):s*F N m (qD col (dn at') ac) (qD at' (ac col) dn) (Gt at' col s G) (G at' col) i u=G at' col*F N m ac dn G s i u-G i col*F N m ac dn G s at' u:=by
 unfold F;rw[nk hk,nk (f:=λl=>if ac l=u then G at' l else 0) hk,nk (f:=λl=>if ac l=u then G i l else 0) hk];have e:s*(su N λl=>if l=col then 0 else if qD col (dn at') ac l=u then Gt at' col s G i l else 0)=G at' col*(su N λl=>if l=col then 0 else if ac l=u then G i l else 0)+(- G i col)*(su N λl=>if l=col then 0 else if ac l=u then G at' l else 0):=by
  rw[<-kh,<-cV];refine bG λl hl=>?_;by_cases c:l=col
  .simp[c]
  .simp only[Zy c,qD,Gt,Zy hn];by_cases U:ac l=u
   .simp only[Zx U];have z:=Uy (hd l hl c);rw[z];grind
   .simp[Zy U]
 simp only[qD,if_true,Zy hn,r,true_and,Gt] at e ⊢;rw[U6,U6,e];by_cases P:dn at'=u<;>by_cases U:ac col=u<;>by_cases V:i<m/\dn i=u<;>simp only[P,U,V,if_true,if_false]<;>grind
structure Bo where
 ac:List Int
 dn:List Int
 g:List (List Int)
 s:Int
noncomputable def Bo.Gq(b:Bo)(i l:Nat):Int:=(b.g.getD i []).getD l 0
noncomputable def Bo.Aq(b:Bo)(l:Nat):Int:=b.ac.getD l 0
noncomputable def Bo.Bq(b:Bo)(i:Nat):Int:=b.dn.getD i 0
structure Sh(N m:Nat)(b:Bo):Prop where
 ac:b.ac.length=N
 dn:b.dn.length=m
 g:b.g.length=m+1
 r:∀x∈b.g,x.length=N+1
noncomputable def kH(row pr:List Int)(c:Nat)(s:Int):List Int:=
 if row.getD c 0=0 then row.map λx=>(pr.getD c 0*x).fdiv s
 else ((row.zip pr).map λp=>(pr.getD c 0*p.1-row.getD c 0*p.2).fdiv s).set c (- row.getD c 0)
def Bo.raw(b:Bo)(a c:Nat):List (List Int):=(b.g.map λrow=>kH row (b.g.getD a []) c b.s).set a ((b.g.getD a []).set c b.s)
noncomputable def fZ(row:List Int):List Int:=row.map λx=>- x
def Bo.turn(b:Bo)(a c:Nat):Bo:=
 ⟨b.ac.set c (b.dn.getD a 0),b.dn.set a (b.ac.getD c 0),if b.Gq a c<0 then (b.raw a c).map fZ else b.raw a c,if b.Gq a c<0 then-b.Gq a c else b.Gq a c⟩
variable{α:Type}
theorem getD_map{β:Type}{f:α->β}{xs:List α}{d:α}{e:β}(h:i<xs.length):(xs.map f).getD i e=f (xs.getD i d):=by simp[Rp,h]
variable{j:Nat}
theorem ik{xs:List α}{v d:α}(h:i<xs.length):(xs.set i v).getD j d=if j=i then v else xs.getD j d:=by
 by_cases e:j=i
 .subst e;simp[Rp,h]
 .simp[Rp,e,Rk (RP e)]
theorem getD_mem{xs:List (List Int)}(h:i<xs.length):xs.getD i []∈xs:=by simp[Rp,h]
variable{N m a c i l:Nat}{b:Bo}
theorem Sh.row(h:Sh N m b)(hi:i<=m):(b.g.getD i []).length=N+1:=h.r _ (getD_mem (by rw[h.g];lia))
variable{pr:List Int}
theorem E4{row:List Int}(h1:row.length=N+1)(h2:pr.length=N+1)(hc:c<N+1)(hl:l<N+1)(hs:s≠0)(hd:l≠c->s ∣ pr.getD c 0*row.getD l 0-row.getD c 0*pr.getD l 0):
  (kH row pr c s).getD l 0=if l=c then-row.getD c 0 else (pr.getD c 0*row.getD l 0-row.getD c 0*pr.getD l 0) / s:=by
 unfold kH;by_cases e:row.getD c 0=0
 .rw[Zx e,getD_map (d:=0) Q1,e];by_cases e2:l=c
  .subst e2;rw[Zx rfl,e];simp
  .rw[Zy e2];have z:=hd e2;rw[e] at z;simp only[S2,Int.sub_zero] at z ⊢;exact VC z
 .rw[Zy e,ik (by simp;lia)];by_cases e2:l=c
  .rw[Zx e2,Zx e2]
  .rw[Zy e2,Zy e2,getD_map (d:=(0,0)) (by simp;lia)];rw[VC (by have z:=hd e2;simpa[Rp,RX,h1,h2,hl,Rg] using z)]
   simp[Rp,h1,h2,hl]
theorem zk{row:List Int}(h1:row.length=N+1)(h2:pr.length=N+1):(kH row pr c s).length=N+1:=by unfold kH;split<;>simp[h1,h2]
theorem Bo.Kh(h:Sh N m b)(f:a<=m)(hc:c<N+1)(hs:b.s≠0)(hd:∀i,i<=m->∀l,l<N+1->l≠c->b.s ∣ b.Gq a c*b.Gq i l-b.Gq i c*b.Gq a l)(hi:i<=m)(hl:l<N+1):((b.raw a c).getD i []).getD l 0=Gt a c b.s b.Gq i l:=by
 unfold Bo.raw;rw[ik (by simp[h.g];lia)];by_cases e:i=a
 .subst e;rw[Zx rfl,ik (by rw[h.row f];lia)];simp only[Gt,if_true];rfl
 .rw[Zy e,getD_map (d:=[]) (by rw[h.g];lia),E4 (h.row hi) (h.row f) hc hl hs (hd i hi l hl)];simp only[Gt,Zy e];rfl
theorem Sh.raw(h:Sh N m b)(f:a<=m)(x:List Int)(hx:x∈b.raw a c):x.length=N+1:=by
 rcases List.mem_or_eq_of_mem_set hx with z|z
 .obtain⟨r,R,rfl⟩:=Rq.mp z;exact zk (h.r r R) (h.row f)
 .subst z;rw[U5];exact h.row f
theorem Sh.turn(h:Sh N m b)(f:a<=m):Sh N m (b.turn a c):=by
 refine⟨by simp[Bo.turn,h.ac],by simp[Bo.turn,h.dn],?_,?_⟩
 .show W9 (ite _ _ _)=_;split<;>simp[Bo.raw,h.g]
 .intro x hx;have hx:x∈(if b.Gq a c<0 then (b.raw a c).map fZ else b.raw a c):=hx;split at hx
  .obtain⟨y,hy,rfl⟩:=Rq.mp hx;simpa[fZ] using h.raw f y hy
  .exact h.raw f x hx
noncomputable def sn(x:Int):Int:=if x<0 then -1 else 1
theorem Bo.m9(h:Sh N m b)(f:a<=m)(hc:c<N+1)(hs:b.s≠0)(hd:∀i,i<=m->∀l,l<N+1->l≠c->b.s ∣ b.Gq a c*b.Gq i l-b.Gq i c*b.Gq a l)(hi:i<=m)(hl:l<N+1):(b.turn a c).Gq i l=sn (b.Gq a c)*Gt a c b.s b.Gq i l:=by
 have z:=b.Kh h f hc hs hd hi hl;have K:i<(b.raw a c).length:=by simp[Bo.raw,h.g];lia
 show (Rp (ite _ _ _) i []).getD l 0=_;unfold sn;by_cases e:b.Gq a c<0
 .rw[Zx e,Zx e,getD_map (d:=[]) K];unfold fZ;rw[getD_map (d:=0) (by rw[h.raw f _ (getD_mem K)];exact hl),z];lia
 .rw[Zy e,Zy e,z];lia
theorem Bo.jg:(b.turn a c).s=sn (b.Gq a c)*b.Gq a c:=by show ite _ _ _=_;unfold sn;split<;>lia
theorem Bo.pH(h:Sh N m b)(hc:c<N):(b.turn a c).Aq=qD c (b.Bq a) b.Aq:=by funext l;exact ik (by rw[h.ac];exact hc)
theorem Bo.mN(h:Sh N m b)(f:a<m):(b.turn a c).Bq=qD a (b.Aq c) b.Bq:=by funext l;exact ik (by rw[h.dn];exact f)
structure Pb where
 n:Nat
 m:Nat
 c:Nat->Int
 R:Nat->Nat->Int
 L:Nat->Int
def Pb.Yq(P:Pb)(u:Int):Ve:=if u = -1 then un (P.n+1) else if u<P.n then un u.toNat else λj=>if j<P.n then-P.R (u-P.n).toNat j else if j=P.n then P.L (u-P.n).toNat else 1
noncomputable def Pb.zq(P:Pb):Ve:=λj=>if j<P.n then P.c j else 0
def Pb.vec(P:Pb)(N:Nat)(b:Bo):Nat->Ve:=λl=>if l<N then P.Yq (b.Aq l) else if l=N then un P.n else un (P.n+1)
def Pb.Wq(P:Pb)(b:Bo):Nat->Ve:=λi=>if i<P.m then P.Yq (b.Bq i) else P.zq
def Gx(N:Nat)(b:Bo)(T:Nat->Int):Nat->Nat->Int:=λi l=>if l<=N then b.Gq i l else T i
noncomputable def qs(N l:Nat):Int:=if l<N then -1 else 1
structure Ok(P:Pb)(N:Nat)(b:Bo):Prop where
 sh:Sh N P.m b
 nd:(b.ac++b.dn).Nodup
 nm:∀u,u∈b.ac++b.dn↔(if N=P.n then 0 else -1)<=u/\u<(P.n+P.m:Nat)
 pos:0<b.s
 hN:N=P.n\/N=P.n+1
 det:(D (P.n+2) (P.vec N b)).natAbs=b.s.natAbs
 id:∃T,Id (P.n+2) P.m (qs N) b.s (P.Wq b) (Gx N b T) (P.vec N b)
variable{P:Pb}{N a c i l:Nat}{b:Bo}
theorem Ok.hc(h:Ok P N b)(hc:c<N):c<P.n+2:=by have:=h.hN;lia
theorem Ok.dvd(h:Ok P N b)(f:a<P.m)(hc:c<N)(hp:b.Gq a c≠0)(i:Nat)(hi:i<=P.m)(l:Nat)(hl:l<N+1)(hn:l≠c):b.s ∣ b.Gq a c*b.Gq i l-b.Gq i c*b.Gq a l:=by obtain⟨T,id⟩:=h.id;have:=h.hN;have hs:=h.pos;have z:=Id.dvd (at':=a) (h.hc hc) (λl=>by unfold qs;split<;>simp) (by simp[qs,hc]) Q1 h.det id Q1 (by simpa[Gx,Rv hc] using hp) i hi l Q1 hn;simpa[Gx,Rv hc,Wc hl] using z
theorem sN(h:Sh N P.m b)(f:a<P.m)(hc:c<N):P.vec N (b.turn a c)=up c (P.Wq b a) (P.vec N b):=by
 funext l
 unfold Pb.vec up Pb.Wq
 rw[Bo.pH h hc,Zx f]
 by_cases e:l=c
 .subst e;simp[qD,hc]
 .simp[qD,e]
theorem GV(h:Sh N P.m b)(f:a<P.m)(hc:c<N):P.Wq (b.turn a c)=up a (P.vec N b c) (P.Wq b):=by
 funext i
 unfold Pb.vec up Pb.Wq
 rw[Bo.mN h f,Zx hc]
 by_cases e:i=a
 .subst e;simp[qD,f]
 .simp[qD,e]
theorem M0(h:x≠0):0<sn x*x:=by unfold sn;split<;>lia
theorem MP(x:Int):sn x=1\/sn x = -1:=by unfold sn;split<;>simp
theorem swap_perm[DecidableEq α]{xs ys:List α}{c a:Nat}(hc:c<xs.length)(f:a<ys.length)(d:α):(xs.set c (ys.getD a d)++ys.set a (xs.getD c d)).Perm (xs++ys):=by
 have e1:xs.getD c d=xs[c]:=by simp[Rp,hc]
 have e2:ys.getD a d=ys[a]:=by simp[Rp,f]
 rw[e1,e2];have S:(xs.set c ys[a]).Perm (ys[a]::xs.eraseIdx c):=by rw[UQ,Zx hc,RD];exact Sb
 have C:(ys.set a xs[c]).Perm (xs[c]::ys.eraseIdx a):=by rw[UQ,Zx f,RD];exact Sb
 have h:xs.Perm (xs[c]::xs.eraseIdx c):=by rw[RD];have:=Sb (a:=xs[c]) (l₁:=xs.take c) (l₂:=xs.drop (c+1));rw[Ug,SM] at this;exact this
 have e:ys.Perm (ys[a]::ys.eraseIdx a):=by rw[RD];have:=Sb (a:=ys[a]) (l₁:=ys.take a) (l₂:=ys.drop (a+1));rw[Ug,SM] at this;exact this
 refine(S.append C).trans (List.Perm.trans ?_ (h.append e).symm);generalize xs.eraseIdx c=X;generalize ys.eraseIdx a=Z;show (ys[a]::(X++xs[c]::Z)).Perm (xs[c]::(X++ys[a]::Z));exact((Sb.cons _).trans (List.Perm.swap _ _ _)).trans (Sb.symm.cons _)
theorem Ok.turn(h:Ok P N b)(f:a<P.m)(hc:c<N)(hp:b.Gq a c≠0):Ok P N (b.turn a c):=by
 have hs:=h.pos;have hN:=h.hN;have pm:((b.turn a c).ac++(b.turn a c).dn).Perm (b.ac++b.dn):=swap_perm (by rw[h.sh.ac];exact hc) (by rw[h.sh.dn];exact f) 0;have R:∀l,qs N l=1\/qs N l = -1:=λl=>by unfold qs;split<;>simp
 have n:qs N c = -1:=by simp[qs,hc]
 obtain⟨T,id⟩:=h.id;have x:∀i,Gx N b T i c=b.Gq i c:=λi=>by simp[Gx,Rv hc]
 have E:Gx N b T a c≠0:=by rw[x];exact hp
 refine⟨h.sh.turn Q1,pm.nodup_iff.mpr h.nd,λu=>by rw[pm.mem_iff];exact h.nm u,?_,hN,?_,?_⟩
 .rw[Bo.jg];exact M0 hp
 .rw[sN h.sh f hc,Id.det (G:=Gx N b T) (h.hc hc) n Q1 h.det id Q1,x,Bo.jg];rcases MP (b.Gq a c) with e|e<;>rw[e]<;>lia
 .refine⟨λi=>sn (b.Gq a c)*Gt a c b.s (Gx N b T) i (N+1),λi hi j O=>?_⟩;have z:=Id.turn (h.hc hc) R n Q1 h.det id Q1 E i hi j O;rw[sN h.sh f hc,GV h.sh f hc,Bo.jg,UH,<-x a,z,<-cV];refine bG λl hl=>?_;have e:Gx N (b.turn a c) (λi=>sn (b.Gq a c)*Gt a c b.s (Gx N b T) i (N+1)) i l=sn (Gx N b T a c)*Gt a c b.s (Gx N b T) i l:=by
   unfold Gx;by_cases e:l<=N
   .rw[Zx e,Bo.m9 h.sh Q1 Q1 Q1 (h.dvd f hc hp) hi Q1];simp[Gt,Rv hc,e]
   .rw[Zy e,show l=N+1 by lia];simp[Rv hc]
  rw[<-x a] at e;rw[e];grind
def Fb(P:Pb)(N:Nat)(b:Bo)(i:Nat)(u:Int):Int:=F N P.m b.Aq b.Bq b.Gq b.s i u
def Rr(P:Pb)(N:Nat)(b:Bo)(i t:Nat):Int:=if t=0 then b.Gq i N else Fb P N b i ((P.n+(t-1):Nat):Int)
variable{P:Pb}{N a c i l:Nat}{b:Bo}
theorem F.scale{ac dn:Nat->Int}{G G':Nat->Nat->Int}(e:∀l,l<N->G' i l=x*G i l):F N m ac dn G' (x*s) i u=x*F N m ac dn G s i u:=by
 unfold F;rw[U6,<-cV]
 congr 1
 .refine bG λl hl=>?_;split
  .exact e l hl
  .simp
 .split<;>simp
theorem Ok.Fa(h:Ok P N b)(f:a<P.m)(hc:c<N)(hp:b.Gq a c≠0)(u:Int):Fb P N (b.turn a c) a u=sn (b.Gq a c)*Fb P N b a u:=by unfold Fb;rw[Bo.pH h.sh hc,Bo.mN h.sh f,Bo.jg,F.scale (G:=Gt a c b.s b.Gq) λl hl=>Bo.m9 h.sh Q1 Q1 (by have:=h.pos;lia) (h.dvd f hc hp) Q1 Q1,F.own hc f]
theorem Ok.Fo(h:Ok P N b)(f:a<P.m)(hc:c<N)(hp:b.Gq a c≠0)(hi:i<=P.m)(hn:i≠a)(u:Int):b.s*Fb P N (b.turn a c) i u=sn (b.Gq a c)*(b.Gq a c*Fb P N b i u-b.Gq i c*Fb P N b a u):=by
 unfold Fb;rw[Bo.pH h.sh hc,Bo.mN h.sh f,Bo.jg,F.scale (G:=Gt a c b.s b.Gq) λl hl=>Bo.m9 h.sh Q1 Q1 (by have:=h.pos;lia) (h.dvd f hc hp) hi Q1];rw[<-F.Qk hc f hn λl hl j=>h.dvd f hc hp i hi l Q1 j]
 grind
theorem Ok.Ra(h:Ok P N b)(f:a<P.m)(hc:c<N)(hp:b.Gq a c≠0)(t:Nat):Rr P N (b.turn a c) a t=sn (b.Gq a c)*Rr P N b a t:=by
 unfold Rr;split
 .rw[Bo.m9 h.sh Q1 Q1 (by have:=h.pos;lia) (h.dvd f hc hp) Q1 Q1];simp[Gt,show N≠c by lia]
 .exact h.Fa f hc hp _
theorem Ok.Ro(h:Ok P N b)(f:a<P.m)(hc:c<N)(hp:b.Gq a c≠0)(hi:i<=P.m)(hn:i≠a)(t:Nat):b.s*Rr P N (b.turn a c) i t=sn (b.Gq a c)*(b.Gq a c*Rr P N b i t-b.Gq i c*Rr P N b a t):=by
 unfold Rr;split
 .rw[Bo.m9 h.sh Q1 Q1 (by have:=h.pos;lia) (h.dvd f hc hp) hi Q1];have z:=Uy (h.dvd f hc hp i hi N Q1 Q1);simp only[Gt,Zy hn,Zy (show N≠c by lia)]
  grind
 .exact h.Fo f hc hp hi hn _
theorem getD_inj{xs:List Int}(h:xs.Nodup)(hi:i<xs.length)(a:j<xs.length)(e:xs.getD i 0=xs.getD j 0):i=j:=by simp only[Rp,Rg hi,Rg a,Tj] at e;exact(Wd h).mp e
theorem Ok.Ai(h:Ok P N b){G:Nat}(hl:l<N)(s:G<N)(e:b.Aq l=b.Aq G):l=G:=
 getD_inj (Q2.mp h.nd).1 (by rw[h.sh.ac];exact hl) (by rw[h.sh.ac];exact s) e
theorem Ok.Am(h:Ok P N b)(hl:l<N):b.Aq l∈b.ac:=by have:=h.sh.ac;simp[Bo.Aq,Rp,this,hl]
theorem Ok.Bm(h:Ok P N b)(hi:i<P.m):b.Bq i∈b.dn:=by have:=h.sh.dn;simp[Bo.Bq,Rp,this,hi]
theorem Ok.AB(h:Ok P N b)(hl:l<N)(hi:i<P.m):b.Bq i≠b.Aq l:=λe=>(Q2.mp h.nd).2.2 _ (h.Am hl) _ (h.Bm hi) e.symm
theorem Ok.Km(h:Ok P N b)(hl:l<N)(i:Nat):Fb P N b i (b.Aq l)=b.Gq i l:=by unfold Fb F;rw[i4 hl λG s hn=>Zy λe=>hn (h.Ai s hl e),Zx rfl,Zy λz=>h.AB hl z.1 z.2];lia
theorem Ok.O5(h:Ok P N b)(hi:i<P.m):Fb P N b i (b.Bq i)=b.s:=by unfold Fb F;rw[iL λl hl=>Zy λe=>h.AB hl hi e.symm,Zx ⟨hi,rfl⟩];lia
theorem Ok.yf(h:Ok P N b)(g:u∈b.ac++b.dn):-1<=u/\u<(P.n+P.m:Nat):=by have:=(h.nm u).mp g;split at this<;>lia
theorem Ok.nz(h:Ok P N b)(hi:i<P.m)(z:∀t,t<P.m+1->Rr P N b i t=0):False:=by
 have hs:=h.pos;have hN:=h.hN;have I:∀u:Int,(P.n:Int)<=u->u<(P.n+P.m:Nat)->Fb P N b i u=0:=λu h1 h2=>by have:=z ((u-P.n).toNat+1) Q1;unfold Rr at this;rw[Zy Q1,show ((P.n+((u-P.n).toNat+1-1):Nat):Int)=u by lia] at this;exact this
 have p:=h.yf (QO b.ac (h.Bm hi));by_cases O:(P.n:Int)<=b.Bq i
 .have:=I _ O p.2;rw[h.O5 hi] at this;lia
 .obtain⟨T,id⟩:=h.id;have F:=(h.nm _).mp (QO b.ac (h.Bm hi));obtain⟨j,J⟩:∃j:Nat,j=if b.Bq i = -1 then P.n+1 else (b.Bq i).toNat:=⟨_,rfl⟩
  have a:j<P.n+2:=by rw[J];split<;>lia
  have q:j≠P.n:=by rw[J];split<;>lia
  have e:=id i Q1 j a;rw[iL λl hl=>?_] at e
  .have w:P.Wq b i j=1:=by
    unfold Pb.Wq Pb.Yq;rw[Zx hi,J];by_cases U:b.Bq i = -1
    .simp[U,un]
    .rw[Zy U,Zy U,Zx Q1];simp[un]
   rw[w] at e;lia
  .by_cases U:l<N
   .have s:=h.AB U hi;have c:=h.yf (QR b.dn (h.Am U));by_cases V:(P.n:Int)<=b.Aq l
    .have g:=I _ V c.2;rw[h.Km U] at g;simp[Gx,Rv U,g]
    .have x:P.vec N b l j=0:=by
      unfold Pb.vec Pb.Yq;rw[Zx U,J];by_cases L:b.Aq l = -1<;>by_cases X:b.Bq i = -1
      .lia
      .rw[Zx L,Zy X];exact Zy Q1
      .rw[Zy L,Zx Q1,Zx X];exact Zy Q1
      .rw[Zy L,Zx Q1,Zy X];exact Zy Q1
     rw[x,RB]
   .by_cases V:l=N
    .have g:=z 0 Q1;simp only[Rr,if_true] at g;subst V;simp[Gx,g]
    .have x:P.vec N b l j=0:=by
      unfold Pb.vec;rw[Zy U,Zy V];refine Zy ?_;have:N=P.n:=by lia
      rw[Zx this] at F;rw[J];split<;>lia
     rw[x,RB]
theorem uZ{n:Nat}{f:Nat->Nat->Int}:(su n λi=>su m λj=>f i j)=su m λj=>su n λi=>f i j:=by
 induction n with
 |zero=>exact(iL λ_ _=>rfl).symm
 |succ n X=>simp only[su];rw[X];have:=kh (n:=m) (f:=λj=>su n λi=>f i j) (g:=λj=>f n j) (x:=1) (y:=1);simp only[SD] at this;exact this.symm
variable{P:Pb}{N:Nat}{b b1 b2:Bo}
theorem Ok.Ax(h:Ok P N b)(g:u∈b.ac):∃l,l<N/\b.Aq l=u:=by obtain⟨l,hl,e⟩:=Sj g;exact⟨l,by rw[<-h.sh.ac];exact hl,by simp[Bo.Aq,Rp,hl,e]⟩
def Fc(N:Nat)(b:Bo)(r:Nat)(u:Int):Int:=su N λl=>if b.Aq l=u then b.Gq r l else 0
theorem Ok.perm(h1:Ok P N b1)(h2:Ok P N b2)(hs:∀u,u∈b1.ac↔u∈b2.ac)(r:Nat)(y:Int->Int):(su N λl=>Fc N b2 r (b1.Aq l)*y (b1.Aq l))=su N λl=>b2.Gq r l*y (b2.Aq l):=by
 unfold Fc;rw[bG (g:=λl=>su N λG=>(if b2.Aq G=b1.Aq l then b2.Gq r G*y (b2.Aq G) else 0)) λl hl=>by
  rw[RU,<-cV];refine bG λG s=>?_;by_cases e:b2.Aq G=b1.Aq l
  .rw[Zx e,Zx e,e];exact RU _ _
  .rw[Zy e,Zy e,RB],uZ]
 refine bG λG s=>?_;obtain⟨l,hl,e⟩:=h1.Ax ((hs _).mpr (h2.Am s));rw[i4 hl λi hi hn=>Zy λz=>hn (h1.Ai hi hl (z.symm.trans e.symm)),Zx e.symm]
variable{r1 r2:Nat}
theorem Ok.cols(h1:Ok P N b1)(h2:Ok P N b2)(hs:∀u,u∈b1.ac↔u∈b2.ac)(e:r1<=P.m)(x:r2<=P.m)(c:P.Wq b1 r1=P.Wq b2 r2):
  (∀l,l<N->b1.s*Fc N b2 r2 (b1.Aq l)=b2.s*b1.Gq r1 l)/\b1.s*b2.Gq r2 N=b2.s*b1.Gq r1 N:=by
 obtain⟨b,y⟩:=h1.id;obtain⟨h,I⟩:=h2.id;have hN:=h1.hN;have S:=h1.pos;have dn:D (P.n+2) (P.vec N b1)≠0:=λz=>by have:=h1.det;rw[z] at this;simp at this;lia
 have key:∀j,j<P.n+2->b2.s*P.Wq b1 r1 j=su (P.n+2) λl=>(if l<N then-Fc N b2 r2 (b1.Aq l) else if l=N then b2.Gq r2 N else h r2)*P.vec N b1 l j:=λj a=>by
  rw[c,I r2 x j a];have q:=h1.perm h2 hs r2 λu=>P.Yq u j;have e1:(su N λl=>qs N l*Gx N b2 h r2 l*P.vec N b2 l j) =-su N λl=>b2.Gq r2 l*P.Yq (b2.Aq l) j:=by rw[<-Sg,<-cV];refine bG λl hl=>?_;simp only[qs,Gx,Pb.vec,Zx hl,Zx (Rv hl)];grind
  have e2:(su N λl=>(if l<N then-Fc N b2 r2 (b1.Aq l) else if l=N then b2.Gq r2 N else h r2)*P.vec N b1 l j) =-su N λl=>Fc N b2 r2 (b1.Aq l)*P.Yq (b1.Aq l) j:=by rw[<-Sg,<-cV];refine bG λl hl=>?_;simp only[Pb.vec,Zx hl];grind
  rcases hN with z|z
  .rw[<-z];simp only[su];rw[e1,e2,q];simp[qs,Gx,Pb.vec,show ¬ N+1<N by lia,show ¬ N+1<=N by lia]
  .rw[show P.n+2=N+1 by lia];simp only[su];rw[e1,e2,q];simp[qs,Gx,Pb.vec]
 have go:∀l,l<P.n+2->b1.s*(if l<N then-Fc N b2 r2 (b1.Aq l) else if l=N then b2.Gq r2 N else h r2)=b2.s*(qs N l*Gx N b1 b r1 l):=λl hl=>by
  have O:=D.Ig (v:=P.vec N b1) (w:=P.Wq b1 r1) (s:=b1.s) hl (y r1 e);have U:=D.Ig (v:=P.vec N b1) (w:=P.Wq b1 r1) (s:=b2.s) hl key;refine Sr dn ?_
  grind
 refine⟨λl hl=>?_,?_⟩
 .have z:=go l (h1.hc hl);simp only[qs,Gx,Zx hl,Zx (Rv hl)] at z
  grind
 .have z:=go N Q1;simp only[qs,Gx,Ri,if_false,if_true,QY] at z
  grind
theorem Ok.uniq(h1:Ok P N b1)(h2:Ok P N b2)(hs:∀u,u∈b1.ac↔u∈b2.ac)(e:r1<=P.m)(x:r2<=P.m)(c:P.Wq b1 r1=P.Wq b2 r2)(r:r1<P.m->b1.Bq r1<P.n)(o2:r2<P.m->b2.Bq r2<P.n)(t:Nat):
  b2.s*Rr P N b1 r1 t=b1.s*Rr P N b2 r2 t:=by
 obtain⟨O,U⟩:=h1.cols h2 hs e x c;unfold Rr;split
 .exact U.symm
 .generalize g:((P.n+(t-1):Nat):Int)=u;have h:Fb P N b1 r1 u=Fc N b1 r1 u:=by unfold Fb F Fc;rw[Zy λz=>by have:=r z.1;lia];exact R7 _
  have G:Fb P N b2 r2 u=Fc N b2 r2 u:=by unfold Fb F Fc;rw[Zy λz=>by have:=o2 z.1;lia];exact R7 _
  rw[h,G];by_cases m:u∈b1.ac
  .obtain⟨l,hl,rfl⟩:=h1.Ax m;rw[O l hl];unfold Fc;rw[i4 hl λi hi hn=>Zy λz=>hn (h1.Ai hi hl z),Zx rfl]
  .unfold Fc;rw[iL λl hl=>Zy λ(z:b1.Aq l=u)=>m (by rw[<-z];exact h1.Am hl),iL λl hl=>Zy λ(z:b2.Aq l=u)=>m ((hs u).mpr (by rw[<-z];exact h2.Am hl))];simp
variable{P:Pb}{N a c:Nat}{b b':Bo}
def Lp(P:Pb)(N:Nat)(b:Bo):Prop:=∀i,i<P.m->LP (P.m+1) (Rr P N b i)
theorem Lp.turn(h:Ok P N b)(q:Lp P N b)(f:a<P.m)(hc:c<N)(hp:0<b.Gq a c)(hm:∀i,i<P.m->0<b.Gq i c->¬ LL (P.m+1) (Rr P N b i) (b.Gq i c) (Rr P N b a) (b.Gq a c)):Lp P N (b.turn a c):=λi hi=>by
 have hs:=h.pos;have w:sn (b.Gq a c)=1:=Zy Q1;by_cases e:i=a
 .subst e;exact(q i hi).congr λt _=>by rw[h.Ra hi hc Q1,w,SD]
 .have X:∀t,b.s*Rr P N (b.turn a c) i t=b.Gq a c*Rr P N b i t+(- b.Gq i c)*Rr P N b a t:=λt=>by rw[h.Ro f hc Q1 Q1 e,w];grind
  by_cases g:b.Gq i c<=0
  .exact LP.tI hs (((LP.mul hp (q i hi)).OH (LN.mul (x:=- b.Gq i c) Q1 (q a f).ln)).congr λt _=>(X t).symm)
  .have z:LN (P.m+1) λt=>b.s*Rr P N (b.turn a c) i t:=λz=>hm i hi Q1 (z.congr λt _=>by show-(b.s*Rr P N (b.turn a c) i t)=_;rw[X t];grind);rcases z.or with z|z
   .exact LP.tI hs z
   .exact((h.turn f hc Q1).nz hi λt l=>(WJ.mp (z t l)).resolve_left Q1).elim
variable{r:Nat}
theorem Ok.Ez(h:Ok P N b)(q:Lp P N b)(f:a<P.m)(hc:c<N)(hp:0<b.Gq a c)(R:r<=P.m)(hn:r≠a)(J:b.Gq r c<0):LL (P.m+1) (Rr P N b r) b.s (Rr P N (b.turn a c) r) (b.turn a c).s:=by have w:sn (b.Gq a c)=1:=Zy Q1;refine(LP.mul (x:=- b.Gq r c) Q1 (q a f)).congr λt _=>?_;rw[Bo.jg,h.Ro f hc Q1 R hn,w];grind
theorem Ok.Oz(h:Ok P N b)(q:Lp P N b)(f:a<P.m)(hc:c<N)(hp:0<b.Gq a c)(R:r<=P.m)(hn:r≠a)(J:0<b.Gq r c):LL (P.m+1) (Rr P N (b.turn a c) r) (b.turn a c).s (Rr P N b r) b.s:=by have w:sn (b.Gq a c)=1:=Zy Q1;refine(LP.mul (x:=b.Gq r c) J (q a f)).congr λt _=>?_;rw[Bo.jg,h.Ro f hc Q1 R hn,w];grind
noncomputable def allB:Nat->List (List Bool)
 |0=>[[]]
 |k+1=>(allB k).map (true::·)++(allB k).map (false::·)
theorem mV:∀{x:List Bool}{k:Nat},x.length=k->x∈allB k
 |[],_,rfl=>Rl.mpr rfl
 |true::x,_,rfl=>QR _ (Rq.mpr ⟨x,mV rfl,rfl⟩)
 |false::x,_,rfl=>QO _ (Rq.mpr ⟨x,mV rfl,rfl⟩)
theorem qI{α:Type}{p q:α->Bool}(h:∀x,q x=true->p x=true){x0:α}(h1:p x0=true)(h2:q x0=false):∀{L:List α},x0∈L->L.countP q<L.countP p
 |[],z=>nomatch z
 |x::L,z=>by
  have le:=List.countP_mono_left (l:=L) λy _=>h y;rw[Wn,Wn];rcases QV.mp z with rfl|z
  .rw[h1,h2];simp;lia
  .have:=qI h h1 h2 z;by_cases e:q x=true
   .rw[e,h x e];simp;lia
   .rw[Zy e];lia
noncomputable def key(P:Pb)(b:Bo):List Bool:=(Rb (P.n+P.m+1)).map λk=>b.ac.contains ((Tt k)-1)
theorem AX{b1 b2:Bo}(h1:Ok P N b1)(h2:Ok P N b2)(e:key P b1=key P b2)(u:Int):u∈b1.ac↔u∈b2.ac:=by
 have go:∀{b1 b2:Bo},Ok P N b1->key P b1=key P b2->u∈b1.ac->u∈b2.ac:=λ{b1 b2} h1 e g=>by have r:=h1.yf (QR _ g);have z:=ZC (λx=>x[(u+1).toNat]?) e;simp only[key,Rm,Si (show (u+1).toNat<P.n+P.m+1 by lia),Wa,Vr,show Tt (u+1).toNat-1=u by have:Tt (u+1).toNat=((u+1).toNat:Int):=rfl;lia] at z;exact SN.mp (z▸SN.mpr g)
 exact⟨go h1 e,go h2 e.symm⟩
open Classical in
def ms(P:Pb)(K:Bo->Prop)(ob:Bo->Nat->Int)(b:Bo):Nat:=(allB (P.n+P.m+1)).countP λx=>decide (∃b',K b'/\key P b'=x/\LL (P.m+1) (ob b) b.s (ob b') b'.s)
open Classical in
theorem Gs{K:Bo->Prop}{ob:Bo->Nat->Int}(hs:∀b,K b->0<b.s)(g:∀b1 b2,K b1->K b2->key P b1=key P b2->∀t,b2.s*ob b1 t=b1.s*ob b2 t)(h:K b)(h':K b')(X:LL (P.m+1) (ob b) b.s (ob b') b'.s):ms P K ob b'<ms P K ob b:=by
 refine qI (x0:=key P b') (λx hx=>?_) (ZA ⟨b',h',rfl,X⟩) (Zz ?_) (mV (by simp[key]))
 .obtain⟨o,k,e,l⟩:=ZE hx;exact ZA ⟨o,k,e,LL.trans (hs _ h) (hs _ h') (hs _ k) X l⟩
 .rintro⟨o,k,e,l⟩;obtain⟨t,_,z,_⟩:=l;have:=g b' o h' k e.symm t;have z:0<b'.s*ob o t-o.s*ob b' t:=z;lia
variable{P:Pb}{N c:Nat}{b:Bo}
theorem IU{n:Nat}{g:Nat->Int}:su n (λi=>f i-g i)=su n f-su n g:=by have:=kh (n:=n) (f:=f) (g:=g) (x:=1) (y:=-1);simp only[SD] at this;rw[show su n f-su n g=su n f + -1*su n g by lia,<-this];exact bG λi _=>by lia
theorem OE(u:Int)(g:-1<=u)(h2:u<(P.n+P.m:Nat))(L:j<P.n):P.Yq u j=(if u=j then 1 else 0)-su P.m λk=>if u=((P.n+k:Nat):Int) then P.R k j else 0:=by
 unfold Pb.Yq;by_cases O:u = -1
 .rw[Zx O,iL λk hk=>Zy Q1,Zy Q1];exact Zy Q1
 .rw[Zy O];by_cases U:u<P.n
  .rw[Zx U,iL λk hk=>Zy Q1];unfold un;by_cases V:u=j
   .rw[Zx Q1,Zx V];rfl
   .rw[Zy Q1,Zy V];rfl
  .have e1:(if u=(j:Int) then (1:Int) else 0)=0:=Zy Q1;have e2:(su P.m λk=>if u=((P.n+k:Nat):Int) then P.R k j else 0)=P.R (u-P.n).toNat j:=by rw[i4 (a:=(u-P.n).toNat) Q1 λk hk hn=>Zy Q1];exact Zx Q1
   rw[Zy U,e1,e2];simp[L]
theorem Qh(u:Int)(g:-1<=u)(h2:u<(P.n+P.m:Nat)):P.Yq u P.n=su P.m λk=>if u=((P.n+k:Nat):Int) then P.L k else 0:=by
 unfold Pb.Yq;by_cases O:u = -1
 .rw[Zx O,iL λk hk=>Zy Q1];exact Zy Q1
 .rw[Zy O];by_cases U:u<P.n
  .rw[Zx U,iL λk hk=>Zy Q1];exact Zy Q1
  .have e2:(su P.m λk=>if u=((P.n+k:Nat):Int) then P.L k else 0)=P.L (u-P.n).toNat:=by rw[i4 (a:=(u-P.n).toNat) Q1 λk hk hn=>Zy Q1];exact Zx Q1
   rw[Zy U,e2];simp
theorem Gf{x:Nat->Int}:(su N λl=>b.Gq r l*su P.m λk=>if b.Aq l=((P.n+k:Nat):Int) then x k else 0)=su P.m λk=>Fc N b r ((P.n+k:Nat):Int)*x k:=by
 rw[bG (g:=λl=>su P.m λk=>if b.Aq l=((P.n+k:Nat):Int) then b.Gq r l*x k else 0) λl hl=>by rw[<-cV];refine bG λk hk=>?_;split<;>simp,uZ]
 refine bG λk hk=>?_;unfold Fc;rw[RU,<-cV];refine bG λl hl=>?_;split
 .exact RU _ _
 .simp
theorem Ok.LJ(h:Ok P N b)(R:r<=P.m)(a:j<P.n+1):b.s*P.Wq b r j=(su N λl=>- (b.Gq r l*P.Yq (b.Aq l) j))+b.Gq r N*un P.n j:=by
 obtain⟨T,id⟩:=h.id;rw[id r R j Q1];have e:(su N λl=>qs N l*Gx N b T r l*P.vec N b l j)=su N λl=>- (b.Gq r l*P.Yq (b.Aq l) j):=bG λl hl=>by simp only[qs,Gx,Pb.vec,Zx hl,Zx (Rv hl)];grind
 rcases h.hN with z|z
 .subst z;simp only[su];rw[e];simp[qs,Gx,Pb.vec,show ¬ P.n+1<P.n by lia,show ¬ P.n+1<=P.n by lia,un,show j≠P.n+1 by lia]
 .rw[show P.n+2=N+1 by lia];simp only[su];rw[e];simp[qs,Gx,Pb.vec]
theorem Ok.cost(h:Ok P N b)(S:r<=P.m)(a:j<P.n):b.s*P.Wq b r j=(su P.m λk=>Fc N b r ((P.n+k:Nat):Int)*P.R k j)-Fc N b r j:=by rw[h.LJ S Q1,show un P.n j=0 from Zy Q1,RB,R7,<-Gf];rw[show Fc N b r j=su N λl=>b.Gq r l*if b.Aq l=j then 1 else 0 from bG λl hl=>by split<;>simp,<-IU];refine bG λl hl=>?_;have:=h.yf (QR b.dn (h.Am hl));rw[OE (b.Aq l) this.1 this.2 a];grind
theorem Ok.FJ(h:Ok P N b)(R:r<=P.m):b.s*P.Wq b r P.n=b.Gq r N-su P.m λk=>Fc N b r ((P.n+k:Nat):Int)*P.L k:=by
 rw[h.LJ R Q1,show un P.n P.n=1 from Zx rfl,SH,<-Gf];rw[show (su N λl=>- (b.Gq r l*P.Yq (b.Aq l) P.n)) =-su N λl=>b.Gq r l*su P.m λk=>if b.Aq l=((P.n+k:Nat):Int) then P.L k else 0 from by rw[<-Sg,<-cV];refine bG λl hl=>?_;have:=h.yf (QR b.dn (h.Am hl));rw[Qh (b.Aq l) this.1 this.2];lia]
 lia
def vl(P:Pb)(b:Bo)(c:Nat)(u:Int):Int:=(su P.m λi=>if b.Bq i=u then qs P.n c*b.Gq i c else 0)+if c<P.n/\b.Aq c=u then b.s else 0
theorem Ok.Ld(h:Ok P P.n b)(hc:c<=P.n)(g:u∈b.ac++b.dn):b.s*D (P.n+2) (up c (P.Yq u) (P.vec P.n b))=vl P b c u*D (P.n+2) (P.vec P.n b):=by
 obtain⟨T,id⟩:=h.id;rcases Q0.mp g with m|m
 .obtain⟨l,hl,rfl⟩:=h.Ax m;have z:su P.m (λi=>if b.Bq i=b.Aq l then qs P.n c*b.Gq i c else 0)=0:=iL λi hi=>Zy (h.AB hl hi);unfold vl;rw[z];by_cases e:l=c
  .subst e;rw[Zx ⟨hl,rfl⟩,show P.Yq (b.Aq l)=P.vec P.n b l by simp[Pb.vec,hl],sQ,Up]
  .rw[Zy λz=>e (h.Ai hl z.1 z.2.symm),D.alike (a:=c) (b:=l) Q1 Q1 (RP e) (by simp[up,e,Pb.vec,hl])];simp
 .obtain⟨i,hi,e⟩:=Sj m;have x:i<P.m:=by rw[<-h.sh.dn];exact hi
  have e2:b.Bq i=u:=by simp[Bo.Bq,Rp,hi,e]
  subst e2;have z:su P.m (λH=>if b.Bq H=b.Bq i then qs P.n c*b.Gq H c else 0)=qs P.n c*b.Gq i c:=by rw[i4 x λH h1 hn=>Zy λ(z:b.Bq H=b.Bq i)=>hn (getD_inj (Q2.mp h.nd).2.1 (by rw[h.sh.dn];exact h1) hi z),Zx rfl]
  unfold vl;rw[z,Zy λz=>h.AB z.1 x z.2.symm];have k:=D.Ig (v:=P.vec P.n b) (w:=P.Wq b i) (s:=b.s) (show c<P.n+2 by lia) (id i Q1);rw[show P.Wq b i=P.Yq (b.Bq i) by simp[Pb.Wq,x]] at k;rw[k];simp[Gx,hc]
theorem Ok.Qi(h:Ok P N b):D (P.n+2) (P.vec N b)≠0:=λz=>by have d:=h.det;have:=h.pos;rw[z] at d;simp at d;lia
theorem Ok.FX(h:Ok P P.n b)(hc:c<=P.n){x:Nat->Int}(e:∀j,j<P.n+2->w j=su (P.n+2) λt=>x t*un t j){g:Int}(G:b.s*D (P.n+2) (up c w (P.vec P.n b))=g*D (P.n+2) (P.vec P.n b)):
  g=(su P.n λj=>x j*vl P b c j)+if c=P.n then b.s*x P.n else 0:=by
 refine Sr h.Qi ?_;rw[<-G,D.congr (w:=up c (λj=>su (P.n+2) λt=>x t*un t j) (P.vec P.n b)) λi j hi O=>by
  unfold up;split
  .exact e j O
  .rfl,D.sum Q1]
 have Q:D (P.n+2) (up c (un P.n) (P.vec P.n b))=if c=P.n then D (P.n+2) (P.vec P.n b) else 0:=by
  have v:P.vec P.n b P.n=un P.n:=by simp[Pb.vec]
  split
  .rename_i z;subst z;rw[<-v,sQ]
  .rename_i z;exact D.alike (a:=c) (b:=P.n) Q1 Q1 z (by simp[up,RP z,v])
 have H:D (P.n+2) (up c (un (P.n+1)) (P.vec P.n b))=0:=D.alike (a:=c) (b:=P.n+1) Q1 Q1 Q1 (by simp[up,show P.n+1≠c by lia,Pb.vec,show ¬ P.n+1<P.n by lia]);simp only[su];rw[Q,H,RB,R7,U6,<-cV,Int.add_mul,show ∀(f:Nat->Int)(y:Int),su P.n f*y=su P.n λi=>y*f i from λf y=>by rw[RU,cV]]
 congr 1
 .refine bG λj O=>?_;have z:=h.Ld hc (u:=j) ((h.nm j).mpr (by rw[Zx rfl];lia));rw[show P.Yq j=un j by unfold Pb.Yq;rw[Zy Q1,Zx Q1];simp] at z
  grind
 .split<;>grind
theorem Ok.FC(h:Ok P P.n b)(hc:c<=P.n)(hk:k<P.m):vl P b c ((P.n+k:Nat):Int)=(if c=P.n then b.s*P.L k else 0)-su P.n λj=>P.R k j*vl P b c j:=by
 have z:=h.Ld hc (u:=((P.n+k:Nat):Int)) ((h.nm _).mpr (by rw[Zx rfl];lia));have e:=h.FX hc (x:=λt=>if t<P.n then-P.R k t else if t=P.n then P.L k else 1) (w:=P.Yq ((P.n+k:Nat):Int)) (λj a=>by rw[i4 a λt l hn=>by rw[show un t j=0 from Zy (RP hn),RB]];unfold Pb.Yq;rw[Zy Q1,Zy Q1,show (((P.n+k:Nat):Int)-P.n).toNat=k by lia];simp[un]) z
 rw[e];simp only[Ri,if_false,if_true];rw[bG (g:=λj=>-1*(P.R k j*vl P b c j)) λj a=>by simp only[Zx a];grind,cV];lia
theorem Ok.worth(h:Ok P P.n b)(hc:c<=P.n):qs P.n c*b.Gq P.m c=su P.n λj=>P.c j*vl P b c j:=by
 obtain⟨T,id⟩:=h.id;have k:=D.Ig (v:=P.vec P.n b) (w:=P.Wq b P.m) (s:=b.s) (show c<P.n+2 by lia) (id P.m Q1);rw[show P.Wq b P.m=P.zq by simp[Pb.Wq]] at k;have e:=h.FX hc (x:=λt=>if t<P.n then P.c t else 0) (w:=P.zq) (λj a=>by rw[i4 a λt l hn=>by rw[show un t j=0 from Zy (RP hn),RB]];simp[Pb.zq,un]) k
 simp only[Gx,Zx hc,Ri,if_false,RB,ite_self,R7] at e;rw[e];exact bG λj a=>by rw[Zx a]
variable{P:Pb}
noncomputable def fM(P:Pb):Bo:=⟨(Rb P.n).map Tt,(Rb P.m).map λi=>((P.n+i:Nat):Int),((Rb P.m).map λi=>((Rb P.n).map λj=>P.R i j)++[P.L i])++[((Rb P.n).map λj=>- P.c j)++[0]],1⟩
noncomputable def bW(P:Pb):Bo:=⟨((Rb P.n).map Tt)++[-1],(Rb P.m).map λi=>((P.n+i:Nat):Int),((Rb P.m).map λi=>((Rb P.n).map λj=>P.R i j)++[-1,P.L i])++[((Rb P.n).map λj=>- P.c j)++[0,0]],1⟩
theorem dU{xs ys:List α}{d:α}(h:i<xs.length):(xs++ys).getD i d=xs.getD i d:=by simp[Rp,RW h]
theorem dm{xs ys:List α}{d:α}(h:xs.length<=i):(xs++ys).getD i d=ys.getD (i-xs.length) d:=by simp[Rp,RG h]
theorem cY{f:Nat->α}{n:Nat}{d:α}(h:i<n):((Rb n).map f).getD i d=f i:=by simp[Rp,h]
theorem sy(hi:i<=P.m)(hl:l<=P.n):(fM P).Gq i l=if i<P.m then (if l<P.n then P.R i l else P.L i) else if l<P.n then-P.c l else 0:=by
 unfold Bo.Gq fM;dsimp only;by_cases c:i<P.m
 .rw[dU (by simpa using c),cY c,Zx c];by_cases e:l<P.n
  .rw[dU (by simpa using e),cY e,Zx e]
  .rw[dm (by simp;lia),Zy e,show l=P.n by lia];simp
 .rw[dm (by simp;lia),Zy c,show i=P.m by lia];simp only[QU,Te,Ti,V1];by_cases e:l<P.n
  .rw[dU (by simpa using e),cY e,Zx e]
  .rw[dm (by simp;lia),Zy e,show l=P.n by lia];simp
theorem hY(hi:i<=P.m)(hl:l<=P.n+1):(bW P).Gq i l=if i<P.m then (if l<P.n then P.R i l else if l=P.n then -1 else P.L i) else if l<P.n then-P.c l else 0:=by
 unfold Bo.Gq bW;dsimp only;by_cases c:i<P.m
 .rw[dU (by simpa using c),cY c,Zx c];by_cases e:l<P.n
  .rw[dU (by simpa using e),cY e,Zx e]
  .rw[dm (by simp;lia),Zy e];by_cases e2:l=P.n
   .subst e2;simp
   .rw[show l=P.n+1 by lia];simp
 .rw[dm (by simp;lia),Zy c,show i=P.m by lia];simp only[QU,Te,Ti,V1];by_cases e:l<P.n
  .rw[dU (by simpa using e),cY e,Zx e]
  .rw[dm (by simp;lia),Zy e];by_cases e2:l=P.n
   .subst e2;simp
   .rw[show l=P.n+1 by lia];simp
theorem FE(hl:l<P.n):(fM P).Aq l=l:=cY hl
theorem pE(hl:l<P.n+1):(bW P).Aq l=if l<P.n then (l:Int) else -1:=by
 unfold Bo.Aq bW;dsimp only;by_cases c:l<P.n
 .rw[dU (by simpa using c),cY c,Zx c];rfl
 .rw[dm (by simp;lia),Zy c,show l=P.n by lia];simp
theorem FN(hi:i<P.m):(fM P).Bq i=((P.n+i:Nat):Int):=cY hi
theorem An(hi:i<P.m):(bW P).Bq i=((P.n+i:Nat):Int):=cY hi
theorem Nw(h:j<P.n):P.Yq j=un j:=by unfold Pb.Yq;rw[Zy Q1,Zx Q1];simp
theorem LF(i:Nat):P.Yq ((P.n+i:Nat):Int)=λj=>if j<P.n then-P.R i j else if j=P.n then P.L i else 1:=by unfold Pb.Yq;rw[Zy Q1,Zy Q1,show (((P.n+i:Nat):Int)-P.n).toNat=i by lia]
theorem O4:P.Yq (-1)=un (P.n+1):=Zx rfl
theorem iT(h:j≠i):un i j=0:=Zy h
theorem u3(i:Nat):un i i=1:=Zx rfl
theorem mH(n:Nat):((Rb n).map Tt).Nodup:=Vg _ (λa b h z=>h (Tt.inj z)) Wo
theorem rF(P:Pb):((Rb P.m).map λi=>((P.n+i:Nat):Int)).Nodup:=Vg _ (λa b h (z:((P.n+a:Nat):Int)=((P.n+b:Nat):Int))=>by lia) Wo
theorem yN(P:Pb):Ok P P.n (fM P):=by
 have k:∀l,l<P.n+2->P.vec P.n (fM P) l=un l:=λl hl=>by
  unfold Pb.vec;by_cases c:l<P.n
  .rw[Zx c,FE c,Nw c]
  .rw[Zy c];by_cases U:l=P.n
   .rw[Zx U,U]
   .rw[Zy U,show l=P.n+1 by lia]
 refine⟨⟨by simp[fM],by simp[fM],by simp[fM],?_⟩,?_,λu=>?_,by simp[fM],.inl rfl,?_,?_⟩
 .intro x hx;rcases Q0.mp hx with z|z
  .obtain⟨i,_,rfl⟩:=Rq.mp z;simp
  .rw[Rl.mp z];simp
 .refine Q2.mpr ⟨mH _,rF P,λa f b d=>?_⟩;obtain⟨x,hx,rfl⟩:=Rq.mp f;obtain⟨y,hy,rfl⟩:=Rq.mp d;have:=RJ.mp hx;show (x:Int)≠_;lia
 .rw[Zx rfl];constructor
  .intro h;rcases Q0.mp h with h|h
   .obtain⟨x,hx,rfl⟩:=Rq.mp h;have:=RJ.mp hx;show 0<=(x:Int)/\(x:Int)<_;lia
   .obtain⟨x,hx,rfl⟩:=Rq.mp h;have:=RJ.mp hx;lia
  .rintro⟨h1,h2⟩;by_cases c:u<P.n
   .exact QR _ (Rq.mpr ⟨u.toNat,RJ.mpr Q1,by show ((u.toNat:Nat):Int)=u;lia⟩)
   .exact QO _ (Rq.mpr ⟨(u-P.n).toNat,RJ.mpr Q1,by show ((P.n+(u-P.n).toNat:Nat):Int)=u;lia⟩)
 .rw[D.un k];rfl
 .refine⟨λi=>if i<P.m then 1 else 0,λi hi j O=>?_⟩;rw[i4 O λl hl hn=>by rw[k l hl,iT (RP hn),RB],k j O,u3,SH];show 1*P.Wq (fM P) i j=_;rw[SD];unfold Pb.Wq Gx qs;by_cases c:i<P.m
  .rw[Zx c,FN c,LF];by_cases e:j<P.n
   .simp[e,Rv e,sy hi (Rv e),c]
   .by_cases e2:j=P.n
    .subst e2;simp[sy hi (QY _),c]
    .simp[e,e2,show ¬ j<=P.n by lia,c]
  .rw[Zy c];unfold Pb.zq;by_cases e:j<P.n
   .simp[e,Rv e,sy hi (Rv e),c]
   .by_cases e2:j=P.n
    .subst e2;simp[sy hi (QY _),c]
    .simp[e,show ¬ j<=P.n by lia,c]
theorem FA{b:Bo}(h:∀l,l<N->b.Aq l<P.n)(G:∀i,i<P.m->b.Bq i=((P.n+i:Nat):Int))(hs:b.s=1)(hk:k<P.m):Fb P N b i ((P.n+k:Nat):Int)=if i=k then 1 else 0:=by
 unfold Fb F;rw[iL λl hl=>Zy λz=>by have:=h l hl;lia,hs];by_cases c:i=k
 .subst c;rw[Zx ⟨hk,G i hk⟩,Zx rfl];rfl
 .rw[Zy λz=>by have:=G i z.1;lia,Zy c];rfl
theorem J9(h:∀i,i<P.m->0<=P.L i):Lp P P.n (fM P):=λi hi=>by
 have v:Rr P P.n (fM P) i 0=P.L i:=by unfold Rr;rw[Zx rfl,sy Q1 (QY _),Zx hi,Zy (Ri _)]
 have f:∀k,k<P.m->Rr P P.n (fM P) i (k+1)=if i=k then 1 else 0:=λk hk=>by unfold Rr;rw[Zy Q1];exact FA (λl hl=>by rw[FE hl];lia) (λi hi=>FN hi) rfl hk
 have:=h i hi;by_cases c:P.L i=0
 .refine⟨i+1,by lia,by rw[f i hi,Zx rfl];decide,λu g=>?_⟩;cases u with
  |zero=>rw[v,c]
  |succ u=>rw[f u Q1,Zy Q1]
 .exact⟨0,by lia,by rw[v];lia,λu g=>by lia⟩
variable{P:Pb}{a c:Nat}{b:Bo}
theorem qh(P:Pb):Ok P (P.n+1) (bW P):=by
 have o:∀l,l<P.n->P.vec (P.n+1) (bW P) l=un l:=λl hl=>by unfold Pb.vec;rw[Zx Q1,pE Q1,Zx hl,Nw hl]
 have p:P.vec (P.n+1) (bW P) P.n=un (P.n+1):=by unfold Pb.vec;rw[Zx Q1,pE Q1,Zy (Ri _),O4]
 have s:P.vec (P.n+1) (bW P) (P.n+1)=un P.n:=by unfold Pb.vec;rw[Zy (Ri _),Zx rfl]
 refine⟨⟨by simp[bW],by simp[bW],by simp[bW],?_⟩,?_,λu=>?_,by simp[bW],.inr rfl,?_,?_⟩
 .intro x hx;rcases Q0.mp hx with z|z
  .obtain⟨i,_,rfl⟩:=Rq.mp z;simp
  .rw[Rl.mp z];simp
 .refine Q2.mpr ⟨Q2.mpr ⟨mH _,by simp,λa f b E=>?_⟩,rF P,λa f b E=>?_⟩
  .obtain⟨x,hx,rfl⟩:=Rq.mp f;rw[Rl.mp E];show (x:Int) ≠ -1;lia
  .obtain⟨y,hy,rfl⟩:=Rq.mp E;rcases Q0.mp f with f|f
   .obtain⟨x,hx,rfl⟩:=Rq.mp f;have:=RJ.mp hx;show (x:Int)≠_;lia
   .rw[Rl.mp f];lia
 .rw[Zy Q1];constructor
  .intro h;rcases Q0.mp h with h|h
   .rcases Q0.mp h with h|h
    .obtain⟨x,hx,rfl⟩:=Rq.mp h;have:=RJ.mp hx;show -1<=(x:Int)/\(x:Int)<_;lia
    .rw[Rl.mp h];lia
   .obtain⟨x,hx,rfl⟩:=Rq.mp h;have:=RJ.mp hx;lia
  .rintro⟨h1,h2⟩;by_cases X:u = -1
   .exact QR _ (QO _ (Rl.mpr X))
   .by_cases c:u<P.n
    .exact QR _ (QR _ (Rq.mpr ⟨u.toNat,RJ.mpr Q1,by show ((u.toNat:Nat):Int)=u;lia⟩))
    .exact QO _ (Rq.mpr ⟨(u-P.n).toNat,RJ.mpr Q1,by show ((P.n+(u-P.n).toNat:Nat):Int)=u;lia⟩)
 .rw[<-D.mv (d:=1) (k:=P.n+2) (c:=P.n) rfl,D.un λl hl=>?_]
  .rfl
  .unfold mv;by_cases c:l<P.n
   .rw[Zx c,o l c]
   .rw[Zy c];by_cases U:l=P.n
    .rw[Zx Q1,U,s]
    .rw[Zy Q1,Zx Q1,p,show l=P.n+1 by lia]
 .refine⟨λ_=>0,λi hi j O=>?_⟩;show 1*P.Wq (bW P) i j=_;rw[SD];have w:P.Wq (bW P) i j=if i<P.m then (if j<P.n then-P.R i j else if j=P.n then P.L i else 1) else if j<P.n then P.c j else 0:=by
   unfold Pb.Wq;by_cases c:i<P.m
   .rw[Zx c,Zx c,An c,LF]
   .rw[Zy c,Zy c];rfl
  rw[w];by_cases e:j<P.n
  .rw[i4 (a:=j) Q1 λl hl hn=>by
    by_cases c:l<P.n
    .rw[o l c,iT (RP hn),RB]
    .by_cases U:l=P.n
     .rw[U,p,iT Q1,RB]
     .rw[show l=P.n+1 by lia,s,iT Q1,RB],o j e,u3,SH]
   unfold Gx qs;by_cases c:i<P.m
   .simp[hY hi (show j<=P.n+1 by lia),e,c,show j<P.n+1 by lia,show j<=P.n+1 by lia]
   .simp[hY hi (show j<=P.n+1 by lia),e,c,show j<P.n+1 by lia,show j<=P.n+1 by lia]
  .by_cases e2:j=P.n
   .rw[i4 (a:=P.n+1) Q1 λl hl hn=>by
     by_cases c:l<P.n
     .rw[o l c,iT Q1,RB]
     .rw[show l=P.n by lia,p,iT Q1,RB],s,e2,u3,SH]
    unfold Gx qs;rw[Zy (Ri _),Zx (QY _),hY hi Q1];by_cases c:i<P.m
    .simp[c,show ¬ P.n+1<P.n by lia]
    .simp[c,show ¬ P.n+1<P.n by lia]
   .rw[i4 (a:=P.n) Q1 λl hl hn=>by
     by_cases c:l<P.n
     .rw[o l c,iT Q1,RB]
     .rw[show l=P.n+1 by lia,s,iT Q1,RB],p,show j=P.n+1 by lia,u3,SH]
    unfold Gx qs;by_cases c:i<P.m
    .simp[c,hY hi (show P.n<=P.n+1 by lia),show ¬ P.n+1<P.n by lia]
    .simp[c,hY hi (show P.n<=P.n+1 by lia),show ¬ P.n+1<P.n by lia]
theorem xY(r:a<P.m)(S:P.L a<0)(h1:∀i,i<P.m->P.L a<=P.L i)(h2:∀i,i<P.m->a<i->P.L a<P.L i):Ok P (P.n+1) ((bW P).turn a P.n)/\Lp P (P.n+1) ((bW P).turn a P.n):=by
 have g:∀i,i<P.m->(bW P).Gq i P.n = -1:=λi hi=>by rw[hY Q1 Q1,Zx hi,Zy (Ri _),Zx rfl]
 have ok:=qh P;have ne:(bW P).Gq a P.n≠0:=by rw[g a r];decide
 refine⟨ok.turn r Q1 ne,λi hi=>?_⟩;have v:∀i,i<P.m->Rr P (P.n+1) (bW P) i 0=P.L i:=λi hi=>by unfold Rr;rw[Zx rfl,hY Q1 (QY _),Zx hi,Zy Q1,Zy Q1]
 have f:∀i k,k<P.m->Rr P (P.n+1) (bW P) i (k+1)=if i=k then 1 else 0:=λi k hk=>by unfold Rr;rw[Zy Q1];exact FA (λl hl=>by rw[pE hl];split<;>lia) (λi hi=>An hi) rfl hk
 have w:sn ((bW P).Gq a P.n) = -1:=by rw[g a r];rfl
 by_cases e:i=a
 .subst e;refine⟨0,by lia,?_,λu p=>by lia⟩;rw[ok.Ra hi Q1 ne,w,v i hi];lia
 .have x:∀t,Rr P (P.n+1) ((bW P).turn a P.n) i t=Rr P (P.n+1) (bW P) i t-Rr P (P.n+1) (bW P) a t:=λt=>by have z:=ok.Ro r (show P.n<P.n+1 by lia) ne (show i<=P.m by lia) e t;rw[w,g a r,g i hi,show (bW P).s=1 from rfl] at z;lia
  have G:=h1 i hi;by_cases X:P.L i=P.L a
  .have Y:i<a:=by
    rcases Nat.lt_or_ge i a with z|z
    .exact z
    .have:=h2 i hi Q1;lia
   refine⟨i+1,by lia,?_,λu p=>?_⟩
   .rw[x,f i i hi,f a i hi,Zx rfl,Zy (RP e)];decide
   .rw[x];cases u with
    |zero=>rw[v i hi,v a r,X];lia
    |succ u=>rw[f i u Q1,f a u Q1,Zy Q1,Zy Q1];rfl
  .exact⟨0,by lia,by rw[x,v i hi,v a r];lia,λu p=>by lia⟩
noncomputable def Bo.drop(b:Bo)(c:Nat):Bo:=⟨b.ac.eraseIdx c,b.dn,b.g.map λr=>r.eraseIdx c,b.s⟩
theorem wc{xs:List α}{c:Nat}{d:α}:(xs.eraseIdx c).getD l d=if l<c then xs.getD l d else xs.getD (l+1) d:=by simp only[Rp,List.getElem?_eraseIdx];split<;>rfl
theorem qe(l:Nat):(b.drop c).Aq l=if l<c then b.Aq l else b.Aq (l+1):=wc
theorem mQ(h:Ok P (P.n+1) b)(hi:i<=P.m)(l:Nat):(b.drop c).Gq i l=if l<c then b.Gq i l else b.Gq i (l+1):=by unfold Bo.Gq Bo.drop;rw[getD_map (d:=[]) (by rw[h.sh.g];lia)];exact wc
theorem EH(h:Ok P (P.n+1) b)(hc:c<P.n+1)(v:b.Aq c = -1):Ok P P.n (b.drop c):=by
 have lc:c<b.ac.length:=by rw[h.sh.ac];exact hc
 have F:b.ac[c] = -1:=by rw[<-v];simp[Bo.Aq,Rp,lc]
 have pm:b.ac.Perm ((-1)::b.ac.eraseIdx c):=by have:=Sb (a:=b.ac[c]) (l₁:=b.ac.take c) (l₂:=b.ac.drop (c+1));rw[Ug,SM,<-RD,F] at this;exact this
 have p:(b.ac++b.dn).Perm ((-1)::((b.drop c).ac++(b.drop c).dn)):=pm.append_right _;have nd:=p.nodup_iff.mp h.nd;have k:∀l,l<P.n+2->P.vec P.n (b.drop c) l=mv (P.n+2) c (P.vec (P.n+1) b) l:=λl hl=>by
  have R:∀l,l<P.n+1->P.vec (P.n+1) b l=P.Yq (b.Aq l):=λl hl=>Zx hl;have S:P.vec (P.n+1) b (P.n+1)=un P.n:=by unfold Pb.vec;rw[Zy (Ri _),Zx rfl]
  have r1:l<P.n->P.vec P.n (b.drop c) l=P.Yq ((b.drop c).Aq l):=λhl=>Zx hl;unfold mv;by_cases e:l<c
  .rw[Zx e,R l Q1,r1 Q1,qe,Zx e]
  .rw[Zy e];by_cases e2:l<P.n
   .rw[Zx Q1,R (l+1) Q1,r1 e2,qe,Zy e]
   .have r2:P.vec P.n (b.drop c) l=if l=P.n then un P.n else un (P.n+1):=Zy e2
    rw[r2];by_cases N:l=P.n
    .rw[Zx N,Zx Q1,N,S]
    .rw[Zy N,Zy Q1,Zx Q1,R c hc,v,O4]
 refine⟨⟨?_,h.sh.dn,by simp[Bo.drop,h.sh.g],?_⟩,(Rn.mp nd).2,λu=>?_,h.pos,.inl rfl,?_,?_⟩
 .show (b.ac.eraseIdx c).length=_;rw[VU,Zx lc,h.sh.ac];rfl
 .intro x hx;obtain⟨r,X,rfl⟩:=Rq.mp hx;have:=h.sh.r r X;rw[VU,Zx Q1,this];rfl
 .rw[Zx rfl];have z:=h.nm u;rw[Zy Q1,p.mem_iff,QV] at z;constructor
  .intro y;have:=z.mp (.inr y);have:u ≠ -1:=λq=>(Rn.mp nd).1 (q▸y);lia
  .rintro⟨h1,h2⟩;exact(z.mpr ⟨by lia,h2⟩).resolve_left Q1
 .rw[D.congr (w:=mv (P.n+2) c (P.vec (P.n+1) b)) λi j hi O=>by rw[k i hi],D.mv (d:=P.n+1-c) Q1];exact h.det
 .obtain⟨T,id⟩:=h.id;refine⟨λi=>- b.Gq i c,λi hi j O=>?_⟩;have w:P.Wq (b.drop c) i=P.Wq b i:=rfl;rw[w];show b.s*_=_;rw[id i hi j O];have key:∀(f g:Nat->Int),(∀l,l<c->g l=f l)->(∀l,c<=l->l<P.n+1->g l=f (l+1))->g (P.n+1)=f c->su (P.n+2) f=su (P.n+2) g:=λf g h1 h2 h3=>by
   have A:∀d,c+d<=P.n+1->su (c+d+1) f=su (c+d) g+f c:=λd hd=>by
    induction d with
    |zero=>show su c f+f c=_;rw[bG (n:=c) λi hi=>(h1 i hi).symm];rfl
    |succ d m=>show su (c+d+1) f+f (c+d+1)=su (c+d) g+g (c+d)+f c;rw[m Q1,h2 (c+d) Q1 Q1];lia
   have:=A (P.n+1-c) Q1;rw[show c+(P.n+1-c)=P.n+1 by lia] at this;rw[this];show _=su (P.n+1) g+g (P.n+1);rw[h3]
  refine key _ _ (λl hl=>?_) (λl h1 h2=>?_) ?_
  .have a1:P.vec P.n (b.drop c) l=P.vec (P.n+1) b l:=by rw[k l Q1];exact Zx hl
   have C:Gx P.n (b.drop c) (λi=>- b.Gq i c) i l=b.Gq i l:=by unfold Gx;rw[Zx Q1,mQ h hi,Zx hl]
   have Z:Gx (P.n+1) b T i l=b.Gq i l:=Zx Q1;have H:qs P.n l = -1:=Zx Q1;have o:qs (P.n+1) l = -1:=Zx Q1;rw[a1,C,Z,H,o]
  .have a1:P.vec P.n (b.drop c) l=P.vec (P.n+1) b (l+1):=by rw[k l Q1];unfold mv;rw[Zy Q1,Zx Q1]
   have C:Gx P.n (b.drop c) (λi=>- b.Gq i c) i l=b.Gq i (l+1):=by unfold Gx;rw[Zx Q1,mQ h hi,Zy Q1]
   have Z:Gx (P.n+1) b T i (l+1)=b.Gq i (l+1):=Zx Q1;have H:qs P.n l=qs (P.n+1) (l+1):=by
    unfold qs;by_cases e:l<P.n
    .rw[Zx e,Zx Q1]
    .rw[Zy e,Zy Q1]
   rw[a1,C,Z,H]
  .have a1:P.vec P.n (b.drop c) (P.n+1)=P.vec (P.n+1) b c:=by rw[k (P.n+1) Q1];unfold mv;rw[Zy Q1,Zy Q1,Zx rfl]
   have C:Gx P.n (b.drop c) (λi=>- b.Gq i c) i (P.n+1) =-b.Gq i c:=Zy Q1;have Z:Gx (P.n+1) b T i c=b.Gq i c:=Zx Q1;have H:qs P.n (P.n+1)=1:=Zy Q1;have o:qs (P.n+1) c = -1:=Zx hc;rw[a1,C,Z,H,o];grind
theorem Ec(h:Ok P (P.n+1) b)(q:Lp P (P.n+1) b)(hc:c<P.n+1)(N:b.Aq c = -1):Lp P P.n (b.drop c):=λi hi=>(q i hi).congr λt _=>by
 unfold Rr;rw[mQ h Q1];by_cases e:t=0
 .rw[Zx e,Zx e,Zy Q1]
 .rw[Zy e,Zy e];unfold Fb F
  congr 1
  generalize g:((P.n+(t-1):Nat):Int)=u;have A:∀d,c+d<=P.n->su (c+d+1) (λl=>if b.Aq l=u then b.Gq i l else 0)=su (c+d) (λl=>if (b.drop c).Aq l=u then (b.drop c).Gq i l else 0):=λd hd=>by
   induction d with
   |zero=>show su c _+(if b.Aq c=u then b.Gq i c else 0)=_;rw[Zy Q1,R7];exact bG λl hl=>by rw[qe,Zx hl,mQ h Q1,Zx hl]
   |succ d m=>show su (c+d+1) _+(if b.Aq (c+d+1)=u then b.Gq i (c+d+1) else 0)=su (c+d) _+(if (b.drop c).Aq (c+d)=u then (b.drop c).Gq i (c+d) else 0);rw[m Q1,qe,mQ h Q1,Zy (show ¬ c+d<c by lia),Zy (show ¬ c+d<c by lia)]
  have:=A (P.n-c) Q1;rw[show c+(P.n-c)=P.n by lia] at this;exact this
theorem Ok.short(h:Ok P (P.n+1) b)(q:Lp P (P.n+1) b)(R:r<P.m)(u:b.Bq r = -1)(J:∀l,l<P.n+1->b.Gq r l<=0):0<b.Gq r (P.n+1):=by
 have f:∀k,k<P.m->Rr P (P.n+1) b r (k+1)<=0:=λk hk=>by
  unfold Rr;rw[Zy Q1];show Fb P (P.n+1) b r ((P.n+k:Nat):Int)<=0;by_cases m:((P.n+k:Nat):Int)∈b.ac
  .obtain⟨l,hl,e⟩:=h.Ax m;rw[<-e,h.Km hl];exact J l hl
  .unfold Fb F;rw[iL λl hl=>Zy λz=>m (by rw[<-z];exact h.Am hl),Zy λz=>by lia];decide
 obtain⟨t,C,p,z⟩:=q r R;cases t with
 |zero=>exact p
 |succ t=>have:=f t Q1;lia
variable{P:Pb}{N c:Nat}{b:Bo}
theorem zD{n:Nat}(h:∀i,i<n->0<=f i):0<=su n f:=by
 induction n with
 |zero=>exact TY 0
 |succ n m=>exact WS (m λi hi=>h i Q1) (h n Q1)
theorem Lp.val(q:Lp P N b)(hi:i<P.m):0<=b.Gq i N:=by
 obtain⟨t,l,p,z⟩:=q i hi;cases t with
 |zero=>exact SE p
 |succ t=>exact U1 (z 0 Q1).symm
structure Keeps(P:Pb)(s:Int)(x:Nat->Int):Prop where
 nn:∀j,j<P.n->0<=x j
 le:∀k,k<P.m->(su P.n λj=>P.R k j*x j)<=s*P.L k
theorem Fj(A:∀i,i<P.m->0<=qs P.n c*b.Gq i c)(hs:0<=b.s)(u:Int):0<=vl P b c u:=by
 unfold vl;refine WS (zD λi hi=>?_) ?_
 .split
  .exact A i hi
  .exact TY 0
 .split
  .exact hs
  .exact TY 0
theorem Ok.keeps(h:Ok P P.n b)(q:Lp P P.n b):Keeps P b.s λj=>vl P b P.n j:=by have nn:∀u,0<=vl P b P.n u:=Fj (λi hi=>by rw[show qs P.n P.n=1 from Zy (Ri _),SD];exact q.val hi) (SE h.pos);refine⟨λj _=>nn _,λk hk=>?_⟩;have z:=h.FC (QY P.n) hk;rw[Zx rfl] at z;have:=nn ((P.n+k:Nat):Int);lia
theorem Fs(h:∀l,l<N->0<=b.Gq r l)(u:Int):0<=Fc N b r u:=zD λl hl=>by
 split
 .exact h l hl
 .exact TY 0
theorem Al(h:Ok P P.n b)(J:∀l,l<P.n->0<=b.Gq P.m l):
  (su P.n λj=>P.c j*vl P b P.n j)=b.Gq P.m P.n/\(∀k,0<=Fc P.n b P.m ((P.n+k:Nat):Int))/\(∀j,j<P.n->b.s*P.c j<=su P.m λk=>Fc P.n b P.m ((P.n+k:Nat):Int)*P.R k j)/\(su P.m λk=>Fc P.n b P.m ((P.n+k:Nat):Int)*P.L k)=b.Gq P.m P.n:=by
 have w:P.Wq b P.m=P.zq:=by simp[Pb.Wq]
 refine⟨?_,λk=>Fs J _,λj a=>?_,?_⟩
 .rw[<-h.worth (QY P.n),show qs P.n P.n=1 from Zy (Ri _),SD]
 .have z:=h.cost (QY P.m) a;rw[w,show P.zq j=P.c j from Zx a] at z;have:=Fs J (j:Int);lia
 .have z:=h.FJ (QY P.m);rw[w,show P.zq P.n=0 from Zy (Ri _)] at z;lia
theorem zj(h:Ok P P.n b)(hc:c<P.n)(J:b.Gq P.m c<0)(d:∀i,i<P.m->b.Gq i c<=0):Keeps { P with L:=λ_=>0 } b.s (λj=>vl P b c j)/\0<su P.n λj=>P.c j*vl P b c j:=by
 have q:qs P.n c = -1:=Zx hc;have nn:∀u,0<=vl P b c u:=Fj (λi hi=>by rw[q];have:=d i hi;lia) (SE h.pos);refine⟨⟨λj _=>nn _,λk hk=>?_⟩,?_⟩
 .have z:=h.FC (Rv hc) hk;rw[Zy Q1] at z;have:=nn ((P.n+k:Nat):Int);show (su P.n λj=>P.R k j*vl P b c j)<=b.s*0;lia
 .rw[<-h.worth (Rv hc),q];lia
theorem AD(h:Ok P (P.n+1) b)(q:Lp P (P.n+1) b)(S:r<P.m)(N:b.Bq r = -1)(J:∀l,l<P.n+1->b.Gq r l<=0):
  (∀k,0 <=-Fc (P.n+1) b r ((P.n+k:Nat):Int))/\(∀j,j<P.n->0<=su P.m λk=>- Fc (P.n+1) b r ((P.n+k:Nat):Int)*P.R k j)/\(su P.m λk=>- Fc (P.n+1) b r ((P.n+k:Nat):Int)*P.L k)<0:=by
 have w:P.Wq b r=un (P.n+1):=by simp[Pb.Wq,S,N,O4]
 have np:∀u,Fc (P.n+1) b r u<=0:=λu=>by
  have:0<=su (P.n+1) λl=>- (if b.Aq l=u then b.Gq r l else 0):=zD λl hl=>by have:=J l hl;split<;>lia
  have e:=cV (k:=P.n+1) (x:=-1) (f:=λl=>if b.Aq l=u then b.Gq r l else 0);simp only[Sg] at e;rw[e] at this;unfold Fc;lia
 have i:∀(f:Nat->Int),(su P.m λk=>- Fc (P.n+1) b r ((P.n+k:Nat):Int)*f k) =-su P.m λk=>Fc (P.n+1) b r ((P.n+k:Nat):Int)*f k:=λf=>by rw[<-Sg,<-cV];exact bG λk _=>by grind
 refine⟨λk=>by have:=np ((P.n+k:Nat):Int);lia,λj a=>?_,?_⟩
 .have z:=h.cost (show r<=P.m by lia) a;rw[w,iT Q1,RB] at z;rw[i];have:=np (j:Int);lia
 .have z:=h.FJ (show r<=P.m by lia);rw[w,iT Q1,RB] at z;have:=h.short q S N J;rw[i];lia
def K2(P:Pb)(b:Bo):Prop:=Ok P P.n b/\Lp P P.n b
def K1(P:Pb)(b:Bo):Prop:=Ok P (P.n+1) b/\Lp P (P.n+1) b /\ -1∈b.dn
def Nx(P:Pb)(b:Bo):Nat->Int:=Rr P P.n b P.m
noncomputable def cj(b:Bo):Nat:=b.dn.idxOf (-1)
def JJ(P:Pb)(b:Bo)(t:Nat):Int:=- Rr P (P.n+1) b (cj b) t
theorem iz(h:K1 P b):cj b<P.m:=by rw[<-h.1.sh.dn];exact R4 h.2.2
theorem ja(h:K1 P b):b.Bq (cj b) = -1:=by
 have:=iz h;have l:cj b<b.dn.length:=by rw[h.1.sh.dn];exact this
 simp only[Bo.Bq,Rp,Rg l,Tj];exact UI l
theorem IP{a:Nat}(h:K2 P b)(f:a<P.m)(hc:c<P.n)(hp:0<b.Gq a c)(J:b.Gq P.m c<0)(hm:∀i,i<P.m->0<b.Gq i c->¬ LL (P.m+1) (Rr P P.n b i) (b.Gq i c) (Rr P P.n b a) (b.Gq a c)):
  K2 P (b.turn a c)/\ms P (K2 P) (Nx P) (b.turn a c)<ms P (K2 P) (Nx P) b:=by
 have k:K2 P (b.turn a c):=⟨h.1.turn f hc Q1,Lp.turn h.1 h.2 f hc hp hm⟩
 refine⟨k,Gs (λb h=>h.1.pos) (λb1 b2 h1 h2 e t=>?_) h k (h.1.Ez h.2 f hc hp (QY _) Q1 J)⟩;exact h1.1.uniq h2.1 (AX h1.1 h2.1 e) (QY _) (QY _) (by simp[Pb.Wq]) (λz=>absurd z (Ri _)) (λz=>absurd z (Ri _)) t
theorem Jy{a:Nat}(h:K1 P b)(f:a<P.m)(hn:a≠cj b)(hc:c<P.n+1)(hp:0<b.Gq a c)(Y:0<b.Gq (cj b) c)(hm:∀i,i<P.m->0<b.Gq i c->¬ LL (P.m+1) (Rr P (P.n+1) b i) (b.Gq i c) (Rr P (P.n+1) b a) (b.Gq a c)):
  K1 P (b.turn a c)/\cj (b.turn a c)=cj b/\ms P (K1 P) (JJ P) (b.turn a c)<ms P (K1 P) (JJ P) b:=by
 have hl:=iz h;have s:=ja h;have ok:=h.1.turn f hc (show b.Gq a c≠0 by lia);have y:(b.turn a c).Bq (cj b) = -1:=by rw[Bo.mN h.1.sh f];unfold qD;rw[Zy (RP hn),s]
 have k:K1 P (b.turn a c):=⟨ok,Lp.turn h.1 h.2.1 f hc hp hm,y▸ok.Bm hl⟩
 have Q:cj (b.turn a c)=cj b:=getD_inj (Q2.mp ok.nd).2.1 (by rw[ok.sh.dn];exact iz k) (by rw[ok.sh.dn];exact hl) ((ja k).trans y.symm);refine⟨k,Q,Gs (λb h=>h.1.pos) (λb1 b2 h1 h2 e t=>?_) h k ?_⟩
 .have G:=iz h1;have J:=iz h2;have z:=h1.1.uniq h2.1 (AX h1.1 h2.1 e) (Rv G) (Rv J) (by simp[Pb.Wq,G,J,ja h1,ja h2]) (λ_=>by rw[ja h1];lia) (λ_=>by rw[ja h2];lia) t;unfold JJ
  grind
 .have z:=h.1.Oz h.2.1 f hc hp (Rv hl) (RP hn) Y;refine z.congr λt _=>?_;unfold JJ;rw[Q];grind
noncomputable def Ci:Nat->Nat
 |0=>1
 |n+1=>(n+1)*Ci n
theorem zo{n:Nat}{B:Nat}(h:∀i,i<n->(f i).natAbs<=B):(su n f).natAbs<=n*B:=by
 induction n with
 |zero=>simp[su]
 |succ n m=>have h1:=m λi hi=>h i Q1;have h2:=h n Q1;have h3:=Wr (su n f) (f n);show (su n f+f n).natAbs<=_;rw[Nat.add_mul,V2];lia
theorem Kc(i:Nat):(sg i).natAbs=1:=by unfold sg;split<;>rfl
theorem D.le{M:Nat}:∀{k:Nat}{v:Nat->Ve},(∀i j,i<k->j<k->(v i j).natAbs<=M)->(D k v).natAbs<=Ci k*M^k
 |0,_,_=>by simp[D,Ci]
 |k+1,v,h=>by
  rw[D.eq];refine RE (zo (B:=M*(Ci k*M^k)) λi hi=>?_) (Uk ?_)
  .rw[R3,R3,Kc,V2];refine WQ (h i k hi Q1) (D.le (k:=k) (v:=sk i v) λa b f d=>?_);unfold sk;split
   .exact h a b Q1 Q1
   .exact h _ b Q1 Q1
  .show (k+1)*(M*(Ci k*M^k))=(k+1)*Ci k*M^(k+1);rw[Xc];generalize Ci k=x;generalize M^k=y;rw[Vv,TJ y M,<-Vv M x y,TJ M x,Vv x M y]
variable{P:Pb}{N:Nat}{b:Bo}{M:Nat}
structure Pb.Le(P:Pb)(M:Nat):Prop where
 one:1<=M
 c:∀j,j<P.n->(P.c j).natAbs<=M
 R:∀i j,i<P.m->j<P.n->(P.R i j).natAbs<=M
 L:∀i,i<P.m->(P.L i).natAbs<=M
theorem BY(h:1<=M)(i j:Nat):(un i j).natAbs<=M:=by unfold un;split<;>simp<;>lia
theorem KS(h:P.Le M)(g:-1<=u)(h2:u<(P.n+P.m:Nat))(j:Nat):(P.Yq u j).natAbs<=M:=by
 unfold Pb.Yq;by_cases O:u = -1
 .rw[Zx O];exact BY h.one _ _
 .rw[Zy O];by_cases U:u<P.n
  .rw[Zx U];exact BY h.one _ _
  .rw[Zy U];show (if _ then _ else _:Int).natAbs<=M;by_cases V:j<P.n
   .rw[Zx V,WM];exact h.R _ _ Q1 V
   .rw[Zy V];by_cases d:j=P.n
    .rw[Zx d];exact h.L _ Q1
    .rw[Zy d];exact h.one
theorem BI(h:P.Le M)(ok:Ok P N b)(i j:Nat):(P.vec N b i j).natAbs<=M:=by
 unfold Pb.vec;by_cases c:i<N
 .rw[Zx c];have:=ok.yf (QR b.dn (ok.Am c));exact KS h this.1 this.2 j
 .rw[Zy c];split<;>exact BY h.one _ _
theorem Pg(h:P.Le M)(ok:Ok P N b)(i j:Nat):(P.Wq b i j).natAbs<=M:=by
 unfold Pb.Wq;by_cases c:i<P.m
 .rw[Zx c];have:=ok.yf (QO b.ac (ok.Bm c));exact KS h this.1 this.2 j
 .rw[Zy c];unfold Pb.zq;by_cases U:j<P.n
  .rw[Zx U];exact h.c j U
  .rw[Zy U];exact SR _
theorem Ok.OP(h:P.Le M)(ok:Ok P N b):b.s.natAbs<=Ci (P.n+2)*M^(P.n+2):=by rw[<-ok.det];exact D.le λi j _ _=>BI h ok i j
theorem Ok.OQ(h:P.Le M)(ok:Ok P N b)(hi:i<=P.m)(hl:l<=N):(b.Gq i l).natAbs<=Ci (P.n+2)*M^(P.n+2):=by
 obtain⟨T,id⟩:=ok.id;have hN:=ok.hN;have hs:=ok.pos;have c:=D.Ig (v:=P.vec N b) (w:=P.Wq b i) (s:=b.s) (show l<P.n+2 by lia) (id i hi);have e:=ZC XH c;rw[R3,R3,R3,ok.det] at e;have R:(qs N l).natAbs=1:=by unfold qs;split<;>rfl
 rw[R,V2,show Gx N b T i l=b.Gq i l from Zx hl,TJ] at e;have e2:=Nat.eq_of_mul_eq_mul_right (show 0<b.s.natAbs by lia) e;rw[<-e2];refine D.le λa j _ _=>?_;unfold up;split
 .exact Pg h ok i j
 .exact BI h ok a j
variable{P:Pb}{N c a k t:Nat}{b:Bo}
theorem Lv{M:Nat}(l:t<M)(S:∀u,u<t->f u=0)(hn:f t≠0):LP M f↔0<f t:=by
 constructor
 .rintro⟨u,a,b,z⟩;rcases Wm t u with c|c|c
  .exact absurd (z t c) hn
  .rw[c];exact b
  .rw[S u c] at b;lia
 .exact λh=>⟨t,l,h,S⟩
theorem Na{M:Nat}(S:∀u,u<M->f u=0):¬ LP M f:=λ⟨u,a,b,_⟩=>by rw[S u a] at b;lia
def Bw(P:Pb)(N:Nat)(b:Bo)(c i k:Nat):Prop:=LL (P.m+1) (Rr P N b i) (b.Gq i c) (Rr P N b k) (b.Gq k c)
def pj(P:Pb)(N:Nat)(b:Bo)(c k:Nat):Option Nat->Prop
 |none=>∀i,i<k->b.Gq i c<=0
 |some a=>a<k/\0<b.Gq a c/\∀i,i<k->0<b.Gq i c->¬ Bw P N b c i a
theorem pj.zero:pj P N b c 0 none:=λi hi=>by lia
theorem pj.no{f:Option Nat}(h:pj P N b c k f)(hk:b.Gq k c<=0):pj P N b c (k+1) f:=by
 cases f with
 |none=>
  intro i hi;by_cases e:i=k
  .rw[e];exact hk
  .exact h i Q1
 | some a=>exact⟨by have:=h.1;lia,h.2.1,λi hi hp=>by
   by_cases e:i=k
   .rw[e] at hp;lia
   .exact h.2.2 i Q1 hp⟩
theorem pj.one(h:pj P N b c k none)(hk:0<b.Gq k c):pj P N b c (k+1) (some k):=⟨by lia,hk,λi hi hp=>by
 by_cases e:i=k
 .rw[e];exact LL.Pt
 .have:=h i Q1;lia⟩
theorem pj.keep(h:pj P N b c k (some a))(hn:¬ Bw P N b c k a):pj P N b c (k+1) (some a):=⟨by have:=h.1;lia,h.2.1,λi hi hp=>by
 by_cases e:i=k
 .rw[e];exact hn
 .exact h.2.2 i Q1 hp⟩
theorem pj.put(h:pj P N b c k (some a))(hk:0<b.Gq k c)(hn:Bw P N b c k a):pj P N b c (k+1) (some k):=⟨by lia,hk,λi hi hp=>by
 by_cases e:i=k
 .rw[e];exact LL.Pt
 .exact LL.nt hp h.2.1 hk (h.2.2 i Q1 hp) hn⟩
theorem Ok.LI(h:Ok P N b)(g:u∉b.ac)(i:Nat):Fb P N b i u=if i<P.m/\b.Bq i=u then b.s else 0:=by unfold Fb F;rw[iL λl hl=>Zy λe=>g (by rw[<-e];exact h.Am hl),Up]
end Sx
namespace W
open PySem L2 M
inductive X2{α β:Type}(p:α->β->Prop):Prop|mk(a:α)(b:β)(h:p a b)
inductive X3{α β γ:Type}(p:α->β->γ->Prop):Prop|mk(a:α)(b:β)(c:γ)(h:p a b c)
inductive X5{α β γ δ ε:Type}(p:α->β->γ->δ->ε->Prop):Prop|mk(a:α)(b:β)(c:γ)(d:δ)(e:ε)(h:p a b c d e)
inductive N3(a b c:Prop):Prop|mk(x:a)(y:b)(z:c)
inductive N4(a b c d:Prop):Prop|mk(x:a)(y:b)(z:c)(w:d)
inductive N6(a b c d e f:Prop):Prop|mk(x:a)(y:b)(z:c)(w:d)(u:e)(v:f)
variable{Z:List Sl}
theorem bh{x:Rr}{xs:List A}{i:Int}{a:A}(h:res Z x=some (.lst xs)\/res Z x=some (.tup xs))(e:iq xs i=some a):lh Cg x (.fr (.int i)) Z=some (.ok (.fr a),Z):=by unfold lh;rcases h with h|h<;>rw[h]<;>simp only[res,Cg,e]
variable{U:List Sl}{Q:Fl->List Sl->Prop}
theorem Wp.sr{m n:Ms}{s:Sl}(h:m Z=some (.rt s,U))(q:Q (.rt s) U):Wp (av m n) Z Q:=⟨_,_,by unfold av;rw[h],q⟩
theorem eN{t:Mi Bool}{m n:Ms}{r:Option (Fl×List Sl)}(h:t Z=some (.ok true,U))(k:m U=r):gJ t m n Z=r:=sk h k
theorem cq{t:Mi Bool}{m n:Ms}{r:Option (Fl×List Sl)}(h:t Z=some (.ok false,U))(k:n U=r):gJ t m n Z=r:=sk h k
theorem Jl(i j:Int)(Z:List Sl):lh iZ (.fr (.int i)) (.fr (.int j)) Z=some (.ok (.fr (.bl (decide (i=j)))),Z):=by simp only[lh,res,iZ,pU]
theorem dP{m n:Ms}{r:Option (Fl×List Sl)}(h:m Z=some (.nx,U))(k:n U=r):av m n Z=r:=by unfold av;rw[h];exact k
variable{i:Nat}{r:Rr}
theorem J1{a s:Sl}{F:List Sl}(h:yh r Z=some (a,U))(k:U[i]?=some s)(hn:np s=true)(e:U.set i a=F):DB i r Z=some (.nx,F):=by rw[M7 h k hn,e]
variable{G:Mg}{e:Mi Rr}
theorem bJ{n:Nat}{B:Mi (List A)}{t:Mi Bool}{as:List A}{F:List Sl}(h:B Z=some (.ok as,U))(k:ig n G t e as U=some (.ok r,F)):aP n B G t e Z=some (.ok r,F):=bk h k
theorem aT{m:Mi Rr}{a s:Sl}{F:List Sl}(h:m Z=some (.ok r,U))(h1:yh r U=some (a,U))(k:U[i]?=some s)(hn:np s=true)(e:U.set i a=F):aG i m Z=some (.nx,F):=Bz h (J1 h1 k hn e)
theorem fu{o:Option (Except Str Rr×List Sl)}{f:A->A->Option Rr}{x y:Rr}{a b:A}(h1:res Z x=some a)(h2:res Z y=some b)(k:f a b=some r):lh f x y Z=some (.ok r,Z):=by unfold lh;rw[h1,h2];dsimp only;rw[k]
theorem d0{i j:Int}{b:Bool}(h:decide (i=j)=b)(Z:List Sl):lh iN (.fr (.int i)) (.fr (.int j)) Z=some (.ok (.fr (.bl (!b))),Z):=by rw[<-h];simp only[lh,res,iN,pU]
theorem jz{i j:Int}{b:Bool}(h:decide (i=j)=b)(Z:List Sl):lh iZ (.fr (.int i)) (.fr (.int j)) Z=some (.ok (.fr (.bl b)),Z):=by rw[<-h];exact Jl i j Z
theorem kg{i j:Int}(h:j≠0)(Z:List Sl):lh kZ (.fr (.int i)) (.fr (.int j)) Z=some (.ok (.fr (.int (i.fmod j))),Z):=fu (o:=none) rfl rfl (Zx (by simpa using h))
theorem kl{i j:Int}(h:j≠0)(f:fits 9000 j=true)(Z:List Sl):lh iK (.fr (.int i)) (.fr (.int j)) Z=some (.ok (.fr (.int (i.fdiv j))),Z):=fu (o:=none) rfl rfl (Zx (by rw[f];simpa using h))
theorem lg{i j:Int}(h:fits 20000 i=true)(k:fits 20000 j=true)(Z:List Sl):lh a9 (.fr (.int i)) (.fr (.int j)) Z=some (.ok (.fr (.int (i*j))),Z):=by have e:a9 (.int i) (.int j)=some (.fr (.int (i*j))):=Zx (by rw[h,k];rfl);exact fu (o:=none) rfl rfl e
theorem ft{n m:Nat}{i:Int}(h:L2.Bd n i)(k:n<=m):fits m i=true:=iB h k
theorem nV{f:A->Option Rr}{x:Rr}{a:A}(h:res Z x=some a)(k:f a=some r):OS f x Z=some (.ok r,Z):=by unfold OS;rw[h];dsimp only;rw[k]
theorem qO{m:Mi Rr}{x:Rr}{as:List A}{F:List Sl}(h:m Z=some (.ok x,U))(k:Om x U=some (.ok as,F)):cH m Z=some (.ok as,F):=bk h k
theorem sX{n:Nat}{t:Mi Bool}{b:Ms}{r:Option (Fl×List Sl)}(h:dB t b n Z=r):gn n t b Z=r:=h
variable{j:Nat}{rs:List Rr}
theorem Ie{ms:Mi (List Rr)}{r:Option (Fl×List Sl)}(h:ms Z=some (.ok rs,U))(k:DK i j rs U=r):Ay i j ms Z=r:=sk h k
variable{mk:Mi Rr}{S:List Sl}
theorem oO{m:Mi Rr}{rk:Rr}{q:Option (Fl×List Sl)}(h:m Z=some (.ok r,S))(l:Mh S i=true)(hk:mk S=some (.ok rk,U))(k:PL i r rk U=q):gr i mk m Z=q:=sk h ((Zx l).trans (sk hk k))
theorem Oj{x y:Int}(h:y≠0)(d:L2.Bd 9000 y):Val fV [.int x,.int y] (.int (cd x y)):=by
 obtain⟨O,h1,q,r,rfl⟩:=oQ (t:=aj (aC iN (ab 1) (aA 0))) (b:=av (aG 2 (aC kZ (ab 0) (ab 1))) (av (aG 0 (ab 1)) (aG 1 (ab 2)))) (n:=vg)
  (P:=λk Z=>X3 λp q r=>N4 (Z=[.fr (.int p),.fr (.int q),r]) (k=q.natAbs) (np r=true) ((q=0->p=cd x y)/\(q≠0->cd p q=cd x y)))
  (Q:=λZ=>X2 λq r=>Z=[.fr (.int (cd x y)),q,r]) (by
   rintro k Z ⟨p,q,r,rfl,rfl,R,h1,h2⟩;by_cases z:q=0
   .exact .inl ⟨_,aB (ag rfl rfl (d0 (ZA z) _)),_,_,by rw[<-h1 z]⟩
   .exact .inr ⟨_,[.fr (.int q),.fr (.int (p.fmod q)),.fr (.int (p.fmod q))],_,aB (ag rfl rfl (d0 (Zz z) _)),.inl (dP (aT (ag rfl rfl (kg z _)) rfl rfl R rfl) <| dP (aT rfl rfl rfl rfl rfl) (aT rfl rfl rfl rfl rfl)),rD p z,q,p.fmod q,_,rfl,rfl,rfl,λe=>by rw[<-h2 z];exact Cz z e,λe=>by rw[D1 z e];exact h2 z⟩) ⟨x,y,.un,rfl,rfl,rfl,λe=>absurd e h,λ_=>rfl⟩ (pF (Q8 d (SS Z2 Z2)))
 exact Val.of (Wp.df (Wp.st (sX h1) (Wp.en (aK rfl rfl) rfl)))
theorem zC{x y:Int}(d:L2.Bd 9000 y):Val fI [.int x,.int y] (.int (RT x y)):=by
 obtain⟨O,h1,q,rfl,J⟩:=oQ (t:=aj (aC iN (ab 1) (aA 0))) (b:=Ay 0 1 (cu (ab 1) (aC kZ (ab 0) (ab 1)))) (n:=vg)
  (P:=λk Z=>X2 λp q=>N3 (Z=[.fr (.int p),.fr (.int q)]) (k=q.natAbs) (RT p q=RT x y))
  (Q:=λZ=>∃p,Z=[.fr (.int p),.fr (.int 0)]/\RT p 0=RT x y) (by
   rintro k Z ⟨p,q,rfl,rfl,h1⟩;by_cases z:q=0
   .subst z;exact .inl ⟨_,aB (ag rfl rfl (d0 rfl _)),p,rfl,h1⟩
   .exact .inr ⟨_,[.fr (.int q),.fr (.int (p.fmod q))],_,aB (ag rfl rfl (d0 (Zz z) _)),.inl (Ie (ae rfl (ae (ag rfl rfl (kg z _)) rfl)) rfl),rD p z,q,p.fmod q,rfl,rfl,by rw[lM,h1]⟩) ⟨x,y,rfl,rfl,rfl⟩ (pF (Q8 d (SS Z2 Z2)))
 have e:(if q<0 then -q else q)=(RT x y:Int):=by rw[<-J,UO];split<;>lia
 exact Val.of (Wp.df (Wp.st (sX h1) (Wp.en (aK (eP rfl (nV (r:=.fr (.int (RT x y))) rfl (by rw[<-e];rfl))) rfl) rfl)))
theorem tE{t b:Int}(h:b≠0)(d:L2.Bd 9000 b):Val gE [.int t,.int b] (nm (ck t b)):=by
 rw[<-CM h];have key:∀t b:Int,b≠0->L2.Bd 9000 b->∀Z,Wp (av (aG 2 (a8 fI (cu (ah 0) (ah 1)))) (bB (fv (cu (aC iK (ab 0) (ab 2)) (aC iK (ab 1) (ab 2)))))) (.fr (.int t)::.fr (.int b)::.un::Z) λg _=>g=.rt (.fr (nm (t.fdiv (RT t b),b.fdiv (RT t b)))):=λt b h d Z=>by
  have h1:RT t b<=b.natAbs:=Int.gcd_le_natAbs_right _ h;have S:(RT t b:Int)≠0:=by simpa using λz:RT t b=0=>h (Int.gcd_eq_zero_iff.mp z).2
  have f:fits 9000 (RT t b:Int)=true:=iB (show L2.Bd 9000 (RT t b:Int) from RN (by simpa using h1) d) (QY _);exact Wp.st (aT (au rfl (aI (zC d) _)) rfl rfl rfl rfl) (Wp.en (aK (dZ (ae (ag rfl rfl (kl S f _)) (ae (ag rfl rfl (kl S f _)) rfl)) rfl) rfl) rfl)
 have X:∀c,decide (b<0)=c->aj (aC ka (ab 1) (aA 0)) [.fr (.int t),.fr (.int b),.un]=some (.ok c,[.fr (.int t),.fr (.int b),.un]):=by rintro c rfl;rfl
 unfold HL;by_cases c:b<0
 .rw[Zx c,<-VN,<-VN];exact Val.of (Wp.df (Wp.st (eN (X true (ZA c)) (dP (aT rfl rfl rfl rfl rfl) (aT rfl rfl rfl rfl rfl))) (Wp.mono (key (0-t) (0-b) Q1 (by rw[VN];exact d.neg) []) λf _ e=>by rw[e])))
 .rw[Zy c];exact Val.of (Wp.df (Wp.st (cq (X false (Zz c)) rfl) (Wp.mono (key t b h d []) λf _ e=>by rw[e])))
def Wl(n:Int)(o:LO):Prop:=X3 λ(f c t:Int)=>N4 (o=.lst [.int f,.int c,.int t]) (f=0\/f=1) (f=0->c.natAbs<10^18) (0<=t/\t<=n)
variable{o:LO}
theorem Wl.mono{n m:Int}(h:Wl n o)(k:n<=m):Wl m o:=by obtain⟨f,c,t,h1,h2,h3,h4,h5⟩:=h;exact⟨f,c,t,h1,h2,h3,h4,by lia⟩
theorem zr{i:Int}(h:i.natAbs<2^64):fits 20000 i=true:=iB h Z2
theorem zU{n:Int}{m:Int}(w:Wl n o)(hn:n<2^40)(j:0<m)(K:m<2^64):X2 λr o'=>N4 (cS bu o [.int m] (.fr (.int r)) o') (0<=r) (r<m) (Wl (n+1) o'):=by
 suffices ∃s o',cS bu o [.int m] s o'/\∃r,N4 (s=.fr (.int r)) (0<=r) (r<m) (Wl (n+1) o') by obtain⟨s,o',v,r,rfl,h1,h2,h3⟩:=this;exact⟨r,o',v,h1,h2,h3⟩
 obtain⟨f,c,t,rfl,hf,hc,e,T⟩:=w
 have h:m≠0:=by lia
 refine cS.of (Wp.df ?_)
 have X:∀b,decide (f=1)=b->∀Z,aj (aC iZ (mix (ab 0) (aA 0)) (aA 1)) (.pv (.lst [.int f,.int c,.int t])::Z)=some (.ok b,.pv (.lst [.int f,.int c,.int t])::Z):=λb d Z=>aB (ag (ag rfl rfl (bh (.inl rfl) rfl)) rfl (jz d _))
 rcases hf with rfl|rfl
 .have hc:=hc rfl
  have b1:L2.Bd 128 (7919*(t+1)*(t+1)):=L2.Bd.mul (show (7919*(t+1)).natAbs<2^64 by lia) (show (t+1).natAbs<2^64 by lia)
  have b2:L2.Bd 130 (c+7919*(t+1)*(t+1)+(t+1)):=((L2.Bd.add (show c.natAbs<2^128 by lia) b1).add (show (t+1).natAbs<2^128 by lia)).mono Z2
  have e1:∀i:Int,(i.fmod 2305843009213693951).natAbs<2^64:=λi=>by have g:=Int.emod_nonneg i (b:=2305843009213693951) Z2;have V:=Int.emod_lt_of_pos i (b:=2305843009213693951) Z2;rw[Int.fmod_eq_emod_of_nonneg _ Z2];lia
  refine Wp.st (cq (X false rfl _) rfl) ?_
  refine Wp.st (aT (ag (ag rfl rfl (bh (.inl rfl) rfl)) rfl rfl) rfl rfl rfl rfl) ?_
  refine Wp.st (oO rfl rfl rfl rfl) ?_
  refine Wp.st (aT (ag (ag (ag (ag (ag rfl rfl (bh (.inl rfl) rfl)) (ag (ag rfl rfl (lg (zr Z2) (zr Q1) _)) rfl (lg (zr Q1) (zr Q1) _)) rfl) rfl rfl) rfl (lg (ft b2 Z2) (zr Z2) _)) rfl (kg Z2 _)) rfl rfl rfl rfl) ?_
  exact Wp.en (aK (ag (ag (ag (ag (ag rfl rfl (lg (zr (e1 _)) (zr Z2) _)) rfl rfl) rfl (kg Z2 _)) rfl (kl Z2 (iB (show (64:Int).natAbs<2^64 by decide) Z2) _)) rfl (kg h _)) rfl) ⟨_,_,_,rfl,rfl,_,rfl,Tg _ j,UN _ j,0,c,t+1,rfl,.inl rfl,λ_=>hc,by lia,by lia⟩
 .have U:∀Z,mix (ab 0) (aA 1) (.pv (.lst [.int 1,.int c,.int t])::Z)=some (.ok (.fr (.int c)),.pv (.lst [.int 1,.int c,.int t])::Z):=λZ=>ag rfl rfl (bh (.inl rfl) rfl)
  exact Wp.sr (eN (X true rfl _) (dP (aT (ag (U _) rfl (kg h _)) rfl rfl rfl rfl) <| dP (oO (ag (U _) rfl (kl h (iB (show m.natAbs<2^64 by lia) Z2) _)) rfl rfl rfl) (aK rfl rfl))) ⟨_,.lst [.int 1,.int (c.fdiv m),.int t],_,rfl,rfl,_,rfl,Tg c j,UN c j,1,c.fdiv m,t,rfl,.inr rfl,λz=>by lia,e,by lia⟩
variable{f:Ms}{o':LO}
theorem QB{as:List A}{s:Sl}(h:cS f o as s o')(R:qd s=some r):∀Z,eS f [] (.rf 0::as.map Rr.fr) (.pv o::Z)=some (.ok r,.pv o'::Z):=λZ=>cK h R rfl
theorem tk{n:Int}(m:Int)(w:Wl n o)(hn:n<2^40)(j:0<m)(K:m<2^64):X2 λr o'=>N4 (∀Z,eS bu [] [.rf 0,.fr (.int m)] (.pv o::Z)=some (.ok (.fr (.int r)),.pv o'::Z)) (0<=r) (r<m) (Wl (n+1) o'):=by obtain⟨r,o',h,h1,h2,h3⟩:=zU w hn j K;exact⟨r,o',QB h rfl,h1,h2,h3⟩
theorem pw(k v:Int)(h:0<=k/\k<=1000000/\(10:Int).natAbs<2^64)(e:(10:Int)^k.toNat=v)(Z:List Sl):aC pY (aA 10) (mC (.int k)) Z=some (.ok (.fr (.int v)),Z):=
 ag rfl rfl (fu (o:=none) rfl rfl (by rw[<-e];exact Zx h))
theorem Ia(ns:List Int)(k:Int)(s:0<=k)(S:k<=1000):∃o,nW gT [.lst (ns.map A.int),.int k] o/\Wl 17000 o:=by
 have key:∀c:Int,Wl 17000 (.lst [.int (if decide (1000000000000000000<=(if c<0 then -c else c))=true then 1 else 0),.int c,.int (17*k)]):=λc=>by
  refine⟨_,c,17*k,rfl,?_,λz=>?_,by lia,by lia⟩
  .generalize decide (1000000000000000000<=(if c<0 then -c else c))=d;cases d
   .exact .inl rfl
   .exact .inr rfl
  .by_cases h:1000000000000000000<=(if c<0 then -c else c)
   .simp[h] at z
   .split at h<;>lia
 have fin:∀c:Int,Wp (bB (du (eO (cx uy (aC Fh (cx BO (ab 2)) (aC pY (aA 10) (aA 18)))) (ab 2) (aC a9 (aA 17) (ab 1))))) [.fr (.lst (ns.map A.int)),.fr (.int k),.fr (.int c)] λg _=>g=.rt (.lv (.lst [.int (if decide (1000000000000000000<=(if c<0 then -c else c))=true then 1 else 0),.int c,.int (17*k)])):=λc=>Wp.en (aK (hJ (ae (eP (ag rfl (pw 18 1000000000000000000 Z2 Z2 _) rfl) rfl) (ae rfl (ae (ag rfl rfl (lg (zr Z2) (zr Q1) _)) rfl))) rfl) rfl) rfl
 have X:∀b,decide (k<((ns.map A.int).length:Int))=b->aj (aC ka (ab 1) (cx cC (ab 0))) [.fr (.lst (ns.map A.int)),.fr (.int k),.fr (.int 0)]=some (.ok b,[.fr (.lst (ns.map A.int)),.fr (.int k),.fr (.int 0)]):=by rintro b rfl;rfl
 by_cases hk:k<((ns.map A.int).length:Int)
 .obtain⟨j,rfl⟩:∃j:Nat,k=j:=⟨k.toNat,by lia⟩
  have a:j<ns.length:=by rw[QU] at hk;lia
  exact⟨_,nW.of (Wp.df (Wp.st rfl (Wp.st (eN (X true (ZA hk)) (aT (ag rfl rfl (bh (.inl rfl) (dM (by rw[Rm,Rg a];rfl)))) rfl rfl rfl rfl)) (Wp.mono (fin ns[j]) λf _ e=>by rw[e])))),key ns[j]⟩
 .exact⟨_,nW.of (Wp.df (Wp.st rfl (Wp.st (cq (X false (Zz hk)) rfl) (Wp.mono (fin 0) λf _ e=>by rw[e])))),key 0⟩
theorem B8{t b:Int}(h:b≠0)(E:L2.Bd 9000 b):Val cA [.int t,.int b] (nm (ck t b)):=by
 have k:=aI (Oj (x:=t) h E);have hc:=qW (x:=t) h;have f:fits 9000 (cd t b)=true:=iB (show L2.Bd 9000 (cd t b) from RN (F0 h) E) (QY _);have d:∀(u:Int)(Z:List Sl),lh iK (.fr (.int u)) (.fr (.int (cd t b))) Z=some (.ok (.fr (.int (u.fdiv (cd t b)))),Z):=λu Z=>by unfold lh;simp only[res,Gy,M.nU,f,bne_iff_ne,ne_eq,hc,not_false_eq_true,S4,decide_true,if_true]
 exact Val.of (Wp.df (Wp.st (Bz (au rfl (k _)) rfl) (Wp.en (aK (dZ (ae (ag rfl rfl (d _ _)) (ae (ag rfl rfl (d _ _)) rfl)) rfl) rfl) rfl)))
section
variable{x y:Num}{n m:Nat}(hx:NB n x)(hy:NB m y)(h:n+m<=8999)
include hx hy h
theorem Eo:Val mZ [nm x,nm y] (nm (xK x y)):=
 Val.of (Wp.df (Wp.en (aK (au (ae (kR (ag (ag rfl rfl (lg (ft hx.b1 Q1) (ft hy.b2 Q1) _)) (ag rfl rfl (lg (ft hy.b1 Q1) (ft hx.b2 Q1) _)) rfl) rfl) (ae (ag rfl rfl (lg (ft hx.b2 Q1) (ft hy.b2 Q1) _)) rfl)) (aI (tE (R8 hx.nz hy.nz) ((hx.b2.mul hy.b2).mono Q1)) _)) rfl) rfl))
theorem DO:Val mD [nm x,nm y] (nm (wy x y)):=
 Val.of (Wp.df (Wp.en (aK (au (ae (ag rfl rfl (lg (ft hx.b1 Q1) (ft hy.b1 Q1) _)) (ae (ag rfl rfl (lg (ft hx.b2 Q1) (ft hy.b2 Q1) _)) rfl)) (aI (tE (R8 hx.nz hy.nz) ((hx.b2.mul hy.b2).mono Q1)) _)) rfl) rfl))
end
theorem NB.Pd{x y:Num}{n m:Nat}(hx:NB n x)(hy:NB m y):NB (n+m) (wy x y):=NB.ck (R8 hx.nz hy.nz) (hx.b1.mul hy.b1) (hx.b2.mul hy.b2)
section
variable{x y:Num}{n m:Nat}(hx:NB n x)(hy:NB m y)(h:n<=20000)(h':m<=20000)
include hx hy h h'
theorem j8:Val dJ [nm x,nm y] (.bl (KN x y)):=
 Val.of (Wp.df (Wp.en (aK (ag (ag rfl rfl (lg (ft hx.b1 h) (ft hy.b2 h') _)) (ag rfl rfl (lg (ft hy.b1 h') (ft hx.b2 h) _)) rfl) rfl) rfl))
end
theorem yY{x:Sl}{t:Sl}(hi:S.length=i)(hx:∀o,x≠Sl.pv o):put i t (S++[x])=some (S++[t]):=by
 subst hi;unfold put;rw[RG (QY _),Ti];simp only[Vw];have e:(S++[x]).set S.length t=S++[t]:=by rw[Uq _ _ (QY _),Ti];rfl
 cases x with
 |pv o=>exact absurd rfl (hx o)
 |un=>simp only[e]
 |fr a=>simp only[e]
 |lv o=>simp only[e]
 |cf a=>simp only[e]
theorem rY{n:Nat}{t:Mi Bool}{as ys:List A}{O:List Sl}(hl:as.length<=100000)(h:dq G t e as [] (Z++QX n .un)=some (ys,O)):ig n G t e as Z=some (.ok (.nw (.lst ys)),O.take Z.length):=by unfold ig;rw[Zx hl,h]
variable{T:Type}
theorem bH{ts:List T}(k g:T->A)(hi:S.length=i)(hl:ts.length<=100000)(h:∀t∈ts,∃r,e (S++[.fr (k t)])=some (.ok r,S++[.fr (k t)])/\bX r (S++[.fr (k t)])=some (g t,S++[.fr (k t)])):
  ig 1 (aM i) aO e (ts.map k) S=some (.ok (.nw (.lst (ts.map g))),S):=by
 obtain⟨ys,O,h1,x,rfl,_,rfl⟩:=eZ (G:=aM i) (t:=aO) (as:=ts.map k)
  (λj acc Z=>∃x:Sl,N3 (Z=S++[x]) (∀o,x≠Sl.pv o) (acc=(ts.take j).map g)) ⟨.un,rfl,(λo z=>by cases z),rfl⟩ (by
   rintro j q acc Z l ⟨x,rfl,hx,rfl⟩;rw[Rm] at l;cases a:ts[j]? with
   |none=>rw[a] at l;cases l
   | some t=>rw[a] at l;cases l;obtain⟨r,H,J⟩:=h t (RF a);refine⟨S++[Sl.fr (k t)],(show put i (.fr (k t)) (S++[x])=some (S++[.fr (k t)]) from yY hi hx),.inl ⟨_,r,_,g t,_,rfl,H,J,.fr (k t),rfl,(λo z=>by cases z),?_⟩⟩;rw[Td,a,Rz];rfl)
 unfold ig;rw[Zx (by rw[QU];exact hl)];have e1:S++QX 1 Sl.un=S++[.un]:=rfl;rw[e1,h1];simp
theorem DX(x:Int):Ok (x,1):=⟨by show (0:Int)<1;decide,by show RT x 1=1;simp⟩
theorem uN(x:Num):rH (nm x) (nm x)=some true:=by rw[Iq];simp
abbrev G2(i j:Nat):Mg:=f6 2 (bT (aM i) (bT (aM j) fH))
theorem Dm{t:Mi Bool}{ts:List T}(k g:T->A)(c:T->Bool)(hi:S.length=i)(hl:ts.length<=100000)(h:∀x∈ts,t (S++[.fr (k x)])=some (.ok (c x),S++[.fr (k x)])/\(c x=true->∃r,e (S++[.fr (k x)])=some (.ok r,S++[.fr (k x)])/\bX r (S++[.fr (k x)])=some (g x,S++[.fr (k x)]))):
  ig 1 (aM i) t e (ts.map k) S=some (.ok (.nw (.lst ((ts.filter c).map g))),S):=by
 obtain⟨ys,O,h1,x,rfl,_,rfl⟩:=eZ (G:=aM i) (as:=ts.map k)
  (λj acc Z=>∃x:Sl,N3 (Z=S++[x]) (∀o,x≠Sl.pv o) (acc=((ts.take j).filter c).map g)) ⟨.un,rfl,(λo z=>by cases z),rfl⟩ (by
   rintro j q acc Z l ⟨x,rfl,hx,rfl⟩;rw[Rm] at l;cases a:ts[j]? with
   |none=>rw[a] at l;cases l
   |some y=>
    rw[a] at l;cases l;obtain⟨H,J⟩:=h y (RF a);refine⟨S++[Sl.fr (k y)],(show put i (.fr (k y)) (S++[x])=some (S++[.fr (k y)]) from yY hi hx),?_⟩;rw[Td,a,V6];cases F:c y with
    |true=>obtain⟨r,D,d⟩:=J F;rw[F] at H;exact .inl ⟨_,r,_,g y,_,H,D,d,.fr (k y),rfl,(λo z=>by cases z),by simp[F]⟩
    | false=>rw[F] at H;exact .inr ⟨_,H,.fr (k y),rfl,(λo z=>by cases z),by simp[F]⟩)
 unfold ig;rw[Zx (by rw[QU];exact hl)];have e1:S++QX 1 Sl.un=S++[.un]:=rfl;rw[e1,h1];simp
noncomputable abbrev lI(r:List Int):A:=.lst (r.map A.int)
abbrev gI(g:List (List Int)):A:=.lst (g.map lI)
theorem fS{r:List Int}(h:j<r.length):iq (r.map A.int) (j:Int)=some (.int (r.getD j 0)):=
 dM (by simp[Rp,h])
theorem A6{g:List (List Int)}(h:j<g.length):iq (g.map lI) (j:Int)=some (lI (g.getD j [])):=
 dM (by simp[Rp,h])
variable{α:Type}
theorem zX{xs:List α}{n:Nat}{v:α}(h:xs.length=n+1)(e:xs[n]?=some v):iq xs (-1)=some v:=by
 have k:L2.gH xs.length (-1)=some n:=by
  unfold L2.gH;rw[Zy Z2,Zx Q1]
  congr 1;lia
 unfold iq;rw[k];exact e
theorem lG{r:List Int}{n:Nat}(h:r.length=n+1):iq (r.map A.int) (-1)=some (.int (r.getD n 0)):=
 zX (by simpa using h) (by simp[Rp,h])
theorem vJ{g:List (List Int)}{n:Nat}(h:g.length=n+1):iq (g.map lI) (-1)=some (lI (g.getD n [])):=
 zX (by simpa using h) (by simp[Rp,h])
theorem J4{xs:List A}{n:Nat}(h:xs.length=n+1):i5 xs none (some (-1))=xs.take n:=by
 have e:HT.jV xs.length xs.length (some (-1))=n:=by unfold HT.jV;simp[h];lia
 have I:HT.jV xs.length 0 none=0:=rfl;unfold i5;rw[e,I,VM,WK]
theorem Jg{xs:List A}{n:Nat}(h:xs.length=n+1):i5 xs (some (-1)) none=xs.drop n:=by
 have e:HT.jV xs.length 0 (some (-1))=n:=by unfold HT.jV;simp[h];lia
 have I:HT.jV xs.length xs.length none=xs.length:=rfl;unfold i5;rw[e,I,VD Z4]
variable{β:Type}
theorem eM{k:α->A}{l:β->A}(xs:List α)(ys:List β):gK (xs.map k) (ys.map l)=(xs.zip ys).map λp=>.tup [k p.1,l p.2]:=by unfold gK;rw[List.zip_map,Rx];rfl
variable{tl:List Sl}
theorem ie{x t:Sl}(hi:S.length=i)(hx:np x=true):put i t (S++x::tl)=some (S++t::tl):=by subst hi;rw[FP,RG (QY _),Ti];simp only[Vw,hx,if_true];rw[Uq _ _ (QY _),Ti];rfl
theorem nA{x y:Sl}{a b:A}(hi:S.length=i)(hx:np x=true)(hy:np y=true):G2 i (i+1) (.tup [a,b]) (S++x::y::tl)=some (S++.fr a::.fr b::tl):=by
 have e1:=ie (tl:=y::tl) (t:=.fr a) hi hx;have e2:=ie (S:=S++[.fr a]) (i:=i+1) (tl:=tl) (x:=y) (t:=.fr b) (by simp[hi]) hy;rw[QQ,QQ] at e2;have N:f6 2 (bT (aM i) (bT (aM (i+1)) fH)) (.tup [a,b]) (S++x::y::tl)=some (S++.fr a::.fr b::tl):=by show bT (aM i) (bT (aM (i+1)) fH) [a,b] _=_;unfold bT;simp only[aM,e1];show (match put (i+1) (Sl.fr b) (S++([Sl.fr a]++y::tl)) with|some U=>fH [] U|none=>none)=_;rw[e2];rfl
 exact N
theorem oE{ts:List T}(H J g:T->A)(hi:S.length=i)(hl:ts.length<=100000)
  (h:∀t∈ts,∃r,e (S++[.fr (H t),.fr (J t)])=some (.ok r,S++[.fr (H t),.fr (J t)])/\bX r (S++[.fr (H t),.fr (J t)])=some (g t,S++[.fr (H t),.fr (J t)])):
  ig 2 (G2 i (i+1)) aO e (ts.map λt=>.tup [H t,J t]) S=some (.ok (.nw (.lst (ts.map g))),S):=by
 obtain⟨ys,O,h1,x,y,rfl,_,_,rfl⟩:=eZ (G:=G2 i (i+1)) (t:=aO) (as:=ts.map λt=>.tup [H t,J t])
  (λj acc Z=>X2 λ(x y:Sl)=>N4 (Z=S++[x,y]) (np x=true) (np y=true) (acc=(ts.take j).map g)) ⟨.un,.un,rfl,rfl,rfl,rfl⟩ (by
   rintro j q acc Z l ⟨x,y,rfl,hx,hy,rfl⟩;rw[Rm] at l;cases a:ts[j]? with
   |none=>rw[a] at l;cases l
   | some p=>rw[a] at l;cases l;obtain⟨r,H,J⟩:=h p (RF a);refine⟨_,nA hi hx hy,.inl ⟨_,r,_,g p,_,rfl,H,J,_,_,rfl,rfl,rfl,?_⟩⟩;rw[Td,a,Rz];rfl)
 unfold ig;rw[Zx (by rw[QU];exact hl)];have e1:S++QX 2 Sl.un=S++[.un,.un]:=rfl;rw[e1,h1];simp
theorem Ao{r:List Int}(hl:r.length<=100000):nW aS [lI r] (.lst ((Sx.fZ r).map A.int)):=
 nW.of (Wp.df (Wp.en (aK (bJ rfl (bH (k:=A.int) (S:=[.fr (lI r)]) (λx=>.int (-x)) rfl hl λx _=>⟨_,rfl,rfl⟩)) rfl) (by unfold Sx.fZ;rw[Rx];rfl)))
variable{c:Nat}
theorem cB{r:List Int}(h:c<r.length):r.getD c 0∈r:=by simp[Rp,h]
variable{pr:List Int}{s:Int}{N:Nat}
theorem J0{row:List Int}(h1:row.length=N+1)(h2:pr.length=N+1)(hc:c<N+1)(hN:N<100)(hs:s≠0)(bs:L2.Bd 400 s)(b1:∀x∈row,L2.Bd 400 x)(b2:∀x∈pr,L2.Bd 400 x):
  nW eW [lI row,lI pr,.int c,.int s] (.lst ((Sx.kH row pr c s).map A.int)):=by
 have fp:=ft (b2 _ (cB (show c<pr.length by lia))) (show 400<=20000 by decide);have e:=ft (b1 _ (cB (show c<row.length by lia))) (show 400<=20000 by decide);have fs:=ft bs (show 400<=9000 by decide);have O:∀Z:List Sl,mix (ab 1) (ab 2) (.fr (lI row)::.fr (lI pr)::.fr (.int c)::Z)=some (.ok (.fr (.int (pr.getD c 0))),.fr (lI row)::.fr (lI pr)::.fr (.int c)::Z):=λZ=>ag rfl rfl (bh (.inl rfl) (fS Q1));have D:∀Z:List Sl,mix (ab 0) (ab 2) (.fr (lI row)::.fr (lI pr)::.fr (.int c)::Z)=some (.ok (.fr (.int (row.getD c 0))),.fr (lI row)::.fr (lI pr)::.fr (.int c)::Z):=λZ=>ag rfl rfl (bh (.inl rfl) (fS Q1));have h:row.length<=100000:=by lia
 generalize w:pr.getD c 0=p at O fp;generalize y:row.getD c 0=f at D e;refine nW.of (Wp.df (Wp.st (aT (O _) rfl rfl rfl rfl) (Wp.st (aT (D _) rfl rfl rfl rfl) ?_)));have X:∀b,decide (f=0)=b->∀x:Sl,aj (aC iZ (ab 5) (aA 0)) [.fr (lI row),.fr (lI pr),.fr (.int c),.fr (.int s),.fr (.int p),.fr (.int f),x]=some (.ok b,[.fr (lI row),.fr (lI pr),.fr (.int c),.fr (.int s),.fr (.int p),.fr (.int f),x]):=λb d x=>aB (ag rfl rfl (jz d _));by_cases z:f=0
 .refine Wp.sr (eN (X true (ZA z) _) (aK (bJ rfl (bH (k:=A.int) (S:=[.fr (lI row),.fr (lI pr),.fr (.int c),.fr (.int s),.fr (.int p),.fr (.int f),.un]) (λx=>.int ((p*x).fdiv s)) rfl h λx hx=>⟨_,ag (ag rfl rfl (lg fp (ft (b1 x hx) Z2) _)) rfl (kl hs fs _),rfl⟩)) rfl)) ?_;unfold Sx.kH;rw[w,y,Zx z,Rx];rfl
 .refine Wp.st (cq (X false (Zz z) _) rfl) ?_;refine Wp.st (aT (bJ (as:=(row.zip pr).map λt=>.tup [.int t.1,.int t.2]) ?_ (oE (i:=7) (S:=[.fr (lI row),.fr (lI pr),.fr (.int c),.fr (.int s),.fr (.int p),.fr (.int f),.un]) (λt=>.int t.1) (λt=>.int t.2) (λt=>.int ((p*t.1-f*t.2).fdiv s)) rfl (by rw[SJ];lia) λt l=>⟨_,ag (ag (ag rfl rfl (lg fp (ft (b1 _ (S7 l).1) Z2) _)) (ag rfl rfl (lg e (ft (b2 _ (S7 l).2) Z2) _)) rfl) rfl (kl hs fs _),rfl⟩)) rfl rfl rfl rfl) ?_
  .rw[<-eM];rfl
  .have m:c<((row.zip pr).map λt=>A.int ((p*t.1-f*t.2).fdiv s)).length:=by rw[QU,SJ];lia
   have k:L2.gH ((row.zip pr).map λt=>A.int ((p*t.1-f*t.2).fdiv s)).length (c:Int)=some c:=by unfold L2.gH;rw[Zx Q1,Zx Q1];simp
   refine Wp.st (oO (r:=.fr (.int (-f))) (rk:=.fr (.int c)) rfl rfl rfl (q:=some (.nx,[.fr (lI row),.fr (lI pr),.fr (.int c),.fr (.int s),.fr (.int p),.fr (.int f),.lv (.lst (((row.zip pr).map λt=>A.int ((p*t.1-f*t.2).fdiv s)).set c (.int (-f))))])) ?_) (Wp.en (aK rfl rfl) ?_)
   .show (match L2.gH ((row.zip pr).map λt=>A.int ((p*t.1-f*t.2).fdiv s)).length (c:Int) with|some n=>_|none=>_)=_;rw[k];rfl
   .unfold Sx.kH;rw[w,y,Zy z,Uh,Rx];rfl
theorem gM{m n:Mi Rr}{q:Option (Except Str Rr×List Sl)}(h:aj m Z=some (.ok true,U))(k:n U=q):il m n Z=q:=by rw[GA,h];exact k
theorem iE{m:Mi Rr}{n:Nat}(h:m Z=some (.ok (.fr (.int n)),U))(hn:n<=100000):cU m Z=some (.ok (bI 0 n),U):=by refine bk h ?_;show (if -(2^60)<=(n:Int)/\(n:Int)<2^60 then some (RI (bI 0 (n:Int).toNat),U) else none)=_;rw[Zx Q1];rfl
noncomputable def vA:Rr->A
 | .fr a=>a
 | .nw o=>o.a
 | .rf _=>.non
noncomputable def Cj:Rr->Bool
 | .rf _=>false
 |_=>true
theorem lj(Z:List Sl):∀rs:List Rr,rs.all Cj=true->cy rs Z=some ((rs.map vA).map Sl.fr,Z)
 |[],_=>rfl
 |r::rs,h=>by
  rw[Rh,QM] at h;have e:take1 r Z=some (.fr (vA r),Z):=by
   cases r with
   |rf i=>cases h.1
   |fr a=>rfl
   |nw o=>rfl
  unfold cy;rw[e];dsimp only;rw[lj Z rs h.2];rfl
theorem Ar(S Z:List Sl):∀(rs:List Rr)(ss:List Sl),rs.all Cj=true->rs.length=ss.length->putL S rs ss Z=some Z
 |[],[],_,_=>rfl
 |r::rs,s::ss,h,l=>by
  rw[Rh,QM] at h;unfold putL;rw[Ar S Z rs ss h.2 (Vf l)];cases r with
  |rf i=>cases h.1
  |fr a=>rfl
  |nw o=>rfl
theorem vS{a:A}(q:rs.all Cj=true)(h:Val f (rs.map vA) a)(Z:List Sl):eS f [] rs Z=some (.ok (.fr a),Z):=by obtain⟨O,h⟩:=h;unfold eS;rw[Ta,RO,lj Z rs q];dsimp only;rw[mE,h];dsimp only;rw[Ar _ _ _ _ q (by rw[cD,QU,QU])];rfl
theorem Ml(k:Int):nv (k,1)=(k:Rat):=by
 have:=mI (t:=k) (b:=1) Z2;rw[Em] at this;rw[this,Ws];show (k:Rat) / (1:Rat)=k
 grind
theorem zL{a:Int}(h:s≠0):nv (ck a s)=(a:Rat) / (s:Rat):=by rw[mI h,Ws]
theorem AU{a b k:Int}(h:s≠0):xK (ck a s) (wy (k,1) (ck b s))=ck (a+k*b) s:=by
 have r:=jk (t:=a) h;have o2:=jk (t:=b) h;have n:=jk (t:=a+k*b) h;have hs:(s:Rat)≠0:=by simpa using h
 refine Gr (J5 r (yr (DX k) o2)) n ?_;rw[Jm r (yr (DX k) o2),Kl (DX k) o2,Ml,zL h,zL h,zL h,Rat.intCast_add,Rat.intCast_mul]
 grind
theorem Lc{k a:Int}(h:0<s):KN (k,1) (ck a s)=decide (k*s<a):=by
 have ne:s≠0:=by lia
 obtain⟨e1,e2⟩:=gF (t:=a) ne;have b:=(lD (t:=a) ne).1 h;unfold KN;apply decide_eq_decide.mpr;show k*(ck a s).2<(ck a s).1*1↔_;rw[SH];generalize cd a s=c at *;generalize (ck a s).1=x at *;generalize (ck a s).2=y at *;subst e1;subst e2;rw[show k*(c*y)=c*(k*y) by grind];exact⟨λz=>Vk z b,λz=>Vs z (SE b)⟩
theorem M6{k a:Int}(h:0<s):KN (ck a s) (k,1)=decide (a<k*s):=by
 have ne:s≠0:=by lia
 obtain⟨e1,e2⟩:=gF (t:=a) ne;have b:=(lD (t:=a) ne).1 h;unfold KN;apply decide_eq_decide.mpr;show (ck a s).1*1<k*(ck a s).2↔_;rw[SH];generalize cd a s=c at *;generalize (ck a s).1=x at *;generalize (ck a s).2=y at *;subst e1;subst e2;rw[show k*(c*y)=c*(k*y) by grind];exact⟨λz=>Vk z b,λz=>Vs z (SE b)⟩
abbrev nS(n:Nat)(s:Int)(v:Nat->Int):A:=.tup ((Rb n).map λj=>nm (ck (v j) s))
abbrev V9(n:Nat)(v:Nat->Int):Prop:=∀j,j<n->L2.Bd 900 (v j)
theorem lK{f:Nat->Int}{b:Nat}:∀{n:Nat},(∀j,j<n->L2.Bd b (f j))->n<=2^10->L2.Bd (b+10) (Sx.su n f):=by
 intro n h hn;have h1:∀j,j<n->(f j).natAbs<=2^b:=λj a=>Rv (h j a);have h2:=Sx.zo h1;by_cases z:n=0
 .subst z;exact Tw Z2
 .have:∀j,j<n->(f j).natAbs<=2^b-1:=λj a=>by have:=h j a;unfold L2.Bd at this;lia
  have h3:=Sx.zo this;have:n*(2^b-1)<n*2^b:=Nat.mul_lt_mul_of_pos_left (by have:=Tw (n:=b) (show 0<2 by decide);lia) Q1;show (Sx.su n f).natAbs<2^(b+10);rw[VZ];have:n*2^b<=2^b*2^10:=by rw[TJ];exact Nat.mul_le_mul_left _ hn
  lia
theorem Dr{row:List Int}{n:Nat}{k:Nat->A}{a:A}(R:row.length=n)(h:(gK (row.map A.int) ((Rb n).map k))[i]?=some a):i<n/\a=.tup [.int (row.getD i 0),k i]:=by
 rw[eM,Rm] at h;cases e:(row.zip (Rb n))[i]? with
 |none=>rw[e] at h;cases h
 |some p=>rw[e] at h;cases h;rw[RX] at e;obtain⟨e1,e2⟩:=e;have hi:i<row.length:=(QP.mp e1).1;refine⟨by lia,?_⟩;rw[Si Q1] at e2;cases e2;simp[Rp,e1]
variable{R:List (List Int)}{L:List Int}
theorem C9{a:A}(h:(gK (R.map lI) (L.map A.int))[i]?=some a):i<R.length/\i<L.length/\a=.tup [lI (R.getD i []),.int (L.getD i 0)]:=by
 rw[eM,Rm] at h;cases e:(R.zip L)[i]? with
 |none=>rw[e] at h;cases h
 |some p=>rw[e] at h;cases h;rw[RX] at e;obtain⟨e1,e2⟩:=e;refine⟨(QP.mp e1).1,(QP.mp e2).1,?_⟩;simp[Rp,e1,e2]
theorem rh{i:Int}(h:L2.Bd 900 i):NB 900 (i,1):=⟨DX i,h,by show (1:Int).natAbs<2^900;decide +kernel⟩
theorem sV{i j:Int}(h:L2.Bd 900 i)(k:L2.Bd 900 j):L2.Bd 1800 (i*j):=h.mul k
section
variable{n:Nat}{s:Int}{v:Nat->Int}(hn:n<=20)(hs:0<s)(bs:L2.Bd 900 s)(hv:V9 n v)
include hn hs bs hv
theorem oV{row:List Int}(R:row.length=n)(d:∀x∈row,L2.Bd 900 x):Val dg [lI row,nS n s v] (nm (ck (Sx.su n λj=>row.getD j 0*v j) s)):=by
 have ne:s≠0:=by lia
 have br:∀j,j<n->L2.Bd 900 (row.getD j 0):=λj L=>d _ (cB Q1);refine Val.of (Wp.df (Wp.st (aT (dZ (ae rfl (ae rfl rfl)) rfl) rfl rfl rfl rfl) (Wp.sq (Wp.fr
  (as:=gK (row.map A.int) ((Rb n).map λj=>nm (ck (v j) s)))
  (λi Z=>X2 λ(e D:Sl)=>N3 (np e=true) (np D=true) (Z=[.fr (lI row),.fr (nS n s v),.fr (nm (ck (Sx.su i λj=>row.getD j 0*v j) s)),e,D])) rfl ⟨.un,.un,rfl,rfl,by rw[show Sx.su 0 _=0 from rfl,rR ne];rfl⟩ ?_ ?_))))
 .rintro i a Z f ⟨e,D,h3,h4,rfl⟩;obtain⟨hi,rfl⟩:=Dr R f;have z:=rh (br i hi);have h:=NB.ck ne (hv i hi) bs;have c:NB 1810 (ck (Sx.su i λj=>row.getD j 0*v j) s):=NB.ck ne (lK (b:=1800) (λj L=>sV (br j Q1) (hv j Q1)) Q1) (bs.mono Z2);refine⟨_,nA (S:=[.fr (lI row),.fr (nS n s v),.fr (nm (ck (Sx.su i λj=>row.getD j 0*v j) s))]) (tl:=[]) rfl h3 h4,Wp.en (aT (au (ae rfl (ae (au (ae (dZ (ae rfl (ae rfl rfl)) rfl) (ae rfl rfl)) (aI (DO z h Z2) _)) rfl)) (aI (Eo c (NB.Pd z h) Z2) _)) rfl rfl rfl rfl) ⟨.inl rfl,.fr (.int (row.getD i 0)),.fr (nm (ck (v i) s)),rfl,rfl,?_⟩⟩;rw[AU ne];rfl
 .rintro O ⟨e,D,h3,h4,rfl⟩;rw[show (gK (row.map A.int) ((Rb n).map λj=>nm (ck (v j) s))).length=n by rw[eM,QU,SJ,Te];lia];exact⟨rfl,Wp.en (aK rfl rfl) rfl⟩
theorem pP(o:∀r∈R,r.length=n/\∀x∈r,L2.Bd 900 x)(P:∀x∈L,L2.Bd 900 x)(h:∀i,i<R.length->i<L.length->(Sx.su n λj=>(R.getD i []).getD j 0*v j)<=L.getD i 0*s):Val eV [gI R,lI L,nS n s v] (.bl true):=by
 have ne:s≠0:=by lia
 refine Val.of (Wp.df (Wp.sq (Wp.fr (as:=gK (R.map lI) (L.map A.int))
  (λi Z=>X2 λ(z D:Sl)=>N3 (np z=true) (np D=true) (Z=[.fr (gI R),.fr (lI L),.fr (nS n s v),z,D])) rfl ⟨.un,.un,rfl,rfl,rfl⟩ ?_ ?_)))
 .rintro i a Z f ⟨z,D,h3,h4,rfl⟩;obtain⟨w,I,rfl⟩:=C9 f;have X:=o _ (Sx.getD_mem w);have c:=rh (P _ (cB I));have k:NB 1810 (ck (Sx.su n λj=>(R.getD i []).getD j 0*v j) s):=NB.ck ne (lK (b:=1800) (λj F=>sV (X.2 _ (cB Q1)) (hv j F)) Q1) (bs.mono Z2);have e:=j8 c k Z2 Z2;rw[Lc hs,Zz (XI.mpr (h i w I))] at e;exact⟨_,nA (S:=[.fr (gI R),.fr (lI L),.fr (nS n s v)]) (tl:=[]) rfl h3 h4,Wp.en (cq (aB (au (ae (dZ (ae rfl (ae rfl rfl)) rfl) (ae (au (ae rfl (ae rfl rfl)) (aI (oV hn hs bs hv X.1 X.2) _)) rfl)) (aI e _))) rfl) ⟨.inl rfl,_,_,rfl,rfl,rfl⟩⟩
 .rintro O ⟨z,D,h3,h4,rfl⟩;exact⟨rfl,Wp.en (aK rfl rfl) rfl⟩
theorem se{c:List Int}(H:R.length=n)(X:∀r∈R,c.length<=r.length/\∀x∈r,L2.Bd 900 x)(hc:∀x∈c,L2.Bd 900 x)(cl:c.length<=20)(h:∀j,j<c.length->c.getD j 0*s<=Sx.su n λk=>(R.getD k []).getD j 0*v k):Val fO [lI c,gI R,nS n s v] (.bl true):=by
 have ne:s≠0:=by lia
 refine Val.of (Wp.df (Wp.sq (Wp.fr (as:=bI 0 c.length)
  (λi Z=>X2 λ(y D:Sl)=>N3 (np y=true) (np D=true) (Z=[.fr (lI c),.fr (gI R),.fr (nS n s v),y,D])) ?_ ⟨.un,.un,rfl,rfl,rfl⟩ ?_ ?_)))
 .refine iE ?_ Q1;show some (RI (Rr.fr (.int (c.map A.int).length)),_)=_;rw[QU];rfl
 .rintro i a Z f ⟨y,D,h3,h4,rfl⟩;obtain⟨hi,rfl⟩:=nC f;have o:=rh (hc _ (cB hi));have q:∀x∈R.map λr=>r.getD i 0,L2.Bd 900 x:=λx hx=>by obtain⟨r,h1,rfl⟩:=Rq.mp hx;exact(X r h1).2 _ (cB (by have:=(X r h1).1;lia))
  have I:=oV hn hs bs hv (row:=R.map λr=>r.getD i 0) (by rw[QU,H]) q;have es:(Sx.su n λj=>(R.map λr=>r.getD i 0).getD j 0*v j)=Sx.su n λk=>(R.getD k []).getD i 0*v k:=Sx.bG λk hk=>by rw[Sx.getD_map (d:=[]) Q1]
  rw[es] at I;have p:NB 1810 (ck (Sx.su n λk=>(R.getD k []).getD i 0*v k) s):=NB.ck ne (lK (b:=1800) (λj L=>by have z:=X _ (Sx.getD_mem (show j<R.length by lia));exact sV (z.2 _ (cB Q1)) (hv j L)) Q1) (bs.mono Z2)
  have e:=j8 p o Z2 Z2;rw[M6 hs,Zz (XI.mpr (h i hi))] at e;have Q:(aM 3) (.int (i:Nat)) [.fr (lI c),.fr (gI R),.fr (nS n s v),y,D]=some [.fr (lI c),.fr (gI R),.fr (nS n s v),.fr (.int (i:Nat)),D]:=ie (S:=[.fr (lI c),.fr (gI R),.fr (nS n s v)]) (tl:=[D]) rfl h3;have w:=aI I [.fr (lI c),.fr (gI R),.fr (nS n s v),.fr (.int (i:Nat)),D];have E:lz (aP 1 (cH (ab 1)) (aM 5) aO (mix (ab 5) (ab 3))) [.fr (lI c),.fr (gI R),.fr (nS n s v),.fr (.int (i:Nat)),D]=some (.ok (.fr (lI (R.map λ(r:List Int)=>r.getD i 0))),[.fr (lI c),.fr (gI R),.fr (nS n s v),.fr (.int (i:Nat)),D]):=by refine kR (bJ rfl (bH (k:=lI) (S:=[.fr (lI c),.fr (gI R),.fr (nS n s v),.fr (.int (i:Nat)),D]) (λr=>.int (r.getD i 0)) rfl Q1 λr Y=>⟨_,ag rfl rfl (bh (.inl rfl) (fS (by have:=(X r Y).1;lia))),rfl⟩)) ?_;unfold lI;rw[Rx];rfl
  exact⟨_,Q,Wp.st (U:=[.fr (lI c),.fr (gI R),.fr (nS n s v),.fr (.int (i:Nat)),.fr (nm (ck (Sx.su n λk=>(R.getD k []).getD i 0*v k) s))]) (aT (au (ae E (ae rfl rfl)) w) rfl rfl h4 rfl) (Wp.en (cq (aB (au (ae rfl (ae (dZ (ae (ag rfl rfl (bh (.inl rfl) (fS hi))) (ae rfl rfl)) rfl) rfl)) (aI e _))) rfl) ⟨.inl rfl,_,_,rfl,rfl,rfl⟩)⟩
 .rintro O ⟨y,D,h3,h4,rfl⟩;exact⟨rfl,Wp.en (aK rfl rfl) rfl⟩
end
theorem vD(i:Int):Val gG [.int i] (.bl true):=⟨[.fr (.int i)],rfl⟩
theorem wq{x:Num}{b:Nat}(h:NB b x)(d:b<=9000):Val cT [nm x] (.bl true):=by have k:=tE (t:=x.1) (b:=x.2) h.nz (h.b2.mono d);rw[BH h.ok] at k;have P:∀Z:List Sl,mix (ab 0) (aA 0) (.fr (nm x)::Z)=some (.ok (.fr (.int x.1)),.fr (nm x)::Z):=λZ=>ag rfl rfl (bh (.inr rfl) rfl);have s:∀Z:List Sl,mix (ab 0) (aA 1) (.fr (nm x)::Z)=some (.ok (.fr (.int x.2)),.fr (nm x)::Z):=λZ=>ag rfl rfl (bh (.inr rfl) rfl);refine Val.of (Wp.df (Wp.st (cq (dC (fK (b:=true) rfl) (dC rfl (dC (fK (b:=true) (aB (au (ae (P _) rfl) (aI (vD _) _)))) (fK (b:=true) (aB (au (ae (s _) rfl) (aI (vD _) _))))))) rfl) ?_));have gt:aC ow (mix (ab 0) (aA 1)) (aA 0) [.fr (nm x)]=some (.ok (.fr (.bl true)),[.fr (nm x)]):=ag (s _) rfl (fu (o:=none) rfl rfl (by rw[ML];show some (Rr.fr (.bl (decide (0<x.2))))=_;rw[ZA h.ok.1]));refine Wp.en (aK (gM (aB gt) (ag (au (ae (P _) (ae (s _) rfl)) (aI k _)) rfl (fu (o:=none) (r:=.fr (.bl true)) rfl rfl (by unfold iZ;rw[uN])))) rfl) rfl
theorem Hc{n:Nat}{v:Nat->Int}(hn:n<=20)(hs:0<s)(bs:L2.Bd 900 s)(A:V9 n v)(u:∀j,j<n->0<=v j):Val bq [nS n s v,.int n,.bl false] (.bl true):=by
 have ne:s≠0:=by lia
 have hl:((Rb n).map λj=>nm (ck (v j) s)).length=n:=by simp
 have T:aj (aC iN (cx cC (ab 0)) (ab 1)) [.fr (nS n s v),.fr (.int n),.fr (.bl false)]=some (.ok false,[.fr (nS n s v),.fr (.int n),.fr (.bl false)]):=by refine aB (ag (x:=.fr (.int n)) (U:=[.fr (nS n s v),.fr (.int n),.fr (.bl false)]) ?_ rfl (d0 (b:=true) Z4 _));show some (RI (Rr.fr (.int ((Rb n).map λj=>nm (ck (v j) s)).length)),_)=_;rw[hl]
 have h:=Dm (i:=3) (e:=ab 3) (t:=mJ (fz (aj (a8 cT (cR (ah 3))))) (m5 (fz (aj (ab 2))) (aj (aC ka (mix (ab 3) (aA 0)) (aA 0))))) (ts:=Rb n) (S:=[.fr (nS n s v),.fr (.int n),.fr (.bl false)]) (λj=>nm (ck (v j) s)) (λj=>nm (ck (v j) s)) (λ_=>false) rfl (by simp;lia) (λj O=>⟨?_,λz=>nomatch z⟩)
 .rw[SI.mpr (λa _=>by simp)] at h;exact Val.of (Wp.df (Wp.st (cq (dC (fK (b:=true) rfl) T) rfl) (Wp.en (aK (ag (bJ rfl h) rfl (fu (o:=none) (r:=.fr (.bl true)) rfl rfl rfl)) rfl) rfl)))
 .have O:=RJ.mp O;have k:=wq (NB.ck ne (A j O) bs) Z2;have lt:(ck (v j) s).1<0↔v j<0:=Hv hs;have:=u j O;refine dC (fK (b:=true) (aB (au rfl (aI k _)))) (pJ (fK (b:=false) rfl) (aB (ag (ag rfl rfl (bh (.inr rfl) rfl)) rfl (fu (o:=none) rfl rfl ?_))));rw[MN];show some (Rr.fr (.bl (decide ((ck (v j) s).1<0))))=_;rw[Zz Q1]
theorem Hh{x:A}{xs:List A}(h:qC 39 (x::xs)):rH (.tup (x::xs)) (.tup [])=some false:=by
 obtain⟨ds,h1,h2⟩:=h;have I:g9 []=some []:=by rw[g9]
 unfold rH;rw[toD,toD,h1,I];have:D.depth (.tup ds)<=40:=by rw[D.depth];lia
 dsimp only;rw[Zx this];rw[g9] at h1;cases e1:toD x with
 |none=>rw[e1] at h1;cases h1
 |some d=>
  rw[e1] at h1;cases e2:g9 xs with
  |none=>rw[e2] at h1;cases h1
  |some es=>rw[e2] at h1;cases h1;rfl
theorem pZ(i j:Str):rH (.str i) (.str j)=some (decide (i=j)):=by
 unfold rH;rw[toD,toD];show (if D.depth (.str i)<=40 then some (i==j) else none)=_
 exact if_pos (show D.depth (.str i)<=40 from Nat.zero_le 40)
theorem sF(n:Nat)(s:Int)(v:Nat->Int):Dt 39 (nS n s v):=Dt.tup (n:=38) (qC.of λa f=>by obtain⟨j,_,rfl⟩:=Rq.mp f;exact Dt.nm _)
inductive Told(c:List Int)(R:List (List Int))(L:List Int):A->Prop
 | best {s w:Int} {x y:Nat->Int} (hs:0<s) (bs:L2.Bd 900 s) (hx:V9 c.length x) (hy:V9 R.length y) (bw:L2.Bd 900 w) (x0:∀j,j<c.length->0<=x j) (y0:∀k,k<R.length->0<=y k)
  (keep:∀i,i<R.length->(Sx.su c.length λj=>(R.getD i []).getD j 0*x j)<=L.getD i 0*s) (cov:∀j,j<c.length->c.getD j 0*s<=Sx.su R.length λk=>(R.getD k []).getD j 0*y k)
  (e1:(Sx.su c.length λj=>c.getD j 0*x j)=w) (e2:(Sx.su R.length λk=>L.getD k 0*y k)=w):Told c R L (.tup [.str "best",nm (ck w s),nS c.length s x,nS R.length s y])
 | opn {s:Int} {x z:Nat->Int} (hs:0<s) (bs:L2.Bd 900 s) (hx:V9 c.length x) (hz:V9 c.length z) (x0:∀j,j<c.length->0<=x j) (z0:∀j,j<c.length->0<=z j)
  (keep:∀i,i<R.length->(Sx.su c.length λj=>(R.getD i []).getD j 0*x j)<=L.getD i 0*s) (still:∀i,i<R.length->(Sx.su c.length λj=>(R.getD i []).getD j 0*z j)<=0)
  (Ez:0<Sx.su c.length λj=>c.getD j 0*z j):Told c R L (.tup [.str "open",nS c.length s x,nS c.length s z])
 | non {s:Int} {y:Nat->Int} (hs:0<s) (bs:L2.Bd 900 s) (hy:V9 R.length y) (y0:∀k,k<R.length->0<=y k)
  (cov:∀j,j<c.length->0<=Sx.su R.length λk=>(R.getD k []).getD j 0*y k) (less:(Sx.su R.length λk=>L.getD k 0*y k)<0):Told c R L (.tup [.str "none",nS R.length s y])
structure nL(c:List Int)(R:List (List Int))(L:List Int):Prop where
 n:c.length<=9
 m:R.length<=9
 l:L.length=R.length
 r:∀r∈R,r.length=c.length
 bc:∀x∈c,x.natAbs<=10^9
 br:∀r∈R,∀x∈r,x.natAbs<=10^9
 bl:∀x∈L,x.natAbs<=10^9
theorem KA{x:Int}(h:x.natAbs<=10^9):L2.Bd 900 x:=RN h Z3
abbrev rS(c:List Int)(R:List (List Int))(L:List Int)(t:A)(x:Sl):List Sl:=[.fr (lI c),.fr (gI R),.fr (lI L),.fr t,x]
theorem F8{m:Nat}:(QX m (0:Int)).getD i 0=0:=by simp only[Rp,T7];split<;>rfl
theorem wk{n:Nat}{m:Mi Rr}(h:m Z=some (.ok (.fr (.int n)),Z))(hn:n<=20):aC t6 (du (cR (aA 0))) m Z=some (.ok (.nw (.lst ((QX n (0:Int)).map A.int))),Z):=by
 refine ag (hJ (ae rfl rfl) rfl) h (fu (o:=none) (a:=.lst [.int 0]) (b:=.int n) rfl rfl ?_);show (if 0<=(n:Int)/\(n:Int)<=1000/\1<=100 then some (Rr.nw (.lst (QX (n:Int).toNat [A.int 0]).flatten)) else none)=_;rw[Zx Q1]
 congr 3
 rw[SO,List.map_replicate];clear h hn;induction n with
 |zero=>rfl
 |succ n X=>rw[RY,Sw,RY,X];rfl
theorem C8{c:List Int}{t:A}(f:nL c R L)(h:Told c R L t):Val gq [lI c,gI R,lI L,t] (.bl true):=by
 have hn:=f.n;have hm:=f.m;have Y:∀r∈R,r.length=c.length/\∀x∈r,L2.Bd 900 x:=λr X=>⟨f.r r X,λx hx=>KA (f.br r X x hx)⟩
 have H:∀x∈L,L2.Bd 900 x:=λx hx=>KA (f.bl x hx);have E:∀x∈c,L2.Bd 900 x:=λx hx=>KA (f.bc x hx);have P:∀n,∀x∈QX n (0:Int),L2.Bd 900 x:=λn x hx=>by rw[S5 hx];exact KA Z2
 have lc:∀(t:A) x,cx cC (ab 0) (rS c R L t x)=some (.ok (.fr (.int c.length)),rS c R L t x):=λt x=>by show some (RI (Rr.fr (.int (c.map A.int).length)),_)=_;rw[QU]
 have D:∀(t:A) x,cx cC (ab 1) (rS c R L t x)=some (.ok (.fr (.int R.length)),rS c R L t x):=λt x=>by show some (RI (Rr.fr (.int (R.map lI).length)),_)=_;rw[QU]
 have go:∀(w:Str)(xs:List A),qC 39 (.str w::xs)->w∈[("best" : Str), "open", "none"]->mJ (fz (aj (cx (pA Ty.tuple) (ab 3)))) (mJ (aj (aC iZ (ab 3) (fv kY))) (aj (aC (rV true) (mix (ab 3) (aA 0)) (du (eO (mC (.str "best")) (mC (.str "open")) (mC (.str "none"))))))) (rS c R L (.tup (.str w::xs)) .un)=some (.ok false,rS c R L (.tup (.str w::xs)) .un):=λw xs hd hw=>by
  refine dC (fK (b:=true) rfl) (dC (aB (ag rfl rfl (fu (o:=none) (r:=.fr (.bl false)) rfl rfl (by unfold iZ;rw[Hh hd])))) (aB (ag (ag rfl rfl (bh (.inr rfl) (dM (j:=0) rfl))) rfl (fu (o:=none) rfl rfl ?_))));rcases QV.mp hw with rfl|hw
  .rfl
  rcases QV.mp hw with rfl|hw
  .rfl
  rcases QV.mp hw with rfl|hw
  .rfl
  .cases hw
 have q:∀(w v:Str)(xs:List A)(x:Sl) b,decide (w=v)=b->aj (aC iZ (mix (ab 3) (aA 0)) (mC (.str v))) (rS c R L (.tup (.str w::xs)) x)=some (.ok b,rS c R L (.tup (.str w::xs)) x):=λw v xs x b g=>aB (ag (ag rfl rfl (bh (.inr rfl) (dM (j:=0) rfl))) rfl (fu (o:=none) rfl rfl (by unfold iZ;rw[pZ,g])));have p:∀(w a:A)(xs:List A)(x:Sl),mix (ab 3) (aA 1) (rS c R L (.tup (w::a::xs)) x)=some (.ok (.fr a),rS c R L (.tup (w::a::xs)) x):=λw a xs x=>ag rfl rfl (bh (.inr rfl) (dM (j:=1) rfl));have I:∀(w a b:A)(xs:List A)(x:Sl),mix (ab 3) (aA 2) (rS c R L (.tup (w::a::b::xs)) x)=some (.ok (.fr b),rS c R L (.tup (w::a::b::xs)) x):=λw a b xs x=>ag rfl rfl (bh (.inr rfl) (dM (j:=2) rfl));have C:∀(w a b d:A)(xs:List A)(x:Sl),mix (ab 3) (aA 3) (rS c R L (.tup (w::a::b::d::xs)) x)=some (.ok (.fr d),rS c R L (.tup (w::a::b::d::xs)) x):=λw a b d xs x=>ag rfl rfl (bh (.inr rfl) (dM (j:=3) rfl));have e:∀{n:Nat}{s:Int}{v:Nat->Int}(hn:n<=9)(hs:0<s)(bs:L2.Bd 900 s)(K:V9 n v)(u:∀j,j<n->0<=v j)(Z:List Sl)(m U:Mi Rr),m Z=some (.ok (.fr (nS n s v)),Z)->U Z=some (.ok (.fr (.int n)),Z)->fz (aj (a8 bq (eO m U (mC (.bl false))))) Z=some (.ok false,Z):=λhn hs bs K u Z m U e1 e2=>fK (b:=true) (aB (au (ae e1 (ae e2 (ae rfl rfl))) (aI (Hc Q1 hs bs K u) _)));cases h with
 |@non s y hs bs hy y0 cov less=>have Q:qC 39 [.str "none",nS R.length s y]:=.cons (.str _) (.cons (sF _ _ _) .nil);have kp:=se (v:=y) (n:=R.length) Q1 hs bs hy (c:=QX c.length 0) rfl (λr X=>⟨by rw[To,(Y r X).1];exact QY _,(Y r X).2⟩) (P _) (by rw[To];lia) (λj O=>by rw[F8,S2];exact cov j (by simpa using O));have N:=NB.ck (t:=Sx.su R.length λk=>L.getD k 0*y k) (b:=s) (n:=1810) Q1 (lK (b:=1800) (λj O=>sV (H _ (cB (by have:=f.l;lia))) (hy j O)) Q1) (bs.mono Z2);have B:=j8 N (rh (i:=0) (KA Z2)) Z2 Z2;rw[M6 hs,S2,ZA less] at B;have T:=vS (rs:=[.nw (.lst ((QX c.length (0:Int)).map A.int)),.fr (gI R),.fr (nS R.length s y)]) rfl kp;refine Val.of (Wp.df (Wp.st (cq (go _ _ Q Z4) rfl) (Wp.sr (eN (q _ _ _ _ true Z2) (dP (cq (dC (aB (ag rfl rfl (d0 (b:=true) rfl _))) (e hm hs bs hy y0 _ _ _ (p _ _ _ _) (D _ _))) rfl) (aK (gM (aB (au (ae (wk (lc _ _) Q1) (ae rfl (ae (p _ _ _ _) rfl))) (T _))) (au (ae (au (ae rfl (ae (p _ _ _ _) rfl)) (aI (oV Q1 hs bs hy f.l H) _)) (ae (dZ (ae rfl (ae rfl rfl)) rfl) rfl)) (aI B _))) rfl))) rfl)))
 |@opn s x z hs bs hx hz x0 z0 keep still Ez=>have Q:qC 39 [.str "open",nS c.length s x,nS c.length s z]:=.cons (.str _) (.cons (sF _ _ _) (.cons (sF _ _ _) .nil));have S:=pP (v:=z) (n:=c.length) Q1 hs bs hz (R:=R) (L:=QX R.length 0) Y (P _) (λi hi _=>by rw[F8,S2];exact still i hi);have J:=pP (v:=x) (n:=c.length) Q1 hs bs hx (R:=R) (L:=L) Y H (λi hi _=>keep i hi);have N:=NB.ck (t:=Sx.su c.length λj=>c.getD j 0*z j) (b:=s) (n:=1810) Q1 (lK (b:=1800) (λj O=>sV (E _ (cB O)) (hz j O)) Q1) (bs.mono Z2);have B:=j8 (rh (i:=0) (KA Z2)) N Z2 Z2;rw[Lc hs,S2,ZA Ez] at B;have F:=oV (v:=z) (n:=c.length) Q1 hs bs hz rfl E;have T:=vS (rs:=[.fr (gI R),.nw (.lst ((QX R.length (0:Int)).map A.int)),.fr (nS c.length s z)]) rfl S;refine Val.of (Wp.df (Wp.st (cq (go _ _ Q Z4) rfl) (Wp.st (cq (q _ _ _ _ false Z2) rfl) (Wp.st (cq (aB (ag rfl (ag rfl (eP (ag (ag rfl rfl (bh (.inr rfl) (dM (j:=0) rfl))) rfl (fu (o:=none) (r:=.fr (.bl true)) rfl rfl (by unfold iZ;rw[pZ,ZA rfl]))) rfl) (bh (.inl rfl) rfl)) (d0 (b:=true) rfl _))) rfl) (Wp.sr (eN (q _ _ _ _ true Z2) (dP (cq (dC (e hn hs bs hx x0 _ _ _ (p _ _ _ _) (lc _ _)) (e hn hs bs hz z0 _ _ _ (I _ _ _ _ _) (lc _ _))) rfl) (dP (aT (gM (aB (au (ae rfl (ae (wk (D _ _) Q1) (ae (I _ _ _ _ _) rfl))) (T _))) (au (ae (dZ (ae rfl (ae rfl rfl)) rfl) (ae (au (ae rfl (ae (I _ _ _ _ _) rfl)) (aI F _)) rfl)) (aI B _))) rfl rfl rfl rfl) (aK (gM rfl (au (ae rfl (ae rfl (ae (p _ _ _ _) rfl))) (aI J _))) rfl)))) rfl)))))
 |@best s w x y hs bs hx hy bw x0 y0 keep cov e1 e2=>have Q:qC 39 [.str "best",nm (ck w s),nS c.length s x,nS R.length s y]:=.cons (.str _) (.cons (Dt.nm _) (.cons (sF _ _ _) (.cons (sF _ _ _) .nil)));have S:=pP (v:=x) (n:=c.length) Q1 hs bs hx (R:=R) (L:=L) Y H (λi hi _=>keep i hi);have J:=se (v:=y) (n:=R.length) Q1 hs bs hy (c:=c) rfl (λr X=>⟨by rw[(Y r X).1];exact QY _,(Y r X).2⟩) E Q1 cov;have F:=oV (v:=x) (n:=c.length) Q1 hs bs hx rfl E;have G:=oV (v:=y) (n:=R.length) Q1 hs bs hy f.l H;rw[e1] at F;rw[e2] at G;have V:=wq (NB.ck (show s≠0 by lia) bw bs) Z2;have ne:∀Z:List Sl,lh iN (.fr (nm (ck w s))) (.fr (nm (ck w s))) Z=some (.ok (.fr (.bl false)),Z):=λZ=>fu (o:=none) rfl rfl (by unfold iN;rw[uN];rfl);refine Val.of (Wp.df (Wp.st (cq (go _ _ Q Z4) rfl) (Wp.st (cq (q _ _ _ _ false Z2) rfl) (Wp.st (cq (aB (ag rfl (ag rfl (eP (ag (ag rfl rfl (bh (.inr rfl) (dM (j:=0) rfl))) rfl (fu (o:=none) (r:=.fr (.bl false)) rfl rfl (by unfold iZ;rw[pZ,Zz Z2]))) rfl) (bh (.inl rfl) rfl)) (d0 (b:=true) rfl _))) rfl) (Wp.st (cq (q _ _ _ _ false Z2) rfl) (Wp.st (cq (dC (e hn hs bs hx x0 _ _ _ (I _ _ _ _ _) (lc _ _)) (e hm hs bs hy y0 _ _ _ (C _ _ _ _ _ _) (D _ _))) rfl) (Wp.st (cq (dC (fK (b:=true) (aB (au (ae (p _ _ _ _) rfl) (aI V _)))) (dC (aB (ag (au (ae rfl (ae (I _ _ _ _ _) rfl)) (aI F _)) (p _ _ _ _) (ne _))) (aB (ag (au (ae rfl (ae (C _ _ _ _ _ _) rfl)) (aI G _)) (p _ _ _ _) (ne _))))) rfl) (Wp.en (aK (gM (aB (au (ae rfl (ae rfl (ae (I _ _ _ _ _) rfl))) (aI S _))) (au (ae rfl (ae rfl (ae (C _ _ _ _ _ _) rfl))) (aI J _))) rfl) rfl))))))))
abbrev bA(n m:Nat)(b:Sx.Bo):A:=.obj "Board" [("long",.int n),("many",.int m),("scale",.int b.s),("grid",gI b.g),("across",lI b.ac),("down",lI b.dn)]
def bO(n m:Nat)(b:Sx.Bo):LO:=.nob "Board" [("long",.int n),("many",.int m),("scale",.int b.s),("grid",gI b.g)] [("across",b.ac.map A.int),("down",b.dn.map A.int)]
def fN(f:Ms)(as:List A)(a:A):Prop:=∃Z,f (as.map Sl.fr)=some (.rt (.fr a),Z)/\Z.all np=true
theorem fN.v{as:List A}{a:A}(h:fN f as a):Val f as a:=by obtain⟨Z,h,_⟩:=h;exact⟨Z,h⟩
theorem fN.of{as:List A}{a:A}(k:Wp f (as.map Sl.fr) λg Z=>g=.rt (.fr a)/\Z.all np=true):fN f as a:=by obtain⟨g,Z,h,rfl,h2⟩:=k;exact⟨Z,h,h2⟩
theorem fN.PD{as:List A}{R:A->Prop}(k:Wp f (as.map Sl.fr) λg Z=>X2 λ(a:A)(_:Unit)=>N3 (g=.rt (.fr a)) (Z.all np=true) (R a)):∃a,fN f as a/\R a:=by obtain⟨g,Z,h,a,_,rfl,h2,h3⟩:=k;exact⟨a,⟨Z,h,h2⟩,h3⟩
structure Bb(n m N:Nat)(b:Sx.Bo):Prop where
 sh:Sx.Sh N m b
 hN:N<=10
 hn:n<=9
 hm:m<=9
 bg:∀r∈b.g,∀x∈r,L2.Bd 400 x
 bs:L2.Bd 400 b.s
 pos:0<b.s
section
variable{n m N:Nat}{b:Sx.Bo}(h:Bb n m N b)
include h
theorem Bb.gb{l:Nat}(hi:i<=m)(hl:l<=N):L2.Bd 400 (b.Gq i l):=by have z:=h.sh.row hi;exact h.bg _ (Sx.getD_mem (by rw[h.sh.g];lia)) _ (cB Q1)
theorem Bb.rowAt(hi:i<=m)(Z:List Sl)(a:(.fr (bA n m b)::Z)[j]?=some (.fr (.int i))):mix (aL (aq ["Board"] "grid") (ab 0)) (ab j) (.fr (bA n m b)::Z)=some (.ok (.fr (lI (b.g.getD i []))),.fr (bA n m b)::Z):=
 ag rfl (show ab j _=some (.ok (.fr (.int i)),_) by unfold ab;rw[a]) (bh (.inl rfl) (A6 (by rw[h.sh.g];lia)))
theorem Bb.at2{l:Nat}(hi:i<=m)(hl:l<=N)(Z:List Sl){k:Nat}(a:(.fr (bA n m b)::Z)[j]?=some (.fr (.int i)))(hk:(.fr (bA n m b)::Z)[k]?=some (.fr (.int l))):mix (mix (aL (aq ["Board"] "grid") (ab 0)) (ab j)) (ab k) (.fr (bA n m b)::Z)=some (.ok (.fr (.int (b.Gq i l))),.fr (bA n m b)::Z):=
 ag (h.rowAt hi Z a) (show ab k _=some (.ok (.fr (.int l)),_) by unfold ab;rw[hk]) (bh (.inl rfl) (fS (by rw[h.sh.row hi];lia)))
theorem Bb.last(hi:i<=m)(Z:List Sl)(a:(.fr (bA n m b)::Z)[j]?=some (.fr (.int i))):mix (mix (aL (aq ["Board"] "grid") (ab 0)) (ab j)) (aL aU (aA 1)) (.fr (bA n m b)::Z)=some (.ok (.fr (.int (b.Gq i N))),.fr (bA n m b)::Z):=
 ag (h.rowAt hi Z a) rfl (bh (.inl rfl) (lG (h.sh.row hi)))
end
theorem iC{m:Mi Rr}{xs:List A}{n:Nat}(h:m Z=some (.ok (.fr (.lst xs)),Z))(hl:xs.length=n+1):cF m aH (bF (aL aU (aA 1))) Z=some (.ok (.nw (.lst (xs.take n))),Z):=by refine bk h (bk rfl (bk (x:=some (-1)) rfl ?_));show some (RI (Rr.nw (.lst (i5 xs none (some (-1))))),Z)=_;rw[J4 hl]
theorem yB{k:Nat}:∀{xs:List Int},(∀x∈xs,L2.Bd k x)->xs.sum.natAbs<=xs.length*(2^k-1)
 |[],_=>by simp
 |x::xs,h=>by have h1:=yB (xs:=xs) λy hy=>h y (QW _ hy);have h2:x.natAbs<2^k:=h x Q5;rw[List.sum_cons,Q4,Xa];have:=Wr x xs.sum;lia
variable{xs:List Int}
theorem DM{k:Nat}(h:∀x∈xs,L2.Bd k x)(l:xs.length<=2^10):L2.Bd (k+10) xs.sum:=by have h1:=yB h;have h2:xs.length*(2^k-1)<=2^10*(2^k-1):=Nat.mul_le_mul_right _ l;have h3:0<2^k:=Tw Z2;show xs.sum.natAbs<2^(k+10);rw[VZ];lia
noncomputable def stI(m:Nat)(b:Sx.Bo)(c:Nat):Int:=b.s*b.s+((b.g.take m).map λr=>r.getD c 0*r.getD c 0).sum
section
variable{n m N:Nat}{b:Sx.Bo}(h:Bb n m N b)
include h
theorem Bb.sb(hc:c<=N):L2.Bd 820 (stI m b c):=by
 have h1:L2.Bd 800 (b.s*b.s):=h.bs.mul h.bs;have h2:L2.Bd 810 ((b.g.take m).map λr=>r.getD c 0*r.getD c 0).sum:=DM (k:=800) (λx hx=>by obtain⟨r,R,rfl⟩:=Rq.mp hx;have R:=Sz R;have:=h.bg r R _ (cB (c:=c) (by have:=h.sh.r r R;lia));exact this.mul this) (by have:=h.hm;simp;lia)
 exact(L2.Bd.add (h1.mono (show 800<=810 by decide)) h2).mono (show max 810 810+1<=820 by decide)
theorem zG(hc:c<=N):Val dI [bA n m b,.int c] (.int (stI m b c)):=by
 have hm:=h.hm;have J:=h.sh.g;have fs:=ft h.bs (show 400<=20000 by decide);have e1:cH (cF (aL (aq ["Board"] "grid") (ab 0)) aH (bF (aL aU (aA 1)))) [.fr (bA n m b),.fr (.int c)]=some (.ok ((b.g.take m).map lI),[.fr (bA n m b),.fr (.int c)]):=by refine qO (iC rfl (by rw[QU,J])) ?_;rw[<-S6];rfl
 have e2:=bH (e:=aC a9 (mix (ab 2) (ab 1)) (mix (ab 2) (ab 1))) (ts:=b.g.take m) (k:=lI) (S:=[.fr (bA n m b),.fr (.int c)]) (λr=>.int (r.getD c 0*r.getD c 0)) rfl (by simp;lia) λr R=>by
  have R:=Sz R;have l:=h.sh.r r R;have k:∀Z:List Sl,Z=[.fr (bA n m b),.fr (.int c),.fr (lI r)]->mix (ab 2) (ab 1) Z=some (.ok (.fr (.int (r.getD c 0))),Z):=by rintro Z rfl;exact ag rfl rfl (bh (.inl rfl) (fS Q1))
  have f:=ft (h.bg r R _ (cB (c:=c) Q1)) (show 400<=20000 by decide);exact⟨_,ag (k _ rfl) (k _ rfl) (lg f f _),rfl⟩
 refine Val.of (Wp.df (Wp.en (aK (ag (ag rfl rfl (lg fs fs _)) (eP (bJ e1 e2) (nV (r:=.fr (.int ((b.g.take m).map λr=>r.getD c 0*r.getD c 0).sum)) rfl ?_)) rfl) rfl) rfl));rw[show (b.g.take m).map (λr=>A.int (r.getD c 0*r.getD c 0))=((b.g.take m).map λr=>r.getD c 0*r.getD c 0).map A.int by rw[Rx];rfl];unfold yT;dsimp only;rw[sj]
end
abbrev Qm:Ms:=gJ (aj (aC ow (ab 5) (aA 0))) (av (aG 6 (fv (cu (aC a9 (ab 5) (ab 5)) (a8 dI (cu (bK "Board" "stride" (ah 0)) (ah 4)))))) (gJ (aj (aC ow (aC a9 (mix (ab 6) (aA 0)) (mix (ab 3) (aA 1))) (aC a9 (mix (ab 3) (aA 0)) (mix (ab 6) (aA 1))))) (av (aG 2 (ab 4)) (aG 3 (ab 6))) bN)) bN
abbrev Fz(o:A)(gs:List Int)(f:A)(a q:Int)(D x5 z:Sl):List Sl:=[.fr o,.fr (lI gs),.fr f,.fr (.tup [.int a,.int q]),D,x5,z]
theorem kO{i j:Int}{b:Bool}(h:decide (j<i)=b)(Z:List Sl):lh ow (.fr (.int i)) (.fr (.int j)) Z=some (.ok (.fr (.bl b)),Z):=by rw[<-h];rfl
theorem iR{i j:Int}{b:Bool}(h:decide (i<j)=b)(Z:List Sl):lh ka (.fr (.int i)) (.fr (.int j)) Z=some (.ok (.fr (.bl b)),Z):=by rw[<-h];rfl
def Gn(gs:List Int)(i:Nat)(f:A)(a q:Int):Prop:=(f=.non/\a=0/\q=1/\∀j,j<i->gs.getD j 0<=0)\/∃k:Nat,k<i/\f=.int k/\0<gs.getD k 0/\L2.Bd 820 a/\L2.Bd 820 q
variable{gs:List Int}{q:Int}
theorem Gn.bd{f:A}{a:Int}(h:Gn gs i f a q):L2.Bd 820 a/\L2.Bd 820 q:=by
 rcases h with ⟨_,rfl,rfl,_⟩|⟨k,_,_,_,h⟩
 .exact⟨Tw Z2,show (1:Int).natAbs<2^820 by decide +kernel⟩
 .exact h
theorem Gn.no{f:A}{a:Int}(h:Gn gs i f a q)(hi:gs.getD i 0<=0):Gn gs (i+1) f a q:=by
 rcases h with ⟨h1,h2,h3,h4⟩|⟨k,h1,h2⟩
 .exact .inl ⟨h1,h2,h3,λj O=>by
   by_cases e:j=i
   .rw[e];exact hi
   .exact h4 j Q1⟩
 .exact .inr ⟨k,by lia,h2⟩
theorem Ki{n m:Nat}{b:Sx.Bo}(h:Bb n m N b)(J:gs.length<=N)(bg:∀x∈gs,L2.Bd 400 x):∃f,fN bP [bA n m b,lI gs] f/\((f=.non/\∀j,j<gs.length->gs.getD j 0<=0)\/∃k:Nat,f=.int k/\k<gs.length/\0<gs.getD k 0):=by
 have hN:=h.hN;refine fN.PD (Wp.df (Wp.st rfl (Wp.st (U:=Fz (bA n m b) gs .non 0 1 .un .un .un) (aT (dZ (ae rfl (ae rfl rfl)) rfl) rfl rfl rfl rfl) (Wp.sq (Wp.fr (b:=Qm) (G:=G2 4 5) (as:=iQ 0 (gs.map A.int))
  (λi Z=>X5 λ(f:A)(a q:Int)(D x5:Sl)=>∃z,N4 (Z=Fz (bA n m b) gs f a q D x5 z) (np D=true/\np x5=true) (np z=true) (Gn gs i f a q)) rfl ⟨.non,0,1,.un,.un,.un,rfl,⟨rfl,rfl⟩,rfl,.inl ⟨rfl,rfl,rfl,λj L=>absurd L (Ur j)⟩⟩ ?_ ?_)))))
 .rintro i a0 Z r ⟨f,a,q,D,x5,z,rfl,⟨h4,h5⟩,u,g⟩;obtain⟨d,hd,rfl⟩:=my _ _ _ _ r;rw[Rm] at hd;have hi:i<gs.length:=by
   cases e:gs[i]? with
   |none=>rw[e] at hd;cases hd
   |some x=>exact(QP.mp e).1
  rw[Rg hi] at hd;cases hd;have B:gs[i]=gs.getD i 0:=by simp[Rp,hi]
  rw[B];have y:=bg _ (cB hi);generalize K:gs.getD i 0=v at y;rw[Uo];refine⟨_,nA (S:=[.fr (bA n m b),.fr (lI gs),.fr f,.fr (.tup [.int a,.int q])]) (tl:=[z]) rfl h4 h5,?_⟩;have T:∀t,decide (0<v)=t->aj (aC ow (ab 5) (aA 0)) (Fz (bA n m b) gs f a q (.fr (.int (i:Nat))) (.fr (.int v)) z)=some (.ok t,Fz (bA n m b) gs f a q (.fr (.int (i:Nat))) (.fr (.int v)) z):=λt l=>aB (ag rfl rfl (kO l _));by_cases P:0<v
  .have o:=ft y (show 400<=20000 by decide);have b2:L2.Bd 800 (v*v):=y.mul y;have bs:=h.sb (c:=i) Q1;have Y:=ft b2 (show 800<=20000 by decide);have F:=ft bs (show 820<=20000 by decide);have C:=ft g.bd.1 (show 820<=20000 by decide);have H:=ft g.bd.2 (show 820<=20000 by decide);have s:aG 6 (fv (cu (aC a9 (ab 5) (ab 5)) (a8 dI (cu (bK "Board" "stride" (ah 0)) (ah 4))))) (Fz (bA n m b) gs f a q (.fr (.int (i:Nat))) (.fr (.int v)) z)=some (.nx,Fz (bA n m b) gs f a q (.fr (.int (i:Nat))) (.fr (.int v)) (.fr (.tup [.int (v*v),.int (stI m b i)]))):=
    aT (dZ (ae (ag rfl rfl (lg o o _)) (ae (au (ae (jZ rfl rfl) (ae rfl rfl)) (aI (zG h (c:=i) Q1) _)) rfl)) rfl) rfl rfl u rfl
   have w:∀t,decide (a*stI m b i<v*v*q)=t->aj (aC ow (aC a9 (mix (ab 6) (aA 0)) (mix (ab 3) (aA 1))) (aC a9 (mix (ab 3) (aA 0)) (mix (ab 6) (aA 1)))) (Fz (bA n m b) gs f a q (.fr (.int (i:Nat))) (.fr (.int v)) (.fr (.tup [.int (v*v),.int (stI m b i)])))=some (.ok t,Fz (bA n m b) gs f a q (.fr (.int (i:Nat))) (.fr (.int v)) (.fr (.tup [.int (v*v),.int (stI m b i)]))):=
    λt l=>aB (ag (ag (ag rfl rfl (bh (.inr rfl) rfl)) (ag rfl rfl (bh (.inr rfl) rfl)) (lg Y H _)) (ag (ag rfl rfl (bh (.inr rfl) rfl)) (ag rfl rfl (bh (.inr rfl) rfl)) (lg C F _)) (kO l _))
   by_cases I:a*stI m b i<v*v*q
   .exact Wp.en (eN (T true (ZA P)) (dP s (eN (w true (ZA I)) (dP (aT rfl rfl rfl rfl rfl) (aT rfl rfl rfl rfl rfl))))) ⟨.inl rfl,_,_,_,_,_,_,rfl,⟨rfl,rfl⟩,rfl,.inr ⟨i,by lia,rfl,by rw[K];exact P,b2.mono Z2,bs⟩⟩
   .refine Wp.en (eN (T true (ZA P)) (dP s (cq (w false (Zz I)) rfl))) ⟨.inl rfl,_,_,_,_,_,_,rfl,⟨rfl,rfl⟩,rfl,?_⟩;rcases g with ⟨_,rfl,rfl,_⟩|⟨k,p,V⟩
    .exact absurd (by rw[S2,SH];exact XB P P) I
    .exact .inr ⟨k,by lia,V⟩
  .exact Wp.en (cq (T false (Zz P)) rfl) ⟨.inl rfl,_,_,_,_,_,_,rfl,⟨rfl,rfl⟩,u,g.no Q1⟩
 .rintro O ⟨f,a,q,D,x5,z,rfl,⟨h4,h5⟩,u,g⟩;rw[kF,QU] at g;refine⟨rfl,Wp.en (aK rfl rfl) ⟨f,(),rfl,by simp only[Rh,TH,vw,h4,h5,u,UD],?_⟩⟩;rcases g with ⟨h1,_,_,h2⟩|⟨k,p,V,Q,_⟩
  .exact .inl ⟨h1,h2⟩
  .exact .inr ⟨k,V,p,Q⟩
theorem fX:∀ns:List Int,eD (ns.map A.int)=some ns
 |[]=>rfl
 |n::ns=>by rw[RC,eD,fX ns]
theorem pW{u:Int}:∀{xs:List Int},u∈xs->tw xs u=some (xs.idxOf u)
 |a::r,h=>by
  unfold tw;rw[List.idxOf_cons];by_cases e:a=u
  .rw[Zx e,ZD.mpr e];rfl
  .have R:u∈r:=by
    rcases QV.mp h with z|z
    .exact absurd z.symm e
    .exact z
   rw[Zy e,beq_eq_false_iff_ne.mpr e,pW R];rfl
theorem qN(u:Int)(xs:List Int):JK false (.int u) (xs.map A.int)=some (.fr (.bl (decide (u∈xs)))):=by
 unfold JK;have h1:(fA (.int u)&&(xs.map A.int).all fA)=true:=by rw[US];simp[fA]
 rw[Zx h1]
 congr 3
 show Ft (k9 (.int u)) ((xs.map A.int).map k9)=_;unfold Ft;rw[Rx,VA];rw[Wx,Wt,decide_eq_true_eq];constructor
 .rintro⟨x,hx,e⟩;have e:(x==u)=true:=e;rw[ZD.mp e] at hx;exact hx
 .exact λhx=>⟨u,hx,by show (u==u)=true;simp⟩
theorem Hy{u:Int}{c:Bool}(h:decide (u∈xs)=c)(Z:List Sl):lh (rV false) (.fr (.int u)) (.fr (lI xs)) Z=some (.ok (.fr (.bl c)),Z):=by exact fu (o:=none) rfl rfl (by rw[<-h];exact qN u xs)
def sP(b:Sx.Bo)(i:Nat)(u:Int):Int:=if u∈b.ac then b.Gq i (b.ac.idxOf u) else if b.Bq i=u then b.s else 0
section
variable{n m N:Nat}{b:Sx.Bo}(h:Bb n m N b)
include h
theorem E6(hi:i<m)(u:Int):Val cg [bA n m b,.int i,.int u] (.int (sP b i u)):=by
 have T:∀c,decide (u∈b.ac)=c->aj (aC (rV false) (ab 2) (aL (aq ["Board"] "across") (ab 0))) [.fr (bA n m b),.fr (.int i),.fr (.int u)]=some (.ok c,[.fr (bA n m b),.fr (.int i),.fr (.int u)]):=λc hc=>aB (ag rfl rfl (Hy hc _));unfold sP;by_cases P:u∈b.ac
 .rw[Zx P];have hl:=R4 P;rw[h.sh.ac] at hl;have z:vc (aL (aq ["Board"] "across") (ab 0)) (ab 2) [.fr (bA n m b),.fr (.int i),.fr (.int u)]=some (.ok (.fr (.int (b.ac.idxOf u))),[.fr (bA n m b),.fr (.int i),.fr (.int u)]):=by
   have e:Cc (lI b.ac) (.int u)=some (.fr (.int (b.ac.idxOf u))):=by unfold Cc;dsimp only;rw[fX];dsimp only;rw[pW P]
   refine bk (x:=.fr (lI b.ac)) (U:=[.fr (bA n m b),.fr (.int i),.fr (.int u)]) rfl ?_;refine W3 (Zx (c:=B2 (lI b.ac)=true) rfl) ?_;refine bk (x:=Rr.fr (.int u)) (U:=[.fr (bA n m b),.fr (.int i),.fr (.int u)]) rfl ?_;show (match Cc (lI b.ac) (.int u) with|some q=>_|none=>_)=_;rw[e]
  exact Val.of (Wp.df (Wp.sr (eN (T true (ZA P)) (aK (ag (h.rowAt (j:=1) Q1 _ rfl) z (bh (.inl rfl) (fS (by rw[h.sh.row Q1];lia)))) rfl)) rfl))
 .rw[Zy P];have D:∀c,decide (b.Bq i=u)=c->aj (aC iZ (mix (aL (aq ["Board"] "down") (ab 0)) (ab 1)) (ab 2)) [.fr (bA n m b),.fr (.int i),.fr (.int u)]=some (.ok c,[.fr (bA n m b),.fr (.int i),.fr (.int u)]):=λc hc=>aB (ag (ag rfl rfl (bh (.inl rfl) (fS (by rw[h.sh.dn];exact hi)))) rfl (jz hc _));refine Val.of (Wp.df (Wp.st (cq (T false (Zz P)) rfl) ?_));by_cases I:b.Bq i=u
  .rw[Zx I];exact Wp.en (aK (by rw[NM,D true (ZA I)];rfl) rfl) rfl
  .rw[Zy I];exact Wp.en (aK (by rw[NM,D false (Zz I)];rfl) rfl) rfl
end
theorem O9{P:Sx.Pb}{b:Sx.Bo}(h:Sx.Ok P N b)(hi:i<P.m)(u:Int):sP b i u=Sx.Fb P N b i u:=by
 unfold sP;by_cases c:u∈b.ac
 .rw[Zx c];have hl:=R4 c;have e:b.Aq (b.ac.idxOf u)=u:=by simp only[Sx.Bo.Aq,Rp,Rg hl,Tj];exact UI hl
  have:=h.Km (l:=b.ac.idxOf u) (by rw[<-h.sh.ac];exact hl) i;rw[e] at this;exact this.symm
 .rw[Zy c,h.LI c i];by_cases e:b.Bq i=u
  .rw[Zx e,Zx ⟨hi,e⟩]
  .rw[Zy e,Zy λz=>e z.2]
theorem oy{G:Mg}{b:Ms}{Q:Fl->List Sl->Prop}:∀{T:Nat}{as:List A}(P:Nat->List Sl->Prop)(hl:T<as.length){Z:List Sl}(h0:P 0 Z)(hs:∀i a Z,i<T->as[i]?=some a->P i Z->∃U,G a Z=some U/\Wp b U λf F=>(f=.nx\/f=.ct)/\P (i+1) F)
  (ht:∀a Z,as[T]?=some a->P T Z->∃U,G a Z=some U/\Wp b U λf F=>X2 λ(s:Sl)(_:Unit)=>f=.rt s/\Q (.rt s) F),∃f O,forL G b as Z=some (f,O)/\Q f O
 |_,[],_,hl,_,_,_,_=>absurd hl (Ur _)
 |0,a::as,P,hl,Z,h0,hs,ht=>by obtain⟨U,e1,f,F,e2,s,_,rfl,q⟩:=ht a Z rfl h0;refine⟨.rt s,F,?_,q⟩;unfold forL;rw[e1];dsimp only;rw[e2]
 |T+1,a::as,P,hl,Z,h0,hs,ht=>by obtain⟨U,e1,f,F,e2,hf,p⟩:=hs 0 a Z Q1 rfl h0;obtain⟨g,O,N,q⟩:=oy (T:=T) (as:=as) (λi=>P (i+1)) (Nat.lt_of_succ_lt_succ hl) p (λi a Z hi r hp=>hs (i+1) a Z Q1 r hp) ht;refine⟨g,O,?_,q⟩;unfold forL;rw[e1];dsimp only;rw[e2];rcases hf with rfl|rfl<;>exact N
theorem Wp.stop{B:Mi (List A)}{b:Ms}{T:Nat}{as:List A}(P:Nat->List Sl->Prop)(hm:B Z=some (.ok as,U))(hl:T<as.length)(S:P 0 U)(hs:∀i a Z,i<T->as[i]?=some a->P i Z->∃U,G a Z=some U/\Wp b U λf F=>(f=.nx\/f=.ct)/\P (i+1) F)
  (l:∀a Z,as[T]?=some a->P T Z->∃U,G a Z=some U/\Wp b U λf F=>X2 λ(s:Sl)(_:Unit)=>f=.rt s/\Q (.rt s) F):Wp (fT B G b) Z Q:=by
 obtain⟨f,O,e,q⟩:=oy P hl S hs l;exact⟨f,O,sk hm e,q⟩
theorem Wp.Qq{m n:Ms}(k:Wp m Z λf U=>X2 λ(s:Sl)(_:Unit)=>f=.rt s/\Q (.rt s) U):Wp (av m n) Z Q:=by obtain⟨f,U,e,s,_,rfl,q⟩:=k;exact⟨.rt s,U,by unfold av;rw[e],q⟩
theorem Av(f:Nat->Int):∀M:Nat,(∀t,t<M->f t=0)\/∃t,t<M/\f t≠0/\∀u,u<t->f u=0
 |0=>.inl λt l=>absurd l (Ur t)
 |M+1=>by
  rcases Av f M with h|⟨t,h1,h2⟩
  .by_cases e:f M=0
   .exact .inl λt l=>by
     by_cases c:t=M
     .rw[c];exact e
     .exact h t Q1
   .exact .inr ⟨M,by lia,e,h⟩
  .exact .inr ⟨t,by lia,h2⟩
variable{ma mb:Mi Rr}
theorem Ex(h:ma Z=some (.ok (.fr (.int i)),Z))(k:mb Z=some (.ok (.fr (.int j)),Z))(hi:i<=1000)(a:j<=1000):rO ma mb Z=some (.ok (bI i (j-i)),Z):=by
 refine bk h (bk k ?_);show (if -(2^60)<=(i:Int)/\(i:Int)<2^60 /\ -(2^60)<=(j:Int)/\(j:Int)<2^60 then some (RI (bI i ((j:Int)-i).toNat),Z) else none)=_;rw[Zx Q1]
 congr 3
 rw[show ((j:Int)-i).toNat=j-i by lia]
theorem BJ(l n:Nat):(bI (l:Int) n).length=n:=by simp[bI]
theorem qw{l n:Nat}{a:A}(h:(bI (l:Int) n)[i]?=some a):i<n/\a=.int ((l+i:Nat):Int):=by
 unfold bI at h;rw[Rm] at h;cases e:(Rb n)[i]? with
 |none=>rw[e] at h;cases h
 |some x=>rw[e] at h;cases h;obtain⟨hi,e⟩:=QP.mp e;rw[UJ] at e;subst e;exact⟨by simpa using hi,rfl⟩
structure Gd(P:Sx.Pb)(N:Nat)(b:Sx.Bo):Prop where
 ok:Sx.Ok P N b
 bb:Bb P.n P.m N b
theorem FR{n m:Nat}{b:Sx.Bo}(h:Bb n m N b)(hi:i<m)(u:Int):L2.Bd 400 (sP b i u):=by
 unfold sP;by_cases c:u∈b.ac
 .rw[Zx c];have hl:=R4 c;exact h.gb Q1 (by rw[<-h.sh.ac];lia)
 .rw[Zy c];by_cases e:b.Bq i=u
  .rw[Zx e];exact h.bs
  .rw[Zy e];exact Tw Z2
noncomputable abbrev uB(o:A)(i k c:Nat)(D x5 z:Sl):List Sl:=[.fr o,.fr (.int i),.fr (.int k),.fr (.int c),D,x5,z]
abbrev OW:Ms:=av (aG 4 (aC a9 (a8 cg (eO (bK "Board" "top_of" (ah 0)) (ah 1) (ah 6))) (mix (mix (aL (aq ["Board"] "grid") (ab 0)) (ab 2)) (ab 3)))) (av (aG 5 (aC a9 (a8 cg (eO (bK "Board" "top_of" (ah 0)) (ah 2) (ah 6))) (mix (mix (aL (aq ["Board"] "grid") (ab 0)) (ab 1)) (ab 3)))) (gJ (aj (aC iN (ab 4) (ab 5))) (bB (aC ka (ab 4) (ab 5))) bN))
variable{x5:Sl}
section
variable{P:Sx.Pb}{N:Nat}{b:Sx.Bo}(h:Gd P N b){i k c:Nat}(hi:i<P.m)(hk:k<P.m)(hc:c<N)
include h hi hk hc
theorem pG{D:Sl}(h4:np D=true)(h5:np x5=true)(u:Int):Wp OW (uB (bA P.n P.m b) i k c D x5 (.fr (.int u))) λf Z=>Z=uB (bA P.n P.m b) i k c (.fr (.int (sP b i u*b.Gq k c))) (.fr (.int (sP b k u*b.Gq i c))) (.fr (.int u))/\f=if sP b i u*b.Gq k c=sP b k u*b.Gq i c then .nx else .rt (.fr (.bl (decide (sP b i u*b.Gq k c<sP b k u*b.Gq i c)))):=by
 have t:=ft (FR h.bb hi u) (show 400<=20000 by decide);have G:=ft (FR h.bb hk u) (show 400<=20000 by decide);have g:=ft (h.bb.gb (i:=i) (l:=c) Q1 Q1) (show 400<=20000 by decide);have V:=ft (h.bb.gb (i:=k) (l:=c) Q1 Q1) (show 400<=20000 by decide);have K:∀x5,aG 4 (aC a9 (a8 cg (eO (bK "Board" "top_of" (ah 0)) (ah 1) (ah 6))) (mix (mix (aL (aq ["Board"] "grid") (ab 0)) (ab 2)) (ab 3))) (uB (bA P.n P.m b) i k c D x5 (.fr (.int u)))=some (.nx,uB (bA P.n P.m b) i k c (.fr (.int (sP b i u*b.Gq k c))) x5 (.fr (.int u))):=
  λx5=>aT (ag (au (ae (jZ rfl rfl) (ae rfl (ae rfl rfl))) (aI (E6 h.bb hi u) _)) (h.bb.at2 (j:=2) (k:=3) (i:=k) (l:=c) Q1 Q1 _ rfl rfl) (lg t V _)) rfl rfl h4 rfl
 have F:∀D,aG 5 (aC a9 (a8 cg (eO (bK "Board" "top_of" (ah 0)) (ah 2) (ah 6))) (mix (mix (aL (aq ["Board"] "grid") (ab 0)) (ab 1)) (ab 3))) (uB (bA P.n P.m b) i k c D x5 (.fr (.int u)))=some (.nx,uB (bA P.n P.m b) i k c D (.fr (.int (sP b k u*b.Gq i c))) (.fr (.int u))):=
  λD=>aT (ag (au (ae (jZ rfl rfl) (ae rfl (ae rfl rfl))) (aI (E6 h.bb hk u) _)) (h.bb.at2 (j:=1) (k:=3) (i:=i) (l:=c) Q1 Q1 _ rfl rfl) (lg G g _)) rfl rfl h5 rfl
 generalize sP b i u*b.Gq k c=x at *;generalize sP b k u*b.Gq i c=y at *;by_cases e:x=y
 .rw[Zx e];exact Wp.en (dP (K _) (dP (F _) (cq (aB (ag rfl rfl (d0 (ZA e) _))) rfl))) ⟨rfl,rfl⟩
 .rw[Zy e];exact Wp.en (dP (K _) (dP (F _) (eN (aB (ag rfl rfl (d0 (Zz e) _))) (aK (ag rfl rfl (iR rfl _)) rfl)))) ⟨rfl,rfl⟩
theorem Ej:∃r:Bool,Val dE [bA P.n P.m b,.int i,.int k,.int c] (.bl r)/\(r=true↔Sx.Bw P N b c i k):=by
 have g:=ft (h.bb.gb (i:=i) (l:=c) Q1 Q1) (show 400<=20000 by decide);have V:=ft (h.bb.gb (i:=k) (l:=c) Q1 Q1) (show 400<=20000 by decide);have G:=ft (h.bb.gb (i:=i) (l:=N) Q1 Q1) (show 400<=20000 by decide);have y:=ft (h.bb.gb (i:=k) (l:=N) Q1 Q1) (show 400<=20000 by decide);have K:aG 4 (aC a9 (mix (mix (aL (aq ["Board"] "grid") (ab 0)) (ab 1)) (aL aU (aA 1))) (mix (mix (aL (aq ["Board"] "grid") (ab 0)) (ab 2)) (ab 3))) (uB (bA P.n P.m b) i k c .un .un .un)=some (.nx,uB (bA P.n P.m b) i k c (.fr (.int (b.Gq i N*b.Gq k c))) .un .un):=
  aT (ag (h.bb.last (j:=1) (i:=i) Q1 _ rfl) (h.bb.at2 (j:=2) (k:=3) (i:=k) (l:=c) Q1 Q1 _ rfl rfl) (lg G V _)) rfl rfl rfl rfl
 have F:∀D,aG 5 (aC a9 (mix (mix (aL (aq ["Board"] "grid") (ab 0)) (ab 2)) (aL aU (aA 1))) (mix (mix (aL (aq ["Board"] "grid") (ab 0)) (ab 1)) (ab 3))) (uB (bA P.n P.m b) i k c D .un .un)=some (.nx,uB (bA P.n P.m b) i k c D (.fr (.int (b.Gq k N*b.Gq i c))) .un):=
  λD=>aT (ag (h.bb.last (j:=2) (i:=k) Q1 _ rfl) (h.bb.at2 (j:=1) (k:=3) (i:=i) (l:=c) Q1 Q1 _ rfl rfl) (lg y g _)) rfl rfl rfl rfl
 have R:∀j,Sx.Rr P N b j 0=b.Gq j N:=λj=>Zx rfl;have C:∀j t,j<P.m->sP b j ((P.n+t:Nat):Int)=Sx.Rr P N b j (t+1):=λj t L=>by rw[O9 h.ok L];exact(Zy (U4 t)).symm
 have x:∀D x5,rO (aL (aq ["Board"] "long") (ab 0)) (aC a6 (aL (aq ["Board"] "long") (ab 0)) (aL (aq ["Board"] "many") (ab 0))) (uB (bA P.n P.m b) i k c D x5 .un)=some (.ok (bI P.n P.m),uB (bA P.n P.m b) i k c D x5 .un):=λD x5=>by have hn:=h.bb.hn;have hm:=h.bb.hm;have:=Ex (Z:=uB (bA P.n P.m b) i k c D x5 .un) (i:=P.n) (j:=P.n+P.m) (ma:=aL (aq ["Board"] "long") (ab 0)) (mb:=aC a6 (aL (aq ["Board"] "long") (ab 0)) (aL (aq ["Board"] "many") (ab 0))) rfl rfl Q1 Q1;rw[show P.n+P.m-P.n=P.m by lia] at this;exact this
 rcases Av (λt=>b.Gq i c*Sx.Rr P N b k t-b.Gq k c*Sx.Rr P N b i t) (P.m+1) with z|⟨t,o,v,Q⟩
 .have z0:=z 0 Q1;simp only[R] at z0;refine⟨false,Val.of (Wp.df (Wp.st K (Wp.st (F _) (Wp.st (cq (aB (ag rfl rfl (d0 (b:=true) (ZA (by grind)) _))) rfl) (Wp.sq (Wp.fr (b:=OW) (λj Z=>X3 λ(D x5 e:Sl)=>N3 (Z=uB (bA P.n P.m b) i k c D x5 e) (np D=true/\np x5=true) (np e=true)) (x _ _) ⟨_,_,_,rfl,⟨rfl,rfl⟩,rfl⟩ ?_ ?_)))))),by simp;exact λw=>Sx.Na z w⟩
  .rintro j a Z Y ⟨D,x5,e,rfl,⟨h4,h5⟩,u⟩;obtain⟨L,rfl⟩:=qw Y;refine⟨_,ie (S:=[.fr (bA P.n P.m b),.fr (.int i),.fr (.int k),.fr (.int c),D,x5]) (tl:=[]) rfl u,Wp.mono (pG h hi hk hc h4 h5 _) ?_⟩;rintro f Z ⟨rfl,hf⟩;have:=z (j+1) Q1;rw[Zx (by rw[C i j hi,C k j hk];grind)] at hf;exact⟨.inl hf,_,_,_,rfl,⟨rfl,rfl⟩,rfl⟩
  .rintro O ⟨D,x5,e,rfl,_,_⟩;exact⟨rfl,Wp.en (aK rfl rfl) rfl⟩
 .have key:=Sx.Lv (M:=P.m+1) (f:=λt=>b.Gq i c*Sx.Rr P N b k t-b.Gq k c*Sx.Rr P N b i t) o Q v;refine⟨decide (Sx.Rr P N b i t*b.Gq k c<Sx.Rr P N b k t*b.Gq i c),Val.of (Wp.df (Wp.st K (Wp.st (F _) ?_))),?_⟩
  .cases t with
   |zero=>simp only[R] at v;refine Wp.sr (eN (aB (ag rfl rfl (d0 (b:=false) (Zz (by grind)) _))) (aK (ag rfl rfl (iR rfl _)) rfl)) ?_;rw[R,R]
   |succ t=>
    have z0:=Q 0 Q1;simp only[R] at z0;refine Wp.st (cq (aB (ag rfl rfl (d0 (b:=true) (ZA (by grind)) _))) rfl) (Wp.Qq (Wp.stop (b:=OW) (T:=t) (λj Z=>X3 λ(D x5 e:Sl)=>N3 (Z=uB (bA P.n P.m b) i k c D x5 e) (np D=true/\np x5=true) (np e=true)) (x _ _) (by rw[BJ];lia) ⟨_,_,_,rfl,⟨rfl,rfl⟩,rfl⟩ ?_ ?_))
    .rintro j a Z L Y ⟨D,x5,e,rfl,⟨h4,h5⟩,u⟩;obtain⟨_,rfl⟩:=qw Y;refine⟨_,ie (S:=[.fr (bA P.n P.m b),.fr (.int i),.fr (.int k),.fr (.int c),D,x5]) (tl:=[]) rfl u,Wp.mono (pG h hi hk hc h4 h5 _) ?_⟩;rintro f Z ⟨rfl,hf⟩;have:=Q (j+1) Q1;rw[Zx (by rw[C i j hi,C k j hk];grind)] at hf;exact⟨.inl hf,_,_,_,rfl,⟨rfl,rfl⟩,rfl⟩
    .rintro a Z Y ⟨D,x5,e,rfl,⟨h4,h5⟩,u⟩;obtain⟨_,rfl⟩:=qw Y;refine⟨_,ie (S:=[.fr (bA P.n P.m b),.fr (.int i),.fr (.int k),.fr (.int c),D,x5]) (tl:=[]) rfl u,Wp.mono (pG h hi hk hc h4 h5 _) ?_⟩;rintro f Z ⟨rfl,hf⟩;rw[Zy (by rw[C i t hi,C k t hk];grind),C i t hi,C k t hk] at hf;exact⟨_,(),hf,_,(),rfl,rfl⟩
  .rw[decide_eq_true_eq];refine Iff.trans ?_ key.symm;constructor
   .intro z;show 0<b.Gq i c*Sx.Rr P N b k t-b.Gq k c*Sx.Rr P N b i t;grind
   .intro z;have z:0<b.Gq i c*Sx.Rr P N b k t-b.Gq k c*Sx.Rr P N b i t:=z;grind
end
noncomputable def oA:Option Nat->A
 |none=>.non
 |some a=>.int a
abbrev QC:Ms:=gJ (m5 (aj (aC ow (mix (mix (aL (aq ["Board"] "grid") (ab 0)) (ab 3)) (ab 1)) (aA 0))) (mJ (aj (aC (qv false) (ab 2) (mC .non))) (aj (a8 dE (Ck (ah 0) (ah 3) (ah 2) (ah 1)))))) (aG 2 (ab 3)) bN
noncomputable abbrev Nn(o:A)(c:Nat)(f:A)(e:Sl):List Sl:=[.fr o,.fr (.int c),.fr f,e]
theorem xQ{P:Sx.Pb}{b:Sx.Bo}(h:Gd P N b)(hc:c<N):∃f:Option Nat,fN aZ [bA P.n P.m b,.int c] (oA f)/\Sx.pj P N b c P.m f:=by
 have hm:=h.bb.hm
 suffices ∃a,fN aZ [bA P.n P.m b,.int c] a/\∃f:Option Nat,a=oA f/\Sx.pj P N b c P.m f by obtain⟨a,v,f,rfl,z⟩:=this;exact⟨f,v,z⟩
 refine fN.PD (Wp.df (Wp.st rfl (Wp.sq (Wp.fr (b:=QC) (as:=bI 0 P.m) (λk Z=>X2 λ(f:Option Nat)(y:Sl)=>N3 (Z=Nn (bA P.n P.m b) c (oA f) y) (np y=true) (Sx.pj P N b c k f)) (iE rfl Q1) ⟨none,.un,rfl,rfl,Sx.pj.zero⟩ ?_ ?_))))
 .rintro k a Z Y ⟨f,y,rfl,h3,g⟩;obtain⟨hk,rfl⟩:=nC Y;refine⟨_,ie (S:=[.fr (bA P.n P.m b),.fr (.int c),.fr (oA f)]) (tl:=[]) rfl h3,?_⟩;have T:∀t,decide (0<b.Gq k c)=t->aj (aC ow (mix (mix (aL (aq ["Board"] "grid") (ab 0)) (ab 3)) (ab 1)) (aA 0)) (Nn (bA P.n P.m b) c (oA f) (.fr (.int k)))=some (.ok t,Nn (bA P.n P.m b) c (oA f) (.fr (.int k))):=λt C=>aB (ag (h.bb.at2 (j:=3) (k:=1) (i:=k) (l:=c) Q1 Q1 _ rfl rfl) rfl (kO C _));by_cases L:0<b.Gq k c
  .cases f with
   |none=>exact Wp.en (eN (pJ (T true (ZA L)) (IF rfl)) (aT rfl rfl rfl rfl rfl)) ⟨.inl rfl,some k,_,rfl,rfl,g.one L⟩
   |some a=>
    have Y:=g.1;obtain⟨r,v,e⟩:=Ej h (i:=k) (k:=a) hk Q1 hc;have D:m5 (aj (aC ow (mix (mix (aL (aq ["Board"] "grid") (ab 0)) (ab 3)) (ab 1)) (aA 0))) (mJ (aj (aC (qv false) (ab 2) (mC .non))) (aj (a8 dE (Ck (ah 0) (ah 3) (ah 2) (ah 1))))) (Nn (bA P.n P.m b) c (oA (some a)) (.fr (.int k)))=some (.ok r,Nn (bA P.n P.m b) c (oA (some a)) (.fr (.int k))):=pJ (T true (ZA L)) (dC rfl (aB (au rfl (aI v _))));cases r with
    |true=>exact Wp.en (eN D (aT rfl rfl rfl rfl rfl)) ⟨.inl rfl,some k,_,rfl,rfl,g.put L (e.mp rfl)⟩
    |false=>exact Wp.en (cq D rfl) ⟨.inl rfl,some a,_,rfl,rfl,g.keep λz=>nomatch e.mpr z⟩
  .exact Wp.en (cq (Ea (T false (Zz L))) rfl) ⟨.inl rfl,f,_,rfl,rfl,g.no Q1⟩
 .rintro O ⟨f,y,rfl,h3,g⟩;rw[iy] at g;exact⟨rfl,Wp.en (aK rfl rfl) ⟨oA f,(),rfl,by simp only[Rh,TH,vw,h3,UD],f,rfl,g⟩⟩
abbrev qF(L:Nat)(s:Int)(g t:Nat->Int)(i:Nat):List A:=(Rb L).map λ(j:Nat)=>nm (ck (Sx.su i λH=>if g H=(j:Int) then t H else 0) s)
theorem vh{n u:Nat}{f:Nat->α}{v:α}:((Rb n).map f).set u v=(Rb n).map λj=>if j=u then v else f j:=by
 refine Wu Z4 λi h1 h2=>?_;rw[List.getElem_set];simp only[Wv,UJ];by_cases e:i=u
 .rw[Zx e.symm,Zx e]
 .rw[Zy (RP e),Zy e]
theorem Lw{L:Nat}{g t:Nat->Int}(hs:s≠0):qF L s g t 0=(Rb L).map λ_=>nm (0,1):=by refine RL λj _=>?_;rw[show Sx.su 0 _=0 from rfl,rR hs]
theorem zc{L:Nat}{g t:Nat->Int}(hd:∀H,H<i->g H≠g i)(S:0<=g i):(qF L s g t i).set (g i).toNat (nm (ck (t i) s))=qF L s g t (i+1):=by
 unfold qF;rw[vh];refine RL λj _=>?_;show _=nm (ck (Sx.su i _+if g i=(j:Int) then t i else 0) s);by_cases e:j=(g i).toNat
 .rw[Zx e,Zx Q1,Sx.iL λH hi=>Zy λz=>hd H hi Q1,Up]
 .rw[Zy e,Zy Q1,R7]
theorem uR{L:Nat}{g t:Nat->Int}(h:g i<0\/(L:Int)<=g i):qF L s g t i=qF L s g t (i+1):=by unfold qF;refine RL λj a=>?_;show _=nm (ck (Sx.su i _+if g i=(j:Int) then t i else 0) s);have:=RJ.mp a;rw[Zy Q1,R7]
theorem uD{xs:List A}{k:Int}{a:A}(hl:aE Z i=some (.lst xs))(S:0<=k)(h1:k<xs.length):PL i (.fr a) (.fr (.int k)) Z=some (.nx,setAt Z i (.lst (xs.set k.toNat a))):=by
 show (match some (A.int k),aE Z i with|some (.int k),some (.lst xs)=>(match L2.gH xs.length k with|some j=>some (Fl.nx,setAt Z i (.lst (xs.set j a)))|none=>none)|_,_=>none)=_;rw[hl];dsimp only;have e:L2.gH xs.length k=some k.toNat:=by unfold L2.gH;rw[Zx S,Zx h1]
 rw[e]
abbrev Fd(o:A)(ts:List Int)(xs:List A)(e D:Sl):List Sl:=[.fr o,.fr (lI ts),.lv (.lst xs),e,D]
theorem uQ{ys:List Int}{a:A}(h:(gK (xs.map A.int) (ys.map A.int))[i]?=some a):i<xs.length/\i<ys.length/\a=.tup [.int (xs.getD i 0),.int (ys.getD i 0)]:=by
 rw[eM,Rm] at h;cases e:(xs.zip ys)[i]? with
 |none=>rw[e] at h;cases h
 |some p=>rw[e] at h;cases h;rw[RX] at e;obtain⟨e1,e2⟩:=e;exact⟨(QP.mp e1).1,(QP.mp e2).1,by simp[Rp,e1,e2]⟩
theorem vF{L:Nat}{m:Mi Rr}(hm:m S=some (.ok (.fr (.int L)),S))(hl:L<=100)(i:Nat)(hi:S.length=i):aP 1 (cU m) (aM i) aO (mC (.tup [.int 0,.int 1])) S=some (.ok (.nw (.lst ((Rb L).map λ_=>nm (0,1)))),S):=by refine bJ (iE hm Q1) ?_;unfold bI;exact bH (k:=λ(j:Nat)=>A.int (0+(j:Int))) (λ_=>nm (0,1)) hi (by simp;lia) λj _=>⟨_,rfl,rfl⟩
variable{ts:List Int}
section
variable{n m N:Nat}{b:Sx.Bo}(h:Bb n m N b)
include h
theorem rn(l:m<=ts.length)(x:∀i,i<m->0<=b.Bq i)(hd:∀i H,i<m->H<i->b.Bq H≠b.Bq i):fN cz [bA n m b,lI ts] (nS n b.s λj=>Sx.su m λi=>if b.Bq i=(j:Int) then ts.getD i 0 else 0):=by
 have ne:b.s≠0:=by have:=h.pos;lia
 have hn:=h.hn;refine fN.of (Wp.df (Wp.st (U:=Fd (bA n m b) ts (qF n b.s b.Bq (λi=>ts.getD i 0) 0) .un .un) (aT (vF (S:=[.fr (bA n m b),.fr (lI ts),.un,.un,.un]) rfl Q1 5 rfl) rfl rfl rfl (by rw[Lw ne];rfl)) (Wp.sq (Wp.fr (G:=G2 3 4) (as:=gK (b.dn.map A.int) (ts.map A.int)) (λi Z=>X2 λ(e D:Sl)=>N3 (Z=Fd (bA n m b) ts (qF n b.s b.Bq (λi=>ts.getD i 0) i) e D) (np e=true) (np D=true)) rfl ⟨_,_,rfl,rfl,rfl⟩ ?_ ?_))))
 .rintro i a Z f ⟨e,D,rfl,h3,h4⟩;obtain⟨w,I,rfl⟩:=uQ f;rw[h.sh.dn] at w;refine⟨_,nA (S:=[.fr (bA n m b),.fr (lI ts),.lv (.lst (qF n b.s b.Bq (λi=>ts.getD i 0) i))]) (tl:=[]) rfl h3 h4,?_⟩;have N:=x i w;have T:∀t,decide (b.Bq i<(n:Int))=t->aj (aC ka (ab 3) (aL (aq ["Board"] "long") (ab 0))) (Fd (bA n m b) ts (qF n b.s b.Bq (λi=>ts.getD i 0) i) (.fr (.int (b.Bq i))) (.fr (.int (ts.getD i 0))))=some (.ok t,Fd (bA n m b) ts (qF n b.s b.Bq (λi=>ts.getD i 0) i) (.fr (.int (b.Bq i))) (.fr (.int (ts.getD i 0)))):=λt l=>aB (ag rfl rfl (iR l _));by_cases c:b.Bq i<(n:Int)
  .refine Wp.en (eN (T true (ZA c)) (oO (au (ae rfl (ae rfl rfl)) (aI (B8 (t:=ts.getD i 0) ne (h.bs.mono Z2)) _)) rfl rfl (uD (k:=b.Bq i) rfl N (by simpa using c)))) ⟨.inl rfl,.fr (.int (b.Bq i)),.fr (.int (ts.getD i 0)),?_,rfl,rfl⟩;rw[zc (t:=λi=>ts.getD i 0) (hd i · w) N];rfl
  .refine Wp.en (cq (T false (Zz c)) rfl) ⟨.inl rfl,.fr (.int (b.Bq i)),.fr (.int (ts.getD i 0)),?_,rfl,rfl⟩;rw[uR (.inr Q1)]
 .rintro O ⟨e,D,rfl,h3,h4⟩;rw[show (gK (b.dn.map A.int) (ts.map A.int)).length=m by rw[eM,QU,SJ,h.sh.dn];lia];exact⟨rfl,Wp.en (aK rfl rfl) ⟨rfl,by simp only[Rh,TH,vw,E7,h3,h4,UD]⟩⟩
theorem BE(C:N<=ts.length)(hd:∀i H,i<N->H<i->b.Aq H≠b.Aq i)(z:∀i,i<N->b.Aq i<(n+m:Nat)):fN aW [bA n m b,lI ts] (nS m b.s λk=>Sx.su N λl=>if b.Aq l=((n+k:Nat):Int) then ts.getD l 0 else 0):=by
 have ne:b.s≠0:=by have:=h.pos;lia
 have hm:=h.hm;have hn:=h.hn;have conv:∀i,qF m b.s (λl=>b.Aq l-n) (λi=>ts.getD i 0) i=(Rb m).map λk=>nm (ck (Sx.su i λl=>if b.Aq l=((n+k:Nat):Int) then ts.getD l 0 else 0) b.s):=λi=>by
  refine RL λk _=>?_
  congr 2
  refine Sx.bG λl _=>?_;by_cases e:b.Aq l=((n+k:Nat):Int)
  .rw[Zx e,Zx (show b.Aq l-n=(k:Int) by lia)]
  .rw[Zy e,Zy (show ¬ b.Aq l-n=(k:Int) by lia)]
 unfold nS;rw[<-conv];refine fN.of (Wp.df (Wp.st (U:=Fd (bA n m b) ts (qF m b.s (λl=>b.Aq l-n) (λi=>ts.getD i 0) 0) .un .un) (aT (vF (S:=[.fr (bA n m b),.fr (lI ts),.un,.un,.un]) rfl Q1 5 rfl) rfl rfl rfl (by rw[Lw ne];rfl)) (Wp.sq (Wp.fr (G:=G2 3 4) (as:=gK (b.ac.map A.int) (ts.map A.int)) (λi Z=>X2 λ(y D:Sl)=>N3 (Z=Fd (bA n m b) ts (qF m b.s (λl=>b.Aq l-n) (λi=>ts.getD i 0) i) y D) (np y=true) (np D=true)) rfl ⟨_,_,rfl,rfl,rfl⟩ ?_ ?_))))
 .rintro i a Z f ⟨y,D,rfl,h3,h4⟩;obtain⟨w,I,rfl⟩:=uQ f;rw[h.sh.ac] at w;refine⟨_,nA (S:=[.fr (bA n m b),.fr (lI ts),.lv (.lst (qF m b.s (λl=>b.Aq l-n) (λi=>ts.getD i 0) i))]) (tl:=[]) rfl h3 h4,?_⟩;have b1:=z i w;have T:∀t,decide ((n:Int)<=b.Aq i)=t->aj (aC Fh (ab 3) (aL (aq ["Board"] "long") (ab 0))) (Fd (bA n m b) ts (qF m b.s (λl=>b.Aq l-n) (λi=>ts.getD i 0) i) (.fr (.int (b.Aq i))) (.fr (.int (ts.getD i 0))))=some (.ok t,Fd (bA n m b) ts (qF m b.s (λl=>b.Aq l-n) (λi=>ts.getD i 0) i) (.fr (.int (b.Aq i))) (.fr (.int (ts.getD i 0)))):=λt C=>aB (ag rfl rfl (by rw[<-C];rfl));by_cases c:(n:Int)<=b.Aq i
  .refine Wp.en (eN (T true (ZA c)) (oO (au (ae rfl (ae rfl rfl)) (aI (B8 (t:=ts.getD i 0) ne (h.bs.mono Z2)) _)) rfl (ag rfl rfl rfl) (uD (k:=b.Aq i-n) rfl Q1 (by simp;lia)))) ⟨.inl rfl,.fr (.int (b.Aq i)),.fr (.int (ts.getD i 0)),?_,rfl,rfl⟩;rw[<-zc (g:=λl=>b.Aq l-n) (t:=λi=>ts.getD i 0) (i:=i) (λH x=>by have:=hd i H w x;show b.Aq H-n≠b.Aq i-n;lia) (by show 0<=b.Aq i-n;lia)];rfl
  .refine Wp.en (cq (T false (Zz c)) rfl) ⟨.inl rfl,.fr (.int (b.Aq i)),.fr (.int (ts.getD i 0)),?_,rfl,rfl⟩;rw[<-uR (g:=λl=>b.Aq l-n) (.inl (by show b.Aq i-n<0;lia))]
 .rintro O ⟨y,D,rfl,h3,h4⟩;rw[show (gK (b.ac.map A.int) (ts.map A.int)).length=N by rw[eM,QU,SJ,h.sh.ac];lia];exact⟨rfl,Wp.en (aK rfl rfl) ⟨rfl,by simp only[Rh,TH,vw,E7,h3,h4,UD]⟩⟩
end
section
variable{P:Sx.Pb}{N:Nat}{b:Sx.Bo}
theorem Gd.PJ(h:Gd P N b)(i H:Nat)(hi:i<P.m)(a:H<i):b.Bq H≠b.Bq i:=λe=>by have:=Sx.getD_inj (Q2.mp h.ok.nd).2.1 (i:=H) (j:=i) (by rw[h.ok.sh.dn];lia) (by rw[h.ok.sh.dn];lia) e;lia
theorem Gd.Qb(h:Gd P N b)(i H:Nat)(hi:i<N)(a:H<i):b.Aq H≠b.Aq i:=λe=>by have:=h.ok.Ai (show H<N by lia) hi e;lia
theorem Gd.B0(h:Gd P P.n b)(i:Nat)(hi:i<P.m):0<=b.Bq i:=by have:=(h.ok.nm _).mp (QO b.ac (h.ok.Bm hi));rw[Zx rfl] at this;exact this.1
theorem Gd.Alt(h:Gd P N b)(i:Nat)(hi:i<N):b.Aq i<(P.n+P.m:Nat):=(h.ok.yf (QR b.dn (h.ok.Am hi))).2
theorem Bb.K9{n m:Nat}(h:Bb n m N b){f:List Int->Int}(hi:i<m):(b.g.map f).getD i 0=f (b.g.getD i []):=Sx.getD_map (by rw[h.sh.g];lia)
theorem D3(h:Gd P P.n b):fN bC [bA P.n P.m b] (nS P.n b.s λj=>Sx.vl P b P.n j):=by
 have hm:=h.bb.hm;have J:=h.bb.sh.g;have I:=bH (e:=mix (ab 1) (aL aU (aA 1))) (ts:=b.g) (k:=lI) (S:=[.fr (bA P.n P.m b)]) (λr=>.int (r.getD P.n 0)) rfl Q1 λr R=>⟨_,ag rfl rfl (bh (.inl rfl) (lG (h.bb.sh.r r R))),rfl⟩
 have y:lz (aP 1 (cH (aL (aq ["Board"] "grid") (ab 0))) (aM 1) aO (mix (ab 1) (aL aU (aA 1)))) [.fr (bA P.n P.m b)]=some (.ok (.fr (lI (b.g.map λ(r:List Int)=>r.getD P.n 0))),[.fr (bA P.n P.m b)]):=by refine kR (bJ rfl I) ?_;unfold lI;rw[Rx];rfl
 have k:=(rn h.bb (ts:=b.g.map λr=>r.getD P.n 0) (by rw[QU];lia) h.B0 h.PJ).v;have eq:nS P.n b.s (λj=>Sx.su P.m λi=>if b.Bq i=(j:Int) then (b.g.map λr=>r.getD P.n 0).getD i 0 else 0)=nS P.n b.s λj=>Sx.vl P b P.n j:=by
  unfold nS
  congr 1
  refine RL λj _=>?_
  congr 2
  unfold Sx.vl;dsimp only;rw[Zy (λz=>absurd z.1 (Ri _)),R7];refine Sx.bG λi hi=>?_;rw[h.bb.K9 hi,show Sx.qs P.n P.n=1 from Zy (Ri _),SD];rfl
 rw[eq] at k;exact fN.of (Wp.df (Wp.en (aK (au (ae (jZ rfl rfl) (ae y rfl)) (aI k _)) rfl) ⟨rfl,rfl⟩))
theorem JD(h:s≠0):ck s s=(1,1):=by have:=wU (q:=(1,1)) ⟨by decide,by decide⟩ h;simpa using this
theorem Mw(h:Gd P P.n b)(hc:c<P.n):fN cN [bA P.n P.m b,.int c] (nS P.n b.s λj=>Sx.vl P b c j):=by
 have ne:b.s≠0:=by have:=h.bb.pos;lia
 have hm:=h.bb.hm;have J:=h.bb.sh.g;have I:=bH (e:=aL aU (mix (ab 3) (ab 1))) (ts:=b.g) (k:=lI) (S:=[.fr (bA P.n P.m b),.fr (.int c),.un]) (λr=>.int (-(r.getD c 0))) rfl Q1 λr R=>⟨.fr (.int (-(r.getD c 0))),eP (ag rfl rfl (bh (.inl rfl) (fS (by rw[h.bb.sh.r r R];lia)))) rfl,rfl⟩
 have y:lz (aP 1 (cH (aL (aq ["Board"] "grid") (ab 0))) (aM 3) aO (aL aU (mix (ab 3) (ab 1)))) [.fr (bA P.n P.m b),.fr (.int c),.un]=some (.ok (.fr (lI (b.g.map λ(r:List Int)=>-(r.getD c 0)))),[.fr (bA P.n P.m b),.fr (.int c),.un]):=by refine kR (bJ rfl I) ?_;unfold lI;rw[Rx];rfl
 have k:=(rn h.bb (ts:=b.g.map λr=>-(r.getD c 0)) (by rw[QU];lia) h.B0 h.PJ).v;have eq:∀j:Nat,(Sx.su P.m λi=>if b.Bq i=(j:Int) then (b.g.map λr=>-(r.getD c 0)).getD i 0 else 0)=Sx.su P.m λi=>if b.Bq i=(j:Int) then Sx.qs P.n c*b.Gq i c else 0:=λj=>Sx.bG λi hi=>by rw[h.bb.K9 hi,show Sx.qs P.n c = -1 from Zx hc,Sg];rfl
 simp only[eq] at k;have s2:aG 2 (cx dD (a8 cz (cu (bK "Board" "spread_down" (ab 0)) (lz (aP 1 (cH (aL (aq ["Board"] "grid") (ab 0))) (aM 3) aO (aL aU (mix (ab 3) (ab 1)))))))) [.fr (bA P.n P.m b),.fr (.int c),.un]=some (.nx,[.fr (bA P.n P.m b),.fr (.int c),.lv (.lst ((Rb P.n).map λ(j:Nat)=>nm (ck (Sx.su P.m λi=>if b.Bq i=(j:Int) then Sx.qs P.n c*b.Gq i c else 0) b.s)))]):=
  aT (eP (au (ae (jZ rfl rfl) (ae y rfl)) (aI k _)) (nV (r:=.nw (.lst _)) rfl rfl)) rfl rfl rfl rfl
 have Z:∀x,mix (aL (aq ["Board"] "across") (ab 0)) (ab 1) [.fr (bA P.n P.m b),.fr (.int c),x]=some (.ok (.fr (.int (b.Aq c))),[.fr (bA P.n P.m b),.fr (.int c),x]):=λx=>ag rfl rfl (bh (.inl rfl) (fS (by rw[h.bb.sh.ac];exact hc)));have o:=(h.ok.nm _).mp (QR b.dn (h.ok.Am hc));rw[Zx rfl] at o;refine fN.of (Wp.df (Wp.st s2 ?_));have T:∀t x,decide (b.Aq c<(P.n:Int))=t->aj (aC ka (mix (aL (aq ["Board"] "across") (ab 0)) (ab 1)) (aL (aq ["Board"] "long") (ab 0))) [.fr (bA P.n P.m b),.fr (.int c),x]=some (.ok t,[.fr (bA P.n P.m b),.fr (.int c),x]):=λt x l=>aB (ag (Z x) rfl (iR l _));by_cases O:b.Aq c<(P.n:Int)
 .refine Wp.st (eN (T true _ (ZA O)) (oO rfl rfl (Z _) (uD (a:=nm (1,1)) (k:=b.Aq c) rfl o.1 (by simpa using O)))) (Wp.en (aK rfl rfl) ⟨?_,rfl⟩);show Fl.rt (.fr (.tup (List.set _ _ _)))=_;rw[vh]
  congr 3
  refine RL λj _=>?_;unfold Sx.vl;dsimp only;by_cases e:j=(b.Aq c).toNat
  .rw[Zx e,Zx ⟨hc,by lia⟩,Sx.iL λi hi=>Zy λz=>h.ok.AB hc hi Q1,Up,JD ne]
  .rw[Zy e,Zy λz=>by lia,R7]
 .refine Wp.st (cq (T false _ (Zz O)) rfl) (Wp.en (aK rfl rfl) ⟨?_,rfl⟩);show Fl.rt (.fr (.tup _))=_
  congr 3
  refine RL λj L=>?_;have:=RJ.mp L;unfold Sx.vl;dsimp only;rw[Zy λz=>by lia,R7]
theorem KR(h:Gd P N b)(C:N<=ts.length):fN aW [bA P.n P.m b,lI ts] (nS P.m b.s λk=>Sx.su N λl=>if b.Aq l=((P.n+k:Nat):Int) then ts.getD l 0 else 0):=BE h.bb C h.Qb h.Alt
end
noncomputable abbrev oB(n m:Nat)(s:Int)(g:A)(ac dn:List Int):LO:=.nob "Board" [("long",.int n),("many",.int m),("scale",.int s),("grid",g)] [("across",ac.map A.int),("down",dn.map A.int)]
theorem v9(n m:Nat)(b:Sx.Bo):bO n m b=oB n m b.s (gI b.g) b.ac b.dn:=rfl
theorem jx{n:Nat}(h:j<n):L2.gH n (j:Int)=some j:=by unfold L2.gH;rw[Zx Q1,Zx Q1];simp
abbrev gx(n m:Nat)(s:Int)(g:A)(ac dn:List Int)(a c:Nat)(e D x5:Sl):List Sl:=[.pv (oB n m s g ac dn),.fr (.int a),.fr (.int c),e,D,x5]
section
variable{n m N:Nat}{s:Int}{g:A}{ac dn:List Int}{a c:Nat}{x3 D x5:Sl}
theorem qM{s':Int}(he:e (gx n m s g ac dn a c x3 D x5)=some (.ok (.fr (.int s')),gx n m s g ac dn a c x3 D x5)):dG ["Board"] 0 "scale" e (gx n m s g ac dn a c x3 D x5)=some (.nx,gx n m s' g ac dn a c x3 D x5):=sk he rfl
theorem vC{g':A}{h:Sl}(he:e (gx n m s g ac dn a c x3 D x5)=some (.ok r,gx n m s g ac dn a c x3 D x5))(hf:bX r (gx n m s g ac dn a c x3 D x5)=some (g',gx n m s g ac dn a c x3 h x5)):dG ["Board"] 0 "grid" e (gx n m s g ac dn a c x3 D x5)=some (.nx,gx n m s g' ac dn a c x3 h x5):=sk he (by rw[hf];rfl)
theorem OI(hc:c<ac.length)(h5:np x5=true):aG 5 (qm ["Board"] 0 "across" (yi 2)) (gx n m s g ac dn a c x3 D x5)=some (.nx,gx n m s g ac dn a c x3 D (.fr (.int (ac.getD c 0)))):=by refine aT (r:=.fr (.int (ac.getD c 0))) (U:=gx n m s g ac dn a c x3 D x5) ?_ rfl rfl h5 rfl;show (match iq (ac.map A.int) (c:Int) with|some a=>some (RI (Rr.fr a),_)|none=>none)=_;rw[fS hc]
theorem My(f:a<dn.length)(hc:c<ac.length):fD ["Board"] 0 "across" 2 (qm ["Board"] 0 "down" (yi 1)) (gx n m s g ac dn a c x3 D x5)=some (.nx,gx n m s g (ac.set c (dn.getD a 0)) dn a c x3 D x5):=by
 refine sk (x:=.fr (.int (dn.getD a 0))) (U:=gx n m s g ac dn a c x3 D x5) ?_ ?_
 .show (match iq (dn.map A.int) (a:Int) with|some a=>some (RI (Rr.fr a),_)|none=>none)=_;rw[fS f]
 .show (match L2.gH (ac.map A.int).length (c:Int) with|some n=>some (Fl.nx,gz _ 0 "across" ((ac.map A.int).set n _))|none=>none)=_;rw[jx (by simpa using hc)];show some (Fl.nx,[Sl.pv (LO.nob "Board" _ [("across",(ac.map A.int).set c (.int (dn.getD a 0))),("down",dn.map A.int)]),_,_,_,_,_])=_;rw[<-Uh]
theorem Lu{v:Int}(f:a<dn.length):fD ["Board"] 0 "down" 1 (ab 5) (gx n m s g ac dn a c x3 D (.fr (.int v)))=some (.nx,gx n m s g ac (dn.set a v) a c x3 D (.fr (.int v))):=by refine sk (x:=.fr (.int v)) (U:=gx n m s g ac dn a c x3 D (.fr (.int v))) rfl ?_;show (match L2.gH (dn.map A.int).length (a:Int) with|some n=>some (Fl.nx,gz _ 0 "down" ((dn.map A.int).set n _))|none=>none)=_;rw[jx (by simpa using f)];show some (Fl.nx,[Sl.pv (LO.nob "Board" _ [("across",ac.map A.int),("down",(dn.map A.int).set a (.int v))]),_,_,_,_,_])=_;rw[<-Uh]
theorem Iu{xs:List A}(f:a<xs.length)(hc:c<pr.length):wm ["Board"] 4 1 2 0 "scale" (cx dD (ab 3)) (gx n m s g ac dn a c (.fr (lI pr)) (.lv (.lst xs)) x5)=some (.nx,gx n m s g ac dn a c (.fr (lI pr)) (.lv (.lst (xs.set a (lI (pr.set c s))))) x5):=by refine sk (x:=.nw (.lst (pr.map A.int))) (U:=gx n m s g ac dn a c (.fr (lI pr)) (.lv (.lst xs)) x5) rfl ?_;show (match L2.gH xs.length (a:Int),L2.gH (pr.map A.int).length (c:Int) with|some n,some q=>some (Fl.nx,setAt _ 4 (.lst (xs.set n (.lst ((pr.map A.int).set q (.int s))))))|_,_=>none)=_;rw[jx f,jx (by simpa using hc)];show some (Fl.nx,[_,_,_,_,Sl.lv (.lst (xs.set a (.lst ((pr.map A.int).set c (.int s))))),_])=_;rw[<-Uh]
end
theorem DN{b:Sx.Bo}{a:Nat}:(b.g.map λrow=>lI (Sx.kH row (b.g.getD a []) c b.s)).set a (lI ((b.g.getD a []).set c b.s))=(b.raw a c).map lI:=by unfold Sx.Bo.raw;rw[Uh,Rx];rfl
theorem uw{n m:Nat}{b:Sx.Bo}(h:Bb n m N b){a:Nat}(Y:a<m)(hc:c<N):cS aF (bO n m b) [.int a,.int c] (.fr .non) (bO n m (b.turn a c)):=by
 have hm:=h.hm;have hN:=h.hN;have J:=h.sh.g;have R:=h.sh.row (show a<=m by lia);have ne:b.s≠0:=by have:=h.pos;lia
 have o:aG 3 (mix (aQ (aN ["Board"] 0 "grid") (aL (aq ["Board"] "grid") (ab 0))) (ab 1)) (gx n m b.s (gI b.g) b.ac b.dn a c .un .un .un)=some (.nx,gx n m b.s (gI b.g) b.ac b.dn a c (.fr (lI (b.g.getD a []))) .un .un):=aT (ag (bQ rfl) rfl (bh (.inl rfl) (A6 Q1))) rfl rfl rfl rfl;have mem:b.g.getD a []∈b.g:=Sx.getD_mem Q1;have K:=bH (e:=a8 eW (Ck (ah 6) (ah 3) (ah 2) (aQ (aN ["Board"] 0 "scale") (aL (aq ["Board"] "scale") (ab 0))))) (ts:=b.g) (k:=lI) (S:=gx n m b.s (gI b.g) b.ac b.dn a c (.fr (lI (b.g.getD a []))) .un .un) (λrow=>lI (Sx.kH row (b.g.getD a []) c b.s)) rfl Q1 λrow cj=>⟨.nw (.lst ((Sx.kH row (b.g.getD a []) c b.s).map A.int)),au (ae rfl (ae rfl (ae rfl (ae (bQ rfl) rfl)))) (jB (J0 (N:=N) (h.sh.r row cj) R Q1 Q1 ne h.bs (h.bg row cj) (h.bg _ mem)) _),rfl⟩
 have w:aG 4 (aP 1 (cH (aQ (aN ["Board"] 0 "grid") (aL (aq ["Board"] "grid") (ab 0)))) (aM 6) aO (a8 eW (Ck (ah 6) (ah 3) (ah 2) (aQ (aN ["Board"] 0 "scale") (aL (aq ["Board"] "scale") (ab 0)))))) (gx n m b.s (gI b.g) b.ac b.dn a c (.fr (lI (b.g.getD a []))) .un .un)=some (.nx,gx n m b.s (gI b.g) b.ac b.dn a c (.fr (lI (b.g.getD a []))) (.lv (.lst (b.g.map λrow=>lI (Sx.kH row (b.g.getD a []) c b.s)))) .un):=
  aT (bJ (qO (bQ rfl) rfl) K) rfl rfl rfl rfl
 have j:=Iu (n:=n) (m:=m) (s:=b.s) (g:=gI b.g) (ac:=b.ac) (dn:=b.dn) (a:=a) (c:=c) (x5:=.un) (xs:=b.g.map λrow=>lI (Sx.kH row (b.g.getD a []) c b.s)) (pr:=b.g.getD a []) (by rw[QU];lia) Q1;rw[DN] at j;have q:dG ["Board"] 0 "scale" (mix (ab 3) (ab 2)) (gx n m b.s (gI b.g) b.ac b.dn a c (.fr (lI (b.g.getD a []))) (.lv (.lst ((b.raw a c).map lI))) .un)=some (.nx,gx n m (b.Gq a c) (gI b.g) b.ac b.dn a c (.fr (lI (b.g.getD a []))) (.lv (.lst ((b.raw a c).map lI))) .un):=qM (ag rfl rfl (bh (.inl rfl) (fS Q1)));have E:dG ["Board"] 0 "grid" (ab 4) (gx n m (b.Gq a c) (gI b.g) b.ac b.dn a c (.fr (lI (b.g.getD a []))) (.lv (.lst ((b.raw a c).map lI))) .un)=some (.nx,gx n m (b.Gq a c) (gI (b.raw a c)) b.ac b.dn a c (.fr (lI (b.g.getD a []))) (.fr (.lst ((b.raw a c).map lI))) .un):=vC rfl rfl;have p:∀t,decide (b.Gq a c<0)=t->aj (aC ka (aQ (aN ["Board"] 0 "scale") (aL (aq ["Board"] "scale") (ab 0))) (aA 0)) (gx n m (b.Gq a c) (gI (b.raw a c)) b.ac b.dn a c (.fr (lI (b.g.getD a []))) (.fr (.lst ((b.raw a c).map lI))) .un)=some (.ok t,gx n m (b.Gq a c) (gI (b.raw a c)) b.ac b.dn a c (.fr (lI (b.g.getD a []))) (.fr (.lst ((b.raw a c).map lI))) .un):=λt l=>aB (ag (bQ rfl) rfl (iR l _));have tail:∀(s:Int)(g:A)(y D:Sl),Wp (av (aG 5 (qm ["Board"] 0 "across" (yi 2))) (av (fD ["Board"] 0 "across" 2 (qm ["Board"] 0 "down" (yi 1))) (fD ["Board"] 0 "down" 1 (ab 5)))) (gx n m s g b.ac b.dn a c y D .un) λf Z=>f=.nx/\∃U,Z=.pv (oB n m s g (b.ac.set c (b.dn.getD a 0)) (b.dn.set a (b.ac.getD c 0)))::U:=λs g y D=>Wp.st (OI (by rw[h.sh.ac];exact hc) rfl) (Wp.st (My (by rw[h.sh.dn];exact Y) (by rw[h.sh.ac];exact hc)) (Wp.en (Lu (by rw[h.sh.dn];exact Y)) ⟨rfl,_,rfl⟩))
 suffices ∃s o',cS aF (bO n m b) [.int a,.int c] s o'/\(s=.fr .non/\o'=bO n m (b.turn a c)) by obtain⟨s,o',v,rfl,rfl⟩:=this;exact v
 refine cS.of (Wp.df (Wp.st o (Wp.st w (Wp.st j (Wp.st q (Wp.st E ?_))))));by_cases i:b.Gq a c<0
 .have Q:dG ["Board"] 0 "scale" (aL aU (aQ (aN ["Board"] 0 "scale") (aL (aq ["Board"] "scale") (ab 0)))) (gx n m (b.Gq a c) (gI (b.raw a c)) b.ac b.dn a c (.fr (lI (b.g.getD a []))) (.fr (.lst ((b.raw a c).map lI))) .un)=some (.nx,gx n m (-b.Gq a c) (gI (b.raw a c)) b.ac b.dn a c (.fr (lI (b.g.getD a []))) (.fr (.lst ((b.raw a c).map lI))) .un):=qM (eP (bQ rfl) rfl);have X:(b.raw a c).length=m+1:=by simp[Sx.Bo.raw,J]
  have z:=bH (e:=a8 aS (cR (ah 6))) (ts:=b.raw a c) (k:=lI) (S:=gx n m (-b.Gq a c) (gI (b.raw a c)) b.ac b.dn a c (.fr (lI (b.g.getD a []))) (.fr (.lst ((b.raw a c).map lI))) .un) (λrow=>lI (Sx.fZ row)) rfl Q1 λrow cj=>⟨.nw (.lst ((Sx.fZ row).map A.int)),au (ae rfl rfl) (jB (Ao (by have:=h.sh.raw (c:=c) (show a<=m by lia) row cj;lia)) _),rfl⟩
  have x:dG ["Board"] 0 "grid" (aP 1 (cH (ab 4)) (aM 6) aO (a8 aS (cR (ah 6)))) (gx n m (-b.Gq a c) (gI (b.raw a c)) b.ac b.dn a c (.fr (lI (b.g.getD a []))) (.fr (.lst ((b.raw a c).map lI))) .un)=some (.nx,gx n m (-b.Gq a c) (gI ((b.raw a c).map Sx.fZ)) b.ac b.dn a c (.fr (lI (b.g.getD a []))) (.fr (.lst ((b.raw a c).map lI))) .un):=by refine vC (bJ rfl z) ?_;unfold gI;rw[Rx];rfl
  refine Wp.st (eN (p true (ZA i)) (dP Q x)) (Wp.mono (tail _ _ _ _) ?_);rintro f Z ⟨rfl,U,rfl⟩;refine⟨_,_,U,rfl,rfl,rfl,?_⟩;rw[v9];unfold Sx.Bo.turn;simp only[Zx i]
 .refine Wp.st (cq (p false (Zz i)) rfl) (Wp.mono (tail _ _ _ _) ?_);rintro f Z ⟨rfl,U,rfl⟩;refine⟨_,_,U,rfl,rfl,rfl,?_⟩;rw[v9];unfold Sx.Bo.turn;simp only[Zy i]
theorem AJ(f:α->β)(xs:List α)(k:Nat):(xs.map f).eraseIdx k=(xs.eraseIdx k).map f:=by rw[RD,RD,Rz,S6,WT]
theorem Jx{xs:List A}{k:Nat}(h:k<=xs.length):i5 xs none (some (k:Int))=xs.take k:=by
 have e:HT.jV xs.length xs.length (some (k:Int))=k:=by rw[HT.u7];lia
 have I:HT.jV xs.length 0 none=0:=rfl;unfold i5;rw[e,I,VM,WK]
theorem Iv{xs:List A}{k:Nat}(h:k<=xs.length):i5 xs (some (k:Int)) none=xs.drop k:=by
 have e:HT.jV xs.length 0 (some (k:Int))=k:=by rw[HT.u7];lia
 have I:HT.jV xs.length xs.length none=xs.length:=rfl;unfold i5;rw[e,I,VD Z4]
theorem Du{m:Mi Rr}{xs:List A}{n:Nat}(h:m Z=some (.ok (.fr (.lst xs)),Z))(hl:xs.length=n+1):cF m (bF (aL aU (aA 1))) aH Z=some (.ok (.nw (.lst (xs.drop n))),Z):=by refine bk h (bk (x:=some (-1)) rfl (bk rfl ?_));show some (RI (Rr.nw (.lst (i5 xs (some (-1)) none))),Z)=_;rw[Jg hl]
theorem kc{xs ys:List A}(h:xs.length+ys.length<=100000)(Z:List Sl):lh a6 (.nw (.lst xs)) (.nw (.lst ys)) Z=some (.ok (.nw (.lst (xs++ys))),Z):=fu (o:=none) (a:=.lst xs) (b:=.lst ys) rfl rfl (Zx h)
abbrev sZ(n m:Nat)(s:Int)(g:A)(ac dn:List Int)(R:Sl):List Sl:=[.pv (oB n m s g ac dn),R]
theorem Jh{n m:Nat}{g:A}{ac dn:List Int}(hc:c<ac.length)(hl:ac.length<=100):dA (si ["Board"] 0 "across" (yi 1)) (sZ n m s g ac dn (.fr (.int c)))=some (.nx,sZ n m s g (ac.eraseIdx c) dn (.fr (.int c))):=by
 refine eY (r:=.fr (.int (ac.getD c 0))) ?_;show (if (c:Int).natAbs<2^62 then (match YN (c:Int) (ac.map A.int).length with|some n=>(match (ac.map A.int)[n]? with|some a=>some (RI (Rr.fr a),gz _ 0 "across" ((ac.map A.int).eraseIdx n))|none=>none)|none=>none) else none)=_;rw[Zx Q1];have e:=(lB (jx (n:=(ac.map A.int).length) (j:=c) (by simpa using hc))).1;have e2:(ac.map A.int)[c]?=some (.int (ac.getD c 0)):=by simp[Rp,hc]
 rw[e];dsimp only;rw[e2];dsimp only;show some (_,[Sl.pv (LO.nob "Board" _ [("across",(ac.map A.int).eraseIdx c),("down",dn.map A.int)]),_])=_;rw[show (ac.map A.int).eraseIdx c=(ac.eraseIdx c).map A.int from AJ _ _ _]
theorem G7{n m:Nat}{b:Sx.Bo}(h:Bb n m N b)(u:-1∈b.ac):cS bf (bO n m b) [] (.fr .non) (bO n m (b.drop (b.ac.idxOf (-1)))):=by
 have hl:=R4 u;have hN:=h.hN;have hm:=h.hm;have i:=h.sh.ac;generalize t:b.ac.idxOf (-1)=k at hl;have G:aG 1 (gC ["Board"] 0 "across" (ze (S9 0))) (sZ n m b.s (gI b.g) b.ac b.dn .un)=some (.nx,sZ n m b.s (gI b.g) b.ac b.dn (.fr (.int k))):=by refine aT (r:=.fr (.int k)) (U:=sZ n m b.s (gI b.g) b.ac b.dn .un) ?_ rfl rfl rfl rfl;show (match eD (b.ac.map A.int) with|some ns=>(match tw ns (-1) with|some j=>some (RI (Rr.fr (.int j)),_)|none=>none)|none=>none)=_;rw[fX];dsimp only;rw[pW u,t]
 have J:=bH (e:=aC a6 (cF (ab 2) aH (bF (ab 1))) (cF (ab 2) (bF (aC a6 (ab 1) (aA 1))) aH)) (ts:=b.g) (k:=lI) (S:=sZ n m b.s (gI b.g) (b.ac.eraseIdx k) b.dn (.fr (.int k))) (λrow=>lI (row.eraseIdx k)) rfl (by have:=h.sh.g;lia) λrow cj=>by
  have K:=h.sh.r row cj;have a1:∀x,cF (ab 2) aH (bF (ab 1)) [x,.fr (.int k),.fr (lI row)]=some (.ok (.nw (.lst ((row.map A.int).take k))),[x,.fr (.int k),.fr (lI row)]):=λx=>by refine bk (x:=.fr (lI row)) rfl (bk rfl (bk (x:=some (k:Int)) rfl ?_));show some (RI (Rr.nw (.lst (i5 (row.map A.int) none (some (k:Int))))),_)=_;rw[Jx (by simp;lia)]
  have C:∀x,cF (ab 2) (bF (aC a6 (ab 1) (aA 1))) aH [x,.fr (.int k),.fr (lI row)]=some (.ok (.nw (.lst ((row.map A.int).drop (k+1)))),[x,.fr (.int k),.fr (lI row)]):=λx=>by refine bk (x:=.fr (lI row)) rfl (bk (x:=some ((k+1:Nat):Int)) rfl (bk rfl ?_));show some (RI (Rr.nw (.lst (i5 (row.map A.int) (some ((k+1:Nat):Int)) none))),_)=_;rw[Iv (by simp;lia)]
  refine⟨_,ag (a1 _) (C _) (kc (by simp;lia) _),?_⟩;show some (A.lst ((row.map A.int).take k++(row.map A.int).drop (k+1)),_)=_;rw[<-RD,AJ]
 have o:dG ["Board"] 0 "grid" (aP 1 (cH (aQ (aN ["Board"] 0 "grid") (aL (aq ["Board"] "grid") (ab 0)))) (aM 2) aO (aC a6 (cF (ab 2) aH (bF (ab 1))) (cF (ab 2) (bF (aC a6 (ab 1) (aA 1))) aH))) (sZ n m b.s (gI b.g) (b.ac.eraseIdx k) b.dn (.fr (.int k)))=some (.nx,sZ n m b.s (gI (b.g.map λr=>r.eraseIdx k)) (b.ac.eraseIdx k) b.dn (.fr (.int k))):=by refine sk (bJ (qO (bQ rfl) rfl) J) ?_;show some (Fl.nx,[Sl.pv (LO.nob "Board" [_,_,_,("grid",.lst (b.g.map λrow=>lI (row.eraseIdx k)))] _),_])=_;rw[show (b.g.map λrow=>lI (row.eraseIdx k))=(b.g.map λr=>r.eraseIdx k).map lI by rw[Rx];rfl];rfl
 suffices ∃s o',cS bf (bO n m b) [] s o'/\(s=.fr .non/\o'=bO n m (b.drop k)) by obtain⟨s,o',v,rfl,rfl⟩:=this;exact v
 exact cS.of (Wp.df (Wp.st G (Wp.st (Jh hl Q1) (Wp.en o ⟨_,_,_,rfl,rfl,rfl,rfl⟩))))
theorem lU:∀xs:List Int,Ep (xs.map A.int)=true
 |[]=>rfl
 |x::xs=>by show (pl (.int x)&&Ep (xs.map A.int))=true;rw[lU xs];rfl
theorem rT{m:Mi Rr}(h1:om i Z=some o)(h2:m (Z.set i (.fr o.a))=some (.ok r,Z.set i (.fr o.a)))(h3:GZ i Z=true)(h4:Ov r=true):iS i m Z=some r:=by
 delta iS
 rw[h1]
 dsimp only
 rw[h2]
 exact Zx ⟨rfl,h3,h4⟩
theorem uX{cs:List Str}{f:Str}{m:Mi Rr}{F:List Sl}{xs:List A}{a:A}(h1:ownAt cs Z i f=some xs)(h2:iS i m Z=some r)(h3:bX r Z=some (a,U))(h4:qH cs U i f a=some F):nB cs i f m Z=some (.ok (.fr .non),F):=by
 delta nB
 rw[h1,h2]
 dsimp only
 rw[h3]
 dsimp only
 rw[h4]
def wu(N m:Nat)(b:Sx.Bo):Sx.Bo:=⟨b.ac++[-1],b.dn,(b.g.take m).map (λr=>r.take N++[-1]++r.drop N)++[(b.g.getD m []).take N++[0]++(b.g.getD m []).drop N],b.s⟩
theorem Ln{n m:Nat}{b:Sx.Bo}(h:Bb n m N b):cS bp (bO n m b) [] (.fr .non) (bO n m (wu N m b)):=by
 have hN:=h.hN;have hm:=h.hm;have c:=h.sh.ac;have J:=h.sh.g;have R:=h.sh.row (QY m);have G:dA (rW ["Board"] 0 "across" (ze (S9 0))) (sZ n m b.s (gI b.g) b.ac b.dn .un)=some (.nx,sZ n m b.s (gI b.g) (b.ac++[-1]) b.dn .un):=by refine eY (r:=.fr .non) ?_;show (if (b.ac.map A.int).length<=100000 then some (RI (Rr.fr .non),[Sl.pv (LO.nob "Board" _ [("across",b.ac.map A.int++[.int (-1)]),("down",b.dn.map A.int)]),_]) else none)=_;rw[Zx (by simp;lia)];show _=some (_,sZ n m b.s (gI b.g) (b.ac++[-1]) b.dn .un);unfold sZ oB;rw[Rz];rfl
 have V:aG 1 (mix (aQ (aN ["Board"] 0 "grid") (aL (aq ["Board"] "grid") (ab 0))) (aL aU (aA 1))) (sZ n m b.s (gI b.g) (b.ac++[-1]) b.dn .un)=some (.nx,sZ n m b.s (gI b.g) (b.ac++[-1]) b.dn (.fr (lI (b.g.getD m [])))):=aT (ag (bQ rfl) rfl (bh (.inl rfl) (vJ J))) rfl rfl rfl rfl;have cut:∀{i:Nat}{row:List Int}{Z:List Sl}{m:Mi Rr}{v:Int},row.length=N+1->ab i Z=some (.ok (.fr (lI row)),Z)->m Z=some (.ok (.fr (.int v)),Z)->aC a6 (aC a6 (cF (ab i) aH (bF (aL aU (aA 1)))) (du (cR m))) (cF (ab i) (bF (aL aU (aA 1))) aH) Z=some (.ok (.nw (.lst ((row.take N++[v]++row.drop N).map A.int))),Z):=λ{i row Z m v} hl q hm=>by have:=ag (ag (iC q (n:=N) (by simpa using hl)) (hJ (show cR m Z=some (.ok [.fr (.int v)],Z) from ae hm rfl) rfl) (kc (ys:=[.int v]) (by simp;lia) _)) (Du q (n:=N) (by simpa using hl)) (kc (by simp;lia) _);rw[<-S6,<-WT,show [A.int v]=[v].map A.int from rfl,<-Rz,<-Rz] at this;exact this
 have Y:=bH (e:=aC a6 (aC a6 (cF (ab 2) aH (bF (aL aU (aA 1)))) (du (cR (aL aU (aA 1))))) (cF (ab 2) (bF (aL aU (aA 1))) aH)) (ts:=b.g.take m) (k:=lI) (S:=sZ n m b.s (gI b.g) (b.ac++[-1]) b.dn (.fr (lI (b.g.getD m [])))) (λr=>lI (r.take N++[-1]++r.drop N)) rfl (by simp;lia) λrow cj=>⟨_,cut (i:=2) (m:=aL aU (aA 1)) (v:=-1) (h.sh.r row (Sz cj)) rfl rfl,rfl⟩
 have o:iY ["Board"] 0 "grid" (aP 1 (cH (cF (aQ (aN ["Board"] 0 "grid") (aL (aq ["Board"] "grid") (ab 0))) aH (bF (aL aU (aA 1))))) (aM 2) aO (aC a6 (aC a6 (cF (ab 2) aH (bF (aL aU (aA 1)))) (du (cR (aL aU (aA 1))))) (cF (ab 2) (bF (aL aU (aA 1))) aH))) (sZ n m b.s (gI b.g) (b.ac++[-1]) b.dn (.fr (lI (b.g.getD m []))))=some (.nx,[.pv (.nob "Board" [("long",.int n),("many",.int m),("scale",.int b.s)] [("across",(b.ac++[-1]).map A.int),("down",b.dn.map A.int),("grid",(b.g.take m).map λr=>lI (r.take N++[-1]++r.drop N))]),.fr (lI (b.g.getD m []))]):=by refine sk (bJ (qO (iC (bQ rfl) (n:=m) (by simpa using J)) (as:=(b.g.take m).map lI) ?_) Y) rfl;rw[<-S6];rfl
 suffices ∃s o',cS bp (bO n m b) [] s o'/\(s=.fr .non/\o'=bO n m (wu N m b)) by obtain⟨s,o',v,rfl,rfl⟩:=this;exact v
 refine cS.of (Wp.df (Wp.st G (Wp.st V (Wp.st o (Wp.en (f:=.nx) (U:=[.pv (.nob "Board" [("long",.int n),("many",.int m),("scale",.int b.s),("grid",.lst ((b.g.take m).map (λr=>lI (r.take N++[-1]++r.drop N))++[lI ((b.g.getD m []).take N++[0]++(b.g.getD m []).drop N)]))] [("across",(b.ac++[-1]).map A.int),("down",b.dn.map A.int)]),.fr (lI (b.g.getD m []))]) (eY (r:=.fr .non) ?_) ⟨_,_,_,rfl,rfl,rfl,?_⟩)))))
 .have lv:iS 0 (aC a6 (aC a6 (cF (ab 1) aH (bF (aL aU (aA 1)))) (du (cR (aA 0)))) (cF (ab 1) (bF (aL aU (aA 1))) aH)) [.pv (.nob "Board" [("long",.int n),("many",.int m),("scale",.int b.s)] [("across",(b.ac++[-1]).map A.int),("down",b.dn.map A.int),("grid",(b.g.take m).map λr=>lI (r.take N++[-1]++r.drop N))]),.fr (lI (b.g.getD m []))]=some (.nw (.lst (((b.g.getD m []).take N++[0]++(b.g.getD m []).drop N).map A.int))):=by exact rT rfl (cut (i:=1) (m:=aA 0) (v:=0) R rfl rfl) rfl (lU _)
  refine uX rfl lv rfl ?_;show (if ((b.g.take m).map λr=>lI (r.take N++[-1]++r.drop N)).length<=100000 then _ else none)=_;rw[Zx (by simp;lia)];rfl
 .rw[v9];unfold wu;dsimp only;have:gI ((b.g.take m).map (λr=>r.take N++[-1]++r.drop N)++[(b.g.getD m []).take N++[0]++(b.g.getD m []).drop N])=.lst ((b.g.take m).map (λr=>lI (r.take N++[-1]++r.drop N))++[lI ((b.g.getD m []).take N++[0]++(b.g.getD m []).drop N)]):=by unfold gI;rw[Rz,Rx];rfl
  rw[this]
variable{ns:List Int}
theorem xb(h:0<ns.length):rX ns∈ns/\∀j,j<ns.length->rX ns<=ns.getD j 0:=by obtain⟨h1,h2⟩:=argBest_lt (λi=>ns.getD i 0) (ns.length-1);exact⟨cB Q1,λj a=>h2 j Q1⟩
theorem wR(h:0<ns.length):tG ns∈ns/\∀j,j<ns.length->ns.getD j 0<=tG ns:=by obtain⟨h1,h2⟩:=argBest_gt (λi=>ns.getD i 0) (ns.length-1);exact⟨cB Q1,λj a=>h2 j Q1⟩
theorem AV{t:Mi Bool}{ts:List T}(H J g:T->A)(c:T->Bool)(hi:S.length=i)(hl:ts.length<=100000)
  (h:∀x∈ts,t (S++[.fr (H x),.fr (J x)])=some (.ok (c x),S++[.fr (H x),.fr (J x)])/\∃r,e (S++[.fr (H x),.fr (J x)])=some (.ok r,S++[.fr (H x),.fr (J x)])/\bX r (S++[.fr (H x),.fr (J x)])=some (g x,S++[.fr (H x),.fr (J x)])):
  ig 2 (G2 i (i+1)) t e (ts.map λt=>.tup [H t,J t]) S=some (.ok (.nw (.lst ((ts.filter c).map g))),S):=by
 obtain⟨ys,O,h1,x,y,rfl,_,_,rfl⟩:=eZ (G:=G2 i (i+1)) (as:=ts.map λt=>.tup [H t,J t])
  (λj acc Z=>X2 λ(x y:Sl)=>N4 (Z=S++[x,y]) (np x=true) (np y=true) (acc=((ts.take j).filter c).map g)) ⟨.un,.un,rfl,rfl,rfl,rfl⟩ (by
   rintro j q acc Z l ⟨x,y,rfl,hx,hy,rfl⟩;rw[Rm] at l;cases a:ts[j]? with
   |none=>rw[a] at l;cases l
   |some p=>
    rw[a] at l;cases l;obtain⟨s,r,D,d⟩:=h p (RF a);refine⟨_,nA hi hx hy,?_⟩;rw[Td,a,V6];cases F:c p with
    |true=>rw[F] at s;exact .inl ⟨_,r,_,g p,_,s,D,d,_,_,rfl,rfl,rfl,by simp[F]⟩
    | false=>rw[F] at s;exact .inr ⟨_,s,_,_,rfl,rfl,rfl,by simp[F]⟩)
 unfold ig;rw[Zx (by rw[QU];exact hl)];have e1:S++QX 2 Sl.un=S++[.un,.un]:=rfl;rw[e1,h1];simp
theorem sT:∀(xs:List Int)(i:Nat),iQ i (xs.map A.int)=(Rb xs.length).map λj=>A.tup [.int ((i+j:Nat):Int),.int (xs.getD j 0)]
 |[],_=>rfl
 |x::xs,i=>by
  rw[RC,iQ,sT xs (i+1),Q4,Ue,RC,Rx]
  congr 1
  refine RL λj _=>?_;show A.tup [.int ((i+1+j:Nat):Int),.int (xs.getD j 0)]=A.tup [.int ((i+(j+1):Nat):Int),.int ((x::xs).getD (j+1) 0)];rw[show i+1+j=i+(j+1) by lia];rfl
theorem Hk{ls:List Int}(h:0<ls.length)(hl:ls.length<=100):∃a:Nat,Val dy [lI ls] (.int a)/\a<ls.length/\(∀i,i<ls.length->ls.getD a 0<=ls.getD i 0)/\∀i,i<ls.length->a<i->ls.getD a 0<ls.getD i 0:=by
 obtain⟨K,L⟩:=xb h;generalize n:rX ls=w at K L;have Z:=AV (i:=2) (e:=ab 2) (t:=aj (aC iZ (ab 3) (ab 1))) (ts:=Rb ls.length) (S:=[.fr (lI ls),.fr (.int w)]) (λj=>.int j) (λj=>.int (ls.getD j 0)) (λj=>.int j) (λj=>decide (ls.getD j 0=w)) rfl (by simp;lia) λj O=>⟨aB (ag rfl rfl (jz rfl _)),_,rfl,rfl⟩
 have b:∀i,i∈(Rb ls.length).filter (λj=>decide (ls.getD j 0=w))↔i<ls.length/\ls.getD i 0=w:=λi=>by rw[Ui,RJ,decide_eq_true_eq]
 have ex:∃i,i<ls.length/\ls.getD i 0=w:=by obtain⟨i,hi,e⟩:=Sj K;exact⟨i,hi,by simp[Rp,hi,e]⟩
 generalize c:(Rb ls.length).filter (λj=>decide (ls.getD j 0=w))=F at Z b;have ne:0<(F.map Tt).length:=by obtain⟨i,hi⟩:=ex;rw[QU];exact List.length_pos_of_mem ((b i).mpr hi)
 obtain⟨R,s⟩:=wR ne;obtain⟨a,f,E⟩:=Rq.mp R;have x:=(b a).mp f;have k:∀i,i<ls.length->ls.getD i 0=w->i<=a:=λi h1 h2=>by obtain⟨p,hp,e⟩:=Sj ((b i).mpr ⟨h1,h2⟩);have:=s p (by rw[QU];exact hp);rw[Sx.getD_map (d:=0) hp,<-E] at this;rw[show F.getD p 0=i by simp[Rp,hp,e]] at this;have:(i:Int)<=(a:Int):=this;lia
 refine⟨a,Val.of (Wp.df (Wp.st (aT (eP rfl (nV (r:=.fr (.int w)) rfl ?_)) rfl rfl rfl rfl) (Wp.en (aK (eP (bJ (as:=(Rb ls.length).map λ(j:Nat)=>A.tup [.int j,.int (ls.getD j 0)]) ?_ Z) (nV (r:=.fr (.int a)) rfl ?_)) rfl) rfl))),x.1,λi hi=>by rw[x.2];exact L i hi,λi hi v=>?_⟩
 .unfold rZ;dsimp only;rw[fX];dsimp only;rw[Zy (by intro z;rw[z] at h;exact absurd h Z2),n]
 .show some (RI (iQ 0 (ls.map A.int)),_)=_;rw[sT]
  congr 3
  refine RL λj _=>?_;rw[Uo]
 .have e:F.map (λ(j:Nat)=>A.int (j:Int))=(F.map Tt).map A.int:=by rw[Rx];rfl
  rw[e];unfold sd;dsimp only;rw[fX];dsimp only;rw[Zy (by intro z;rw[z] at ne;exact absurd ne Z2),<-E];rfl
 .rw[x.2];have:=L i hi;by_cases e:ls.getD i 0=w
  .have:=k i hi e;lia
  .lia
noncomputable def bZ(c:List Int)(R:List (List Int))(L:List Int):Sx.Pb:=⟨c.length,R.length,λj=>c.getD j 0,λi j=>(R.getD i []).getD j 0,λi=>L.getD i 0⟩
theorem nF{α:Type}{f:Int->α}:∀xs:List Int,(Rb xs.length).map (λj=>f (xs.getD j 0))=xs.map f
 |[]=>rfl
 |x::xs=>by rw[Q4,Ue,RC,Rx,RC,<-nF xs];rfl
theorem Ll{c:List Int}(f:nL c R L):(Sx.fM (bZ c R L)).g.map lI=((R.zip L).map λp=>lI (p.1++[p.2]))++[lI (c.map (λx=>-x)++[0])]:=by
 unfold Sx.fM bZ;dsimp only;rw[Rz,nF (f:=λx=>-x)]
 congr 1
 refine Wu (by simp[f.l]) λi h1 h2=>?_;have hi:i<R.length:=by simpa using h1
 have h:i<L.length:=by rw[f.l];exact hi
 simp only[Wv,UJ,List.getElem_zip];have e1:R.getD i []=R[i]:=by simp[Rp,hi]
 have e2:L.getD i 0=L[i]:=by simp[Rp,h]
 have N:=f.r R[i] (List.getElem_mem hi);rw[e1,e2,<-N,nF (f:=λx=>x),W4]
theorem OR{cn:Str}{as:List A}{Y:List Sl}(h:f (.pv (.obj cn [])::as.map Sl.fr)=some (.rt (.fr .non),.pv o::Y))(Z:List Sl):wt cn f [] (as.map Rr.fr) Z=some (.ok (.nw o),Z):=by unfold wt;rw[Ta,RO,jJ];simp only[mE,h];have:=jX Z as (az (as.map Sl.fr).length Y) Z (by rw[cD,QU]);rw[this]
theorem Ke{m:Mi Rr}{n:Nat}(h:m Z=some (.ok (.fr (.int n)),Z))(hn:n<=100):lY m Z=some (.ok (.nw (.lst (bI 0 n))),Z):=by refine bk h ?_;show (if Gh 0 (n:Int)=true then some (RI (Rr.nw (.lst (bI 0 ((n:Int)-0).toNat))),Z) else none)=_;rw[Zx (show Gh 0 (n:Int)=true from ZA Q1),show ((n:Int)-0).toNat=n by lia]
theorem HM(h:ma Z=some (.ok (.fr (.int i)),Z))(k:mb Z=some (.ok (.fr (.int j)),Z))(hi:i<=100)(a:j<=100):mO ma mb Z=some (.ok (.nw (.lst (bI i (j-i)))),Z):=by refine bk h (bk k ?_);show (if Gh (i:Int) (j:Int)=true then some (RI (Rr.nw (.lst (bI i ((j:Int)-i).toNat))),Z) else none)=_;rw[Zx (show Gh (i:Int) (j:Int)=true from ZA Q1),show ((j:Int)-i).toNat=j-i by lia]
theorem zZ{c:List Int}(f:nL c R L)(Z:List Sl):wt "Board" dH [] [.fr (lI c),.fr (gI R),.fr (lI L)] Z=some (.ok (.nw (bO c.length R.length (Sx.fM (bZ c R L)))),Z):=by
 have hn:=f.n;have hm:=f.m
 suffices ∃Y,dH (.pv (.obj "Board" [])::[lI c,gI R,lI L].map Sl.fr)=some (.rt (.fr .non),.pv (bO c.length R.length (Sx.fM (bZ c R L)))::Y) by obtain⟨Y,e⟩:=this;exact OR (as:=[lI c,gI R,lI L]) e Z
 have go:Wp dH (.pv (.obj "Board" [])::[lI c,gI R,lI L].map Sl.fr) λg Z=>g=.rt (.fr .non)/\∃Y,Z=.pv (bO c.length R.length (Sx.fM (bZ c R L)))::Y:=by
  have G:dG ["Board"] 0 "long" (cx cC (ab 1)) [.pv (.obj "Board" []),.fr (lI c),.fr (gI R),.fr (lI L)]=some (.nx,[.pv (.obj "Board" [("long",.int c.length)]),.fr (lI c),.fr (gI R),.fr (lI L)]):=by refine sk (x:=.fr (.int c.length)) (U:=[.pv (.obj "Board" []),.fr (lI c),.fr (gI R),.fr (lI L)]) ?_ rfl;show some (RI (Rr.fr (.int (c.map A.int).length)),_)=_;rw[QU]
  have J:dG ["Board"] 0 "many" (cx cC (ab 2)) [.pv (.obj "Board" [("long",.int c.length)]),.fr (lI c),.fr (gI R),.fr (lI L)]=some (.nx,[.pv (.obj "Board" [("long",.int c.length),("many",.int R.length)]),.fr (lI c),.fr (gI R),.fr (lI L)]):=by refine sk (x:=.fr (.int R.length)) (U:=[.pv (.obj "Board" [("long",.int c.length)]),.fr (lI c),.fr (gI R),.fr (lI L)]) ?_ rfl;show some (RI (Rr.fr (.int (R.map lI).length)),_)=_;rw[QU]
  have w:iY ["Board"] 0 "across" (lY (aQ (aN ["Board"] 0 "long") (aL (aq ["Board"] "long") (ab 0)))) [.pv (.obj "Board" [("long",.int c.length),("many",.int R.length),("scale",.int 1)]),.fr (lI c),.fr (gI R),.fr (lI L)]=some (.nx,[.pv (.nob "Board" [("long",.int c.length),("many",.int R.length),("scale",.int 1)] [("across",bI 0 c.length)]),.fr (lI c),.fr (gI R),.fr (lI L)]):=sk (Ke (lJ rfl rfl) Q1) rfl;have b:iY ["Board"] 0 "down" (mO (aQ (aN ["Board"] 0 "long") (aL (aq ["Board"] "long") (ab 0))) (aC a6 (aQ (aN ["Board"] 0 "long") (aL (aq ["Board"] "long") (ab 0))) (aQ (aN ["Board"] 0 "many") (aL (aq ["Board"] "many") (ab 0))))) [.pv (.nob "Board" [("long",.int c.length),("many",.int R.length),("scale",.int 1)] [("across",bI 0 c.length)]),.fr (lI c),.fr (gI R),.fr (lI L)]=some (.nx,[.pv (.nob "Board" [("long",.int c.length),("many",.int R.length),("scale",.int 1)] [("across",bI 0 c.length),("down",bI c.length R.length)]),.fr (lI c),.fr (gI R),.fr (lI L)]):=by have:=HM (Z:=[.pv (.nob "Board" [("long",.int c.length),("many",.int R.length),("scale",.int 1)] [("across",bI 0 c.length)]),.fr (lI c),.fr (gI R),.fr (lI L)]) (i:=c.length) (j:=c.length+R.length) (ma:=aQ (aN ["Board"] 0 "long") (aL (aq ["Board"] "long") (ab 0))) (mb:=aC a6 (aQ (aN ["Board"] 0 "long") (aL (aq ["Board"] "long") (ab 0))) (aQ (aN ["Board"] 0 "many") (aL (aq ["Board"] "many") (ab 0)))) (bQ rfl) (ag (bQ rfl) (bQ rfl) rfl) Q1 Q1;rw[show c.length+R.length-c.length=R.length by lia] at this;exact sk this rfl
  have H:=oE (i:=4) (e:=aC a6 (cx dD (ab 4)) (du (cR (ab 5)))) (ts:=R.zip L) (S:=[.pv (.nob "Board" [("long",.int c.length),("many",.int R.length),("scale",.int 1)] [("across",bI 0 c.length),("down",bI c.length R.length)]),.fr (lI c),.fr (gI R),.fr (lI L)]) (λp=>lI p.1) (λp=>.int p.2) (λp=>lI (p.1++[p.2])) rfl (by simp;lia) λp hp=>by have K:=f.r p.1 (S7 hp).1;refine⟨_,ag (eP rfl (nV (r:=.nw (.lst (p.1.map A.int))) rfl rfl)) (hJ (rs:=[.fr (.int p.2)]) rfl rfl) (kc (by simp;lia) _),?_⟩;show some (A.lst (p.1.map A.int++[.int p.2]),_)=_;unfold lI;rw[Rz];rfl
  have q:iY ["Board"] 0 "grid" (aP 2 (jT (ab 2) (ab 3)) (G2 4 5) aO (aC a6 (cx dD (ab 4)) (du (cR (ab 5))))) [.pv (.nob "Board" [("long",.int c.length),("many",.int R.length),("scale",.int 1)] [("across",bI 0 c.length),("down",bI c.length R.length)]),.fr (lI c),.fr (gI R),.fr (lI L)]=some (.nx,[.pv (.nob "Board" [("long",.int c.length),("many",.int R.length),("scale",.int 1)] [("across",bI 0 c.length),("down",bI c.length R.length),("grid",(R.zip L).map λp=>lI (p.1++[p.2]))]),.fr (lI c),.fr (gI R),.fr (lI L)]):=by refine sk (bJ (as:=(R.zip L).map λp=>A.tup [lI p.1,.int p.2]) ?_ H) rfl;rw[<-eM];rfl
  refine Wp.df (Wp.st G (Wp.st J (Wp.st rfl (Wp.st w (Wp.st b (Wp.st q (Wp.en (f:=.nx) (U:=[.pv (.nob "Board" [("long",.int c.length),("many",.int R.length),("scale",.int 1),("grid",.lst (((R.zip L).map λp=>lI (p.1++[p.2]))++[lI (c.map (λx=>-x)++[0])]))] [("across",bI 0 c.length),("down",bI c.length R.length)]),.fr (lI c),.fr (gI R),.fr (lI L)]) (eY (r:=.fr .non) ?_) ⟨rfl,[.fr (lI c),.fr (gI R),.fr (lI L)],?_⟩)))))))
  .have F:=bH (e:=aL aU (ab 4)) (ts:=c) (k:=A.int) (S:=[.fr (.obj "Board" [("long",.int c.length),("many",.int R.length),("scale",.int 1),("across",.lst (bI 0 c.length)),("down",.lst (bI c.length R.length)),("grid",.lst ((R.zip L).map λp=>lI (p.1++[p.2])))]),.fr (lI c),.fr (gI R),.fr (lI L)]) (λx=>.int (-x)) rfl Q1 λx _=>⟨_,rfl,rfl⟩
   rw[show (c.map λx=>A.int (-x))=(c.map λx=>-x).map A.int by rw[Rx];rfl] at F;have I:(c.map (λx=>-x)++[0]).map A.int=(c.map λx=>-x).map A.int++[A.int 0]:=by rw[Rz];rfl
   have lv:iS 0 (aC a6 (aP 1 (cH (ab 1)) (aM 4) aO (aL aU (ab 4))) (du (cR (aA 0)))) [.pv (.nob "Board" [("long",.int c.length),("many",.int R.length),("scale",.int 1)] [("across",bI 0 c.length),("down",bI c.length R.length),("grid",(R.zip L).map λp=>lI (p.1++[p.2]))]),.fr (lI c),.fr (gI R),.fr (lI L)]=some (.nw (.lst ((c.map (λx=>-x)++[0]).map A.int))):=by have h:=lU (c.map (λx=>-x)++[0]);rw[I] at h ⊢;exact rT rfl (ag (bJ rfl F) (hJ (rs:=[.fr (.int 0)]) rfl rfl) (kc (by simp;lia) _)) rfl h
   refine uX rfl lv rfl ?_;show (if ((R.zip L).map λp=>lI (p.1++[p.2])).length<=100000 then _ else none)=_;rw[Zx (by simp;lia)];rfl
  .rw[v9];unfold gI;rw[Ll f];have E:bI 0 c.length=(Sx.fM (bZ c R L)).ac.map A.int:=by show _=((Rb c.length).map Tt).map A.int;unfold bI;rw[Rx];exact RL λi _=>by show A.int (0+(i:Int))=A.int (i:Int);rw[Up]
   have l:bI c.length R.length=(Sx.fM (bZ c R L)).dn.map A.int:=by show _=((Rb R.length).map λi=>((c.length+i:Nat):Int)).map A.int;unfold bI;rw[Rx];rfl
   rw[E,l];rfl
 obtain⟨g,Z,e,rfl,Y,rfl⟩:=go;exact⟨Y,e⟩
theorem jm{t:Mi Bool}{b:Ms}(P:Nat->List Sl->Prop)(Q:Fl->List Sl->Prop)(hs:∀k Z,P k Z->(∃U,t Z=some (.ok false,U)/\Q .nx U)\/∃U,t Z=some (.ok true,U)/\Wp b U λf F=>(f=.nx/\∃H,H<k/\P H F)\/X2 λ(s:Sl)(_:Unit)=>f=.rt s/\Q (.rt s) F):∀n k Z,P k Z->k<n->∃f O,dB t b n Z=some (f,O)/\Q f O
 |0,_,_,_,h=>absurd h (Ur _)
 |n+1,k,Z,p,h=>by
  rcases hs k Z p with ⟨U,e,q⟩|⟨U,e,f,F,e2,z⟩
  .exact⟨.nx,U,by unfold dB;rw[e],q⟩
  .rcases z with ⟨rfl,H,hk,x⟩|⟨s,_,rfl,q⟩
   .obtain⟨f,O,N,q⟩:=jm P Q hs n H F x Q1;exact⟨f,O,by unfold dB;rw[e];dsimp only;rw[e2];exact N,q⟩
   .exact⟨.rt s,F,by unfold dB;rw[e];dsimp only;rw[e2],q⟩
theorem so{s:Sl}(A:rs.all Cj=true)(h:cS f o (rs.map vA) s o')(R:qd s=some r)(hl:aE Z i=some o):eS f [] (.rf i::rs) Z=some (.ok r,setAt Z i o'):=by
 rw[<-cK h R hl];have n:((rs.map vA).map Rr.fr).all Cj=true:=by rw[US];simp[Cj]
 have e:∀Z,cy (.rf i::rs) Z=cy (.rf i::(rs.map vA).map Rr.fr) Z:=λZ=>by
  unfold cy;cases take1 (.rf i) Z with
  |none=>rfl
  |some p=>obtain⟨a,U⟩:=p;dsimp only;rw[lj _ _ A,lj _ _ n];rw[show ((rs.map vA).map Rr.fr).map vA=rs.map vA by rw[Rx];exact W4 _]
 have e2:∀S ss Z,putL S (.rf i::rs) ss Z=putL S (.rf i::(rs.map vA).map Rr.fr) ss Z:=λS ss Z=>by
  cases ss with
  |nil=>rfl
  |cons s ss=>
   unfold putL;have key:∀(rs ts:List Rr)(ss:List Sl),rs.length=ts.length->rs.all Cj=true->ts.all Cj=true->putL S rs ss Z=putL S ts ss Z:=by
    intro rs;induction rs with
    |nil=>intro ts ss hl _ _;cases ts with
     |nil=>rfl
     |cons t ts=>cases hl
    |cons r rs m=>intro ts ss hl h1 h2;cases ts with
     |nil=>cases hl
     |cons t ts=>
      rw[Rh,QM] at h1 h2;cases ss with
      |nil=>rfl
      |cons s ss=>
       unfold putL;rw[m ts ss (Vf hl) h1.2 h2.2];cases putL S ts ss Z with
       |none=>rfl
       |some U=>
        cases r with
        |rf i=>cases h1.1
        |fr a=>cases t with
         |rf i=>cases h2.1
         |fr a=>rfl
         |nw a=>rfl
        |nw a=>cases t with
         |rf i=>cases h2.1
         |fr a=>rfl
         |nw a=>rfl
   rw[key rs ((rs.map vA).map Rr.fr) ss Z4 A n]
 unfold eS;simp only[Ta,RO,e,e2]
theorem iA:∀(n:Nat){Z:List Sl},Z.all np=true->az n Z=QX n .un
 |0,_,_=>rfl
 |n+1,[],_=>by rw[az,iA n (Z:=[]) rfl];rfl
 |n+1,s::Z,h=>by
  rw[Rh,QM] at h;cases s with
  |pv o=>cases h.1
  |un=>rw[az,iA n h.2];rfl;intro o z;cases z
  |fr a=>rw[az,iA n h.2];rfl;intro o z;cases z
  |lv a=>rw[az,iA n h.2];rfl;intro o z;cases z
  |cf a=>rw[az,iA n h.2];rfl;intro o z;cases z
theorem Cq(n:Nat):(QX n Sl.un).all yd=true:=by rw[Sd];intro x hx;rw[S5 hx];rfl
theorem mK{c:Str}{fs:List (Str×A)}{ls:List (Str×List A)}{as:List A}{a:A}(h:fN f ((LO.nob c fs ls).a::as) a)(hp:pl a=true):cS (bE 0 f) (.nob c fs ls) as (.fr a) (.nob c fs ls):=by
 obtain⟨Z,h1,h2⟩:=h;refine⟨(QX as.length .un),?_⟩;show (match f (.fr (LO.nob c fs ls).a::as.map Sl.fr) with
  |some (.rt s,U)=>if Ag (az (as.map Sl.fr).length.succ U)[0]?&&(s::az (as.map Sl.fr).length.succ U).all yd then some (Fl.rt s,(az (as.map Sl.fr).length.succ U).set 0 (.pv (.nob c fs ls))) else none
  |some (.ex x,U)=>_
  | _=>none)=_
 rw[show f (.fr (LO.nob c fs ls).a::as.map Sl.fr)=some (.rt (.fr a),Z) from h1];dsimp only;rw[iA _ h2,QU];have e:(Ag (QX as.length.succ Sl.un)[0]?&&(Sl.fr a::QX as.length.succ Sl.un).all yd)=true:=by rw[QM,Rh,Cq];exact⟨rfl,by rw[S4];exact hp⟩
 rw[Zx e];rfl
theorem Bc{c:Str}{fs:List (Str×A)}{ls:List (Str×List A)}{as:List A}{s:Sl}(h:cS f (.nob c fs ls) as s o):cS f (.nob c fs ls) as s o:=h
theorem Bg{I:List A}{ms:Mi (List Rr)}(h:ms Z=some (.ok rs,U))(c:eS f I rs U=none):aY f I ms Z=none:=bk h c
theorem Ab(n:Nat)(s:Int)(v:Nat->Int):pl (nS n s v)=true:=by
 show Ep ((Rb n).map λj=>nm (ck (v j) s))=true;generalize Rb n=l;induction l with
 |nil=>rfl
 |cons x l m=>show (pl (nm (ck (v x) s))&&Ep _)=true;rw[m];rfl
theorem HV:∀n,n<=9->Sx.Ci (n+2)*(10^9)^(n+2)<2^400:=by decide +kernel
section
variable{c:List Int}{R:List (List Int)}{L:List Int}(fF:nL c R L){N:Nat}{b:Sx.Bo}
include fF
theorem Nd:(bZ c R L).Le (10^9):=⟨by decide,λj a=>fF.bc _ (cB a),λi j hi a=>by have m:=Sx.getD_mem (xs:=R) (i:=i) hi;exact fF.br _ m _ (cB (by rw[fF.r _ m];exact a)),λi hi=>fF.bl _ (cB (by rw[fF.l];exact hi))⟩
theorem rJ(h:Sx.Ok (bZ c R L) N b):Gd (bZ c R L) N b:=by
 have hN:N=c.length\/N=c.length+1:=h.hN;have hn:=fF.n;have hm:=fF.m;have k:=HV c.length hn;refine⟨h,h.sh,by lia,hn,hm,λr X x hx=>?_,RN (h.OP (Nd fF)) k,h.pos⟩;obtain⟨i,hi,rfl⟩:=Sj X;obtain⟨l,hl,rfl⟩:=Sj hx;have Z:i<=R.length:=by have:=h.sh.g;show i<=(bZ c R L).m;lia
 have s:l<=N:=by have:=h.sh.r _ X;lia
 have e:b.Gq i l=b.g[i][l]:=by simp[Sx.Bo.Gq,Rp,hi,hl]
 have:=h.OQ (Nd fF) (i:=i) (l:=l) Z s;rw[e] at this;exact RN this k
end
theorem BF{P:Sx.Pb}{b:Sx.Bo}(h:Gd P N b)(hc:c<=N)(u:Int):L2.Bd 900 (Sx.vl P b c u):=by
 have hm:=h.bb.hm;have z:L2.Bd 400 (0:Int):=Tw Z2;have h1:L2.Bd 410 (Sx.su P.m λi=>if b.Bq i=u then Sx.qs P.n c*b.Gq i c else 0):=lK (b:=400) (λi hi=>by
  by_cases e:b.Bq i=u
  .rw[Zx e];have:=h.bb.gb (i:=i) (l:=c) Q1 hc;unfold Sx.qs;split
   .rw[Sg];exact this.neg
   .rw[SD];exact this
  .rw[Zy e];exact z) Q1
 unfold Sx.vl;refine(L2.Bd.add h1 (?_:L2.Bd 400 _)).mono (show max 410 400+1<=900 by decide);split
 .exact h.bb.bs
 .exact z
theorem Fg{P:Sx.Pb}{b:Sx.Bo}(h:Gd P N b){r:Nat}(R:r<=P.m)(u:Int):L2.Bd 900 (Sx.Fc N b r u):=by
 have hN:=h.bb.hN;refine L2.Bd.mono (lK (b:=400) (λl hl=>?_) Q1) Z2;by_cases e:b.Aq l=u
 .rw[Zx e];exact h.bb.gb R Q1
 .rw[Zy e];exact Tw Z2
theorem m7:∀k,(Sx.allB k).length=2^k
 |0=>rfl
 |k+1=>by show ((Sx.allB k).map _++(Sx.allB k).map _).length=_;rw[Rc,QU,QU,m7 k,Xc];lia
theorem GB{P:Sx.Pb}(hn:P.n<=9)(hm:P.m<=9)(K:Sx.Bo->Prop)(ob:Sx.Bo->Nat->Int)(b:Sx.Bo):Sx.ms P K ob b<vg:=by refine pF ?_;unfold Sx.ms;refine RN VO ?_;rw[m7];exact Nat.pow_lt_pow_right Z2 Q1
abbrev IK(n m:Nat)(b:Sx.Bo)(R L e:Sl):List Sl:=[.pv (bO n m b),R,L,e]
abbrev zW:Mi Rr:=aQ (aN ["Board"] 0 "grid") (aL (aq ["Board"] "grid") (ab 0))
abbrev PV:Mi Rr:=aQ (aN ["Board"] 0 "scale") (aL (aq ["Board"] "scale") (ab 0))
abbrev NY:Mi Rr:=aQ (a8 bC (cR (aR "Board" "point" 0))) (aQ (aY (bE 0 bC) [] (cR (aR "Board" "point" 0))) (a8 bC (cR (bK "Board" "point" (ab 0)))))
abbrev Me(e:Mi Rr):Mi Rr:=aQ (a8 aW (cu (aR "Board" "prices" 0) e)) (aQ (aY (bE 0 aW) [] (cu (aR "Board" "prices" 0) e)) (a8 aW (cu (bK "Board" "prices" (ab 0)) e)))
abbrev Pq:Mi Rr:=aQ (a8 cN (cu (aR "Board" "way" 0) (ah 1))) (aQ (aY (bE 0 cN) [] (cu (aR "Board" "way" 0) (ah 1))) (a8 cN (cu (bK "Board" "way" (ab 0)) (ah 1))))
section
variable{P:Sx.Pb}{N:Nat}{b:Sx.Bo}{xs:List Sl}
theorem GL(n m:Nat):zW (.pv (bO n m b)::xs)=some (.ok (.fr (gI b.g)),.pv (bO n m b)::xs):=bQ rfl
theorem qq{n m:Nat}(h:Bb n m N b):mix zW (aL aU (aA 1)) (.pv (bO n m b)::xs)=some (.ok (.fr (lI (b.g.getD m []))),.pv (bO n m b)::xs):=ag (GL n m) rfl (bh (.inl rfl) (vJ h.sh.g))
theorem Ob(h:Gd P P.n b):NY (.pv (bO P.n P.m b)::xs)=some (.ok (.fr (nS P.n b.s λj=>Sx.vl P b P.n j)),.pv (bO P.n P.m b)::xs):=
 lJ rfl (bQ (au (rs:=[.rf 0]) rfl (cK (as:=[]) (mK (as:=[]) (D3 h) (Ab _ _ _)) rfl rfl)))
theorem Ot(h:Gd P P.n b)(hc:c<P.n){ys:List Sl}:Pq (.pv (bO P.n P.m b)::.fr (.int c)::ys)=some (.ok (.fr (nS P.n b.s λj=>Sx.vl P b c j)),.pv (bO P.n P.m b)::.fr (.int c)::ys):=
 lJ rfl (bQ (au (rs:=[.rf 0,.fr (.int c)]) rfl (cK (as:=[.int c]) (mK (as:=[.int c]) (Mw h hc) (Ab _ _ _)) rfl rfl)))
theorem L5(h:Gd P N b)(C:N<=ts.length)(he:e (.pv (bO P.n P.m b)::xs)=some (.ok r,.pv (bO P.n P.m b)::xs))(R:Cj r=true)(A:vA r=lI ts):Me e (.pv (bO P.n P.m b)::xs)=some (.ok (.fr (nS P.m b.s λk=>Sx.su N λl=>if b.Aq l=((P.n+k:Nat):Int) then ts.getD l 0 else 0)),.pv (bO P.n P.m b)::xs):=by
 have c:cS (bE 0 aW) (bO P.n P.m b) [lI ts] (.fr (nS P.m b.s λk=>Sx.su N λl=>if b.Aq l=((P.n+k:Nat):Int) then ts.getD l 0 else 0)) (bO P.n P.m b):=mK (as:=[lI ts]) (KR h C) (Ab _ _ _);have hc:=so (i:=0) (rs:=[r]) (Z:=.pv (bO P.n P.m b)::xs) (by rw[Rh,R];rfl) (show cS _ _ ([r].map vA) _ _ by rw[RC,A];exact c) rfl rfl;refine lJ (Bg (rs:=[.rf 0,r]) (ae rfl (ae he rfl)) ?_) (bQ (au (rs:=[.rf 0,r]) (ae rfl (ae he rfl)) hc));cases r with
 |rf i=>cases R
 |fr a=>rfl
 |nw o=>rfl
end
theorem vE{n m:Nat}{b:Sx.Bo}(h:Bb n m N b)(J:gs.length<=N)(bg:∀x∈gs,L2.Bd 400 x){xs:List Sl}(he:e (.pv (bO n m b)::xs)=some (.ok r,.pv (bO n m b)::xs))(R:Cj r=true)(A:vA r=lI gs):
  ∃f,aY (bE 0 bP) [] (cu (ab 0) e) (.pv (bO n m b)::xs)=some (.ok (.fr f),.pv (bO n m b)::xs)/\((f=.non/\∀j,j<gs.length->gs.getD j 0<=0)\/∃k:Nat,f=.int k/\k<gs.length/\0<gs.getD k 0):=by
 obtain⟨f,v,z⟩:=Ki h J bg;have hp:pl f=true:=by rcases z with ⟨rfl,_⟩|⟨k,rfl,_⟩<;>rfl
 have c:cS (bE 0 bP) (bO n m b) [lI gs] (.fr f) (bO n m b):=Bc (mK (as:=[lI gs]) v hp);exact⟨f,au (rs:=[.rf 0,r]) (ae rfl (ae he rfl)) (so (rs:=[r]) (by rw[Rh,R];rfl) (show cS _ _ ([r].map vA) _ _ by rw[RC,A];exact c) rfl rfl),z⟩
theorem uM{P:Sx.Pb}{b:Sx.Bo}(h:Gd P N b)(hc:c<N){xs:List Sl}(a:(.pv (bO P.n P.m b)::xs)[j]?=some (.fr (.int c))):
  ∃f:Option Nat,aY (bE 0 aZ) [] (cu (ab 0) (ah j)) (.pv (bO P.n P.m b)::xs)=some (.ok (.fr (oA f)),.pv (bO P.n P.m b)::xs)/\Sx.pj P N b c P.m f:=by
 obtain⟨f,v,z⟩:=xQ h hc;have hp:pl (oA f)=true:=by cases f<;>rfl
 have G:cS (bE 0 aZ) (bO P.n P.m b) [.int c] (.fr (oA f)) (bO P.n P.m b):=Bc (mK (as:=[.int c]) v hp);exact⟨f,au (rs:=[.rf 0,.fr (.int c)]) (ae rfl (ae (DZ a) rfl)) (cK (as:=[.int c]) G rfl rfl),z⟩
theorem BM{r:List Int}(h:j<r.length):(Sx.fZ r).getD j 0 =-r.getD j 0:=Sx.getD_map h
theorem yw{r:List Int}{k:Nat}(h:j<k):(r.take k).getD j 0=r.getD j 0:=by simp[Rp,h]
abbrev KD:Ms:=av (aG 1 (aY (bE 0 bP) [] (cu (ab 0) (a8 aS (cR (lz (cF (mix zW (aL aU (aA 1))) aH (bF (aL aU (aA 1)))))))))) (av (gJ (aj (aC (qv false) (ab 1) (mC .non))) (av (aG 2 (a8 cA (cu (mix (mix zW (aL aU (aA 1))) (aL aU (aA 1))) PV))) (bB (fv (Ck (mC (.str "best")) (ab 2) NY (Me (mix zW (aL aU (aA 1)))))))) bN) (av (aG 3 (aY (bE 0 aZ) [] (cu (ab 0) (ah 1)))) (av (gJ (aj (aC (qv false) (ab 3) (mC .non))) (bB (fv (eO (mC (.str "open")) NY Pq))) bN) (dA (aQ (a8 aF (eO (aR "Board" "turn" 0) (ah 3) (ah 1))) (aQ (aY (bE 0 aF) [] (eO (aR "Board" "turn" 0) (ah 3) (ah 1))) (a8 aF (eO (bK "Board" "turn" (ab 0)) (ah 3) (ah 1)))))))))
theorem tJ:fY=cb 3 (gn vg (aj (mC (.bl true))) KD):=rfl
variable{x1 x2 x3:Sl}
section
variable{c:List Int}{R:List (List Int)}{L:List Int}(fF:nL c R L)
include fF
theorem EU{b:Sx.Bo}(K:Sx.K2 (bZ c R L) b)(h1:np x1=true)(h2:np x2=true)(h3:np x3=true):Wp KD (IK c.length R.length b x1 x2 x3) λg Z=>
  (g=.nx/\∃r x1 x2 x3,Z=IK c.length R.length r x1 x2 x3/\(np x1=true/\np x2=true/\np x3=true)/\Sx.K2 (bZ c R L) r/\Sx.ms (bZ c R L) (Sx.K2 (bZ c R L)) (Sx.Nx (bZ c R L)) r<Sx.ms (bZ c R L) (Sx.K2 (bZ c R L)) (Sx.Nx (bZ c R L)) b) \/
  ∃t r xs,g=.rt (.fr t)/\Told c R L t/\Z=.pv (bO c.length R.length r)::xs:=by
 have ok:=K.1;have gd:=rJ fF ok;have bb:Bb c.length R.length c.length b:=gd.bb;have hn:=fF.n;have hm:=fF.m;have h:(b.g.getD R.length []).length=c.length+1:=bb.sh.row (QY _);have gs:∀xs:List Sl,a8 aS (cR (lz (cF (mix zW (aL aU (aA 1))) aH (bF (aL aU (aA 1)))))) (.pv (bO c.length R.length b)::xs)=some (.ok (.nw (.lst ((Sx.fZ ((b.g.getD R.length []).take c.length)).map A.int))),.pv (bO c.length R.length b)::xs):=λxs=>by refine au (rs:=[.fr (lI ((b.g.getD R.length []).take c.length))]) (ae (kR (iC (qq bb) (n:=c.length) (by simpa using h)) ?_) rfl) (jB (Ao (by rw[RV,h];lia)) _);rw[<-S6];rfl
 have gl:(Sx.fZ ((b.g.getD R.length []).take c.length)).length=c.length:=by rw[Sx.fZ,QU,RV,h];lia
 have z:∀j,j<c.length->(Sx.fZ ((b.g.getD R.length []).take c.length)).getD j 0 =-b.Gq R.length j:=λj O=>by rw[BM (by rw[RV,h];lia),yw O];rfl
 obtain⟨v,B,q⟩:=vE bb (gs:=Sx.fZ ((b.g.getD R.length []).take c.length)) Q1 (λx hx=>by obtain⟨y,hy,rfl⟩:=Rq.mp hx;exact(bb.bg _ (Sx.getD_mem (by rw[bb.sh.g];lia)) y (Sz hy)).neg) (gs [x1,x2,x3]) rfl rfl
 refine Wp.st (aT B rfl rfl h1 rfl) ?_;rw[gl] at q;have ne:b.s≠0:=by have:=bb.pos;lia
 have e:L2.Bd 900 b.s:=bb.bs.mono Z2;have kp:=ok.keeps K.2;have p:∀xs:List Sl,NY (.pv (bO c.length R.length b)::xs)=some (.ok (.fr (nS c.length b.s λj=>Sx.vl (bZ c R L) b c.length j)),.pv (bO c.length R.length b)::xs):=λxs=>Ob (P:=bZ c R L) gd;have w:∀xs:List Sl,Me (mix zW (aL aU (aA 1))) (.pv (bO c.length R.length b)::xs)=some (.ok (.fr (nS R.length b.s λk=>Sx.Fc c.length b R.length ((c.length+k:Nat):Int))),.pv (bO c.length R.length b)::xs):=λxs=>L5 (P:=bZ c R L) gd (ts:=b.g.getD R.length []) (by rw[h];show c.length<=_;lia) (qq bb) rfl rfl;rcases q with ⟨rfl,q⟩|⟨k,rfl,hk,q⟩
 .obtain⟨S,C,o,Q⟩:=Sx.Al ok λl hl=>by have hl:l<c.length:=hl;have:=q l hl;rw[z l hl] at this;show 0<=b.Gq R.length l;lia
  have s2:∀x2,np x2=true->aG 2 (a8 cA (cu (mix (mix zW (aL aU (aA 1))) (aL aU (aA 1))) PV)) (IK c.length R.length b (.fr .non) x2 x3)=some (.nx,IK c.length R.length b (.fr .non) (.fr (nm (ck (b.Gq R.length c.length) b.s))) x3):=λx2 h2=>aT (au (ae (ag (qq bb) rfl (bh (.inl rfl) (lG h))) (ae (bQ rfl) rfl)) (aI (B8 ne (bb.bs.mono Z2)) _)) rfl rfl h2 rfl
  refine Wp.sr (eN rfl (dP (s2 _ h2) (aK (dZ (ae rfl (ae rfl (ae (p _) (ae (w _) rfl)))) rfl) rfl))) (.inr ⟨_,b,_,rfl,?_,rfl⟩);refine Told.best bb.pos e (λj O=>BF gd (QY _) _) (λk hk=>Fg gd (QY _) _) ((bb.gb (QY _) (QY _)).mono Z2) kp.nn (λk _=>C k) (λi hi=>by rw[RU];exact kp.le i hi) (λj O=>?_) S ?_
  .rw[RU];refine VE (o j O) (U1 (Sx.bG λk _=>RU _ _))
  .exact W3 (Sx.bG λk _=>RU _ _) Q
 .rw[z k hk] at q;obtain⟨Y,N,d⟩:=uM gd (c:=k) hk (xs:=[.fr (.int k),x2,x3]) (j:=1) rfl;refine Wp.st (cq rfl rfl) (Wp.st (aT N rfl rfl h3 rfl) ?_);cases Y with
  |none=>obtain⟨U,o2⟩:=Sx.zj ok hk (show b.Gq R.length k<0 by lia) d;refine Wp.sr (eN rfl (aK (dZ (ae rfl (ae (p _) (ae (Ot (P:=bZ c R L) gd hk) rfl))) rfl) rfl)) (.inr ⟨_,b,_,rfl,?_,rfl⟩);exact Told.opn bb.pos e (λj O=>BF gd (QY _) _) (λj O=>BF gd (Rv hk) _) kp.nn U.nn (λi hi=>by rw[RU];exact kp.le i hi) (λi hi=>by have:=U.le i hi;rwa[show ({ bZ c R L with L:=λ_=>0 }:Sx.Pb).L i=0 from rfl,RB] at this) o2
  |some a=>obtain⟨f,hp,hl⟩:=d;obtain⟨E,lt⟩:=Sx.IP K f hk hp (show b.Gq R.length k<0 by lia) hl;have X:=cK (i:=0) (Z:=IK c.length R.length b (.fr (.int k)) x2 (.fr (.int a))) (uw bb (a:=a) (c:=k) f hk) rfl rfl;refine Wp.st (cq rfl rfl) (Wp.en (eY (bQ (au (rs:=[.rf 0,.fr (.int a),.fr (.int k)]) rfl X))) (.inl ⟨rfl,b.turn a k,.fr (.int k),x2,.fr (.int a),rfl,⟨rfl,h2,rfl⟩,E,lt⟩))
theorem xc{b:Sx.Bo}(K:Sx.K2 (bZ c R L) b):∃t r,cS fY (bO c.length R.length b) [] (.fr t) (bO c.length R.length r)/\Told c R L t:=by
 suffices ∃s o',cS fY (bO c.length R.length b) [] s o'/\∃t r,s=.fr t/\o'=bO c.length R.length r/\Told c R L t by obtain⟨s,o',v,t,r,rfl,rfl,h⟩:=this;exact⟨t,r,v,h⟩
 rw[tJ]
 obtain⟨g,O,e,t,r,xs,rfl,l,rfl⟩:=jm (t:=aj (mC (.bl true))) (b:=KD)
  (λk Z=>∃r x1 x2 x3,Z=IK c.length R.length r x1 x2 x3/\(np x1=true/\np x2=true/\np x3=true)/\Sx.K2 (bZ c R L) r/\k=Sx.ms (bZ c R L) (Sx.K2 (bZ c R L)) (Sx.Nx (bZ c R L)) r)
  (λg Z=>∃t r xs,g=.rt (.fr t)/\Told c R L t/\Z=.pv (bO c.length R.length r)::xs) (by
   rintro k Z ⟨b1,x1,x2,x3,rfl,⟨h1,h2,h3⟩,K1,rfl⟩;refine .inr ⟨_,rfl,Wp.mono (EU fF K1 h1 h2 h3) ?_⟩;rintro g F (⟨rfl,b2,Q,Y,i,rfl,hy,K2,lt⟩|⟨t,b2,ys,rfl,l,rfl⟩)
   .exact .inl ⟨rfl,_,lt,b2,Q,Y,i,rfl,hy,K2,rfl⟩
   .exact .inr ⟨_,(),rfl,t,b2,ys,rfl,l,rfl⟩) vg _ (IK c.length R.length b .un .un .un) ⟨b,_,_,_,rfl,⟨rfl,rfl,rfl⟩,K,rfl⟩ (GB fF.n fF.m _ _ _)
 exact cS.of (Wp.df (Wp.en (sX e) ⟨_,_,xs,rfl,rfl,t,r,rfl,rfl,l⟩))
end
theorem AI(P:Sx.Pb):wu P.n P.m (Sx.fM P)=Sx.bW P:=by
 unfold wu Sx.fM Sx.bW;dsimp only;have G:((Rb P.m).map λi=>((Rb P.n).map λj=>P.R i j)++[P.L i]).length=P.m:=by simp
 congr 1
 rw[TB G,Sx.dm Q1,G,Ti,Rx]
 congr 1
 .refine RL λi _=>?_;show XJ P.n (_++_)++[-1]++Wj P.n (_++_)=_;rw[TB Z4,WB Z4,QQ];rfl
 .show [XJ P.n (_++_)++[0]++Wj P.n (_++_)]=_;rw[TB Z4,WB Z4,QQ];rfl
abbrev nQ(n m:Nat)(b:Sx.Bo)(x1 x2:Sl):List Sl:=[.pv (bO n m b),x1,x2]
abbrev OB:Mi Bool:=aj (wZ false ["Board"] 0 "down" (ze (S9 0)))
theorem NG{n m:Nat}{b:Sx.Bo}{t:Bool}(l:decide (-1∈b.dn)=t)(xs:List Sl):OB (.pv (bO n m b)::xs)=some (.ok t,.pv (bO n m b)::xs):=by
 refine aB (b:=t) ?_;have h1:(fA (.int (-1))&&(b.dn.map A.int).all fA)=true:=by rw[US];simp[fA]
 have e:=qN (-1) b.dn;unfold JK at e;rw[Zx h1,l] at e;refine W3 (Zx h1) ?_;exact ZC (λo:Option Rr=>o.map λq=>(RI q,Sl.pv (bO n m b)::xs)) e
abbrev PX:Mi Rr:=gC ["Board"] 0 "down" (ze (S9 0))
theorem OD{n m:Nat}{b:Sx.Bo}(h:-1∈b.dn)(xs:List Sl):PX (.pv (bO n m b)::xs)=some (.ok (.fr (.int (Sx.cj b))),.pv (bO n m b)::xs):=by show (match eD (b.dn.map A.int) with|some ns=>(match tw ns (-1) with|some j=>some (RI (Rr.fr (.int j)),_)|none=>none)|none=>none)=_;rw[fX];dsimp only;rw[pW h];rfl
abbrev ON:Ms:=av (aG 1 (mix zW PX)) (av (aG 2 (aY (bE 0 bP) [] (cu (ab 0) (lz (cF (ab 1) aH (bF (aL aU (aA 1)))))))) (av (gJ (aj (aC (qv false) (ab 2) (mC .non))) (bB (Me (a8 aS (cR (ah 1))))) bN) (dA (aQ (a8 aF (eO (aR "Board" "turn" 0) (aY (bE 0 aZ) [] (cu (ab 0) (ah 2))) (ah 2))) (aQ (aY (bE 0 aF) [] (eO (aR "Board" "turn" 0) (aY (bE 0 aZ) [] (cu (ab 0) (ah 2))) (ah 2))) (a8 aF (eO (bK "Board" "turn" (ab 0)) (aY (bE 0 aZ) [] (cu (ab 0) (ah 2))) (ah 2))))))))
def Kf(P:Sx.Pb)(b:Sx.Bo):Prop:=Sx.Ok P (P.n+1) b/\Sx.Lp P (P.n+1) b
section
variable{c:List Int}{R:List (List Int)}{L:List Int}(fF:nL c R L)
include fF
theorem CQ{b:Sx.Bo}(K:Sx.K1 (bZ c R L) b)(h1:np x1=true)(h2:np x2=true):Wp ON (nQ c.length R.length b x1 x2) λg Z=>
  (g=.nx/\∃D x1 x2,Z=nQ c.length R.length D x1 x2/\(np x1=true/\np x2=true)/\((Sx.K1 (bZ c R L) D/\Sx.ms (bZ c R L) (Sx.K1 (bZ c R L)) (Sx.JJ (bZ c R L)) D<Sx.ms (bZ c R L) (Sx.K1 (bZ c R L)) (Sx.JJ (bZ c R L)) b)\/(Kf (bZ c R L) D /\ -1∉D.dn))) \/
  ∃a D xs,g=.rt (.fr a)/\Told c R L (.tup [.str "none",a])/\a≠.non/\Z=.pv (bO c.length R.length D)::xs:=by
 have ok:=K.1;have gd:=rJ fF ok;have bb:Bb c.length R.length (c.length+1) b:=gd.bb;have hn:=fF.n;have hm:=fF.m;have hl:Sx.cj b<R.length:=Sx.iz K;have G:=Sx.ja K;have h:(b.g.getD (Sx.cj b) []).length=c.length+1+1:=bb.sh.row (Rv hl);refine Wp.st (U:=nQ c.length R.length b (.fr (lI (b.g.getD (Sx.cj b) []))) x2) (aT (ag (GL _ _) (OD K.2.2 _) (bh (.inl rfl) (A6 (by rw[bb.sh.g];lia)))) rfl rfl h1 rfl) ?_;have gl:((b.g.getD (Sx.cj b) []).take (c.length+1)).length=c.length+1:=by rw[RV,h];lia
 have Y:lz (cF (ab 1) aH (bF (aL aU (aA 1)))) (.pv (bO c.length R.length b)::[.fr (lI (b.g.getD (Sx.cj b) [])),x2])=some (.ok (.fr (lI ((b.g.getD (Sx.cj b) []).take (c.length+1)))),.pv (bO c.length R.length b)::[.fr (lI (b.g.getD (Sx.cj b) [])),x2]):=by refine kR (iC rfl (n:=c.length+1) (by simpa using h)) ?_;rw[<-S6];rfl
 obtain⟨v,B,q⟩:=vE bb (gs:=(b.g.getD (Sx.cj b) []).take (c.length+1)) Q1 (λx hx=>bb.bg _ (Sx.getD_mem (by rw[bb.sh.g];lia)) x (Sz hx)) Y rfl rfl;rw[gl] at q;have y:∀j,j<c.length+1->((b.g.getD (Sx.cj b) []).take (c.length+1)).getD j 0=b.Gq (Sx.cj b) j:=λj O=>by rw[yw O];rfl
 refine Wp.st (aT B rfl rfl h2 rfl) ?_;rcases q with ⟨rfl,q⟩|⟨k,rfl,hk,q⟩
 .obtain⟨S,C,E⟩:=Sx.AD ok K.2.1 (r:=Sx.cj b) hl G λl N=>by have:=q l N;rwa[y l N] at this
  have en:a8 aS (cR (ah 1)) (.pv (bO c.length R.length b)::[.fr (lI (b.g.getD (Sx.cj b) [])),.fr .non])=some (.ok (.nw (.lst ((Sx.fZ (b.g.getD (Sx.cj b) [])).map A.int))),.pv (bO c.length R.length b)::[.fr (lI (b.g.getD (Sx.cj b) [])),.fr .non]):=au (rs:=[.fr (lI (b.g.getD (Sx.cj b) []))]) rfl (jB (Ao Q1) _);have o:Me (a8 aS (cR (ah 1))) (.pv (bO c.length R.length b)::[.fr (lI (b.g.getD (Sx.cj b) [])),.fr .non])=some (.ok (.fr (nS R.length b.s λk=>Sx.su (c.length+1) λl=>if b.Aq l=((c.length+k:Nat):Int) then (Sx.fZ (b.g.getD (Sx.cj b) [])).getD l 0 else 0)),.pv (bO c.length R.length b)::[.fr (lI (b.g.getD (Sx.cj b) [])),.fr .non]):=L5 (P:=bZ c R L) gd (ts:=Sx.fZ (b.g.getD (Sx.cj b) [])) (by show c.length+1<=_;rw[Sx.fZ,QU,h];lia) en rfl rfl;have eq:∀k:Nat,(Sx.su (c.length+1) λl=>if b.Aq l=((c.length+k:Nat):Int) then (Sx.fZ (b.g.getD (Sx.cj b) [])).getD l 0 else 0) =-Sx.Fc (c.length+1) b (Sx.cj b) ((c.length+k:Nat):Int):=λk=>by
   unfold Sx.Fc;rw[<-Sg,<-Sx.cV];refine Sx.bG λl hl=>?_;rw[BM Q1];split
   .rw[Sg];rfl
   .rfl
  simp only[eq] at o;refine Wp.sr (eN rfl (aK o rfl)) (.inr ⟨_,b,_,rfl,?_,(λz=>nomatch z),rfl⟩);refine Told.non bb.pos (bb.bs.mono Z2) (λk hk=>(Fg gd (Rv hl) _).neg) (λk _=>S k) (λj O=>?_) ?_
  .exact VE (C j O) (U1 (Sx.bG λk _=>RU _ _))
  .exact Int.lt_of_le_of_lt (U1 (Sx.bG λk _=>RU _ _)) E
 .rw[y k hk] at q;obtain⟨Q,J,d⟩:=uM gd (c:=k) hk (xs:=[.fr (lI (b.g.getD (Sx.cj b) [])),.fr (.int k)]) (j:=2) rfl;cases Q with
  |none=>have:=d (Sx.cj b) hl;lia
  |some a=>
   obtain⟨f,hp,p⟩:=d;have X:=cK (i:=0) (Z:=nQ c.length R.length b (.fr (lI (b.g.getD (Sx.cj b) []))) (.fr (.int k))) (uw bb (a:=a) (c:=k) f hk) rfl rfl;refine Wp.st (cq rfl rfl) (Wp.en (eY (bQ (au (rs:=[.rf 0,.fr (.int a),.fr (.int k)]) (ae rfl (ae J rfl)) X))) (.inl ⟨rfl,b.turn a k,_,_,rfl,⟨rfl,rfl⟩,?_⟩));by_cases e:a=Sx.cj b
   .refine .inr ⟨⟨ok.turn f hk Q1,Sx.Lp.turn ok K.2.1 f hk hp p⟩,λz=>?_⟩;have w:=ok.turn f hk (show b.Gq a k≠0 by lia);have m:-1∈(b.turn a k).ac:=by
     have F:(b.turn a k).Aq k = -1:=by rw[Sx.Bo.pH ok.sh hk];unfold Sx.qD;rw[Zx rfl,e,G]
     rw[<-F];exact w.Am hk
    exact(Q2.mp w.nd).2.2 _ m _ z rfl
   .obtain⟨H,_,lt⟩:=Sx.Jy K f e hk hp q p;exact .inl ⟨H,lt⟩
end
abbrev Pw(a c:Mi Rr):Mi Rr:=aQ (a8 aF (eO (aR "Board" "turn" 0) a c)) (aQ (aY (bE 0 aF) [] (eO (aR "Board" "turn" 0) a c)) (a8 aF (eO (bK "Board" "turn" (ab 0)) a c)))
abbrev N7(f:Ms)(n:Str):Ms:=dA (aQ (a8 f (cR (aR "Board" n 0))) (aQ (aY (bE 0 f) [] (cR (aR "Board" n 0))) (a8 f (cR (bK "Board" n (ab 0))))))
abbrev P6:Mi Rr:=a8 dy (cR (lz (aP 1 (cH (cF zW aH (bF (aL aU (aA 1))))) (aM 3) aO (mix (ab 3) (aL aU (aA 1))))))
theorem Mc:dO=cb 2 (av (N7 bp "put_helper") (av (dA (Pw P6 (aC jc (jS ["Board"] 0 "across") (aA 1)))) (av (gn vg OB ON) (av (N7 bf "drop_helper") (bB (mC .non)))))):=rfl
section
variable{c:List Int}{R:List (List Int)}{L:List Int}(fF:nL c R L)
include fF
theorem Ku(u:∃i,i<R.length/\L.getD i 0<0):∃s D,cS dO (bO c.length R.length (Sx.fM (bZ c R L))) [] (.fr s) (bO c.length R.length D)/\((s=.non/\Sx.K2 (bZ c R L) D)\/(s≠.non/\Told c R L (.tup [.str "none",s]))):=by
 have hn:=fF.n;have hm:=fF.m;have C:=rJ fF (Sx.yN (bZ c R L));have I:=rJ fF (Sx.qh (bZ c R L));have w:Bb c.length R.length (c.length+1) (Sx.bW (bZ c R L)):=I.bb;have J:N7 bp "put_helper" (nQ c.length R.length (Sx.fM (bZ c R L)) .un .un)=some (.nx,nQ c.length R.length (Sx.bW (bZ c R L)) .un .un):=by have e:=cK (as:=[]) (i:=0) (Z:=nQ c.length R.length (Sx.fM (bZ c R L)) .un .un) (Ln (n:=c.length) (m:=R.length) (N:=c.length) C.bb) rfl rfl;have e':=AI (bZ c R L);have e2:wu c.length R.length (Sx.fM (bZ c R L))=Sx.bW (bZ c R L):=e';rw[e2] at e;exact eY (bQ (au (rs:=[.rf 0]) rfl e))
 have eG:∀i,i<R.length->(Sx.bW (bZ c R L)).Gq i (c.length+1)=L.getD i 0:=λi hi=>by have:=Sx.hY (P:=bZ c R L) (i:=i) (l:=c.length+1) (Rv hi) (QY _);rw[Zx (show i<(bZ c R L).m from hi),Zy (show ¬ c.length+1<(bZ c R L).n by show ¬ c.length+1<c.length;lia),Zy (show c.length+1≠(bZ c R L).n by show c.length+1≠c.length;lia)] at this;exact this
 obtain⟨G,q,X⟩:=u;have hg:=w.sh.g;have ll:((((Sx.bW (bZ c R L)).g.take R.length).map λ(r:List Int)=>r.getD (c.length+1) 0)).length=R.length:=by rw[QU,RV];lia
 obtain⟨a,va,f,j,p⟩:=Hk (ls:=((Sx.bW (bZ c R L)).g.take R.length).map λ(r:List Int)=>r.getD (c.length+1) 0) Q1 Q1;rw[ll] at f j p;have lv:∀i,i<R.length->((((Sx.bW (bZ c R L)).g.take R.length).map λ(r:List Int)=>r.getD (c.length+1) 0)).getD i 0=L.getD i 0:=λi hi=>by
  rw[Sx.getD_map (d:=[]) (by rw[RV];lia),<-eG i hi];unfold Sx.Bo.Gq
  congr 1
  simp only[Rp,TZ hi]
 have ex:=bH (e:=mix (ab 3) (aL aU (aA 1))) (ts:=(Sx.bW (bZ c R L)).g.take R.length) (k:=lI) (S:=nQ c.length R.length (Sx.bW (bZ c R L)) .un .un) (λr=>.int (r.getD (c.length+1) 0)) rfl (by rw[RV];lia) λr hr=>⟨_,ag rfl rfl (bh (.inl rfl) (lG (w.sh.r r (Sz hr)))),rfl⟩
 have ef:lz (aP 1 (cH (cF zW aH (bF (aL aU (aA 1))))) (aM 3) aO (mix (ab 3) (aL aU (aA 1)))) (nQ c.length R.length (Sx.bW (bZ c R L)) .un .un)=some (.ok (.fr (lI (((Sx.bW (bZ c R L)).g.take R.length).map λ(r:List Int)=>r.getD (c.length+1) 0))),nQ c.length R.length (Sx.bW (bZ c R L)) .un .un):=by
  refine kR (bJ (qO (iC (GL _ _) (n:=R.length) (by simpa using hg)) (as:=((Sx.bW (bZ c R L)).g.take R.length).map lI) ?_) ex) ?_
  .rw[<-S6];rfl
  .unfold lI;rw[Rx];rfl
 have e2:aC jc (jS ["Board"] 0 "across") (aA 1) (nQ c.length R.length (Sx.bW (bZ c R L)) .un .un)=some (.ok (.fr (.int c.length)),nQ c.length R.length (Sx.bW (bZ c R L)) .un .un):=by
  refine ag (x:=.fr (.int (((Sx.bW (bZ c R L)).ac.map A.int).length:Nat))) (y:=.fr (.int 1)) rfl rfl (fu (o:=none) rfl rfl ?_);show some (Rr.fr (.int ((((Sx.bW (bZ c R L)).ac.map A.int).length:Int)-1)))=_;rw[QU,w.sh.ac]
  congr 3;lia
 have et:=cK (i:=0) (Z:=nQ c.length R.length (Sx.bW (bZ c R L)) .un .un) (uw w (a:=a) (c:=c.length) f Q1) rfl rfl;have l2:dA (Pw P6 (aC jc (jS ["Board"] 0 "across") (aA 1))) (nQ c.length R.length (Sx.bW (bZ c R L)) .un .un)=some (.nx,nQ c.length R.length ((Sx.bW (bZ c R L)).turn a c.length) .un .un):=
  eY (bQ (au (rs:=[.rf 0,.fr (.int a),.fr (.int c.length)]) (ae rfl (ae (au (ae ef rfl) (aI va _)) (ae e2 rfl))) et))
 have B:L.getD a 0<0:=by have:=j G q;rw[lv a f,lv G q] at this;lia
 obtain⟨E,Q⟩:=Sx.xY (P:=bZ c R L) (a:=a) f B (λi hi=>by have:=j i hi;rwa[lv a f,lv i hi] at this) (λi hi h=>by have:=p i hi h;rwa[lv a f,lv i hi] at this);have m1:-1∈((Sx.bW (bZ c R L)).turn a c.length).dn:=by
  have eB:((Sx.bW (bZ c R L)).turn a c.length).Bq a = -1:=by rw[Sx.Bo.mN (Sx.qh (bZ c R L)).sh f];unfold Sx.qD;rw[Zx rfl,Sx.pE (show c.length<(bZ c R L).n+1 from Sn _),Zy (show ¬ c.length<(bZ c R L).n from Ri _)]
  rw[<-eB];exact E.Bm f
 suffices ∃s o',cS dO (bO c.length R.length (Sx.fM (bZ c R L))) [] s o'/\∃t D,s=.fr t/\o'=bO c.length R.length D/\((t=.non/\Sx.K2 (bZ c R L) D)\/(t≠.non/\Told c R L (.tup [.str "none",t]))) by obtain⟨s,o',v,t,D,rfl,rfl,z⟩:=this;exact⟨t,D,v,z⟩
 rw[Mc];refine cS.of (Wp.df (Wp.st J (Wp.st l2 ?_)));obtain⟨g,O,e,z⟩:=jm (t:=OB) (b:=ON)
  (λk Z=>∃D x1 x2,Z=nQ c.length R.length D x1 x2/\(np x1=true/\np x2=true)/\((Sx.K1 (bZ c R L) D/\k=Sx.ms (bZ c R L) (Sx.K1 (bZ c R L)) (Sx.JJ (bZ c R L)) D+1)\/(Kf (bZ c R L) D /\ -1∉D.dn/\k=0)))
  (λg Z=>(g=.nx/\∃D x1 x2,Z=nQ c.length R.length D x1 x2/\Kf (bZ c R L) D /\ -1∉D.dn)\/∃a D xs,g=.rt (.fr a)/\Told c R L (.tup [.str "none",a])/\a≠.non/\Z=.pv (bO c.length R.length D)::xs) (by
   rintro k Z ⟨b1,x1,x2,rfl,⟨h1,h2⟩,z⟩;rcases z with ⟨K,rfl⟩|⟨K,nm,rfl⟩
   .refine .inr ⟨_,NG (ZA K.2.2) _,Wp.mono (CQ fF K h1 h2) ?_⟩;rintro g F (⟨rfl,b2,Y,U,rfl,hy,z⟩|z)
    .rcases z with ⟨K2,lt⟩|⟨K2,nm⟩
     .exact .inl ⟨rfl,_,Nat.succ_lt_succ lt,b2,Y,U,rfl,hy,.inl ⟨K2,rfl⟩⟩
     .exact .inl ⟨rfl,0,Nat.succ_pos _,b2,Y,U,rfl,hy,.inr ⟨K2,nm,rfl⟩⟩
    .obtain⟨a,b2,ys,rfl,z⟩:=z;exact .inr ⟨_,(),rfl,.inr ⟨a,b2,ys,rfl,z⟩⟩
   .exact .inl ⟨_,NG (Zz nm) _,.inl ⟨rfl,b1,x1,x2,rfl,K,nm⟩⟩) vg _ (nQ c.length R.length ((Sx.bW (bZ c R L)).turn a c.length) .un .un) ⟨_,_,_,rfl,⟨rfl,rfl⟩,.inl ⟨⟨E,Q,m1⟩,rfl⟩⟩ (by refine pF ?_;unfold Sx.ms;refine RN (Ub VO) ?_;rw[m7];refine RN (Ub (SS Z2 (show (bZ c R L).n+(bZ c R L).m+1<=19 by show c.length+R.length+1<=19;lia))) ?_;decide +kernel)
 rcases z with ⟨rfl,b2,x1,x2,rfl,K,nm⟩|⟨t,b2,xs,rfl,ht,V,rfl⟩
 .have ok:=K.1;have gd:=rJ fF ok;have H:-1∈b2.ac:=by
   have:=(ok.nm (-1)).mpr (by rw[Zy (show (bZ c R L).n+1≠(bZ c R L).n by lia)];lia);rcases Q0.mp this with z|z
   .exact z
   .exact absurd z nm
  have hl:=R4 H;have T:b2.Aq (b2.ac.idxOf (-1)) = -1:=by simp only[Sx.Bo.Aq,Rp,Rg hl,Tj];exact UI hl
  rw[ok.sh.ac] at hl;have bb:Bb c.length R.length (c.length+1) b2:=gd.bb;have ed:=cK (as:=[]) (i:=0) (Z:=nQ c.length R.length b2 x1 x2) (G7 bb H) rfl rfl;have l5:N7 bf "drop_helper" (nQ c.length R.length b2 x1 x2)=some (.nx,nQ c.length R.length (b2.drop (b2.ac.idxOf (-1))) x1 x2):=eY (bQ (au (rs:=[.rf 0]) rfl ed));exact Wp.st (sX e) (Wp.st l5 (Wp.en (aK rfl rfl) ⟨_,_,[x1,x2],rfl,rfl,.non,b2.drop (b2.ac.idxOf (-1)),rfl,rfl,.inl ⟨rfl,Sx.EH ok hl T,Sx.Ec ok K.2 hl T⟩⟩))
 .exact Wp.sr (sX e) ⟨_,_,xs,rfl,rfl,t,b2,rfl,rfl,.inr ⟨V,ht⟩⟩
end
theorem nZ:∀bs:List Bool,gX (bs.map A.bl)=some bs
 |[]=>rfl
 |b::bs=>by rw[RC,gX,nZ bs]
theorem F3(ts:List T)(p:T->Bool):kS (λbs=>VS bs id) (.lst (ts.map λx=>.bl (p x)))=some (.fr (.bl (ts.any p))):=by
 have e:(ts.map λx=>A.bl (p x))=(ts.map p).map A.bl:=by rw[Rx];rfl
 unfold kS;dsimp only;rw[e,nZ];dsimp only;rw[VA];rfl
theorem Md{s:A}(h:s≠.non)(Z:List Sl):lh (qv true) (.fr s) (.fr .non) Z=some (.ok (.fr (.bl true)),Z):=by cases s<;>first|exact absurd rfl h|rfl
section
variable{c:List Int}{R:List (List Int)}{L:List Int}(fF:nL c R L)
include fF
abbrev CF(c:List Int)(R:List (List Int))(L:List Int)(b:Sx.Bo)(D:Sl):List Sl:=[.fr (lI c),.fr (gI R),.fr (lI L),.lv (bO c.length R.length b),D]
theorem Be:∃t,Val qY [lI c,gI R,lI L] t/\Told c R L t:=by
 have hn:=fF.n;have hm:=fF.m;have hl:=fF.l;have o:aG 3 (pd "Board" dH [] (eO (ah 0) (ah 1) (ah 2))) [.fr (lI c),.fr (gI R),.fr (lI L),.un,.un]=some (.nx,CF c R L (Sx.fM (bZ c R L)) .un):=aT (DJ (ae rfl (ae rfl (ae rfl rfl))) (zZ fF _)) rfl rfl rfl rfl;have ex:=bH (e:=aC ka (ab 5) (aA 0)) (ts:=L) (k:=A.int) (S:=CF c R L (Sx.fM (bZ c R L)) .un) (λx=>.bl (decide (x<0))) rfl Q1 λx hx=>⟨_,ag rfl rfl (iR rfl _),rfl⟩
 have an:∀t,L.any (λx=>decide (x<0))=t->aj (cx (kS λbs=>VS bs id) (aP 1 (cH (ab 2)) (aM 5) aO (aC ka (ab 5) (aA 0)))) (CF c R L (Sx.fM (bZ c R L)) .un)=some (.ok t,CF c R L (Sx.fM (bZ c R L)) .un):=λt C=>by exact aB (eP (bJ rfl ex) (nV rfl (by rw[F3,C])))
 have fin:∀b D,Sx.K2 (bZ c R L) b->np D=true->∃t,Wp (bB (a8 fY (cR (ab 3)))) (CF c R L b D) (λg _=>g=.rt (.fr t))/\Told c R L t:=λb D K h4=>by obtain⟨t,r,v,C⟩:=xc fF K;exact⟨t,Wp.en (aK (au (rs:=[.rf 3]) rfl (cK (as:=[]) (i:=3) (Z:=CF c R L b D) v rfl rfl)) rfl) rfl,C⟩
 by_cases u:∃i,i<R.length/\L.getD i 0<0
 .have I:L.any (λx=>decide (x<0))=true:=by obtain⟨i,hi,h⟩:=u;exact Wt.mpr ⟨_,cB (show i<L.length by lia),ZA h⟩
  obtain⟨s,r,v,z⟩:=Ku fF u;have X:=cK (as:=[]) (i:=3) (Z:=CF c R L (Sx.fM (bZ c R L)) .un) v rfl rfl;have j:aG 4 (a8 dO (cR (ab 3))) (CF c R L (Sx.fM (bZ c R L)) .un)=some (.nx,CF c R L r (.fr s)):=aT (au (rs:=[.rf 3]) rfl X) rfl rfl rfl rfl;rcases z with ⟨rfl,K⟩|⟨V,C⟩
  .obtain⟨t,w,C⟩:=fin r (.fr .non) K rfl;exact⟨t,Val.of (Wp.df (Wp.st o (Wp.st (eN (an true I) (dP j (cq rfl rfl))) (Wp.mono w λg _ e=>by rw[e])))),C⟩
  .exact⟨.tup [.str "none",s],Val.of (Wp.df (Wp.st o (Wp.sr (eN (an true I) (dP j (eN (aB (ag rfl rfl (Md V _))) (aK (dZ (ae rfl (ae rfl rfl)) rfl) rfl)))) rfl))),C⟩
 .have nn:∀i,i<R.length->0<=L.getD i 0:=λi hi=>by
   by_cases z:0<=L.getD i 0
   .exact z
   .exact absurd ⟨i,hi,by lia⟩ u
  have I:L.any (λx=>decide (x<0))=false:=by rw[TR];intro x hx;obtain⟨i,hi,rfl⟩:=Sj hx;have:=nn i Q1;simp only[Rp,Rg hi,Tj] at this;simp;exact this
  obtain⟨t,w,C⟩:=fin _ .un ⟨Sx.yN (bZ c R L),Sx.J9 nn⟩ rfl;exact⟨t,Val.of (Wp.df (Wp.st o (Wp.st (cq (an false I) rfl) (Wp.mono w λg _ e=>by rw[e])))),C⟩
theorem Jr:∃t,Val iw [lI c,gI R,lI L] t/\Told c R L t:=by
 have hn:=fF.n;have hm:=fF.m;obtain⟨t,v,C⟩:=Be fF;have lc:∀Z,cx cC (ab 0) (.fr (lI c)::Z)=some (.ok (.fr (.int c.length)),.fr (lI c)::Z):=λZ=>by show some (RI (Rr.fr (.int (c.map A.int).length)),_)=_;rw[QU]
 have D:cx cC (ab 1) [.fr (lI c),.fr (gI R),.fr (lI L)]=some (.ok (.fr (.int R.length)),[.fr (lI c),.fr (gI R),.fr (lI L)]):=by show some (RI (Rr.fr (.int (R.map lI).length)),_)=_;rw[QU]
 have h:cx cC (ab 2) [.fr (lI c),.fr (gI R),.fr (lI L)]=some (.ok (.fr (.int R.length)),[.fr (lI c),.fr (gI R),.fr (lI L)]):=by show some (RI (Rr.fr (.int (L.map A.int).length)),_)=_;rw[QU,fF.l]
 have ne:∀(i:Nat) Z,lh iN (.fr (.int i)) (.fr (.int i)) Z=some (.ok (.fr (.bl false)),Z):=λi Z=>by
  have e:iN (.int i) (.int i)=some (.fr (.bl false)):=by unfold iN;rw[pU,ZA rfl];rfl
  exact fu (o:=none) rfl rfl e
 have ex:=bH (e:=aC iN (cx cC (ab 3)) (cx cC (ab 0))) (ts:=R) (k:=lI) (S:=[.fr (lI c),.fr (gI R),.fr (lI L)]) (λx=>.bl false) rfl Q1 λr X=>by
  have z:cx cC (ab 3) ([.fr (lI c),.fr (gI R),.fr (lI L)]++[.fr (lI r)])=some (.ok (.fr (.int c.length)),[.fr (lI c),.fr (gI R),.fr (lI L)]++[.fr (lI r)]):=by show some (RI (Rr.fr (.int (r.map A.int).length)),_)=_;rw[QU,fF.r r X]
  exact⟨_,ag z (lc _) (ne _ _),rfl⟩
 refine⟨t,Val.of (Wp.df (Wp.st (cq (dC (aB (ag (lc _) rfl (kO (b:=false) (Zz Q1) _))) (aB (ag D rfl (kO (b:=false) (Zz Q1) _)))) rfl) (Wp.st (cq (aB (ag h D (ne _ _))) rfl) (Wp.st (cq (aB (eP (bJ rfl ex) (nV (r:=.fr (.bl false)) rfl ?_))) rfl) (Wp.en (aK (au rfl (aI v _)) rfl) rfl))))),C⟩;rw[F3 R λ_=>false,TR.mpr Z4]
end
theorem CL{n:Int}(w:Wl n o)(hn:n<2^36):X2 λ(r:Int)(o':LO)=>N3 (cS a7 o [] (.fr (.int r)) o') (r.natAbs<=10^9) (Wl (n+2) o'):=by
 suffices ∃s o',cS a7 o [] s o'/\∃r:Int,N3 (s=.fr (.int r)) (r.natAbs<=10^9) (Wl (n+2) o') by obtain⟨s,o',v,r,rfl,h1,h2⟩:=this;exact⟨r,o',v,h1,h2⟩
 obtain⟨g,U,e1,a1,b1,I⟩:=tk 8 w Q1 Z2 Z2
 have T:∀(k:Int) t Z,decide (g<k)=t->aj (aC ka (ab 1) (aA k)) (.pv U::.fr (.int g)::Z)=some (.ok t,.pv U::.fr (.int g)::Z):=λk t Z C=>aB (ag rfl rfl (iR C _))
 refine cS.of (Wp.df (Wp.st (aT (au (ae rfl (ae rfl rfl)) (e1 _)) rfl rfl rfl rfl) ?_))
 by_cases P:g<3
 .exact Wp.sr (eN (T 3 true _ (ZA P)) (aK rfl rfl)) ⟨_,U,_,rfl,rfl,0,rfl,by decide,I.mono Q1⟩
 .refine Wp.st (cq (T 3 false _ (Zz P)) rfl) ?_
  by_cases m:g<7
  .obtain⟨l,o2,e2,Y,b2,O⟩:=tk 9 I Q1 Z2 Z2
   exact Wp.sr (eN (T 7 true _ (ZA m)) (aK (ag (au (ae rfl (ae rfl rfl)) (e2 _)) rfl rfl) rfl)) ⟨_,o2,_,rfl,rfl,l-4,rfl,by lia,O.mono Q1⟩
  .obtain⟨l,o2,e2,Y,b2,O⟩:=tk 2000000001 I Q1 Z2 Z2
   have b:=pw 9 1000000000 Z2 Z2
   have E:∀Z,lz (aC a6 (aC a9 (aA 2) (aC pY (aA 10) (aA 9))) (aA 1)) Z=some (.ok (.fr (.int 2000000001)),Z):=λZ=>kR (ag (ag rfl (b _) (lg (zr Z2) (zr Z2) _)) rfl rfl) rfl
   exact Wp.st (cq (T 7 false _ (Zz m)) rfl) (Wp.en (aK (ag (au (ae rfl (ae (E _) rfl)) (e2 _)) (b _) rfl) rfl) ⟨_,o2,_,rfl,rfl,l-1000000000,rfl,by lia,O.mono Q1⟩)
variable{mm:Mi Rr}
section
variable{a0 a1:Sl}
theorem mT{rest:List Sl}(hi:rest.length+3=i){n:Int}(w:Wl n o)(k:Nat)(hk:k<=20)(hn:n<2^34)(hm:mm (a0::a1::.lv o::rest)=some (.ok (.fr (.int k)),a0::a1::.lv o::rest)):
  X2 λ(ns:List Int)(o':LO)=>N4 (aP 1 (cU mm) (aM i) aO (a8 a7 (cR (ab 2))) (a0::a1::.lv o::rest)=some (.ok (.nw (.lst (ns.map A.int))),a0::a1::.lv o'::rest)) (ns.length=k) (∀x∈ns,x.natAbs<=10^9) (Wl (n+2*k) o'):=by
 obtain⟨ys,O,h1,o',x,ns,rfl,_,c,rfl,h4,h5⟩:=eZ (G:=aM i) (t:=aO) (e:=a8 a7 (cR (ab 2))) (as:=bI 0 k) (Z:=(a0::a1::.lv o::rest)++[.un])
  (λj acc Z=>X3 λ(o':LO)(x:Sl)(ns:List Int)=>N6 (Z=(a0::a1::.lv o'::rest)++[x]) (np x=true) (Wl (n+2*j) o') (acc=ns.map A.int) (ns.length=j) (∀x∈ns,x.natAbs<=10^9)) ⟨o,.un,[],rfl,rfl,by simpa using w,rfl,rfl,λx hx=>by cases hx⟩ (by
   rintro j q acc Z l ⟨U,x,ns,rfl,hx,c,rfl,h4,h5⟩;obtain⟨a,rfl⟩:=nC l;obtain⟨r,o2,v,R,P⟩:=CL c Q1;have Q:aM i (.int (j:Nat)) ((a0::a1::.lv U::rest)++[x])=some ((a0::a1::.lv U::rest)++[.fr (.int (j:Nat))]):=ie (i:=i) (S:=a0::a1::.lv U::rest) (tl:=[]) (by simp;lia) hx;have b:a8 a7 (cR (ab 2)) ((a0::a1::.lv U::rest)++[.fr (.int (j:Nat))])=some (.ok (.fr (.int r)),(a0::a1::.lv o2::rest)++[.fr (.int (j:Nat))]):=au (rs:=[.rf 2]) rfl (cK (as:=[]) (i:=2) (Z:=(a0::a1::Sl.lv U::rest)++[Sl.fr (A.int (j:Nat))]) (r:=Rr.fr (A.int r)) v rfl rfl);refine⟨(a0::a1::.lv U::rest)++[.fr (.int (j:Nat))],Q,.inl ⟨_,.fr (.int r),(a0::a1::.lv o2::rest)++[.fr (.int (j:Nat))],.int r,_,rfl,b,rfl,o2,_,ns++[r],rfl,rfl,P.mono Q1,by rw[Rz];rfl,by simp[h4],λy hy=>?_⟩⟩;rcases Q0.mp hy with z|z
   .exact h5 y z
   .rw[Rl.mp z];exact R)
 rw[iy] at c h4;have e:=rY (n:=1) (by rw[iy];lia) h1;refine⟨ns,o',bJ (iE hm Q1) (e.trans ?_),h4,h5,c⟩;rw[show (a0::a1::Sl.lv o::rest).length=(a0::a1::Sl.lv o'::rest).length from rfl,TB rfl]
theorem B4{rest:List Sl}(hi:rest.length=8){n:Int}(w:Wl n o)(k m:Nat)(hk:k<=20)(b:m<=20)(hn:n<2^30)(hm:mm (a0::a1::.lv o::rest)=some (.ok (.fr (.int m)),a0::a1::.lv o::rest))(D:∀o x,mk (a0::a1::.lv o::(rest++[x]))=some (.ok (.fr (.int k)),a0::a1::.lv o::(rest++[x]))):
  X2 λ(R:List (List Int))(o':LO)=>N4 (aP 1 (cU mm) (aM 11) aO (aP 1 (cU mk) (aM 12) aO (a8 a7 (cR (ab 2)))) (a0::a1::.lv o::rest)=some (.ok (.nw (.lst (R.map lI))),a0::a1::.lv o'::rest)) (R.length=m) (∀r∈R,r.length=k/\∀x∈r,x.natAbs<=10^9) (Wl (n+40*m) o'):=by
 obtain⟨ys,O,h1,o',x,R,rfl,_,c,rfl,h4,h5⟩:=eZ (G:=aM 11) (t:=aO) (e:=aP 1 (cU mk) (aM 12) aO (a8 a7 (cR (ab 2)))) (as:=bI 0 m) (Z:=(a0::a1::.lv o::rest)++[.un])
  (λj acc Z=>X3 λ(o':LO)(x:Sl)(R:List (List Int))=>N6 (Z=(a0::a1::.lv o'::rest)++[x]) (np x=true) (Wl (n+40*j) o') (acc=R.map lI) (R.length=j) (∀r∈R,r.length=k/\∀x∈r,x.natAbs<=10^9)) ⟨o,.un,[],rfl,rfl,by simpa using w,rfl,rfl,λx hx=>by cases hx⟩ (by
   rintro j q acc Z l ⟨U,x,R,rfl,hx,c,rfl,h4,h5⟩;obtain⟨a,rfl⟩:=nC l;obtain⟨ns,o2,v,hl,X,P⟩:=mT (rest:=rest++[.fr (.int (j:Nat))]) (i:=12) (by simp;lia) c k hk Q1 (D U _);have Q:aM 11 (.int (j:Nat)) ((a0::a1::.lv U::rest)++[x])=some ((a0::a1::.lv U::rest)++[.fr (.int (j:Nat))]):=ie (i:=11) (S:=a0::a1::.lv U::rest) (tl:=[]) (by simp;lia) hx;refine⟨(a0::a1::.lv U::rest)++[.fr (.int (j:Nat))],Q,.inl ⟨_,.nw (.lst (ns.map A.int)),(a0::a1::.lv o2::rest)++[.fr (.int (j:Nat))],lI ns,_,rfl,v,rfl,o2,_,R++[ns],rfl,rfl,P.mono Q1,by rw[Rz];rfl,by simp[h4],λy hy=>?_⟩⟩;rcases Q0.mp hy with z|z
   .exact h5 y z
   .rw[Rl.mp z];exact⟨hl,X⟩)
 rw[iy] at c h4;have e:=rY (n:=1) (by rw[iy];lia) h1;refine⟨R,o',bJ (iE hm Q1) (e.trans ?_),h4,h5,c⟩;rw[show (a0::a1::Sl.lv o::rest).length=(a0::a1::Sl.lv o'::rest).length from rfl,TB rfl]
end
abbrev Ox:Ms:=vW (fz (aj (a8 gq (Ck (ah 6) (ah 7) (ah 8) (a8 iw (eO (mix (ab 9) (aA 0)) (mix (ab 9) (aA 1)) (mix (ab 9) (aA 2))))))))
def Oa:Ms:=av (aG 2 (a8 gT (cu (ah 0) (ah 1)))) (av (aG 3 (mix (du (cu (aA 6) (aA 10))) (cx uy (aC iZ (a8 bu (cu (ab 2) (aA 16))) (aA 7))))) (av (aG 4 (a8 bu (cu (ab 2) (ah 3)))) (av (aG 5 (a8 bu (cu (ab 2) (ah 3)))) (av (aG 6 (aP 1 (cU (ab 4)) (aM 11) aO (a8 a7 (cR (ab 2))))) (av (aG 7 (aP 1 (cU (ab 5)) (aM 11) aO (aP 1 (cU (ab 4)) (aM 12) aO (a8 a7 (cR (ab 2)))))) (av (aG 8 (aP 1 (cU (ab 5)) (aM 11) aO (a8 a7 (cR (ab 2))))) (av (aG 9 (du (eO (cx dD (ab 6)) (aP 1 (cH (ab 7)) (aM 11) aO (cx dD (ab 11))) (cx dD (ab 8))))) (av (fT (cU (aA 2)) (aM 10) Ox) (vW (aj (aC iN (ab 9) (du (eO (ab 6) (ab 7) (ab 8))))))))))))))
theorem Hi:E5=cb 10 (av (fT (oF (aA 0) (aC a6 (Dz tj (cx cC (ab 0)) (aA 60)) (aA 1)) (aA 12)) (aM 1) Oa) (bB (mC (.bl true)))):=rfl
abbrev jL(sc:A)(x1 x2 x3 D x5 z v Z h i:Sl):List Sl:=[.fr sc,x1,x2,x3,D,x5,z,v,Z,h,i]
theorem qT(r:List Int):Dt 38 (lI r):=Dt.lst (n:=37) (qC.of λa f=>by obtain⟨j,_,rfl⟩:=Rq.mp f;exact Dt.int _)
variable{x10:Sl}
theorem EM{c:List Int}(f:nL c R L){sc:A}{D s i:Sl}(u:s=.lv (.lst (c.map A.int))\/s=.fr (lI c))(h:i=.lv (.lst (L.map A.int))\/i=.fr (lI L)):
  Ox (jL sc x1 x2 x3 D x5 s (.fr (gI R)) i (.lv (.lst [lI c,gI R,lI L])) x10)=some (.nx,jL sc x1 x2 x3 D x5 (.fr (lI c)) (.fr (gI R)) (.fr (lI L)) (.lv (.lst [lI c,gI R,lI L])) x10):=by
 obtain⟨t,v,l⟩:=Jr f;have Z:∀(k:Nat)(a:A) s i,[lI c,gI R,lI L][k]?=some a->mix (ab 9) (aA k) (jL sc x1 x2 x3 D x5 s (.fr (gI R)) i (.lv (.lst [lI c,gI R,lI L])) x10)=some (.ok (.fr a),jL sc x1 x2 x3 D x5 s (.fr (gI R)) i (.lv (.lst [lI c,gI R,lI L])) x10):=λk a s i e=>ag rfl rfl (bh (.inl rfl) (dM e));have O:a8 iw (eO (mix (ab 9) (aA 0)) (mix (ab 9) (aA 1)) (mix (ab 9) (aA 2))) (jL sc x1 x2 x3 D x5 (.fr (lI c)) (.fr (gI R)) (.fr (lI L)) (.lv (.lst [lI c,gI R,lI L])) x10)=some (.ok (.fr t),jL sc x1 x2 x3 D x5 (.fr (lI c)) (.fr (gI R)) (.fr (lI L)) (.lv (.lst [lI c,gI R,lI L])) x10):=
  au (ae (Z 0 _ _ _ rfl) (ae (Z 1 _ _ _ rfl) (ae (Z 2 _ _ _ rfl) rfl))) (aI v _)
 have H:ah 6 (jL sc x1 x2 x3 D x5 s (.fr (gI R)) i (.lv (.lst [lI c,gI R,lI L])) x10)=some (.ok (.fr (lI c)),jL sc x1 x2 x3 D x5 (.fr (lI c)) (.fr (gI R)) i (.lv (.lst [lI c,gI R,lI L])) x10):=by rcases u with rfl|rfl<;>rfl
 have B:ah 8 (jL sc x1 x2 x3 D x5 (.fr (lI c)) (.fr (gI R)) i (.lv (.lst [lI c,gI R,lI L])) x10)=some (.ok (.fr (lI L)),jL sc x1 x2 x3 D x5 (.fr (lI c)) (.fr (gI R)) (.fr (lI L)) (.lv (.lst [lI c,gI R,lI L])) x10):=by rcases h with rfl|rfl<;>rfl
 exact cq (fK (b:=true) (aB (au (ae H (ae rfl (ae B (ae O rfl)))) (aI (C8 f l) _)))) rfl
theorem Pl{n:Int}(m:Int)(w:Wl n o)(hn:n<2^40)(j:0<m)(K:m<2^64):X2 λ(r:Int)(o':LO)=>N4 (∀a0 a1 Z,eS bu [] [.rf 2,.fr (.int m)] (a0::a1::.lv o::Z)=some (.ok (.fr (.int r)),a0::a1::.lv o'::Z)) (0<=r) (r<m) (Wl (n+1) o'):=by obtain⟨r,o',h,h1,h2,h3⟩:=zU w hn j K;exact⟨r,o',λa0 a1 Z=>cK (as:=[.int m]) (i:=2) (Z:=a0::a1::.lv o::Z) h rfl rfl,h1,h2,h3⟩
theorem DY{i:Int}(P:0<=i)(C:i<=1000){D s x v h:Sl}(h2:np x2=true)(h3:np x3=true)(h4:np D=true)(h5:np x5=true)(u:np s=true)(N:np x=true)(I:np v=true)(K:np h=true)(B:np x10=true):
  Wp Oa (jL (.lst (ns.map A.int)) (.fr (.int i)) x2 x3 D x5 s x v h x10) λf Z=>f=.nx/\∃x2 x3 D x5 s x v h x10,Z=jL (.lst (ns.map A.int)) (.fr (.int i)) x2 x3 D x5 s x v h x10/\(np x2=true/\np x3=true/\np D=true/\np x5=true/\np s=true/\np x=true/\np v=true/\np h=true/\np x10=true):=by
 obtain⟨o,Q,T⟩:=Ia ns i P C;generalize A.lst (ns.map A.int)=sc at Q ⊢;obtain⟨g,t,e1,a1,b1,T⟩:=Pl 16 T Z2 Z2 Z2;obtain⟨mo,E,m6⟩:∃mo:Int,(∀Z,lh Cg (.nw (.lst [.int 6,.int 10])) (.fr (.int (if decide (g=7)=true then 1 else 0))) Z=some (.ok (.fr (.int mo)),Z))/\(mo=6\/mo=10):=by
  by_cases c:g=7
  .exact⟨10,λZ=>by rw[ZA c];exact bh (.inl rfl) rfl,.inr rfl⟩
  .exact⟨6,λZ=>by rw[Zz c];exact bh (.inl rfl) rfl,.inl rfl⟩
 obtain⟨l,o2,e2,a2,b2,J⟩:=Pl mo T Z2 Q1 Q1;obtain⟨V,d,e3,a3,b3,w3⟩:=Pl mo J Z2 Q1 Q1;obtain⟨X,rfl⟩:∃m:Nat,l=m:=⟨l.toNat,by lia⟩
 obtain⟨hi,rfl⟩:∃m:Nat,V=m:=⟨V.toNat,by lia⟩
 refine Wp.st (U:=jL sc (.fr (.int i)) (.lv o) x3 D x5 s x v h x10) (aT (au (ae rfl (ae rfl rfl)) (jB Q _)) rfl rfl h2 rfl) ?_;refine Wp.st (U:=jL sc (.fr (.int i)) (.lv t) (.fr (.int mo)) D x5 s x v h x10) (aT (ag (hJ (rs:=[.fr (.int 6),.fr (.int 10)]) rfl rfl) (eP (ag (au (rs:=[.rf 2,.fr (.int 16)]) rfl (e1 _ _ _)) rfl (jz rfl _)) rfl) (E _)) rfl rfl h3 rfl) ?_;refine Wp.st (U:=jL sc (.fr (.int i)) (.lv o2) (.fr (.int mo)) (.fr (.int X)) x5 s x v h x10) (aT (au (rs:=[.rf 2,.fr (.int mo)]) rfl (e2 _ _ _)) rfl rfl h4 rfl) ?_;refine Wp.st (U:=jL sc (.fr (.int i)) (.lv d) (.fr (.int mo)) (.fr (.int X)) (.fr (.int hi)) s x v h x10) (aT (au (rs:=[.rf 2,.fr (.int mo)]) rfl (e3 _ _ _)) rfl rfl h5 rfl) ?_;obtain⟨c,o4,e4,lc,bc,w4⟩:=mT (a0:=.fr sc) (a1:=.fr (.int i)) (rest:=[.fr (.int mo),.fr (.int X),.fr (.int hi),s,x,v,h,x10]) (i:=11) rfl w3 X Q1 Z2 (mm:=ab 4) rfl;refine Wp.st (U:=jL sc (.fr (.int i)) (.lv o4) (.fr (.int mo)) (.fr (.int X)) (.fr (.int hi)) (.lv (.lst (c.map A.int))) x v h x10) (aT e4 rfl rfl u rfl) ?_;obtain⟨R,o5,e5,lR,H,w5⟩:=B4 (a0:=.fr sc) (a1:=.fr (.int i)) (rest:=[.fr (.int mo),.fr (.int X),.fr (.int hi),.lv (.lst (c.map A.int)),x,v,h,x10]) rfl w4 X hi Q1 Q1 Q1 (mm:=ab 5) (mk:=ab 4) rfl (λ_ _=>rfl);refine Wp.st (U:=jL sc (.fr (.int i)) (.lv o5) (.fr (.int mo)) (.fr (.int X)) (.fr (.int hi)) (.lv (.lst (c.map A.int))) (.lv (.lst (R.map lI))) v h x10) (aT e5 rfl rfl N rfl) ?_;obtain⟨L,j,e6,lL,bL,w6⟩:=mT (a0:=.fr sc) (a1:=.fr (.int i)) (rest:=[.fr (.int mo),.fr (.int X),.fr (.int hi),.lv (.lst (c.map A.int)),.lv (.lst (R.map lI)),v,h,x10]) (i:=11) rfl w5 hi Q1 Q1 (mm:=ab 5) rfl;refine Wp.st (U:=jL sc (.fr (.int i)) (.lv j) (.fr (.int mo)) (.fr (.int X)) (.fr (.int hi)) (.lv (.lst (c.map A.int))) (.lv (.lst (R.map lI))) (.lv (.lst (L.map A.int))) h x10) (aT e6 rfl rfl I rfl) ?_;have fi:nL c R L:=⟨by lia,by lia,by lia,λr q=>by rw[(H r q).1,lc],bc,λr q=>(H r q).2,bL⟩
 have ec:=bH (e:=cx dD (ab 11)) (ts:=R) (k:=lI) (S:=jL sc (.fr (.int i)) (.lv j) (.fr (.int mo)) (.fr (.int X)) (.fr (.int hi)) (.lv (.lst (c.map A.int))) (.fr (gI R)) (.lv (.lst (L.map A.int))) h x10) lI rfl Q1 λr q=>⟨.nw (.lst (r.map A.int)),rfl,rfl⟩
 have e9:du (eO (cx dD (ab 6)) (aP 1 (cH (ab 7)) (aM 11) aO (cx dD (ab 11))) (cx dD (ab 8))) (jL sc (.fr (.int i)) (.lv j) (.fr (.int mo)) (.fr (.int X)) (.fr (.int hi)) (.lv (.lst (c.map A.int))) (.lv (.lst (R.map lI))) (.lv (.lst (L.map A.int))) h x10)=some (.ok (.nw (.lst [lI c,gI R,lI L])),jL sc (.fr (.int i)) (.lv j) (.fr (.int mo)) (.fr (.int X)) (.fr (.int hi)) (.lv (.lst (c.map A.int))) (.fr (gI R)) (.lv (.lst (L.map A.int))) h x10):=
  hJ (rs:=[.nw (.lst (c.map A.int)),.nw (.lst (R.map lI)),.nw (.lst (L.map A.int))]) (ae (eP rfl (nV (r:=.nw (.lst (c.map A.int))) rfl rfl)) (ae (bJ rfl ec) (ae (eP rfl (nV (r:=.nw (.lst (L.map A.int))) rfl rfl)) rfl))) rfl
 refine Wp.st (U:=jL sc (.fr (.int i)) (.lv j) (.fr (.int mo)) (.fr (.int X)) (.fr (.int hi)) (.lv (.lst (c.map A.int))) (.fr (gI R)) (.lv (.lst (L.map A.int))) (.lv (.lst [lI c,gI R,lI L])) x10) (aT e9 rfl rfl K rfl) ?_;refine Wp.sq (Wp.fr (b:=Ox) (as:=bI 0 2) (λk Z=>X3 λ(p y x10:Sl)=>N4 (Z=jL sc (.fr (.int i)) (.lv j) (.fr (.int mo)) (.fr (.int X)) (.fr (.int hi)) p (.fr (gI R)) y (.lv (.lst [lI c,gI R,lI L])) x10) (np x10=true) ((p=.lv (.lst (c.map A.int))/\k=0)\/p=.fr (lI c)) ((y=.lv (.lst (L.map A.int))/\k=0)\/y=.fr (lI L))) (iE (n:=2) rfl Z2) ⟨_,_,_,rfl,B,.inl ⟨rfl,rfl⟩,.inl ⟨rfl,rfl⟩⟩ ?_ ?_)
 .rintro k a Z Y ⟨p,y,w,rfl,hy,G,F⟩;obtain⟨hk,rfl⟩:=nC Y;exact⟨_,ie (S:=[.fr sc,.fr (.int i),.lv j,.fr (.int mo),.fr (.int X),.fr (.int hi),p,.fr (gI R),y,.lv (.lst [lI c,gI R,lI L])]) (tl:=[]) rfl hy,Wp.en (EM fi (G.imp And.left id) (F.imp And.left id)) ⟨.inl rfl,_,_,_,rfl,rfl,.inr rfl,.inr rfl⟩⟩
 .rintro O ⟨p,y,w,rfl,hy,G,F⟩;obtain rfl:p=.fr (lI c):=by
   rcases G with ⟨_,z⟩|z
   .exact absurd z Z2
   .exact z
  obtain rfl:y=.fr (lI L):=by
   rcases F with ⟨_,z⟩|z
   .exact absurd z Z2
   .exact z
  have dh:Dt 40 (.lst [lI c,gI R,lI L]):=Dt.lst (n:=39) (.cons ⟨_,(qT c).choose_spec.1,RE (qT c).choose_spec.2 Z2⟩ (.cons (Dt.lst (n:=38) (qC.of λa Y=>by obtain⟨r,_,rfl⟩:=Rq.mp Y;exact qT r)) (.cons ⟨_,(qT L).choose_spec.1,RE (qT L).choose_spec.2 Z2⟩ .nil)));have ne:lh iN (.rf 9) (.nw (.lst [lI c,gI R,lI L])) (jL sc (.fr (.int i)) (.lv j) (.fr (.int mo)) (.fr (.int X)) (.fr (.int hi)) (.fr (lI c)) (.fr (gI R)) (.fr (lI L)) (.lv (.lst [lI c,gI R,lI L])) w)=some (.ok (.fr (.bl false)),jL sc (.fr (.int i)) (.lv j) (.fr (.int mo)) (.fr (.int X)) (.fr (.int hi)) (.fr (lI c)) (.fr (gI R)) (.fr (lI L)) (.lv (.lst [lI c,gI R,lI L])) w):=fu (o:=none) (a:=.lst [lI c,gI R,lI L]) (b:=.lst [lI c,gI R,lI L]) rfl rfl (by unfold iN;rw[Bv dh];rfl);exact⟨rfl,Wp.en (cq (aB (ag rfl (hJ (rs:=[.fr (lI c),.fr (gI R),.fr (lI L)]) rfl rfl) ne)) rfl) ⟨rfl,_,_,_,_,_,_,_,_,_,rfl,rfl,rfl,rfl,rfl,rfl,rfl,rfl,rfl,hy⟩⟩
theorem DP:∀j,j<=61->IA 0 ((j:Nat):Int) 12=true/\yg 0 ((j:Nat):Int) 12<=6:=by decide +kernel
theorem law_true:∀ns:List Int,ns.length<=63->∃Z,nR.M [.fr (.lst (ns.map A.int))]=some (.rt (.fr (.bl true)),Z):=by
 intro ns N;show ∃Z,E5 [.fr (.lst (ns.map A.int))]=some (.rt (.fr (.bl true)),Z);obtain⟨j,J,L⟩:∃j:Nat,(∀Z,aC a6 (Dz tj (cx cC (ab 0)) (aA 60)) (aA 1) (.fr (.lst (ns.map A.int))::Z)=some (.ok (.fr (.int j)),.fr (.lst (ns.map A.int))::Z))/\j<=61:=by
  refine⟨min ns.length 60+1,λZ=>?_,by lia⟩;refine ag (x:=.fr (.int (if (60:Int)<((ns.map A.int).length:Int) then 60 else ((ns.map A.int).length:Int)))) (y:=.fr (.int 1)) rfl rfl (fu (o:=none) rfl rfl ?_);show some (Rr.fr (.int ((if (60:Int)<((ns.map A.int).length:Int) then 60 else ((ns.map A.int).length:Int))+1)))=_;rw[QU]
  congr 3
  split<;>lia
 obtain⟨s1,s2⟩:=DP j L;have Q:oF (aA 0) (aC a6 (Dz tj (cx cC (ab 0)) (aA 60)) (aA 1)) (aA 12) (jL (.lst (ns.map A.int)) .un .un .un .un .un .un .un .un .un .un)=some (.ok (rA 0 12 (yg 0 j 12)),jL (.lst (ns.map A.int)) .un .un .un .un .un .un .un .un .un .un):=by refine bk (x:=.fr (.int 0)) rfl (bk (J _) (bk (x:=.fr (.int 12)) rfl ?_));show (if IA 0 (j:Int) 12=true then some (RI (rA 0 12 (yg 0 j 12)),_) else none)=_;rw[Zx s1]
 rw[Hi]
 suffices Wp (cb 10 (av (fT (oF (aA 0) (aC a6 (Dz tj (cx cC (ab 0)) (aA 60)) (aA 1)) (aA 12)) (aM 1) Oa) (bB (mC (.bl true))))) [.fr (.lst (ns.map A.int))] λg _=>g=.rt (.fr (.bl true)) by obtain⟨f,Z,e,rfl⟩:=this;exact⟨Z,e⟩
 refine Wp.df (Wp.sq (Wp.Qe (b:=Oa) (rA 0 12 (yg 0 j 12)) (λZ=>∃x1 x2 x3 D x5 z v k c x10,Z=jL (.lst (ns.map A.int)) x1 x2 x3 D x5 z v k c x10/\np x1=true/\(np x2=true/\np x3=true/\np D=true/\np x5=true/\np z=true/\np v=true/\np k=true/\np c=true/\np x10=true)) Q ⟨_,_,_,_,_,_,_,_,_,_,rfl,rfl,rfl,rfl,rfl,rfl,rfl,rfl,rfl,rfl,rfl⟩ ?_ ?_))
 .rintro a r Z ⟨x1,x2,x3,D,x5,z,v,k,c,x10,rfl,h1,h2,h3,h4,h5,u,n,I,K,B⟩;obtain⟨i,hi,rfl⟩:=Rq.mp r;have hi:=RJ.mp hi;refine⟨_,ie (S:=[.fr (.lst (ns.map A.int))]) (tl:=[x2,x3,D,x5,z,v,k,c,x10]) rfl h1,Wp.mono (DY (i:=0+(i:Nat)*12) Q1 Q1 h2 h3 h4 h5 u n I K B) ?_⟩;rintro f F ⟨rfl,Y,s,p,q,E,m,U,X,w,rfl,hy⟩;exact⟨.inl rfl,_,Y,s,p,q,E,m,U,X,w,rfl,rfl,hy⟩
 .rintro O ⟨x1,x2,x3,D,x5,z,v,k,c,x10,rfl,h⟩;exact⟨rfl,Wp.en (aK rfl rfl) rfl⟩
end W
set_option maxHeartbeats 4000000
theorem PySem.Challenge.cw_fitwhatever_k33_whole_programs_holds : PySem.Challenge.rw_fitwhatever_k33_whole_programs.Holds :=
 W.fin W.law_true
#print axioms PySem.Challenge.cw_fitwhatever_k33_whole_programs_holds
