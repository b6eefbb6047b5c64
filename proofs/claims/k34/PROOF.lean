import PyProof.Rows.All
import Wide.All
import OpenK.AllK
import Wide.FinOn
import Lean
import PyProof.EqAt
import PyProof.EqKinds
import PyProof.TupleCall
import PyProof.StrLaws
import PySem.Challenge.RW_fitwhatever_k34_bests_that_are_known
set_option genSizeOf false
set_option genInjectivity false
set_option bootstrap.genMatcherCode false
set_option compiler.extract_closed false
open Bool renaming and_eq_true->QI,not_eq_true'->Rv,false_ne_true->RF,or_eq_true->Su,and_true->SY,and_false->Uu,and_self->UE,false_and->Va,and_eq_true_iff->VP,eq_iff_iff->Wt
open PySem.W renaming Frag->QJ,findIn->RW,emptyDict->R3,keepIn->Se,kitOne->Sf,instObj->Sn,plainGet->S7,hasDictIn->TB,methodCall_KW->T8,lookIn->Ui,codeIn->Uk,plainGet_of->Ut,callWith_K->Uw,methodObj->Uz,isFn->UA,plainOver->UB,fnOf->UC,takerIn->UW,makesIn->UX,cellsFrom_some->Vg,nsIn->Vi,handedIn->VU,OpenLaw->V5,WalkO->Wh,Hook->Wx,SharedT->Y2
open List renaming mem_append_right->QK,getElem?_eq_some_iff->QL,mem_append_left->QM,append_assoc->QN,mem_append->QO,mem_cons_of_mem->QP,size_toArray->QQ,length_map->QU,nodup_append->QV,mem_cons->QW,length_cons->QX,replicate->QZ,mem_cons_self->Q0,lookup_cons->Q2,getElem?_set_self->Q6,length_append->Q7,range->Q8,getElem?_eq_getElem->Rb,mem_singleton->Rc,all_cons->Rg,getElem?_set_ne->Rj,getD->Rk,nodup_cons->Rl,map_append->Rq,getElem?_map->Rt,mem_map->Rx,map_map->Ry,eraseIdx_eq_take_drop_succ->RB,map_cons->RC,mem_of_getElem?->RD,getElem?_append_right->RG,lookup_append->RH,mem_range->RJ,map_congr_left->RK,not_mem_nil->RL,length_take->RN,append_nil->RT,getElem?_append_left->RV,idxOf_lt_length_of_mem->R1,getElem_of_mem->R6,perm_middle->R8,all_eq_true->R9,isEmpty_iff->Sa,getD_eq_getElem?_getD->Sj,getElem?_eq_none->Sk,getElem?_zip_eq_some->Sr,of_mem_zip->Ss,ext_getElem?->Sv,mem_of_mem_take->Sw,getElem?_range->SE,filter_eq_nil_iff->SF,take_append_drop->SI,contains_iff_mem->SJ,cons_append->SR,getElem?_eq_none_iff->SS,drop_eq_getElem_cons->SU,replicate_succ->SV,perm_iff_count->SW,map_take->S0,length_zip->S1,take_left'->S2,zip_cons_cons->S3,count_append->S5,take_add_one->S6,length_singleton->Tf,perm_append_comm->Tg,lookup->Tj,filterMap_cons->Tt,map_nil->Tu,all_nil->Tw,sublist_append_right->TH,any_eq_false->TJ,flatten_cons->TK,reverse_cons->TL,length_range->TN,getElem?_take_of_lt->TU,eq_of_mem_replicate->TY,drop_length->T7,range_succ_eq_map->Uc,getElem_cons_drop->Ud,map_set->Ue,mem_filter->Ug,nil_append->Um,set_append_right->Us,mem_of_mem_drop->Uv,map_drop->UG,mem_filterMap->UH,foldl->UI,getElem_idxOf->UJ,getElem_range->UK,set_eq_take_append_cons_drop->UP,take_sublist->UR,all_map->US,ext_getElem->U1,length_set->U5,getElem?_replicate->Vv,getElem?_cons_zero->Vx,any_map->VB,take_of_length_le->VD,length_replicate->VE,getElem?_toArray->VH,countP_le_length->VL,any->VO,length_eraseIdx->VQ,length_pos_iff->VY,getD_cons_zero->V0,filter_append->V6,getElem_inj->Wb,length_drop->Wc,map_reverse->Wd,take_length->Wf,drop->Wi,countP_cons->Wm,nodup_range->Wn,any_eq_true->Wo,getElem_map->Wr,forIn_cons->Wu,sum_append->Wv,append_inj->Ww,drop_left'->Wy,map->WB,drop_zero->WE,any_cons->WG,drop_nil->WI,map_id'->WU,length->WY,take->XA
open Nat renaming le_refl->QR,lt_of_lt_of_le->Q3,le_of_lt->Q4,lt_succ_of_lt->Q9,lt_irrefl->Rf,le_trans->Rn,lt_succ_self->Ru,ne_of_lt->Rw,lt_succ_of_le->RE,le_of_ble_eq_true->RP,lt_of_le_of_lt->RS,not_lt_zero->RZ,zero_le->R7,le_add_right->Si,ble->Sz,pow_le_pow_right->SN,lt_trans->Tc,sub_self->Td,pow_pos->To,mul_comm->Tz,le_of_lt_succ->TR,succ_le_succ->Ua,add_sub_cancel_left->Ub,ne_of_gt->Uh,le_of_eq->Uj,not_lt->Ul,zero_add->Uo,succ_pos->Uq,le_succ->Ux,succ_ne_zero->U4,mul_le_mul->Vh,eq_of_mul_eq_mul_left->Vp,mul_assoc->Vw,min_self->VF,sub_zero->VI,log2_lt->VW,pow_add->VX,one_mul->V1,mul_le_mul_right->V2,le_succ_of_le->We,lt_trichotomy->Wj,le_max_right->Ws,le_max_left->WA,succ_mul->W3,add_comm->W4,pow_succ->W6
open PySem.Heap renaming get?_push_of_some->QY,lt_size->Q5,get?_push_size->Rp,size_push->SM,SameBut->UQ,get?_update_other->Vz
open Option.some renaming inj->Rh,injEq->Vr
open Int renaming mul_comm->Ri,mul_zero->Rm,ne_of_gt->Rz,gcd->RQ,natAbs_mul->RU,mul_fdiv_cancel_left->RY,one_mul->R0,le_of_lt->R4,add_zero->R5,neg_one_mul->Sd,mul_one->Sg,eq_of_mul_eq_mul_right->Sm,gcd_pos_of_ne_zero_right->SH,negSucc->S4,fmod_nonneg_of_pos->S8,zero_mul->Ta,ofNat->Ti,le_trans->Tx,le_refl->TQ,gcd_dvd_right->TV,mul_assoc->T5,zero_add->Up,le_of_eq->Ur,mul_ediv_cancel'->Uy,lt_or_gt_of_ne->UM,fmod_lt_of_pos->UN,gcd_zero_right->UO,toNat_natCast->UY,gcd_comm->UZ,gcd_dvd_left->U2,mul_add->U6,mul_ne_zero->U9,mul_lt_mul_of_pos_left->Vj,not_lt->Vk,mul_neg_of_pos_of_neg->Vq,lt_of_mul_lt_mul_left->Vs,fdiv_eq_ediv_of_dvd->VC,lt_or_le->VG,zero_sub->VJ,natAbs_dvd_natAbs->VN,mul_pos->VZ,mul_eq_zero->WD,natAbs_neg->WH,add_nonneg->WJ,neg_dvd->Xa,natAbs->Xz
open Except renaming ok->RI
open Option renaming isNone_iff_eq_none->RM,getD_some->Te,getD_none->V4,map_some->V8
open Ne renaming symm->RO
open PyProof.Rows renaming callWith_type1->RX,slot_tuple_getitem->SX,callWith_builtin1->W8,list_addW->Xb,Call_->Xd,zipApart_new->Xe,envOfC->Xu,assignInOrder_cons->Yk,AllBare->Yl,boot_range->YB,subscriptTail_builtinR->YE,envOfC->YJ,assignInOrder_nil->YR,IntsAre->Y1
open PySem.F renaming plainAttrs_list->Sb,slot_list_append->TC,type_list_append->TF,slot_list_index->TM,type_list_index->Vd,slot_int_rmul->WS
open PySem.Builtin.Range renaming rangeSize->So,small->T6
open False renaming elim->Sy
open PySem renaming mem_of_lookup->SA,Str->Vl,Within->Vt,call->VV,starEach->XB,wpAny_bind->XC,bootBuiltins->XD,attributeBase->XE,wpAny_pure->XF,wpAny->XG,model->XH,backTo->XI,mainGlobals->XJ,World->XM,Around->XN,keywordEach->XO,FuncData->XQ,behindInMarks->XR,assignEach->XT,foldedSetIterable->XU,Keyword->XW,swapsWith->XX,backToKw->XY,compareOp->XZ,wpAny_passesOwn->X0,wpAny_newObj_type->X1,sizeLine_eq->X4,swappedStores->X6,wpAny_truthy_bool->X7,wpAny_pyIter_list->X8,binaryOp->X9,wpAny_mono->Yb,wpAny_Call_Name_kw->Yc,methodCallForm->Yd,swapsWithSole->Ye,intItems->Yg,wpAny_execs_nil->Yh,letOwnedTupleGo->Yi,CmpOp->Yj,standAt->Ym,codeAny->Yn,sliceBounds->Yo,wpAny_holding->Yp,wpAny_standAt->Yr,wpAny_comprehension_free->Ys,Comprehension->Yt,PassesOwn->Yu,getMethod->Yv,seqIndex?->Yw,treeTable->Yx,builtinsNs->Yy,wpAny_pyNext_range_end->Yz,wpAny_pyIter_rangeiter->YA,BindsTo->YC,codeAny_mono->YD,call_meets->YF,callerA->YG,wpAny_loadPart'->YH,wpAny_isTrue_Compare1->YI,intItems_at->YK,assignInOrder->YL,sysModules->YM,wpAny_pyIter_range->YN,IsPart->YO,wpAny_assign_Name->YQ,callWith->YS,seqIndex_neg->YT,wpAny_pyIter_enum->YU,FuncBody->YV,isTrue->YW,IsRangeIter->YX,wpAny_field->YY,seqIndex_of->YZ,getItem->Y0,wpAny_Name->Y3,bindName->Y4,Operator->Y5,bindL->Y6,bindC->Y7,typeIs_int->Y8,IntMulOk->Y9
open PySem.Value renaming ref->SD,int->TZ,none->VS,bool->VT,str->V7,bytes->WK,float->WL,type->WV
open PySem.Builtin.Slice renaming slicePlaces->SG,sliceAdjust->Th,sliceApplied->UD,slicePartIndex->WZ,sliceFields->W0
open PySem.Builtin.Tuple renaming tupleExact->SK,tupleItemsOf->W2
open ForInStep renaming yield->SO
open PySem.NameKind renaming free->SQ
open List.Sublist renaming append->S9,refl->Tn
open Array renaming length_toList->Tp,getElem?_eq_getElem->Vc,toList->Vu,getElem?_toList->VA,toList_inj->Wa
open PySem.Builtin.List renaming listTooLong->Ts,listFitsIndex->Xc
open PySem.MeetsSeq renaming plain_index_loop->Tv,entry_index_loop->U3
open Rat renaming divInt_eq_divInt_iff->T4,divInt->Xx
open PySem.SeqAt renaming EqAt->T9
open PySem.Obj renaming mapSeq->UL
open Sum renaming inl->UT,inr->UU
open PySem.Builtin renaming divisionGoesByPylong->U0
open PySem.Calls renaming Name_function_global->U7,call_len_list->VM
open PySem.Walks renaming list->U8,range->WN
open PySem.Builtin.Int renaming intBits->Vb
open List.Pairwise renaming map->Vf,nil->W5
open PySem.SeqAt.EqAt renaming int_str->Vm,str_int->Vn
open PySem.Around renaming under->Vo
open PySem.Code renaming isFrame->Vy,frames->WX
open True renaming intro->V3
open Nat.succ renaming inj->Wg
open PySem.IsRange renaming new->Wz
open PySem.W.SharedT renaming abs->WC
open PySem.CmpOp renaming NotIn->WM,In->Xv
open PySem.Heap.IsSliceOf renaming new->WO
open PySem.W.WShape renaming has->WQ
open Or renaming inr->WR
open Eq renaming trans->WT
open PySem.W.Looks renaming here->WW
open PySem.Within renaming cons->W7
open PySem.W.WData renaming int->W9
open PySem.W.Fast renaming tw11892475500146522536->Xf,tw14364793385576792824->Xg,tw6613529449190102663->Xh,tw10156331382660048174->Xi,tw10274390034422433532->Xj,tw14289696077712309145->Xk,tw4187177175401517315->Xl,te11892475500146522536->Xm,te14364793385576792824->Xn,te6613529449190102663->Xo,te10156331382660048174->Xp,te10274390034422433532->Xq,te14289696077712309145->Xr,te4187177175401517315->Xs
open PySem.Flow renaming next->Xw
open Nat.Coprime renaming dvd_of_dvd_mul_left->Xy
theorem Q1{p:Prop}(h:p:=by lia):p:=h
theorem Z2{p:Prop}(h:p:=by decide):p:=h
theorem Z3{p:Prop}(h:p:=by decide +kernel):p:=h
theorem Z4{p:Prop}(h:p:=by simp):p:=h
theorem Za:type_of% @if_pos:=@if_pos
theorem Zb:type_of% @if_neg:=@if_neg
theorem Zc:type_of% @decide_eq_false:=@decide_eq_false
theorem Zd:type_of% @decide_eq_true:=@decide_eq_true
theorem Ze:type_of% @congrArg:=@congrArg
theorem Zf:type_of% @beq_iff_eq:=@beq_iff_eq
theorem Zg:type_of% @of_decide_eq_true:=@of_decide_eq_true
set_option linter.all false
variable{b:Int}
theorem Mc{n a:Int}(h:n<a:=by assumption)(d:decide (a<=b)=true:=by decide):n<b:=Int.lt_of_lt_of_le h (Zg d)
variable{k:Int}
theorem NO{n a:Int}(h:n<a:=by assumption)(d:decide (a+k<=b)=true:=by decide):n+k<b:=Mc (Int.add_lt_add_right h k) d
variable{l:Int}
theorem Qu{n a:Int}(h:n<a:=by assumption)(d:decide (a+k+l<=b)=true:=by decide):n+k+l<b:=NO (NO h (Zd (TQ _))) d
theorem QH{n a p:Int}(h:n<a:=by assumption)(d:decide (a+k+l+p<=b)=true:=by decide):n+k+l+p<b:=Qu (NO h (Zd (TQ _))) d
theorem QE{n a:Int}(h:n<=a:=by assumption)(d:decide (a<=b)=true:=by decide):n<=b:=Tx h (Zg d)
variable{m:Int}
theorem Qm{n:Int}(d:decide (k<=m)=true:=by decide):n+k<=n+m:=Int.add_le_add_left (Zg d) n
theorem QF{n:Int}(d:decide (k+l<=m)=true:=by decide):n+k+l<=n+m:=Int.add_assoc n k l▸Qm d
variable{x y z:Nat}
theorem qw(h:x<=y:=by assumption)(d:decide (y<=z)=true:=by decide):x<=z:=Rn h (Zg d)
theorem Z5{p:Prop}(h:p:=by exact qw):p:=h
theorem Qb{c:Nat}(h:x<=y:=by assumption)(d:decide (y+c<=z)=true:=by decide):x+c<=z:=qw (Nat.add_le_add_right h c) d
theorem Qj(h:x<=y:=by assumption)(d:decide (y<z)=true:=by decide):x<z:=RS h (Zg d)
theorem Ql(h:x<y:=by assumption)(d:decide (y<=z)=true:=by decide):x<z:=Q3 h (Zg d)
theorem QD(d:decide (y<=z)=true:=by decide):x+y<=x+z:=Nat.add_le_add_left (Zg d) x
theorem QG(h:x<y:=by assumption)(d:decide (y<=z+1)=true:=by decide):x<=z:=TR (Ql h d)
variable{P:Prop}
theorem cF{α:Type}{x:α}(h:none=some x):P:=nomatch h
theorem BG(h:false=true):P:=nomatch h
set_option Elab.async false
set_option maxRecDepth 100000
abbrev fM(x:Vl):Prop:=(x==("__debug__" : Vl))=false
abbrev lG(x:Vl):Prop:=(x==("__classdict__" : Vl))=false
noncomputable section
namespace L2
open PySem PySem.Spec PyProof.Rows
noncomputable abbrev Key:=Sum Int Str
noncomputable def FE:Key->Value->Bool
 | .inl k,v=>Value.isInt k v
 | .inr x,v=>Value.isStrOf x v
noncomputable def Om(w:XM):Key->Int
 | .inl k=>hashInt k
 | .inr x=>hashStr w x
theorem cz:∀{k:Key}{v:Value},FE k v=true->(∃i t,k=UT i/\v=TZ i t)\/(∃x t,k=UU x/\v=V7 x t)
 | .inl i,v,h=>by obtain⟨t,e⟩:=Value.isInt_shape (k:=i) (v:=v) h;exact .inl ⟨i,t,rfl,e⟩
 | .inr x,v,h=>by obtain⟨t,e⟩:=Value.isStrOf_shape (x:=x) (v:=v) h;exact .inr ⟨x,t,rfl,e⟩
theorem Hj(a b:Int):decide ((UT a:Key)=UT b)=(a==b):=by
 by_cases e:a=b
 .subst e;simp
 .have h:¬ (UT a:Key)=UT b:=λq=>e (UT.inj q);rw[Zc h];exact(beq_eq_false_iff_ne.mpr e).symm
theorem Jz(a b:Str):decide ((UU a:Key)=UU b)=decide (a=b):=by
 by_cases e:a=b
 .subst e;simp
 .have h:¬ (UU a:Key)=UU b:=λq=>e (UU.inj q);simp only[Zc h,Zc e]
theorem Iv(a:Int)(b:Str):decide ((UT a:Key)=UU b)=false:=Zc (λq=>nomatch q)
theorem G7(a:Str)(b:Int):decide ((UU a:Key)=UT b)=false:=Zc (λq=>nomatch q)
def iG(prog:Program)(w:XM):PySem.KeyKind prog w Key where
 is:=FE
 hash:=Om w
 inj:=λv a b f d=>by
  rcases cz f with ⟨i,t,rfl,rfl⟩|⟨x,t,rfl,rfl⟩
  .rcases cz d with ⟨j,u,rfl,e⟩|⟨y,u,rfl,e⟩
   .injection e with e1 _;rw[e1]
   .exact nomatch e
  .rcases cz d with ⟨j,u,rfl,e⟩|⟨y,u,rfl,e⟩
   .exact nomatch e
   .injection e with e1 _;rw[e1]
 byValue:=λk v h=>by rcases cz h with ⟨i,t,rfl,rfl⟩|⟨x,t,rfl,rfl⟩<;>rfl
 pyHash:=λc h=>by
  rcases cz c with ⟨i,t,rfl,rfl⟩|⟨x,t,rfl,rfl⟩
  .exact wpAny_pyHash_int h
  .exact wpAny_pyHash_str h
 eqBool:=λg c h=>by
  rcases cz g with ⟨i,t,rfl,rfl⟩|⟨x,t,rfl,rfl⟩
  .rcases cz c with ⟨j,u,rfl,rfl⟩|⟨y,u,rfl,rfl⟩
   .rw[Hj] at h;exact wpAny_eqBool_int h
   .rw[Iv] at h;exact Vm i t y u _ _ _ _ h
  .rcases cz c with ⟨j,u,rfl,rfl⟩|⟨y,u,rfl,rfl⟩
   .rw[G7] at h;exact Vn x t j u _ _ _ _ h
   .rw[Jz] at h;exact wpAny_eqBool_str h
 «strs»:=λk x t v h=>by
  rcases cz h with ⟨i,u,rfl,e⟩|⟨y,u,rfl,e⟩
  .exact nomatch e
  .injection e with e1 _;subst e1;cases v<;>rfl
inductive V where
 |non|bl(b:Bool)|int(i:Int)|str(x:Str)|byt(b:Array UInt8)|flt(b:UInt64)|ref(a:Addr)|ty(n:String)
 deriving DecidableEq
def RelV:V->Value->Prop
 | .non,u=>u=VS
 | .bl b,u=>u=VT b
 | .int i,u=>∃t,u=TZ i t
 | .str x,u=>∃t,u=V7 x t
 | .byt b,u=>∃t,u=WK b t
 | .flt b,u=>∃t,u=WL b t
 | .ref a,u=>u=SD a
 | .ty n,u=>u=WV n
abbrev Vals:List V->List Value->Prop:=Paired RelV
theorem Vals.length{xs:List V}{us:List Value}(r:Vals xs us):xs.length=us.length:=Paired.length r
theorem Vals.get:∀{xs:List V}{us:List Value}{i:Nat}{x:V},Vals xs us->xs[i]?=some x->∃u,us[i]?=some u/\RelV x u
 |_,_,_,_,.nil,e=>by simp at e
 |_,_,0,_,.cons r _,e=>by simp at e;subst e;exact⟨_,rfl,r⟩
 |_,_,i+1,x,.cons _ t,e=>by obtain⟨u,h1,h2⟩:=Vals.get (i:=i) (x:=x) t (by simpa using e);exact⟨u,by simpa using h1,h2⟩
theorem Vals.set{x:V}{u:Value}(r:RelV x u):∀{xs:List V}{us:List Value}(i:Nat),Vals xs us->Vals (xs.set i x) (us.set i u)
 |_,_,_,.nil=>.nil
 |_,_,0,.cons _ t=>.cons r t
 |_,_,i+1,.cons q t=>.cons q (Vals.set r i t)
theorem Vals.append:∀{xs ys:List V}{us ws:List Value},Vals xs us->Vals ys ws->Vals (xs++ys) (us++ws)
 |_,_,_,_,.nil,s=>s
 |_,_,_,_,.cons r t,s=>.cons r (Vals.append t s)
theorem Vals.take:∀{xs:List V}{us:List Value}(n:Nat),Vals xs us->Vals (xs.take n) (us.take n)
 |_,_,0,_=>.nil
 |_,_,_+1,.nil=>.nil
 |_,_,n+1,.cons r t=>.cons r (Vals.take n t)
theorem Vals.drop:∀{xs:List V}{us:List Value}(n:Nat),Vals xs us->Vals (xs.drop n) (us.drop n)
 |_,_,0,r=>r
 |_,_,_+1,.nil=>.nil
 |_,_,n+1,.cons _ t=>Vals.drop n t
theorem Vals.none_of:∀{xs:List V}{us:List Value}{i:Nat},Vals xs us->xs[i]?=none->us[i]?=none:=λ{xs us i} r e=>by have h1:=r.length;have h2:xs.length<=i:=SS.mp e;exact SS.mpr Q1
def nD:Option V->Option Value->Prop
 |some v,some u=>RelV v u
 |none,none=>True
 |_,_=>False
def KV{a:Type}:List (a×V)->List (a×Value)->Prop:=Paired λ(p:a×V)(q:a×Value)=>p.1=q.1/\RelV p.2 q.2
noncomputable def kV:Key->V
 | .inl i=>.int i
 | .inr x=>.str x
inductive HO where
  |lst(xs:List V)
  |tup(xs:List V)
  |dK(kvs:List (Key×V))|dT(kvs:List (List Key×V))
  |set(S:Int->Bool)(n:Nat)
  |ins(C dx:Addr)(fs:List (Str×V))
  |own(x:Addr)
  |xd(fs:List (Str×V))
  |met(f x:Addr)
  |xX(lo hi:Int)
  |frz(o:Obj)(u:HO)
  |tbl(ps:Array Value)
  |ext(Z:Heap->Prop)
 |exd(Z:Heap->Prop)
noncomputable abbrev Hp:=Addr->Option HO
noncomputable def upd(H:Hp)(a:Addr)(o:HO):Hp:=λb=>if b=a then some o else H b
variable{H:Hp}
theorem aN{a:Addr}{o:HO}:upd H a o a=some o:=by unfold upd;rw[Za rfl]
theorem aq{a b:Addr}{o:HO}(h:b≠a):upd H a o b=H b:=by unfold upd;rw[Zb h]
theorem vY{a:Addr}{o u:HO}:upd (upd H a o) a u=upd H a u:=by funext b;unfold upd;split<;>rfl
theorem aJ{a b:Addr}{o:HO}(h:H a=some o)(h':H b=none):a≠b:=by intro e;subst e;rw[h] at h';cases h'
variable{h:Heap}
section
variable(P:Program)(w:XM)
def ja(h:Heap)(a:Addr)(items:Array Value):Prop:=∃o,h.get? a=some o/\o.cls=.type "tuple" /\ ∃n,o.data=.seq items n/\o.dict=none
theorem ja.t{a:Addr}{items:Array Value}(x:ja h a items):IsTup h a items:=let ⟨o,e,c,n,d,_⟩:=x;⟨o,e,c,n,d⟩
theorem ja.new(h:Heap)(items:Array Value):ja (h.push { cls:=.type "tuple",data:=.seq items }) h.objs.size items:=⟨_,Rp _ rfl,rfl,_,rfl,rfl⟩
def dQ(H:Hp)(h:Heap)(a:Addr):HO->Prop
 | .lst xs=>xs.length<=sizeLine/\∃(b:List Value)(n:Nat),Vals xs b/\h.get? a=some { cls:=.type "list",data:=.seq b.toArray n }
 | .tup xs=>xs.length<=sizeLine/\∃b:List Value,Vals xs b/\ja h a b.toArray
 | .dK kvs=>kvs.length<=sizeLine/\(a==YM)=false/\∃vs,KV kvs vs/\h.DictOf (iG P w) a vs
 | .dT kvs=>kvs.length<=sizeLine/\(a==YM)=false/\∃xs:List (List Key×Addr×Value),
   Paired (λ(p:List Key×V)(q:List Key×Addr×Value)=>p.1=q.1/\H q.2.1=some (.tup (p.1.map kV))/\RelV p.2 q.2.2) kvs xs /\
   ∃o es e,h.get? a=some o/\o.ExactDict/\o.data=.dict es e/\es.toList=xs.map (entryOfKey (tupleKind (iG P w)))/\(xs.map (·.1)).Nodup
 | .set S n=>h.SetOf (intKind P w) a S n
 | .ins C dx fs=>H dx=some (.own a)/\fs.length<=1000/\dx≠a/\h.get? a=some (Sn C dx) /\
   ∃mA,h.Ns1 dx mA/\(∀f,nD (fs.lookup f) (mA f))/\Vt mA (fs.map (·.1))
 | .own _=>∃o,h.get? a=some o
 | .xd fs=>∃mA,h.Ns1 a mA/\∀f,nD (fs.lookup f) (mA f)
 | .xX lo hi=>∃t u v,h.get? a=some { cls:=.type "range",data:=.fields #[.int lo t,.int hi u,.int 1 v] }
 | .frz o u=>h.get? a=some o/\dQ H h a u
 | .tbl ps=>h.get? a=some { cls:=.none,data:=.fields ps }
 | .met f x=>h.get? a=some (Uz (.ref f) (.ref x))
 | .ext Z=>Z h/\(∃o,h.get? a=some o)/\∀h1 h2:Heap,Z h1->(∀o,h1.get? a=some o->h2.get? a=some o)->Z h2
 | .exd Z=>Z h/\(∃o,h.get? a=some o)/\∀h1 h2:Heap,Z h1->(∀o,h1.get? a=some o->h2.get? a=some o)->Z h2
def kD(H:Hp)(h:Heap):Prop:=∀a o,H a=some o->dQ P w H h a o
end
section
variable{P:Program}{w:XM}{H H':Hp}{h h':Heap}{a:Addr}{o:HO}
theorem dQ.lt(x:dQ P w H h a o):a<h.objs.size:=by
 cases o with
 |lst xs=>obtain⟨_,_,_,_,e⟩:=x;exact Q5 e
 |tup xs=>obtain⟨_,_,_,p⟩:=x;exact p.t.lt
 |dK kvs=>obtain⟨_,_,_,_,o,_,_,e,_⟩:=x;exact Q5 e
 |dT kvs=>obtain⟨_,_,_,_,o,_,_,e,_⟩:=x;exact Q5 e
 |set S n=>obtain⟨o,_,_,_,e,_⟩:=x;exact Q5 e
 |ins C dx fs=>obtain⟨_,_,_,e,_⟩:=x;exact Q5 e
 |own y=>obtain⟨_,e⟩:=x;exact Q5 e
 |xd fs=>obtain⟨_,⟨_,_,_,e,_⟩,_⟩:=x;exact Q5 e
 |xX lo hi=>obtain⟨_,_,_,e⟩:=x;exact Q5 e
 |frz ob u=>obtain⟨e,_⟩:=x;exact Q5 e
 |tbl ps=>exact Q5 (show h.get? a=some _ from x)
 |met f y=>exact Q5 (show h.get? a=some _ from x)
 |ext Z=>obtain⟨_,⟨_,e⟩,_⟩:=x;exact Q5 e
 |exd Z=>obtain⟨_,⟨_,e⟩,_⟩:=x;exact Q5 e
theorem Paired.Ly{α D:Type}{F G:α->D->Prop}:∀{l₁:List α}{l₂:List D},Paired F l₁ l₂->(∀a b,F a b->G a b)->Paired G l₁ l₂
 |_,_,.nil,_=>.nil
 |_,_,.cons r t,f=>.cons (f _ _ r) (Paired.Ly t f)
theorem dQ.jL(x:dQ P w H h a o)(k:∀b u,(b=a\/H b=some (.own a))->h.get? b=some u->h'.get? b=some u)
  (ho:∀b,H b=some (.own a)->H' b=some (.own a))(l:∀b xs,H b=some (.tup xs)->H' b=some (.tup xs)):dQ P w H' h' a o:=by
 induction o with
 |lst xs=>obtain⟨z,j,n,r,e⟩:=x;exact⟨z,j,n,r,k _ _ (.inl rfl) e⟩
 |tup xs=>obtain⟨z,j,r,ob,e,c⟩:=x;exact⟨z,j,r,ob,k _ _ (.inl rfl) e,c⟩
 |dK kvs=>obtain⟨z,y,vs,r,ob,es,i,e,c⟩:=x;exact⟨z,y,vs,r,ob,es,i,k _ _ (.inl rfl) e,c⟩
 |dT kvs=>obtain⟨z,y,xs,r,ob,es,i,e,c⟩:=x;exact⟨z,y,xs,Paired.Ly r λp q z=>⟨z.1,l _ _ z.2.1,z.2.2⟩,ob,es,i,k _ _ (.inl rfl) e,c⟩
 |set S n=>obtain⟨ob,es,i,t,e,c⟩:=x;exact⟨ob,es,i,t,k _ _ (.inl rfl) e,c⟩
 |ins C dx fs=>obtain⟨d,z,ne,e,mA,⟨od,es,i,e2,c⟩,r⟩:=x;exact⟨ho _ d,z,ne,k _ _ (.inl rfl) e,mA,⟨od,es,i,k _ _ (.inr d) e2,c⟩,r⟩
 |own y=>obtain⟨ob,e⟩:=x;exact⟨ob,k _ _ (.inl rfl) e⟩
 |xd fs=>obtain⟨mA,⟨od,es,i,e,c⟩,r⟩:=x;exact⟨mA,⟨od,es,i,k _ _ (.inl rfl) e,c⟩,r⟩
 |xX lo hi=>obtain⟨t,u,v,e⟩:=x;exact⟨t,u,v,k _ _ (.inl rfl) e⟩
 |frz ob u m=>obtain⟨e,q⟩:=x;exact⟨k _ _ (.inl rfl) e,m q⟩
 |tbl ps=>have e:h.get? a=some { cls:=.none,data:=.fields ps }:=x;show h'.get? a=some { cls:=.none,data:=.fields ps };exact k a _ (.inl rfl) e
 |met f y=>have e:h.get? a=some (Uz (.ref f) (.ref y)):=x;show h'.get? a=some (Uz (.ref f) (.ref y));exact k a _ (.inl rfl) e
 |ext Z=>obtain⟨p,⟨o,e⟩,st⟩:=x;exact⟨st _ _ p λo q=>k _ _ (.inl rfl) q,⟨o,k _ _ (.inl rfl) e⟩,st⟩
 |exd Z=>obtain⟨p,⟨o,e⟩,st⟩:=x;exact⟨st _ _ p λo q=>k _ _ (.inl rfl) q,⟨o,k _ _ (.inl rfl) e⟩,st⟩
theorem kD.lt(x:kD P w H h)(e:H a=some o):a<h.objs.size:=(x a o e).lt
theorem kD.fresh(x:kD P w H h)(e:h.objs.size<=a):H a=none:=by
 cases q:H a with
 |none=>rfl
 |some u=>exact absurd (Q3 (x.lt q) e) (Rf _)
theorem kD.kept(x:kD P w H h)(k:∀b u,h.get? b=some u->h'.get? b=some u):kD P w H h':=λa o e=>(x a o e).jL (λb u _ q=>k b u q) (λ_ q=>q) λ_ _ q=>q
theorem kD.laid(x:kD P w H h)(k:∀b u,h.get? b=some u->h'.get? b=some u)(hp:h.objs.size<=a)(new:dQ P w (upd H a o) h' a o):kD P w (upd H a o) h':=λb u e=>by
 have hn:=x.fresh hp;by_cases d:b=a
 .subst d;rw[aN] at e;cases e;exact new
 .rw[aq d] at e;exact(x b u e).jL (λc v _ q=>k c v q) (λc q=>by rw[aq (aJ q hn)];exact q) λc xs q=>by rw[aq (aJ q hn)];exact q
end
def Rd(H:Hp)(a:Addr)(u:HO):Prop:=H a=some u\/∃o,H a=some (.frz o u)
variable{w:XM}
theorem Rd.ok{P:Program}{a:Addr}{u:HO}(r:Rd H a u)(x:kD P w H h):dQ P w H h a u:=by
 rcases r with r|⟨o,r⟩
 .exact x a u r
 .obtain⟨_,q⟩:=x a _ r;exact q
def N5:Option HO->Prop
 |some (.lst _)=>True
 |some (.dK _)=>True
 |some (.dT _)=>True
 |some (.set _ _)=>True
 |some (.ins _ _ _)=>True
 |some (.ext _)=>True
 |some (.exd _)=>True
 |_=>False
section
variable{P:Program}{w:XM}{H:Hp}{h h':Heap}{x e:Addr}{o':HO}
theorem kD.write(ok:kD P w H h)(mu:N5 (H x))(he:e=x\/H e=some (.own x))(k:∀b u,b≠e->h.get? b=some u->h'.get? b=some u)(s:∃u,h'.get? e=some u)
  (new:dQ P w (upd H x o') h' x o'):kD P w (upd H x o') h':=λb u q=>by
 have o:∀c y,H c=some (.own y)->c≠x:=λc y r z=>by subst z;rw[r] at mu;exact mu
 have p:∀c xs,H c=some (.tup xs)->c≠x:=λc xs r z=>by subst z;rw[r] at mu;exact mu
 by_cases d:b=x
 .subst d;rw[aN] at q;cases q;exact new
 .rw[aq d] at q;by_cases n:b=e
  .have t:H b=some (.own x):=by
    rcases he with z|z
    .exact absurd (n.trans z) d
    .rw[n];exact z
   rw[q] at t;cases t;obtain⟨v,A⟩:=s;exact⟨v,by rw[n];exact A⟩
  .refine(ok b u q).jL (λc v hc r=>k c v ?_ r) (λc r=>by rw[aq (o c b r)];exact r) λc xs r=>by rw[aq (p c xs r)];exact r
   rcases hc with rfl|hc
   .exact n
   .rintro rfl;rcases he with z|z
    .exact o c b hc z
    .rw[hc] at z;cases z;exact d rfl
end
structure Un(fs ex:List Addr)(H H':Hp)(h h':Heap):Prop where
 keep:∀b o,h.get? b=some o->H b=none->b∉fs->b∉ex->h'.get? b=some o
 slot:∀b o,h.get? b=some o->H b=none->b∈fs->b∉ex->∃sl,h'.get? b=some { o with slots:=sl }
 free:∀b o,h.get? b=some o->H b=none->b∉ex->H' b=none
 there:∀b o,h.get? b=some o->b∉ex->∃o',h'.get? b=some o'
 tups:∀b xs,H b=some (.tup xs)->H' b=some (.tup xs)
 frzs:∀b o u,H b=some (.frz o u)->H' b=some (.frz o u)
 tbls:∀b ps,H b=some (.tbl ps)->∃more,H' b=some (.tbl (ps++more))
section
variable{fs Z1 ex ex':List Addr}{H H1 H2:Hp}{h h1 h2 h':Heap}{a x e:Addr}{o:HO}
theorem Un.any(u:Un fs ex H H1 h h1){b:Addr}{ob:Obj}(q:h.get? b=some ob)(n:H b=none)(hx:b∉ex):∃sl,h1.get? b=some { ob with slots:=sl }:=by
 by_cases d:b∈fs
 .exact u.slot b ob q n d hx
 .exact⟨ob.slots,u.keep b ob q n d hx⟩
theorem Un.kept(k:∀b u,h.get? b=some u->h'.get? b=some u):Un fs ex H H h h':=
 ⟨λb ob q _ _ _=>k b ob q,λb ob q _ _ _=>⟨ob.slots,k b ob q⟩,λ_ _ _ n _=>n,λb ob q _=>⟨ob,k b ob q⟩,λ_ _ q=>q,λ_ _ _ q=>q,λ_ ps q=>⟨#[],by rw[q];rfl⟩⟩
theorem Un.refl:Un fs ex H H h h:=Un.kept λ_ _ q=>q
theorem Un.laid(k:∀b u,h.get? b=some u->h'.get? b=some u)(hp:h.objs.size<=a)(hn:H a=none):Un fs ex H (upd H a o) h h' where
 keep:=λb u q _ _ _=>k b u q
 slot:=λb u q _ _ _=>⟨u.slots,k b u q⟩
 free:=λb u q n _=>by rw[aq (Rw (Q3 (Q5 q) hp))];exact n
 there:=λb u q _=>⟨u,k b u q⟩
 tups:=λb xs q=>by rw[aq (aJ q hn)];exact q
 frzs:=λb u xs q=>by rw[aq (aJ q hn)];exact q
 tbls:=λb ps q=>⟨#[],by rw[aq (aJ q hn),q];simp⟩
theorem Un.write(mu:N5 (H x))(he:e=x\/H e=some (.own x))(k:∀b u,b≠e->h.get? b=some u->h'.get? b=some u)(s:∃u,h'.get? e=some u):Un fs ex H (upd H x o) h h':=by
 have hx:∀b,H b=none->b≠x:=λb n z=>by subst z;rw[n] at mu;exact mu
 have d:∀b,H b=none->b≠e:=λb n z=>by
  subst z;rcases he with r|r
  .exact hx b n r
  .rw[n] at r;cases r
 have hm:∀b u,H b=some u->¬ N5 (some u)->b≠x:=λb u q nm z=>by subst z;rw[q] at mu;exact nm mu
 refine⟨λb u q n _ _=>k b u (d b n) q,λb u q n _ _=>⟨u.slots,k b u (d b n) q⟩,λb u q n _=>by rw[aq (hx b n)];exact n,λb u q _=>?_,
  λb xs q=>by rw[aq (hm b _ q λz=>z)];exact q,λb u xs q=>by rw[aq (hm b _ q λz=>z)];exact q,λb ps q=>⟨#[],by rw[aq (hm b _ q λz=>z),q];simp⟩⟩
 by_cases v:b=e
 .subst v;exact s
 .exact⟨u,k b u v q⟩
end
noncomputable def NX(h:Heap)(H:Hp):List Addr:=(Q8 h.objs.size).filter λa=>(H a).isSome
def qq(h:Heap)(H:Hp):Heap:=PySem.W.hideAll h (NX h H)
theorem xa(h:Heap)(H:Hp):(qq h H).objs.size=h.objs.size:=PySem.W.hideAll_size _ _
variable{o:Obj}
theorem zX{b:Addr}(e:h.get? b=some o)(n:H b=none):(qq h H).get? b=some o:=
 PySem.W.hideAll_get _ e λhm=>by have q:(H b).isSome=true:=(Ug.mp hm).2;rw[n] at q;simp at q
theorem Cw{b:Addr}(e:(qq h H).get? b=some o):h.get? b=some o/\H b=none:=by
 have k:h.get? b=some o:=PySem.W.of_hideAll (NX h H) e;refine⟨k,?_⟩;cases q:H b with
 |none=>rfl
 |some x=>have hm:b∈NX h H:=Ug.mpr ⟨RJ.mpr (Q5 k),by simp[q]⟩;have z:(qq h H).get? b=none:=PySem.W.hideAll_none (NX h H) hm;rw[z] at e;cases e
noncomputable def EC(g h:Heap)(L:Addr):List (Addr×Obj):=(Q8 h.objs.size).filterMap λa=>if a=L\/(g.get? a).isSome=true then none else (h.get? a).map λo=>(a,o)
def rest(g h:Heap)(L d:Addr):List (Addr×Obj):=(EC g h L).filter λp=>decide (p.1≠d)
structure Mod(K:QJ)(mg:Str->Option Value)(base:Heap):Prop where
 kin:K.In base
 glob:base.Ns XJ mg
 blt:∃mb,base.Ns Yy mb/\∀x:Str,x ≠ "__name__" -> mb x=XD x
 nolimit:base.NoLimit
structure Cx where
 prog:Program
 w:XM
 K:QJ
 mg:Str->Option Value
 base:Heap
 A:XN
 N:List Str
 s₀:Shared
 H₀:Hp
 env:Env
 outer:List Env
 stack:List Env
 ex:List Addr
 fn:Str->Bool
 calm:Bool
 pn:List (Addr×Obj)
 xe:Value->Shared->Prop
noncomputable def lA(l:List Env):List Addr:=l.filterMap (·.frame)
abbrev Cx.fs(X:Cx):List Addr:=lA X.outer
def j9(sc:Scope)(x:Str):Prop:=sc.names.lookup x=some .local\/sc.names.lookup x=some .cell\/sc.names.lookup x=some .free
def Loc(sc:Scope)(x:Str):Prop:=sc.names.lookup x=some .local\/sc.names.lookup x=some .cell
def Look(env:Env)(h:Heap)(m:Str->Option Value)(x:Str)(u:Value):Prop:=
 (env.kindOf x=some .local/\m x=some u)\/((env.kindOf x=some .cell\/env.kindOf x=some .free)/\∃c,env.cells.lookup x=some c/\h.IsCell c (some u))
structure Cx.Ok(X:Cx):Prop where
 mod:Mod X.K X.mg X.base
 kind:X.env.scope.kind=.function
 glob:X.env.globals=XJ
 blt:X.env.builtins=Yy
 above:X.s₀.heap.objs.size<=X.env.locals
 inj:∀x y c,X.env.cells.lookup x=some c->X.env.cells.lookup y=some c->x=y
 has:∀x,(X.env.kindOf x=some .cell\/X.env.kindOf x=some .free)->∃c,X.env.cells.lookup x=some c
 cab:∀x c,X.fn x=true->X.env.cells.lookup x=some c->X.s₀.heap.objs.size<=c
 hd:X.calm=true->X.A.handled=none
 frames:X.A.frames=some X.stack
 stk:X.stack=X.outer\/(X.stack=X.env::X.outer/\X.env.frame=some X.env.locals)
 exf:∀b∈X.ex,b≠X.env.locals/\∀x c,X.env.cells.lookup x=some c->c≠b
 bs:∀b o,X.base.get? b=some o->X.s₀.heap.get? b=some o/\X.H₀ b=none
 bsz:X.base.objs.size<=X.s₀.heap.objs.size
 noex:∀b o,X.base.get? b=some o->b∉X.ex
 exfs:∀b∈X.ex,b∉X.fs
 nC:X.s₀.heap.FunFrames X.base X.outer
 frf:∀b∈X.fs,X.H₀ b=none
structure Inv(X:Cx)(pins:List (Addr×Obj))(Y:List (Option V))(H:Hp)(s:Shared):Prop where
 ok:X.Ok
 os:s.os=X.s₀.os
 bare:Yl s.gens
 base:Un X.fs X.ex X.H₀ H X.s₀.heap s.heap
 loc:∃m,s.heap.Ns X.env.locals m/\∀(i:Nat)(x:Str)(v:V),X.N[i]?=some x->Y[i]?=some (some v)->j9 X.env.scope x->∃u,RelV v u/\Look X.env s.heap m x u
 cell:∀x c,X.env.cells.lookup x=some c->∃v,s.heap.IsCell c v
 free:H X.env.locals=none
 freeC:∀x c,X.env.cells.lookup x=some c->H c=none
 pin:∀p∈X.pn++pins,s.heap.get? p.1=some p.2/\H p.1=none/\p.1≠X.env.locals/\p.1∉X.fs/\∀v,p.2.data≠.cell v
 hok:kD X.prog X.w H s.heap
 len:Y.length=X.N.length
variable{g':Array GenState}{t' i j:Nat}{d':Drawn}{ch:List Addr}{it:Addr}{N:List Str}{E:Value->Shared->Prop}{u:Value}
section
variable{X:Cx}{pins:List (Addr×Obj)}{Y:List (Option V)}{H H':Hp}{s:Shared}{h':Heap}
theorem Cx.Ok.OF(ok:X.Ok){b:Addr}(e:X.base.get? b=some o):b∉X.fs:=λd=>by have:=(ok.nC.mem d).1;rw[e] at this;cases this
theorem Inv.bs(I:Inv X pins Y H s):∀b o,X.base.get? b=some o->s.heap.get? b=some o/\H b=none:=λb o e=>⟨I.base.keep b o (I.ok.bs b o e).1 (I.ok.bs b o e).2 (I.ok.OF e) (I.ok.noex b o e),I.base.free b o (I.ok.bs b o e).1 (I.ok.bs b o e).2 (I.ok.noex b o e)⟩
theorem Inv.bk(I:Inv X pins Y H s):∀b o,X.base.get? b=some o->s.heap.get? b=some o:=λb o e=>(I.bs b o e).1
theorem Inv.mod(I:Inv X pins Y H s):Mod X.K X.mg X.base:=I.ok.mod
theorem Inv.tU(I:Inv X pins Y H s):X.K.In s.heap:=I.ok.mod.kin.keeps I.bk
theorem Inv.lt(I:Inv X pins Y H s):X.env.locals<s.heap.objs.size:=let ⟨_,hn,_⟩:=I.loc;hn.lt
theorem Inv.sz(I:Inv X pins Y H s):X.s₀.heap.objs.size<=s.heap.objs.size:=Rn I.ok.above (Q4 I.lt)
theorem Inv.Md(I:Inv X pins Y H s){a:Addr}(h:s.heap.objs.size<=a):a∉X.fs:=λd=>by obtain⟨_,o,ho,_⟩:=I.ok.nC.mem d;exact absurd (Q3 (Q5 ho) (Rn I.sz h)) (Rf _)
theorem Inv.GF(I:Inv X pins Y H s):∀x c,X.env.cells.lookup x=some c->c≠X.env.locals:=λx c e z=>by obtain⟨v,o,ho,hd⟩:=I.cell x c e;obtain⟨m,⟨o',es,i,h,q,_⟩,_⟩:=I.loc;simp only[z,h] at ho;cases ho;rw[q] at hd;cases hd
theorem Inv.nC(I:Inv X pins Y H s):s.heap.FunFrames X.base X.outer:=by
 have all:∀(l:List Env),(∀b∈lA l,b∈X.fs)->X.s₀.heap.FunFrames X.base l->s.heap.FunFrames X.base l:=by
  intro l;induction l with
  |nil=>intro _ _;trivial
  |cons env r m=>intro hs hl;obtain⟨hk,⟨L,o,hf,hn,ho,hd⟩,u⟩:=hl;have hL:L∈X.fs:=hs L (by unfold lA;simp only[Tt,hf];exact Q0);obtain⟨sl,e⟩:=I.base.slot L o ho (I.ok.frf L hL) hL λz=>I.ok.exfs L z hL;exact⟨hk,⟨L,_,hf,hn,e,hd⟩,m (λb d=>hs b (by unfold lA;simp only[Tt,hf];exact QP _ d)) u⟩
 exact all X.outer (λ_ d=>d) I.ok.nC
theorem Inv.stack(I:Inv X pins Y H s):s.heap.FunFrames X.base X.stack:=by
 rcases I.ok.stk with e|⟨e,hf⟩
 .rw[e];exact I.nC
 .rw[e];obtain⟨m,hn,_⟩:=I.loc;refine .cons (by rw[I.ok.kind];decide) hf hn ?_ I.nC;exact Heap.get?_none_of_le (Rn I.ok.bsz I.ok.above)
theorem Inv.ky(I:Inv X pins Y H s):∀b∈lA X.stack,b∈X.env.locals::X.fs:=λb d=>by
 rcases I.ok.stk with e|⟨e,hf⟩
 .rw[e] at d;exact QP _ d
 .rw[e] at d;unfold lA at d;simp only[Tt,hf] at d;exact d
theorem Inv.vX(I:Inv X pins Y H s):∀b∈lA X.stack,H b=none:=λb d=>by
 rcases QW.mp (I.ky b d) with e|d
 .rw[e];exact I.free
 .obtain⟨_,o,ho,_⟩:=I.ok.nC.mem d;exact I.base.free b o ho (I.ok.frf b d) λz=>I.ok.exfs b z d
theorem Inv.step(I:Inv X pins Y H s)
  (y:∀b∈ch,(b∈X.ex\/X.s₀.heap.objs.size<=b)/\b≠X.env.locals/\(∀x c,X.env.cells.lookup x=some c->c≠b)/\∀p∈X.pn++pins,p.1≠b)
  (keep:∀b o,b≠X.env.locals->b∉X.fs->b∉ch->s.heap.get? b=some o->H b=none->h'.get? b=some o)
  (slot:∀b o,b≠X.env.locals->b∈X.fs->b∉ch->s.heap.get? b=some o->H b=none->∃sl,h'.get? b=some { o with slots:=sl })(free:∀b o,b∉ch->s.heap.get? b=some o->H b=none->H' b=none)
  (there:∀b o,b∉ch->s.heap.get? b=some o->∃o',h'.get? b=some o')
  (tups:∀b xs,H b=some (.tup xs)->H' b=some (.tup xs))(frzs:∀b o u,H b=some (.frz o u)->H' b=some (.frz o u))(tbls:∀b ps,H b=some (.tbl ps)->∃more,H' b=some (.tbl (ps++more)))
  (ns:∀m,s.heap.Ns X.env.locals m->h'.Ns X.env.locals m)(hok:kD X.prog X.w H' h')(J:Yl g'):
  Inv X pins Y H' { s with heap:=h',gens:=g',drawn:=d',toks:=t' }:=by
 have F:∀b o,X.s₀.heap.get? b=some o->b≠X.env.locals:=λb o e=>Rw (Q3 (Q5 e) I.ok.above);have D:∀b o,X.s₀.heap.get? b=some o->b∉X.ex->b∉ch:=λb o e hx E=>by
  rcases(y b E).1 with z|z
  .exact hx z
  .exact absurd (Q3 (Q5 e) z) (Rf _)
 have B:∀x c,X.env.cells.lookup x=some c->∀v,s.heap.IsCell c v->h'.IsCell c v:=λx c e v ⟨o,ho,hd⟩=>by
  have C:c∉ch:=λz=>(y c z).2.2.1 x c e rfl;by_cases hc:c∈X.fs
  .obtain⟨sl,q⟩:=slot c o (I.GF x c e) hc C ho (I.freeC x c e);exact⟨_,q,hd⟩
  .exact⟨o,keep c o (I.GF x c e) hc C ho (I.freeC x c e),hd⟩
 refine⟨I.ok,I.os,J,⟨λb o e n E hx=>?_,λb o e n E hx=>?_,λb o e n hx=>?_,λb o e hx=>?_,λb xs e=>tups b xs (I.base.tups b xs e),λb o xs e=>frzs b o xs (I.base.frzs b o xs e),λb ps e=>?_⟩,?_,λx c e=>?_,?_,λx c e=>?_,λp hp=>?_,hok,I.len⟩
 .exact keep b o (F b o e) E (D b o e hx) (I.base.keep b o e n E hx) (I.base.free b o e n hx)
 .obtain⟨sl,e1⟩:=I.base.slot b o e n E hx;obtain⟨G,e2⟩:=slot b _ (F b o e) E (D b o e hx) e1 (I.base.free b o e n hx);exact⟨G,e2⟩
 .obtain⟨o',e1⟩:=I.base.there b o e hx;exact free b o' (D b o e hx) e1 (I.base.free b o e n hx)
 .obtain⟨o',e1⟩:=I.base.there b o e hx;exact there b o' (D b o e hx) e1
 .obtain⟨K,e1⟩:=I.base.tbls b ps e;obtain⟨L,e2⟩:=tbls b _ e1;exact⟨K++L,by rw[e2,Array.append_assoc]⟩
 .obtain⟨m,hn,hl⟩:=I.loc;refine⟨m,ns m hn,λi x v e1 e2 N=>?_⟩;obtain⟨u,r,l⟩:=hl i x v e1 e2 N;refine⟨u,r,?_⟩;rcases l with l|⟨k,c,e,z⟩
  .exact .inl l
  .exact .inr ⟨k,c,e,B x c e _ z⟩
 .obtain⟨v,z⟩:=I.cell x c e;exact⟨v,B x c e v z⟩
 .obtain⟨m,⟨o,_,_,ho,_⟩,_⟩:=I.loc;exact free _ o (λz=>(y _ z).2.1 rfl) ho I.free
 .obtain⟨v,o,ho,hd⟩:=I.cell x c e;exact free c o (λz=>(y c z).2.2.1 x c e rfl) ho (I.freeC x c e)
 .obtain⟨e,n,ne,nf,d⟩:=I.pin p hp;have C:p.1∉ch:=λz=>(y p.1 z).2.2.2 p hp rfl;exact⟨keep p.1 p.2 ne nf C e n,free p.1 p.2 C e n,ne,nf,d⟩
theorem Inv.un(I:Inv X pins Y H s)(u:Un X.fs [] H H' s.heap h')(hok:kD X.prog X.w H' h'):Inv X pins Y H' { s with heap:=h',toks:=t' }:=by
 obtain⟨m,⟨o,es,i,ho,r⟩,_⟩:=id I.loc;obtain⟨sl,hL⟩:=u.any ho I.free Z4;exact I.step (g':=s.gens) (d':=s.drawn) (ch:=[]) (λ_ z=>nomatch z) (λb o _ d _ e n=>u.keep b o e n d Z4) (λb o _ d _ e n=>u.slot b o e n d Z4) (λb o _ e n=>u.free b o e n Z4) (λb o _ e=>u.there b o e Z4) u.tups u.frzs u.tbls (λP hm=>by obtain⟨o',x,O,h,r'⟩:=hm;rw[ho] at h;cases h;exact⟨_,x,O,hL,r'⟩) hok I.bare
theorem Inv.call(I:Inv X pins Y H s)(u:Un (lA X.stack) ch H H' s.heap h')(hok:kD X.prog X.w H' h')(J:Yl g')
  (y:∀b∈ch,(b∈X.ex\/X.s₀.heap.objs.size<=b)/\b≠X.env.locals/\(∀x c,X.env.cells.lookup x=some c->c≠b)/\∀p∈X.pn++pins,p.1≠b):
  Inv X pins Y H' { s with heap:=h',gens:=g',drawn:=d',toks:=t' }:=by
 obtain⟨m,⟨o,es,i,ho,r⟩,_⟩:=id I.loc;obtain⟨sl,hL⟩:=u.any ho I.free λz=>(y _ z).2.1 rfl;exact I.step (ch:=ch) y (λb o hL d hc e n=>u.keep b o e n (λz=>(QW.mp (I.ky b z)).elim hL d) hc) (λb o _ _ hc e n=>u.any e n hc) (λb o hc e n=>u.free b o e n hc) (λb o hc e=>u.there b o e hc) u.tups u.frzs u.tbls (λP hm=>by obtain⟨o',Q,O,h,r'⟩:=hm;rw[ho] at h;cases h;exact⟨_,Q,O,hL,r'⟩) hok J
theorem Inv.turned(I:Inv X pins Y H s)(k:∀b o,b≠it->s.heap.get? b=some o->h'.get? b=some o)(hn:H it=none)(hL:it≠X.env.locals)
  (h1:it∈X.ex\/X.s₀.heap.objs.size<=it)(h2:∀x c,X.env.cells.lookup x=some c->c≠it)(h3:∀p∈X.pn++pins,p.1≠it):Inv X pins Y H { s with heap:=h',toks:=t' }:=by
 have w:∀b u,H b=some u->b≠it:=λb u e z=>by rw[z,hn] at e;cases e
 refine I.step (g':=s.gens) (d':=s.drawn) (ch:=[it]) (λb d=>?_) (λb o _ _ hc e _=>k b o (λz=>hc (by simp[z])) e) (λb o _ _ hc e _=>⟨o.slots,k b o (λz=>hc (by simp[z])) e⟩) (λ_ _ _ _ n=>n)
  (λb o hc e=>⟨o,k b o (λz=>hc (by simp[z])) e⟩) (λ_ _ e=>e) (λ_ _ _ e=>e) (λb ps e=>⟨#[],by rw[e];simp⟩) (λm hm=>?_) (λb u e=>?_) I.bare
 .have e:b=it:=by simpa using d
  subst e;exact⟨h1,hL,h2,h3⟩
 .obtain⟨o,es,i,ho,r⟩:=hm;exact⟨o,es,i,k _ o (RO hL) ho,r⟩
 .refine(I.hok b u e).jL (λc v hc q=>k c v ?_ q) (λ_ q=>q) λ_ _ q=>q;rcases hc with z|z
  .rw[z];exact w b u e
  .exact w c _ z
theorem Inv.tok(I:Inv X pins Y H s)(t:Nat):Inv X pins Y H { s with toks:=t }:=I.un (h':=s.heap) (t':=t) Un.refl I.hok
theorem Inv.kept{t':Nat}(I:Inv X pins Y H s)(k:∀b u,s.heap.get? b=some u->h'.get? b=some u):Inv X pins Y H { s with heap:=h',toks:=t' }:=I.un (Un.kept k) (I.hok.kept k)
theorem Inv.laid{a:Addr}{o:HO}{t':Nat}(I:Inv X pins Y H s)(k:∀b u,s.heap.get? b=some u->h'.get? b=some u)(hp:s.heap.objs.size<=a)(new:dQ X.prog X.w (upd H a o) h' a o):
  Inv X pins Y (upd H a o) { s with heap:=h',toks:=t' }:=I.un (Un.laid k hp (I.hok.fresh hp)) (I.hok.laid k hp new)
theorem Inv.write{x e:Addr}{o:HO}{t':Nat}(I:Inv X pins Y H s)(mu:N5 (H x))(he:e=x\/H e=some (.own x))(k:∀b u,b≠e->s.heap.get? b=some u->h'.get? b=some u)(r:∃u,h'.get? e=some u)
  (new:dQ X.prog X.w (upd H x o) h' x o):Inv X pins Y (upd H x o) { s with heap:=h',toks:=t' }:=I.un (Un.write mu he k r) (I.hok.write mu he k r new)
theorem Inv.qg{R:List (Addr×Obj)}(I:Inv X pins Y H s)(h:∀p∈R,s.heap.get? p.1=some p.2/\H p.1=none/\p.1≠X.env.locals/\p.1∉X.fs/\∀v,p.2.data≠.cell v):Inv X R Y H s:=
 ⟨I.ok,I.os,I.bare,I.base,I.loc,I.cell,I.free,I.freeC,λp hp=>(QO.mp hp).elim (λz=>I.pin p (QM _ z)) (h p),I.hok,I.len⟩
theorem q5(hN:N.Nodup){x:Str}(a:N[i]?=some x)(b:N[j]?=some x):i=j:=by obtain⟨h1,e1⟩:=QL.mp a;obtain⟨h2,e2⟩:=QL.mp b;exact(Wb hN).mp (e1.trans e2.symm)
theorem n9{M:Model}{A:XN}{x:Str}{v:V}{Q:Unit->Shared->Prop}(I:Inv X pins Y H s)(hN:X.N.Nodup)(hi:X.N[i]?=some x)(hx:Loc X.env.scope x)(r:RelV v u)
  (h:∀s',Inv X pins (Y.set i (some v)) H s'->(∃a,UQ a s.heap s'.heap/\(a=X.env.locals\/X.env.cells.lookup x=some a))->Q () s')(hf:X.fn x=true\/X.env.scope.names.lookup x=some .local:=by first|exact .inl rfl|exact .inr rfl|assumption):XG M A (storeName X.env x u) Q E s:=by
 obtain⟨m,hn,hl⟩:=id I.loc;have hcls:(X.env.scope.kind==.class || (X.env.scope.kind==.module&&X.env.locals != X.env.globals))=false:=by rw[I.ok.kind];rfl
 have hiσ:i<Y.length:=by rw[I.len];exact(QL.mp hi).1
 have GF:=I.GF;have tracked:∀{a:Addr}{h':Heap},(∃o,s.heap.get? a=some o/\H a=none)->UQ a s.heap h'->kD X.prog X.w H h':=λ{a h'} ha hs b ob e=>by
  obtain⟨_,_,hfree⟩:=ha;refine(I.hok b ob e).jL (λc w' hc q=>(hs.2 c ?_).trans q) (λ_ q=>q) λ_ _ q=>q;rintro rfl;rcases hc with rfl|hc
  .rw[hfree] at e;cases e
  .rw[hfree] at hc;cases hc
 rcases hx with hk|hk
 .refine wpAny_storeName_local hk hn (λh' hn' hs=>?_) hcls;obtain⟨oL,_,_,hoL,_⟩:=id hn;refine h _ ⟨I.ok,I.os,I.bare,⟨λb o e n hb hx=>?_,λb o e n hb hx=>?_,I.base.free,λb o e hx=>?_,I.base.tups,I.base.frzs,I.base.tbls⟩,⟨_,hn',λj y v' e1 e2 e3=>?_⟩,λy c e=>?_,I.free,I.freeC,λp hp=>?_,tracked ⟨oL,hoL,I.free⟩ hs,by simpa using I.len⟩ ⟨_,hs,.inl rfl⟩
  .exact(hs.2 b (Rw (Q3 (Q5 e) I.ok.above))).trans (I.base.keep b o e n hb hx)
  .obtain⟨sl,e1⟩:=I.base.slot b o e n hb hx;exact⟨sl,(hs.2 b (Rw (Q3 (Q5 e) I.ok.above))).trans e1⟩
  .obtain⟨o',e1⟩:=I.base.there b o e hx;exact⟨o',(hs.2 b (Rw (Q3 (Q5 e) I.ok.above))).trans e1⟩
  .by_cases hj:j=i
   .subst hj;rw[hi] at e1;cases e1;rw[Q6 hiσ] at e2;cases e2;exact⟨u,r,.inl ⟨hk,by simp⟩⟩
   .rw[Rj (RO hj)] at e2;obtain⟨u',r',q⟩:=hl j y v' e1 e2 e3;refine⟨u',r',?_⟩;rcases q with ⟨k,e⟩|⟨k,c,e,z⟩
    .refine .inl ⟨k,?_⟩;have:y≠x:=λe=>hj (q5 hN e1 (e▸hi));simp[this,e]
    .exact .inr ⟨k,c,e,z.sameBut hs (GF y c e)⟩
  .obtain⟨w',z⟩:=I.cell y c e;exact⟨w',z.sameBut hs (GF y c e)⟩
  .obtain⟨e,n,ne,nf,d⟩:=I.pin p hp;exact⟨(hs.2 p.1 ne).trans e,n,ne,nf,d⟩
 .have hfn:X.fn x=true:=by
   rcases hf with z|z
   .exact z
   .rw[z] at hk;cases hk
  obtain⟨c,hc⟩:=I.ok.has x (.inl hk);obtain⟨w',z⟩:=I.cell x c hc;refine wpAny_storeName_cell I.ok.kind hk hc z (λh' hc' hs=>?_);obtain⟨oc,hoc,hocd⟩:=id z;refine h { s with heap:=h' } ⟨I.ok,I.os,I.bare,⟨λb o e n hb hx=>?_,λb o e n hb hx=>?_,I.base.free,λb o e hx=>?_,I.base.tups,I.base.frzs,I.base.tbls⟩,⟨m,hn.sameBut hs (RO (GF x c hc)),λj y v' e1 e2 e3=>?_⟩,λy c' e=>?_,I.free,I.freeC,λp hp=>?_,tracked ⟨oc,hoc,I.freeC x c hc⟩ hs,by simpa using I.len⟩ ⟨c,hs,.inr hc⟩
  .exact(hs.2 b (Rw (Q3 (Q5 e) (I.ok.cab x c hfn hc)))).trans (I.base.keep b o e n hb hx)
  .obtain⟨sl,e1⟩:=I.base.slot b o e n hb hx;exact⟨sl,(hs.2 b (Rw (Q3 (Q5 e) (I.ok.cab x c hfn hc)))).trans e1⟩
  .obtain⟨o',e1⟩:=I.base.there b o e hx;exact⟨o',(hs.2 b (Rw (Q3 (Q5 e) (I.ok.cab x c hfn hc)))).trans e1⟩
  .by_cases hj:j=i
   .subst hj;rw[hi] at e1;cases e1;rw[Q6 hiσ] at e2;cases e2;exact⟨u,r,.inr ⟨.inl hk,c,hc,hc'⟩⟩
   .rw[Rj (RO hj)] at e2;obtain⟨u',r',q⟩:=hl j y v' e1 e2 e3;refine⟨u',r',?_⟩;rcases q with q|⟨k,c',e,z'⟩
    .exact .inl q
    .refine .inr ⟨k,c',e,z'.sameBut hs ?_⟩;rintro rfl;exact hj (q5 hN e1 (I.ok.inj _ _ _ e hc▸hi))
  .by_cases hcc:c'=c
   .subst hcc;exact⟨_,hc'⟩
   .obtain⟨w2,z2⟩:=I.cell y c' e;exact⟨w2,z2.sameBut hs hcc⟩
  .obtain⟨e,n,ne,nf,d⟩:=I.pin p hp;refine⟨(hs.2 p.1 ?_).trans e,n,ne,nf,d⟩;intro q;rw[q,hoc] at e;have q':oc=p.2:=Rh e;exact d w' (by rw[<-q'];exact hocd)
theorem jS{M:Model}{A:XN}{x:Str}{v:V}{Q:Unit->Shared->Prop}(I:Inv X pins Y H s)(hN:X.N.Nodup)(hi:X.N[i]?=some x)(hx:Loc X.env.scope x)(r:RelV v u)
  (h:∀s',Inv X pins (Y.set i (some v)) H s'->Q () s')(hf:X.fn x=true\/X.env.scope.names.lookup x=some .local:=by first|exact .inl rfl|exact .inr rfl|assumption):XG M A (storeName X.env x u) Q E s:=
 n9 I hN hi hx r (λs' I' _=>h s' I') hf
theorem Inv.MH{s':Shared}(I:Inv X pins Y H s)(ho:s'.os=s.os)(u:Un (lA X.stack) ch H H' s.heap s'.heap)(hok:kD X.prog X.w H' s'.heap)(J:Yl s'.gens)
  (y:∀b∈ch,(b∈X.ex\/X.s₀.heap.objs.size<=b)/\b≠X.env.locals/\(∀x c,X.env.cells.lookup x=some c->c≠b)/\∀p∈X.pn++pins,p.1≠b):Inv X pins Y H' s':=by
 obtain⟨h',g',d',t',o'⟩:=s';have e:o'=s.os:=ho;subst e;exact I.call (g':=g') (t':=t') (d':=d') u hok J y
end
abbrev XK:=Value->Option Addr->Hp->Prop
noncomputable abbrev St:=List (Option V)
abbrev VK:=V->Hp->Prop
abbrev TE:=St->Hp->VK->Prop
abbrev TT:=St->Hp->(Bool->Hp->Prop)->Prop
abbrev TA:=St->Hp->(List V->Hp->Prop)->Prop
structure Ends where
 nx:St->Hp->Prop
 rt:VK
 bk:St->Hp->Prop:=λ_ _=>False
 ct:St->Hp->Prop:=λ_ _=>False
abbrev TS:=Ends->St->Hp->Prop
inductive EP(X:Cx)(pins:List (Addr×Obj))(Y:St)(Q:VK)(u:Value)(s':Shared):Prop
 |mk(v:V)(H':Hp)(i:Inv X pins Y H' s')(r:RelV v u)(q:Q v H')
inductive TP(X:Cx)(pins:List (Addr×Obj))(Y:St)(Q:Bool->Hp->Prop)(b:Bool)(s':Shared):Prop
 |mk(H':Hp)(i:Inv X pins Y H' s')(q:Q b H')
inductive AP(X:Cx)(pins:List (Addr×Obj))(Y:St)(Q:List V->Hp->Prop)(us:List Value)(s':Shared):Prop
 |mk(vs:List V)(H':Hp)(i:Inv X pins Y H' s')(r:Vals vs us)(q:Q vs H')
def SP(X:Cx)(pins:List (Addr×Obj))(D:Ends)(f:Flow)(s':Shared):Prop:=
 match f with
 | .next=>∃j H',Inv X pins j H' s'/\D.nx j H'
 | .brk=>∃j H',Inv X pins j H' s'/\D.bk j H'
 | .cont=>∃j H',Inv X pins j H' s'/\D.ct j H'
 | .ret u=>∃v j H',Inv X pins j H' s'/\RelV v u/\D.rt v H'
def PE(X:Cx)(e:Expr)(t:TE):Prop:=
 ∀(pins:List (Addr×Obj))(s:Shared)(Y:St)(H:Hp)(Q:VK),Inv X pins Y H s->t Y H Q->XG (XH X.prog X.w) X.A (eval e X.env) (EP X pins Y Q) X.xe s
def PT(X:Cx)(e:Expr)(t:TT):Prop:=
 ∀(pins:List (Addr×Obj))(s:Shared)(Y:St)(H:Hp)(Q:Bool->Hp->Prop),Inv X pins Y H s->t Y H Q->XG (XH X.prog X.w) X.A (YW e X.env (eval e X.env)) (TP X pins Y Q) X.xe s
def PW(X:Cx)(e:Expr)(t:TT):Prop:=
 ∀(z:Sem Value)(pins:List (Addr×Obj))(s:Shared)(Y:St)(H:Hp)(Q:Bool->Hp->Prop),Inv X pins Y H s->t Y H Q->XG (XH X.prog X.w) X.A (YW e X.env z) (TP X pins Y Q) X.xe s
variable{X:Cx}{e:Expr}
theorem PW.pt{t:TT}(h:PW X e t):PT X e t:=h _
def PA(X:Cx)(es:List Expr)(t:TA):Prop:=
 ∀(pos:Pos)(pins:List (Addr×Obj))(s:Shared)(Y:St)(H:Hp)(Q:List V->Hp->Prop),Inv X pins Y H s->t Y H Q->XG (XH X.prog X.w) X.A (spliced (XI pos (XB es X.env))) (AP X pins Y Q) X.xe s
def PS(X:Cx)(st:Stmt)(t:TS):Prop:=
 ∀(pins:List (Addr×Obj))(s:Shared)(Y:St)(H:Hp)(D:Ends),Inv X pins Y H s->t D Y H->XG (XH X.prog X.w) X.A (exec st X.env) (SP X pins D) X.xe s
def rj(X:Cx)(st:List Stmt)(t:TS):Prop:=
 ∀(pins:List (Addr×Obj))(s:Shared)(Y:St)(H:Hp)(D:Ends),Inv X pins Y H s->t D Y H->XG (XH X.prog X.w) X.A (execs st X.env) (SP X pins D) X.xe s
variable{α:Type}{s:Shared}
theorem cM{t:Sem α}{Q H:α->Shared->Prop}{M:Model}{A:XN}(h:XG M A t Q E s)(I:∀a s,Q a s->H a s):XG M A t H E s:=Yb h I λ_ _ x=>x
variable{pins:List (Addr×Obj)}{Y:St}{R:V->V->Hp->Prop}{pos:Pos}{Q:Value->Shared->Prop}{op:Yj}{c:Expr}
section
variable{X:Cx}
theorem bin{a b:Expr}{ta tb:TE}(V:PE X a ta)(d:PE X b tb)(I:Inv X pins Y H s)(h:ta Y H λx U=>tb Y U λy S=>R x y S)
  {Q:α->Shared->Prop}{f:Value->Value->Sem α}
  (hf:∀v u s2 x y S,Inv X pins Y S s2->RelV x v->RelV y u->R x y S->XG (XH X.prog X.w) X.A (f v u) Q X.xe s2):
  XG (XH X.prog X.w) X.A (eval a X.env) (λv Z=>XG (XH X.prog X.w) X.A (eval b X.env) (λu T=>XG (XH X.prog X.w) X.A (f v u) Q X.xe T) X.xe Z) X.xe s:=by
 refine cM (V pins s Y H _ I h) λv s1 ⟨x,U,c,e,g⟩=>?_;refine cM (d pins s1 Y U _ c g) λu s2 ⟨y,S,j,k,l⟩=>?_;exact hf v u s2 x y S j e k l
noncomputable def md(i:Nat):TE:=λY H Q=>∃v,Y[i]?=some (some v)/\Q v H
noncomputable def tC(v:V):TE:=λ_ H Q=>Q v H
theorem bU{x:Str}(hN:X.N[i]?=some x)(hv:j9 X.env.scope x)(hd:fM x:=by decide)(hcd:lG x:=by decide):PE X (.Name x pos) (md i):=by
 intro pins s Y H Q I h;obtain⟨v,e,h⟩:=h;obtain⟨m,hn,hl⟩:=I.loc;obtain⟨u,r,l⟩:=hl i x v hN e hv;have fin:EP X pins Y Q u s:=⟨v,H,I,r,h⟩
 rcases l with ⟨hk,hm⟩|⟨hk,c,hc,hcell⟩
 .exact Y3 (wpAny_loadName_local I.ok.kind hk hn hm fin) hd
 .rcases hk with hk|hk
  .exact Y3 (wpAny_loadName_cell I.ok.kind hk hc hcell fin) hd
  .exact Y3 (wpAny_loadName_free I.ok.kind hk hc hcell fin hcd) hd
theorem JJ{i j pos}:PE X (.Constant (.int i) j pos) (tC (.int i)):=λ_ _ _ H _ I h=>wpAny_Constant_int ⟨.int i,H,I.tok _,⟨_,rfl⟩,h⟩
theorem Lg{b j pos}:PE X (.Constant (.bool b) j pos) (tC (.bl b)):=λ_ _ _ H _ I h=>Constant_bool ⟨.bl b,H,I,rfl,h⟩
theorem Hw{j pos}:PE X (.Constant .none j pos) (tC .non):=λ_ _ _ H _ I h=>Constant_none ⟨.non,H,I,rfl,h⟩
theorem Kk{x j pos}:PE X (.Constant (.str x) j pos) (tC (.str x)):=λ_ _ _ H _ I h=>Calls.Constant_str ⟨.str x,H,I.tok _,⟨_,rfl⟩,h⟩
def Gl(X:Cx)(x:Str):Prop:=X.env.kindOf x=some .globalImplicit
theorem p0{x:Str}(I:Inv X pins Y H s)(hg:Gl X x)(hm:X.mg x=some u)(h:Q u s)
  (hd:fM x:=by decide):XG (XH X.prog X.w) X.A (eval (.Name x pos) X.env) Q E s:=
 U7 I.ok.kind hg (Calls.loadGlobal_global (by rw[I.ok.glob];exact I.mod.glob.keeps I.bk) hm h) hd
theorem gP{x:Str}(I:Inv X pins Y H s)(hg:Gl X x)(hm:X.mg x=none)(hv:XD x=some u)(h:Q u s)
  (hn:x ≠ "__name__" := by decide)(hd:fM x:=by decide):XG (XH X.prog X.w) X.A (eval (.Name x pos) X.env) Q E s:=by
 obtain⟨mb,h1,h2⟩:=I.mod.blt;exact U7 I.ok.kind hg (Calls.loadGlobal_builtin (by rw[I.ok.glob];exact I.mod.glob.keeps I.bk) hm (by rw[I.ok.blt];exact h1.keeps I.bk) ((h2 x hn).trans hv) h) hd
theorem vE{x:Str}{v:V}(hg:Gl X x)(hm:X.mg x=some u)(r:RelV v u)(hd:fM x:=by decide):PE X (.Name x pos) (tC v):=
 λ_ _ _ H _ I h=>p0 I hg hm ⟨v,H,I,r,h⟩ hd
theorem EE{x:Str}{v:V}(hg:Gl X x)(hm:X.mg x=none)(hv:XD x=some u)(r:RelV v u)(hn:x ≠ "__name__" := by decide)(hd:fM x:=by decide):PE X (.Name x pos) (tC v):=
 λ_ _ _ H _ I h=>gP I hg hm hv ⟨v,H,I,r,h⟩ hn hd
variable{a b:Expr}{ta tb:TE}{pos:Pos}
def PC(X:Cx)(op:Yj)(a b:Expr)(t:TE):Prop:=
 ∀(pins:List (Addr×Obj))(s:Shared)(Y:St)(H:Hp)(Q:VK),Inv X pins Y H s->t Y H Q->
  XG (XH X.prog X.w) X.A (eval a X.env) (λv Z=>XG (XH X.prog X.w) X.A (eval b X.env) (λu T=>XG (XH X.prog X.w) X.A (XZ op v u) (EP X pins Y Q) X.xe T) X.xe Z) X.xe s
theorem zP(b:Expr)(h:op≠.In)(h2:op≠.NotIn):XR op b=false:=by
 have e1:(op==Xv)=false:=by cases op<;>first|rfl|exact absurd rfl h
 have e2:(op==WM)=false:=by cases op<;>first|rfl|exact absurd rfl h2
 cases b<;>simp[XR,e1,e2]
noncomputable def tB(t:TE):TT:=λY H Q=>t Y H λx U=>∃c,x=.bl c/\Q c U
theorem OA{t:TE}(h:PC X op a b t)(h1:XR op b=false:=by first|exact zP _ Z2 Z2|rfl):PT X (.Compare a [op] [b] pos) (tB t):=by intro pins s Y H Q I hw;refine YI (cM (h pins s Y H _ I hw) λv s1 h1=>cM h1 λu s2 h2=>cM h2 λc s3 ⟨x,H1,I1,r1,q1⟩=>?_) h1;obtain⟨d,rfl,q⟩:=q1;cases r1;exact X7 ⟨H1,I1,q⟩
theorem Hk{t:TE}(h:PE X e t)(he:∀whole,YW e X.env whole=(do let v <- whole;Ym e.pos;holding [v] (truthy v)):=by intro _;rfl):PT X e (tB t):=by intro pins s Y H Q I hw;refine isTrue_plain (cM (h pins s Y H _ I hw) λv s1 ⟨x,H1,I1,r1,q1⟩=>?_) (he _);obtain⟨d,rfl,q⟩:=q1;cases r1;exact X7 ⟨H1,I1,q⟩
variable{tA tB':TT}{rest:List Expr}
noncomputable def Ot(t u:TT):TT:=λY H Q=>t Y H λc U=>if c=true then u Y U Q else Q false U
noncomputable def Qs(t u:TT):TT:=λY H Q=>t Y H λc U=>if c=true then Q true U else u Y U Q
noncomputable def Oz(t:TT):TT:=λY H Q=>t Y H λc U=>Q (!c) U
theorem DX(f:PT X a tA):PW X (.BoolOp .And [a] pos) tA:=by
 intro T pins s Y H Q I h;refine isTrue_and (cM (f pins s Y H Q I h) λc s1 e=>?_);cases c with
 |true=>exact isTrue_and_nil e
 |false=>exact e
theorem Kh(f:PT X a tA):PW X (.BoolOp .Or [a] pos) tA:=by
 intro T pins s Y H Q I h;refine isTrue_or (cM (f pins s Y H Q I h) λc s1 e=>?_);cases c with
 |false=>exact isTrue_or_nil e
 |true=>exact e
theorem JH(f:PT X a tA)(d:PW X (.BoolOp .And (b::rest) pos) tB'):PW X (.BoolOp .And (a::b::rest) pos) (Ot tA tB'):=by
 intro T pins s Y H Q I h;refine isTrue_and (cM (f pins s Y H _ I h) λc s1 ⟨U,Z,g⟩=>?_);cases c with
 |true=>exact d T pins s1 Y U Q Z g
 |false=>exact⟨U,Z,g⟩
theorem MF(f:PT X a tA)(d:PW X (.BoolOp .Or (b::rest) pos) tB'):PW X (.BoolOp .Or (a::b::rest) pos) (Qs tA tB'):=by
 intro T pins s Y H Q I h;refine isTrue_or (cM (f pins s Y H _ I h) λc s1 ⟨U,Z,g⟩=>?_);cases c with
 |true=>exact⟨U,Z,g⟩
 |false=>exact d T pins s1 Y U Q Z g
theorem GJ(f:PT X a tA):PT X (.UnaryOp .Not a pos) (Oz tA):=by intro pins s Y H Q I h;exact isTrue_not (cM (f pins s Y H (λc U=>Q (!c) U) I h) λc s' ⟨H',i,q⟩=>⟨H',i,q⟩)
noncomputable def Lh(ta tb:TE):TE:=λY H Q=>ta Y H λx U=>∃c,x=.bl c/\if c=true then tb Y U Q else Q (.bl false) U
noncomputable def Me(ta:TE):TE:=λY H Q=>ta Y H λx U=>∃c,x=.bl c/\Q (.bl (!c)) U
theorem ID{op}{t:TE}(h:PE X a t):PE X (.BoolOp op [a] pos) t:=λpins s Y H Q I b=>BoolOp_one (h pins s Y H Q I b)
theorem JO(f:PE X a ta)(d:PE X (.BoolOp .And (b::rest) pos) tb):PE X (.BoolOp .And (a::b::rest) pos) (Lh ta tb):=by
 intro pins s Y H Q I h;refine BoolOp_and (cM (f pins s Y H _ I h) λv s1 ⟨x,U,Z,e,g⟩=>?_);obtain⟨c,rfl,g⟩:=g;cases e;refine X7 ?_;cases c with
 |true=>exact d pins s1 Y U Q Z g
 |false=>exact⟨.bl false,U,Z,rfl,g⟩
theorem HS(f:PE X a ta):PE X (.UnaryOp .Not a pos) (Me ta):=by intro pins s Y H Q I h;refine UnaryOp_ (cM (f pins s Y H _ I h) λv s1 ⟨x,U,Z,e,g⟩=>?_);obtain⟨c,rfl,g⟩:=g;cases e;exact not_of (X7 ⟨.bl (!c),U,Z,rfl,g⟩)
noncomputable def Qt(t:TT)(ta tb:TE):TE:=λY H Q=>t Y H λc U=>if c=true then ta Y U Q else tb Y U Q
theorem zM(hc:PT X c tA)(f:PE X a ta)(E:PE X b tb):PE X (.IfExp c a b pos) (Qt tA ta tb):=by
 intro pins s Y H Q I h;refine wpAny_IfExp (cM (hc pins s Y H _ I h) λd s1 ⟨U,Z,g⟩=>?_);cases d with
 |true=>exact f pins s1 Y U Q Z g
 |false=>exact E pins s1 Y U Q Z g
end
def dR(K:QJ)(H:Hp)(a:Addr)(xs:List V):Prop:=
 Rd H a (.lst xs) \/
  ∃(o:Obj)(b:Array Value)(n:Nat),K.lookup a=some o/\o.cls=.type "list" /\ o.dict=none/\o.data=.seq b n/\b.size<=sizeLine/\Vals xs b.toList
def jb(K:QJ)(H:Hp)(a:Addr)(xs:List V):Prop:=
 Rd H a (.tup xs) \/
  ∃(o:Obj)(b:Array Value)(n:Nat),K.lookup a=some o/\(o.cls=.type "tuple" /\ o.dict=none)/\o.data=.seq b n/\b.size<=sizeLine/\Vals xs b.toList
noncomputable def Oy:Value->Option V
 | .none=>some .non
 | .bool b=>some (.bl b)
 | .int i _=>some (.int i)
 | .str x _=>some (.str x)
 | .bytes b _=>some (.byt b)
 | .float b _=>some (.flt b)
 | .ref a=>some (.ref a)
 | .type n=>some (.ty n)
 |_=>none
theorem RelV.abs{x:V}(r:RelV x u):Oy u=some x:=by
 cases x with
 |non=>cases r;rfl
 |bl _=>cases r;rfl
 |int _=>obtain⟨t,rfl⟩:=r;rfl
 |str _=>obtain⟨t,rfl⟩:=r;rfl
 |byt _=>obtain⟨t,rfl⟩:=r;rfl
 |flt _=>obtain⟨t,rfl⟩:=r;rfl
 |ref _=>cases r;rfl
 |ty _=>cases r;rfl
theorem RelV.inj{x y:V}(r:RelV x u)(q:RelV y u):x=y:=Rh (r.abs.symm.trans q.abs)
theorem Vals.inj:∀{xs ys:List V}{us:List Value},Vals xs us->Vals ys us->xs=ys
 |_,_,_,.nil,.nil=>rfl
 |_,_,_,.cons r t,.cons r' t'=>by simp only[r.inj r',Vals.inj t t']
variable{K:QJ}
section
variable{X:Cx}{pins:List (Addr×Obj)}{Y:St}{H:Hp}{s:Shared}{a:Addr}{xs ys:List V}
theorem dR.of(h:H a=some (.lst xs)):dR K H a xs:=.inl (.inl h)
theorem Inv.list(I:Inv X pins Y H s)(h:dR X.K H a xs):∃b:List Value,Vals xs b/\PlainL s.heap a b.toArray/\xs.length<=sizeLine:=by
 rcases h with h|⟨o,b,n,hk,hc,hd,hs,hz,r⟩
 .obtain⟨z,b,n,r,e⟩:=h.ok I.hok;exact⟨b,r,⟨_,n,e,rfl,rfl,rfl⟩,z⟩
 .refine⟨b.toList,r,⟨o,n,I.tU a o hk,hc,hd,by simpa using hs⟩,?_⟩;have e:=r.length;simp only[Tp] at e
  lia
theorem Inv.tuple(I:Inv X pins Y H s)(h:jb X.K H a xs):∃b:List Value,Vals xs b/\IsTup s.heap a b.toArray/\xs.length<=sizeLine:=by
 rcases h with h|⟨o,b,n,hk,hc,hs,hz,r⟩
 .obtain⟨z,b,r,p⟩:=h.ok I.hok;exact⟨b,r,p.t,z⟩
 .refine⟨b.toList,r,⟨o,I.tU a o hk,hc.1,n,by simpa using hs⟩,?_⟩;have e:=r.length;simp only[Tp] at e;lia
theorem Inv.hZ(I:Inv X pins Y H s)(h:dR X.K H a xs)(h':dR X.K H a ys):xs=ys:=by
 obtain⟨b,r,⟨o,n,e,_,_,d⟩,_⟩:=I.list h;obtain⟨its',r',⟨o',p,k,_,_,d'⟩,_⟩:=I.list h';rw[e] at k;cases k;rw[d] at d';injection d' with d1 _;have:b=its':=by simpa using Ze Vu d1
 subst this;exact r.inj r'
theorem Inv.oE(I:Inv X pins Y H s)(h:jb X.K H a xs)(h':jb X.K H a ys):xs=ys:=by
 obtain⟨b,r,⟨o,e,_,n,d⟩,_⟩:=I.tuple h;obtain⟨its',r',⟨o',k,_,p,d'⟩,_⟩:=I.tuple h';rw[e] at k;cases k;rw[d] at d';injection d' with d1 _;have:b=its':=by simpa using Ze Vu d1
 subst this;exact r.inj r'
end
variable{tc:TT}
section
variable{X:Cx}{st:Stmt}{rest:List Stmt}{t u:TS}{e:Expr}{te:TE}{pos:Pos}
noncomputable def MU:TS:=λD Y H=>D.nx Y H
noncomputable def zI(t u:TS):TS:=λD Y H=>t { D with nx:=u D } Y H
theorem D8:rj X [] MU:=λ_ _ Y H _ I h=>Yh ⟨Y,H,I,h⟩
theorem mO(h1:PS X st t)(h2:rj X rest u):rj X (st::rest) (zI t u):=by
 intro pins s Y H D I h;refine wpAny_execs_cons (cM (h1 pins s Y H { D with nx:=u D } I h) λf s1 q=>?_);cases f with
 |next=>obtain⟨j,H',a,q⟩:=q;exact h2 pins s1 j H' D a q
 |ret v=>exact q
 |brk=>exact q
 |cont=>exact q
theorem DQ(h1:PS X st t):rj X [st] t:=by
 intro pins s Y H D I h;refine wpAny_execs_cons (cM (h1 pins s Y H D I h) λf s1 q=>?_);cases f with
 |next=>exact Yh q
 |ret v=>exact q
 |brk=>exact q
 |cont=>exact q
theorem Inv.quiet(I:Inv X pins Y H s):interactive X.env=false:=by simp[interactive,I.ok.kind]
noncomputable def MD(te:TE):TS:=λD Y H=>te Y H λ_ U=>D.nx Y U
theorem Ei(he:PE X e te)(hs:XX e none pos.line X.env=pure false:=by rfl):PS X (.Expr e pos) (MD te):=by intro pins s Y H D I h;exact wpAny_Expr_any (cM (he pins s Y H _ I h) λv s1 ⟨x,H1,I1,r1,q1⟩=>⟨Y,H1,I1,q1⟩) I.quiet hs
noncomputable def OK(te:TE):TS:=λD Y H=>te Y H D.rt
theorem Jd(he:PE X e te):PS X (.Return (some e) pos) (OK te):=by intro pins s Y H D I h;exact wpAny_Return_some (cM (he pins s Y H _ I h) λv s1 ⟨x,U,Z,n,g⟩=>⟨x,Y,U,Z,n,g⟩)
noncomputable def LY:TS:=λD _ H=>D.rt .non H
theorem Dy:PS X (.Return none pos) LY:=λ_ _ Y H _ I h=>wpAny_Return_none ⟨.non,Y,H,I,rfl,h⟩
noncomputable def OO(c:TT)(t u:TS):TS:=λD Y H=>c Y H λb U=>if b=true then t D Y U else u D Y U
theorem MS{a b:List Stmt}(hc:PT X c tc)(f:rj X a t)(E:rj X b u):PS X (.If c a b pos) (OO tc t u):=by
 intro pins s Y H D I h;refine wpAny_If (cM (hc pins s Y H _ I h) λd s1 ⟨U,Z,g⟩=>?_);cases d with
 |true=>exact f pins s1 Y U D Z g
 |false=>exact E pins s1 Y U D Z g
end
abbrev TG:=V->St->Hp->(St->Hp->Prop)->Prop
abbrev Fp:=List V->St->Hp->(St->Hp->Prop)->Prop
def PG(X:Cx)(o:Expr)(t:TG):Prop:=
 ∀(pins:List (Addr×Obj))(s:Shared)(Y:St)(H:Hp)(v:V)(u:Value)(Q:St->Hp->Prop),Inv X pins Y H s->RelV v u->t v Y H Q->
  XG (XH X.prog X.w) X.A (assign o X.env u) (λ_ s'=>∃j H',Inv X pins j H' s'/\Q j H') X.xe s
def J4(X:Cx)(ts:List Expr)(t:Fp):Prop:=
 ∀(pins:List (Addr×Obj))(s:Shared)(Y:St)(H:Hp)(vs:List V)(us:List Value)(Q:St->Hp->Prop),Inv X pins Y H s->Vals vs us->t vs Y H Q->
  XG (XH X.prog X.w) X.A (YL ((XT ts X.env).map (·.2)) us) (λ_ s'=>∃j H',Inv X pins j H' s'/\Q j H') X.xe s
abbrev Hm:=V->V->V->Hp->(Hp->Prop)->Prop
def Mv(X:Cx)(t:Hm):Prop:=
 ∀(pins:List (Addr×Obj))(s:Shared)(Y:St)(H:Hp)(o i v:V)(q r u:Value)(Q:Hp->Prop),Inv X pins Y H s->RelV o q->RelV i r->RelV v u->t o i v H Q->
  XG (XH X.prog X.w) X.A (setItem q r u) (λ_ s'=>∃H',Inv X pins Y H' s'/\Q H') X.xe s
variable{es:List Expr}{tg:Expr}{te:TE}
section
variable{X:Cx}{pos:Pos}
noncomputable def Ca(i:Nat):TG:=λv Y H Q=>Q (Y.set i (some v)) H
theorem Df{x:Str}(hN:X.N.Nodup)(hi:X.N[i]?=some x)(hx:Loc X.env.scope x)(hf:X.fn x=true\/X.env.scope.names.lookup x=some .local:=by first|exact .inl rfl|exact .inr rfl|assumption):PG X (.Name x pos) (Ca i):=by intro pins s Y H v u Q I r h;exact YQ (jS I hN hi hx r (λs' I'=>⟨_,H,I',h⟩) hf)
noncomputable def Ol:Fp:=λvs Y H Q=>vs=[]/\Q Y H
noncomputable def FZ(t:TG)(u:Fp):Fp:=λvs Y H Q=>∃v r,vs=v::r/\t v Y H λj H'=>u r j H' Q
theorem D5:J4 X [] Ol:=by intro pins s Y H vs us Q I r h;obtain⟨e,h⟩:=h;subst e;cases r;exact YR ⟨Y,H,I,h⟩
theorem z8{t:TG}{u:Fp}(h1:PG X e t)(h2:J4 X es u)
  (hs:(XT (e::es) X.env).map (·.2)=assign e X.env::(XT es X.env).map (·.2):=by rfl):J4 X (e::es) (FZ t u):=by
 intro pins s Y H vs us Q I r h;obtain⟨v,vr,e1,h⟩:=h;subst e1;cases r with
 |cons r rr=>rw[hs];refine Yk (cM (h1 pins s Y H _ _ _ I r h) λ_ s1 ⟨σ1,H1,I1,q1⟩=>?_);exact h2 pins s1 σ1 H1 _ _ Q I1 rr q1
noncomputable def OE(K:QJ)(n:Nat)(t:Fp):TG:=λv Y H Q=>∃a xs,v=.ref a/\jb K H a xs/\xs.length=n/\t xs Y H Q
theorem Ki{k:Nat}{t:Fp}{n:Nat}(hc:X.calm=true)(h:J4 X es t)
  (hn:(XT es X.env).length=n:=by rfl)(hst:(XT es X.env).findIdx? (·.1)=none:=by rfl):PG X (.Tuple es k pos) (OE X.K n t):=by
 intro pins s Y H v u Q I r hw;obtain⟨a,xs,e1,hq,hl,hw⟩:=hw;subst e1;cases r;obtain⟨its,rv,ht,hz⟩:=I.tuple hq;refine assign_Tuple_tuple (I.ok.hd hc) ht (by simp[hn,<-hl,rv.length]) hst λh' hx=>?_;have I1:Inv X pins Y H { s with heap:=h' }:=I.kept (t':=s.toks) λb o e=>hx b o (Rw (Q5 e)) e;exact h pins _ Y H xs _ Q I1 (by simpa using rv) hw
noncomputable def zF(X u:TE)(t:Hm):TG:=λv Y H Q=>X Y H λo U=>u Y U λi S=>t o i v S λw=>Q Y w
theorem qu{o i:Expr}{to ti:TE}{t:Hm}(ho:PE X o to)(hi:PE X i ti)(hs:Mv X t)
  (ha:∀v,assign (.Subscript o i pos) X.env v=(do
   let ov <- holding [v] (eval o X.env)
   let iv <- holding [v,ov] (eval i X.env)
   Ym pos
   holding [v,ov,iv] (setItem ov iv v)
   release [v,ov,iv] []):=by intro _;rfl):PG X (.Subscript o i pos) (zF to ti t):=by
 intro pins s Y H v u Q I r h;rw[ha];refine XC (Yp (cM (ho pins s Y H _ I h) λov s1 ⟨x,H1,I1,r1,q1⟩=>?_));refine XC (Yp (cM (hi pins s1 Y H1 _ I1 q1) λiv s2 ⟨y,H2,I2,r2,q2⟩=>?_));refine XC (Yr (XC (Yp (cM (hs pins s2 Y H2 x y v ov iv u _ I2 r1 r2 r q2) λ_ s3 ⟨H3,I3,q3⟩=>?_))));exact wpAny_release ⟨Y,H3,I3,q3⟩
noncomputable def sA(te:TE)(g:TG):TS:=λD Y H=>te Y H λx U=>g x Y U D.nx
theorem mR{g:TG}(he:PE X e te)(hg:PG X tg g)(hs:Ye [tg] e pos.line X.env=pure false:=by rfl)(hw:X6 [tg] e X.env=pure none:=by rfl)
  (h1:(XT [tg] X.env).map (·.2)=[assign tg X.env]:=by rfl):PS X (.Assign [tg] e pos) (sA te g):=by
 intro pins s Y H D I h;refine wpAny_Assign_stores (cM (he pins s Y H _ I h) λv s1 ⟨x,H1,I1,r1,q1⟩=>?_) hs hw;rw[h1];exact cM (hg pins s1 Y H1 x v _ I1 r1 q1) λ_ s2 q=>q
theorem J6{x:Str}{pos':Pos}(hN:X.N.Nodup)(hi:X.N[i]?=some x)(hx:Loc X.env.scope x)(he:PE X e te)(hs:XX e (some (.Name x pos')) pos.line X.env=pure false:=by rfl)(hf:X.fn x=true\/X.env.scope.names.lookup x=some .local:=by first|exact .inl rfl|exact .inr rfl|assumption):
  PS X (.Assign [.Name x pos'] e pos) (sA te (Ca i)):=by
 intro pins s Y H D I h;refine wpAny_Assign_Name (cM (he pins s Y H _ I h) λv s1 ⟨y,H1,I1,r1,q1⟩=>?_) hs;exact jS I1 hN hi hx r1 (λs2 I2=>⟨_,H1,I2,q1⟩) hf
noncomputable def LA(i j:Nat)(ta:TA):TS:=λD Y H=>ta Y H λvs U=>∃v w,vs=[v,w]/\D.nx ((Y.set i (some v)).set j (some w)) U
theorem JX{x y:Str}{a b:Expr}{ta:TA}{px py pt:Pos}{kt k2 pt2}(hc:X.calm=true)(hN:X.N.Nodup)(hi:X.N[i]?=some x)(hj:X.N[j]?=some y)(hij:i≠j)
  (hx:X.env.scope.names.lookup x=some .local)(hy:X.env.scope.names.lookup y=some .local)(ha:PA X [a,b] ta)
  (hw:X6 [.Tuple [.Name x px,.Name y py] kt pt] (.Tuple [a,b] k2 pt2) X.env=pure (some [x,y]))
  (hs:Ye [.Tuple [.Name x px,.Name y py] kt pt] (.Tuple [a,b] k2 pt2) pos.line X.env=pure false:=by rfl):
  PS X (.Assign [.Tuple [.Name x px,.Name y py] kt pt] (.Tuple [a,b] k2 pt2) pos) (LA i j ta):=by
 intro pins s Y H D I h;simp only[exec_Assign_arm];refine XC (Yr ?_);rw[hs];refine XC (XF ?_);rw[Zb Z2];refine XC (Tuple_ (cM (ha _ pins s Y H _ I h) λus s1 ⟨vs,H1,I1,r1,q1⟩=>?_));obtain⟨v,w,e1,q1⟩:=q1;subst e1;obtain⟨u1,u2,rfl,rv,rw'⟩:∃u1 u2,us=[u1,u2]/\RelV v u1/\RelV w u2:=by
  cases r1 with
  |cons p q=>
   cases q with
   |cons p' q'=>cases q';exact⟨_,_,rfl,p,p'⟩
 refine X1 ?_ (by show 2<=sizeLine;decide);have I2:Inv X pins Y H1 { s1 with heap:=s1.heap.push { cls:=.type "tuple",data:=.seq [u1,u2].toArray } }:=I1.kept (t':=s1.toks) λb o e=>QY _ e;rw[hw];refine XC (XF ?_);show XG (XH X.prog X.w) X.A (do rule "assign.swapped-stores";let items <- unpackItems (.ref s1.heap.objs.size) 2 none;YL [λv=>Y4 X.env y v,λv=>Y4 X.env x v] items.reverse;pure Xw) _ _ _;refine XC (wpAny_rule (XC (unpackItems_tuple (items:=#[u1,u2]) (I.ok.hd hc) (IsTup.new s1.heap _) λh' hx'=>?_)));have I3:=I2.kept (h':=h') (t':=s1.toks) λb o e=>hx' b o (Rw (Q5 e)) e;show XG _ _ (YL [λv=>Y4 X.env y v,λv=>Y4 X.env x v] [u2,u1] >>= λ_=>pure Xw) _ _ _;refine XC (Yk (wpAny_bindName (jS I3 hN hj (.inl hy) rw' (λs2 I4=>?_) (.inr hy))));refine Yk (wpAny_bindName (jS I4 hN hi (.inl hx) rv (λs3 I5=>YR (XF ?_)) (.inr hx)));rw[List.set_comm _ _ (RO hij)] at I5;exact⟨_,H1,I5,q1⟩
end
variable{body:List Stmt}{tb:TS}
section
variable {X:Cx} {pos:Pos}
def HU (c:TT) (tb:TS):TS:=fun D Y H=>∃ W:Nat → St → Hp → Prop,(∃ m,W m Y H) ∧ ∀ m Y H,W m Y H →
 c Y H fun b H1=>if b = true then ∃ N:St → Hp → Prop,(∀ j H',N j H' → ∃ P,P < m ∧ W P j H') ∧ tb { D with nx:=N,ct:=N,bk:=D.nx } Y H1 else D.nx Y H1
theorem Be     (hp:Yu (XH X.prog X.w) X.A X.env X.xe) (hc:PT X c tc) (d:rj X body tb):PS X (.While c body [] pos) (HU tc tb):=by
 intro pins s Y H D I h;obtain ⟨W,⟨G,K⟩,turn⟩:=h;refine wpAny_While (codeAny_whileLoop (fun n s'=>∃ j H',Inv X pins j H' s' ∧ W n j H') ?_ G ⟨Y,H,I,K⟩);rintro n s1 ⟨t,U,Z,L⟩;refine X0 hp (cM (hc pins s1 t U _ Z (turn n t U L)) fun b s2 ⟨H2,I2,l⟩=>?_);cases b with
 |true=>
  obtain⟨N,hN,l⟩:=l;dsimp only [Za rfl];refine X0 hp (cM (d pins s2 t H2 _ I2 l) λf Q z=>?_);cases f with
  |next=>obtain⟨V,x,B,C⟩:=z;obtain⟨P,hm,F⟩:=hN V x C;exact⟨P,hm,V,x,B,F⟩
  |cont=>obtain⟨V,x,B,C⟩:=z;obtain⟨P,hm,F⟩:=hN V x C;exact⟨P,hm,V,x,B,F⟩
  |brk=>exact z
  |ret v=>exact z
 |false=>dsimp only [Zb RF];exact Yh ⟨t,H2,I2,l⟩
end
structure It where
 go:Nat->Hp->Prop
 yld:Nat->Hp->V->Hp->Prop
 stop:Nat->Hp->Prop
def ny(X:Cx)(pins:List (Addr×Obj))(H:Hp)(b:Addr):Prop:=
 H b=none/\b≠X.env.locals/\b∉X.fs/\(b∈X.ex\/X.s₀.heap.objs.size<=b)/\(∀x c,X.env.cells.lookup x=some c->c≠b)/\∀p∈X.pn++pins,p.1≠b
theorem Inv.xM{H':Hp}{b:Addr}(I:Inv X pins Y H s)(d:s.heap.objs.size<=b)(hn:H' b=none):ny X pins H' b:=by
 refine⟨hn,Uh (Q3 I.lt d),I.Md d,.inr (Rn I.sz d),λx c e z=>?_,λp hp z=>?_⟩
 .obtain⟨v,q⟩:=I.cell x c e;exact absurd (Q3 q.lt (by simp only[z];exact d)) (Rf _)
 .exact absurd (Q3 (Q5 (I.pin p hp).1) (by simp only[z];exact d)) (Rf _)
structure Turn(P:Program)(w:XM)(K:QJ)(tg:Expr)(J:It)(fp:List Addr)(it:Addr)(tn:Nat->Heap->Prop):Prop where
 mem:it∈fp
 obj:∀i h,tn i h->∀b∈fp,∃o,h.get? b=some o/\∀v,o.data≠.cell v
 keep:∀i h h',tn i h->(∀b∈fp,∀o,h.get? b=some o->h'.get? b=some o)->tn i h'
 item:∀(X:Cx),X.prog=P->X.w=w->X.K=K->X.calm=true->∀(i:Nat)(pins:List (Addr×Obj))(s:Shared)(Y:St)(H:Hp)(E:Value->Shared->Prop),Inv X pins Y H s->(∀b∈fp,ny X pins H b)->tn i s.heap->J.go i H->
  XG (XH P w) X.A (pyNext (.ref it)) (λr s1=>∃u,r=some u /\
   XG (XH P w) X.A (Yi tg (.ref it) u) (λ_ s2=>∃x H',Inv X pins Y H' s2/\RelV x u/\J.yld i H x H'/\tn (i+1) s2.heap/\∀b∈fp,H' b=none) E s1) E s
 done:∀(X:Cx),X.prog=P->X.w=w->X.K=K->X.calm=true->∀(i:Nat)(pins:List (Addr×Obj))(s:Shared)(Y:St)(H:Hp)(E:Value->Shared->Prop),Inv X pins Y H s->(∀b∈fp,ny X pins H b)->tn i s.heap->J.stop i H->
  XG (XH P w) X.A (pyNext (.ref it)) (λr s1=>r=none/\Inv X pins Y H s1) E s
 self:∀(A:XN)(i:Nat)(s:Shared)(Q:Value->Shared->Prop)(E:Value->Shared->Prop),tn i s.heap->Q (.ref it) s->XG (XH P w) A (pyIter (.ref it)) Q E s
abbrev TI:=St->Hp->(It->Hp->Prop)->Prop
def NQ(X:Cx)(pins:List (Addr×Obj))(Y:St)(tg:Expr)(R:It->Hp->Prop)(v:Value)(s2:Shared):Prop:=
 ∃(it:Addr)(fp:List Addr)(tn:Nat->Heap->Prop)(J:It)(H':Hp),v=.ref it/\Inv X pins Y H' s2/\Turn X.prog X.w X.K tg J fp it tn/\tn 0 s2.heap/\(∀b∈fp,ny X pins H' b)/\R J H'
def PI(X:Cx)(tg iter:Expr)(D:TI):Prop:=
 ∀(pins:List (Addr×Obj))(s:Shared)(Y:St)(H:Hp)(R:It->Hp->Prop),Inv X pins Y H s->D Y H R->
  XG (XH X.prog X.w) X.A (eval iter X.env) (λv s1=>XG (XH X.prog X.w) X.A (pyIter v) (NQ X pins Y tg R) X.xe s1) X.xe s
theorem vd{M:Model}{A:XN}{n:String}{vs:Array Value}{Q:Unit->Shared->Prop}(ho:s.heap.get? it=some o)(hc:o.cls=.type n)(hd:o.data=.fields vs)
    (hn:["enumerate", "zip", "dict_itemiterator", "dict_reverseitemiterator", "odict_iterator", "itertools.zip_longest", "itertools.pairwise"].contains n=false)(I:Q () s):XG M A (Yi tg (.ref it) u) Q E s:=by
  unfold Yi;cases tg<;>first
    |exact XF I
    | (cases u<;>first
        |exact XF I
        | (refine XC (wpAny_load ho ?_)
           rw[hc,hd]
           show XG M A (if (["enumerate", "zip", "dict_itemiterator", "dict_reverseitemiterator", "odict_iterator", "itertools.zip_longest", "itertools.pairwise"].contains n&&vs[0]?==some (rawInt _))=true then _ else _) Q E s
           rw[Zb (by intro h;rw[hn,Va] at h;cases h)]
           exact XF I))
noncomputable def PN(K:QJ)(a:Addr):It:=
 ⟨λi H=>∃xs x,dR K H a xs/\xs[i]?=some x,λi H x H'=>H'=H/\∀xs,dR K H a xs->xs[i]?=some x,λi H=>∃xs,dR K H a xs/\xs.length<=i⟩
noncomputable def PU(K:QJ)(a:Addr):It:=
 ⟨λi H=>∃xs x,jb K H a xs/\xs[i]?=some x,λi H x H'=>H'=H/\∀xs,jb K H a xs->xs[i]?=some x,λi H=>∃xs,jb K H a xs/\xs.length<=i⟩
noncomputable def LX(lo:Int)(n:Nat):It:=⟨λi _=>i<n,λi H x H'=>H'=H/\x=.int (lo+i),λi _=>n<=i⟩
theorem xF{P:Program}(a it:Addr):Turn P w K tg (PN K a) [it] it (λi h=>h.IsListIter it a i) where
 mem:=by simp
 obj:=λi h st b A=>by
  have e:b=it:=by simpa using A
  subst e;obtain⟨o,e,c,d⟩:=st;exact⟨o,e,λv z=>by rw[d] at z;cases z⟩
 keep:=λi h h' st k=>st.at λo e=>k it Z4 o e
 item:=by intro X V j m hc i pins s Y H E I hf st J;subst V j m;obtain⟨xs,x,R,hx⟩:=J;obtain⟨n,q,p,hz⟩:=I.list R;obtain⟨u,g,F⟩:=q.get hx;obtain⟨r,t,G,B,C,D⟩:=hf it Z4;refine wpAny_pyNext_list_item st p.isList (x:=u) (by simpa using g) λh' N sb=>?_;have Z:Inv X pins Y H { s with heap:=h' }:=I.turned (t':=s.toks) (λb o A e=>(sb.2 b A).trans e) r t B C D;obtain⟨o,e,c,d⟩:=id N;exact⟨u,rfl,vd (s:={ s with heap:=h' }) e c d Z2 ⟨x,H,Z,F,⟨rfl,λys hy=>by rw[I.hZ hy R];exact hx⟩,N,λb A=>(hf b A).1⟩⟩
 done:=by intro X V j m hc i pins s Y H E I hf st J;subst V j m;obtain⟨xs,R,hx⟩:=J;obtain⟨n,q,p,hz⟩:=I.list R;obtain⟨r,t,G,B,C,D⟩:=hf it Z4;have hl:=q.length;exact wpAny_pyNext_list_end (I.ok.hd hc) st p.isList (by simp;lia) λh' L=>⟨rfl,I.turned (t':=s.toks) (λb o A e=>L b o A e) r t B C D⟩
 self:=λ_ _ _ _ _ st h=>wpAny_pyIter_listiter st h
theorem uy{P:Program}(a it:Addr):Turn P w K tg (PU K a) [it] it (λi h=>h.IsTupleIter it a i) where
 mem:=by simp
 obj:=λi h st b A=>by
  have e:b=it:=by simpa using A
  subst e;obtain⟨o,e,c,d⟩:=st;exact⟨o,e,λv z=>by rw[d] at z;cases z⟩
 keep:=λi h h' st k=>st.at λo e=>k it Z4 o e
 item:=by intro X V O m hc i pins s Y H E I hf st J;subst V O m;obtain⟨xs,x,R,hx⟩:=J;obtain⟨j,q,p,hz⟩:=I.tuple R;obtain⟨u,g,F⟩:=q.get hx;obtain⟨r,t,G,B,C,D⟩:=hf it Z4;refine wpAny_pyNext_tuple_item st (show s.heap.IsTuple a j.toArray from p) (x:=u) (by simpa using g) λh' N sb=>?_;have Z:Inv X pins Y H { s with heap:=h' }:=I.turned (t':=s.toks) (λb o A e=>(sb.2 b A).trans e) r t B C D;obtain⟨o,e,c,d⟩:=id N;exact⟨u,rfl,vd (s:={ s with heap:=h' }) e c d Z2 ⟨x,H,Z,F,⟨rfl,λys hy=>by rw[I.oE hy R];exact hx⟩,N,λb A=>(hf b A).1⟩⟩
 done:=by intro X V O m hc i pins s Y H E I hf st J;subst V O m;obtain⟨xs,R,hx⟩:=J;obtain⟨j,q,p,hz⟩:=I.tuple R;obtain⟨r,t,G,B,C,D⟩:=hf it Z4;have hl:=q.length;exact wpAny_pyNext_tuple_end (I.ok.hd hc) st (show s.heap.IsTuple a j.toArray from p) (by simp;lia) λh' L=>⟨rfl,I.turned (t':=s.toks) (λb o A e=>L b o A e) r t B C D⟩
 self:=λ_ _ _ _ _ st h=>wpAny_pyIter_tupleiter st h
theorem ua{P:Program}(it:Addr)(lo:Int)(n:Nat):Turn P w K tg (LX lo n) [it] it (λi h=>YX h it (lo+(i:Nat)*1) ((n:Int)-(i:Nat)) 1) where
 mem:=by simp
 obj:=λi h st b d=>by
  have e:b=it:=by simpa using d
  subst e;exact⟨_,st,λv z=>by have c:Data.fields _=Data.cell v:=z;cases c⟩
 keep:=λi h h' st k=>k it Z4 _ st
 item:=by intro X V O m hc i pins s Y H E I hf st J;subst V O m;obtain⟨r,a,G,B,C,D⟩:=hf it Z4;have W:=WN (prog:=X.prog) (w:=X.w) (I.ok.hd hc) it lo 1 n;refine W.item i s _ _ J st λv h' tk A N u=>?_;obtain⟨t,rfl⟩:=A;have Z:Inv X pins Y H { s with heap:=h',toks:=tk }:=I.turned (λb o d e=>u b o (by simpa using d) e) r a B C D;refine⟨_,rfl,vd (s:={ s with heap:=h',toks:=tk }) (n:= "range_iterator") N rfl rfl Z2 ⟨.int (lo+i),H,Z,⟨t,?_⟩,⟨rfl,rfl⟩,N,λb d=>(hf b d).1⟩⟩;rw[Sg]
 done:=by intro X V O m hc i pins s Y H E I hf st J;subst V O m;obtain⟨r,a,G,B,C,D⟩:=hf it Z4;exact Yz (I.ok.hd hc) st (by have:n<=i:=J;lia) λh' L=>⟨rfl,I.turned (t':=s.toks) (λb o d e=>L b o d e) r a B C D⟩
 self:=λ_ _ _ _ _ st h=>YA st h
variable{p:Pos}{fp:List Addr}
section
variable{X:Cx}{tg:Expr}
theorem rV{R:It->Hp->Prop}{lo hi:Int}{t u v:Tok}{tk:Nat}(I:Inv X pins Y H s)(h1:-(2^62)<=lo)(h2:lo<2^62)(h3:-(2^62)<=hi)(h4:hi<2^62)
  (q:R (LX lo (hi-lo).toNat) H):XG (XH X.prog X.w) X.A (pyIter (.ref s.heap.objs.size)) (NQ X pins Y tg R) E { s with heap:=s.heap.push { cls:=.type "range",data:=.fields #[.int lo t,.int hi u,.int 1 v] },toks:=tk }:=by
 refine YN (Wz ..) (small_one h1 h2 h3 h4) ?_;have Z:Inv X pins Y H { s with heap:=s.heap.push { cls:=.type "range",data:=.fields #[.int lo t,.int hi u,.int 1 v] },toks:=tk }:=I.kept λb o e=>QY _ e;refine⟨(s.heap.push { cls:=.type "range",data:=.fields #[.int lo t,.int hi u,.int 1 v] }).objs.size,[(s.heap.push { cls:=.type "range",data:=.fields #[.int lo t,.int hi u,.int 1 v] }).objs.size],_,_,H,rfl,
  Z.kept (t':=tk) λb o e=>QY _ e,ua _ lo (hi-lo).toNat,?_,λb d=>?_,q⟩
 .have e1:lo+((0:Nat):Int)*1=lo:=by simp
  have e2:(((hi-lo).toNat:Nat):Int)-((0:Nat):Int)=So lo hi 1:=by rw[rangeSize_one];split<;>lia
  show YX _ _ (lo+((0:Nat):Int)*1) ((((hi-lo).toNat:Nat):Int)-((0:Nat):Int)) 1;rw[e1,e2];exact Rp _ rfl
 .have e:b=(s.heap.push { cls:=.type "range",data:=.fields #[.int lo t,.int hi u,.int 1 v] }).objs.size:=by simpa using d
  subst e;exact Z.xM (QR _) (Z.hok.fresh (QR _))
def Lc(ta:TA):TI:=λY H R=>ta Y H λvs U=>∃j:Int,vs=[.int j] /\ -(2^62)<=j/\j<2^62/\R (LX 0 j.toNat) U
def K9(ta:TA):TI:=λY H R=>ta Y H λvs U=>∃i j:Int,vs=[.int i,.int j]/\(-(2^62)<=i/\i<2^62 /\ -(2^62)<=j/\j<2^62)/\R (LX i (j-i).toNat) U
theorem wt{a:Expr}{ta:TA}(hg:Gl X "range")(hm:X.mg "range" = none)(ha:PA X [a] ta)(hs:XB [a] X.env=[(false,eval a X.env)]:=by rfl):PI X tg (.Call (.Name "range" p) [a] [] pos) (Lc ta):=by
 intro pins s Y H R I h;refine Call_ (gP I hg hm YB (RX (cM (ha pos pins s Y H _ I h) λus s1 ⟨vs,H1,I1,r1,q1⟩=>?_) hs rfl));obtain⟨j,e,q1,q2,q⟩:=q1;subst e;cases r1 with
 |cons r rr=>cases rr;obtain⟨t,rfl⟩:=r;exact call_range_1 (rV I1 Z2 Z2 q1 q2 (by simpa using q))
theorem wW{a b:Expr}{ta:TA}(hg:Gl X "range")(hm:X.mg "range" = none)(ha:PA X [a,b] ta)(hs:XB [a,b] X.env=[(false,eval a X.env),(false,eval b X.env)]:=by rfl)(hs2:XB [b] X.env=[(false,eval b X.env)]:=by rfl):
  PI X tg (.Call (.Name "range" p) [a,b] [] pos) (K9 ta):=by
 intro pins s Y H R I h;refine Call_ (gP I hg hm YB (RX (cM (ha pos pins s Y H _ I h) λus s1 ⟨vs,H1,I1,r1,q1⟩=>?_) (by simp only[hs,hs2]) (by rw[hs2];rfl)));obtain⟨i,j,e,⟨q1,q2,q3,q4⟩,q⟩:=q1;subst e;cases r1 with
 |cons r rr=>
  cases rr with
  |cons r' rr=>cases rr;obtain⟨t,rfl⟩:=r;obtain⟨t',rfl⟩:=r';exact call_range_2 (rV I1 q1 q2 q3 q4 q)
def Pg(o:TI)(g:TG)(tb:TS):TS:=λD Y H=>o Y H λJ U=>∃W:Nat->Nat->St->Hp->Prop,(∃m,W 0 m Y U)/\∀i m Y H,W i m Y H->
 (J.stop i H/\D.nx Y H)\/(J.go i H/\∃N:St->Hp->Prop,(∀j H',N j H'->∃X,X<m/\W (i+1) X j H')/\∀x H',J.yld i H x H'->g x Y H' λP S=>tb { D with nx:=N,ct:=N,bk:=D.nx } P S)
noncomputable def lX(fp:List Addr)(h:Heap):List (Addr×Obj):=fp.filterMap λb=>(h.get? b).map λo=>(b,o)
theorem gx{b:Addr}(d:b∈fp)(e:h.get? b=some o):(b,o)∈lX fp h:=UH.mpr ⟨b,d,by rw[e];rfl⟩
theorem wg{p:Addr×Obj}(hp:p∈lX fp h):p.1∈fp/\h.get? p.1=some p.2:=by
 obtain⟨b,d,e⟩:=UH.mp hp;cases q:h.get? b with
 |none=>rw[q] at e;cases e
 |some o=>rw[q] at e;have k:(b,o)=p:=Rh e;subst k;exact⟨d,q⟩
theorem Inv.pinned(I:Inv X pins Y H s)(hf:∀b∈fp,ny X pins H b)(ho:∀b∈fp,∃o,s.heap.get? b=some o/\∀v,o.data≠.cell v):Inv X (pins++lX fp s.heap) Y H s:=
 I.qg λp hp=>(QO.mp hp).elim (λz=>I.pin p (QK _ z)) λz=>by obtain⟨E,e⟩:=wg z;obtain⟨r,t,G,_⟩:=hf p.1 E;obtain⟨o,k,d⟩:=ho p.1 E;rw[e] at k;cases k;exact⟨e,r,t,G,d⟩
theorem Inv.eM{pl:List (Addr×Obj)}(I:Inv X (pins++pl) Y H s):Inv X pins Y H s:=I.qg λp hp=>I.pin p (QK _ (QM _ hp))
theorem GI{iter:Expr}{wi:TI}{g:TG}(hp:Yu (XH X.prog X.w) X.A X.env X.xe)(hc:X.calm=true)(hi:PI X tg iter wi)(hg:PG X tg g)(hb:rj X body tb)
  (hs:∀x,XU iter X.env x=pure x:=by intro _;rfl):PS X (.For tg iter body [] pos) (Pg wi g tb):=by
 intro pins s Y H D I h;refine wpAny_For (cM (hi pins s Y H _ I h) λv s1 h1=>cM h1 λitv s2 h2=>?_) hs;obtain⟨it,fp,tn,J,H2,e,I2,T,st2,f2,W,⟨m0,w0⟩,turn⟩:=h2;subst e;have stat:∀{H':Hp},(∀b∈fp,H' b=none)->∀b∈fp,ny X pins H' b:=λhn b hb=>⟨hn b hb,(f2 b hb).2⟩
 refine codeAny_forLoop_any (λn s'=>∃i j H',Inv X pins j H' s'/\tn i s'.heap/\(∀b∈fp,H' b=none)/\W i n j H') ?_ m0 ⟨0,Y,H2,I2,st2,λb hb=>(f2 b hb).1,w0⟩;rintro n s3 ⟨i,V,H3,I3,st3,fr3,w3⟩;rcases turn i n V H3 w3 with ⟨stop,qn⟩|⟨go,N,hN,step⟩
 .refine X0 hp (cM (T.done X rfl rfl rfl hc i pins s3 V H3 X.xe I3 (stat fr3) st3 stop) λr s4 ⟨hr,I4⟩=>?_);subst hr;exact Yh ⟨V,H3,I4,qn⟩
 .refine X0 hp (cM (T.item X rfl rfl rfl hc i pins s3 V H3 X.xe I3 (stat fr3) st3 go) λr s4 ⟨u,hr,h4⟩=>?_);subst hr;refine X0 hp (cM h4 λ_ s5 ⟨x,H5,I5,r5,y5,st5,fr5⟩=>?_);have I5':=I5.pinned (stat fr5) (T.obj _ _ st5);refine X0 hp (cM (hg _ s5 V H5 x u _ I5' r5 (step x H5 y5)) λ_ s6 ⟨σ6,H6,I6,q6⟩=>?_);refine X0 hp (cM (hb _ s6 σ6 H6 _ I6 q6) λf s7 q7=>?_);have again:∀{Z:St}{H7:Hp},Inv X (pins++lX fp s5.heap) Z H7 s7->N Z H7->∃m,m<n/\∃i j H',Inv X pins j H' s7/\tn i s7.heap/\(∀b∈fp,H' b=none)/\W i m j H':=λ{Z H7} I7 n7=>by obtain⟨m',hm,w7⟩:=hN Z H7 n7;refine⟨m',hm,i+1,Z,H7,I7.eM,T.keep _ _ _ st5 λb hb o e=>(I7.pin (b,o) (QK _ (QK _ (gx hb e)))).1,λb hb=>?_,w7⟩;obtain⟨o,e,d⟩:=T.obj _ _ st5 b hb;exact(I7.pin (b,o) (QK _ (QK _ (gx hb e)))).2.1
  cases f with
  |next=>obtain⟨Z,H7,I7,n7⟩:=q7;exact again I7 n7
  |cont=>obtain⟨Z,H7,I7,n7⟩:=q7;exact again I7 n7
  |brk=>obtain⟨Z,H7,I7,q7⟩:=q7;exact⟨Z,H7,I7.eM,q7⟩
  |ret v=>obtain⟨x7,Z,H7,I7,r7,q7⟩:=q7;exact⟨x7,Z,H7,I7.eM,r7,q7⟩
end
abbrev R2:=V->V->Hp->VK->Prop
def iU(X:Cx)(f:Value->Value->Sem Value)(r:R2):Prop:=
 ∀(pins:List (Addr×Obj))(s:Shared)(Y:St)(H:Hp)(x y:V)(v u:Value)(Q:VK),Inv X pins Y H s->RelV x v->RelV y u->r x y H Q->
  XG (XH X.prog X.w) X.A (f v u) (EP X pins Y Q) X.xe s
def OU(X:Cx)(f:Value->Sem Value)(r:V->Hp->VK->Prop):Prop:=
 ∀(pins:List (Addr×Obj))(s:Shared)(Y:St)(H:Hp)(x:V)(v:Value)(Q:VK),Inv X pins Y H s->RelV x v->r x H Q->
  XG (XH X.prog X.w) X.A (f v) (EP X pins Y Q) X.xe s
def du(X:Cx)(f:Value)(r:List V->Hp->VK->Prop):Prop:=
 ∀(pins:List (Addr×Obj))(s:Shared)(Y:St)(H:Hp)(xs:List V)(us:List Value)(Q:VK),Inv X pins Y H s->Vals xs us->r xs H Q->
  XG (XH X.prog X.w) X.A (call f us) (EP X pins Y Q) X.xe s
noncomputable def HK(r:R2)(ta tb:TE):TE:=λY H Q=>ta Y H λx U=>tb Y U λy S=>r x y S Q
noncomputable def QB(r:V->Hp->VK->Prop)(ta:TE):TE:=λY H Q=>ta Y H λx U=>r x U Q
noncomputable def rI(C:Int->Int->Prop)(g:Int->Int->V):R2:=λx y H Q=>∃i j,x=.int i/\y=.int j/\C i j/\Q (g i j) H
noncomputable def yc(g:Int->Int->V):R2:=λx y H Q=>∃i j,x=.int i/\y=.int j/\Q (g i j) H
def rU(g:Int->V):V->Hp->VK->Prop:=λx H Q=>∃i,x=.int i/\Q (g i) H
variable{f:Value->Value->Sem Value}{r:R2}
section
variable{X:Cx}{a b c:Expr}{ta tb tc:TE}{pos:Pos}
theorem IE(V:PE X a ta)(d:PE X b tb)(I:Inv X pins Y H s)
  (h:ta Y H λx U=>tb Y U λy S=>R x y S)
  (hf:∀v u s2 x y S,Inv X pins Y S s2->RelV x v->RelV y u->R x y S->XG (XH X.prog X.w) X.A (f v u) Q X.xe s2):
  XG (XH X.prog X.w) X.A (eval a X.env) (λv Z=>XG (XH X.prog X.w) X.A (eval b X.env) (λu T=>XG (XH X.prog X.w) X.A (f v u) Q X.xe T) X.xe Z) X.xe s:=by
 refine cM (V pins s Y H _ I h) λv s1 ⟨x,U,c,e,g⟩=>?_;refine cM (d pins s1 Y U _ c g) λu s2 ⟨y,S,j,k,l⟩=>?_;exact hf v u s2 x y S j e k l
theorem Mp{op:Y5}(ho:iU X (X9 op) r)(f:PE X a ta)(d:PE X b tb):PE X (.BinOp a op b pos) (HK r ta tb):=by intro pins s Y H Q I h;exact wpAny_BinOp (IE f d I h λv u s2 x y S j w z q=>ho pins s2 Y S x y v u Q j w z q)
theorem K0{op:UnaryOp}{r:V->Hp->VK->Prop}(ho:OU X (unaryOp op) r)(f:PE X a ta):PE X (.UnaryOp op a pos) (QB r ta):=by intro pins s Y H Q I h;exact UnaryOp_ (cM (f pins s Y H _ I h) λv s1 ⟨x,U,Z,e,g⟩=>ho pins s1 Y U x v Q Z e g)
theorem n6{C:Int->Int->Prop}{g:Int->Int->Int}
  (rule:∀(i j:Int)(t u:Tok)(s:Shared)(Q:Value->Shared->Prop)(E:Value->Shared->Prop),C i j->Q (.int (g i j) s.toks) { s with toks:=s.toks+1 }->XG (XH X.prog X.w) X.A (f (.int i t) (.int j u)) Q E s):
  iU X f (rI C λi j=>.int (g i j)):=by
 intro pins s Y H x y v u Q I K z h;obtain⟨i,j,rfl,rfl,hc,q⟩:=h;obtain⟨t,rfl⟩:=K;obtain⟨t',rfl⟩:=z;exact rule i j t t' s _ _ hc ⟨.int (g i j),H,I.tok _,⟨_,rfl⟩,q⟩
theorem Nl{g:Int->Int->Int}
  (rule:∀(i j:Int)(t u:Tok)(s:Shared)(Q:Value->Shared->Prop)(E:Value->Shared->Prop),Q (.int (g i j) s.toks) { s with toks:=s.toks+1 }->XG (XH X.prog X.w) X.A (f (.int i t) (.int j u)) Q E s):
  iU X f (yc λi j=>.int (g i j)):=by
 intro pins s Y H x y v u Q I K z h;obtain⟨i,j,rfl,rfl,q⟩:=h;obtain⟨t,rfl⟩:=K;obtain⟨t',rfl⟩:=z;exact rule i j t t' s _ _ ⟨.int (g i j),H,I.tok _,⟨_,rfl⟩,q⟩
theorem Gp{g:Int->Int->Bool}
  (rule:∀(i j:Int)(t u:Tok)(s:Shared)(Q:Value->Shared->Prop)(E:Value->Shared->Prop),Q (.bool (g i j)) s->XG (XH X.prog X.w) X.A (f (.int i t) (.int j u)) Q E s):
  iU X f (yc λi j=>.bl (g i j)):=by
 intro pins s Y H x y v u Q I K z h;obtain⟨i,j,rfl,rfl,q⟩:=h;obtain⟨t,rfl⟩:=K;obtain⟨t',rfl⟩:=z;exact rule i j t t' s _ _ ⟨.bl (g i j),H,I,rfl,q⟩
def MR(i j:Int):Prop:=0<=j/\j<=1000000/\i.natAbs<2^64
theorem Iq:iU X (X9 .Add) (yc λi j=>.int (i+j)):=Nl λ_ _ _ _ _ _ _ q=>add_int q
theorem Jk:iU X (X9 .Sub) (yc λi j=>.int (i-j)):=Nl λ_ _ _ _ _ _ _ q=>sub_int q
theorem EU:iU X (X9 .Mod) (rI (λ_ j=>j≠0) λi j=>.int (i.fmod j)):=n6 λ_ _ _ _ _ _ _ hc q=>mod_int' hc q
theorem Hh:iU X (X9 .Pow) (rI MR λi j=>.int (i^j.toNat)):=n6 λ_ _ _ _ _ _ _ hc q=>pow_int_small hc.1 hc.2.1 hc.2.2 q
theorem Qn{f:Value->Sem Value}{g:Int->Int}
  (rule:∀(i:Int)(t:Tok)(s:Shared)(Q:Value->Shared->Prop)(E:Value->Shared->Prop),Q (.int (g i) s.toks) { s with toks:=s.toks+1 }->XG (XH X.prog X.w) X.A (f (.int i t)) Q E s):
  OU X f (rU λi=>.int (g i)):=by
 intro pins s Y H x v Q I K h;obtain⟨i,rfl,q⟩:=h;obtain⟨t,rfl⟩:=K;exact rule i t s _ _ ⟨.int (g i),H,I.tok _,⟨_,rfl⟩,q⟩
theorem IQ:OU X (unaryOp .USub) (rU λi=>.int (-i)):=Qn λ_ _ _ _ _ q=>neg_int q
end
variable{us:List Value}
section
variable{X:Cx}{a b c:Expr}{ta tb tc:TE}{pos:Pos}
theorem yh{Q:VK}{k v:Bool}(I:Inv X pins Y H s)(q:Q (.bl k) H)(e:k=v):EP X pins Y Q (.bool v) s:=by subst e;exact⟨.bl k,H,I,rfl,q⟩
theorem jB:iU X (XZ .Lt) (yc λi j=>.bl (decide (i<j))):=Gp λ_ _ _ _ _ _ _ q=>lt_int q
theorem kL:iU X (XZ .Gt) (yc λi j=>.bl (decide (j<i))):=Gp λ_ _ _ _ _ _ _ q=>gt_int q
theorem Gk:iU X (XZ .GtE) (yc λi j=>.bl (decide (j<=i))):=Gp λ_ _ _ _ _ _ _ q=>ge_int q
theorem yg:iU X (XZ .Is) (λx y H Q=>y=.non/\Q (.bl (decide (x=.non))) H):=by
 intro pins s Y H x y v u Q I K z h;obtain⟨rfl,q⟩:=h;cases z;refine is_none_gen (yh I q ?_);cases x<;>first
  |(cases K;rfl)
  |(obtain⟨t,rfl⟩:=K;rfl)
theorem uH:iU X (XZ .IsNot) (λx y H Q=>y=.non/\Q (.bl (!decide (x=.non))) H):=by
 intro pins s Y H x y v u Q I K z h;obtain⟨rfl,q⟩:=h;cases z;refine isnot_none_gen (yh I q ?_);cases x<;>first
  |(cases K;rfl)
  |(obtain⟨t,rfl⟩:=K;rfl)
theorem dH(b:Expr)(h:op≠.In:=by decide)(h2:op≠.NotIn:=by decide):XR op b=false:=by
 have e1:(op==Xv)=false:=by cases op<;>first|rfl|exact absurd rfl h
 have e2:(op==WM)=false:=by cases op<;>first|rfl|exact absurd rfl h2
 cases b<;>simp[XR,e1,e2]
theorem C8(ho:iU X (XZ op) r)(f:PE X a ta)(d:PE X b tb)(hm:XR op b=false):PE X (.Compare a [op] [b] pos) (HK r ta tb):=by intro pins s Y H Q I h;exact wpAny_Compare1 (IE f d I h λv u s2 x y S j K z q=>ho pins s2 Y S x y v u Q j K z q) hm
noncomputable def Lv(t:TE):TT:=λY H Q=>t Y H λx H'=>∃k,x=.bl k/\Q k H'
theorem vN(ho:iU X (XZ op) r)(f:PE X a ta)(d:PE X b tb)(hm:XR op b=false):PT X (.Compare a [op] [b] pos) (Lv (HK r ta tb)):=by
 intro pins s Y H Q I h;refine YI (cM (f pins s Y H _ I h) λv s1 ⟨x,U,Z,n,g⟩=>cM (d pins s1 Y U _ Z g) λu s2 ⟨y,S,j,o,l⟩=>cM (ho pins s2 Y S x y v u _ j n o l) λc q ⟨z,w,B,p,k,e,R⟩=>?_) hm
 subst e;cases p;exact X7 ⟨w,B,R⟩
theorem kf:(sizeLine:Nat)<2^63:=by rw[X4];decide
theorem vals1{x:V}(r:Vals [x] us):∃u,us=[u]/\RelV x u:=by
 cases r with
 |cons e k=>cases k;exact⟨_,rfl,e⟩
theorem vals2{x y:V}(r:Vals [x,y] us):∃u Y,us=[u,Y]/\RelV x u/\RelV y Y:=by
 cases r with
 |cons e k=>
  cases k with
  |cons p H=>cases H;exact⟨_,_,rfl,e,p⟩
theorem zS:du X (.builtin "abs") (λxs H Q=>∃i,xs=[.int i]/\Q (.int (if i<0 then -i else i)) H):=by intro pins s Y H xs us Q I r h;obtain⟨i,rfl,q⟩:=h;obtain⟨u,rfl,t,rfl⟩:=vals1 r;exact call_abs_int λu tk=>⟨.int (if i<0 then -i else i),H,I.tok _,⟨_,rfl⟩,q⟩
theorem xC(hc:X.calm=true):du X (.builtin "max") (λxs H Q=>∃i j,xs=[.int i,.int j]/\Q (.int (if j > i then j else i)) H):=by
 intro pins s Y H xs us Q I r h;obtain⟨i,j,rfl,q⟩:=h;obtain⟨u,a,rfl,⟨t,rfl⟩,⟨t',rfl⟩⟩:=vals2 r;refine max_two_ints (I.ok.hd hc) λh' tk k=>⟨_,H,I.kept k,?_,q⟩
 by_cases x:j > i
 .rw[Za x,Za x];exact⟨_,rfl⟩
 .rw[Zb x,Zb x];exact⟨_,rfl⟩
theorem wY(hc:X.calm=true):du X (.builtin "min") (λxs H Q=>∃i j,xs=[.int i,.int j]/\Q (.int (if j<i then j else i)) H):=by
 intro pins s Y H xs us Q I r h;obtain⟨i,j,rfl,q⟩:=h;obtain⟨u,a,rfl,⟨t,rfl⟩,⟨t',rfl⟩⟩:=vals2 r;refine min_two_ints (I.ok.hd hc) λh' tk k=>⟨_,H,I.kept k,?_,q⟩
 by_cases x:j<i
 .rw[Za x,Za x];exact⟨_,rfl⟩
 .rw[Zb x,Zb x];exact⟨_,rfl⟩
theorem wH:du X (.type "int") (λxs H Q=>(∃i,xs=[.int i]/\Q (.int i) H)\/∃k,xs=[.bl k]/\Q (.int (if k then 1 else 0)) H):=by
 intro pins s Y H xs us Q I r h;rcases h with ⟨i,rfl,q⟩|⟨k,rfl,q⟩
 .obtain⟨u,rfl,t,rfl⟩:=vals1 r;exact call_int_int ⟨.int i,H,I,⟨_,rfl⟩,q⟩
 .obtain⟨u,rfl,e⟩:=vals1 r;cases e;exact call_int_bool ⟨.int (if k then 1 else 0),H,I.tok _,⟨_,rfl⟩,q⟩
def Ny(K:QJ)(x:V)(H:Hp)(n:Nat):Prop:=
 match x with
 | .str y=>y.length<=sizeLine/\n=y.length
 | .byt y=>y.size<=sizeLine/\n=y.size
 | .ref p=>(∃xs,dR K H p xs/\n=xs.length)\/∃xs,jb K H p xs/\n=xs.length
 |_=>False
theorem B3:du X (.builtin "len") (λxs H Q=>∃x n,xs=[x]/\Ny X.K x H n/\Q (.int n) H):=by
 intro pins s Y H xs us Q I r h;obtain⟨x,n,rfl,e,q⟩:=h;obtain⟨u,rfl,w⟩:=vals1 r;have hl:=kf;have hs:sizeLine=16777216:=X4;cases x with
 |str y=>obtain⟨t,rfl⟩:=w;obtain⟨hy,k⟩:y.length<=sizeLine/\n=y.length:=e;subst k;exact len_str Q1 ⟨.int _,H,I.tok _,⟨_,rfl⟩,q⟩
 |byt y=>obtain⟨t,rfl⟩:=w;obtain⟨hy,k⟩:y.size<=sizeLine/\n=y.size:=e;subst k;exact PySem.W.len_bytes Q1 ⟨.int _,H,I.tok _,⟨_,rfl⟩,q⟩
 |ref p=>
  cases w;have k:(∃xs,dR X.K H p xs/\n=xs.length)\/∃xs,jb X.K H p xs/\n=xs.length:=e;rcases k with ⟨xs,hx,k⟩|⟨xs,hx,k⟩
  .subst k;obtain⟨b,r',pl,hz⟩:=I.list hx;have v:=r'.length;exact VM pl.isList (by simp only[QQ];lia) ⟨.int xs.length,H,I.tok _,⟨_,by simp only[QQ];rw[v]⟩,q⟩
  .subst k;obtain⟨b,r',pl,hz⟩:=I.tuple hx;have v:=r'.length;exact len_tuple pl (by simp only[QQ];lia) ⟨.int xs.length,H,I.tok _,⟨_,by simp only[QQ];rw[v]⟩,q⟩
 |_=>exact(show False from e).elim
end
structure ub(h:Heap)(x dx C:Addr)(mA:Str->Option Value):Prop where
 obj:h.get? x=some (Sn C dx)
 ns:h.Ns1 dx mA
 ne:dx≠x
variable{dx:Addr}{mA:Str->Option Value}
theorem xk(n:h.Ns1 dx mA):∃od,h.get? dx=some od/\∀name,Ui name od=some (mA name):=by
 obtain⟨o,es,i,ho,hd,hk,_,hm⟩:=n;refine⟨o,ho,λname=>?_⟩;have e:=hm name;unfold nsFind findBy at e;rw[<-Array.find?_toList] at e;unfold Ui;rw[hd];dsimp only;split
 .rename_i y q;rw[q] at e;exact Ze some e
 .rename_i q;rw[q] at e;have a:es.toList.any (·.refKey)=false:=by rw[TJ];intro y hy;obtain⟨z,t,Y⟩:=hk y (Array.mem_toList_iff.mp hy);simp[DictEntry.refKey,Y]
  have a':¬ es.toList.any (·.refKey)=true:=by rw[a];exact RF
  rw[Zb a'];exact Ze some e
variable{C:Addr}
theorem ub.look{x:Addr}(I:ub h x dx C mA):∃od,PySem.W.InstAt h x (Sn C dx) C (some od)/\∀name,Ui name od=some (mA name):=
 let ⟨od,ho,hl⟩:=xk I.ns
 ⟨od,⟨I.obj,rfl,rfl,ho⟩,hl⟩
variable{kw:List (Str×Value)}
section
variable{prog:Program}{w:XM}{A:XN}{E:Value->Shared->Prop}{s:Shared}{K:QJ}{x dx C f:Addr}{mA:Str->Option Value}{name:Str}{v:Value}
theorem get_map{expr:Bool}(X:K.In s.heap)(I:ub s.heap x dx C mA)(Y:S7 K C name=true)(u:TB K C=true)
  (f:RW K (.ref C) name=some none)(c:mA name=some v)(H:VU v=true)(h:Q v { s with toks:=s.toks+1 }):
  XG (XH prog w) A (getAttr (.ref x) name expr) Q E s:=by
 obtain⟨od,J,hl⟩:=I.look;exact PySem.W.get_value X J (Ut Y).1 (PySem.W.findObj_own u f rfl (by simp only[hl,c])) H h
theorem yH{pl:Sem Bool}{Q:Value×List Value->Shared->Prop}(X:K.In s.heap)(I:ub s.heap x dx C mA)(Y:S7 K C name=true)
  (hf:RW K (.ref C) name=some (some (.ref f)))(l:UA K (.ref f)=true)(c:mA name=none)(h:Q (.ref f,[.ref x]) s):
  XG (XH prog w) A (Yv (.ref x) name pl) Q E s:=by
 obtain⟨od,J,hl⟩:=I.look;exact PySem.W.method_fn X J (Ut Y).1 (Ut Y).2 hf (Zf.mp l) (by show (Ui name od).map (·.isSome)=some false;rw[hl,c];rfl) h
theorem CT{ns:List Str}{Q:Unit->Shared->Prop}(X:K.In s.heap)(I:ub s.heap x dx C mA)
  (hs:RW K (.ref C) "__setattr__" = some (some (.builtin "object.__setattr__")))(hp:UB K C=true)(l:UW K C name=some none)(N:TB K C=true)
  (O:Vt mA ns)(hsz:ns.length<=sizeLine)
  (h:∀h',ub h' x dx C (λy=>if y=name then some v else mA y)->UQ dx s.heap h'->Q () { s with heap:=h',toks:=s.toks+2 }):
  XG (XH prog w) A (setAttr (.ref x) name v) Q E s:=by
 obtain⟨od,J,hl⟩:=I.look;refine PySem.W.set_plain X J hs (PySem.W.osa_open (s:={ s with toks:=s.toks+1 }) (r:=none) X J hp l λb=>?_);obtain⟨cd,hc,q⟩:=PySem.W.any_some N;have hx:s.heap.get? x=some ⟨.ref C,some dx,.plain,#[]⟩:=I.obj;refine XC (XF (XC (XC (wpAny_loadPart hx (XC (WW (s:={ s with toks:=s.toks+1 }) (PySem.W.looks_clsIn X hc) ?_))))));rw[q];refine XF (a:=some dx) (XC (XF (XC ?_)));refine wpAny_nsSet1 (s:={ s with toks:=s.toks+1 }) I.ns λh' H n=>?_;obtain⟨T,P,R,o,u,F⟩:=H.count (W7 name v O);refine XC (wpAny_lookBehind o (by rw[u];exact pastItsLine_dict (Rn F (by simp only[QX];exact Qb))) ?_);exact XF (h _ ⟨(n.2 _ (RO I.ne)).trans I.obj,H,I.ne⟩ n)
theorem Bg{R:Result->Shared->Prop}{vs:List Value}(X:K.In s.heap)(hm:UX K C=true)
  (hi:RW K (.ref C) "__init__" = some (some (.ref f)))(hf:PySem.W.typeIn K (.ref f)=some (.type "function"))
  (h:Yn (XH prog w) (A.under (.builtin "type.__call__" ⟨.ref C::vs,kw⟩)) (.call (.ref f) ⟨.ref (s.heap.objs.size+1)::vs,kw⟩) (PySem.W.InitBack (s.heap.objs.size+1) R)
   { s with heap:=(s.heap.push R3).push (Sn C s.heap.objs.size) }):
  Yn (XH prog w) A (.call (.ref C) ⟨vs,kw⟩) R s:=by
 obtain⟨u,g,d,t,os⟩:=s;exact PySem.W.make_core (PySem.W.makes_of X hm) (PySem.W.looks_findIn X hi) (λself=>PySem.W.bind_fn X self hf) (.inl rfl) h
end
noncomputable def eD(f:Str)(v:V):List (Str×V)->List (Str×V)
 |[]=>[(f,v)]
 |(g,x)::r=>if g=f then (g,v)::r else (g,x)::eD f v r
theorem eI(f g:Str)(v:V):∀fs:List (Str×V),(eD f v fs).lookup g=if g=f then some v else fs.lookup g
 |[]=>by
  show Tj g [(f,v)]=_;by_cases h:g=f
  .have d:(g==f)=true:=Zf.mpr h;simp only[Tj,d,Za h]
  .have d:(g==f)=false:=beq_eq_false_iff_ne.mpr h;simp only[Tj,d,Zb h]
 |(k,x)::r=>by
  have m:=eI f g v r;rw[show eD f v ((k,x)::r)=(if k=f then (k,v)::r else (k,x)::eD f v r) from rfl];by_cases hk:k=f
  .rw[Za hk];by_cases h:g=k
   .have d:(g==k)=true:=Zf.mpr h;simp only[Tj,d,Za (h.trans hk)]
   .have d:(g==k)=false:=beq_eq_false_iff_ne.mpr h;simp only[Tj,d,Zb (λe:g=f=>h (e.trans hk.symm))]
  .rw[Zb hk];by_cases h:g=k
   .have d:(g==k)=true:=Zf.mpr h;simp only[Tj,d,Zb (λe:g=f=>hk (h.symm.trans e))]
   .have d:(g==k)=false:=beq_eq_false_iff_ne.mpr h;simp only[Tj,d];exact m
theorem kv(f:Str)(v:V):∀fs:List (Str×V),f∈(eD f v fs).map (·.1)/\∀g,g∈fs.map (·.1)->g∈(eD f v fs).map (·.1)
 |[]=>⟨by simp[eD],λg h=>by simp at h⟩
 |(k,x)::r=>by
  obtain⟨s,I⟩:=kv f v r;rw[show eD f v ((k,x)::r)=(if k=f then (k,v)::r else (k,x)::eD f v r) from rfl];by_cases hk:k=f
  .rw[Za hk];subst hk;exact⟨by simp,λg h=>by simpa using h⟩
  .rw[Zb hk];refine⟨?_,λg h=>?_⟩
   .rw[RC];exact QP _ s
   .rw[RC] at h ⊢;rcases QW.mp h with e|e
    .exact QW.mpr (.inl e)
    .exact QP _ (I g e)
theorem fK(f:Str)(v:V):∀fs:List (Str×V),(eD f v fs).length<=fs.length+1
 |[]=>by exact QD
 |(k,x)::r=>by
  have m:=fK f v r;rw[show eD f v ((k,x)::r)=(if k=f then (k,v)::r else (k,x)::eD f v r) from rfl];by_cases hk:k=f
  .rw[Za hk,QX,QX];exact Si _ _
  .rw[Zb hk,QX,QX];exact RE ‹_›
theorem nD.some_of{v:V}{o:Option Value}(r:nD (some v) o):∃u,o=some u/\RelV v u:=by
 cases o with
 |none=>exact(show False from r).elim
 |some u=>exact⟨u,rfl,r⟩
theorem nD.none_of{o:Option Value}(r:nD none o):o=none:=by
 cases o with
 |none=>rfl
 |some u=>exact(show False from r).elim
theorem wj{v:V}(r:RelV v u):VU u=true:=by
 cases v with
 |non=>cases (show u=VS from r);rfl
 |bl b=>cases (show u=VT b from r);rfl
 |int i=>obtain⟨t,e⟩:=(show ∃t,u=TZ i t from r);cases e;rfl
 |str x=>obtain⟨t,e⟩:=(show ∃t,u=V7 x t from r);cases e;rfl
 |byt b=>obtain⟨t,e⟩:=(show ∃t,u=WK b t from r);cases e;rfl
 |flt b=>obtain⟨t,e⟩:=(show ∃t,u=WL b t from r);cases e;rfl
 |ref a=>cases (show u=SD a from r);rfl
 |ty n=>cases (show u=WV n from r);rfl
section
variable{P:Program}{w:XM}{H H':Hp}{h h':Heap}{a C dx:Addr}{fs Z1:List (Str×V)}
theorem pQ(hok:kD P w H h)(e:H a=some (.ins C dx fs)):∃mA,ub h a dx C mA/\(∀f,nD (fs.lookup f) (mA f))/\Vt mA (fs.map (·.1))/\fs.length<=1000/\H dx=some (.own a):=by
 obtain⟨d,z,ne,ob,mA,n,r,q⟩:=(show dQ P w H h a (.ins C dx fs) from hok a _ e)
 exact⟨mA,⟨ob,n,ne⟩,r,q,z,d⟩
end
structure hW(K:QJ)(C:Addr):Prop where
 pg:S7 K C Str.empty=true
 hd:TB K C=true
 po:UB K C=true
 sa:RW K (.ref C) "__setattr__" = some (some (.builtin "object.__setattr__"))
theorem hW.get(c:hW K C)(f:Str):S7 K C f=true:=c.pg
def cj(K:QJ)(C:Addr)(f:Str):Prop:=RW K (.ref C) f=some none
theorem cj.MW{f:Str}(n:cj K C f):UW K C f=some none:=by unfold UW;rw[show RW K (.ref C) f=some none from n];rfl
structure Meth(K:QJ)(C:Addr)(m:Str)(f:Addr):Prop where
 at_:RW K (.ref C) m=some (some (.ref f))
 fn:UA K (.ref f)=true
 kp:Se K (.ref f)=true
section
variable{X:Cx}{pins:List (Addr×Obj)}{Y:St}{H:Hp}{s:Shared}{a C dx:Addr}{fs:List (Str×V)}{f:Str}{v:V}{A:XN}{E:Value->Shared->Prop}
theorem uu{b:Bool}(I:Inv X pins Y H s)(e:H a=some (.ins C dx fs))(c:hW X.K C)(n:cj X.K C f)(l:fs.lookup f=some v)
  (h:∀u s',Inv X pins Y H s'->RelV v u->Q u s'):XG (XH X.prog X.w) A (getAttr (.ref a) f b) Q E s:=by
 obtain⟨mA,O,r,_,_,_⟩:=pQ I.hok e;obtain⟨u,g,F⟩:=nD.some_of (v:=v) (o:=mA f) (by rw[<-l];exact r f);exact get_map I.tU O (c.get f) c.hd n g (wj F) (h u _ (I.tok _) F)
theorem jc{m:Str}{g:Addr}{pl:Sem Bool}{Q:Value×List Value->Shared->Prop}(I:Inv X pins Y H s)(e:H a=some (.ins C dx fs))(c:hW X.K C)(k:Meth X.K C m g)(l:fs.lookup m=none)
  (h:Q (.ref g,[.ref a]) s):XG (XH X.prog X.w) A (Yv (.ref a) m pl) Q E s:=by
 obtain⟨mA,O,r,_,_,_⟩:=pQ I.hok e;have hn:mA m=none:=nD.none_of (by rw[<-l];exact r m);exact yH I.tU O (c.get m) k.at_ k.fn hn h
theorem tL{y:V}{Q:Unit->Shared->Prop}(I:Inv X pins Y H s)(e:H a=some (.ins C dx fs))(c:hW X.K C)(n:cj X.K C f)(hl:fs.length<1000)(p:RelV y u)
  (h:∀s',Inv X pins Y (upd H a (.ins C dx (eD f y fs))) s'->Q () s'):XG (XH X.prog X.w) A (setAttr (.ref a) f u) Q E s:=by
 obtain⟨mA,O,r,D,_,ho⟩:=pQ I.hok e;have hz:(fs.map (·.1)).length<=sizeLine:=by simp only[QU,X4];exact qw
 refine CT I.tU O c.sa c.po n.MW c.hd D hz λh' v sb=>h _ ?_;have hd:∃o,h'.get? dx=some o:=let ⟨o,_,_,e',_⟩:=v.ns;⟨o,e'⟩
 refine I.write (x:=a) (e:=dx) (by rw[e];exact V3) (.inr ho) (λb q d z=>(sb.2 b d).trans z) hd ?_;refine⟨by rw[aq O.ne];exact ho,?_,O.ne,v.obj,_,v.ns,λg=>?_,λg J=>?_⟩
 .have:=fK f y fs;exact Rn ‹_› ‹_›
 .show nD ((eD f y fs).lookup g) (if g=f then some u else mA g);rw[eI];by_cases q:g=f
  .rw[Za q,Za q];exact p
  .rw[Zb q,Zb q];exact r g
 .by_cases q:g=f
  .simp only[q];exact(kv f y fs).1
  .refine(kv f y fs).2 g (D g λz=>J ?_);show (if g=f then some u else mA g)=none;rw[Zb q];exact z
theorem Inv.made(I:Inv X pins Y H s):Inv X pins Y (upd (upd H s.heap.objs.size (.own (s.heap.objs.size+1))) (s.heap.objs.size+1) (.ins C s.heap.objs.size []))
  { s with heap:=(s.heap.push R3).push (Sn C s.heap.objs.size) }:=by
 have e1:(s.heap.push R3).get? s.heap.objs.size=some R3:=Rp s.heap rfl;have e2:((s.heap.push R3).push (Sn C s.heap.objs.size)).get? (s.heap.objs.size+1)=some (Sn C s.heap.objs.size):=by have:=Rp (s.heap.push R3) (o:=Sn C s.heap.objs.size) rfl;rwa[SM] at this
 have N:(s.heap.push R3).Ns s.heap.objs.size (λ_=>none):=⟨R3,#[],_,e1,rfl,(λe he=>absurd he Z4),λ_=>rfl⟩
 have Z:=I.laid (a:=s.heap.objs.size) (o:=.own (s.heap.objs.size+1)) (h':=s.heap.push R3) (t':=s.toks) (λb u q=>QY _ q) (QR _) ⟨_,e1⟩;refine Z.laid (a:=s.heap.objs.size+1) (o:=.ins C s.heap.objs.size []) (t':=s.toks) (λb u q=>QY _ q) (Uj (SM _ _)) ?_;have ne:s.heap.objs.size≠s.heap.objs.size+1:=Rw (Ru _);refine⟨by rw[aq ne,aN],R7 _,ne,e2,λ_=>none,(Heap.Ns1.of_empty N).at λo q=>QY _ q,λ_=>V3,λy hy=>absurd rfl hy⟩
theorem CU{prog:Program}{env:Env}{f:Str}(d:XE e f env (eval e env)=eval e env)
  (h:XG (XH prog w) A (eval e env) (λo Z=>XG (XH prog w) A (getAttr o f true) Q E Z) E s):XG (XH prog w) A (eval (.Attribute e f pos) env) Q E s:=
 Attribute_any_ h (by rw[arm_eval_Attribute,d])
end
def Cj(K:QJ)(ta:TE)(f:Str):TE:=λY H Q=>ta Y H λx U=>∃a C dx fs v,x=.ref a/\U a=some (.ins C dx fs)/\hW K C/\cj K C f/\fs.lookup f=some v/\Q v U
section
variable{X:Cx}{o e value:Expr}{f:Str}{pos pos' tpos:Pos}{ta tv:TE}
theorem fk(he:PE X e ta)(d:XE e f X.env (eval e X.env)=eval e X.env):PE X (.Attribute e f pos) (Cj X.K ta f):=by intro pins s Y H Q I h;refine CU d (cM (he pins s Y H _ I h) λu s1 ⟨x,U,Z,w,a,C,dx,fs,v,ex,y,c,n,l,q⟩=>?_);subst ex;obtain rfl:u=SD a:=w;exact uu Z y c n l λA s2 j F=>⟨v,U,j,F,q⟩
theorem Fm{pl:Sem Bool}{m:Str}{apos:Pos}{args:List Expr}(he:PE X e te)(I:Inv X pins Y H s)
  (h:te Y H λx U=>∃a C dx fs g,x=.ref a/\U a=some (.ins C dx fs)/\hW X.K C/\Meth X.K C m g/\fs.lookup m=none /\
   ∀s1,Inv X pins Y U s1->XG (XH X.prog X.w) X.A (YS pos (.ref g) [.ref a] (XI pos (XB args X.env)) (XY pos (XO [] X.env))) Q X.xe s1)
  (y:eval (.Call (.Attribute e m apos) args [] pos) X.env=(do
   let ov <- eval e X.env
   Ym apos.atName
   let (f,first) <- holding [ov] (Yv ov m pl)
   YS pos f first (XI pos (XB args X.env)) (XY pos (XO [] X.env)))):
  XG (XH X.prog X.w) X.A (eval (.Call (.Attribute e m apos) args [] pos) X.env) Q X.xe s:=by
 refine T8 (pl:=pl) (cM (he pins s Y H _ I h) λu s1 ⟨x,U,Z,E,a,C,dx,fs,g,ex,n,c,k,l,q⟩=>?_) y;subst ex;obtain rfl:u=SD a:=E;exact jc Z n c k l (q s1 Z)
end
section
variable{X:Cx}{pins:List (Addr×Obj)}{Y:St}{H:Hp}{s:Shared}{A:XN}{E:Value->Shared->Prop}{Q:Value->Shared->Prop}{c:Value}{b:Bool}
inductive zT(K:QJ)(H:Hp):V->Value->Prop where
 |non:zT K H .non (.type "NoneType")
 |bl(x:Bool):zT K H (.bl x) (.type "bool")
 |int(i:Int):zT K H (.int i) (.type "int")
 |str(x:Str):zT K H (.str x) (.type "str")
end
structure dd(k:Nat)(A:XN):Prop where
 hd:A.handled=none
 dp:A.depth+3*k+5<recursionLimit
 un:A.units+16*k+200<cLine
theorem dd.mono{k:Nat}{A:XN}(r:dd k A)(h:j<=k):dd j A:=⟨r.hd,by have:=r.dp;lia,by have:=r.un;lia⟩
theorem dd.deeper{k:Nat}{A:XN}(r:dd (k+1) A)(env:Env):dd k (A.deeper env):=
 ⟨r.hd,by have:=r.dp;show A.depth+1+3*k+5<_;lia,by have:=r.un;show A.units+3+16*k+200<_;lia⟩
theorem tY{A:XN}:(A.under (.builtin "type.__call__" ⟨.ref C::us,kw⟩)).depth=A.depth+1:=by first|rfl|simp[Vo,Code.weight,Code.isCreation,Code.isGuard,Code.isCaller,WX,Vy,guardIds]
theorem sQ{A:XN}:(A.under (.builtin "type.__call__" ⟨.ref C::us,kw⟩)).units=A.units+1:=by first|rfl|simp[Vo,Code.cUnits,WX,Vy]
theorem dd.make{k:Nat}{A:XN}(r:dd (k+1) A)(C:Addr)(us:List Value)(kw:List (Str×Value)):dd k (A.under (.builtin "type.__call__" ⟨.ref C::us,kw⟩)):=
 ⟨r.hd,by have:=r.dp;rw[tY];lia,by have:=r.un;rw[sQ];lia⟩
theorem dd.depth{k:Nat}{A:XN}(r:dd k A):A.depth<recursionLimit:=by have:=r.dp;lia
theorem dd.units{k:Nat}{A:XN}(r:dd k A):A.units+64<cLine:=by have:=r.un;lia
noncomputable def Lk:TA:=λ_ H Q=>Q [] H
noncomputable def Kz(ta:TE)(tr:TA):TA:=λY H Q=>ta Y H λx U=>tr Y U λxs S=>Q (x::xs) S
section
variable{X:Cx}{e:Expr}{es:List Expr}{te:TE}{t:TA}{pos:Pos}
theorem cB:PA X [] Lk:=λ_ _ _ _ H Q I h=>Calls.spliced_nil ⟨[],H,I,.nil,h⟩
theorem a9(ha:PE X e te)(hr:PA X es t)(hs:XB (e::es) X.env=(false,eval e X.env)::XB es X.env:=by rfl):PA X (e::es) (Kz te t):=by intro pos pins s Y H Q I h;rw[hs];show XG _ _ (spliced ((false,eval e X.env)::XI pos (XB es X.env))) _ _ s;refine Calls.spliced_cons (cM (ha pins s Y H _ I h) λu s1 ⟨x,H1,I1,r1,q1⟩=>?_);exact cM (hr pos pins s1 Y H1 _ I1 q1) λus s2 ⟨xs,H2,I2,r2,q2⟩=>⟨x::xs,H2,I2,.cons r1 r2,q2⟩
def OD(t:TA):TE:=λY H Q=>t Y H λxs U=>xs.length<=sizeLine/\∀p,U p=none->Q (.ref p) (upd U p (.tup xs))
def OC(t:TA):TE:=λY H Q=>t Y H λxs U=>xs.length<=sizeLine/\∀p,U p=none->Q (.ref p) (upd U p (.lst xs))
theorem HR{x1}(h:PA X es t):PE X (.Tuple es x1 pos) (OD t):=by intro pins s Y H Q I R;refine wpAny_Tuple_spliced (cM (h pos pins s Y H _ I R) λus s1 ⟨xs,U,Z,r,z,q⟩=>⟨by rw[<-r.length];exact z,?_⟩);have hf:U s1.heap.objs.size=none:=Z.hok.fresh (QR _);refine⟨.ref s1.heap.objs.size,upd U s1.heap.objs.size (.tup xs),Z.laid (t':=s1.toks) (λb u e=>QY _ e) (QR _) ?_,rfl,q _ hf⟩;exact⟨z,us,r,⟨_,Rp _ rfl,rfl,_,rfl,rfl⟩⟩
theorem JQ(h:PA X es t):PE X (.List es pos) (OC t):=by intro pins s Y H Q I R;refine wpAny_List_spliced (cM (h pos pins s Y H _ I R) λus s1 ⟨xs,U,Z,r,z,q⟩=>⟨by rw[<-r.length];exact z,?_⟩);have hf:U s1.heap.objs.size=none:=Z.hok.fresh (QR _);refine⟨.ref s1.heap.objs.size,upd U s1.heap.objs.size (.lst xs),Z.laid (t':=s1.toks) (λb u e=>QY _ e) (QR _) ?_,rfl,q _ hf⟩;exact⟨z,us,0,r,Rp _ rfl⟩
end
abbrev Sp:=List V->Hp->VK->XK->Prop
abbrev qA:=List Env->Hp->Shared->XK->Value->Shared->Prop
structure tq(P:Program)(w:XM)(K:QJ)(mg:Str->Option Value)(base:Heap)(A:XN)(outer:List Env)(s:Shared)(H:Hp):Prop where
 frames:A.frames=some outer
 mod:Mod K mg base
 bs:∀b o,base.get? b=some o->s.heap.get? b=some o/\H b=none
 bsz:base.objs.size<=s.heap.objs.size
 nC:s.heap.FunFrames base outer
 frf:∀b∈lA outer,H b=none
 hok:kD P w H s.heap
 bare:Yl s.gens
def CE(outer:List Env)(P:Program)(w:XM)(H:Hp)(s:Shared)(Q:VK)(u:Value)(s':Shared):Prop:=
 ∃v H',s'.os=s.os/\Yl s'.gens/\Un (lA outer) [] H H' s.heap s'.heap/\kD P w H' s'.heap/\RelV v u/\Q v H'
def CR(CX:qA)(outer:List Env)(P:Program)(w:XM)(H:Hp)(s:Shared)(Q:VK)(E:XK)(r:Result)(s':Shared):Prop:=
 match r with
 | .ok (.ret u)=>CE outer P w H s Q u s'
 | .ok _=>False
 | .error e=>CX outer H s E e s'
structure dP(P:Program)(w:XM)(K:QJ)(mg:Str->Option Value)(base:Heap)(CX:qA)(k:Nat)(f:Addr)(fd:XQ)(ps:List Str)(sp:Sp):Prop where
 len:∀vs H Q E,sp vs H Q E->vs.length=ps.length
 run:∀(A:XN)(outer:List Env)(s:Shared)(H:Hp)(args:Args)(us:List Value)(vs:List V)(Q:VK)(E:XK),dd k A->tq P w K mg base A outer s H->YC s fd args (ps.zip us)->Vals vs us->sp vs H Q E->
  Yn (XH P w) A (.call (.ref f) args) (CR CX outer P w H s Q E) s
theorem dP.mono{P:Program}{w:XM}{K:QJ}{mg:Str->Option Value}{base:Heap}{CX:qA}{j k:Nat}{f:Addr}{fd:XQ}{ps:List Str}{sp:Sp}(F:dP P w K mg base CX j f fd ps sp)(h:j<=k):
  dP P w K mg base CX k f fd ps sp:=⟨F.len,λA outer s H args us vs Q E u=>F.run A outer s H args us vs Q E (u.mono h)⟩
variable{mg:Str->Option Value}{base:Heap}{CX:qA}{fd:XQ}{ps:List Str}
theorem dP.imp{P:Program}{k:Nat}{f:Addr}{sp X:Sp}(F:dP P w K mg base CX k f fd ps sp)
  (h:∀vs H Q E,X vs H Q E->sp vs H Q E):dP P w K mg base CX k f fd ps X:=
 ⟨λvs H Q E q=>F.len vs H Q E (h _ _ _ _ q),λA outer s H args us vs Q E u he d c hs=>F.run A outer s H args us vs Q E u he d c (h _ _ _ _ hs)⟩
variable{outer:List Env}
theorem tq.make{P:Program}{A:XN}(e:tq P w K mg base A outer s H)(C:Addr)(us:List Value)(kw:List (Str×Value)):
  tq P w K mg base (A.under (.builtin "type.__call__" ⟨.ref C::us,kw⟩)) outer s H:=⟨by first|exact e.frames|(simpa[Vo,Code.envs,Vy,pushEnvs] using e.frames),e.mod,e.bs,e.bsz,e.nC,e.frf,e.hok,e.bare⟩
section
variable{X:Cx}{pins:List (Addr×Obj)}{Y:St}{H:Hp}{s s':Shared}
theorem Inv.MV(I:Inv X pins Y H s):tq X.prog X.w X.K X.mg X.base X.A X.stack s H:=
 ⟨I.ok.frames,I.ok.mod,I.bs,Rn I.ok.bsz I.sz,I.stack,I.vX,I.hok,I.bare⟩
theorem Inv.after{Q:VK}(I:Inv X pins Y H s)(h:CE X.stack X.prog X.w H s Q u s'):EP X pins Y Q u s':=by obtain⟨v,H',os,bare,un,hok,r,q⟩:=h;obtain⟨N,g,d,t,x⟩:=s';obtain rfl:x=s.os:=os;exact⟨v,H',I.call (h':=N) (g':=g) (d':=d) (t':=t) (ch:=[]) un hok bare (λb z=>absurd z Z4),r,q⟩
end
noncomputable def MJ(sp:Sp)(dvs:List V)(E:XK)(t:TA):TE:=λY H Q=>t Y H λvs U=>sp (vs++dvs) U Q E
def uC(C:Addr)(m:Str)(sp:Sp)(dvs:List V)(E:XK)(ta:TE)(t:TA):TE:=λY H Q=>ta Y H λx U=>∃a dx fs,x=.ref a/\U a=some (.ins C dx fs)/\fs.lookup m=none /\
 t Y U λvs S=>sp (x::(vs++dvs)) S Q E
def EY(C:Addr)(sp:Sp)(dvs:List V)(E:XK)(t:TA):TE:=λY H Q=>t Y H λvs U=>∀x dx,U x=none->U dx=none->dx≠x->
 sp (.ref x::(vs++dvs)) (upd (upd U dx (.own x)) x (.ins C dx [])) (λv S=>v=.non/\Q (.ref x) S) E
def Binds(K:QJ)(fd:XQ)(ps:List Str)(ds:List Value):Prop:=
 ∀(s:Shared)(us:List Value),K.In s.heap->(us++ds).length=ps.length->YC s fd ⟨us,[]⟩ (ps.zip (us++ds))
theorem Binds.all(h:∀us:List Value,us.length=ps.length->bindArgs fd ⟨us,[]⟩=pure (ps.zip us)):Binds K fd ps []:=λs us _ hl=>by rw[RT] at hl ⊢;exact .of_eq (h us hl)
def Passes(CX:qA)(X:Cx)(E:XK):Prop:=∀(pins:List (Addr×Obj))(Y:St)(H:Hp)(s:Shared)(e:Value)(s':Shared),Inv X pins Y H s->CX X.stack H s E e s'->X.xe e s'
variable{vs:List V}
section
variable{X:Cx}{CX:qA}{k:Nat}{f C:Addr}{fd:XQ}{ps:List Str}{sp:Sp}{dvs:List V}{ds:List Value}{E:XK}{x m:Str}{p pos apos:Pos}{e o:Expr}{es:List Expr}{ta:TE}{t:TA}
theorem sT{Q:VK}(F:dP X.prog X.w X.K X.mg X.base CX k f fd ps sp)(a:dd k X.A)(d:Binds X.K fd ps ds)(hd:Vals dvs ds)(hx:Passes CX X E)
  (I:Inv X pins Y H s)(r:Vals vs us)(h:sp (vs++dvs) H Q E):XG (XH X.prog X.w) X.A (call (.ref f) us) (EP X pins Y Q) X.xe s:=by
 have o:Vals (vs++dvs) (us++ds):=r.append hd;have hl:(us++ds).length=ps.length:=by rw[<-o.length];exact F.len _ _ _ _ h
 refine wpAny_call (YD (F.run X.A X.stack s H ⟨us,[]⟩ (us++ds) (vs++dvs) Q E a I.MV (d s us I.tU hl) o h) λr s' R=>?_);cases r with
 |error e=>exact hx pins Y H s e s' I R
 |ok fl=>
  cases fl with
  |ret u=>exact I.after R
  |next=>exact Sy R
  |brk=>exact Sy R
  |cont=>exact Sy R
theorem Ep(F:dP X.prog X.w X.K X.mg X.base CX k f fd ps sp)(hr:dd k X.A)(hg:Gl X x)(hm:X.mg x=some (.ref f))(hk:Se X.K (.ref f)=true)(hb:Binds X.K fd ps ds)(hd:Vals dvs ds)(hx:Passes CX X E)
  (ha:PA X (e::es) t)(hdb:fM x:=by decide)(he:XB (e::es) X.env=(false,eval e X.env)::XB es X.env:=by rfl)(hpl:(XI pos (XB es X.env)).any (·.1)=false:=by rfl):
  PE X (.Call (.Name x p) (e::es) [] pos) (MJ sp dvs E t):=by
 intro pins s Y H Q I h;refine Yc (p0 I hg hm ?_ hdb);refine Uw (h₀:=X.base) I.ok.mod.kin hk (cM (ha pos pins s Y H _ I h) λus s1 ⟨vs,H1,I1,r,q⟩=>⟨I1.tU,?_⟩) he hpl;exact sT F hr hb hd hx I1 r q
theorem u5{pl:Sem Bool}(he:PE X o ta)(c:hW X.K C)(hm:Meth X.K C m f)(F:dP X.prog X.w X.K X.mg X.base CX k f fd ps sp)(hr:dd k X.A)(hb:Binds X.K fd ps ds)(hd:Vals dvs ds)(hx:Passes CX X E)(ha:PA X (e::es) t)
  (hst:XB (e::es) X.env=(false,eval e X.env)::XB es X.env:=by rfl)(hpl:(XI pos (XB es X.env)).any (·.1)=false:=by rfl)
  (ht:eval (.Call (.Attribute o m apos) (e::es) [] pos) X.env=(do
   let ov <- eval o X.env
   Ym apos.atName
   let (f,first) <- holding [ov] (Yv ov m pl)
   YS pos f first (XI pos (XB (e::es) X.env)) (XY pos (XO [] X.env))):=by rfl):
  PE X (.Call (.Attribute o m apos) (e::es) [] pos) (uC C m sp dvs E ta t):=by
 intro pins s Y H Q I h;refine T8 (pl:=pl) (cM (he pins s Y H _ I h) λu s1 ⟨x,H1,I1,rx,a,dx,fs,ex,ea,l,q⟩=>?_) ht;subst ex;obtain rfl:u=SD a:=rx;refine jc I1 ea c hm l ?_;refine Uw (first:=[.ref a]) (h₀:=X.base) I.ok.mod.kin hm.kp (cM (ha pos pins s1 Y H1 _ I1 q) λus s2 ⟨vs,H2,I2,r,q2⟩=>⟨I2.tU,?_⟩) hst hpl;exact sT (us:=.ref a::us) (vs:=.ref a::vs) F hr hb hd hx I2 (.cons rfl r) q2
theorem qB{pl:Sem Bool}(he:PE X o ta)(c:hW X.K C)(hm:Meth X.K C m f)(F:dP X.prog X.w X.K X.mg X.base CX k f fd ps sp)(hr:dd k X.A)(hb:Binds X.K fd ps ds)(hd:Vals dvs ds)(hx:Passes CX X E)
  (ht:eval (.Call (.Attribute o m apos) [] [] pos) X.env=(do
   let ov <- eval o X.env
   Ym apos.atName
   let (f,first) <- holding [ov] (Yv ov m pl)
   YS pos f first (XI pos (XB [] X.env)) (XY pos (XO [] X.env))):=by rfl):
  PE X (.Call (.Attribute o m apos) [] [] pos) (uC C m sp dvs E ta Lk):=by
 intro pins s Y H Q I h;refine T8 (pl:=pl) (cM (he pins s Y H _ I h) λu s1 ⟨x,H1,I1,rx,a,dx,fs,ex,ea,l,q⟩=>?_) ht;subst ex;obtain rfl:u=SD a:=rx;refine jc I1 ea c hm l ?_;exact PySem.W.callWith_K0 (first:=[.ref a]) I1.tU hm.kp (sT (us:=[.ref a]) (vs:=[.ref a]) F hr hb hd hx I1 (.cons rfl .nil) q)
structure Mk(K:QJ)(C f:Addr):Prop where
 makes:UX K C=true
 init:RW K (.ref C) "__init__" = some (some (.ref f))
 fn:UA K (.ref f)=true
 kp:Se K (.ref C)=true
theorem zh{Q:VK}(M:Mk X.K C f)(F:dP X.prog X.w X.K X.mg X.base CX k f fd ps sp)(a:dd (k+1) X.A)(d:Binds X.K fd ps ds)(hd:Vals dvs ds)
  (hx:Passes CX X E)(I:Inv X pins Y H s)(r:Vals vs us)
  (h:∀x dx,H x=none->H dx=none->dx≠x->sp (.ref x::(vs++dvs)) (upd (upd H dx (.own x)) x (.ins C dx [])) (λv S=>v=.non/\Q (.ref x) S) E):
  XG (XH X.prog X.w) X.A (call (.ref C) us) (EP X pins Y Q) X.xe s:=by
 have R:=h (s.heap.objs.size+1) s.heap.objs.size (I.hok.fresh (Ux _)) (I.hok.fresh (QR _)) (Rw (Ru _));have j:=Inv.made (C:=C) I;have o:Vals (V.ref (s.heap.objs.size+1)::(vs++dvs)) (SD (s.heap.objs.size+1)::(us++ds)):=.cons rfl (r.append hd);have hl:(SD (s.heap.objs.size+1)::us++ds).length=ps.length:=by have e:=o.length;simp only[F.len _ _ _ _ R] at e;exact e.symm
 refine wpAny_call (Bg (f:=f) I.tU M.makes M.init (Zf.mp M.fn) (YD (F.run _ X.stack _ _ ⟨SD (s.heap.objs.size+1)::us,[]⟩ (SD (s.heap.objs.size+1)::(us++ds)) _ _ E (a.make C us [])
  (j.MV.make C us []) (d _ (SD (s.heap.objs.size+1)::us) j.tU hl) o R) λr s' t=>?_))
 cases r with
 |error e=>exact hx pins Y _ _ e s' j t
 |ok fl=>
  cases fl with
  |ret u=>obtain⟨v,H',B,q,y,z⟩:=j.after t;subst y;exact⟨q,⟨V.ref (s.heap.objs.size+1),H',B,rfl,z⟩⟩
  |next=>exact Sy t
  |brk=>exact Sy t
  |cont=>exact Sy t
theorem DR(M:Mk X.K C f)(F:dP X.prog X.w X.K X.mg X.base CX k f fd ps sp)(hr:dd (k+1) X.A)(hg:Gl X x)(hm:X.mg x=some (.ref C))(hb:Binds X.K fd ps ds)(hd:Vals dvs ds)(hx:Passes CX X E)
  (ha:PA X (e::es) t)(hdb:fM x:=by decide)(he:XB (e::es) X.env=(false,eval e X.env)::XB es X.env:=by rfl)(hpl:(XI pos (XB es X.env)).any (·.1)=false:=by rfl):
  PE X (.Call (.Name x p) (e::es) [] pos) (EY C sp dvs E t):=by
 intro pins s Y H Q I h;refine Yc (p0 I hg hm ?_ hdb);refine Uw (h₀:=X.base) I.ok.mod.kin M.kp (cM (ha pos pins s Y H _ I h) λus s1 ⟨vs,H1,I1,r,q⟩=>⟨I1.tU,?_⟩) he hpl;exact zh M F hr hb hd hx I1 r q
end
structure jA(N P:List Str)(sc:Scope):Prop where
 kind:sc.kind=.function
 co:sc.isCoroutine=false
 gen:sc.isGenerator=false
 nd:N.Nodup
 pre:N.take P.length=P
 par:∀x∈P,sc.names.lookup x=some .local\/sc.names.lookup x=some .cell
 nofree:∀y∈sc.names,y.2≠.free
theorem oG{kindOf:Str->Option NameKind}{x:Str}:∀{Q:List (Str×Value)}{m:Str->Option Value},(∀v,(x,v)∉Q)->Y6 kindOf Q m x=m x
 |[],_,_=>rfl
 |(n,v)::r,m,h=>by
  unfold Y6;rw[oG λw O=>h w (QP _ O)];split
  .have:x≠n:=by rintro rfl;exact h v Q0
   simp[this]
  .rfl
theorem ow{kindOf:Str->Option NameKind}{x:Str}:∀{Q:List (Str×Value)}{m:Str->Option Value},(∀v,(x,v)∉Q)->Y7 kindOf Q m x=m x
 |[],_,_=>rfl
 |(n,v)::r,m,h=>by
  unfold Y7;rw[ow λw O=>h w (QP _ O)];split
  .rfl
  .have:x≠n:=by rintro rfl;exact h v Q0
   simp[this]
theorem nP{kindOf:Str->Option NameKind}{x:Str}{v:Value}:∀{P:List Str}{vs:List Value}{i:Nat}{m:Str->Option Value},P.Nodup->P[i]?=some x->vs[i]?=some v->kindOf x=some .local->
  Y6 kindOf (P.zip vs) m x=some v
 |[],_,_,_,_,h,_,_=>by simp at h
 |_::_,[],_,_,_,_,h,_=>by simp at h
 |p::P,w::vs,0,m,nd,h1,h2,hk=>by simp at h1 h2;subst h1;subst h2;show Y6 kindOf ((p,w)::P.zip vs) m p=_;unfold Y6;rw[oG λv c=>(Rl.mp nd).1 (Ss c).1,Za hk];simp
 |p::P,w::vs,i+1,m,nd,h1,h2,hk=>by show Y6 kindOf ((p,w)::P.zip vs) m x=_;unfold Y6;exact nP (i:=i) (Rl.mp nd).2 (by simpa using h1) (by simpa using h2) hk
theorem n8{kindOf:Str->Option NameKind}{x:Str}{v:Value}:∀{P:List Str}{vs:List Value}{i:Nat}{m:Str->Option Value},P.Nodup->P[i]?=some x->vs[i]?=some v->kindOf x≠some .local->
  Y7 kindOf (P.zip vs) m x=some v
 |[],_,_,_,_,h,_,_=>by simp at h
 |_::_,[],_,_,_,_,h,_=>by simp at h
 |p::P,w::vs,0,m,nd,h1,h2,hk=>by simp at h1 h2;subst h1;subst h2;show Y7 kindOf ((p,w)::P.zip vs) m p=_;unfold Y7;rw[ow λv c=>(Rl.mp nd).1 (Ss c).1,Zb hk];simp
 |p::P,w::vs,i+1,m,nd,h1,h2,hk=>by show Y7 kindOf ((p,w)::P.zip vs) m x=_;unfold Y7;exact n8 (i:=i) (Rl.mp nd).2 (by simpa using h1) (by simpa using h2) hk
noncomputable def start(N:List Str)(vs:List V):St:=vs.map some++QZ (N.length-vs.length) none
noncomputable def um(CX:qA)(P:Program)(w:XM)(K:QJ)(mg:Str->Option Value)(base:Heap)(N:List Str)(qual:Str)(scope:Scope)(f:Addr)(cd:Value)(A:XN)(outer:List Env)(s:Shared)(H:Hp)(E:XK):Cx where
 prog:=P
 w:=w
 K:=K
 mg:=mg
 base:=base
 A:=A.deeper (YJ qual scope s.heap.objs.size f cd)
 N:=N
 s₀:=s
 H₀:=H
 env:=YJ qual scope s.heap.objs.size f cd
 outer:=outer
 stack:=YJ qual scope s.heap.objs.size f cd::outer
 ex:=[]
 calm:=true
 fn:=λ_=>true
 pn:=[]
 xe:=λe s'=>XG (XH P w) (A.deeper (YJ qual scope s.heap.objs.size f cd)) (leaving (YJ qual scope s.heap.objs.size f cd) e) (λ_ h=>CX outer H s E e h) (λk h=>CX outer H s E k h) s'
theorem so{sc:Scope}{n:Nat}{x:Str}(h:sc.names.lookup x=some .cell):∃c,(cellsFrom n sc.names []).lookup x=some c:=by have q:=Vg sc.names n [] (.inl h);exact Option.isSome_iff_exists.mp q
variable{scope:Scope}
theorem wI{P:Program}{qual:Str}{f:Addr}{cd:Value}{A:XN}{s1:Shared}{E:XK}
  (S:jA N ps scope)(hd:A.handled=none)(I:tq P w K mg base A outer s H)(hl:vs.length=ps.length)(r:Vals vs us)
  (x:InCallC s s.heap.objs.size (Y6 (YJ qual scope s.heap.objs.size f cd).kindOf (ps.zip us) λ_=>none) (cellsFrom (s.heap.objs.size+1) scope.names []) (Y7 (YJ qual scope s.heap.objs.size f cd).kindOf (ps.zip us) λ_=>none) s1):
  Inv (um CX P w K mg base N qual scope f cd A outer s H E) [] (start N vs) H s1:=by
 have Y:ps.length<=N.length:=by have:=Ze WY S.pre;rw[RN] at this;lia
 obtain⟨h1,tk,rfl,hk⟩:=x.done;have X:∀b:Addr,b∉(um CX P w K mg base N qual scope f cd A outer s H E).ex:=λb z=>absurd (show b∈([]:List Addr) from z) Z4;refine⟨⟨I.mod,S.kind,rfl,rfl,QR _,λy z c h1 h2=>?_,λy hy=>?_,λy c _ h=>?_,λ_=>hd,XN.frames_deeper I.frames,.inr ⟨rfl,rfl⟩,λb z=>absurd z (X b),I.bs,I.bsz,λb _ _=>X b,λb z=>absurd z (X b),I.nC,I.frf⟩,
  rfl,I.bare,Un.kept hk,⟨_,x.toInCall.ns,λi y v h1 h2 h3=>?_⟩,λy c h=>⟨_,x.cell y c h⟩,I.hok.fresh (QR _),λy c h=>?_,λp hp=>absurd (show p∈([]:List (Addr×Obj)) from hp) Z4,I.hok.kept hk,?_⟩
 .exact name_of_addr x.apart (SA h1) (SA h2)
 .have hy:scope.names.lookup y=some .cell\/scope.names.lookup y=some .free:=hy;rcases hy with hy|hy
  .exact so hy
  .exact absurd rfl (S.nofree _ (SA hy))
 .exact Q4 (x.above y c (SA h))
 .have hi:i<vs.length:=by
   unfold start at h2;by_cases hi:i<vs.length
   .exact hi
   .rw[RG (by simpa using hi)] at h2;rw[Vv] at h2;split at h2<;>cases h2
  have V:vs[i]?=some v:=by
   unfold start at h2;rw[RV (by simpa using hi),Rt] at h2;cases e:vs[i]? with
   |none=>rw[e] at h2;cases h2
   |some a=>rw[e] at h2;cases h2;rfl
  obtain⟨u,g,C⟩:=r.get V;have hp:ps[i]?=some y:=by rw[<-S.pre,TU Q1];exact h1
  have Q:ps.Nodup:=by rw[<-S.pre];exact S.nd.sublist (UR _ _)
  refine⟨u,C,?_⟩;rcases S.par y (RD hp) with k|k
  .exact .inl ⟨k,nP Q hp g k⟩
  .obtain⟨c,e⟩:=so (n:=s.heap.objs.size+1) k;refine .inr ⟨.inl k,c,e,?_⟩;have q:=x.cell y c e;rw[n8 Q hp g (by show scope.names.lookup y≠_;rw[k];decide)] at q;exact q
 .exact I.hok.fresh (Q4 (x.above y c (SA h)))
 .unfold start;show _=N.length;rw[Q7,QU,VE];lia
theorem My{P:Program}{k:Nat}{f:Addr}{name qual:Str}{h:Arguments}{dV kV doc pm cdv ct oc:Value}{an od:Option Addr}
  {osl:Array (Option Value)}{sp:Sp}(G:K.lookup f=some ⟨oc,od,.func (UC name qual h body scope dV kV doc pm an cdv ct),osl⟩)(i:Uk K cdv qual=true)(S:jA N ps scope)
  (len:∀vs H Q E,sp vs H Q E->vs.length=ps.length)
  (X:∀(A:XN)(outer:List Env)(s:Shared)(H:Hp)(vs:List V)(Q:VK)(E:XK),dd k (A.deeper (YJ qual scope s.heap.objs.size f cdv))->sp vs H Q E->
   ∃t,rj (um CX P w K mg base N qual scope f cdv A outer s H E) body t/\t { nx:=λ_ H'=>Q .non H',rt:=Q } (start N vs) H):
  dP P w K mg base CX (k+1) f (UC name qual h body scope dV kV doc pm an cdv ct) ps sp:=by
 refine⟨len,λA outer s H args us vs Q E a T d r Y=>?_⟩;have hl:=len _ _ _ _ Y;have D:K.In s.heap:=T.mod.kin.keeps λb o e=>(T.bs b o e).1;have p:s.heap.NoLimit:=T.mod.nolimit.keeps λb o e=>(T.bs b o e).1;have L:∀y∈ps.zip us,scope.names.lookup y.1=some .local\/(scope.names.lookup y.1=some .cell/\((cellsFrom (s.heap.objs.size+1) scope.names []).lookup y.1).isSome=true):=λ⟨n,v⟩ hy=>by
  rcases S.par n (Ss hy).1 with q|q
  .exact .inl q
  .exact .inr ⟨q,Vg _ _ _ (.inl q)⟩
 refine codeAny_call_function a.depth (D _ _ G) rfl S.co S.gen rfl (PySem.W.codeRec_of D i) (d _ _ _ _ ?_);refine wpAny_newFunctionEnv_cells S.kind L λenv he s1 x=>?_;subst he;refine⟨p.keeps x.toInCall.keep,codeAny_func ?_⟩;obtain⟨t,l,R⟩:=X A outer s H vs Q E (a.deeper _) Y;have I:Inv (um CX P w K mg base N qual scope f cdv A outer s H E) [] (start N vs) H s1:=wI S a.hd T hl r x;refine Yb (l [] s1 (start N vs) H _ I R) (λfl s' hs=>?_) λe s' hs=>hs;have fin:∀{j:St}{H':Hp}{v:V}{u:Value},Inv (um CX P w K mg base N qual scope f cdv A outer s H E) [] j H' s'->RelV v u->Q v H'->CE outer P w H s Q u s':=
  λ{j H' v u} J C q=>⟨v,H',J.os,J.bare,J.base,J.hok,C,q⟩
 cases fl with
 |ret u=>obtain⟨v,j,H',J,C,q⟩:=hs;exact fin J C q
 |next=>obtain⟨j,H',J,q⟩:=hs;exact fin (v:=V.non) (u:=VS) J rfl q
 |brk=>obtain⟨_,_,_,q⟩:=hs;exact Sy q
 |cont=>obtain⟨_,_,_,q⟩:=hs;exact Sy q
section
variable{X:Cx}{x:Str}{p pos:Pos}{e:Expr}{es:List Expr}{t:TA}{id T:String}{r:List V->Hp->VK->Prop}
noncomputable def PM(r:List V->Hp->VK->Prop)(t:TA):TE:=λY H Q=>t Y H λvs U=>r vs U Q
theorem jH(hc:du X (.builtin id) r)(hg:Gl X x)(hm:X.mg x=none)(hv:XD x=some (.builtin id))(ha:PA X (e::es) t)(hn:x ≠ "__name__" := by decide)(hdb:fM x:=by decide)
  (he:XB (e::es) X.env=(false,eval e X.env)::XB es X.env:=by rfl)(hpl:(XI pos (XB es X.env)).any (·.1)=false:=by rfl):PE X (.Call (.Name x p) (e::es) [] pos) (PM r t):=by
 intro pins s Y H Q I h;refine Yc (gP I hg hm hv ?_ hn hdb);exact W8 (cM (ha pos pins s Y H _ I h) λus s1 ⟨vs,H1,I1,r1,q1⟩=>hc pins s1 Y H1 vs us Q I1 r1 q1) he hpl
theorem fU(hc:du X (.type T) r)(hg:Gl X x)(hm:X.mg x=none)(hv:XD x=some (.type T))(ha:PA X (e::es) t)(hn:x ≠ "__name__" := by decide)(hdb:fM x:=by decide)
  (he:XB (e::es) X.env=(false,eval e X.env)::XB es X.env:=by rfl)(hpl:(XI pos (XB es X.env)).any (·.1)=false:=by rfl):PE X (.Call (.Name x p) (e::es) [] pos) (PM r t):=by
 intro pins s Y H Q I h;refine Yc (gP I hg hm hv ?_ hn hdb);exact RX (cM (ha pos pins s Y H _ I h) λus s1 ⟨vs,H1,I1,r1,q1⟩=>hc pins s1 Y H1 vs us Q I1 r1 q1) he hpl
end
end L2
namespace HT
open PySem PyProof.Rows
variable{sl:Addr}{vu:Value}{lo hi:Option Int}
section
variable{prog:Program}{w:XM}{A:XN}{E:Value->Shared->Prop}{s:Shared}
noncomputable def c7(n d:Nat):Option Int->Nat
 |none=>d
 |some v=>if v<0 then (v+(n:Int)).toNat else min v.toNat n
theorem uT(n d k:Nat):c7 n d (some (k:Int))=min k n:=by show (if (k:Int)<0 then ((k:Int)+(n:Int)).toNat else min (k:Int).toNat n)=min k n;rw[Zb Z4,UY]
theorem Kj(n d:Nat)(hd:d<=n)(o:Option Int):c7 n d o<=n:=by
 cases o with
 |none=>exact hd
 |some v=>
  show (if v<0 then (v+(n:Int)).toNat else min v.toNat n)<=n;by_cases c:v<0
  .rw[Za c];lia
  .rw[Zb c];exact Nat.min_le_right _ _
theorem vM(v:Int)(n d:Nat):(if v<0 then max (v+(n:Int)) 0 else min v (n:Int))=((c7 n d (some v):Nat):Int):=by
 show (if v<0 then max (v+(n:Int)) 0 else min v (n:Int))=(((if v<0 then (v+(n:Int)).toNat else min v.toNat n):Nat):Int);by_cases c:v<0
 .simp only[Za c];simp
 .simp only[Zb c];lia
theorem tN(lo hi:Option Int)(n:Nat):Th lo hi 1 (n:Int)=(((c7 n 0 lo:Nat):Int),((c7 n n hi:Nat):Int)):=by
 have h1:¬ ((1:Int)<0):=by decide
 unfold Th;dsimp only [h1,if_false];refine Prod.ext ?_ ?_
 .cases lo with
  |none=>rfl
  |some v=>exact vM v n 0
 .cases hi with
  |none=>rfl
  |some v=>exact vM v n n
theorem tf(i j:Nat):SG (i:Int) (j:Int) 1=j-i:=by
 unfold SG;have h1:(1:Int) > 0:=by decide
 simp only[h1,if_true,Int.ediv_one];split<;>lia
theorem mV{v:Value}{o:Option Int}{Q:Option Int->Shared->Prop}(p:YO v o)(h:Q o s):XG (XH prog w) A (WZ v) Q E s:=by
 cases p with
 |none=>exact slicePart_none h
 |int i t=>exact slicePart_int h
theorem kr{vl:Value}{n:Nat}{Q:Int×Int×Nat->Shared->Prop}(hs:s.heap.IsSliceOf sl vl vu .none)(pl:YO vl lo)(v:YO vu hi)
  (h:Q (((c7 n 0 lo:Nat):Int),1,c7 n n hi-c7 n 0 lo) s):XG (XH prog w) A (UD (.ref sl) (pure (n:Int))) Q E s:=by
 obtain⟨os,H,P,I⟩:=id hs
 delta UD W0
 refine XC (XC (YY H I (x:=vl) rfl (XC (YY H I (x:=vu) rfl (XC (YY H I (x:=.none) rfl (XF ?_)))))));refine XC (slicePart_none ?_);show XG _ _ (if ((1:Int)==0)=true then _ else _) _ _ s;rw[Zb Z2];refine XC (mV pl (XC (mV v (XC (XF ?_)))));show XG _ _ (match Th lo hi 1 (n:Int) with|(lo,hi)=>pure (lo,(1:Int),SG lo hi 1)) _ _ s;rw[tN lo hi n];show XG _ _ (pure (((c7 n 0 lo:Nat):Int),(1:Int),SG ((c7 n 0 lo:Nat):Int) ((c7 n n hi:Nat):Int) 1)) _ _ s;rw[tf];exact XF h
theorem zV(xs:Array Value)(i k:Nat):((Q8 k).filterMap λ(m:Nat)=>xs[((i:Int)+(m:Int)*1).toNat]?).toArray=((xs.toList.drop i).take k).toArray:=by
 have e:(λ(m:Nat)=>xs[((i:Int)+(m:Int)*1).toNat]?)=λm=>xs[i+m]?:=by
  funext m
  have:((i:Int)+(m:Int)*1).toNat=i+m:=by lia
  rw[this]
 rw[e];have:=pick_run xs i k;rw[List.filterMap_map] at this;have e2:((λx=>xs[x]?)∘λx=>i+x)=λm=>xs[i+m]?:=rfl;rw[e2] at this;rw[this]
theorem jw{t:Addr}{items:Array Value}{vl:Value}{Q:Value->Shared->Prop}(l:IsTup s.heap t items)(hs:s.heap.IsSliceOf sl vl vu .none)(pl:YO vl lo)(v:YO vu hi)
  (O:¬ (c7 items.size 0 lo=0/\c7 items.size items.size hi=items.size))
  (h:Q (.ref s.heap.objs.size) { s with heap:=s.heap.push { cls:=.type "tuple",data:=.seq ((items.toList.drop (c7 items.size 0 lo)).take (c7 items.size items.size hi-c7 items.size 0 lo)).toArray } })
  (hsz:items.size<=sizeLine):XG (XH prog w) A (Y0 (.ref t) (.ref sl)) Q E s:=by
 have x:sizeOk (.seq ((items.toList.drop (c7 items.size 0 lo)).take (c7 items.size items.size hi-c7 items.size 0 lo)).toArray):=by show ((items.toList.drop (c7 items.size 0 lo)).take (c7 items.size items.size hi-c7 items.size 0 lo)).toArray.size<=sizeLine;simp only[QQ,RN,Wc,Tp];lia
 have r:c7 items.size items.size hi<=items.size:=Kj _ _ (QR _) hi;obtain⟨os,H,P,n⟩:=id hs;have I:s.TypeIs (.ref sl) "slice" := ⟨os,H,P⟩
 unfold Y0
 try with_reducible refine Yp ?_
 first|refine XC (XF ?_)|skip
 refine XC (wpAny_sequenceKey l.typeIs Z2 ?_);refine XC (wpAny_callSpecial?_slot (name:=Str.ofString "__getitem__") l.typeIs SX
  (wpAny_call_entry SX l.typeIs entry_tuple_getitem ?_ (args_tuple_getitem _ _)))
 show XG _ _ (W2 (.ref t) >>= _) _ _ s;refine XC (tupleItemsOf_ l ?_);refine XC (wpAny_typeOf I ?_);rw[Za Z2];refine XC (kr hs pl v ?_);have X:¬ ((((c7 items.size 0 lo:Nat):Int)==0&&(1:Int)==1&&(c7 items.size items.size hi-c7 items.size 0 lo)==items.size)=true):=by intro q;simp only[QI,QI] at q;have g:((c7 items.size 0 lo:Nat):Int)=0:=eq_of_beq q.1.1;have y:c7 items.size items.size hi-c7 items.size 0 lo=items.size:=eq_of_beq q.2;exact O ⟨by lia,by lia⟩
 show XG _ _ (if (((c7 items.size 0 lo:Nat):Int)==0&&(1:Int)==1&&(c7 items.size items.size hi-c7 items.size 0 lo)==items.size)=true then _ else _) _ _ s;rw[Zb X,zV]
 first
  |exact XC (m:=SK _) (X1 (XF ⟨_,rfl,XF h⟩) x)
  |exact XC (m:=SK _) (X1 (XC (XF (XF ⟨_,rfl,XF h⟩))) x)
  |exact XC (XC (m:=SK _) (X1 (XF (XF ⟨_,rfl,XF h⟩)) x))
  |exact XC (XC (m:=SK _) (X1 (XF ⟨_,rfl,XF h⟩) x))
end
end HT
namespace L2
open PySem PySem.Spec PyProof.Rows
abbrev TO:=St->Hp->(Option Int->Hp->Prop)->Prop
def PO(X:Cx)(e:Option Expr)(t:TO):Prop:=
 ∀(pins:List (Addr×Obj))(s:Shared)(Y:St)(H:Hp)(Q:Option Int->Hp->Prop),Inv X pins Y H s->t Y H Q->
  XG (XH X.prog X.w) X.A (evalPart e X.env) (λu s'=>∃o H',Inv X pins Y H' s'/\YO u o/\Q o H') X.xe s
noncomputable def D1:TO:=λ_ H Q=>Q none H
noncomputable def Mm(t:TE):TO:=λY H Q=>t Y H λx U=>∃i,x=.int i/\Q (some i) U
variable{r:V->Option Int->Option Int->Hp->VK->Prop}
section
variable{X:Cx}{e:Expr}{te:TE}{lo hi:Option Expr}{tl th:TO}{pos p2:Pos}
theorem Ez:PO X none D1:=by intro pins s Y H Q I h;simp only[evalPart_none];exact XF ⟨none,H,I,.none,h⟩
theorem Eu(h:PE X e te):PO X (some e) (Mm te):=by intro pins s Y H Q I O;simp only[evalPart_some];refine cM (h pins s Y H _ I O) λu s1 ⟨x,U,Z,n,g⟩=>?_;obtain⟨i,rfl,q⟩:=g;obtain⟨t,rfl⟩:=n;exact⟨some i,U,Z,.int i t,q⟩
def eV(X:Cx)(r:V->Option Int->Option Int->Hp->VK->Prop):Prop:=
 ∀(pins:List (Addr×Obj))(s:Shared)(Y:St)(H:Hp)(x:V)(v vl h:Value)(lo hi:Option Int)(sl:Addr)(Q:VK),Inv X pins Y H s->RelV x v->s.heap.IsSliceOf sl vl h .none->YO vl lo->YO h hi->r x lo hi H Q->
  ∃T id,typeLookup (.type T) "__getitem__" = pure (some (.builtin id))/\s.TypeIs v T/\XG (XH X.prog X.w) X.A (Y0 v (.ref sl)) (EP X pins Y Q) X.xe s
theorem eV.or{r':V->Option Int->Option Int->Hp->VK->Prop}(h:eV X r)(h':eV X r'):eV X (λx lo hi H Q=>r x lo hi H Q\/r' x lo hi H Q):=by
 intro pins s Y H x v vl A lo hi sl Q I K hs pl E q;rcases q with q|q
 .exact h pins s Y H x v vl A lo hi sl Q I K hs pl E q
 .exact h' pins s Y H x v vl A lo hi sl Q I K hs pl E q
noncomputable def Qw(r:V->Option Int->Option Int->Hp->VK->Prop)(te:TE)(tl th:TO):TE:=λY H Q=>te Y H λx U=>tl Y U λl S=>th Y S λu w=>r x l u w Q
theorem A3(a:eV X r)(he:PE X e te)(hl:PO X lo tl)(g:PO X hi th):PE X (.Subscript e (.Slice lo hi none p2) pos) (Qw r te tl th):=by intro pins s Y H Q I h;refine Subscript_ (cM (he pins s Y H _ I h) λv s1 ⟨x,U,Z,n,V⟩=>?_);refine wpAny_Slice (cM (hl pins s1 Y U _ Z V) λvl s2 ⟨l,S,j,pl,y⟩=>cM (g pins s2 Y S _ j y) λE t ⟨u,L,B,i,z⟩=>?_);rw[evalPart_none];refine XF ?_;have m:Inv X pins Y L { t with heap:=t.heap.push { cls:=.type "slice",data:=.fields #[vl,E,.none] } }:=B.kept (t':=t.toks) λb ob q=>QY _ q;obtain⟨T,id,o,p,J⟩:=a pins { t with heap:=t.heap.push { cls:=.type "slice",data:=.fields #[vl,E,.none] } } Y L x v vl E l u t.heap.objs.size Q m n (WO ..) pl i z;show XG (XH X.prog X.w) X.A (subscriptTail e (.Slice lo hi none p2) v (.ref t.heap.objs.size)) (EP X pins Y Q) X.xe { t with heap:=t.heap.push { cls:=.type "slice",data:=.fields #[vl,E,.none] } };exact tail_any (ops:=[.ref t.heap.objs.size,v]) p o J (by with_unfolding_all rfl)
def ql(xs:List V)(lo hi:Option Int):List V:=(xs.drop (HT.c7 xs.length 0 lo)).take (HT.c7 xs.length xs.length hi-HT.c7 xs.length 0 lo)
theorem kN(xs:List V)(lo hi:Option Int):(ql xs lo hi).length<=xs.length:=by unfold ql;simp only[RN,Wc];lia
def OL(K:QJ):V->Option Int->Option Int->Hp->VK->Prop:=λx lo hi H Q=>∃a xs,x=.ref a/\jb K H a xs /\
 ¬ (HT.c7 xs.length 0 lo=0/\HT.c7 xs.length xs.length hi=xs.length)/\∀p,H p=none->Q (.ref p) (upd H p (.tup (ql xs lo hi)))
theorem Jm:eV X (OL X.K):=by
 intro pins s Y H x v vl T lo hi sl Q I w hs pl E h;obtain⟨a,xs,rfl,hx,O,q⟩:=h;cases w;obtain⟨j,r,l,hz⟩:=I.tuple hx;have A:j.toArray.size=xs.length:=by rw[QQ];exact r.length.symm
 refine⟨"tuple",_,SX.lookup,l.typeIs,?_⟩;refine HT.jw l hs pl E (by rw[A];exact O) ?_ (by rw[A];exact hz);rw[A];refine⟨.ref s.heap.objs.size,_,I.laid (t':=s.toks) (o:=.tup (ql xs lo hi)) (λb ob q=>QY _ q) (QR _) ?_,rfl,q _ (I.hok.fresh (QR _))⟩;exact⟨Rn (kN xs lo hi) hz,_,(r.drop (HT.c7 xs.length 0 lo)).take (HT.c7 xs.length xs.length hi-HT.c7 xs.length 0 lo),ja.new _ _⟩
end
noncomputable def gF(n:Nat)(i:Int):Option Nat:=if 0<=i then (if i<n then some i.toNat else none) else if -(n:Int)<=i then some (i+n).toNat else none
def gL{α:Type}(xs:List α)(i:Int):Option α:=(gF xs.length i).bind λj=>xs[j]?
variable{i:Int}{j:Nat}
theorem lF{n:Nat}(h:gF n i=some j):Yw i n=some j/\j<n /\ -(n:Int)<=i/\i<n:=by
 unfold gF at h;by_cases s:0<=i
 .rw[Za s] at h;by_cases h1:i<n
  .rw[Za h1] at h;have e:i.toNat=j:=Rh h;exact⟨by rw[YZ s h1,e],by lia,by lia,h1⟩
  .rw[Zb h1] at h;cases h
 .rw[Zb s] at h;by_cases h1:-(n:Int)<=i
  .rw[Za h1] at h;have e:(i+n).toNat=j:=Rh h;exact⟨by rw[YT Q1 h1,e],by lia,h1,by lia⟩
  .rw[Zb h1] at h;cases h
variable{α:Type}
theorem qh{xs:List α}{v:α}(h:gL xs i=some v):∃j,Yw i xs.length=some j/\xs[j]?=some v/\j<xs.length /\ -(xs.length:Int)<=i/\i<xs.length:=by
 unfold gL at h;cases e:gF xs.length i with
 |none=>rw[e] at h;cases h
 |some j=>rw[e] at h;obtain⟨h1,h2,h3,h4⟩:=lF e;exact⟨j,h1,h,h2,h3,h4⟩
theorem jM{xs:List α}{v:α}(h:xs[j]?=some v):gL xs (j:Int)=some v:=by
 have x:j<xs.length:=(QL.mp h).1;have e:gF xs.length (j:Int)=some j:=by unfold gF;rw[Za Z4,Za Q1];rfl
 unfold gL;rw[e];exact h
def jG(b:Expr):Prop:=∀o i,subscripted b false o i=operate [o,i] (Y0 o i)
def De(X:Cx)(r:R2):Prop:=
 ∀(value h:Expr)(pins:List (Addr×Obj))(s:Shared)(Y:St)(H:Hp)(x y:V)(v u:Value)(Q:VK),Inv X pins Y H s->RelV x v->RelV y u->r x y H Q->
  subscripted h false v u=operate [v,u] (Y0 v u)->XG (XH X.prog X.w) X.A (subscriptTail value h v u) (EP X pins Y Q) X.xe s
def Qa(X:Cx)(id:String)(r:V->List V->Hp->VK->Prop):Prop:=
 ∀(pins:List (Addr×Obj))(s:Shared)(Y:St)(H:Hp)(x:V)(xs:List V)(v:Value)(us:List Value)(Q:VK),Inv X pins Y H s->RelV x v->Vals xs us->r x xs H Q->
  XG (XH X.prog X.w) X.A (call (.builtin id) (v::us)) (EP X pins Y Q) X.xe s
variable{pins:List (Addr×Obj)}{Y:St}{H:Hp}{s:Shared}{p:Addr}{xs:List V}{its its':List Value}{u:Value}
section
variable{X:Cx}{a b:Expr}{ta tb:TE}{pos:Pos}
theorem De.or{r r':R2}(h:De X r)(h':De X r'):De X (λx y H Q=>r x y H Q\/r' x y H Q):=by
 intro value t pins s Y H x y v u Q I K z q hs;rcases q with q|q
 .exact h value t pins s Y H x y v u Q I K z q hs
 .exact h' value t pins s Y H x y v u Q I K z q hs
theorem yz{r:R2}(A:De X r)(f:PE X a ta)(d:PE X b tb)(hs:jG b):PE X (.Subscript a b pos) (HK r ta tb):=by intro pins s Y H Q I h;exact Subscript_ (IE f d I h λv u s2 x y S j K z q=>A a b pins s2 Y S x y v u Q j K z q (hs _ _))
def J2(K:QJ):R2:=λx y H Q=>∃p xs i v,x=.ref p/\y=.int i/\dR K H p xs/\gL xs i=some v/\Q v H
def LM(K:QJ):R2:=λx y H Q=>∃p xs i v,x=.ref p/\y=.int i/\jb K H p xs/\gL xs i=some v/\Q v H
def Nb:R2:=λx y H Q=>∃z i c,x=.str z/\y=.int i/\z.length<=sizeLine/\gL z.cps.toList i=some c/\Q (.str ⟨#[c]⟩) H
theorem qj:De X (J2 X.K):=by
 intro value C pins s Y H x y v u Q I E N h hs;obtain⟨p,xs,i,z,rfl,rfl,R,he,q⟩:=h;cases E;obtain⟨t,rfl⟩:=N;obtain⟨its,r,pl,hz⟩:=I.list R;obtain⟨j,h1,h2,h3,h4,h5⟩:=qh he;obtain⟨w,G,D⟩:=r.get h2;have hl:=r.length;have hn:=kf;have fin:EP X pins Y Q w s:=⟨z,H,I,D,q⟩
 by_cases L:0<=i
 .have F:i.toNat=j:=by rw[YZ L h5] at h1;exact Rh h1
  exact item_listR pl.isList L Q1 (by rw[F];simpa using G) fin hs
 .have F:(i+(its.toArray.size:Int)).toNat=j:=by rw[YT Q1 h4] at h1;rw[QQ,<-hl];exact Rh h1
  exact YE (x:=w) pl.isList.typeIs slot_list_getitem.lookup
   (wpAny_getItem_list_neg (Q:=λr s'=>r=w/\EP X pins Y Q r s') pl.isList Q1 (by rw[QQ]<;>lia) Q1 (by rw[F];simpa using G) ⟨rfl,fin⟩) hs
theorem J1:De X (LM X.K):=by
 intro value C pins s Y H x y v u Q I E N h hs;obtain⟨p,xs,i,z,rfl,rfl,R,he,q⟩:=h;cases E;obtain⟨t,rfl⟩:=N;obtain⟨its,r,pl,hz⟩:=I.tuple R;obtain⟨j,h1,h2,h3,h4,h5⟩:=qh he;obtain⟨w,G,D⟩:=r.get h2;have hl:=r.length;have hn:=kf;have fin:EP X pins Y Q w s:=⟨z,H,I,D,q⟩
 exact YE (x:=w) pl.typeIs slot_tuple_getitem.lookup
  (getItem_tuple (j:=j) (Q:=λr s'=>r=w/\EP X pins Y Q r s') pl Q1 Q1 (by rw[QQ,<-hl];exact h1) (by simpa using G) ⟨rfl,fin⟩) hs
theorem Hg:De X Nb:=by
 intro value C pins s Y H x y v u Q I K N h hs;obtain⟨z,i,c,rfl,rfl,hz,he,q⟩:=h;obtain⟨t,rfl⟩:=K;obtain⟨t',rfl⟩:=N;obtain⟨j,h1,h2,h3,h4,h5⟩:=qh he;have hl:z.cps.toList.length=z.length:=by rfl
 rw[hl] at h1 h4 h5;have hn:=kf;exact tail_any (typeIs_str s z t) slot_str_getitem.lookup (getItem_str (c:=c) (by have e1:decide (i < -(2^63:Int))=false:=Zc Q1;have e2:decide (i≥2^63)=false:=Zc Q1;rw[e1,e2,Bool.or_false]) (by rw[h1];simpa using h2) ⟨.str ⟨#[c]⟩,H,I.tok _,⟨_,rfl⟩,q⟩) hs
def PY(K:QJ):R2:=λx y H Q=>J2 K x y H Q\/LM K x y H Q\/Nb x y H Q
theorem Jf:De X (PY X.K):=qj.or (J1.or Hg)
theorem uz(its:List Value)(n j:Nat)(u:Value):UL (·.setIfInBounds j u) { cls:=.type "list",data:=.seq its.toArray n }={ cls:=.type "list",data:=.seq (its.set j u).toArray n }:=by simp[UL]
theorem Inv.lst(I:Inv X pins Y H s)(h:H p=some (.lst xs)):
  ∃(its:List Value)(n:Nat),Vals xs its/\s.heap.get? p=some { cls:=.type "list",data:=.seq its.toArray n }/\xs.length<=sizeLine:=by
 obtain⟨z,its,n,r,e⟩:=I.hok p _ h;exact⟨its,n,r,e,z⟩
theorem Inv.Ko{ys:List V}{n Q:Nat}{f:Obj->Obj}(I:Inv X pins Y H s)(h:H p=some (.lst xs))
  (ho:s.heap.get? p=some { cls:=.type "list",data:=.seq its.toArray n })(hf:f { cls:=.type "list",data:=.seq its.toArray n }={ cls:=.type "list",data:=.seq its'.toArray Q })(r:Vals ys its')(hz:ys.length<=sizeLine)(t:Nat):
  Inv X pins Y (upd H p (.lst ys)) { s with heap:=s.heap.update p f,toks:=t }:=by
 have e:(s.heap.update p f).get? p=some { cls:=.type "list",data:=.seq its'.toArray Q }:=by rw[Heap.get?_update_self f ho (by rw[hf]<;>rfl),hf]
 refine I.write (x:=p) (e:=p) (by rw[h];trivial) (.inl rfl) (λb u d q=>(Vz _ _ (RO d)).trans q) ⟨_,e⟩ ?_;exact⟨hz,its',Q,r,e⟩
def qS:V->V->V->Hp->(Hp->Prop)->Prop:=λo i v H Q=>∃p xs k j,o=.ref p/\i=.int k/\H p=some (.lst xs)/\gF xs.length k=some j/\Q (upd H p (.lst (xs.set j v)))
theorem set_list:Mv X qS:=by
 intro pins s Y H o i v T V u Q I x P C h;obtain⟨p,xs,k,j,rfl,rfl,hp,F,q⟩:=h;cases x;obtain⟨t,rfl⟩:=P;obtain⟨its,n,r,ho,hz⟩:=I.lst hp;obtain⟨h1,h2,h3,h4⟩:=lF F;have hl:=r.length;have hn:=kf;have a:Inv X pins Y (upd H p (.lst (xs.set j v))) { s with heap:=s.heap.update p (UL (·.setIfInBounds j u)) }:=
  I.Ko hp ho (uz its n j u) (r.set C j) (by rw[U5];exact hz) s.toks
 by_cases L:0<=k
 .have hk:k.toNat=j:=by rw[YZ L h4] at h1;exact Rh h1
  exact PySem.W.ki_setAt ho L Q1 (by rw[QQ,<-hl];exact h4) (by rw[hk];exact⟨_,a,q⟩)
 .have hk:(k+(its.toArray.size:Int)).toNat=j:=by rw[YT Q1 h3] at h1;rw[QQ,<-hl];exact Rh h1
  exact PySem.W.ki_setBack ho Q1 (by rw[QQ,<-hl];exact h3) Q1 (by rw[hk];exact⟨_,a,q⟩)
theorem pj(lo hi:Option Int)(n:Nat):(Yo lo hi none n).1=((HT.c7 n 0 lo:Nat):Int)/\(Yo lo hi none n).2.1=((HT.c7 n n hi:Nat):Int)/\(Yo lo hi none n).2.2=1:=by
 refine⟨?_,?_,rfl⟩
 .cases lo with
  |none=>rfl
  |some i=>
   simp only[Yo,HT.c7,V4,show (1:Int) > 0 by decide,if_true];by_cases h:i<0
   .simp only[h,if_true]<;>lia
   .simp only[h,if_false]<;>lia
 .cases hi with
  |none=>rfl
  |some i=>
   simp only[Yo,HT.c7,V4,show (1:Int) > 0 by decide,if_true];by_cases h:i<0
   .simp only[h,if_true]<;>lia
   .simp only[h,if_false]<;>lia
theorem nE(its:List Value)(lo hi:Option Int):slicePick its.toArray lo hi none=((its.drop (HT.c7 its.length 0 lo)).take (HT.c7 its.length its.length hi-HT.c7 its.length 0 lo)).toArray:=by obtain⟨h1,h2,h3⟩:=pj lo hi its.toArray.size;unfold slicePick;simp only[h1,h2,h3];rw[sliceRange_one,pick_run,QQ]<;>rfl
def OM(K:QJ):V->Option Int->Option Int->Hp->VK->Prop:=λx lo hi H Q=>∃a xs,x=.ref a/\dR K H a xs/\∀p,H p=none->Q (.ref p) (upd H p (.lst (ql xs lo hi)))
theorem DN:eV X (OM X.K):=by intro pins s Y H x v vl T lo hi sl Q I w hs pl E h;obtain⟨a,xs,rfl,hx,q⟩:=h;cases w;obtain⟨its,r,l,hz⟩:=I.list hx;have A:=r.length;refine⟨"list",_,slot_list_getitem.lookup,l.isList.typeIs,?_⟩;refine wpAny_getItem_list_slice l.isList hs pl E .none Z2 ?_ (by rw[QQ]<;>lia);rw[nE,<-A];refine⟨.ref s.heap.objs.size,_,I.laid (t':=s.toks) (o:=.lst (ql xs lo hi)) (λb ob q=>QY _ q) (QR _) ?_,rfl,q _ (I.hok.fresh (QR _))⟩;exact⟨Rn (kN xs lo hi) hz,_,0,(r.drop (HT.c7 xs.length 0 lo)).take (HT.c7 xs.length xs.length hi-HT.c7 xs.length 0 lo),Rp _ rfl⟩
noncomputable def gZ:V->Bool
 | .non=>true
 | .bl _=>true
 | .int _=>true
 | .str _=>true
 |_=>false
noncomputable def FU:V->V->Bool
 | .non,.non=>true
 | .bl a,.bl b=>a==b
 | .bl a,.int b=>(if a then 1 else 0)==b
 | .int a,.bl b=>a==(if b then 1 else 0)
 | .int a,.int b=>a==b
 | .str a,.str b=>a==b
 |_,_=>false
theorem cZ{A:XN}{y x:V}{v:Value}(z:RelV y u)(K:RelV x v)(H:gZ y=true)(fx:gZ x=true):T9 A s u v (FU y x):=by
 cases y with
 |non=>
  cases z;cases x with
  |non=>cases K;exact T9.same _
  |bl b=>cases K;exact T9.none_bool b
  |int b=>obtain⟨t,rfl⟩:=K;exact T9.none_int b t
  |str b=>obtain⟨t,rfl⟩:=K;exact T9.none_str b t
  |_=>exact absurd (show false=true from fx) RF
 |bl a=>
  cases z;cases x with
  |non=>cases K;exact T9.bool_none a
  |bl b=>cases K;exact T9.bool_bool a b
  |int b=>obtain⟨t,rfl⟩:=K;exact T9.bool_int a b t
  |str b=>obtain⟨t,rfl⟩:=K;exact T9.bool_str a b t
  |_=>exact absurd (show false=true from fx) RF
 |int a=>
  obtain⟨t',rfl⟩:=z;cases x with
  |non=>cases K;exact T9.int_none a t'
  |bl b=>cases K;exact T9.int_bool a t' b
  |int b=>obtain⟨t,rfl⟩:=K;exact T9.int_int a t' b t
  |str b=>obtain⟨t,rfl⟩:=K;exact Vm a t' b t
  |_=>exact absurd (show false=true from fx) RF
 |str a=>
  obtain⟨t',rfl⟩:=z;cases x with
  |non=>cases K;exact T9.str_none a t'
  |bl b=>cases K;exact T9.str_bool a t' b
  |int b=>obtain⟨t,rfl⟩:=K;exact Vn a t' b t
  |str b=>obtain⟨t,rfl⟩:=K;exact T9.str_str a t' b t
  |_=>exact absurd (show false=true from fx) RF
 |_=>exact absurd (show false=true from H) RF
def tS(x:V)(u:Value):Bool:=match u with
 | .none=>FU .non x
 | .bool b=>FU (.bl b) x
 | .int i _=>FU (.int i) x
 | .str z _=>FU (.str z) x
 |_=>false
theorem yU{x y:V}(r:RelV y u)(f:gZ y=true):tS x u=FU y x:=by
 cases y with
 |non=>cases r;rfl
 |bl b=>cases r;rfl
 |int i=>obtain⟨t,rfl⟩:=r;rfl
 |str z=>obtain⟨t,rfl⟩:=r;rfl
 |_=>exact absurd (show false=true from f) RF
theorem jP{x:V}:∀{xs:List V}{us:List Value},Vals xs us->xs.all gZ=true->us.any (tS x)=xs.any λy=>FU y x
 |_,_,.nil,_=>rfl
 |y::xs,u::us,.cons r t,f=>by simp only[Rg,QI] at f;simp only[WG,WG,yU r f.1,jP t f.2]
theorem g8{A:XN}{s:Shared}{x:V}{v:Value}(K:RelV x v)(fx:gZ x=true):∀{xs:List V}{us:List Value},Vals xs us->xs.all gZ=true->∀u∈us,T9 A s u v (tS x u)
 |_,_,.nil,_=>λu g=>by cases g
 |y::xs,u::us,.cons r t,f=>λI g=>by
  simp only[Rg,QI] at f;rcases QW.mp g with rfl|g
  .rw[yU r f.1];exact cZ r K f.1 fx
  .exact g8 K fx t f.2 I g
def FG(x:V)(xs:List V):Bool:=xs.any λy=>FU y x
def Lu(K:QJ)(neg:Bool):R2:=λx y H Q=>∃p xs,y=.ref p/\(dR K H p xs\/jb K H p xs)/\gZ x=true/\xs.all gZ=true/\Q (.bl (if neg then !FG x xs else FG x xs)) H
theorem kA:iU X (XZ .In) (Lu X.K false):=by
 intro pins s Y H x y v u Q I E z h;obtain⟨p,xs,rfl,R,fx,fs,q⟩:=h;cases z;rcases R with R|R
 .obtain⟨its,r,pl,hz⟩:=I.list R;refine SeqAt.in_listAt (tS x) pl.isList (λw O=>g8 E fx r fs w (by simpa using O)) ⟨.bl _,H,I,rfl,?_⟩;rw[show its.toArray.any (tS x)=its.any (tS x) by simp,jP r fs];exact q
 .obtain⟨its,r,pl,hz⟩:=I.tuple R;refine SeqAt.in_tupleAt (tS x) pl (λw O=>g8 E fx r fs w (by simpa using O)) ⟨.bl _,H,I,rfl,?_⟩;rw[show its.toArray.any (tS x)=its.any (tS x) by simp,jP r fs];exact q
theorem jN:iU X (XZ .NotIn) (Lu X.K true):=by
 intro pins s Y H x y v u Q I E z h;obtain⟨p,xs,rfl,R,fx,fs,q⟩:=h;cases z;rcases R with R|R
 .obtain⟨its,r,pl,hz⟩:=I.list R;refine SeqAt.notIn_listAt (tS x) pl.isList (λw O=>g8 E fx r fs w (by simpa using O)) ⟨.bl _,H,I,rfl,?_⟩;rw[show its.toArray.any (tS x)=its.any (tS x) by simp,jP r fs];exact q
 .obtain⟨its,r,pl,hz⟩:=I.tuple R;refine SeqAt.notIn_tupleAt (tS x) pl (λw O=>g8 E fx r fs w (by simpa using O)) ⟨.bl _,H,I,rfl,?_⟩;rw[show its.toArray.any (tS x)=its.any (tS x) by simp,jP r fs];exact q
theorem pd:du X (.builtin "len") (λxs H Q=>∃p ys,xs=[.ref p]/\(dR X.K H p ys\/jb X.K H p ys)/\Q (.int ys.length) H):=by
 intro pins s Y H xs us Q I r h;obtain⟨p,ys,rfl,R,q⟩:=h;obtain⟨u,rfl,w⟩:=vals1 r;cases w;have hn:=kf;rcases R with R|R
 .obtain⟨its,r',pl,hz⟩:=I.list R;have A:=r'.length;exact VM pl.isList (by simp only[QQ]<;>lia) ⟨.int ys.length,H,I.tok _,⟨s.toks+1,by rw[QQ,A]⟩,q⟩
 .obtain⟨its,r',pl,hz⟩:=I.tuple R;have A:=r'.length;exact len_tuple pl (by simp only[QQ]<;>lia) ⟨.int ys.length,H,I.tok _,⟨s.toks+1,by rw[QQ,A]⟩,q⟩
theorem pH:du X (.type "list") (λxs H Q=>∃p ys,xs=[.ref p]/\(dR X.K H p ys\/jb X.K H p ys)/\∀l,H l=none->Q (.ref l) (upd H l (.lst ys))):=by
 intro pins s Y H xs us Q I r h;obtain⟨p,ys,rfl,R,q⟩:=h;obtain⟨u,rfl,E⟩:=vals1 r;cases E;have fin:∀(its:List Value),Vals ys its->ys.length<=sizeLine->∀(h':Heap)(v:Nat),(∀b o',s.heap.get? b=some o'->h'.get? b=some o')->
   h'.get? s.heap.objs.size=some { cls:=.type "list",dict:=none,data:=.seq its.toArray v,slots:=#[] }->EP X pins Y Q (.ref s.heap.objs.size) { s with heap:=h' }:=λits r' hz h' v kp e=>
  ⟨.ref s.heap.objs.size,_,I.laid (t':=s.toks) kp (QR _) (show dQ X.prog X.w _ h' _ (.lst ys) from ⟨hz,its,v,r',e⟩),rfl,q _ (I.hok.fresh (QR _))⟩
 rcases R with R|R
 .obtain⟨its,r',pl,hz⟩:=I.list R;have A:=r'.length;obtain⟨o,ho,hc,n,hd⟩:=pl.isList;exact call_list_seq p (.inl rfl) ho hc hd (λh' v kp e=>fin its r' hz h' v kp e) (by simp only[QQ]<;>lia)
 .obtain⟨its,r',pl,hz⟩:=I.tuple R;have A:=r'.length;obtain⟨o,ho,hc,n,hd⟩:=pl;exact call_list_seq p (.inr rfl) ho hc hd (λh' v kp e=>fin its r' hz h' v kp e) (by simp only[QQ]<;>lia)
theorem nI:du X (.type "tuple") (λxs H Q=>∃p ys,xs=[.ref p]/\((dR X.K H p ys/\∀l,H l=none->Q (.ref l) (upd H l (.tup ys)))\/(jb X.K H p ys/\Q (.ref p) H))):=by
 intro pins s Y H xs us Q I r h;obtain⟨p,ys,rfl,h⟩:=h;obtain⟨u,rfl,E⟩:=vals1 r;cases E;rcases h with ⟨R,q⟩|⟨R,q⟩
 .obtain⟨its,r',pl,hz⟩:=I.list R;have A:=r'.length;refine call_tuple_list pl.isList (λh' kp=>?_) (by rw[QQ]<;>lia);have Z:Inv X pins Y H { s with heap:=h' }:=I.kept (t':=s.toks) kp;have j:Inv X pins Y (upd H h'.objs.size (.tup ys)) { s with heap:=h'.push { cls:=.type "tuple",data:=.seq its.toArray } }:=
   Z.laid (t':=s.toks) (λb o e=>QY _ e) (QR _) (show dQ X.prog X.w _ _ _ (.tup ys) from ⟨hz,its,r',ja.new _ _⟩)
  exact⟨.ref h'.objs.size,_,j,rfl,q _ (Z.hok.fresh (QR _))⟩
 .obtain⟨its,r',pl,hz⟩:=I.tuple R;exact call_tuple_same pl ⟨.ref p,H,I,rfl,q⟩
def Pq(K:QJ)(T:String)(x:V)(H:Hp):Prop:=match x with
 | .str _=>T = "str"
 | .int _=>T = "int"
 | .ref p=>(T = "list" /\ ∃xs,dR K H p xs)\/(T = "tuple" /\ ∃o,K.lookup p=some o/\o.cls=.type "tuple" /\ o.dict=none) \/
   (T = "dict" /\ ((∃kvs,H p=some (.dK kvs))\/∃kvs,H p=some (.dT kvs)))\/(T = "set" /\ ∃S n,H p=some (.set S n))
 |_=>False
theorem HB{T:String}{x:V}{v:Value}(I:Inv X pins Y H s)(r:RelV x v)(ty:Pq X.K T x H):
  s.TypeIs v T/\∀a,v=.ref a->∃ob,s.heap.get? a=some ob/\ob.dict=none:=by
 cases x with
 |str z=>obtain⟨t,rfl⟩:=r;cases (show T = "str" from ty);exact⟨typeIs_str s z t,λ_ e=>nomatch e⟩
 |int i=>obtain⟨t,rfl⟩:=r;cases (show T = "int" from ty);exact⟨Y8 s i t,λ_ e=>nomatch e⟩
 |ref p=>
  cases r;rcases ty with ⟨rfl,xs,R⟩|⟨rfl,o,hk,hc,hd⟩|⟨rfl,hk⟩|⟨rfl,S,n,hk⟩
  .obtain⟨its,_,pl,_⟩:=I.list R;refine⟨pl.isList.typeIs,λa e=>?_⟩;cases e;obtain⟨o,n,e,c,hd,_⟩:=pl;exact⟨o,e,hd⟩
  .refine⟨⟨o,I.tU p o hk,hc⟩,λa e=>?_⟩;cases e;exact⟨o,I.tU _ o hk,hd⟩
  .have z:∃o,s.heap.get? p=some o/\o.ExactDict:=by
    rcases hk with ⟨kvs,hk⟩|⟨kvs,hk⟩
    .obtain⟨_,_,_,_,o,_,_,e,ex,_⟩:=I.hok p _ hk;exact⟨o,e,ex⟩
    .obtain⟨_,_,_,_,o,_,_,e,ex,_⟩:=I.hok p _ hk;exact⟨o,e,ex⟩
   obtain⟨o,e,ex⟩:=z;refine⟨⟨o,e,ex.1⟩,λa e2=>?_⟩;cases e2;exact⟨o,e,ex.2.1⟩
  .obtain⟨o,_,_,_,e,ex,_⟩:=I.hok p _ hk;refine⟨⟨o,e,ex.1⟩,λa e2=>?_⟩;cases e2;exact⟨o,e,ex.2.1⟩
 |_=>exact Sy ty
noncomputable def P8(K:QJ)(T:String)(r:V->List V->Hp->VK->Prop)(X:TE)(t:TA):TE:=λY H Q=>X Y H λx U=>Pq K T x U/\t Y U λxs S=>r x xs S Q
variable{o e:Expr}{es:List Expr}{to:TE}{t:TA}{name:Str}{apos cpos:Pos}{T id:String}{r:V->List V->Hp->VK->Prop}
theorem oO(pa:PlainAttrs T)(slot:Slot T name id)(hty:typeOf (.builtin id)=pure (.type "method_descriptor"))(hm:Qa X id r)(ho:PE X o to)(ha:PA X (e::es) t)
  (hbase:XE o name X.env (eval o X.env)=eval o X.env:=by rfl)
  (hfew:((XI cpos (XB (e::es) X.env)).all (λx=>!x.1)&&(XY cpos (XO [] X.env)).all (λx=>x.1.isSome)
   && decide ((e::es).length+([]:List XW).length+(if ([]:List XW).isEmpty then 0 else 1)<30))=true:=by rfl)
  (hline:(apos.endLine==cpos.line)=true:=by rfl) (hs:XB (e::es) X.env=(false,eval e X.env)::XB es X.env:=by rfl) (hplain:(XI cpos (XB es X.env)).any (·.1)=false:=by rfl):
  PE X (.Call (.Attribute o name apos) (e::es) [] cpos) (P8 X.K T r to t):=by
 intro pins s Y H Q I h;refine wpAny_Call_method_late hbase hfew hline rfl (cM (ho pins s Y H _ I h) λv s1 ⟨x,H1,I1,r1,ty,q1⟩=>?_);obtain⟨h1,h2⟩:=HB I1 r1 ty;refine⟨T,id,pa,slot,hty,h1,h2,?_⟩;have hA:=ha cpos pins s1 Y H1 _ I1 q1;rw[hs] at hA ⊢;refine Calls.callWith_builtin (by show (false || (XI cpos (XB es X.env)).any (·.1))=false;rw[hplain]<;>rfl) (Calls.evalArgs_plain ?_);exact cM hA λus s2 ⟨vs,H2,I2,r2,q2⟩=>hm pins s2 Y H2 x vs v us Q I2 r1 r2 q2
end
def Ob(X:Cx)(id:String)(r:V->List V->Hp->VK->Prop):Prop:=
 ∀(pins:List (Addr×Obj))(s:Shared)(Y:St)(H:Hp)(x:V)(xs:List V)(v:Value)(us:List Value)(Q:VK),Inv X pins Y H s->RelV x v->Vals xs us->r x xs H Q->
  XG (XH X.prog X.w) X.A (call (.builtin id) (v::us)) (EP X pins Y Q) X.xe s
theorem Vals.one:∀{x:V}{us:List Value},Vals [x] us->∃u,us=[u]/\RelV x u
 |_,_,.cons r .nil=>⟨_,rfl,r⟩
theorem Vals.two:∀{x y:V}{us:List Value},Vals [x,y] us->∃u v,us=[u,v]/\RelV x u/\RelV y v
 |_,_,_,.cons r (.cons q .nil)=>⟨_,_,rfl,r,q⟩
theorem Vals.eraseIdx:∀{xs:List V}{us:List Value}(i:Nat),Vals xs us->Vals (xs.eraseIdx i) (us.eraseIdx i)
 |_,_,_,.nil=>.nil
 |_,_,0,.cons _ t=>t
 |_,_,i+1,.cons r t=>.cons r (Vals.eraseIdx i t)
theorem Vals.rep{xs:List V}{us:List Value}(h:Vals xs us):∀k:Nat,Vals (QZ k xs).flatten (QZ k us).flatten
 |0=>.nil
 |k+1=>by simp only[SV,SV,TK,TK];exact Vals.append h (Vals.rep h k)
theorem oQ{α:Type}:∀(l:List α)(i:Nat),(l.eraseIdx i).length<=l.length
 |[],_=>QR _
 |_::_,0=>Ux _
 |_::r,i+1=>Ua (oQ r i)
theorem foldl_rep(its:List Value):∀(k:Nat)(acc:List Value),
  UI (λs Q=>s++Q) acc.toArray (QZ k its.toArray)=(acc++(QZ k its).flatten).toArray
 |0,acc=>by simp
 |k+1,acc=>by
  have e:acc.toArray++its.toArray=(acc++its).toArray:=by simp
  have e2:(acc++its)++(QZ k its).flatten=acc++(QZ (k+1) its).flatten:=by simp only[SV,TK,QN]
  rw[<-e2,<-foldl_rep its k (acc++its),<-e,SV,List.foldl_cons]
variable{t':Nat}
section
variable{X:Cx}{pins:List (Addr×Obj)}{Y:St}{H:Hp}{s:Shared}{l b:Addr}{xs ys zs:List V}
theorem Inv.Ld{n:Nat}{f:Array Value->Array Value}(I:Inv X pins Y H s)(h:H l=some (.lst xs))
  (e:s.heap.get? l=some { cls:=.type "list",data:=.seq its.toArray n })(hf:f its.toArray=its'.toArray)(c:Vals ys its')(hz:ys.length<=sizeLine):
  Inv X pins Y (upd H l (.lst ys)) { s with heap:=s.heap.update l (UL f),toks:=t' }:=by
 have q:=PySem.IsL.update e f;rw[hf] at q;refine I.write (x:=l) (e:=l) (by rw[h];exact trivial) (.inl rfl) (λr u d g=>(Vz s.heap (UL f) (RO d)).trans g) ⟨_,q⟩ ?_;exact⟨hz,its',_,c,q⟩
theorem Inv.Hx(I:Inv X pins Y H s)(c:Vals ys its)(hz:ys.length<=sizeLine):
  Inv X pins Y (upd H s.heap.objs.size (.lst ys)) { s with heap:=s.heap.push { cls:=.type "list",data:=.seq its.toArray },toks:=t' }:=
 I.laid (λ_ _ q=>QY _ q) (QR _) ⟨hz,its,0,c,Rp _ rfl⟩
theorem Inv.fresh(I:Inv X pins Y H s):H s.heap.objs.size=none:=I.hok.fresh (QR _)
theorem Inv.Cv(I:Inv X pins Y H s)(h:H l=some (.lst xs)):xs.length<=sizeLine/\∃(its:List Value)(n:Nat),Vals xs its/\xs.length=its.length/\s.heap.get? l=some { cls:=.type "list",data:=.seq its.toArray n }:=by obtain⟨z,its,n,r,e⟩:=I.hok l _ h;exact⟨z,its,n,r,r.length,e⟩
theorem zC{n:Nat}(h:n<=sizeLine):Ts n=false:=by unfold Ts;exact Zc Q1
end
section
variable{X:Cx}
def C0:V->List V->Hp->VK->Prop:=λx vs H Q=>∃l xs y,x=.ref l/\vs=[y]/\H l=some (.lst xs)/\xs.length<sizeLine/\Q .non (upd H l (.lst (xs++[y])))
theorem kh:Ob X "list.append" C0:=by intro pins s Y H x vs v us Q I K C h;obtain⟨l,xs,y,rfl,rfl,i,hz,q⟩:=h;cases K;obtain⟨u,rfl,m⟩:=C.one;obtain⟨z,its,n,r,hl,e⟩:=I.Cv i;refine YF F.slot_list_append ⟨_,e,rfl⟩ F.entry_list_append (F.args_list_append_2 _ _) (PySem.list_append l its.toArray n u (by rw[QQ];lia)) ⟨e,?_⟩;refine⟨.non,_,I.Ld (its':=its++[u]) i e Z4 (r.append (.cons m .nil)) ?_,rfl,q⟩;simp only[Q7,Tf];assumption
def Ha:V->List V->Hp->VK->Prop:=λx vs H Q=>∃l xs i k y,x=.ref l/\vs=[.int i]/\H l=some (.lst xs) /\ -(2^63)<=i/\i<2^63/\Yw i xs.length=some k/\xs[k]?=some y/\Q y (upd H l (.lst (xs.eraseIdx k)))
theorem zi:Ob X "list.pop" Ha:=by
 intro pins s Y H x vs v us Q I K C h;obtain⟨l,xs,i,k,y,rfl,rfl,o,h1,h2,hk,hy,q⟩:=h;cases K;obtain⟨u,rfl,m⟩:=C.one;obtain⟨t,rfl⟩:=m;obtain⟨z,its,n,r,hl,e⟩:=I.Cv o;obtain⟨w,O,D⟩:=r.get hy;refine YF F.slot_list_pop ⟨_,e,rfl⟩ F.entry_list_pop (F.args_list_pop_2 _ _)
  (MeetsSeq.list_pop_at l its.toArray n i t k w (fitsIndex_both h1 h2) (by simp only[QQ,<-hl];exact hk) (by rw[<-VA];exact O) (by rw[QQ];lia)) ⟨e,?_⟩
 refine⟨y,_,I.Ld (its':=its.eraseIdx k) o e ?_ (r.eraseIdx k) ?_,D,q⟩
 .show its.toArray.eraseIdxIfInBounds k=(its.eraseIdx k).toArray;rw[List.eraseIdxIfInBounds_toArray]
 .have:=oQ xs k;exact Rn ‹_› ‹_›
def O2:R2:=λx y H Q=>∃l b xs s,x=.ref l/\y=.ref b/\H l=some (.lst xs)/\H b=some (.lst s)/\xs.length+s.length<=sizeLine/\∀p,H p=none->Q (.ref p) (upd H p (.lst (xs++s)))
theorem kB:iU X (X9 .Add) O2:=by
 intro pins s Y H x y v u Q I K N h;obtain⟨l,b,xs,V,rfl,rfl,i,t,hz,q⟩:=h;cases K;cases N;obtain⟨z,its,n,r,hl,e⟩:=I.Cv i;obtain⟨o,p,F,k,B,e2⟩:=I.Cv t;refine PySem.P.add_list e e2 ?_ (by rw[QQ,QQ];lia);have J:its.toArray++p.toArray=(its++p).toArray:=by simp
 rw[J];exact⟨.ref _,_,I.Hx (t':=s.toks) (r.append k) (by rw[Q7];lia),rfl,q _ I.fresh⟩
theorem len_rep(xs:List α)(k:Nat):(QZ k xs).flatten.length=k*xs.length:=by
 induction k with
 |zero=>simp
 |succ k m=>simp only[SV,TK,Q7,m,W3,W4]
end
section
variable{prog:Program}{w:XM}{A:XN}{E:Value->Shared->Prop}{s:Shared}
set_option maxRecDepth 100000 in
end
section
variable{P:Program}{w:XM}{H:Hp}{h:Heap}{a:Addr}
theorem KZ{u:HO}(ok:kD P w H h)(e:Rd H a u):dQ P w H h a u:=e.ok ok
theorem vP{kvs:List (Key×V)}(ok:kD P w H h)(e:Rd H a (.dK kvs)):kvs.length<=sizeLine/\(a==YM)=false/\∃vs,KV kvs vs/\h.DictOf (iG P w) a vs:=
 show dQ P w H h a (.dK kvs) from KZ ok e
end
structure M1(X:Cx)(o:Expr)(m:Str)(apos:Pos)(e:Expr)(cpos:Pos):Prop where
 base:XE o m X.env (eval o X.env)=eval o X.env
 few:((XI cpos (XB [e] X.env)).all (λx=>!x.1)&&(XY cpos (XO [] X.env)).all (λx=>x.1.isSome)
  && decide (([e]:List Expr).length+([]:List XW).length+(if ([]:List XW).isEmpty then 0 else 1)<30))=true
 line:(apos.endLine==cpos.line)=true
 trees:XI cpos (XB [e] X.env)=[(false,eval e X.env)]
end L2
namespace Att
open PySem PySem.W PySem.Calls PyProof.Rows
variable{h:Heap}
theorem kY{P:Params}:∀(ns:List Int)(vs:List Value),WellAll P h vs (ns.map W9)->Y1 vs ns:=by
 intro ns;induction ns with
 |nil=>intro vs w;simp only[Tu] at w;cases w;exact .nil
 |cons n ns m=>
  intro vs w;simp only[RC] at w;cases w with
  |cons a b=>cases a;exact .cons _ _ (m _ b)
theorem wX{l:OpenLaw}{n:Nat}(hn:l.most=some n){P:Params}{args:List WData}{s:List Value}
  (Y:l.row.toRowW.claim.pre args=true)(I:WellAll P h s args):
  ∃a vs ns,s=[SD a]/\args=[WData.list (ns.map W9)]/\h.get? a=some { cls:=.type "list",data:=.seq vs.toArray }/\Y1 vs ns/\ns.length<=n:=by
 have Q:WShape.hasAll [] args [.list .int]=true:=(pre_splitW Y).1;have hc:l.pre.holds [] { args:=args }=true:=(pre_splitW Y).2;obtain⟨d,r,rfl,h1,h2⟩:=hasAllW_cons Q;obtain rfl:=hasAllW_nil h2;obtain⟨xs,rfl,h3⟩:=hasW_list h1;obtain⟨ns,rfl⟩:=items_int h3;have A:ns.length<=n:=by
  unfold OpenLaw.pre at hc;have h4:(WTm.not (.lt (.lit (.int (n:Int))) (.len (.arg 0)))).holds [] { args:=[.list (ns.map .int)] }=true:=by have h4:=(holds_andW hc).1;rw[hn] at h4;exact h4
  have h5:=condW_of h4 (w_not (w_lt w_lit (w_len_list (w_arg rfl))));rw[QU] at h5;refine Nat.le_of_not_lt λq=>?_;have t:(n:Int)<((ns.length:Nat):Int):=by lia
  first
   |(rw[Zd t] at h5;exact absurd h5 Z2)
   |(simp at h5;lia)
 cases I with
 |cons L X=>
  cases X;cases L with
  |list ho H=>exact⟨_,_,ns,rfl,rfl,ho,kY ns _ H,A⟩
theorem xB(l:OpenLaw)(args:List WData):l.row.toRowW.claim.post args (.bool true) args=true:=
 postW_of (r:=l.row.toRowW) (X:=(true==true))
  (show WQ [] (.bool true) .bool=true by first|rfl|decide|simp[WQ,WShape.arms,WShape.armsAll])
  (show (WTm.eq .res (.lit (.bool true))).value [] { args:=args,res:=some (.bool true),after:=args }=some (.bool (true==true)) from w_eq_bool (w_res rfl) w_lit) rfl
theorem rE{l:OpenLaw}{n:Nat}{q:Program}{loose:List Str}{XP:(Str->Option Value)->Heap->Prop}{YP:XM->Heap->Prop}{d:DefRec}
  (hn:l.most=some n)(y:d.params.defaults=[])
  (call:∀(w:XM)(s₀ Z:Shared)(mg mb:Str->Option Value)(u:Addr)(o:Obj)(pm cd doc:Value)(a:Addr)(vs:List Value)(ns:List Int),
   Ground q loose [] XP w s₀ mg mb Z.heap->YP w Z.heap->
   Z.heap.get? u=some o->o.data=.func (docDef d.name d.params d.body d.scope pm cd doc)->Z.heap.CodeRec cd d.name->mg d.name=some (.ref u)->
   Z.heap.get? a=some { cls:=.type "list",data:=.seq vs.toArray }->Y1 vs ns->ns.length<=n->Z.gens=#[]->
   Yn (XH l.prog w) YG (.call (.ref u) ⟨[.ref a],[]⟩) (λr s'=>r=.ok (.ret (.bool true))/\OldK Z.heap s'.heap/\s'.os=Z.os/\Yl s'.gens) Z):
  WalkO q loose XP YP l.row.toRowW d [] (λf vs=>VV f vs):=by
 intro w s₀ Z mg mb G Y u o pm cd doc dV kV ho hd i P H J args Q as v X b I e;obtain rfl:dV=.none:=Dflts.none P y;obtain rfl:kV=.none:=Dflts.noKw P;obtain⟨a,vs,ns,rfl,rfl,x,s,A⟩:=wX hn v I;refine enter_call (YD (call w s₀ Z mg mb u o pm cd doc a vs ns G Y ho (fd_plain hd) i H x s A J) λr s' R=>?_);obtain⟨rfl,h2,h3,h4⟩:=R;exact⟨.inl ⟨.bool true,.bool true,[],rfl,λ_=>rfl,.bool true,xB l _,λ_=>⟨W5,λ_ hm=>(nomatch hm)⟩⟩,h2,h3,h4⟩
end Att
namespace L2
open PySem PySem.Spec PyProof.Rows
theorem oq:∀{vs:List Value}{ns:List Int},Y1 vs ns->Vals (ns.map V.int) vs
 |_,_,.nil=>.nil
 |_,_,.cons n t h=>.cons ⟨t,rfl⟩ (oq h)
def HP(H:Hp):Prop:=∀b,H b=none\/∃o xs,H b=some (.frz o (.lst xs))
theorem yZ{P:Program}{w:XM}{K:QJ}{mg mb:Str->Option Value}{CX:qA}{k:Nat}{X a:Addr}{fd:XQ}{x:Str}{sp:Sp}{Z:Shared}{vs:List Value}{ns:List Int}
  (N:K.In Z.heap)(B:Z.heap.Ns XJ mg)(E:Z.heap.Ns Yy mb)(t:∀x:Str,x ≠ "__name__" -> mb x=XD x)(G:Z.heap.NoLimit)(A:Z.gens=#[])
  (f:Z.heap.get? a=some { cls:=.type "list",data:=.seq vs.toArray })(hi:Y1 vs ns)(hl:ns.length<=sizeLine)(S:dd k YG)
  (F:∀base:Heap,K.In base->base.Ns XJ mg->dP P w K mg base CX k X fd [x] sp)(y:∀(s:Shared)(u:Value),YC s fd ⟨[u],[]⟩ [(x,u)])
  (D:∀H:Hp,HP H->dR K H a (ns.map V.int)->sp [.ref a] H (λv _=>v=.bl true) λ_ _ _=>False)
  (J:∀H e s',CX [] H Z (λ_ _ _=>False) e s'->False):
  Yn (XH P w) YG (.call (.ref X) ⟨[.ref a],[]⟩) (λr s'=>r=.ok (.ret (.bool true))/\OldK Z.heap s'.heap/\s'.os=Z.os/\Yl s'.gens) Z:=by
 have C:=oq hi;have I:=hi.length;have p:∀H:Hp,HP H->dR K H a (ns.map V.int)->kD P w H Z.heap->(∀b,H b≠none->b=a)->(H a≠none->K.lookup a=none)->
   Yn (XH P w) YG (.call (.ref X) ⟨[.ref a],[]⟩) (λr s'=>r=.ok (.ret (.bool true))/\OldK Z.heap s'.heap/\s'.os=Z.os/\Yl s'.gens) Z:=by
  intro H O R hok j g;have bu:∀{b:Addr}{o:Obj},Z.heap.get? b=some o->H b=none->(qq Z.heap H).get? b=some o:=λe n=>zX e n;have L:∀{b:Addr}{o:Obj}{es:Array DictEntry}{i:Nat},Z.heap.get? b=some o->o.data=.dict es i->H b=none:=λ{b o es i} e d=>by
   cases q:H b with
   |none=>rfl
   |some u=>have l:b=a:=j b (by rw[q];simp);subst l;rw[f] at e;cases e;have d':Data.seq vs.toArray _=Data.dict es i:=d;cases d'
  have Y:∀{b:Addr}{m:Str->Option Value},Z.heap.Ns b m->(qq Z.heap H).Ns b m:=λ{b m} ⟨o,es,i,e,d,r⟩=>⟨o,es,i,bu e (L e d),d,r⟩
  have Q:K.In (qq Z.heap H):=λb o e=>bu (N b o e) (by
   cases q:H b with
   |none=>rfl
   | some u=>have l:b=a:=j b (by rw[q];simp);subst l;rw[g (by rw[q];simp)] at e;cases e)
  have U:Mod K mg (qq Z.heap H):=⟨Q,Y B,⟨mb,Y E,t⟩,let ⟨mc,h1,h2⟩:=G;⟨mc,Y h1,h2⟩⟩
  have e0:tq P w K mg (qq Z.heap H) YG [] Z H:=⟨rfl,U,λb o e=>Cw e,Uj (xa _ _),trivial,λb E=>absurd (show b∈([]:List Addr) from E) Z4,hok,.of_eq A⟩
  refine YD ((F _ Q (Y B)).run YG [] Z H ⟨[.ref a],[]⟩ [.ref a] [.ref a] _ _ S e0 (y Z (.ref a)) (.cons rfl .nil) (D H O R)) λr s' h=>?_;cases r with
  |error e=>exact(J H e s' h).elim
  |ok fl=>
   cases fl with
   |next=>exact Sy h
   |brk=>exact Sy h
   |cont=>exact Sy h
   |ret u=>
    obtain⟨v,H',os,bare,un,T,r',q⟩:=h;have q':v=.bl true:=q;subst q';obtain rfl:u=VT true:=r';refine⟨rfl,OldK.of_keep λb o e=>?_,os,bare⟩;cases q:H b with
    |none=>exact un.keep b o e q (by intro z;exact absurd (show b∈([]:List Addr) from z) Z4) Z4
    |some u=>
     rcases O b with z|⟨ob,xs,z⟩
     .rw[q] at z;cases z
     .have z2:=un.frzs b ob _ z;obtain⟨e1,_⟩:=hok b _ z;obtain⟨e2,_⟩:=T b _ z2;rw[e] at e1;cases e1;exact e2
 cases hk:K.lookup a with
 |some o=>have e:=N a o hk;rw[f] at e;cases e;refine p (λ_=>none) (λ_=>.inl rfl) (.inr ⟨_,vs.toArray,_,hk,rfl,rfl,rfl,by rw[QQ,I];exact hl,by simpa using C⟩) (λb u z=>by have c:(none:Option HO)=some u:=z;cases c) (λb z=>absurd rfl z) λz=>absurd rfl z
 |none=>
  refine p (λb=>if b=a then some (.frz { cls:=.type "list",data:=.seq vs.toArray } (.lst (ns.map V.int))) else none) (λb=>?_) (.inl (.inr ⟨{ cls:=.type "list",data:=.seq vs.toArray },Za rfl⟩)) (λb u z=>?_) (λb z=>?_) λ_=>hk
  .by_cases E:b=a
   .exact .inr ⟨_,_,Za E⟩
   .exact .inl (Zb E)
  .by_cases E:b=a
   .have c:=(Za E).symm.trans z;cases c;subst E;exact⟨f,by rw[QU];exact hl,vs,_,C,f⟩
   .have c:=(Zb E).symm.trans z;cases c
  .by_cases E:b=a
   .exact E
   .exact absurd (Zb E) z
noncomputable def d5(s:Stmt):Arguments:=match s with
 | .FunctionDef _ a _ _ _ _ _ _ _ _=>a
 |_=>{ posonlyargs:=[],args:=[],vararg:=none,kwonlyargs:=[],kw_defaults:=[],kwarg:=none,defaults:=[] }
noncomputable def fI(s:Stmt):List Stmt:=match s with
 | .FunctionDef _ _ b _ _ _ _ _ _ _=>b
 |_=>[]
noncomputable def bC(s:Stmt):Scope:=match s with
 | .FunctionDef _ _ _ _ _ _ sc _ _ _=>sc
 |_=>{ kind:=.function,names:=[],isGenerator:=false,isCoroutine:=false }
noncomputable abbrev E0:XK:=λ_ _ _=>False
section
variable{X:Cx}
theorem pv(i:Nat){x:Str}{pos:Pos}(hN:X.N[i]?=some x:=by rfl)(hv:j9 X.env.scope x:=by first|exact Or.inl rfl|exact WR (Or.inl rfl)|exact WR (WR rfl))(hd:fM x:=by decide)
  (hcd:lG x:=by decide):PE X (.Name x pos) (md i):=bU hN hv hd hcd
end
def OV(H H':Hp):Prop:=∀b o,H b=some o->H' b=some o
end L2
set_option maxHeartbeats 4000000
namespace L2
open PySem PySem.Spec PyProof.Rows PySem.W
open PySem.Builtin.ObjectAttr (find dataDescriptor? getOf)
open PySem.Builtin.Getset_descriptor (descrGet descrGetter descrCheckInstance descrNameAndClass)
section
variable{prog:Program}{w:XM}{A:XN}{E:Value->Shared->Prop}{h:Heap}{g:Array GenState}{d:Drawn}{t:Nat}{os:OsState}{K:Frag}{x C:Addr}
structure LC(K:Frag)(C:Addr):Prop where
 ga:findIn K (.ref C) "__getattribute__" = some (some (.builtin "BaseException.__getattribute__"))
 gt:findIn K (.ref C) "__getattr__" = some none
 cl:findIn K (.ref C) "__class__" = some (some (.builtin "object.__class__"))
 gg:specialIn K (.builtin "object.__class__") "__get__" = some (some (.builtin "getset_descriptor.__get__"))
 tk:takesIn K (.builtin "object.__class__")=some true
 ob:mroIn K C (.type "object")=some true
 be:mroIn K C (.type "BaseException")=some true
def ExcAt(a C:Addr)(h:Heap):Prop:=∃q,h.get? a=some q/\q.cls=.ref C
theorem ExcAt.type{M:Model}(I:ExcAt x C h):Looks M h (typeOf (.ref x)) (.ref C):=by obtain⟨q,e1,e2⟩:=I;exact e2▸(Looks.ld e1).andThen .now
end
variable{C:Addr}
theorem LC.there{K:Frag}(T:LC K C):∃oc od cd sl,K.lookup C=some ⟨oc,od,.cls cd,sl⟩:=by
 have q:=T.ob;unfold mroIn clsIn at q;split at q
 .rename_i a b c e f;exact⟨a,b,c,e,f⟩
 .cases q
open PySem PySem.Spec PyProof.Rows
abbrev XS:=Value->St->Hp->Prop
abbrev TX:=Ends->XS->St->Hp->Prop
section
variable{X:Cx}
variable{k:Nat}{f C:Addr}{fd:XQ}{ps:List Str}{sp:Sp}{dvs:List V}{ds:List Value}{x m:Str}{p pos apos:Pos}{e o:Expr}{es:List Expr}{ta:TE}{t:TA}
noncomputable def OJ(a C:Addr):HO:=.ext (ExcAt a C)
end
def Bd(n:Nat)(x:Int):Prop:=x.natAbs<2^n
theorem Bd.mono{m n:Nat}{x:Int}(h:Bd m x)(k:m<=n):Bd n x:=Q3 h (SN Z2 k)
theorem Bd.bits{n:Nat}{x:Int}(h:Bd n x):Vb x<=n:=by
 delta Vb
 split
 .exact R7 _
 .rename_i z
  have L:x.natAbs≠0:=λq=>z (by simp[Int.natAbs_eq_zero.mp q])
  exact(VW L).mpr h
theorem Bd.LB{m n:Nat}{x y:Int}(h:Bd m x)(k:Bd n y)(hs:m+n<=134217728):Y9 x y:=Y9.of_le h.bits k.bits hs
theorem Bd.mul{m n:Nat}{x y:Int}(h:Bd m x)(k:Bd n y):Bd (m+n) (x*y):=by
 delta Bd at *
 simp only[RU,VX]
 exact Nat.mul_lt_mul'' h k
theorem Bd.add{m n:Nat}{x y:Int}(h:Bd m x)(k:Bd n y):Bd (max m n+1) (x+y):=by have h1:=h.mono (WA m n);have r:=k.mono (Ws m n);unfold Bd at *;lia
theorem Bd.neg{n:Nat}{x:Int}(h:Bd n x):Bd n (-x):=by delta Bd at *;rwa[WH]
theorem Bd.log{n:Nat}{x:Int}(h:Bd n x)(hn:n<=9000):x.natAbs.log2<9000:=by
 by_cases z:x.natAbs=0
 .rw[z];decide
 .exact Q3 ((VW z).mpr h) hn
section
variable{X:Cx}
def Pp(_ j:Int):Prop:=j≠0/\Bd 9000 j
theorem Dr:iU X (X9 .Mult) (rI Y9 λi j=>.int (i*j)):=n6 λ_ _ _ _ _ _ _ hc q=>mul_int q hc
theorem AR:iU X (X9 .FloorDiv) (rI Pp λi j=>.int (i.fdiv j)):=n6 λ_ _ _ _ _ _ _ hc q=>floordiv_int hc.1 q (.inl (PyProof.noPylong_of_log2 (hc.2.log (QR _))))
end
inductive D where
 |non|bl(b:Bool)|int(i:Int)|str(x:Str)|tup(ds:List D)|lst(ds:List D)
mutual
noncomputable def D.eq:D->D->Bool
 | .non,.non=>true
 | .bl a,.bl b=>a==b
 | .bl a,.int b=>(if a then 1 else 0)==b
 | .int a,.bl b=>a==(if b then 1 else 0)
 | .int a,.int b=>a==b
 | .str a,.str b=>a==b
 | .tup xs,.tup ys=>D.eqs xs ys
 | .lst xs,.lst ys=>D.eqs xs ys
 |_,_=>false
noncomputable def D.eqs:List D->List D->Bool
 |[],[]=>true
 |x::xs,y::ys=>D.eq x y&&D.eqs xs ys
 |_,_=>false
end
mutual
noncomputable def D.depth:D->Nat
 | .tup xs=>D.hJ xs+1
 | .lst xs=>D.hJ xs+1
 |_=>0
noncomputable def D.hJ:List D->Nat
 |[]=>0
 |x::xs=>max (D.depth x) (D.hJ xs)
end
mutual
theorem D.lg:∀d:D,D.eq d d=true
 | .non=>rfl
 | .bl b=>beq_self_eq_true b
 | .int i=>beq_self_eq_true i
 | .str x=>beq_self_eq_true x
 | .tup xs=>D.lZ xs
 | .lst xs=>D.lZ xs
theorem D.lZ:∀ds:List D,D.eqs ds ds=true
 |[]=>rfl
 |x::xs=>by show (D.eq x x&&D.eqs xs xs)=true;rw[D.lg x,D.lZ xs];rfl
end
mutual
inductive Den(K:QJ)(H:Hp):V->D->Prop
 |non:Den K H .non .non
 |bl(b:Bool):Den K H (.bl b) (.bl b)
 |int(i:Int):Den K H (.int i) (.int i)
 |str(x:Str):Den K H (.str x) (.str x)
 |tup{a:Addr}{xs:List V}{ds:List D}(e:jb K H a xs)(r:f9 K H xs ds):Den K H (.ref a) (.tup ds)
 |lst{a:Addr}{xs:List V}{ds:List D}(e:dR K H a xs)(r:f9 K H xs ds):Den K H (.ref a) (.lst ds)
inductive f9(K:QJ)(H:Hp):List V->List D->Prop
 |nil:f9 K H [] []
 |cons{x:V}{d:D}{xs:List V}{ds:List D}(h:Den K H x d)(r:f9 K H xs ds):f9 K H (x::xs) (d::ds)
end
theorem f9.len{K:QJ}{H:Hp}:∀{xs:List V}{ds:List D},f9 K H xs ds->xs.length=ds.length
 |_,_,.nil=>rfl
 |_,_,.cons _ r=>by simp only[QX,QX,r.len]
theorem f9.at{K:QJ}{H:Hp}:∀{xs:List V}{ds:List D}(j:Nat){x:V}{d:D},f9 K H xs ds->xs[j]?=some x->ds[j]?=some d->Den K H x d
 |_,_,0,_,_,.cons h _,e1,e2=>by cases e1;cases e2;exact h
 |_,_,j+1,_,_,.cons _ r,e1,e2=>r.at j e1 e2
theorem D.oj:∀{ds:List D}(j:Nat){d:D},ds[j]?=some d->D.depth d<=D.hJ ds
 |x::xs,0,_,e=>by cases e;exact WA _ _
 |x::xs,j+1,_,e=>Rn (D.oj j e) (Ws _ _)
theorem D.gm:∀(xs ys:List D),D.eqs xs ys=((Q8 (min xs.length ys.length)).all (λj=>D.eq (xs.getD j .non) (ys.getD j .non))&&xs.length==ys.length)
 |[],[]=>rfl
 |[],_::_=>rfl
 |_::_,[]=>rfl
 |x::xs,y::ys=>by
  simp only[show D.eqs (x::xs) (y::ys)=(D.eq x y&&D.eqs xs ys) from rfl,D.gm xs ys,QX,QX,Nat.succ_min_succ,Uc,Rg,US];have e:(xs.length+1==ys.length+1)=(xs.length==ys.length):=by rw[Wt];simp
  simp only[e,Bool.and_assoc];rfl
variable{xs ys:List V}{u:Value}{us:List Value}
section
variable{X:Cx}{pins:List (Addr×Obj)}{Y:St}{H:Hp}{s:Shared}
theorem vc{a:Addr}(I:Inv X pins Y H s)(h1:jb X.K H a xs)(h2:dR X.K H a ys):False:=by obtain⟨_,_,⟨o,e,c,_⟩,_⟩:=I.tuple h1;obtain⟨_,_,⟨o',p,k,v,_,d'⟩,_⟩:=I.list h2;rw[e] at k;cases k;rw[c] at v;injection v with q;exact absurd q Z2
mutual
theorem Den.inj(I:Inv X pins Y H s):∀{v:V}{d e:D},Den X.K H v d->Den X.K H v e->d=e
 |_,_,_,.non,h=>by cases h;rfl
 |_,_,_,.bl b,h=>by cases h;rfl
 |_,_,_,.int i,h=>by cases h;rfl
 |_,_,_,.str x,h=>by cases h;rfl
 |_,_,_,.tup e r,h=>by
  cases h with
  |tup k r'=>cases I.oE e k;rw[f9.inj I r r']
  |lst k r'=>exact(vc I e k).elim
 |_,_,_,.lst e r,h=>by
  cases h with
  |lst k r'=>cases I.hZ e k;rw[f9.inj I r r']
  |tup k r'=>exact(vc I k e).elim
theorem f9.inj(I:Inv X pins Y H s):∀{v:List V}{d e:List D},f9 X.K H v d->f9 X.K H v e->d=e
 |_,_,_,.nil,h=>by cases h;rfl
 |_,_,_,.cons a r,h=>by
  cases h with
  |cons a' r'=>rw[Den.inj I a a',f9.inj I r r']
end
theorem oP(I:Inv X pins Y H s){A:XN}{x y:V}{d e:D}{v:Value}(g:A.units<cLine)(hf:gZ x=true)(hd:Den X.K H x d)(he:Den X.K H y e)(F:RelV x u)(C:RelV y v):T9 A s u v (D.eq d e):=by
 cases hd with
 |tup=>cases hf
 |lst=>cases hf
 |non =>
  cases he with
  |tup q r=>cases F;cases C;obtain⟨_,_,p,_⟩:=I.tuple q;exact .none_tuple p g
  |lst q r=>cases F;cases C;obtain⟨_,_,p,_⟩:=I.list q;exact .none_list p.isList g
  |non => exact cZ F C rfl rfl
  |bl b1=>exact cZ F C rfl rfl
  |int h=>exact cZ F C rfl rfl
  |str n=>exact cZ F C rfl rfl
 |bl P=>
  cases he with
  |tup q r=>cases F;cases C;obtain⟨_,_,p,_⟩:=I.tuple q;exact .bool_tuple _ p g
  |lst q r=>cases F;cases C;obtain⟨_,_,p,_⟩:=I.list q;exact .bool_list _ p.isList g
  |non => exact cZ F C rfl rfl
  |bl b1=>exact cZ F C rfl rfl
  |int h=>exact cZ F C rfl rfl
  |str n=>exact cZ F C rfl rfl
 |int a=>
  cases he with
  |tup q r=>obtain⟨_,rfl⟩:=F;cases C;obtain⟨_,_,p,_⟩:=I.tuple q;exact .int_tuple _ _ p g
  |lst q r=>obtain⟨_,rfl⟩:=F;cases C;obtain⟨_,_,p,_⟩:=I.list q;exact .int_list _ _ p.isList g
  |non => exact cZ F C rfl rfl
  |bl b1=>exact cZ F C rfl rfl
  |int h=>exact cZ F C rfl rfl
  |str n=>exact cZ F C rfl rfl
 |str x0=>
  cases he with
  |tup q r=>obtain⟨_,rfl⟩:=F;cases C;obtain⟨_,_,p,_⟩:=I.tuple q;exact .str_tuple _ _ p g
  |lst q r=>obtain⟨_,rfl⟩:=F;cases C;obtain⟨_,_,p,_⟩:=I.list q;exact .str_list _ _ p.isList g
  |non => exact cZ F C rfl rfl
  |bl b1=>exact cZ F C rfl rfl
  |int h=>exact cZ F C rfl rfl
  |str n=>exact cZ F C rfl rfl
theorem Vals.Nj(r:Vals xs us){j:Nat}(F:j<us.toArray.size):∃x,xs[j]?=some x/\RelV x us.toArray[j]:=by
 have hl:=r.length;have s:j<us.length:=by simpa using F
 have hx:j<xs.length:=by lia
 obtain⟨u,e,m⟩:=r.get (Rb hx);rw[Rb s] at e;cases e;exact⟨xs[j],Rb hx,by simpa using m⟩
theorem f9.getD{K:QJ}{H:Hp}{xs:List V}{ds:List D}(r:f9 K H xs ds){j:Nat}{x:V}(e:xs[j]?=some x):Den K H x (ds.getD j .non)/\D.depth (ds.getD j .non)<=D.hJ ds:=by
 have F:j<ds.length:=by rw[<-r.len];exact(QL.mp e).1
 have e2:=Rb F;have N:ds.getD j .non=ds[j]:=by rw[Sj,e2];rfl
 rw[N];exact⟨r.at j e e2,D.oj j e2⟩
theorem km(I:Inv X pins Y H s){n:Nat}(m:∀{A:XN}{x y:V}{d e:D}{u v:Value},A.units+n<cLine->D.depth d<=n->Den X.K H x d->Den X.K H y e->RelV x u->RelV y v->T9 A s u v (D.eq d e))
  {A:XN}(g:A.units+(n+1)<cLine){ds es:List D}{vs:List Value}(hn:D.hJ ds<=n)(r:f9 X.K H xs ds)(q:f9 X.K H ys es)(F:Vals xs us)(C:Vals ys vs):
  ∀j (h1:j<us.toArray.size) (h2:j<vs.toArray.size),T9 A.in1 s us.toArray[j] vs.toArray[j] (D.eq (ds.getD j .non) (es.getD j .non)):=λj h1 h2=>by
 obtain⟨x,ex,E⟩:=F.Nj h1;obtain⟨y,b,z⟩:=C.Nj h2;obtain⟨h,o⟩:=r.getD ex;exact m (by show A.units+1+n<cLine;lia) (Rn o hn) h (q.getD b).1 E z
theorem jl(I:Inv X pins Y H s):∀(n:Nat){A:XN}{x y:V}{d e:D}{u v:Value},A.units+n<cLine->D.depth d<=n->Den X.K H x d->Den X.K H y e->RelV x u->RelV y v->T9 A s u v (D.eq d e):=by
 intro n;induction n with
 |zero=>
  intro A x y d e u v g hn hd he F C;cases id hd with
  |tup=>simp[D.depth] at hn
  |lst=>simp[D.depth] at hn
  |_=>exact oP I g rfl hd he F C
 |succ n m=>
  intro A x y d e u v g hn hd he F C;have q:A.units<cLine:=by lia
  cases id hd with
  |@tup a xs ds J r=>
   cases F;obtain⟨us,B,p,_⟩:=I.tuple J;cases id he with
   |@tup b ys es L k=>
    cases C;obtain⟨vs,w,P,_⟩:=I.tuple L;by_cases G:a=b
    .subst G;rw[hd.inj I he,D.lg];exact .same _
    .refine .of_refs G ?_;rw[show D.eq (.tup _) (.tup _)=_ from D.gm _ _];have Q:us.toArray.size=ds.length:=by rw[QQ,<-B.length,r.len]
     have T:vs.toArray.size=es.length:=by rw[QQ,<-w.length,k.len]
     rw[<-Q,<-T];exact .tuples p P q (km I m g (by simp only[D.depth] at hn;exact TR ‹_›) r k B w)
   |@lst b ys es L k=>cases C;obtain⟨vs,w,P,_⟩:=I.list L;exact .tuple_list p P.isList q
   |non => cases C;exact .tuple_none p q
   |bl h=>cases C;exact .tuple_bool _ p q
   |int o=>obtain⟨_,rfl⟩:=C;exact .tuple_int _ _ p q
   |str x0=>obtain⟨_,rfl⟩:=C;exact .tuple_str _ _ p q
  |@lst a xs ds J r=>
   cases F;obtain⟨us,B,p,_⟩:=I.list J;cases id he with
   |@lst b ys es L k=>
    cases C;obtain⟨vs,w,P,_⟩:=I.list L;by_cases G:a=b
    .subst G;rw[hd.inj I he,D.lg];exact .same _
    .refine .of_refs G ?_;rw[show D.eq (.lst _) (.lst _)=_ from D.gm _ _];have Q:us.toArray.size=ds.length:=by rw[QQ,<-B.length,r.len]
     have T:vs.toArray.size=es.length:=by rw[QQ,<-w.length,k.len]
     rw[<-Q,<-T];by_cases hl:us.toArray.size=vs.toArray.size
     .have e1:(us.toArray.size==vs.toArray.size)=true:=Zf.mpr hl;rw[e1,SY,<-hl,VF];exact .lists p.isList P.isList hl q (km I m g (by rw[D.depth] at hn;lia) r k B w)
     .have e1:(us.toArray.size==vs.toArray.size)=false:=beq_eq_false_iff_ne.mpr hl;rw[e1,Uu];exact .lists_lengths p.isList P.isList (by simpa using hl) q
   |@tup b ys es L k=>cases C;obtain⟨vs,w,P,_⟩:=I.tuple L;exact .list_tuple p.isList P q
   |non => cases C;exact .list_none p.isList q
   |bl h=>cases C;exact .list_bool _ p.isList q
   |int o=>obtain⟨_,rfl⟩:=C;exact .list_int _ _ p.isList q
   |str x0=>obtain⟨_,rfl⟩:=C;exact .list_str _ _ p.isList q
  |_=>exact oP I q rfl hd he F C
end
section
variable{X:Cx}{pins:List (Addr×Obj)}{Y:St}{H:Hp}{s:Shared}
theorem Ah(I:Inv X pins Y H s){n:Nat}{A:XN}{x y:V}{d e:D}{v:Value}(g:A.units+n<cLine)(hn:D.depth d<=n)(hd:Den X.K H x d)(he:Den X.K H y e)(F:RelV x u)(C:RelV y v):SeqAt.RcAt A s u v (D.eq d e):=by
 have q:A.units<cLine:=by lia
 cases id hd with
 |non =>
  cases F;cases id he with
  |non => cases C;exact .none_none
  |bl t=>cases C;exact .none_bool _
  |int t=>obtain⟨_,rfl⟩:=C;exact .none_int _ _
  |str t=>obtain⟨_,rfl⟩:=C;exact .none_str _ _
  |@tup b ys es L k=>cases C;obtain⟨_,_,P,_⟩:=I.tuple L;exact .none_tuple P q
  |@lst b ys es L k=>cases C;obtain⟨_,_,P,_⟩:=I.list L;exact .none_list P.isList q
 |bl G=>
  cases F;cases id he with
  |non => cases C;exact .bool_none _
  |bl t=>cases C;exact .bool_bool _ _
  |int t=>obtain⟨_,rfl⟩:=C;exact .bool_int _ _ _
  |str t=>obtain⟨_,rfl⟩:=C;exact .bool_str _ _ _
  |@tup b ys es L k=>cases C;obtain⟨_,_,P,_⟩:=I.tuple L;exact .bool_tuple _ P q
  |@lst b ys es L k=>cases C;obtain⟨_,_,P,_⟩:=I.list L;exact .bool_list _ P.isList q
 |int G=>
  obtain⟨_,rfl⟩:=F;cases id he with
  |non => cases C;exact .int_none _ _
  |bl t=>cases C;exact .int_bool _ _ _
  |int t=>obtain⟨_,rfl⟩:=C;exact .int_int _ _ _ _
  |str t=>obtain⟨_,rfl⟩:=C;exact .int_str _ _ _ _
  |@tup b ys es L k=>cases C;obtain⟨_,_,P,_⟩:=I.tuple L;exact .int_tuple _ _ P q
  |@lst b ys es L k=>cases C;obtain⟨_,_,P,_⟩:=I.list L;exact .int_list _ _ P.isList q
 |str G=>
  obtain⟨_,rfl⟩:=F;cases id he with
  |non => cases C;exact .str_none _ _
  |bl t=>cases C;exact .str_bool _ _ _
  |int t=>obtain⟨_,rfl⟩:=C;exact .str_int _ _ _ _
  |str t=>obtain⟨_,rfl⟩:=C;exact .str_str _ _ _ _
  |@tup b ys es L k=>cases C;obtain⟨_,_,P,_⟩:=I.tuple L;exact .str_tuple _ _ P q
  |@lst b ys es L k=>cases C;obtain⟨_,_,P,_⟩:=I.list L;exact .str_list _ _ P.isList q
 |@tup a xs ds J r=>
  cases F;obtain⟨us,B,p,_⟩:=I.tuple J;cases id he with
  |non => cases C;exact .tuple_none p q
  |bl t=>cases C;exact .tuple_bool _ p q
  |int t=>obtain⟨_,rfl⟩:=C;exact .tuple_int _ _ p q
  |str t=>obtain⟨_,rfl⟩:=C;exact .tuple_str _ _ p q
  |@tup b ys es L k=>
   cases C;obtain⟨vs,w,P,_⟩:=I.tuple L;simp only[D.depth] at hn;obtain⟨n,rfl⟩:∃m,n=m+1:=⟨n-1,by lia⟩
   rw[show D.eq (.tup _) (.tup _)=_ from D.gm _ _];have Q:us.toArray.size=ds.length:=by rw[QQ,<-B.length,r.len]
   have T:vs.toArray.size=es.length:=by rw[QQ,<-w.length,k.len]
   rw[<-Q,<-T];exact .tuples p P q (km I (jl I n) g Q1 r k B w)
  |@lst b ys es L k=>cases C;obtain⟨_,_,P,_⟩:=I.list L;exact .tuple_list p P.isList q
 |@lst a xs ds J r=>
  cases F;obtain⟨us,B,p,_⟩:=I.list J;cases id he with
  |non => cases C;exact .list_none p.isList q
  |bl t=>cases C;exact .list_bool _ p.isList q
  |int t=>obtain⟨_,rfl⟩:=C;exact .list_int _ _ p.isList q
  |str t=>obtain⟨_,rfl⟩:=C;exact .list_str _ _ p.isList q
  |@tup b ys es L k=>cases C;obtain⟨_,_,P,_⟩:=I.tuple L;exact .list_tuple p.isList P q
  |@lst b ys es L k=>
   cases C;obtain⟨vs,w,P,_⟩:=I.list L;rw[D.depth] at hn;obtain⟨n,rfl⟩:∃m,n=m+1:=⟨n-1,by lia⟩
   rw[show D.eq (.lst _) (.lst _)=_ from D.gm _ _];have Q:us.toArray.size=ds.length:=by rw[QQ,<-B.length,r.len]
   have T:vs.toArray.size=es.length:=by rw[QQ,<-w.length,k.len]
   rw[<-Q,<-T];by_cases hl:us.toArray.size=vs.toArray.size
   .have e1:(us.toArray.size==vs.toArray.size)=true:=Zf.mpr hl;rw[e1,SY,<-hl,VF];exact .lists p.isList P.isList hl q (km I (jl I n) g Q1 r k B w)
   .have e1:(us.toArray.size==vs.toArray.size)=false:=beq_eq_false_iff_ne.mpr hl;rw[e1,Uu];exact .lists_lengths p.isList P.isList (by simpa using hl) q
theorem tw(I:Inv X pins Y H s){n:Nat}{A:XN}{x y:V}{d e:D}{v:Value}(g:A.units+n<cLine)(hn:D.depth d<=n)(hd:Den X.K H x d)(he:Den X.K H y e)(F:RelV x u)(C:RelV y v):SeqAt.RcNeAt A s u v (!D.eq d e):=by
 have q:A.units<cLine:=by lia
 cases id hd with
 |non =>
  cases F;cases id he with
  |non => cases C;exact .none_none
  |bl t=>cases C;exact .none_bool _
  |int t=>obtain⟨_,rfl⟩:=C;exact .none_int _ _
  |str t=>obtain⟨_,rfl⟩:=C;exact .none_str _ _
  |@tup b ys es L k=>cases C;obtain⟨_,_,P,_⟩:=I.tuple L;exact .none_tuple P q
  |@lst b ys es L k=>cases C;obtain⟨_,_,P,_⟩:=I.list L;exact .none_list P.isList q
 |bl G=>
  cases F;cases id he with
  |non => cases C;exact .bool_none _
  |bl t=>cases C;exact .bool_bool _ _
  |int t=>obtain⟨_,rfl⟩:=C;exact .bool_int _ _ _
  |str t=>obtain⟨_,rfl⟩:=C;exact .bool_str _ _ _
  |@tup b ys es L k=>cases C;obtain⟨_,_,P,_⟩:=I.tuple L;exact .bool_tuple _ P q
  |@lst b ys es L k=>cases C;obtain⟨_,_,P,_⟩:=I.list L;exact .bool_list _ P.isList q
 |int G=>
  obtain⟨_,rfl⟩:=F;cases id he with
  |non => cases C;exact .int_none _ _
  |bl t=>cases C;exact .int_bool _ _ _
  |int t=>obtain⟨_,rfl⟩:=C;exact .int_int _ _ _ _
  |str t=>obtain⟨_,rfl⟩:=C;exact .int_str _ _ _ _
  |@tup b ys es L k=>cases C;obtain⟨_,_,P,_⟩:=I.tuple L;exact .int_tuple _ _ P q
  |@lst b ys es L k=>cases C;obtain⟨_,_,P,_⟩:=I.list L;exact .int_list _ _ P.isList q
 |str G=>
  obtain⟨_,rfl⟩:=F;cases id he with
  |non => cases C;exact .str_none _ _
  |bl t=>cases C;exact .str_bool _ _ _
  |int t=>obtain⟨_,rfl⟩:=C;exact .str_int _ _ _ _
  |str t=>obtain⟨_,rfl⟩:=C;exact .str_str _ _ _ _
  |@tup b ys es L k=>cases C;obtain⟨_,_,P,_⟩:=I.tuple L;exact .str_tuple _ _ P q
  |@lst b ys es L k=>cases C;obtain⟨_,_,P,_⟩:=I.list L;exact .str_list _ _ P.isList q
 |@tup a xs ds J r=>
  cases F;obtain⟨us,B,p,_⟩:=I.tuple J;cases id he with
  |non => cases C;exact .tuple_none p q
  |bl t=>cases C;exact .tuple_bool _ p q
  |int t=>obtain⟨_,rfl⟩:=C;exact .tuple_int _ _ p q
  |str t=>obtain⟨_,rfl⟩:=C;exact .tuple_str _ _ p q
  |@tup b ys es L k=>
   cases C;obtain⟨vs,w,P,_⟩:=I.tuple L;simp only[D.depth] at hn;obtain⟨n,rfl⟩:∃m,n=m+1:=⟨n-1,by lia⟩
   rw[show D.eq (.tup _) (.tup _)=_ from D.gm _ _];have Q:us.toArray.size=ds.length:=by rw[QQ,<-B.length,r.len]
   have T:vs.toArray.size=es.length:=by rw[QQ,<-w.length,k.len]
   rw[<-Q,<-T];exact .tuples p P q (km I (jl I n) g Q1 r k B w)
  |@lst b ys es L k=>cases C;obtain⟨_,_,P,_⟩:=I.list L;exact .tuple_list p P.isList q
 |@lst a xs ds J r=>
  cases F;obtain⟨us,B,p,_⟩:=I.list J;cases id he with
  |non => cases C;exact .list_none p.isList q
  |bl t=>cases C;exact .list_bool _ p.isList q
  |int t=>obtain⟨_,rfl⟩:=C;exact .list_int _ _ p.isList q
  |str t=>obtain⟨_,rfl⟩:=C;exact .list_str _ _ p.isList q
  |@tup b ys es L k=>cases C;obtain⟨_,_,P,_⟩:=I.tuple L;exact .list_tuple p.isList P q
  |@lst b ys es L k=>
   cases C;obtain⟨vs,w,P,_⟩:=I.list L;rw[D.depth] at hn;obtain⟨n,rfl⟩:∃m,n=m+1:=⟨n-1,by lia⟩
   rw[show D.eq (.lst _) (.lst _)=_ from D.gm _ _];have Q:us.toArray.size=ds.length:=by rw[QQ,<-B.length,r.len]
   have T:vs.toArray.size=es.length:=by rw[QQ,<-w.length,k.len]
   rw[<-Q,<-T];by_cases hl:us.toArray.size=vs.toArray.size
   .have e1:(us.toArray.size==vs.toArray.size)=true:=Zf.mpr hl;rw[e1,SY,<-hl,VF];exact .lists p.isList P.isList hl q (km I (jl I n) g Q1 r k B w)
   .have e1:(us.toArray.size==vs.toArray.size)=false:=beq_eq_false_iff_ne.mpr hl;rw[e1,Uu];exact .lists_lengths p.isList P.isList (by simpa using hl) q
def NH(K:QJ):R2:=λx y H Q=>∃d e,Den K H x d/\Den K H y e/\D.depth d<=40/\Q (.bl (D.eq d e)) H
def Ng(K:QJ):R2:=λx y H Q=>∃d e,Den K H x d/\Den K H y e/\D.depth d<=40/\Q (.bl (!D.eq d e)) H
theorem BX(g:X.A.units+64<cLine):iU X (XZ .Eq) (NH X.K):=by intro pins s Y H x y v u Q I E z h;obtain⟨d,e,hd,he,dp,q⟩:=h;exact Ah I g Z5 hd he E z _ _ _ _ ⟨.bl _,H,I,rfl,q⟩
theorem yt(g:X.A.units+64<cLine):iU X (XZ .NotEq) (Ng X.K):=by intro pins s Y H x y v u Q I E z h;obtain⟨d,e,hd,he,dp,q⟩:=h;exact tw I g Z5 hd he E z _ _ _ _ ⟨.bl _,H,I,rfl,q⟩
inductive Io(K:QJ)(H:Hp):V->Value->Prop where
 |of{v:V}{t:Value}(h:zT K H v t):Io K H v t
 |tup{a:Addr}{xs:List V}(e:jb K H a xs):Io K H (.ref a) (.type "tuple")
 |lst{a:Addr}{xs:List V}(e:dR K H a xs):Io K H (.ref a) (.type "list")
 |dic{a:Addr}{kvs:List (Key×V)}(e:Rd H a (.dK kvs)):Io K H (.ref a) (.type "dict")
noncomputable def Ij:V->Value
 | .ref a=>.ref a
 | .ty n=>.type n
 |_=>.none
noncomputable def Aw:V->Bool
 | .ref _=>true
 | .ty _=>true
 |_=>false
theorem CS{x:V}(h:Aw x=true)(r:RelV x u):u=Ij x:=by cases x<;>first|exact r|cases h
theorem uk{pins:List (Addr×Obj)}{x:V}{t:Value}(I:Inv X pins Y H s)(E:RelV x u)(ty:Io X.K H x t):∃P,PySem.W.KitX X.K u t P/\P s.heap/\u≠.builtin "__main__.__loader__#opaque" := by
 cases ty with
 |tup e=>cases E;obtain⟨_,_,⟨o,h1,h2,_⟩,_⟩:=I.tuple e;exact⟨_,PySem.W.kitx_tuple,⟨o,h1,h2⟩,λz=>nomatch z⟩
 |lst e=>cases E;obtain⟨_,_,⟨o,_,h1,h2,_⟩,_⟩:=I.list e;exact⟨_,PySem.W.kitx_list,⟨o,h1,h2⟩,λz=>nomatch z⟩
 |dic e=>cases E;obtain⟨_,_,vs,_,o,es,r,h1,h2,_⟩:=vP I.hok e;exact⟨_,PySem.W.kitx_dict,⟨o,h1,h2.1⟩,λz=>nomatch z⟩
 |of h=>
  cases h with
  |non=>cases E;exact⟨_,PySem.W.kitx_none,trivial,λz=>nomatch z⟩
  |bl y=>cases E;exact⟨_,PySem.W.kitx_bool,trivial,λz=>nomatch z⟩
  |int i=>obtain⟨_,rfl⟩:=E;exact⟨_,PySem.W.kitx_int,trivial,λz=>nomatch z⟩
  |str i=>obtain⟨_,rfl⟩:=E;exact⟨_,PySem.W.kitx_str,trivial,λz=>nomatch z⟩
theorem zO:du X (.builtin "isinstance") (λxs H Q=>∃x c t b,xs=[x,c]/\Io X.K H x t/\Aw c=true/\Sf X.K t (Ij c)=some b/\Q (.bl b) H):=by intro pins s Y H xs us Q I r h;obtain⟨x,c,t,b,rfl,ty,hc,hk,q⟩:=h;obtain⟨u,a,rfl,F,D⟩:=vals2 r;rw[CS hc D];obtain⟨P,Z,p,V⟩:=uk I F ty;exact PySem.W.kia_one Z I.tU p hk V λtk=>⟨.bl b,H,I.tok tk,rfl,q⟩
end
theorem Br:XD "len" = some (.builtin "len"):=by decide +kernel
theorem nL:XD "isinstance" = some (.builtin "isinstance"):=by decide +kernel
theorem GD:XD "abs" = some (.builtin "abs"):=by decide +kernel
theorem BZ:XD "max" = some (.builtin "max"):=by decide +kernel
theorem yn:XD "min" = some (.builtin "min"):=by decide +kernel
theorem Ae:XD "any" = some (.builtin "any"):=by decide +kernel
theorem yu:XD "int" = some (.type "int"):=by decide +kernel
theorem Es:XD "bool" = some (.type "bool"):=by decide +kernel
theorem Jh:XD "str" = some (.type "str"):=by decide +kernel
theorem rD:XD "tuple" = some (.type "tuple"):=by decide +kernel
theorem lE:XD "list" = some (.type "list"):=by decide +kernel
theorem Ex:XD "dict" = some (.type "dict"):=by decide +kernel
theorem Ju:XD "zip" = some (.type "zip"):=by decide +kernel
theorem qe:XD "enumerate" = some (.type "enumerate"):=by decide +kernel
structure pz(K:QJ)(x qual:Str)(st:Stmt)(f:Addr)(fd:XQ)(dV:Value):Prop where
 ex:∃(oc:Value)(od:Option Addr)(kV doc pm:Value)(an:Option Addr)(cdv ct:Value)(osl:Array (Option Value)),
  fd=UC x qual (d5 st) (fI st) (bC st) dV kV doc pm an cdv ct/\K.lookup f=some ⟨oc,od,.func fd,osl⟩/\Uk K cdv qual=true
 kp:Se K (.ref f)=true
@[irreducible] def QS (X:Cx) (s:Stmt) (t:TS):Prop:=PS X s t
@[irreducible] def QT (X:Cx) (s:Expr) (t:TT):Prop:=PT X s t
@[irreducible] def QA (X:Cx) (s:List Expr) (t:TA):Prop:=PA X s t
set_option autoImplicit true
set_option relaxedAutoImplicit true
variable{elt:Expr}{scope:Scope}{pos:Pos}{env:Env}
section
variable{prog:Program}{w:XM}{A:XN}{R:Result->Shared->Prop}{s:Shared}
theorem qd{o iter:Expr}{ifs:List Expr}{it acc:Value}(I:Nat->Shared->Prop)
  (turn:∀n s,I n s->XG (XH prog w) A (pyNext it) (λr Z=>match r with
   |none=>R (.ok .next) Z
   | some v=>XG (XH prog w) A (Yi o it v) (λ_ Y=>XG (XH prog w) A (assign o env v) (λ_ T=>
     XG (XH prog w) A (forIn ifs true λc r=>if r=true then do let ok <- YW c env (eval c env);pure (SO ok) else pure (SO r)) (λok U=>
      if ok=true then XG (XH prog w) A (eval elt env) (λx u=>XG (XH prog w) A (call (.builtin "list.append") [acc,x]) (λ_ H=>∃m,m<n/\I m H) (λ_ _=>False) u) (λ_ _=>False) U
      else ∃m,m<n/\I m U) (λ_ _=>False) T) (λ_ _=>False) Y) (λ_ _=>False) Z) (λ_ _=>False) s)
  (n:Nat) (h:I n s):Yn (XH prog w) A (.compLoop (.ListComp elt [⟨o,iter,ifs,0⟩] scope pos) 0 it acc env) R s:=by
 refine codeAny_loop rfl I (λn s a=>?_) n h;show XG _ A ((compTurn (.ListComp elt [⟨o,iter,ifs,0⟩] scope pos) 0 it acc env).onRaise (λx=>do noteFrame x env;theTreesLotGoes x)) _ _ s;refine wpAny_noted ?_;rw[compTurn_list];refine XC (Yr (XC (Yb (turn n s a) (λr Z e=>?_) λ_ _ h'=>h'.elim)));cases r with
 |none=>exact XF e
 |some v=>
  refine XC (Yb e (λ_ Y V=>?_) λ_ _ h'=>h'.elim);refine XC (Yb V (λ_ T X=>XC (Yb X (λok U y=>?_) λ_ _ h'=>h'.elim)) λ_ _ h'=>h'.elim);cases ok with
  |false=>exact XF ⟨rfl,y⟩
  |true=>exact XC (XC (Yb y (λx u b=>XC (Yb b (λ_ H p=>XF (XF ⟨rfl,p⟩)) λ_ _ h'=>h'.elim)) λ_ _ h'=>h'.elim))
end
theorem lP{env:Env}{f:Str×NameKind->List (Str×Addr)->Sem (ForInStep (List (Str×Addr)))}
  (hf:∀x cs,f x cs=if (x.2==SQ)=true then (do let c <- cellOf env x.1;pure (SO ((x.1,c)::cs))) else pure (SO cs)):
  ∀(l:List (Str×NameKind))(cs:List (Str×Addr)),(∀x∈l,x.2=.free->∃c,env.cells.lookup x.1=some c)->
   ∃cl,forIn l cs f=(pure cl:Sem _)/\(∀x c,cl.lookup x=some c->cs.lookup x=some c\/env.cells.lookup x=some c) /\
    (∀x,(∃c,cs.lookup x=some c)\/(x,SQ)∈l->∃c,cl.lookup x=some c)
 |[],cs,_=>⟨cs,rfl,λ_ _ h=>.inl h,λx h=>h.elim id (λz=>by cases z)⟩
 |(n,k)::l,cs,h=>by
  simp only[Wu,hf];by_cases hk:k=.free
  .subst hk;obtain⟨c,hc⟩:=h (n,.free) Q0 rfl;obtain⟨cl,e,h1,h2⟩:=lP hf l ((n,c)::cs) λx hx=>h x (QP _ hx);refine⟨cl,?_,λx v q=>?_,λx q=>h2 x ?_⟩
   .have e1:cellOf env n=pure c:=by delta cellOf;rw[hc]
    simp only[beq_self_eq_true,if_true,e1,pure_bind];exact e
   .rcases h1 x v q with z|z
    .dsimp only [Q2] at z;by_cases hx:(x==n)=true
     .rw[hx] at z;have:x=n:=eq_of_beq hx;subst this;exact .inr (by rw[hc];exact z)
     .rw[Bool.eq_false_iff.mpr hx] at z;exact .inl z
    .exact .inr z
   .rcases q with ⟨v,z⟩|z
    .left;dsimp only [Q2];cases x==n with
     |true=>exact⟨c,rfl⟩
     |false=>exact⟨v,z⟩
    .rcases QW.mp z with z|z
     .left;cases z;simp only[Q2,beq_self_eq_true];exact⟨c,rfl⟩
     .exact .inr z
  .obtain⟨cl,e,h1,h2⟩:=lP hf l cs λx hx=>h x (QP _ hx);refine⟨cl,?_,h1,λx q=>h2 x ?_⟩
   .have e1:((n,k).2==SQ)=false:=by cases k<;>first|rfl|exact absurd rfl hk
    rw[e1];exact e
   .rcases q with z|z
    .exact .inl z
    .rcases QW.mp z with z|z
     .cases z;exact absurd rfl hk
     .exact .inr z
theorem tT(h:∀x∈scope.names,x.2=.free->∃c,env.cells.lookup x.1=some c):
  ∃cl,closureFor scope env=pure cl/\(∀x c,cl.lookup x=some c->env.cells.lookup x=some c)/\(∀x,(x,SQ)∈scope.names->∃c,cl.lookup x=some c):=by
 obtain⟨cl,e,h1,h2⟩:=lP (λ_ _=>rfl) scope.names [] h;refine⟨cl,?_,λx c q=>(h1 x c q).elim (λz=>by cases z) id,λx q=>h2 x (.inr q)⟩;exact(Ze (λz:Sem (List (Str×Addr))=>z >>= λr=>pure r) e).trans (by rw[pure_bind])
section
variable{env:Env}
noncomputable def rb(env:Env):Str×NameKind->Str×NameKind:=λ(n,k)=>if (k==.free&&env.scope.kind==.function&&env.kindOf n==some .cell) then (n,.cell) else (n,k)
theorem qC(p:Str×NameKind):(rb env p).1=p.1:=by obtain⟨n,k⟩:=p;show (if _ then _ else _:Str×NameKind).1=n;split<;>rfl
theorem se(p:Str×NameKind):(rb env p).2=p.2\/(p.2=.free/\(rb env p).2=.cell):=by
 obtain⟨n,k⟩:=p;show (if _ then _ else _:Str×NameKind).2=k\/_;split
 .rename_i h;right;rw[QI,QI] at h;refine⟨eq_of_beq h.1.1,?_⟩;show (if _ then _ else _:Str×NameKind).2=_;rw[Za (by rw[QI,QI];exact h)]
 .left;rfl
theorem eN:∀{names:List (Str×NameKind)}{x:Str}{k:NameKind},names.lookup x=some k->(names.map (rb env)).lookup x=some k\/(k=.free/\(names.map (rb env)).lookup x=some .cell)
 |[],_,_,h=>by cases h
 |p::r,x,k,h=>by
  rw[RC];obtain⟨n,s⟩:=p;have e1:=qC (env:=env) (n,s);have e2:=se (env:=env) (n,s);generalize rb env (n,s)=q at e1 e2 ⊢;obtain⟨Q,v⟩:=q;subst e1;simp only[Q2] at h ⊢;cases hx:x==Q with
  |true=>
   rw[hx] at h;cases h;rcases e2 with e2|⟨e2,N⟩
   .left;exact Ze some e2
   .right;exact⟨e2,Ze some N⟩
  |false=>rw[hx] at h;exact eN h
theorem c6:∀{names:List (Str×NameKind)}{x:Str}{k:NameKind},(names.map (rb env)).lookup x=some k->names.lookup x=some k\/(k=.cell/\names.lookup x=some .free)
 |[],_,_,h=>by cases h
 |p::r,x,k,h=>by
  rw[RC] at h;obtain⟨n,s⟩:=p;have e1:=qC (env:=env) (n,s);have e2:=se (env:=env) (n,s);generalize rb env (n,s)=q at e1 e2 h;obtain⟨Q,v⟩:=q;subst e1;simp only[Q2] at h ⊢;cases hx:x==Q with
  |true=>
   rw[hx] at h;cases h;rcases e2 with e2|⟨e2,N⟩
   .left;exact Ze some e2.symm
   .right;exact⟨N,Ze some e2⟩
  |false=>rw[hx] at h;exact c6 h
theorem iw{sc:Scope}{x:Str}(h:sc.names.lookup x=some .local):(relabel sc env).names.lookup x=some .local:=by
 rcases eN h with z|⟨z,_⟩
 .exact z
 .cases z
theorem zU{sc:Scope}{x:Str}(h:sc.names.lookup x=some .globalImplicit):(relabel sc env).names.lookup x=some .globalImplicit:=by
 rcases eN h with z|⟨z,_⟩
 .exact z
 .cases z
theorem rP{sc:Scope}{x:Str}(h:sc.names.lookup x=some .free):j9 (relabel sc env) x:=by
 rcases eN h with z|⟨_,z⟩
 .exact .inr (.inr z)
 .exact .inr (.inl z)
end
structure gj(N0 N:List Str)(k:Nat)(sc de:Scope):Prop where
 kind:sc.kind=.function
 cell:∀y∈sc.names,y.2≠.cell
 names:∀y∈sc.names,y.2=.local->sc.names.lookup y.1=some .local
 len:N.length=N0.length+k
 nd:N.Nodup
 old:∀p∈(N.take N0.length).zip N0,p.1=p.2\/sc.names.lookup p.1=none
 nl:∀n∈N.take N0.length,sc.names.lookup n≠some .local
 fr:∀y∈sc.names,y.2=.free->de.names.lookup y.1=some .cell\/de.names.lookup y.1=some .free
noncomputable def jk(X:Cx)(N:List Str)(sc:Scope)(cl:List (Str×Addr))(C:Addr)(s:Shared)(H:Hp)(ex:List Addr):Cx where
 prog:=X.prog
 w:=X.w
 K:=X.K
 mg:=X.mg
 base:=X.base
 A:=X.A
 N:=N
 s₀:=s
 H₀:=H
 env:=compEnvC sc cl C X.env
 outer:=X.stack
 stack:=X.stack
 ex:=ex
 fn:=λ_=>false
 calm:=X.calm
 pn:=[]
 xe:=λ_ _=>False
theorem mem_of_lookupK{names:List (Str×NameKind)}{x:Str}{k:NameKind}(h:names.lookup x=some k):(x,k)∈names:=SA h
variable{j:St}
section
variable{X:Cx}{pins:List (Addr×Obj)}{Y:St}{H:Hp}{s:Shared}{N:List Str}{k:Nat}{sc:Scope}{cl:List (Str×Addr)}{C:Addr}{fp:List Addr}{h1:Heap}{tk:Nat}
theorem BW(I:Inv X pins Y H s)(S:gj X.N N k sc X.env.scope)(h:∀x c,cl.lookup x=some c->X.env.cells.lookup x=some c)
  (D:∀x,(x,SQ)∈sc.names->∃c,cl.lookup x=some c)(P:s.heap.objs.size<=C)(hf:∀b∈fp,ny X pins H b)(T:∀b∈fp,b<s.heap.objs.size)
  (hk:∀b o,s.heap.get? b=some o->h1.get? b=some o)(hn:∃m,h1.Ns C m):
  Inv (jk X N sc cl C s H fp) (X.pn++pins) (Y++QZ k none) H { s with heap:=h1,toks:=tk }:=by
 have a:∀b o,s.heap.get? b=some o->b≠C:=λb o e=>Rw (Q3 (Q5 e) P);have kind:∀x,((jk X N sc cl C s H fp).env.kindOf x=some .cell\/(jk X N sc cl C s H fp).env.kindOf x=some .free)->sc.names.lookup x=some .free:=λx hx=>by
  rcases hx with hx|hx
  .rcases c6 hx with z|⟨_,z⟩
   .exact absurd rfl (S.cell _ (mem_of_lookupK z))
   .exact z
  .rcases c6 hx with z|⟨z,_⟩
   .exact z
   .cases z
 refine⟨⟨I.ok.mod,S.kind,I.ok.glob,I.ok.blt,P,λx y c h1 h2=>I.ok.inj x y c (h _ _ h1) (h _ _ h2),λx hx=>D x (mem_of_lookupK (kind x hx)),λx c z _=>absurd (z) RF,
  I.ok.hd,I.ok.frames,.inl rfl,λb E=>⟨Rw (Q3 (T b E) P),λx c e=>(hf b E).2.2.2.2.1 x c (h _ _ e)⟩,I.bs,Rn I.ok.bsz I.sz,λb o e E=>?_,λb E J=>?_,I.stack,I.vX⟩,
  rfl,I.bare,Un.kept hk,?_,λx c e=>?_,I.hok.fresh P,λx c e=>I.freeC x c (h _ _ e),λp hp=>?_,I.hok.kept hk,?_⟩
 .rcases(hf b E).2.2.2.1 with z|z
  .exact I.ok.noex b o e z
  .exact absurd (Q3 (Q5 e) (Rn I.ok.bsz z)) (Rf _)
 .rcases QW.mp (I.ky b J) with z|z
  .exact(hf b E).2.1 z
  .exact(hf b E).2.2.1 z
 .obtain⟨m,hn⟩:=hn;refine⟨m,hn,λi x v e1 e2 A=>?_⟩;have hi:i<Y.length:=by
   by_cases hi:i<Y.length
   .exact hi
   .rw[RG (by exact Ul.mp ‹_›),Vv] at e2;split at e2<;>cases e2
  rw[RV hi] at e2;have t:i<X.N.length:=by rw[<-I.len];exact hi
  have w:(N.take X.N.length)[i]?=some x:=by rw[TU t];exact e1
  have B:=S.nl x (RD w);have V:sc.names.lookup x=some .free:=by
   rcases A with z|z|z
   .rcases c6 z with z|⟨z,_⟩
    .exact absurd z B
    .cases z
   .exact kind x (.inl z)
   .exact kind x (.inr z)
  have L:X.N[i]?=some x:=by
   have hz:((N.take X.N.length).zip X.N)[i]?=some (x,X.N[i]):=by rw[Sr];exact⟨w,Rb t⟩
   rcases S.old _ (RD hz) with z|z
   .have z:x=X.N[i]:=z;simp only[Rb t,<-z]
   .have z:=z;rw[V] at z;cases z
  obtain⟨K,Q,O⟩:=I.loc;have j:j9 X.env.scope x:=by
   rcases S.fr _ (mem_of_lookupK V) rfl with z|z
   .exact .inr (.inl z)
   .exact .inr (.inr z)
  obtain⟨u,r,l⟩:=O i x v L e2 j;refine⟨u,r,.inr ⟨?_,?_⟩⟩
  .rcases rP V with z|z|z
   .rcases c6 z with z|⟨z,_⟩
    .rw[V] at z;cases z
    .cases z
   .exact .inl z
   .exact .inr z
  .rcases l with ⟨z,_⟩ | ⟨_,c,f,F⟩
   .have z:X.env.scope.names.lookup x = some .local:=z;rcases S.fr _ (mem_of_lookupK V) rfl with q|q
    .have q:=q;rw[z] at q;cases q
    .have q:=q;rw[z] at q;cases q
   .obtain⟨R,G⟩:=D x (mem_of_lookupK V);have:=h _ _ G;rw[f] at this;cases this;obtain⟨o,ho,hd⟩:=F;exact⟨c,G,o,hk _ _ ho,hd⟩
 .obtain⟨v,o,ho,hd⟩:=I.cell x c (h _ _ e);exact⟨v,o,hk _ _ ho,hd⟩
 .have hp:=hp;obtain⟨e,n,ne,nf,d⟩:=I.pin p hp;refine⟨hk _ _ e,n,a _ _ e,λE=>?_,d⟩;rcases QW.mp (I.ky _ E) with z|z
  .exact ne z
  .exact nf z
 .show (Y++QZ k none).length=N.length;simp only[Q7,VE,I.len,S.len]
theorem Bt{H':Hp}{s':Shared}{D:Addr}{x:List Value}(I:Inv X pins Y H s)(a:Inv (jk X N sc cl C s H fp) (X.pn++pins) j H' s')(P:s.heap.objs.size<=D)(y:H' D=none)
  (pl:s'.heap.PlainList D x.toArray)(l:Vals ys x)(hl:ys.length<=sizeLine)(hf:∀b∈fp,ny X pins H b):Inv X pins Y (upd H' D (.lst ys)) s':=by
 obtain⟨n,i⟩:=pl;have u:=a.base;have ne:∀b o,s.heap.get? b=some o->b≠D:=λb o e=>Rw (Q3 (Q5 e) P);have r:∀b o,H' b=some o->b≠D:=λb o e=>aJ e y;refine I.MH a.os ⟨u.keep,u.slot,λb o e n nx=>?_,u.there,λb xs e=>?_,λb o v e=>?_,λb ps e=>?_⟩ (λb o e=>?_) a.bare (ch:=fp) λb d=>?_
 .rw[aq (ne b o e)];exact u.free b o e n nx
 .have:=u.tups b xs e;rw[aq (r _ _ this)];exact this
 .have:=u.frzs b o v e;rw[aq (r _ _ this)];exact this
 .obtain⟨more,this⟩:=u.tbls b ps e;exact⟨more,by rw[aq (r _ _ this)];exact this⟩
 .by_cases d:b=D
  .subst d;rw[aN] at e;cases e;exact⟨hl,x,n,l,i⟩
  .rw[aq d] at e;exact(a.hok b o e).jL (λ_ _ _ q=>q) (λc q=>by rw[aq (r _ _ q)];exact q) λc xs q=>by rw[aq (r _ _ q)];exact q
 .obtain⟨h,t,G,B,p,V⟩:=hf b d;exact⟨B,t,p,V⟩
end
variable{X:Cx}{pins:List (Addr×Obj)}{Y:St}{H:Hp}{s:Shared}
theorem Inv.sZ(I:Inv X pins Y H s){a:Addr}(h:s.heap.objs.size<=a):a∉lA X.stack:=λd=>by
 rcases QW.mp (I.ky a d) with z|z
 .exact absurd (Q3 I.lt (by simp only[<-z];exact h)) (Rf _)
 .exact I.Md h z
def PF(X:Cx)(ifs:List Expr)(t:TT):Prop:=∀(pins:List (Addr×Obj))(s:Shared)(Y:St)(H:Hp)(Q:Bool->Hp->Prop),Inv X pins Y H s->t Y H Q->
 XG (XH X.prog X.w) X.A (forIn ifs true λc r=>if r=true then do let ok <- YW c X.env (eval c X.env);pure (SO ok) else pure (SO r)) (TP X pins Y Q) X.xe s
noncomputable def Lo:TT:=λ_ H Q=>Q true H
theorem Ho:PF X [] Lo:=λ_ _ _ H _ I h=>wpAny_tests_nil ⟨H,I,h⟩
theorem GY{c:Expr}{t:TT}(hc:PT X c t):PF X [c] t:=λpins s Y H Q I h=>wpAny_tests_one (hc pins s Y H Q I h)
def AD(J:It)(g:TG)(u:TT)(I:TE)(Q:VK)(Y:St)(H:Hp):Prop:=∃W:Nat->Nat->St->List V->Hp->Prop,(∃m,W 0 m Y [] H)/\∀i m Y ys H,W i m Y ys H->ys.length<=sizeLine /\
  ((J.stop i H/\∀r,H r=none->Q (.ref r) (upd H r (.lst ys))) \/
   (J.go i H/\∃N:St->List V->Hp->Prop,(∀j n H',N j n H'->∃X,X<m/\W (i+1) X j n H') /\
     ∀x H',J.yld i H x H'->g x Y H' λP S=>u P S λb w=>if b=true then I P w λy e=>N P (ys++[y]) e else N P ys w))
noncomputable def BP(n:Nat)(D:TI)(g:TG)(u:TT)(I:TE):TE:=λY H Q=>D Y H λJ U=>AD J g u I Q (Y++QZ n none) U
section
variable{X:Cx}{pins:List (Addr×Obj)}{Y:St}{H:Hp}{s:Shared}{N:List Str}{k:Nat}{sc:Scope}{cl:List (Str×Addr)}{C:Addr}{fp:List Addr}{J:It}{it:Addr}{tn:Nat->Heap->Prop}
 {tg elt iter:Expr} {ifs:List Expr} {pos:Pos} {g:TG} {tt:TT} {te:TE} {Q:VK} {E:Value->Shared->Prop} {RR:Value->Addr->Result->Shared->Prop}
theorem mJ(hc:X.calm=true)(S:gj X.N N k sc X.env.scope)(O:∀x c,cl.lookup x=some c->X.env.cells.lookup x=some c)
  (hcl2:∀x,(x,SQ)∈sc.names->∃c,cl.lookup x=some c)(I:Inv X pins Y H s)(T:Turn X.prog X.w X.K tg J fp it tn)(st:tn 0 s.heap)(hf:∀b∈fp,ny X pins H b)
  (B:AD J g tt te Q (Y++QZ k none) H)
  (hg:∀C,PG (jk X N sc cl C s H fp) tg g)(ht:∀C,PF (jk X N sc cl C s H fp) ifs tt)(he:∀C,PE (jk X N sc cl C s H fp) elt te)
  (hRR:∀D C s' H' ys,Inv X pins Y (upd H' D (.lst ys)) s'->s.heap.objs.size<=C->upd H' D (.lst ys) C=none->(∃m,s'.heap.Ns C m)->Q (.ref D) (upd H' D (.lst ys))->RR (.ref D) C (.ok .next) s'):
  XG (XH X.prog X.w) X.A (newList []) (λacc U=>XG (XH X.prog X.w) X.A (newFunctionEnv sc X.env.globals cl [] X.env.qual none .none (some X.env)) (λcenv s₄=>Yn (XH X.prog X.w) X.A (.compStart (.ListComp elt [⟨tg,iter,ifs,0⟩] sc pos) 0 (.ref it) acc { cenv with scope:=relabel sc X.env }) (RR acc cenv.locals) s₄) E U) E s:=by
 refine X1 (wpAny_newFunctionEnv S.cell (by intro y hy;simp at hy) (λh₁ R Z=>?_) S.kind);generalize hH2:s.heap.push { cls:=.type "list",dict:=none,data:=.seq ([]:List Value).toArray }=H2 at R Z ⊢;have hC:H2.objs.size=s.heap.objs.size+1:=by rw[<-hH2,SM]
 have t:s.heap.objs.size≠H2.objs.size:=by rw[hC];exact Rw (Ru _)
 have a:s.heap.objs.size<=H2.objs.size:=by simp only[hC];exact Ux _
 have below:∀b,b<s.heap.objs.size->b≠H2.objs.size/\b≠s.heap.objs.size:=λb l=>⟨by rw[hC];exact Rw (Q9 l),Rw l⟩
 have old:=λb o e=>Z.extBut b o (below b (Q5 e)).1 (QY _ (hH2▸QY _ e));have hacc:h₁.PlainList s.heap.objs.size #[]:=⟨_,Z.extBut _ _ t (QY _ (hH2▸Rp _ rfl))⟩
 have P:=λb l=>let ⟨o,e,_⟩:=T.obj 0 _ st b l;Q5 e
 have st1:=T.keep _ _ _ st λb l o e=>old b o e;have I0:=BW (tk:=s.toks+([]:List (Str×Value)).length) I S O hcl2 a hf P old ⟨_,R⟩;generalize H2.objs.size=C at R Z hC t a below I0 ⊢;generalize hD:s.heap.objs.size=D at hC t a below hacc P ⊢;have h:s.heap.objs.size<=D:=by rw[hD];exact QR _
 have L:∀{H':Hp}{o:Obj},(∀b∈fp,H' b=none)->∀b∈fp,ny (jk X N sc cl C s H fp) ((X.pn++pins)++[(D,o)]) H' b:=λ{H' o} hn b l=>by
  obtain⟨f0,f1,f2,f3,f4,f5⟩:=hf b l;refine⟨hn b l,(below b (P b l)).1,λz=>?_,.inl l,λx c e=>f4 x c (O _ _ e),λp hp=>?_⟩
  .rcases QW.mp (I.ky b z) with z|z
   .exact f1 z
   .exact f2 z
  .have hp:p∈(X.pn++pins)++[(D,o)]:=hp;rcases QO.mp hp with z|z
   .exact f5 p z
   .have:p=(D,o):=by simpa using z
    rw[this];exact RO (below b (P b l)).2
 have loop:∀U:Shared,U={ s with heap:=h₁,toks:=s.toks+([]:List (Str×Value)).length }->
   Yn (XH X.prog X.w) X.A (.compLoop (.ListComp elt [⟨tg,iter,ifs,0⟩] sc pos) 0 (.ref it) (.ref D) (compEnvC sc cl C X.env)) (RR (.ref D) C) U:=by
  rintro U rfl;obtain⟨W,⟨m0,w0⟩,step⟩:=B;refine qd (λn s'=>∃i j H' ys G,Inv (jk X N sc cl C s H fp) (X.pn++pins) j H' s'/\tn i s'.heap/\(∀b∈fp,H' b=none)/\H' D=none/\s'.heap.PlainList D (G:List Value).toArray/\Vals ys G/\W i n j ys H') ?_ m0
   ⟨0,_,H,[],[],I0,st1,λb l=>(hf b l).1,I.hok.fresh h,hacc,.nil,w0⟩
  rintro n s3 ⟨i,V,H3,ys,G,I3,st3,fr3,hD3,⟨nn,pl3⟩,F,w3⟩;obtain⟨hl,cs⟩:=step i n V ys H3 w3;have pinD:∀{j:St}{H':Hp}{s':Shared}{o:Obj},Inv (jk X N sc cl C s H fp) (X.pn++pins) j H' s'->H' D=none->s'.heap.get? D=some o->(∀v,o.data≠.cell v)->Inv (jk X N sc cl C s H fp) ((X.pn++pins)++[(D,o)]) j H' s':=λ{j H' s' o} I' hn e d=>
   I'.qg λp hp=>(QO.mp hp).elim (λz=>I'.pin p (QK _ z)) λz=>by
    have:p=(D,o):=by simpa using z
    subst this;exact⟨e,hn,t,λz=>I.sZ h z,d⟩
  have I3p:=pinD I3 hD3 pl3 λv z=>by cases z
  rcases cs with ⟨stop,q⟩|⟨go,NN,hN,nx⟩
  .refine cM (T.done (jk X N sc cl C s H fp) rfl rfl rfl hc i _ s3 V H3 _ I3p (L fr3) st3 stop) λr s4 ⟨hr,I4⟩=>?_;subst hr;have d4:=I4.pin (D,_) (QK _ (QK _ (Rc.mpr rfl)));have I5:=Bt I I4.eM h d4.2.1 ⟨nn,d4.1⟩ F hl hf;refine hRR D C s4 H3 ys I5 (by rw[hD];exact a) ?_ (let ⟨m,hm,_⟩:=I4.loc;⟨m,hm⟩) (q D d4.2.1);rw[aq (RO t)];exact I4.free
  .refine cM (T.item (jk X N sc cl C s H fp) rfl rfl rfl hc i _ s3 V H3 _ I3p (L fr3) st3 go) λr s4 ⟨u,hr,h4⟩=>?_;subst hr;refine cM h4 λ_ s5 ⟨x,H5,I5,r5,y5,st5,fr5⟩=>?_;have I5':=I5.pinned (L fr5) (T.obj _ _ st5);refine cM (hg C _ s5 V H5 x u _ I5' r5 (nx x H5 y5)) λ_ s6 ⟨f,H6,I6,q6⟩=>?_;refine cM (ht C _ s6 f H6 _ I6 q6) λb s7 ⟨H7,I7,q7⟩=>?_;have itK:∀{s8:Shared}{H8:Hp},Inv (jk X N sc cl C s H fp) (((X.pn++pins)++[(D,({ cls:=.type "list",data:=.seq G.toArray nn }:Obj))])++lX fp s5.heap) f H8 s8->tn (i+1) s8.heap/\∀b∈fp,H8 b=none:=λ{s8 H8} I8=>by refine⟨T.keep _ _ _ st5 λb l o e=>(I8.pin (b,o) (QK _ (QK _ (gx l e)))).1,λb l=>?_⟩;obtain⟨o,e,d⟩:=T.obj _ _ st5 b l;exact(I8.pin (b,o) (QK _ (QK _ (gx l e)))).2.1
   cases b with
   |false=>obtain⟨m',hm,w7⟩:=hN _ _ _ q7;obtain⟨t7,f7⟩:=itK I7;have d7:=I7.pin (D,_) (QK _ (QM _ (QK _ (Rc.mpr rfl))));exact⟨m',hm,i+1,f,H7,ys,G,I7.eM.eM,t7,f7,d7.2.1,⟨nn,d7.1⟩,F,w7⟩
   |true=>
    refine cM (he C _ s7 f H7 _ I7 q7) λyv s8 ⟨y,H8,I8,r8,q8⟩=>?_;obtain⟨m',hm,w9⟩:=hN _ _ _ q8;obtain⟨t8,f8⟩:=itK I8;have d8:=I8.pin (D,_) (QK _ (QM _ (QK _ (Rc.mpr rfl))));refine wpAny_list_append_plain (hsz:=by simp only[QQ,<-F.length];exact hl) ⟨nn,d8.1⟩ λh9 pl9 sb9=>?_;have I9:=I8.eM.eM.turned (t':=s8.toks) (λb o l e=>(sb9.2 b l).trans e) d8.2.1 t (.inr h) (λx c e z=>?_) (λp hp z=>?_)
    .refine⟨m',hm,i+1,f,H8,ys++[y],G++[yv],I9,T.keep _ _ _ t8 λb l o e=>(sb9.2 b (below b (P b l)).2).trans e,f8,d8.2.1,?_,F.append (.cons r8 .nil),w9⟩;rw[<-List.push_toArray];exact pl9
    .obtain⟨v,q⟩:=I.cell x c (O _ _ e);exact absurd (Q3 q.lt (by rw[z];exact h)) (Rf _)
    .have hp:=hp;exact absurd (Q3 (Q5 (I.pin p hp).1) (by rw[z];exact h)) (Rf _)
 exact codeAny_compStart_list (loop _ rfl) (T.self _ _ _ _ _ st1 (loop _ rfl))
end
variable{px:Pos}
section
variable{X:Cx}{N:List Str}{k:Nat}{sc:Scope}{tg elt iter:Expr}{ifs:List Expr}{pos:Pos}{g:TG}{tt:TT}{te:TE}{wi:TI}
theorem mB(I:Inv X pins Y H s)(S:gj X.N N k sc X.env.scope):
  ∃cl,closureFor sc X.env=pure cl/\(∀x c,cl.lookup x=some c->X.env.cells.lookup x=some c)/\(∀x,(x,SQ)∈sc.names->∃c,cl.lookup x=some c):=
 tT λx hx e=>I.ok.has x.1 (S.fr x hx e)
theorem Inv.letGo{H0:Hp}{r:Shared}{h':Heap}(n:Inv X pins Y H0 r)(I:Inv X pins j H s)(P:r.heap.objs.size<=C)(hn:H C=none)(sb:UQ C s.heap h'):Inv X pins j H { s with heap:=h' }:=
 I.turned (t':=s.toks) (it:=C) (λb o d e=>(sb.2 b d).trans e) hn (Uh (Q3 n.lt P)) (.inr (Rn n.sz P))
  (λx c e z=>by obtain⟨v,q⟩:=n.cell x c e;exact absurd (Q3 q.lt (by rw[z];exact P)) (Rf _))
  (λp hp z=>absurd (Q3 (Q5 (n.pin p hp).1) (by rw[z];exact P)) (Rf _))
theorem ER(hc:X.calm=true)(S:gj X.N N k sc X.env.scope)(hi:PI X tg iter wi)(hg:∀cl C s H fp,PG (jk X N sc cl C s H fp) tg g)(ht:∀cl C s H fp,PF (jk X N sc cl C s H fp) ifs tt)
  (he:∀cl C s H fp,PE (jk X N sc cl C s H fp) elt te)(hs:∀x,XU iter X.env x=pure x:=by intro _;rfl):PE X (.ListComp elt [⟨tg,iter,ifs,0⟩] sc pos) (BP k wi g tt te):=by
 intro pins s Y H Q I h;obtain⟨cl,hclos,h1,h2⟩:=mB I S;rw[eval_ListComp];refine Ys (use:=none) rfl hs hclos S.kind S.names (cM (hi pins s Y H _ I h) λv s1 q1=>cM q1 λitv s2 q2=>?_);obtain⟨it,fp,tn,J,H2,rfl,I2,T,st2,f2,B⟩:=q2;refine mJ (RR:=λacc C=>compPost (XH X.prog X.w) X.A X.xe none (EP X pins Y Q) acc C) hc S h1 h2 I2 T st2 f2 B (λC=>hg cl C s2 H2 fp) (λC=>ht cl C s2 H2 fp) (λC=>he cl C s2 H2 fp) ?_;intro D C s' H' ys I' hC hn hm q;obtain⟨m,hm⟩:=hm;exact⟨m,hm,λh' sb=>⟨.ref D,_,I2.letGo I' hC hn sb,rfl,q⟩⟩
theorem Eg{i:Nat}{x:Str}{spos:Pos}(hc:X.calm=true)(S:gj X.N N k sc X.env.scope)(hN:X.N.Nodup)(hx:X.N[i]?=some x)(hl:X.env.scope.names.lookup x=some .local)
  (hsw:XX (.ListComp elt [⟨tg,iter,ifs,0⟩] sc pos) (some (.Name x px)) spos.line X.env=pure true)(hi:PI X tg iter wi)(hg:∀cl C s H fp,PG (jk X N sc cl C s H fp) tg g)(ht:∀cl C s H fp,PF (jk X N sc cl C s H fp) ifs tt)
  (he:∀cl C s H fp,PE (jk X N sc cl C s H fp) elt te)(hs:∀x,XU iter X.env x=pure x:=by intro _;rfl):PS X (.Assign [.Name x px] (.ListComp elt [⟨tg,iter,ifs,0⟩] sc pos) spos) (sA (BP k wi g tt te) (Ca i)):=by
 intro pins s Y H D0 I h;obtain⟨cl,hclos,h1,h2⟩:=mB I S;rw[exec_Assign_Name_used _ _ _ _ hsw];refine XC (Yr (XC ?_));show XG _ X.A (do let _ <- comprehension (.ListComp elt [⟨tg,iter,ifs,0⟩] sc pos) sc X.env _ (newList []) false (eval iter X.env) (some (assign (.Name x px) X.env))) _ _ s;refine XC (cM (Ys (use:=some (assign (.Name x px) X.env)) (Q:=λ_ s'=>SP X pins D0 .next s') rfl hs hclos S.kind S.names
  (cM (hi pins s Y H _ I h) λv s1 q1=>cM q1 λitv s2 q2=>?_)) λ_ s' hq=>XF (XF hq))
 obtain⟨it,fp,tn,J,H2,rfl,I2,T,st2,f2,B⟩:=q2;refine mJ (RR:=λacc C=>compPost (XH X.prog X.w) X.A X.xe (some (assign (.Name x px) X.env)) (λ_ s'=>SP X pins D0 .next s') acc C) hc S h1 h2 I2 T st2 f2 B (λC=>hg cl C s2 H2 fp) (λC=>ht cl C s2 H2 fp) (λC=>he cl C s2 H2 fp) ?_;intro D C s' H' ys I' hC hn hm q;obtain⟨m,hm⟩:=hm;show XG _ X.A (assign (.Name x px) X.env (.ref D)) _ _ _;refine YQ (n9 I' hN hx (.inl hl) (v:=.ref D) rfl (λs'' I'' ch=>?_) (.inr hl));obtain⟨a,sb,ha⟩:=ch;refine⟨m,hm.sameBut sb ?_,λh' sb'=>⟨_,_,I2.letGo I'' hC hn sb',q⟩⟩;rintro rfl;rcases ha with z|z
 .exact absurd (Q3 I2.lt (by rw[<-z];exact hC)) (Rf _)
 .obtain⟨v,q⟩:=I2.cell x _ z;exact absurd (Q3 q.lt hC) (Rf _)
end
theorem tm{gs:List Yt}{sc:Scope}{x:Str}{line:Nat}(h1:env.blockKind=.function)(h2:env.kindOf x=some .local)(h3:(px.line==pos.line)=true)
  (h4:(sc.names.any λp=>p.1==x&&(p.2==.local || p.2==.cell))=false):XX (.ListComp elt gs sc pos) (some (.Name x px)) line env=pure true:=by
 unfold XX;show (pure (env.blockKind==.function&&env.kindOf x==some .local&&px.line==pos.line&&!(sc.names.any λp=>p.1==x&&(p.2==.local || p.2==.cell))):Sem Bool)=pure true;rw[h1,h2,h3,h4];rfl
section
variable{X:Cx}{tg:Expr}
def Mx(K:QJ)(tl:TE):TI:=λY H R=>tl Y H λx U=>∃a,x=.ref a/\(((∃xs,dR K U a xs)/\R (PN K a) U)\/((∃xs,jb K U a xs)/\R (PU K a) U))
theorem En{l:Expr}{tl:TE}(hl:PE X l tl):PI X tg l (Mx X.K tl):=by
 intro pins s Y H R I h;refine cM (hl pins s Y H _ I h) λv s1 ⟨x,U,Z,r,g⟩=>?_;rcases g with ⟨a,e,⟨⟨xs,n⟩,q⟩|⟨⟨xs,n⟩,q⟩⟩
 .subst e;cases r;obtain⟨j,C,p,hz⟩:=Z.list n;refine X8 p.isList ?_;refine⟨s1.heap.objs.size,[s1.heap.objs.size],_,_,U,rfl,Z.kept λb o e=>QY _ e,xF a _,⟨_,Rp _ rfl,rfl,rfl⟩,λb d=>?_,q⟩;have e:b=s1.heap.objs.size:=by simpa using d
  subst e;exact Z.xM (QR _) (Z.hok.fresh (QR _))
 .subst e;cases r;obtain⟨j,C,p,hz⟩:=Z.tuple n;refine wpAny_pyIter_tuple (p) ?_;refine⟨s1.heap.objs.size,[s1.heap.objs.size],_,_,U,rfl,Z.kept λb o e=>QY _ e,uy a _,⟨_,Rp _ rfl,rfl,rfl⟩,λb d=>?_,q⟩;have e:b=s1.heap.objs.size:=by simpa using d
  subst e;exact Z.xM (QR _) (Z.hok.fresh (QR _))
def LH(K:QJ)(g:List Bool->Bool):List V->Hp->VK->Prop:=λxs H Q=>∃p ys bs,xs=[.ref p]/\dR K H p ys/\ys=bs.map V.bl/\Q (.bl (g bs)) H
theorem range_any{bs:List Bool}{tr:Nat->Bool}(h:∀i b,bs[i]?=some b->tr i=b):(Q8 bs.length).any tr=bs.any id:=by
 have:(Q8 bs.length).map tr=bs:=by
  apply Sv;intro i;rw[Rt];by_cases hi:i<bs.length
  .rw[SE hi,Rb hi,V8,h i _ (Rb hi)]
  .rw[Sk (by simpa using hi),Sk (by simpa using hi)];rfl
 calc (Q8 bs.length).any tr=((Q8 bs.length).map tr).any id:=by simp only[VB];rfl
  _=bs.any id:=by rw[this]
theorem Bl(hc:X.calm=true):du X (.builtin "any") (LH X.K λbs=>bs.any id):=by
 intro pins s Y H xs us Q I r h;obtain⟨p,ys,bs,rfl,R,rfl,q⟩:=h;obtain⟨u,rfl,E⟩:=vals1 r;cases E;obtain⟨j,r',pl,hz⟩:=I.list R;have y:=r'.length;refine call_any_walk (X8 pl.isList ?_);refine⟨s.heap.objs.size,_,_,_,_,_,(λi=>bs.getD i false),rfl,U8 (A:=X.A.in1) (I.ok.hd hc) _ p (by obtain⟨o,ho,_⟩:=pl.isList;exact Rw (Q5 ho)) j.toArray,⟨⟨_,Rp _ rfl,rfl,rfl⟩,pl.isList.at λo e=>QY _ e⟩,λi v s1 V D l n=>?_,λh' tk hk=>?_⟩
 .have c:j[i]?=some v:=by simpa using l
  cases L:bs[i]? with
  |none=>have h1:=SS.mp L;have h2:=(QL.mp c).1;rw[QU] at y;lia
  |some b=>
   obtain⟨u,g,F⟩:=r'.get (i:=i) (x:=.bl b) (by rw[Rt,L];rfl);rw[c] at g;cases g;cases F;have:bs.getD i false=b:=by rw[Sj,L];rfl
   replace n:V (bs.getD i false) s1:=n
   rw[this] at n;exact XF n
 .have e1:j.toArray.size=bs.length:=by simp at y ⊢;lia
  rw[e1,range_any (bs:=bs) λi b e=>by show bs.getD i false=b;rw[Sj,e];rfl];exact⟨.bl _,H,I.kept (t':=tk) λb o e=>hk b o (λz=>by have:=Rc.mp z;subst this;exact absurd (Q5 e) (Rf _)) (QY _ e),rfl,q⟩
end
end L2
namespace W
variable{q:Int}
theorem gM(p:Int)(h:q<0):q<p.fmod q/\p.fmod q<=0:=by
 rw[Int.fmod_eq_emod];have h2:=Int.emod_lt_of_neg p h;by_cases d:q ∣ p
 .rw[Za (WR d),Int.emod_eq_zero_of_dvd d];lia
 .rw[Zb (by intro z;rcases z with z|z;lia;exact d z)];omega
theorem sJ(p:Int)(h:q≠0):(p.fmod q).natAbs<q.natAbs:=by
 rcases UM h with z|z
 .have:=gM p z;lia
 .have h1:=UN p z;have h2:=S8 p z;lia
theorem mF(p q:Int):RQ q (p.fmod q)=RQ p q:=by
 have h:p.fmod q=p-p.fdiv q*q:=by rw[Int.fmod_def,Ri]
 simp only[h,Int.gcd_sub_mul_right_right,UZ]
noncomputable def cd(x y:Int):Int:=if y<0 then -(RQ x y:Int) else (RQ x y:Int)
variable{p:Int}
theorem CB(h:q≠0)(z:p.fmod q=0):q=cd p q:=by
 have e:=mF p q;simp only[z,UO] at e
 delta cd
 split<;>lia
theorem Du(h:q≠0)(z:p.fmod q≠0):cd q (p.fmod q)=cd p q:=by
 delta cd
 rw[mF]
 rcases UM h with g|g
 .have:=gM p g
  rw[Za Q1,Za g]
 .have h2:=S8 p g
  rw[Zb Q1,Zb Q1]
theorem rN(x y:Int):cd x y ∣ x:=by
 delta cd;split
 .exact(Xa).mpr (U2 x y)
 .exact U2 x y
theorem pS(x y:Int):cd x y ∣ y:=by
 delta cd;split
 .exact(Xa).mpr (TV x y)
 .exact TV x y
theorem vm{x y:Int}(h:y≠0):cd x y≠0:=by
 have:=SH x h
 delta cd;split<;>lia
theorem BO(x y:Int):(cd x y).natAbs=RQ x y:=by delta cd;split<;>simp
theorem M0{x y:Int}(h:y≠0):(cd x y).natAbs<=y.natAbs:=by rw[BO];have h1:=Int.natCast_dvd_natCast.mp (Int.dvd_natAbs.mpr (TV x y));exact Nat.le_of_dvd Q1 h1
noncomputable abbrev Num:=Int×Int
def dz(t b:Int):Num:=(t.fdiv (cd t b),b.fdiv (cd t b))
noncomputable def Kr(t b:Int):Num:=if b<0 then ((-t).fdiv (RQ (-t) (-b)),(-b).fdiv (RQ (-t) (-b))) else (t.fdiv (RQ t b),b.fdiv (RQ t b))
theorem jQ{t g:Int}(J:g≠0)(d:g ∣ t):(-t).fdiv g=t.fdiv (-g):=by
 obtain⟨k,rfl⟩:=d;have e1:-(g*k)=g*(-k):=by simp only[Int.mul_neg]
 have e2:g*k=(-g)*(-k):=by simp only[Int.neg_mul_neg]
 rw[e1,RY _ J,e2,RY _ Q1]
theorem DM{t:Int}(h:b≠0):Kr t b=dz t b:=by
 delta Kr dz cd
 by_cases z:b<0
 .rw[Za z,Za z,Int.gcd_neg,Int.neg_gcd]
  have Y:=SH t h
  simp only[jQ Q1 (U2 t b),jQ Q1 (TV t b)]
 .rw[Zb z,Zb z]
theorem zR(h:b≠0):dz 0 b=(0,1):=by
 have e:cd 0 b=b:=by unfold cd;rw[UZ,UO];split<;>lia
 unfold dz;rw[e];have h1:(b*0).fdiv b=0:=RY 0 h;have h2:(b*1).fdiv b=1:=RY 1 h;rw[Rm] at h1;rw[Sg] at h2;simp only[h1,h2]
open L2
def Ok(q:Num):Prop:=0<q.2/\RQ q.1 q.2=1
theorem gr{t:Int}(h:b≠0):cd t b*(dz t b).1=t/\cd t b*(dz t b).2=b:=by
 have L:=vm (x:=t) h;obtain⟨k,hk⟩:=rN t b;obtain⟨m,hm⟩:=pS t b;have e1:t.fdiv (cd t b)=k:=by have:=RY k L;rwa[<-hk] at this
 have e2:b.fdiv (cd t b)=m:=by have:=RY m L;rwa[<-hm] at this
 exact⟨by show cd t b*t.fdiv (cd t b)=t;rw[e1];exact hk.symm,by show cd t b*b.fdiv (cd t b)=b;rw[e2];exact hm.symm⟩
theorem lD{t:Int}(h:b≠0):(0<b->0<cd t b)/\(b<0->cd t b<0):=by
 have:=SH t h
 delta cd
 constructor
 .intro z;rw[Zb Q1];lia
 .intro z;rw[Za z];lia
theorem vy{t:Int}(h:b≠0):0<(dz t b).2:=by
 obtain⟨_,e⟩:=gr (t:=t) h;obtain⟨s1,s2⟩:=lD (t:=t) h;rcases UM h with z|z
 .have c:=s2 z;rcases VG 0 (dz t b).2 with q|q
  .exact q
  .have:=Int.mul_nonneg_of_nonpos_of_nonpos (R4 c) q;lia
 .have c:=s1 z;rcases VG 0 (dz t b).2 with q|q
  .exact q
  .have:=Int.mul_nonpos_of_nonneg_of_nonpos (R4 c) q;lia
theorem Bc{t:Int}(h:b≠0):Ok (dz t b):=by
 refine⟨vy h,?_⟩;obtain⟨e1,e2⟩:=gr h;have g:RQ (cd t b*(dz t b).1) (cd t b*(dz t b).2)=(cd t b).natAbs*RQ (dz t b).1 (dz t b).2:=Int.gcd_mul_left _ _ _;rw[e1,e2,BO] at g;have p:=SH t h;have:RQ t b*1=RQ t b*RQ (dz t b).1 (dz t b).2:=by rw[Nat.mul_one];exact g
 exact(Vp p this).symm
theorem AA{q:Num}(h:Ok q):dz q.1 q.2=q:=by
 have e:cd q.1 q.2=1:=by unfold cd;rw[Zb (by have:=h.1;lia),h.2];rfl
 unfold dz;rw[e];have h1:∀x:Int,x.fdiv 1=x:=λx=>by have:=RY (a:=1) x Z2;rwa[R0] at this
 rw[h1,h1]
theorem Je{t:Int}(h:0<b):(dz t b).1<0↔t<0:=by
 obtain⟨e,_⟩:=gr (t:=t) (b:=b) (by exact Rz ‹_›);have c:=(lD (t:=t) (b:=b) (by exact Rz ‹_›)).1 h;constructor
 .intro z;have:=Vq c z;lia
 .intro z;rcases VG (dz t b).1 0 with q|q
  .exact q
  .have:=Int.mul_nonneg (R4 c) q;lia
variable{c:Int}
theorem mM{x:Int}(h:c≠0):x.natAbs<=(c*x).natAbs:=by rw[RU];exact Nat.le_mul_of_pos_left _ Q1
theorem yR{t:Int}{m n:Nat}(h:b≠0)(h1:Bd m t)(h2:Bd n b):Bd m (dz t b).1/\Bd n (dz t b).2:=by obtain⟨e1,e2⟩:=gr h;have a1:=mM (x:=(dz t b).1) (vm (x:=t) h);have H:=mM (x:=(dz t b).2) (vm (x:=t) h);rw[e1] at a1;rw[e2] at H;exact⟨RS a1 h1,RS H h2⟩
structure NB(n:Nat)(q:Num):Prop where
 ok:Ok q
 b1:Bd n q.1
 b2:Bd n q.2
theorem NB.nz{n:Nat}{q:Num}(h:NB n q):q.2≠0:=by have:=h.ok.1;exact Rz ‹_›
theorem NB.dz{t b:Int}{n:Nat}(h:b≠0)(h1:Bd n t)(h2:Bd n b):NB n (dz t b):=⟨Bc h,(yR h h1 h2).1,(yR h h1 h2).2⟩
def Pf(x y:Num):Num:=dz (x.1*y.2+y.1*x.2) (x.2*y.2)
noncomputable def nv(x:Num):Rat:=Xx x.1 x.2
theorem IW{t:Int}(h:b≠0):nv (dz t b)=Xx t b:=by
 obtain⟨e1,e2⟩:=gr h;have p:=vy (t:=t) h
 delta nv
 rw[T4 (by exact Rz ‹_›) h];generalize (dz t b).1=k at e1 ⊢;generalize (dz t b).2=m at e2 p ⊢;rw[<-e1];rw[show k*b=k*(cd t b*m) from by rw[e2]];simp only[Int.mul_left_comm,T5]
theorem MI{a:Int}(h:a ∣ b*c)(g:RQ a b=1):a ∣ c:=by
 have h1:a.natAbs ∣ b.natAbs*c.natAbs:=by rw[<-RU];exact VN.mpr h
 exact VN.mp (Xy (g) h1)
theorem K4{x y:Num}(h:Ok x)(k:Ok y)(e:nv x=nv y):x=y:=by
 have h1:=h.1;have r:=k.1
 delta nv at e
 rw[T4 (by exact Rz ‹_›) (by exact Rz ‹_›)] at e;have Y:=MI (⟨y.1,by rw[e,Ri]⟩) (by rw[UZ];exact h.2);have o:=MI (⟨x.1,by rw[<-e,Ri]⟩) (by rw[UZ];exact k.2);have e2:=Int.dvd_antisymm (by exact R4 ‹_›) (by exact R4 ‹_›) Y o;rw[e2] at e;have e1:=Sm (by exact Rz ‹_›) e;exact Prod.ext e1 e2
section
variable{x y z:Num}(hx:Ok x)(hy:Ok y)(hz:Ok z)
noncomputable def OS(x y:Num):Bool:=decide (x.1*y.2<y.1*x.2)
include hx hy in
end
theorem nY{q:Num}(h:Ok q)(n:b≠0):dz (q.1*b) (q.2*b)=q:=by have h1:=h.1;refine K4 (Bc (U9 Q1 n)) h ?_;rw[IW (U9 Q1 n)];unfold nv;rw[T4 (U9 Q1 n) Q1,T5,Ri b]
end W
set_option maxHeartbeats 1000000
namespace W
open L2 PySem
abbrev Pr:=Str×Num
def Hi(ps:List Pr)(n:Str):Num:=ps.foldl (λacc p=>if p.1=n then Pf acc p.2 else acc) (0,1)
end W
namespace M
open PySem L2
inductive A where
 |non|bl(b:Bool)|int(i:Int)|str(x:Str)|tup(xs:List A)|lst(xs:List A)|dic(kvs:List (Key×A))|exc(c:Str)|obj(c:Str)(fs:List (Str×A))|dit(kvs:List (List Key×A))|opq
structure Kx where
 K:QJ
 mg:Str->Option Value
 P:Program
 w:XM
def Qy:List (List Key×Addr×V)->List (List Key×Addr×Value)->Prop:=Paired λx y=>x.1=y.1/\x.2.1=y.2.1/\RelV x.2.2 y.2.2
def dX(P:Program)(w:XM)(p:Addr)(xs:List (List Key×Addr×V)):HO:=.exd λh=>xs.length<=sizeLine/\(p==YM)=false/\∃ys,Qy xs ys /\
 ∃o es i,h.get? p=some o/\o.ExactDict/\o.data=.dict es i/\es.toList=ys.map (entryOfKey (tupleKind (iG P w)))/\(ys.map (·.1)).Nodup
mutual
inductive RA(k:Kx)(G:Hp):V->A->Prop
 |non:RA k G .non .non
 |bl(b:Bool):RA k G (.bl b) (.bl b)
 |int(i:Int):RA k G (.int i) (.int i)
 |str(x:Str):RA k G (.str x) (.str x)
 |tup{p:Addr}{vs:List V}{as:List A}(e:jb k.K G p vs)(r:bX k G vs as):RA k G (.ref p) (.tup as)
 |lst{p:Addr}{vs:List V}{as:List A}(e:dR k.K G p vs)(r:bX k G vs as):RA k G (.ref p) (.lst as)
 |dic{p:Addr}{vs:List (Key×V)}{as:List (Key×A)}(e:Rd G p (.dK vs))(r:wR k G vs as):RA k G (.ref p) (.dic as)
 |exc{p C:Addr}{c:Str}(e:G p=some (OJ p C))(m:k.mg c=some (.ref C)):RA k G (.ref p) (.exc c)
 |obj{p C dx:Addr}{c:Str}{vs:List (Str×V)}{fs:List (Str×A)}(e:G p=some (.ins C dx vs))(m:k.mg c=some (.ref C))(r:hU k G vs fs):RA k G (.ref p) (.obj c fs)
 |dit{p:Addr}{vs:List (List Key×Addr×V)}{as:List (List Key×A)}(e:Rd G p (dX k.P k.w p vs))(r:Cd k G vs as):RA k G (.ref p) (.dit as)
 |opq{p:Addr}:RA k G (.ref p) .opq
inductive bX(k:Kx)(G:Hp):List V->List A->Prop
 |nil:bX k G [] []
 |cons{v:V}{a:A}{vs:List V}{as:List A}(h:RA k G v a)(r:bX k G vs as):bX k G (v::vs) (a::as)
inductive hU(k:Kx)(G:Hp):List (Str×V)->List (Str×A)->Prop
 |nil:hU k G [] []
 |cons{y:Str}{v:V}{a:A}{vs:List (Str×V)}{as:List (Str×A)}(h:RA k G v a)(r:hU k G vs as):hU k G ((y,v)::vs) ((y,a)::as)
inductive Cd(k:Kx)(G:Hp):List (List Key×Addr×V)->List (List Key×A)->Prop
 |nil:Cd k G [] []
 |cons{y:List Key}{b:Addr}{v:V}{a:A}{vs:List (List Key×Addr×V)}{as:List (List Key×A)}(e:jb k.K G b (y.map kV))(h:RA k G v a)(r:Cd k G vs as):Cd k G ((y,b,v)::vs) ((y,a)::as)
inductive wR(k:Kx)(G:Hp):List (Key×V)->List (Key×A)->Prop
 |nil:wR k G [] []
 |cons{y:Key}{v:V}{a:A}{vs:List (Key×V)}{as:List (Key×A)}(h:RA k G v a)(r:wR k G vs as):wR k G ((y,v)::vs) ((y,a)::as)
end
noncomputable def sP:HO->Option HO
 | .dK kvs=>some (.dK kvs)
 | .frz _ (.dK kvs)=>some (.dK kvs)
 | .exd Z=>some (.exd Z)
 | .frz _ (.exd Z)=>some (.exd Z)
 |_=>none
def Oq(o o':HO):Prop:=o'=o\/∃d,sP o=some d/\sP o'=some d
variable{G:Hp}{d:HO}
theorem vP{b:Addr}{o:HO}(h:G b=some o)(e:sP o=some d):Rd G b d:=by
 cases o with
 |dK=>cases e;exact .inl h
 |exd=>cases e;exact .inl h
 |frz b o=>
  cases o with
  |dK=>cases e;exact .inr ⟨_,h⟩
  |exd=>cases e;exact .inr ⟨_,h⟩
  |_=>exact cF e
 |_=>exact cF e
variable{kvs:List (Key×V)}
theorem NK{b:Addr}(h:Rd G b (.dK kvs)):∃o,G b=some o/\sP o=some (.dK kvs):=by
 rcases h with h|⟨o,h⟩
 .exact⟨_,h,rfl⟩
 .exact⟨_,h,rfl⟩
theorem Nr{b:Addr}{Z:Heap->Prop}(h:Rd G b (.exd Z)):∃o,G b=some o/\sP o=some (.exd Z):=by
 rcases h with h|⟨o,h⟩
 .exact⟨_,h,rfl⟩
 .exact⟨_,h,rfl⟩
def Sq(G G':Hp):Prop:=∀b o,G b=some o->∃o',G' b=some o'/\Oq o o'
variable{G':Hp}
theorem Sq.of(h:OV G G'):Sq G G':=λb o e=>⟨o,h b o e,.inl rfl⟩
theorem Sq.refl(G:Hp):Sq G G:=λb o e=>⟨o,e,.inl rfl⟩
theorem Sq.keep(h:Sq G G'){b:Addr}{o:HO}(e:G b=some o)(n:sP o=none):G' b=some o:=by
 obtain⟨o',h1,h2⟩:=h b o e;rcases h2 with rfl|⟨kvs,h3,_⟩
 .exact h1
 .rw[n] at h3;cases h3
theorem Sq.PL(h:Sq G G'){b:Addr}{o:HO}(e:G b=some o)(k:sP o=some d):Rd G' b d:=by
 obtain⟨o',h1,h2⟩:=h b o e;rcases h2 with rfl|⟨x,h3,h4⟩
 .exact vP h1 k
 .rw[k] at h3;cases h3;exact vP h1 h4
theorem Sq.Og(h:Sq G G'){b:Addr}(r:Rd G b (.dK kvs)):Rd G' b (.dK kvs):=by obtain⟨o,e,d⟩:=NK r;exact h.PL e d
theorem Sq.QC(h:Sq G G'){b:Addr}{Z:Heap->Prop}(r:Rd G b (.exd Z)):Rd G' b (.exd Z):=by obtain⟨o,e,d⟩:=Nr r;exact h.PL e d
variable{p:Addr}{vs:List V}
theorem gn{K:QJ}(h:Sq G G')(q:jb K G p vs):jb K G' p vs:=q.imp (λr=>by
 rcases r with r|⟨o,r⟩
 .exact .inl (h.keep r rfl)
 .exact .inr ⟨o,h.keep r rfl⟩) id
theorem fz{K:QJ}(h:Sq G G')(q:dR K G p vs):dR K G' p vs:=q.imp (λr=>by
 rcases r with r|⟨o,r⟩
 .exact .inl (h.keep r rfl)
 .exact .inr ⟨o,h.keep r rfl⟩) id
section
variable{k:Kx}{G G':Hp}
mutual
theorem RA.sm(s:Sq G G'):∀{v:V}{a:A},RA k G v a->RA k G' v a
 |_,_,.non=>.non
 |_,_,.bl b=>.bl b
 |_,_,.int i=>.int i
 |_,_,.str x=>.str x
 |_,_,.tup e r=>.tup (gn s e) (bX.sm s r)
 |_,_,.lst e r=>.lst (fz s e) (bX.sm s r)
 |_,_,.dic e r=>.dic (s.Og e) (wR.sm s r)
 |_,_,.exc e m=>.exc (s.keep e rfl) m
 |_,_,.obj e m r=>.obj (s.keep e rfl) m (hU.sm s r)
 |_,_,.dit e r=>.dit (s.QC e) (Cd.sm s r)
 |_,_,.opq=>.opq
theorem hU.sm(s:Sq G G'):∀{vs:List (Str×V)}{as:List (Str×A)},hU k G vs as->hU k G' vs as
 |_,_,.nil=>.nil
 |_,_,.cons h r=>.cons (RA.sm s h) (hU.sm s r)
theorem bX.sm(s:Sq G G'):∀{vs:List V}{as:List A},bX k G vs as->bX k G' vs as
 |_,_,.nil=>.nil
 |_,_,.cons h r=>.cons (RA.sm s h) (bX.sm s r)
theorem Cd.sm(s:Sq G G'):∀{vs:List (List Key×Addr×V)}{as:List (List Key×A)},Cd k G vs as->Cd k G' vs as
 |_,_,.nil=>.nil
 |_,_,.cons e h r=>.cons (gn s e) (RA.sm s h) (Cd.sm s r)
theorem wR.sm(s:Sq G G'):∀{vs:List (Key×V)}{as:List (Key×A)},wR k G vs as->wR k G' vs as
 |_,_,.nil=>.nil
 |_,_,.cons h r=>.cons (RA.sm s h) (wR.sm s r)
end
theorem bX.len:∀{vs:List V}{as:List A},bX k G vs as->vs.length=as.length
 |_,_,.nil=>rfl
 |_,_,.cons _ r=>by simp only[QX,QX,r.len]
theorem bX.ta:∀{vs:List V}{as:List A}{i:Nat}{a:A},bX k G vs as->as[i]?=some a->∃v,vs[i]?=some v/\RA k G v a
 |_,_,_,_,.nil,e=>by simp at e
 |_,_,0,_,.cons h _,e=>by cases e;exact⟨_,rfl,h⟩
 |_,_,i+1,_,.cons _ r,e=>r.ta e
theorem bX.app:∀{vs us:List V}{as bs:List A},bX k G vs as->bX k G us bs->bX k G (vs++us) (as++bs)
 |_,_,_,_,.nil,s=>s
 |_,_,_,_,.cons h r,s=>.cons h (r.app s)
theorem bX.snoc{as:List A}{v:V}{a:A}(r:bX k G vs as)(h:RA k G v a):bX k G (vs++[v]) (as++[a]):=r.app (.cons h .nil)
theorem bX.rev:∀{vs:List V}{as:List A},bX k G vs as->bX k G vs.reverse as.reverse
 |_,_,.nil=>.nil
 |_,_,.cons h r=>by simp only[TL,TL];exact r.rev.snoc h
theorem bX.take:∀{vs:List V}{as:List A}(n:Nat),bX k G vs as->bX k G (vs.take n) (as.take n)
 |_,_,0,_=>.nil
 |_,_,_+1,.nil=>.nil
 |_,_,n+1,.cons h r=>.cons h (r.take n)
theorem bX.drop:∀{vs:List V}{as:List A}(n:Nat),bX k G vs as->bX k G (vs.drop n) (as.drop n)
 |_,_,0,r=>r
 |_,_,_+1,.nil=>.nil
 |_,_,n+1,.cons _ r=>r.drop n
theorem bX.set{v:V}{a:A}(h:RA k G v a):∀{vs:List V}{as:List A}(i:Nat),bX k G vs as->bX k G (vs.set i v) (as.set i a)
 |_,_,_,.nil=>.nil
 |_,_,0,.cons _ r=>.cons h r
 |_,_,i+1,.cons q r=>.cons q (r.set h i)
theorem hU.len:∀{vs:List (Str×V)}{as:List (Str×A)},hU k G vs as->vs.length=as.length
 |_,_,.nil=>rfl
 |_,_,.cons _ r=>by simp only[QX,QX,r.len]
theorem hU.get:∀{vs:List (Str×V)}{as:List (Str×A)}(y:Str),hU k G vs as->(∃v a,vs.lookup y=some v/\as.lookup y=some a/\RA k G v a)\/(vs.lookup y=none/\as.lookup y=none)
 |_,_,y,.nil=>.inr ⟨rfl,rfl⟩
 |_,_,y,.cons (y:=z) (v:=v) (a:=a) h r=>by
  simp only[Q2,Q2];cases c:y==z with
  |true=>exact .inl ⟨v,a,rfl,rfl,h⟩
  |false=>exact r.get y
def kF(f:Str)(a:A):List (Str×A)->List (Str×A)
 |[]=>[(f,a)]
 |(g,b)::fs=>if g=f then (g,a)::fs else (g,b)::kF f a fs
theorem hU.put{f:Str}{v:V}{a:A}(h:RA k G v a):∀{vs:List (Str×V)}{as:List (Str×A)},hU k G vs as->hU k G (eD f v vs) (kF f a as)
 |_,_,.nil=>.cons h .nil
 |_,_,.cons (y:=z) q r=>by
  unfold eD kF;split
  .exact .cons h r
  .exact .cons q (hU.put h r)
end
noncomputable def cut(H:Hp)(L:List Addr):Hp:=λa=>if a∈L then none else H a
variable{H:Hp}{L:List Addr}
theorem AJ{a:Addr}(h:a∈L):cut H L a=none:=Za h
theorem pR{a:Addr}(h:a∉L):cut H L a=H a:=Zb h
theorem AG(H:Hp)(L:List Addr):Sq (cut H L) H:=Sq.of λb o e=>by
 delta cut at e
 split at e
 .cases e
 .exact e
variable{L':List Addr}
theorem zE(h:∀a,a∈L'->a∈L):Sq (cut H L) (cut H L'):=Sq.of λb o e=>by
 by_cases c:b∈L
 .rw[AJ c] at e;cases e
 .rw[pR c] at e;rw[pR λz=>c (h b z)];exact e
inductive LO where
 |lst(xs:List A)|dic(kvs:List (Key×A))|obj(c:Str)(fs:List (Str×A))|dit(kvs:List (List Key×A))|nob(c:Str)(fs:List (Str×A))(ls:List (Str×List A))
def LO.a:LO->A
 | .lst xs=>.lst xs
 | .dic kvs=>.dic kvs
 | .obj c fs=>.obj c fs
 | .dit kvs=>.dit kvs
 | .nob c fs ls=>.obj c (fs++ls.map λp=>(p.1,.lst p.2))
def LO.rd:LO->Option A
 | .lst xs=>some (.lst xs)
 | .dic kvs=>some (.dic kvs)
 | .obj c fs=>some (.obj c fs)
 | .dit kvs=>some (.dit kvs)
 | .nob _ _ _=>none
inductive Sl where
 |un|fr(a:A)|lv(o:LO)|pv(o:LO)|cf(a:A)
inductive eY(k:Kx)(G H:Hp):List (Str×V)->List (Str×List A)->List Addr->Prop
 |nil:eY k G H [] [] []
 |cons{y:Str}{a:Addr}{us:List V}{xs:List A}{ws:List (Str×V)}{ls:List (Str×List A)}{q:List Addr}(e:H a=some (.lst us))(r:bX k G us xs)(t:eY k G H ws ls q):eY k G H ((y,.ref a)::ws) ((y,xs)::ls) (a::q)
inductive LR(k:Kx)(G H:Hp)(p:Addr):LO->List Addr->Prop
 |lst{vs:List V}{as:List A}(e:H p=some (.lst vs))(r:bX k G vs as):LR k G H p (.lst as) []
 |dic{vs:List (Key×V)}{as:List (Key×A)}(e:H p=some (.dK vs))(r:wR k G vs as):LR k G H p (.dic as) []
 |obj{C dx:Addr}{c:Str}{vs:List (Str×V)}{fs:List (Str×A)}(e:H p=some (.ins C dx vs))(m:k.mg c=some (.ref C))(r:hU k G vs fs):LR k G H p (.obj c fs) []
 |dit{vs:List (List Key×Addr×V)}{as:List (List Key×A)}(e:H p=some (dX k.P k.w p vs))(r:Cd k G vs as):LR k G H p (.dit as) []
 |nob{C dx:Addr}{c:Str}{vs ws:List (Str×V)}{fs:List (Str×A)}{ls:List (Str×List A)}{q:List Addr}(e:H p=some (.ins C dx (vs++ws)))(m:k.mg c=some (.ref C))(r:hU k G vs fs)(l:eY k G H ws ls q):LR k G H p (.nob c fs ls) q
inductive eV(k:Kx)(G H:Hp):Option V->Sl->List Addr->Prop
 |un(x:Option V):eV k G H x .un []
 |fr{v:V}{a:A}(h:RA k G v a):eV k G H (some v) (.fr a) []
 |lv{p:Addr}{o:LO}{q:List Addr}(h:LR k G H p o q):eV k G H (some (.ref p)) (.lv o) (p::q)
 |pv{p:Addr}{o:LO}{q:List Addr}(h:LR k G H p o q):eV k G H (some (.ref p)) (.pv o) (p::q)
 |cf{v:V}{a:A}(h:RA k G v a):eV k G H (some v) (.cf a) []
inductive av(k:Kx)(G H:Hp):St->List Sl->List Addr->Prop
 |nil:av k G H [] [] []
 |cons{x:Option V}{s:Sl}{Y:St}{Z:List Sl}{L L':List Addr}(h:eV k G H x s L)(r:av k G H Y Z L'):av k G H (x::Y) (s::Z) (L++L')
variable{ws:List (Str×V)}{q:List Addr}
section
variable{k:Kx}{G G' H H':Hp}{L:List Addr}
theorem eY.is{ls:List (Str×List A)}(h:eY k G H ws ls q):∀a∈q,∃u,H a=some u:=by
 induction h with
 |nil=>intro a f;cases f
 |cons e r t m=>intro b d;rcases QW.mp d with rfl|d;exact⟨_,e⟩;exact m b d
theorem eY.sm(s:Sq G G'){ws:List (Str×V)}{ls:List (Str×List A)}{q:List Addr}(h:eY k G H ws ls q):(∀a∈q,∀u,H a=some u->H' a=some u)->eY k G' H' ws ls q:=by
 induction h with
 |nil=>intro _;exact .nil
 |cons e r t m=>intro k;exact .cons (k _ Q0 _ e) (r.sm s) (m λb d=>k b (QP _ d))
theorem eY.a(s:Sq G G'){ws:List (Str×V)}{ls:List (Str×List A)}{q:List Addr}(h:eY k G H ws ls q):(∀a∈q,∀u,H a=some u->G' a=some u)->hU k G' ws (ls.map λp=>(p.1,A.lst p.2)):=by
 induction h with
 |nil=>intro _;exact .nil
 |cons e r t m=>intro k;exact .cons (.lst (.inl (.inl (k _ Q0 _ e))) (r.sm s)) (m λb d=>k b (QP _ d))
theorem hU.app{vs:List (Str×V)}{as bs:List (Str×A)}(h:hU k G vs as)(h':hU k G ws bs):hU k G (vs++ws) (as++bs):=by
 induction vs generalizing as with
 |nil=>cases h;exact h'
 |cons v vs m=>cases h with|cons q r=>exact .cons q (m r)
theorem LR.is{p:Addr}{o:LO}{q:List Addr}(h:LR k G H p o q):∀a∈p::q,∃u,H a=some u:=by
 intro a f;rcases QW.mp f with rfl|f
 .cases h with|lst e _=>exact⟨_,e⟩|dic e _=>exact⟨_,e⟩|obj e _ _=>exact⟨_,e⟩|dit e _=>exact⟨_,e⟩|nob e _ _ _=>exact⟨_,e⟩
 .cases h with|lst e _=>cases f|dic e _=>cases f|obj e _ _=>cases f|dit e _=>cases f|nob _ _ _ l=>exact l.is a f
theorem LR.sm(s:Sq G G'){p:Addr}{o:LO}{q:List Addr}(e:∀a∈p::q,∀u,H a=some u->H' a=some u)(h:LR k G H p o q):LR k G' H' p o q:=by
 have I:=e p Q0;cases h with
 |lst q r=>exact .lst (I _ q) (r.sm s)
 |dic q r=>exact .dic (I _ q) (r.sm s)
 |obj q m r=>exact .obj (I _ q) m (r.sm s)
 |dit q r=>exact .dit (I _ q) (r.sm s)
 |nob q m r l=>exact .nob (I _ q) m (r.sm s) (l.sm s λa f=>e a (QP _ f))
theorem eV.is{x:Option V}{t:Sl}(h:eV k G H x t L):∀p∈L,∃u,H p=some u:=by
 cases h with
 |un=>intro p hp;cases hp
 |fr=>intro p hp;cases hp
 |lv h=>exact h.is
 |pv h=>exact h.is
 |cf=>intro p hp;cases hp
theorem eV.sm(s:Sq G G'){x:Option V}{t:Sl}(e:∀p∈L,∀u,H p=some u->H' p=some u)(h:eV k G H x t L):eV k G' H' x t L:=by
 cases h with
 |un=>exact .un _
 |fr h=>exact .fr (h.sm s)
 |lv h=>exact .lv (h.sm s e)
 |pv h=>exact .pv (h.sm s e)
 |cf h=>exact .cf (h.sm s)
theorem av.is:∀{Y:St}{Z:List Sl}{L:List Addr},av k G H Y Z L->∀p∈L,∃u,H p=some u
 |_,_,_,.nil,p,hp=>by cases hp
 |_,_,_,.cons h r,p,hp=>(QO.mp hp).elim (h.is p) (r.is p)
theorem av.sm(s:Sq G G'):∀{Y:St}{Z:List Sl}{L:List Addr},(∀p∈L,∀u,H p=some u->H' p=some u)->av k G H Y Z L->av k G' H' Y Z L
 |_,_,_,_,.nil=>.nil
 |_,_,_,e,.cons h r=>.cons (h.sm s λp hp=>e p (QM _ hp)) (r.sm s λp hp=>e p (QK _ hp))
theorem av.len:∀{Y:St}{Z:List Sl}{L:List Addr},av k G H Y Z L->Y.length=Z.length
 |_,_,_,.nil=>rfl
 |_,_,_,.cons _ r=>by simp only[QX,QX,r.len]
theorem av.at:∀{Y:St}{Z:List Sl}{L:List Addr}{i:Nat}{s:Sl},av k G H Y Z L->Z[i]?=some s->
  ∃x b L2 X,Y[i]?=some x/\eV k G H x s L2/\L=b++L2++X/\∀{G' H':Hp}{y:Option V}{t:Sl}{L':List Addr},Sq G G'->(∀p∈b++X,∀u,H p=some u->H' p=some u)->eV k G' H' y t L'->av k G' H' (Y.set i y) (Z.set i t) (b++L'++X)
 |_,_,_,_,_,.nil,e=>by simp at e
 |_,_,_,0,_,.cons (x:=x) (L:=L) (L':=L') h r,e=>by cases e;refine⟨x,[],L,L',rfl,h,by simp,λsm e q=>?_⟩;simp only[List.set_cons_zero,Um];exact .cons q (r.sm sm (by simpa using e))
 |_,_,_,i+1,_,.cons (L:=L) h r,e=>by obtain⟨x,b,L2,X,e1,e2,N,v⟩:=av.at (i:=i) r e;refine⟨x,L++b,L2,X,e1,e2,by rw[N];simp,λsm e q=>?_⟩;simp only[List.set_cons_succ];have:=av.cons (h.sm sm λp hp=>e p (by simp[hp])) (v sm (λp hp=>e p (by rcases QO.mp hp with z|z<;>simp[z])) q);simpa[QN] using this
theorem av.app:∀{Y B:St}{Z θ:List Sl}{L L':List Addr},av k G H Y Z L->av k G H B θ L'->av k G H (Y++B) (Z++θ) (L++L')
 |_,_,_,_,_,_,.nil,s=>s
 |_,_,_,_,_,_,.cons h r,s=>by have:=av.cons h (r.app s);simpa[QN] using this
theorem av.split:∀{Y B:St}{Z θ:List Sl}{L:List Addr},Y.length=Z.length->av k G H (Y++B) (Z++θ) L->∃b L2,L=b++L2/\av k G H Y Z b/\av k G H B θ L2
 |[],_,[],_,L,_,h=>⟨[],L,rfl,.nil,h⟩
 |x::Y,B,s::Z,θ,_,e,.cons (L:=L) h r=>by obtain⟨b,L2,e1,n,o⟩:=av.split (by simpa using e) r;exact⟨L++b,L2,by rw[e1];simp,.cons h n,o⟩
 |_::_,_,[],_,_,e,_=>by simp at e
 |[],_,_::_,_,_,e,_=>by simp at e
theorem av.lA:∀{vs:List V}{as:List A},bX k G vs as->av k G H (vs.map some) (as.map Sl.fr) []
 |_,_,.nil=>.nil
 |_,_,.cons h r=>av.cons (.fr h) (av.lA r)
theorem av.E2:∀{vs:List V}{as:List A}{L:List Addr},av k G H (vs.map some) (as.map Sl.fr) L->L=[]/\bX k G vs as
 |[],[],_,.nil=>⟨rfl,.nil⟩
 |v::vs,a::as,_,.cons h r=>by
  cases h with
  |fr h=>obtain⟨e,q⟩:=av.E2 r;exact⟨by rw[e];rfl,.cons h q⟩
end
structure Cn extends Kx where
 σ0:St
 H0:Hp
 Lp:List Addr
 Hd:List Addr
 Wk:List (Addr×HO)
def Cn.g(c:Cn)(H:Hp)(L:List Addr):Hp:=cut H (L++c.Hd)
structure Fr(c:Cn)(H:Hp):Prop where
 st:∀b o,c.H0 b=some o->∃u,H b=some u/\(b∉c.Lp->(∀w,(b,w)∉c.Wk)->u=o)
 pk:∀p∈c.Wk,H p.1=some p.2/\(∃ob d,p.2=.frz ob d)/\p.1∉c.Hd
variable{c:Cn}
theorem Fr.new{o:HO}(f:Fr c H)(h:H p=none):Fr c (upd H p o):=⟨λb u e=>by
 obtain⟨w,h1,h2⟩:=f.st b u e;exact⟨w,by rw[aq (aJ h1 h)];exact h1,h2⟩,λq R=>by
 obtain⟨h1,h2⟩:=f.pk q R;exact⟨by rw[aq (aJ h1 h)];exact h1,h2⟩⟩
theorem Fr.fresh(f:Fr c H)(h:H p=none):c.H0 p=none:=by
 cases e:c.H0 p with
 |none=>rfl
 |some o=>obtain⟨u,h1,_⟩:=f.st p o e;rw[h] at h1;cases h1
noncomputable def cst:Sl->Bool
 | .pv _=>true
 | .cf _=>true
 |_=>false
def fh(σ0 Y:St)(Z:List Sl):Prop:=∀(i:Nat)(s:Sl),Z[i]?=some s->cst s=true->Y[i]?=σ0[i]?
structure eu(c:Cn)(Y:St)(H:Hp)(Z:List Sl)(B:St)(θ:List Sl)(L:List Addr):Prop where
 nd:L.Nodup
 rel:av c.toKx (c.g H L) H (B++Y) (θ++Z) L
 own:∀p∈L,p∈c.Lp\/c.H0 p=none
 fr:Fr c H
 kp:fh c.σ0 Y Z
 lt:B.length=θ.length
 hd:∀p∈c.Hd,(∃u,c.H0 p=some u)/\p∉c.Lp
theorem g_same(c:Cn)(H:Hp)(L:List Addr):Sq (c.g H L) H:=AG _ _
theorem dJ(h:∀a,a∈L'->a∈L):Sq (c.g H L) (c.g H L'):=zE λa f=>by
 rcases QO.mp f with z|z
 .exact QM _ (h a z)
 .exact QK _ z
theorem gO{a:Addr}(h:a∈L\/a∈c.Hd):c.g H L a=none:=AJ (by simpa using h)
theorem bM{a:Addr}(h:a∉L)(h':a∉c.Hd):c.g H L a=H a:=pR (by simp[h,h'])
variable{Y B:St}{Z θ:List Sl}
theorem eu.xZ(b:eu c Y H Z B θ L)(h:p∈L):p∉c.Hd:=λz=>by
 obtain⟨⟨u,e⟩,n⟩:=b.hd p z;rcases b.own p h with y|y
 .exact n y
 .rw[y] at e;cases e
theorem eu.Mu(b:eu c Y H Z B θ L)(h:H p=none):p∉c.Hd:=λz=>by obtain⟨⟨u,e⟩,n⟩:=b.hd p z;rw[b.fr.fresh h] at e;cases e
def Bd(c:Cn)(Y:St)(H:Hp)(Z:List Sl)(B:St)(θ:List Sl):Prop:=∃L,eu c Y H Z B θ L
variable{s:Sl}{u:HO}{o o':LO}{i:Nat}{α:Type}
section
variable{c:Cn}{Y:St}{H:Hp}{Z:List Sl}{B:St}{θ:List Sl}
theorem Bd.rA(b:Bd c Y H Z B θ):Y.length=Z.length:=by
 obtain⟨L,b⟩:=b;have:=b.rel.len;simp only[Q7,Q7,b.lt] at this
 lia
theorem Bd.push{v:V}{a:A}(b:Bd c Y H Z B θ)(h:∀G,RA c.toKx G v a):Bd c Y H Z (some v::B) (.fr a::θ):=by obtain⟨L,b⟩:=b;exact⟨L,b.nd,av.cons (L:=[]) (.fr (h _)) b.rel,b.own,b.fr,b.kp,by simp[b.lt],b.hd⟩
theorem Bd.pop{x:Option V}(b:Bd c Y H Z (x::B) (s::θ)):Bd c Y H Z B θ:=by
 obtain⟨L,b⟩:=b;obtain⟨nd,rel,own,fr,kp,lt,u⟩:=b;cases rel with
 |cons h r=>rename_i q L2;exact⟨L2,(QV.mp nd).2.1,r.sm (dJ λa f=>QK _ f) (λ_ _ _ e=>e),λp hp=>own p (QK _ hp),fr,kp,by simpa using lt,u⟩
theorem Bd.CM:∀{xs:St}{ss:List Sl},xs.length=ss.length->Bd c Y H Z (xs++B) (ss++θ)->Bd c Y H Z B θ
 |[],[],_,b=>b
 |x::xs,s::ss,e,b=>Bd.CM (by simpa using e) (Bd.pop b)
 |[],_::_,e,_=>by simp at e
 |_::_,[],e,_=>by simp at e
theorem Bd.new{p:Addr}{o:HO}(b:Bd c Y H Z B θ)(h:H p=none):Bd c Y (upd H p o) Z B θ:=by
 obtain⟨L,b⟩:=b;have hp:p∉L:=λz=>by obtain⟨u,e⟩:=b.rel.is p z;rw[h] at e;cases e
 refine⟨L,b.nd,b.rel.sm (Sq.of λa u e=>?_) (λq R u e=>by rw[aq (aJ e h)];exact e),b.own,b.fr.new h,b.kp,b.lt,b.hd⟩;by_cases z:a∈L\/a∈c.Hd
 .rw[gO z] at e;cases e
 .rw[bM (λy=>z (.inl y)) (λy=>z (.inr y))] at e;rw[bM (λy=>z (.inl y)) (λy=>z (.inr y)),aq (aJ e h)];exact e
theorem Bd.lA{as:List A}(b:Bd c Y H Z (vs.map some++B) (as.map Sl.fr++θ))(e:vs.length=as.length):∃L,eu c Y H Z B θ L/\bX c.toKx (c.g H L) vs as:=by obtain⟨L,b⟩:=b;have r:=b.rel;rw[QN,QN] at r;obtain⟨q,L2,e1,n,k⟩:=av.split (by simp[e]) r;obtain⟨z,s⟩:=av.E2 n;subst z;have e1:L=L2:=e1;subst e1;exact⟨L,⟨b.nd,k,b.own,b.fr,b.kp,by have:=b.lt;simp at this;lia,b.hd⟩,s⟩
theorem eu.push{v:V}{a:A}(b:eu c Y H Z B θ L)(h:RA c.toKx (c.g H L) v a):Bd c Y H Z (some v::B) (.fr a::θ):=
 ⟨L,b.nd,av.cons (.fr h) b.rel,b.own,b.fr,b.kp,by simp[b.lt],b.hd⟩
theorem eu.new{L:List Addr}{p:Addr}{o:HO}(b:eu c Y H Z B θ L)(h:H p=none):eu c Y (upd H p o) Z B θ L/\Sq (c.g H L) (c.g (upd H p o) L)/\p∉L:=by
 have hp:p∉L:=λz=>by obtain⟨u,e⟩:=b.rel.is p z;rw[h] at e;cases e
 have sm:Sq (c.g H L) (c.g (upd H p o) L):=Sq.of λa u e=>by
  by_cases z:a∈L\/a∈c.Hd
  .rw[gO z] at e;cases e
  .rw[bM (λy=>z (.inl y)) (λy=>z (.inr y))] at e;rw[bM (λy=>z (.inl y)) (λy=>z (.inr y)),aq (aJ e h)];exact e
 exact⟨⟨b.nd,b.rel.sm sm (λq R u e=>by rw[aq (aJ e h)];exact e),b.own,b.fr.new h,b.kp,b.lt,b.hd⟩,sm,hp⟩
theorem Bd.GC{as:List A}(b:Bd c Y H Z (vs.map some++B) (as.map Sl.fr++θ))(e:vs.length=as.length)(h:H p=none)(ws:List V)(bs:List A)(O:∀G,bX c.toKx G vs as->bX c.toKx G ws bs):
  Bd c Y (upd H p (.tup ws)) Z (some (.ref p)::B) (.fr (.tup bs)::θ):=by
 obtain⟨L,bl,s⟩:=b.lA e;obtain⟨b2,sm,hp⟩:=bl.new (o:=.tup ws) h;exact b2.push (.tup (.inl (.inl (by rw[bM hp (bl.Mu h)];exact aN))) (O _ (s.sm sm)))
theorem eu.kH(b:eu c Y H Z B θ L)(h:H p=none)(A:∀G H',Sq (c.g H L) G->H' p=some u->LR c.toKx G H' p o []):Bd c Y (upd H p u) Z (some (.ref p)::B) (.lv o::θ):=by
 have hp:p∉L:=λz=>by obtain⟨u,e⟩:=b.rel.is p z;rw[h] at e;cases e
 have sm:Sq (c.g H L) (c.g (upd H p u) (p::L)):=Sq.of λa w e=>by
  by_cases z:a∈L\/a∈c.Hd
  .rw[gO z] at e;cases e
  .rw[bM (λy=>z (.inl y)) (λy=>z (.inr y))] at e;have x:=aJ e h;rw[bM (λy=>by rcases QW.mp y with y|y;exact x y;exact z (.inl y)) (λy=>z (.inr y)),aq x];exact e
 refine⟨p::L,Rl.mpr ⟨hp,b.nd⟩,av.cons (L:=[p]) (.lv (A _ _ sm aN)) (b.rel.sm sm (λq R w e=>by rw[aq (aJ e h)];exact e)),λq R=>?_,b.fr.new h,b.kp,by simp[b.lt],b.hd⟩;rcases QW.mp R with z|z
 .subst z;exact .inr (b.fr.fresh h)
 .exact b.own q z
theorem Bd.AI{as:List A}(b:Bd c Y H Z (vs.map some++B) (as.map Sl.fr++θ))(e:vs.length=as.length)(h:H p=none)(ws:List V)(bs:List A)(O:∀G,bX c.toKx G vs as->bX c.toKx G ws bs):
  Bd c Y (upd H p (.lst ws)) Z (some (.ref p)::B) (.lv (.lst bs)::θ):=by
 obtain⟨L,bl,s⟩:=b.lA e;exact bl.kH h λG H' sm q=>.lst q (O _ (s.sm sm))
theorem LR.a{k:Kx}{G H:Hp}{p:Addr}{o:LO}{q:List Addr}{a:A}(h:LR k G H p o q)(sm:Sq G H)(J:o.rd=some a):RA k H (.ref p) a:=by
 cases h with
 |lst e r=>cases J;exact .lst (.inl (.inl e)) (r.sm sm)
 |dic e r=>cases J;exact .dic (.inl e) (r.sm sm)
 |obj e m r=>cases J;exact .obj e m (r.sm sm)
 |dit e r=>cases J;exact .dit (.inl e) (r.sm sm)
 |nob=>cases J
theorem LR.a'{k:Kx}(h:LR k G H p o q)(sm:Sq G G')(e:∀a∈p::q,∀u,H a=some u->G' a=some u):RA k G' (.ref p) o.a:=by
 have I:=e p Q0;cases h with
 |lst q r=>exact .lst (.inl (.inl (I _ q))) (r.sm sm)
 |dic q r=>exact .dic (.inl (I _ q)) (r.sm sm)
 |obj q m r=>exact .obj (I _ q) m (r.sm sm)
 |dit q r=>exact .dit (.inl (I _ q)) (r.sm sm)
 |nob q m r l=>exact .obj (I _ q) m ((r.sm sm).app (l.a sm λa f=>e a (QP _ f)))
def Sl.a:Sl->Option A
 | .fr a=>some a
 | .lv o=>o.rd
 | .pv o=>o.rd
 | .cf a=>some a
 | .un=>none
theorem eV.read{k:Kx}{x:Option V}{a:A}(h:eV k G H x s L)(sm:Sq G H)(e:s.a=some a):∃v,x=some v/\RA k H v a:=by
 cases h with
 |un=>cases e
 |fr h=>cases e;exact⟨_,rfl,h.sm sm⟩
 |lv h=>exact⟨_,rfl,h.a sm e⟩
 |pv h=>exact⟨_,rfl,h.a sm e⟩
 |cf h=>cases e;exact⟨_,rfl,h.sm sm⟩
theorem fh.set{σ0 Y:St}{Z:List Sl}{i:Nat}{t:Sl}{y:Option V}(k:fh σ0 Y Z)(hi:i<Z.length)(e:cst t=false):fh σ0 (Y.set i y) (Z.set i t):=λj o q w=>by
 by_cases z:j=i
 .subst z;rw[Q6 hi] at q;cases q;rw[e] at w;cases w
 .rw[Rj (RO z)] at q ⊢;exact k j o q w
theorem fh.Ct{σ0:St}{t:Sl}(k:fh σ0 Y Z)(h:cst t=true->∃s,Z[i]?=some s/\cst s=true):fh σ0 Y (Z.set i t):=λj o q w=>by
 by_cases z:j=i
 .subst z;by_cases hi:j<Z.length
  .rw[Q6 hi] at q;cases q;obtain⟨o',e,a⟩:=h w;exact k j o' e a
  .rw[Sk (by simp;exact Ul.mp ‹_›)] at q;cases q
 .rw[Rj (RO z)] at q;exact k j o q w
theorem Bd.slot{a:A}(b:Bd c Y H Z B θ)(e:Z[i]?=some s)(J:s.a=some a):∃v,Y[i]?=some (some v)/\RA c.toKx H v a:=by obtain⟨L,b⟩:=b;obtain⟨q,L2,e1,n,k⟩:=av.split b.lt b.rel;obtain⟨x,_,_,_,hx,hs,_⟩:=k.at e;obtain⟨v,rfl,h⟩:=hs.read (g_same _ _ _) J;exact⟨v,hx,h⟩
theorem Bd.F5(b:Bd c Y H Z B θ)(e:Z[i]?=some (.lv o)\/Z[i]?=some (.pv o)):∃p,Y[i]?=some (some (.ref p)):=by
 obtain⟨L,b⟩:=b;obtain⟨q,L2,e1,n,k⟩:=av.split b.lt b.rel;rcases e with e|e
 .obtain⟨x,_,_,_,hx,hs,_⟩:=k.at e;cases hs;exact⟨_,hx⟩
 .obtain⟨x,_,_,_,hx,hs,_⟩:=k.at e;cases hs;exact⟨_,hx⟩
theorem Bd.load{a:A}(b:Bd c Y H Z B θ)(e:Z[i]?=some (.fr a)):∃v,Y[i]?=some (some v)/\Bd c Y H Z (some v::B) (.fr a::θ):=by
 obtain⟨L,b⟩:=b;obtain⟨q,L2,e1,n,k⟩:=av.split b.lt b.rel;obtain⟨x,_,_,_,hx,hs,_⟩:=k.at e;cases hs with
 |fr h=>exact⟨_,hx,b.push h⟩
theorem Bd.FR{a:A}(b:Bd c Y H Z B θ)(e:Z[i]?=some (.cf a)):∃v,Y[i]?=some (some v)/\Bd c Y H Z (some v::B) (.fr a::θ):=by
 obtain⟨L,b⟩:=b;obtain⟨q,L2,e1,n,k⟩:=av.split b.lt b.rel;obtain⟨x,_,_,_,hx,hs,_⟩:=k.at e;cases hs with
 |cf h=>exact⟨_,hx,b.push h⟩
theorem eY.nf{k:Kx}{ls:List (Str×List A)}(h:eY k G H ws ls q):∀a∈q,∀ob w,H a≠some (.frz ob w):=by
 induction h with
 |nil=>intro a f;cases f
 |cons e r t m=>intro b d ob w z;rcases QW.mp d with rfl|d;rw[e] at z;cases z;exact m b d ob w z
theorem LR.nf{k:Kx}{G H:Hp}{p:Addr}{o:LO}{q:List Addr}(h:LR k G H p o q):∀a∈p::q,∀ob w,H a≠some (.frz ob w):=by
 intro a f ob w z;rcases QW.mp f with rfl|f
 .cases h with|lst e _=>rw[e] at z;cases z|dic e _=>rw[e] at z;cases z|obj e _ _=>rw[e] at z;cases z|dit e _=>rw[e] at z;cases z|nob e _ _ _=>rw[e] at z;cases z
 .cases h with|lst e _=>cases f|dic e _=>cases f|obj e _ _=>cases f|dit e _=>cases f|nob _ _ _ l=>exact l.nf a f ob w z
theorem je{A B C:List α}(n:(A++B++C).Nodup):(A++C).Nodup/\∀a∈B,a∉A++C:=by
 obtain⟨Y,F,H⟩:=QV.mp n;obtain⟨K,L,e⟩:=QV.mp Y;refine⟨QV.mpr ⟨K,F,λa f b d=>H a (QM _ f) b d⟩,λa f z=>?_⟩;rcases QO.mp z with z|z
 .exact e a z a f rfl
 .exact H a (QK _ f) a z rfl
theorem set_same{v:Option V}(hx:Y[i]?=some v):Y.set i v=Y:=by
 apply Sv;intro j;by_cases z:j=i
 .subst z;rw[Q6 (QL.mp hx).1,hx]
 .rw[Rj (RO z)]
theorem Bd.uI(b:Bd c Y H Z B θ)(e:Z[i]?=some (.lv o)):Bd c Y H (Z.set i (.fr o.a)) B θ:=by
 obtain⟨L,b⟩:=b;obtain⟨X,L2,e1,n,k⟩:=av.split b.lt b.rel;obtain⟨x,M1,I,r,hx,hs,e2,ins⟩:=k.at e;cases hs with
 |lv h=>
  rename_i p q;have nd:=b.nd;have hL:L=(X++M1)++(p::q)++r:=by rw[e1,e2];simp
  rw[hL] at nd;obtain⟨s,hp⟩:=je nd;have sub:∀a,a∈X++M1++r->a∈L:=λa f=>by rw[hL];simp only[QO,QW] at f ⊢;rcases f with (z|z)|z<;>simp[z]
  have sm:Sq (c.g H L) (c.g H (X++M1++r)):=dJ sub;have v:=ins (y:=some (.ref p)) (t:=.fr o.a) (L':=[]) sm (λ_ _ _ e=>e) (.fr (h.a' sm λa f u e=>by rw[bM (hp a f) (b.xZ (by rw[hL];exact QM _ (QK _ f)))];exact e));rw[set_same hx] at v;refine⟨X++M1++r,s,?_,λq R=>b.own q (sub q R),b.fr,b.kp.Ct (λz=>by cases z),b.lt,b.hd⟩;have:=(n.sm sm (λ_ _ _ e=>e)).app v;simpa[QN] using this
theorem eu.M6{t:Sl}(b:eu c Y H Z B θ L)(e:Z[i]?=some s)(es:s=.lv o/\t=.lv o'\/s=.pv o/\t=.pv o')
  : ∃p q,Y[i]?=some (some (.ref p))/\LR c.toKx (c.g H L) H p o q/\(p::q).Nodup/\∀a∈p::q,(∀H',H' a=some u->(∀b∈p::q,b≠a->H' b=H b)->LR c.toKx (c.g H L) H' p o' q)->Bd c Y (upd H a u) (Z.set i t) B θ:=by
 obtain⟨X,L2,e1,n,k⟩:=av.split b.lt b.rel;obtain⟨x,M1,Q,r,hx,hs,e2,ins⟩:=k.at e;have key:∀p q,x=some (.ref p)->Q=p::q->LR c.toKx (c.g H L) H p o q->(∀G H',LR c.toKx G H' p o' q->eV c.toKx G H' (some (.ref p)) t (p::q))->(cst t=true->∃s,Z[i]?=some s/\cst s=true)->
   ∃p q,Y[i]?=some (some (.ref p))/\LR c.toKx (c.g H L) H p o q/\(p::q).Nodup/\∀a∈p::q,(∀H',H' a=some u->(∀b∈p::q,b≠a->H' b=H b)->LR c.toKx (c.g H L) H' p o' q)->Bd c Y (upd H a u) (Z.set i t) B θ:=by
  intro p q ex em A mk pk;subst ex em;have nd:=b.nd;have hL:L=(X++M1)++(p::q)++r:=by rw[e1,e2];simp
  rw[hL] at nd;have l:(p::q).Nodup:=(QV.mp (QV.mp nd).1).2.1;refine⟨p,q,hx,A,l,λa f hn=>?_⟩;obtain⟨_,v⟩:=je nd;have T:a∈L:=by rw[hL];exact QM _ (QK _ f)
  have D:c.g (upd H a u) L=c.g H L:=by
   funext I
   by_cases z:I∈L\/I∈c.Hd
   .rw[gO z,gO z]
   .rw[bM (λy=>z (.inl y)) (λy=>z (.inr y)),bM (λy=>z (.inl y)) (λy=>z (.inr y)),aq λy=>z (.inl (by rw[y];exact T))]
  have V:∀q,q∈X++M1++r->∀w,H q=some w->upd H a u q=some w:=λq R w e=>by rw[aq λy=>v a f (by rw[<-y];exact R)];exact e
  have N:=ins (G':=c.g (upd H a u) L) (H':=upd H a u) (y:=some (.ref p)) (t:=t) (L':=p::q) (by rw[D];exact Sq.refl _) (λq R=>V q (by rcases QO.mp R with z|z<;>simp[z])) (mk _ _ (by rw[D];exact hn _ aN λI _ P=>aq P));rw[set_same hx] at N;refine⟨L,b.nd,?_,b.own,⟨λq w e=>?_,λq R=>?_⟩,b.kp.Ct pk,b.lt,b.hd⟩
  .have:=(n.sm (G':=c.g (upd H a u) L) (H':=upd H a u) (by rw[D];exact Sq.refl _) (λq R=>V q (by simp[R]))).app N;have z:X++(M1++(p::q)++r)=L:=by rw[hL];simp
   rw[z] at this;exact this
  .obtain⟨j,h1,h2⟩:=b.fr.st q w e;by_cases z:q=a
   .subst z;refine⟨u,aN,λJ=>?_⟩;rcases b.own q T with y|y
    .exact absurd y J
    .rw[y] at e;cases e
   .exact⟨j,by rw[aq z];exact h1,h2⟩
  .obtain⟨h1,⟨ob,vs,h2⟩,h3⟩:=b.fr.pk q R;refine⟨?_,⟨ob,vs,h2⟩,h3⟩;rw[aq λy=>?_]
   .exact h1
   .rw[y,h2] at h1;exact A.nf a f _ _ h1
 rcases es with ⟨rfl,rfl⟩|⟨rfl,rfl⟩
 .cases hs with
  |lv h=>exact key _ _ rfl rfl h (λ_ _ h=>.lv h) (λz=>by cases z)
 .cases hs with
  |pv h=>exact key _ _ rfl rfl h (λ_ _ h=>.pv h) (λ_=>⟨_,e,rfl⟩)
theorem eu.change{t:Sl}(b:eu c Y H Z B θ L)(e:Z[i]?=some s)(es:s=.lv o/\t=.lv o'\/s=.pv o/\t=.pv o')
  : ∃p q,Y[i]?=some (some (.ref p))/\LR c.toKx (c.g H L) H p o q/\((∀H',H' p=some u->(∀b∈q,H' b=H b)->LR c.toKx (c.g H L) H' p o' q)->Bd c Y (upd H p u) (Z.set i t) B θ):=by
 obtain⟨p,q,h1,h2,nd,h3⟩:=b.M6 (u:=u) e es;exact⟨p,q,h1,h2,λk=>h3 p Q0 λH' l sm=>k H' l λb d=>sm b (QP _ d) λz=>(Rl.mp nd).1 (z▸d)⟩
theorem Bd.store{t:Sl}{v:V}(b:Bd c Y H Z (some v::B) (t::θ))(e:Z[i]?=some s)(hs:∀o,s≠.pv o)(l:cst t=false):Bd c (Y.set i (some v)) H (Z.set i t) B θ:=by
 obtain⟨L,nd,rel,own,fr,kp,lt,y⟩:=b;have rel:av c.toKx (c.g H L) H (some v::(B++Y)) (t::(θ++Z)) L:=rel;cases rel with
 |cons h r=>
  rename_i p L';obtain⟨X,L2,e1,n,k⟩:=av.split (by simpa using lt) r;obtain⟨x,M1,I,u,hx,w,e2,ins⟩:=k.at e;subst e1 e2;have sub:∀a,a∈X++(M1++p++u)->a∈p++(X++(M1++I++u)):=λa f=>by simp at f ⊢;rcases f with z|z|z|z<;>simp[z]
  have sm:Sq (c.g H (p++(X++(M1++I++u)))) (c.g H (X++(M1++p++u))):=dJ sub;have hi:i<Z.length:=(QL.mp e).1;refine⟨X++(M1++p++u),?_,?_,λq R=>own q (sub q R),fr,kp.set hi l,by simpa using lt,y⟩
  .have T:(p++(X++(M1++I++u))).Perm (I++(X++(M1++p++u))):=by rw[SW];intro a;simp only[S5];lia
   exact(QV.mp ((T.nodup_iff).mp nd)).2.1
  .exact(n.sm sm (λ_ _ _ e=>e)).app (ins sm (λ_ _ _ e=>e) (h.sm sm (λ_ _ _ e=>e)))
end
inductive Rr where
 |rf(i:Nat)|fr(a:A)|nw(o:LO)
noncomputable abbrev Mi(α:Type):=List Sl->Option (Except Str α×List Sl)
noncomputable def aY{α D:Type}(m:Mi α)(f:α->Mi D):Mi D:=λZ=>match m Z with
 |some (.ok x,U)=>f x U
 |some (.error e,U)=>some (.error e,U)
 |none=>none
noncomputable def lW{α:Type}(x:α):Mi α:=λZ=>some (.ok x,Z)
noncomputable def cW:Rr->V->St->St
 | .rf _,_,B=>B
 | .fr _,v,B=>some v::B
 | .nw _,v,B=>some v::B
noncomputable def cV:Rr->List Sl->List Sl
 | .rf _,θ=>θ
 | .fr a,θ=>.fr a::θ
 | .nw o,θ=>.lv o::θ
def VR(Y:St):Rr->V->Prop
 | .rf i,v=>Y[i]?=some (some v)
 |_,_=>True
def res(Z:List Sl):Rr->Option A
 | .rf i=>match Z[i]? with
  |some s=>s.a
  |none=>none
 | .fr a=>some a
 | .nw o=>o.rd
def Oa(K:Kx)(E:XK)(c:Cn)(Y:St)(Z:List Sl)(B:St)(θ:List Sl)(Q:VK):Except Str Rr->Prop
 | .ok r=>∀v H,VR Y r v->Bd c Y H Z (cW r v B) (cV r θ)->Q v H
 | .error x=>∀C H,K.mg x=some (.ref C)->Bd c Y H Z B θ->E (.ref C) none H
inductive kO(K:Kx)(E:XK)(m:Mi Rr)(Y:St)(H:Hp)(Q:VK):Prop
 |mk(c:Cn)(Z:List Sl)(B:St)(θ:List Sl)(o:Except Str Rr)(O:List Sl)(h1:c.toKx=K)(h2:Bd c Y H Z B θ)(h3:m Z=some (o,O))(h4:Oa K E c Y O B θ Q o)
def Mz(K:Kx)(E:XK)(c:Cn)(Y:St)(Z:List Sl)(B:St)(θ:List Sl)(Q:Bool->Hp->Prop):Except Str Bool->Prop
 | .ok b=>∀H,Bd c Y H Z B θ->Q b H
 | .error x=>∀C H,K.mg x=some (.ref C)->Bd c Y H Z B θ->E (.ref C) none H
inductive Dv(K:Kx)(E:XK)(m:Mi Bool)(Y:St)(H:Hp)(Q:Bool->Hp->Prop):Prop
 |mk(c:Cn)(Z:List Sl)(B:St)(θ:List Sl)(o:Except Str Bool)(O:List Sl)(h1:c.toKx=K)(h2:Bd c Y H Z B θ)(h3:m Z=some (o,O))(h4:Mz K E c Y O B θ Q o)
def dC:List Rr->List V->St->St
 |r::rs,v::vs,B=>dC rs vs (cW r v B)
 |_,_,B=>B
def dA:List Rr->List Sl->List Sl
 |r::rs,θ=>dA rs (cV r θ)
 |[],θ=>θ
def nh(Y:St):List Rr->List V->Prop
 |[],[]=>True
 |r::rs,v::vs=>VR Y r v/\nh Y rs vs
 |_,_=>False
def MG(K:Kx)(E:XK)(c:Cn)(Y:St)(Z:List Sl)(B:St)(θ:List Sl)(Q:List V->Hp->Prop):Except Str (List Rr)->Prop
 | .ok rs=>∀vs H,nh Y rs vs->Bd c Y H Z (dC rs vs B) (dA rs θ)->Q vs H
 | .error x=>∀C H,K.mg x=some (.ref C)->Bd c Y H Z B θ->E (.ref C) none H
inductive LQ(K:Kx)(E:XK)(m:Mi (List Rr))(Y:St)(H:Hp)(Q:List V->Hp->Prop):Prop
 |mk(c:Cn)(Z:List Sl)(B:St)(θ:List Sl)(o:Except Str (List Rr))(O:List Sl)(h1:c.toKx=K)(h2:Bd c Y H Z B θ)(h3:m Z=some (o,O))(h4:MG K E c Y O B θ Q o)
noncomputable abbrev kx(X:Cx):Kx:=⟨X.K,X.mg,X.prog,X.w⟩
structure JE(X:Cx)(E:XK)(e:Expr)(m:Mi Rr):Prop where
 p:PE X e (kO (kx X) E m)
structure JT(X:Cx)(E:XK)(e:Expr)(m:Mi Bool):Prop where
 p:PT X e (Dv (kx X) E m)
structure JW(X:Cx)(E:XK)(e:Expr)(m:Mi Bool):Prop where
 p:PW X e (Dv (kx X) E m)
structure JA(X:Cx)(E:XK)(es:List Expr)(m:Mi (List Rr)):Prop where
 p:PA X es (LQ (kx X) E m)
variable{X:Cx}{e:Expr}
theorem PE.weaken{t t':TE}(h:PE X e t)(f:∀Y H Q,t' Y H Q->t Y H Q):PE X e t':=λpins s Y H Q I q=>h pins s Y H Q I (f Y H Q q)
variable{t':TT}
theorem PT.weaken{t:TT}(h:PT X e t)(f:∀Y H Q,t' Y H Q->t Y H Q):PT X e t':=λpins s Y H Q I q=>h pins s Y H Q I (f Y H Q q)
theorem PW.weaken{t:TT}(h:PW X e t)(f:∀Y H Q,t' Y H Q->t Y H Q):PW X e t':=λT pins s Y H Q I q=>h T pins s Y H Q I (f Y H Q q)
theorem PA.weaken{e:List Expr}{t t':TA}(h:PA X e t)(f:∀Y H Q,t' Y H Q->t Y H Q):PA X e t':=λpos pins s Y H Q I q=>h pos pins s Y H Q I (f Y H Q q)
section
variable{c:Cn}{Y:St}{H:Hp}{Z:List Sl}{B:St}{θ:List Sl}
theorem Bd.drop{r:Rr}{v:V}(b:Bd c Y H Z (cW r v B) (cV r θ)):Bd c Y H Z B θ:=by
 cases r with
 |rf i=>exact b
 |fr a=>exact Bd.pop b
 |nw o=>exact Bd.pop b
theorem Bd.top{v:V}{a:A}(b:Bd c Y H Z (some v::B) (s::θ))(e:s.a=some a):RA c.toKx H v a:=by
 obtain⟨L,nd,rel,_⟩:=b;cases rel with
 |cons h r=>obtain⟨u,z,q⟩:=h.read (g_same _ _ _) e;cases z;exact q
theorem Bd.rd{r:Rr}{v:V}{a:A}(b:Bd c Y H Z (cW r v B) (cV r θ))(x:VR Y r v)(e:res Z r=some a):RA c.toKx H v a:=by
 cases r with
 |rf i=>
  delta res at e
  cases es:Z[i]? with
  |none=>simp only[es] at e;cases e
  |some s=>simp only[es] at e;obtain⟨u,h1,h2⟩:=Bd.slot b es e;rw[x] at h1;cases h1;exact h2
 |fr a'=>cases e;exact Bd.top b rfl
 |nw o=>exact Bd.top b e
theorem eV.items{k:Kx}{x:Option V}(h:eV k G H x s L)(sm:Sq G H):
  (∀as,s.a=some (.lst as)->∃p vs,x=some (.ref p)/\dR k.K H p vs/\bX k G vs as)/\(∀as,s.a=some (.tup as)->∃p vs,x=some (.ref p)/\jb k.K G p vs/\bX k G vs as) /\
  (∀as,s.a=some (.dic as)->∃p vs,x=some (.ref p)/\Rd H p (.dK vs)/\wR k G vs as):=by
 have lo:∀p o q,LR k G H p o q->(∀as,o.rd=some (A.lst as)->∃vs,dR k.K H p vs/\bX k G vs as)/\(∀as,o.rd≠some (A.tup as))/\(∀as,o.rd=some (A.dic as)->∃vs,Rd H p (.dK vs)/\wR k G vs as):=by
  intro p o q h;cases h with
  |lst e r=>exact⟨λas z=>by cases z;exact⟨_,.inl (.inl e),r⟩,λas z=>(by cases z),λas z=>(by cases z)⟩
  |dic e r=>exact⟨λas z=>(by cases z),λas z=>(by cases z),λas z=>by cases z;exact⟨_,.inl e,r⟩⟩
  |obj e m r=>exact⟨λas z=>(by cases z),λas z=>(by cases z),λas z=>(by cases z)⟩
  |dit e r=>exact⟨λas z=>(by cases z),λas z=>(by cases z),λas z=>(by cases z)⟩
  |nob e m r l=>exact⟨λas z=>(by cases z),λas z=>(by cases z),λas z=>(by cases z)⟩
 cases h with
 |un=>exact⟨λ_ z=>(by cases z),λ_ z=>(by cases z),λ_ z=>(by cases z)⟩
 |fr h=>
  refine⟨λas z=>?_,λas z=>?_,λas z=>?_⟩
  .cases z;cases h with|lst e r=>exact⟨_,_,rfl,fz sm e,r⟩
  .cases z;cases h with|tup e r=>exact⟨_,_,rfl,e,r⟩
  .cases z;cases h with|dic e r=>exact⟨_,_,rfl,sm.Og e,r⟩
 |cf h=>
  refine⟨λas z=>?_,λas z=>?_,λas z=>?_⟩
  .cases z;cases h with|lst e r=>exact⟨_,_,rfl,fz sm e,r⟩
  .cases z;cases h with|tup e r=>exact⟨_,_,rfl,e,r⟩
  .cases z;cases h with|dic e r=>exact⟨_,_,rfl,sm.Og e,r⟩
 |lv h=>
  rename_i p o q;obtain⟨Q,T,Y⟩:=lo p o q h;refine⟨λas z=>?_,λas z=>absurd z (T as),λas z=>?_⟩
  .obtain⟨vs,h1,h2⟩:=Q as z;exact⟨p,vs,rfl,h1,h2⟩
  .obtain⟨vs,h1,h2⟩:=Y as z;exact⟨p,vs,rfl,h1,h2⟩
 |pv h=>
  rename_i p o q;obtain⟨Q,T,Y⟩:=lo p o q h;refine⟨λas z=>?_,λas z=>absurd z (T as),λas z=>?_⟩
  .obtain⟨vs,h1,h2⟩:=Q as z;exact⟨p,vs,rfl,h1,h2⟩
  .obtain⟨vs,h1,h2⟩:=Y as z;exact⟨p,vs,rfl,h1,h2⟩
def xY(c:Cn)(H:Hp)(L:List Addr)(v:V)(a:A):Prop:=
  (∀as,a=.lst as->∃p vs,v=.ref p/\dR c.K H p vs/\bX c.toKx (c.g H L) vs as)/\(∀as,a=.tup as->∃p vs,v=.ref p/\jb c.K (c.g H L) p vs/\bX c.toKx (c.g H L) vs as) /\
  (∀as,a=.dic as->∃p vs,v=.ref p/\Rd H p (.dK vs)/\wR c.toKx (c.g H L) vs as)
theorem xY.mono{v:V}{a:A}(h:xY c H L v a)(s:∀a,a∈L'->a∈L):xY c H L' v a:=by
 obtain⟨h1,h2,h3⟩:=h;refine⟨λas e=>?_,λas e=>?_,λas e=>?_⟩
 .obtain⟨p,vs,g,l,z⟩:=h1 as e;exact⟨p,vs,g,l,z.sm (dJ s)⟩
 .obtain⟨p,vs,g,l,z⟩:=h2 as e;exact⟨p,vs,g,gn (dJ s) l,z.sm (dJ s)⟩
 .obtain⟨p,vs,g,l,z⟩:=h3 as e;exact⟨p,vs,g,l,z.sm (dJ s)⟩
theorem xY.of{L2:List Addr}{x:Option V}{v:V}{a:A}(ex:x=some v)(h:eV c.toKx (c.g H L) H x s L2)(J:s.a=some a):xY c H L v a:=by
 subst ex;obtain⟨Q,T,Y⟩:=h.items (g_same _ _ _);refine⟨λas z=>?_,λas z=>?_,λas z=>?_⟩<;>subst z
 .obtain⟨p,vs,q,h1,h2⟩:=Q as J;exact⟨p,vs,Rh q,h1,h2⟩
 .obtain⟨p,vs,q,h1,h2⟩:=T as J;exact⟨p,vs,Rh q,h1,h2⟩
 .obtain⟨p,vs,q,h1,h2⟩:=Y as J;exact⟨p,vs,Rh q,h1,h2⟩
theorem eu.open{r:Rr}{v:V}{a:A}{u:List Addr}(b:eu c Y H Z (cW r v B) (cV r θ) u)(t:VR Y r v)(e:res Z r=some a):∃L,(∀a,a∈L->a∈u)/\eu c Y H Z B θ L/\xY c H L v a:=by
 have y:∀s,eu c Y H Z (some v::B) (s::θ) u->s.a=some a->∃L,(∀a,a∈L->a∈u)/\eu c Y H Z B θ L/\xY c H L v a:=by
  intro s b J;obtain⟨nd,rel,own,fr,kp,lt,w⟩:=b;have rel:av c.toKx (c.g H u) H (some v::(B++Y)) (s::(θ++Z)) u:=rel;cases rel with
  |cons h r=>rename_i q L2;have sm:Sq (c.g H (q++L2)) (c.g H L2):=dJ λa f=>QK _ f;exact⟨L2,λa f=>QK _ f,⟨(QV.mp nd).2.1,r.sm sm (λ_ _ _ e=>e),λp hp=>own p (QK _ hp),fr,kp,by simpa using lt,w⟩,xY.of rfl (h.sm sm (λ_ _ _ e=>e)) J⟩
 cases r with
 |rf i=>
  unfold res at e;cases es:Z[i]? with
  |none=>simp only[es] at e;cases e
  |some s=>simp only[es] at e;obtain⟨q,L2,e1,n,k⟩:=av.split b.lt b.rel;obtain⟨x,_,_,_,hx,hs,_⟩:=k.at es;have t:Y[i]?=some (some v):=t;rw[t] at hx;exact⟨u,λ_ h=>h,b,xY.of (Rh hx).symm hs e⟩
 |fr a'=>exact y _ b e
 |nw o=>exact y _ b e
theorem Bd.open{r:Rr}{v:V}{a:A}(b:Bd c Y H Z (cW r v B) (cV r θ))(x:VR Y r v)(e:res Z r=some a):∃L,eu c Y H Z B θ L/\xY c H L v a:=by obtain⟨L,b⟩:=b;obtain⟨L',_,h⟩:=b.open x e;exact⟨L',h⟩
theorem Bd.zj{r r':Rr}{v i:V}{a a':A}(b:Bd c Y H Z (cW r' i (cW r v B)) (cV r' (cV r θ)))(x:VR Y r v)(p:VR Y r' i)(e:res Z r=some a)(k:res Z r'=some a'):∃L,eu c Y H Z B θ L/\xY c H L v a/\xY c H L i a':=by obtain⟨L,b⟩:=b;obtain⟨q,s1,b1,h⟩:=b.open p k;obtain⟨L2,s2,b2,I⟩:=b1.open x e;exact⟨L2,b2,I,h.mono s2⟩
end
variable{pos:Pos}{O:List Sl}{ma mb:Mi Rr}{Q:VK}{r:R2}{op:Yj}{mt:Mi Bool}{es:List Expr}
section
variable{X:Cx}{E:XK}
noncomputable def aa(i:Nat):Mi Rr:=λZ=>match Z[i]? with
 |some (.fr a)=>some (.ok (.fr a),Z)
 |some (.cf a)=>some (.ok (.fr a),Z)
 |some (.lv _)=>some (.ok (.rf i),Z)
 |some (.pv _)=>some (.ok (.rf i),Z)
 |_=>none
noncomputable def ag(i:Nat):Mi Rr:=λZ=>match Z[i]? with
 |some (.fr a)=>some (.ok (.fr a),Z)
 |some (.cf a)=>some (.ok (.fr a),Z)
 |some (.lv o)=>some (.ok (.fr o.a),Z.set i (.fr o.a))
 |_=>none
noncomputable def mC(a:A):Mi Rr:=λZ=>some (.ok (.fr a),Z)
theorem Jy{x:Str}(hN:X.N[i]?=some x)(A:j9 X.env.scope x)(hd:fM x)(e:lG x):JE X E (.Name x pos) (aa i):=
 ⟨PE.weaken (bU hN A hd e) λY H Q h=>by
  obtain⟨c,Z,B,θ,o,O,u,b,em,q⟩:=h
  delta aa at em
  cases es:Z[i]? with
  |none=>rw[es] at em;cases em
  |some s=>
   cases s with
   |un=>rw[es] at em;cases em
   |fr a=>rw[es] at em;cases em;obtain⟨v,h1,h2⟩:=b.load es;exact⟨v,h1,q v H trivial h2⟩
   |cf a=>rw[es] at em;cases em;obtain⟨v,h1,h2⟩:=b.FR es;exact⟨v,h1,q v H trivial h2⟩
   |lv o=>simp only[es] at em;cases em;obtain⟨p,h1⟩:=b.F5 (.inl es);exact⟨_,h1,q _ H h1 b⟩
   | pv o=>simp only[es] at em;cases em;obtain⟨p,h1⟩:=b.F5 (.inr es);exact⟨_,h1,q _ H h1 b⟩⟩
theorem CK{x:Str}(hN:X.N[i]?=some x)(A:j9 X.env.scope x)(hd:fM x)(e:lG x):JE X E (.Name x pos) (ag i):=
 ⟨PE.weaken (bU hN A hd e) λY H Q h=>by
  obtain⟨c,Z,B,θ,o,O,u,b,em,q⟩:=h
  delta ag at em
  cases es:Z[i]? with
  |none=>rw[es] at em;cases em
  |some s=>
   cases s with
   |un=>rw[es] at em;cases em
   |fr a=>rw[es] at em;cases em;obtain⟨v,h1,h2⟩:=b.load es;exact⟨v,h1,q v H trivial h2⟩
   |cf a=>rw[es] at em;cases em;obtain⟨v,h1,h2⟩:=b.FR es;exact⟨v,h1,q v H trivial h2⟩
   |lv o=>rw[es] at em;cases em;have b2:=b.uI es;have hi:=(QL.mp es).1;obtain⟨v,h1,h2⟩:=b2.load (Q6 hi);exact⟨v,h1,q v H trivial h2⟩
   | pv o=>rw[es] at em;cases em⟩
theorem zD{v:V}{a:A}(h:PE X e (tC v))(r:∀G,RA (kx X) G v a):JE X E e (mC a):=⟨PE.weaken h λY H Q h=>by obtain⟨c,Z,B,θ,o,O,u,b,em,q⟩:=h;cases em;exact q v H trivial (b.push (by rw[u];exact r))⟩
theorem Jx{i j pos}:JE X E (.Constant (.int i) j pos) (mC (.int i)):=zD JJ λ_=>.int _
theorem ND{b j pos}:JE X E (.Constant (.bool b) j pos) (mC (.bl b)):=zD Lg λ_=>.bl _
theorem GB{j pos}:JE X E (.Constant .none j pos) (mC .non):=zD Hw λ_=>.non
theorem Hl{x j pos}:JE X E (.Constant (.str x) j pos) (mC (.str x)):=zD Kk λ_=>.str _
theorem DP{x:Str}{v:V}{u:Value}{a:A}(J:Gl X x)(hm:X.mg x=some u)(r:RelV v u)(s:∀G,RA (kx X) G v a)(hd:fM x):JE X E (.Name x pos) (mC a):=zD (vE J hm r hd) s
def ay(f:A->A->Option Rr)(ma mb:Mi Rr):Mi Rr:=aY ma λx=>aY mb λy=>λZ=>match res Z x,res Z y with
 |some a,some b=>match f a b with
  |some r=>some (.ok r,Z)
  |none=>none
 |_,_=>none
def jf(K:Kx)(r:R2)(f:A->A->Option Rr):Prop:=∀(c:Cn)(Y:St)(H:Hp)(Z:List Sl)(B:St)(θ:List Sl)(x y:Rr)(v w:V)(a b:A)(q:Rr)(Q:VK),c.toKx=K->VR Y x v->VR Y y w->
 Bd c Y H Z (cW y w (cW x v B)) (cV y (cV x θ))->res Z x=some a->res Z y=some b->f a b=some q->(∀u H',VR Y q u->Bd c Y H' Z (cW q u B) (cV q θ)->Q u H')->r v w H Q
theorem bind_some{D:Type}{m:Mi α}{f:α->Mi D}{o:Except Str D}(h:aY m f Z=some (o,O)):(∃x U,m Z=some (.ok x,U)/\f x U=some (o,O))\/∃e,m Z=some (.error e,O)/\o=.error e:=by
 delta aY at h
 cases e:m Z with
 |none=>rw[e] at h;cases h
 |some p=>
  obtain⟨r,U⟩:=p;cases r with
  |ok x=>rw[e] at h;exact .inl ⟨x,U,rfl,h⟩
  |error x=>simp only[e] at h;cases h;exact .inr ⟨x,rfl,rfl⟩
theorem bF{D:Type}{f:Rr->Mi D}{o:Except Str D}(u:c.toKx=kx X)(b:Bd c Y H Z B θ)(em:aY ma f Z=some (o,O))
  (h1:∀x v U i,VR Y x v->Bd c Y i U (cW x v B) (cV x θ)->f x U=some (o,O)->Q v i)
  (h2:∀e,o=.error e->∀C H,X.mg e=some (.ref C)->Bd c Y H O B θ->E (.ref C) none H):kO (kx X) E ma Y H Q:=by
 rcases bind_some em with ⟨x,U,e1,e2⟩|⟨e,e1,e2⟩
 .exact⟨c,Z,B,θ,_,U,u,b,e1,λv i A b1=>h1 x v U i A b1 e2⟩
 .exact⟨c,Z,B,θ,_,O,u,b,e1,λC i hm b1=>h2 e e2 C i hm b1⟩
theorem dm{x:Rr}{v:V}{D:Type}{o:Except Str D}(h:∀e,o=.error e->∀C H,X.mg e=some (.ref C)->Bd c Y H O B θ->E (.ref C) none H):
  ∀e,o=.error e->∀C H,X.mg e=some (.ref C)->Bd c Y H O (cW x v B) (cV x θ)->E (.ref C) none H:=λe p C H hm b=>h e p C H hm b.drop
theorem bY{o:Except Str Rr}(q:Oa (kx X) E c Y O B θ Q o):∀e,o=.error e->∀C H,X.mg e=some (.ref C)->Bd c Y H O B θ->E (.ref C) none H:=λe p=>by subst p;exact q
theorem jT{o:Except Str Bool}{Q:Bool->Hp->Prop}(q:Mz (kx X) E c Y O B θ Q o):∀e,o=.error e->∀C H,X.mg e=some (.ref C)->Bd c Y H O B θ->E (.ref C) none H:=λe p=>by subst p;exact q
theorem AN{o:Except Str (List Rr)}{Q:List V->Hp->Prop}(q:MG (kx X) E c Y O B θ Q o):∀e,o=.error e->∀C H,X.mg e=some (.ref C)->Bd c Y H O B θ->E (.ref C) none H:=λe p=>by subst p;exact q
theorem vx{f:A->A->Option Rr}{x y:Rr}{o:Except Str Rr}(h:(match res Z x,res Z y with|some a,some b=>(match f a b with|some r=>some ((.ok r:Except Str Rr),Z)|none=>none)|_,_=>none)=some (o,O)):
  ∃a b r,res Z x=some a/\res Z y=some b/\f a b=some r/\o=.ok r/\O=Z:=by
 cases e1:res Z x with
 |none=>rw[e1] at h;cases h
 |some a=>
  cases e2:res Z y with
  |none=>rw[e1,e2] at h;cases h
  |some b=>
   rw[e1,e2] at h;cases N:f a b with
   |none=>simp only[N] at h;cases h
   |some r=>simp only[N] at h;cases h;exact⟨a,b,r,rfl,rfl,N,rfl,rfl⟩
theorem jD{f:A->A->Option Rr}(hf:jf (kx X) r f)(Y:St)(H:Hp)(Q:VK)(h:kO (kx X) E (ay f ma mb) Y H Q):HK r (kO (kx X) E ma) (kO (kx X) E mb) Y H Q:=by obtain⟨c,Z,B,θ,o,O,u,b,em,q⟩:=h;refine bF u b em (λx v U i t b1 e=>?_) (bY q);refine bF u b1 e (λy w Z' S j b2 V=>?_) (dm (bY q));obtain⟨a,d,r,e1,e2,N,rfl,rfl⟩:=vx V;exact hf c Y S _ B θ x y v w a d r Q u t j b2 e1 e2 N q
theorem mr{op:Y5}{f:A->A->Option Rr}{a b:Expr}(ho:iU X (X9 op) r)(hf:jf (kx X) r f)(V:JE X E a ma)(d:JE X E b mb):JE X E (.BinOp a op b pos) (ay f ma mb):=
 ⟨PE.weaken (Mp ho V.p d.p) (jD hf)⟩
theorem gp{f:A->A->Option Rr}{a b:Expr}(ho:iU X (XZ op) r)(hf:jf (kx X) r f)(V:JE X E a ma)(d:JE X E b mb)(hm:XR op b=false):JE X E (.Compare a [op] [b] pos) (ay f ma mb):=
 ⟨PE.weaken (C8 ho V.p d.p hm) (jD hf)⟩
noncomputable def P9:Rr->Option Bool
 | .fr (.bl b)=>some b
 |_=>none
def aj(m:Mi Rr):Mi Bool:=aY m λr Z=>match P9 r with
 |some b=>some (.ok b,Z)
 |none=>none
theorem iH{m:Mi Rr}(Y:St)(H:Hp)(Q:Bool->Hp->Prop)(h:Dv (kx X) E (aj m) Y H Q):kO (kx X) E m Y H λx H'=>∃k,x=.bl k/\Q k H':=by
 obtain⟨c,Z,B,θ,o,O,u,b,em,q⟩:=h;refine bF u b em (λx v U y A b1 e=>?_) (jT q);cases x with
 |rf i=>cases e
 |nw o=>cases e
 |fr a=>
  cases a with
  |bl k=>cases e;have r:=Bd.top b1 rfl;cases r;exact⟨k,rfl,q y b1.pop⟩
  |_=>exact cF e
theorem gD{f:A->A->Option Rr}{a b:Expr}(ho:iU X (XZ op) r)(hf:jf (kx X) r f)(V:JE X E a ma)(d:JE X E b mb)(hm:XR op b=false):JT X E (.Compare a [op] [b] pos) (aj (ay f ma mb)):=
 ⟨PT.weaken (vN ho V.p d.p hm) λY H Q h=>jD hf Y H _ (iH Y H Q h)⟩
theorem Hu{m:Mi Rr}(h:JE X E e m)(he:∀whole,YW e X.env whole=(do let v <- whole;Ym e.pos;holding [v] (truthy v)):=by intro _;rfl):JT X E e (aj m):=
 ⟨PT.weaken (Hk h.p he) λY H Q h=>iH Y H Q h⟩
def iK(m n:Mi Bool):Mi Bool:=aY m λb=>if b then n else lW false
def j7(m n:Mi Bool):Mi Bool:=aY m λb=>if b then lW true else n
def fS(m:Mi Bool):Mi Bool:=aY m λb=>lW (!b)
theorem jy{D:Type}{m:Mi Bool}{f:Bool->Mi D}{o:Except Str D}{Q:Bool->Hp->Prop}(u:c.toKx=kx X)(b:Bd c Y H Z B θ)(em:aY m f Z=some (o,O))
  (h1:∀k U i,Bd c Y i U B θ->f k U=some (o,O)->Q k i)
  (h2:∀e,o=.error e->∀C H,X.mg e=some (.ref C)->Bd c Y H O B θ->E (.ref C) none H):Dv (kx X) E m Y H Q:=by
 rcases bind_some em with ⟨x,U,e1,e2⟩|⟨e,e1,e2⟩
 .exact⟨c,Z,B,θ,_,U,u,b,e1,λi b1=>h1 x U i b1 e2⟩
 .exact⟨c,Z,B,θ,_,O,u,b,e1,λC i hm b1=>h2 e e2 C i hm b1⟩
theorem Ja{a:Expr}{m:Mi Bool}(h:JT X E a m):JT X E (.UnaryOp .Not a pos) (fS m):=⟨PT.weaken (GJ h.p) λY H Q h=>by obtain⟨c,Z,B,θ,o,O,u,b,em,q⟩:=h;refine jy u b em (λk U i b1 e=>?_) (jT q);cases e;exact q i b1⟩
theorem ED{a:Expr}{m:Mi Bool}(h:JT X E a m):JW X E (.BoolOp .And [a] pos) m:=⟨DX h.p⟩
theorem G9{a:Expr}{m:Mi Bool}(h:JT X E a m):JW X E (.BoolOp .Or [a] pos) m:=⟨Kh h.p⟩
theorem IB{a b:Expr}{rest:List Expr}{m n:Mi Bool}(h:JT X E a m)(h':JW X E (.BoolOp .And (b::rest) pos) n):JW X E (.BoolOp .And (a::b::rest) pos) (iK m n):=⟨PW.weaken (JH h.p h'.p) λY H Q h=>by
 obtain⟨c,Z,B,θ,o,O,u,b,em,q⟩:=h;refine jy u b em (λk U i b1 e=>?_) (jT q);cases k with
 |true=>rw[Za rfl];exact⟨c,U,B,θ,o,O,u,b1,e,q⟩
 | false=>rw[Zb Z2];cases e;exact q i b1⟩
theorem Nh{a b:Expr}{rest:List Expr}{m n:Mi Bool}(h:JT X E a m)(h':JW X E (.BoolOp .Or (b::rest) pos) n):JW X E (.BoolOp .Or (a::b::rest) pos) (j7 m n):=⟨PW.weaken (MF h.p h'.p) λY H Q h=>by
 obtain⟨c,Z,B,θ,o,O,u,b,em,q⟩:=h;refine jy u b em (λk U i b1 e=>?_) (jT q);cases k with
 |true=>rw[Za rfl];cases e;exact q i b1
 | false=>rw[Zb Z2];exact⟨c,U,B,θ,o,O,u,b1,e,q⟩⟩
theorem NJ{m:Mi Bool}(h:JW X E e m):JT X E e m:=⟨h.p.pt⟩
def lN(m n:Mi Rr):Mi Rr:=aY (aj m) λb=>if b then n else mC (.bl false)
def zJ(m:Mi Rr):Mi Rr:=aY (aj m) λb=>mC (.bl (!b))
theorem vi{D:Type}{m:Mi Rr}{f:Bool->Mi D}{o:Except Str D}{Q:Bool->Hp->Prop}(u:c.toKx=kx X)(b:Bd c Y H Z B θ)(em:aY (aj m) f Z=some (o,O))
  (h1:∀k U i,Bd c Y i U B θ->f k U=some (o,O)->Q k i)
  (h2:∀e,o=.error e->∀C H,X.mg e=some (.ref C)->Bd c Y H O B θ->E (.ref C) none H):kO (kx X) E m Y H λx H'=>∃k,x=.bl k/\Q k H':=
 iH Y H Q (jy u b em h1 h2)
theorem HD{op}{a:Expr}{m:Mi Rr}(h:JE X E a m):JE X E (.BoolOp op [a] pos) m:=⟨ID h.p⟩
theorem JD{a b:Expr}{rest:List Expr}{m n:Mi Rr}(h:JE X E a m)(h':JE X E (.BoolOp .And (b::rest) pos) n):JE X E (.BoolOp .And (a::b::rest) pos) (lN m n):=⟨PE.weaken (JO h.p h'.p) λY H Q h=>by
 obtain⟨c,Z,B,θ,o,O,u,b,em,q⟩:=h;refine vi u b em (λk U i b1 e=>?_) (bY q);cases k with
 |true=>rw[Za rfl];exact⟨c,U,B,θ,o,O,u,b1,e,q⟩
 | false=>rw[Zb Z2];cases e;exact q (.bl false) i trivial (b1.push λ_=>.bl _)⟩
theorem HJ{a:Expr}{m:Mi Rr}(h:JE X E a m):JE X E (.UnaryOp .Not a pos) (zJ m):=⟨PE.weaken (HS h.p) λY H Q h=>by obtain⟨c,Z,B,θ,o,O,u,b,em,q⟩:=h;refine vi u b em (λk U i b1 e=>?_) (bY q);cases e;exact q (.bl (!k)) i trivial (b1.push λ_=>.bl _)⟩
def Nv(t:Mi Bool)(m n:Mi Rr):Mi Rr:=aY t λb=>if b then m else n
theorem KI{t a b:Expr}{m n:Mi Rr}(l:JT X E t mt)(f:JE X E a m)(d:JE X E b n):JE X E (.IfExp t a b pos) (Nv mt m n):=⟨PE.weaken (zM l.p f.p d.p) λY H Q h=>by
 obtain⟨c,Z,B,θ,o,O,u,b,em,q⟩:=h;refine jy u b em (λk U i b1 e=>?_) (bY q);cases k with
 |true=>rw[Za rfl];exact⟨c,U,B,θ,o,O,u,b1,e,q⟩
 | false=>rw[Zb Z2];exact⟨c,U,B,θ,o,O,u,b1,e,q⟩⟩
def kS:Mi (List Rr):=lW []
def dt(m:Mi Rr)(n:Mi (List Rr)):Mi (List Rr):=aY m λr=>aY n λrs=>lW (r::rs)
theorem Bs:JA X E [] kS:=⟨PA.weaken cB λY H Q h=>by obtain⟨c,Z,B,θ,o,O,u,b,em,q⟩:=h;cases em;exact q [] H trivial b⟩
theorem uR{m:Mi Rr}{n:Mi (List Rr)}(h:JE X E e m)(h':JA X E es n)(hs:XB (e::es) X.env=(false,eval e X.env)::XB es X.env:=by rfl):JA X E (e::es) (dt m n):=⟨PA.weaken (a9 h.p h'.p hs) λY H Q h=>by
 obtain⟨c,Z,B,θ,o,O,ek,b,em,q⟩:=h;refine bF ek b em (λx v U H1 hv b1 em1=>?_) (AN q);rcases bind_some em1 with ⟨rs,Z',e1,e2⟩|⟨e,e1,e2⟩
 .cases e2;exact⟨c,U,_,_,_,O,ek,b1,e1,λvs H2 hvs b2=>q (v::vs) H2 ⟨hv,hvs⟩ b2⟩
 .subst e2;exact⟨c,U,_,_,_,O,ek,b1,e1,λC H2 hm b2=>q C H2 hm b2.drop⟩⟩
end
variable{xs:St}{ss:List Sl}{rs:List Rr}
section
variable{c:Cn}{Y:St}{H:Hp}{Z:List Sl}{B:St}{θ:List Sl}
theorem zf{l:List α}{x:α}(h:l[i]?=some x):l.set i x=l:=by
 apply Sv;intro j;by_cases z:j=i
 .subst z;rw[Q6 (QL.mp h).1,h]
 .rw[Rj (RO z)]
theorem EV(h:∀a,a∈L↔a∈L'):c.g H L=c.g H L':=by
 funext a
 by_cases z:a∈L\/a∈c.Hd
 .rw[gO z,gO (by rwa[<-h a])]
 .rw[bM (λy=>z (.inl y)) (λy=>z (.inr y)),bM (λy=>z (.inl ((h a).mpr y))) (λy=>z (.inr y))]
theorem eu.perm(b:eu c Y H Z B θ L){J:St}{T:List Sl}(pm:L'.Perm L)(lt:J.length=T.length)(r:av c.toKx (c.g H L) H (J++Y) (T++O) L')(kp:fh c.σ0 Y O):eu c Y H O J T L':=
 ⟨(pm.nodup_iff).mpr b.nd,by rw[EV (L':=L) λa=>pm.mem_iff];exact r,λp hp=>b.own p (pm.mem_iff.mp hp),b.fr,kp,lt,b.hd⟩
theorem Bd.Nu{v:V}(e:xs.length=ss.length)(b:Bd c Y H Z (xs++some v::B) (ss++.lv o::θ)):Bd c Y H Z (xs++some v::B) (ss++.fr o.a::θ):=by
 obtain⟨L,b⟩:=b;have r:av c.toKx (c.g H L) H (xs++(some v::(B++Y))) (ss++(.lv o::(θ++Z))) L:=by have:=b.rel;simpa[QN] using this
 obtain⟨X,L2,e1,n,k⟩:=av.split e r;cases k with
 |cons h N=>
  rename_i y x;cases h with
  |lv h=>
   rename_i p q;have nd:=b.nd;rw[e1,<-QN] at nd;obtain⟨s,hp⟩:=je nd;have sub:∀a,a∈X++x->a∈L:=λa f=>by rw[e1];simp at f ⊢;rcases f with z|z<;>simp[z]
   have sm:Sq (c.g H L) (c.g H (X++x)):=dJ sub;refine⟨X++x,s,?_,λq R=>b.own q (sub q R),b.fr,b.kp,by have:=b.lt;simp at this ⊢;exact id ‹_›,b.hd⟩;have:=(n.sm sm (λ_ _ _ e=>e)).app (av.cons (L:=[]) (.fr (h.a' sm λa f u e=>by rw[bM (hp a f) (b.xZ (by rw[e1];exact QK _ (QM _ f)))];exact e)) (N.sm sm (λ_ _ _ e=>e)));simpa[QN] using this
theorem Bd.GR{v:V}{a:A}(e:xs.length=ss.length)(b:Bd c Y H Z (xs++B) (ss++θ))(t:Y[i]?=some (some v))(hs:Z[i]?=some (.fr a)):Bd c Y H Z (xs++some v::B) (ss++.fr a::θ):=by
 obtain⟨L,b⟩:=b;obtain⟨M1,I,_,_,k⟩:=av.split b.lt b.rel;obtain⟨x,_,_,_,hx,o,_⟩:=k.at hs;rw[t] at hx;cases hx;cases o with
 |fr h=>
  have r:av c.toKx (c.g H L) H (xs++(B++Y)) (ss++(θ++Z)) L:=by have:=b.rel;simpa[QN] using this
  obtain⟨q,L2,e1,n,k⟩:=av.split e r;refine⟨L,b.nd,?_,b.own,b.fr,b.kp,by have:=b.lt;simp at this ⊢;lia,b.hd⟩;have:=n.app (av.cons (L:=[]) (.fr h) k);rw[e1] at this ⊢;simpa[QN] using this
theorem A5(X L2 M1 r q:List Addr):(X++(q++(L2++(M1++r)))).Perm (X++(L2++(M1++(q++r)))):=by rw[SW];intro a;simp only[S5];lia
theorem Bd.IU{v:V}(e:xs.length=ss.length)(b:Bd c Y H Z (xs++B) (ss++θ))(A:Y[i]?=some (some v))(hs:Z[i]?=some s)(hk:s=.lv o\/s=.pv o):
  Bd c Y H (Z.set i .un) (xs++some v::B) (ss++.lv o::θ):=by
 obtain⟨L,b⟩:=b;have r:av c.toKx (c.g H L) H (xs++(B++Y)) (ss++(θ++Z)) L:=by have:=b.rel;simpa[QN] using this
 obtain⟨X,L2,e1,n,k⟩:=av.split e r;obtain⟨G,S,e2,N,w⟩:=av.split (by have:=b.lt;simp at this;lia) k;obtain⟨x,M1,I,u,hx,D,O,ins⟩:=w.at hs;rw[A] at hx;cases hx;have fin:∀p q,v=.ref p->I=p::q->LR c.toKx (c.g H L) H p o q->Bd c Y H (Z.set i .un) (xs++some v::B) (ss++.lv o::θ):=by
  intro p q P em h;subst P em;have a:=ins (y:=some (.ref p)) (t:=.un) (L':=[]) (Sq.refl _) (λ_ _ _ e=>e) (.un _);rw[zf A] at a;have Q:=n.app (av.cons (eV.lv h) (N.app a));have pm:(X++((p::q)++(G++(M1++[]++u)))).Perm L:=by rw[e1,e2,O];simpa using A5 X G M1 u (p::q)
  exact⟨_,b.perm pm (by have:=b.lt;simp at this ⊢;lia) (by simpa[QN] using Q) (b.kp.Ct (λz=>by cases z))⟩
 rcases hk with rfl|rfl
 .cases D with|lv h=>exact fin _ _ rfl rfl h
 .cases D with|pv h=>exact fin _ _ rfl rfl h
theorem Bd.putBack{v:V}{t:Sl}(b:Bd c Y H Z (some v::B) (.lv o::θ))(A:Y[i]?=some (some v))(hs:Z[i]?=some .un)(hk:t=.lv o\/(t=.pv o/\Y[i]?=c.σ0[i]?)):Bd c Y H (Z.set i t) B θ:=by
 obtain⟨L,b⟩:=b;have r:av c.toKx (c.g H L) H (some v::(B++Y)) (.lv o::(θ++Z)) L:=b.rel;cases r with
 |cons h r=>
  rename_i y L';obtain⟨X,L2,e1,n,k⟩:=av.split (by have:=b.lt;simpa using this) r;obtain⟨x,M1,I,u,hx,D,N,ins⟩:=k.at hs;cases D with
  |un=>
   cases h with
   |lv h=>
    rename_i p q;have fin:eV c.toKx (c.g H ((p::q)++L')) H (some (.ref p)) t (p::q)->fh c.σ0 Y (Z.set i t)->Bd c Y H (Z.set i t) B θ:=λh kp=>by
     have s:=ins (Sq.refl _) (λ_ _ _ e=>e) h;rw[zf A] at s;have pm:(X++(M1++(p::q)++u)).Perm ((p::q)++L'):=by rw[e1,N];rw[SW];intro a;simp only[S5,List.count_cons,List.count_nil];lia
     exact⟨_,b.perm pm (by have:=b.lt;simpa using this) (n.app s) kp⟩
    rcases hk with rfl|⟨rfl,hk⟩
    .exact fin (.lv h) (b.kp.Ct (λz=>by cases z))
    .refine fin (.pv h) λj o' q w=>?_;by_cases z:j=i
     .subst z;exact hk
     .rw[Rj (RO z)] at q;exact b.kp j o' q w
theorem dZ:∀(rs:List Rr)(vs:List V)(B:St),dC rs vs B=dC rs vs []++B
 |[],_,B=>rfl
 |r::rs,[],B=>rfl
 |r::rs,v::vs,B=>by show dC rs vs (cW r v B)=dC rs vs (cW r v [])++B;simp only[dZ rs vs (cW r v B),dZ rs vs (cW r v []),QN];cases r<;>rfl
theorem dW:∀(rs:List Rr)(θ:List Sl),dA rs θ=dA rs []++θ
 |[],θ=>rfl
 |r::rs,θ=>by show dA rs (cV r θ)=dA rs (cV r [])++θ;simp only[dW rs (cV r θ),dW rs (cV r []),QN];cases r<;>rfl
theorem nh.len:∀{rs:List Rr}{vs:List V},nh Y rs vs->rs.length=vs.length
 |[],[],_=>rfl
 |_::rs,_::vs,h=>by simp only[QX,QX,nh.len h.2]
 |[],_::_,h=>h.elim
 |_::_,[],h=>h.elim
theorem pA:∀(rs:List Rr)(vs:List V),rs.length=vs.length->(dC rs vs []).length=(dA rs []).length
 |[],[],_=>rfl
 |r::rs,v::vs,h=>by show (dC rs vs (cW r v [])).length=(dA rs (cV r [])).length;rw[dZ,dW,Q7,Q7,pA rs vs (by simpa using h)];cases r<;>rfl
 |[],_::_,h=>by simp at h
 |_::_,[],h=>by simp at h
noncomputable def bW:Rr->List Sl->Option (A×List Sl)
 | .fr a,Z=>some (a,Z)
 | .nw o,Z=>some (o.a,Z)
 | .rf i,Z=>match Z[i]? with
  |some (.lv o)=>some (o.a,Z.set i (.fr o.a))
  |some (.fr a)=>some (a,Z)
  |_=>none
def eH:List Rr->List Sl->Option (List A×List Sl)
 |[],Z=>some ([],Z)
 |r::rs,Z=>match bW r Z with
  |some (a,U)=>match eH rs U with
   |some (as,Z')=>some (a::as,Z')
   |none=>none
  |none=>none
theorem Bd.bW{r:Rr}{v:V}{a:A}{O:List Sl}{xs:St}{ss:List Sl}(e:xs.length=ss.length)(b:Bd c Y H Z (xs++cW r v B) (ss++cV r θ))(x:VR Y r v)(h:bW r Z=some (a,O)):Bd c Y H O (xs++some v::B) (ss++.fr a::θ):=by
 cases r with
 |fr a'=>cases h;exact b
 |nw o=>cases h;exact Bd.Nu e b
 |rf i=>
  delta M.bW at h
  cases es:Z[i]? with
  |none=>simp only[es] at h;cases h
  |some s=>
   cases s with
   |un=>simp only[es] at h;cases h
   |pv o=>simp only[es] at h;cases h
   |cf o=>simp only[es] at h;cases h
   |fr a'=>simp only[es] at h;cases h;exact Bd.GR e b x es
   |lv o=>simp only[es] at h;cases h;have b2:=Bd.uI b es;exact Bd.GR e b2 x (Q6 (QL.mp es).1)
theorem wQ{r:Rr}{as:List A}(h:eH (r::rs) Z=some (as,O)):∃a H U,bW r Z=some (a,U)/\eH rs U=some (H,O)/\as=a::H:=by
 unfold eH at h;cases e1:bW r Z with
 |none=>rw[e1] at h;cases h
 |some p=>
  obtain⟨a,U⟩:=p;rw[e1] at h;cases e2:eH rs U with
  |none=>simp only[e2] at h;cases h
  |some q=>obtain⟨H,Z'⟩:=q;simp only[e2] at h;cases h;exact⟨a,H,U,rfl,e2,rfl⟩
theorem Bd.eH:∀{rs:List Rr}{vs:List V}{as:List A}{Z O:List Sl}{B:St}{θ:List Sl},nh Y rs vs->Bd c Y H Z (dC rs vs B) (dA rs θ)->eH rs Z=some (as,O)->Bd c Y H O (vs.reverse.map some++B) (as.reverse.map Sl.fr++θ)/\vs.length=as.length
 |[],[],_,_,_,_,_,_,b,h=>by cases h;exact⟨b,rfl⟩
 |r::rs,v::vs,_,Z,O,B,θ,hv,b,h=>by obtain⟨a,as,U,e1,e2,rfl⟩:=wQ h;have b:Bd c Y H Z (dC rs vs (cW r v B)) (dA rs (cV r θ)):=b;rw[dZ,dW] at b;have b1:=Bd.bW (pA rs vs (nh.len hv.2)) b hv.1 e1;simp only[<-dZ rs vs (some v::B),<-dW rs (.fr a::θ)] at b1;obtain⟨b2,N⟩:=Bd.eH hv.2 b1 e2;exact⟨by simpa using b2,by simp[N]⟩
 |[],_::_,_,_,_,_,_,h,_,_=>h.elim
 |_ :: _,[],_,_,_,_,_,h,_,_=>h.elim
end
section
variable {X:Cx} {E:XK}
theorem uK       {D:Type} {m:Mi (List Rr)} {f:List Rr → Mi D} {o:Except Str D} {Q:List V → Hp → Prop} (u:c.toKx = kx X) (b:Bd c Y H Z B θ) (em:aY m f Z = some (o,O))
  (h1:∀rs vs U i,nh Y rs vs->Bd c Y i U (dC rs vs B) (dA rs θ)->f rs U=some (o,O)->Q vs i)
  (h2:∀e,o=.error e->∀C H,X.mg e=some (.ref C)->Bd c Y H O B θ->E (.ref C) none H):LQ (kx X) E m Y H Q:=by
 rcases bind_some em with ⟨x,U,e1,e2⟩|⟨e,e1,e2⟩
 .exact⟨c,Z,B,θ,_,U,u,b,e1,λvs i A b1=>h1 x vs U i A b1 e2⟩
 .exact⟨c,Z,B,θ,_,O,u,b,e1,λC i hm b1=>h2 e e2 C i hm b1⟩
def eJ(m:Mi (List Rr)):Mi Rr:=aY m λrs Z=>match eH rs Z with
 |some (as,O)=>if as.length<=1000 then some (.ok (.fr (.tup as)),O) else none
 |none=>none
def dj(m:Mi (List Rr)):Mi Rr:=aY m λrs Z=>match eH rs Z with
 |some (as,O)=>if as.length<=1000 then some (.ok (.nw (.lst as)),O) else none
 |none=>none
theorem uq{k:Kx}{as:List A}:∀G,bX k G vs.reverse as.reverse->bX k G vs as:=λG h=>by have:=h.rev;simpa using this
theorem sj:1000<=sizeLine:=by rw[X4];decide
theorem Jo{m:Mi (List Rr)}{x1 pos}(h:JA X E es m):JE X E (.Tuple es x1 pos) (eJ m):=⟨PE.weaken (HR h.p) λY H Q h=>by
 obtain⟨c,Z,B,θ,o,O,u,b,em,q⟩:=h;refine uK u b em (λrs vs U i A b1 e=>?_) (bY q);cases e1:eH rs U with
 |none=>rw[e1] at e;cases e
 |some p=>
  obtain⟨as,Z'⟩:=p;simp only[e1] at e;obtain⟨b2,e2⟩:=Bd.eH A b1 e1;split at e
  .rename_i hl;cases e;exact⟨by have:=sj;lia,λp hp=>q (.ref p) _ trivial (Bd.GC b2 (by simp[e2]) hp vs as uq)⟩
  .cases e⟩
theorem IK{m:Mi (List Rr)}{pos}(h:JA X E es m):JE X E (.List es pos) (dj m):=⟨PE.weaken (JQ h.p) λY H Q h=>by
 obtain⟨c,Z,B,θ,o,O,u,b,em,q⟩:=h;refine uK u b em (λrs vs U i A b1 e=>?_) (bY q);cases e1:eH rs U with
 |none=>rw[e1] at e;cases e
 |some p=>
  obtain⟨as,Z'⟩:=p;simp only[e1] at e;obtain⟨b2,e2⟩:=Bd.eH A b1 e1;split at e
  .rename_i hl;cases e;exact⟨by have:=sj;lia,λp hp=>q (.ref p) _ trivial (Bd.AI b2 (by simp[e2]) hp vs as uq)⟩
  .cases e⟩
end
inductive Fl where
 |nx|rt(s:Sl)|bk|ct|ex(c:Str)
noncomputable abbrev Ms:=List Sl->Option (Fl×List Sl)
noncomputable def aA:Nat->List Sl->List Sl
 |0,_=>[]
 |n+1,[]=>.un::aA n []
 |n+1,.pv o::Z=>.pv o::aA n Z
 |n+1,_::Z=>.un::aA n Z
def iY(K:Kx)(n:Nat)(m:Ms):Sp:=λvs H Q E=>vs.length=n/\∃(c:Cn)(Z:List Sl)(f:Fl)(O:List Sl),c.toKx=K/\c.σ0=vs.map some/\c.H0=H/\eu c (vs.map some) H Z [] [] c.Lp/\m Z=some (f,O) /\
  (match f with
   | .rt s=>∀v H',(∀o,s≠.pv o)->Bd c (vs.map some) H' (aA vs.length O) [some v] [s]->Q v H'
   | .ex x=>∀C H',K.mg x=some (.ref C)->Bd c (vs.map some) H' (aA vs.length O) [] []->E (.ref C) none H'
   | _=>False)
section
variable{k:Kx}{G H:Hp}
theorem av.back:∀{σ0 Y:St}{Z:List Sl}{L:List Addr},av k G H Y Z L->(∀(i:Nat)(o:LO),Z[i]?=some (.pv o)->i<σ0.length->Y[i]?=σ0[i]?)->∃L',L'.Sublist L/\av k G H σ0 (aA σ0.length Z) L'
 |[],_,_,_,_,_=>⟨[],List.nil_sublist _,.nil⟩
 |x::σ0,_,_,_,.nil,h=>by obtain⟨L',s,r⟩:=av.back .nil (λi o e=>by simp at e);exact⟨L',s,av.cons (.un x) r⟩
 |x::σ0,_,_,_,.cons (x:=y) (s:=s) (Z:=U) (L:=L1) (L':=L2) hs r,h=>by
  obtain⟨L',sl,r'⟩:=av.back r (λi o e hi=>by have:=h (i+1) o e (by simpa using hi);simpa using this);have fin:aA (x::σ0).length (s::U)=.un::aA σ0.length U->∃L',L'.Sublist (L1++L2)/\av k G H (x::σ0) (aA (x::σ0).length (s::U)) L':=λe=>by rw[e];exact⟨L',sl.trans (TH _ _),av.cons (.un x) r'⟩
  cases s with
  |un=>exact fin rfl
  |fr a=>exact fin rfl
  |lv o=>exact fin rfl
  |cf o=>exact fin rfl
  |pv o=>
   have e:=h 0 o rfl Z4;have e:y=x:=by simpa using e
   subst e;exact⟨L1++L',S9 (Tn _) sl,av.cons hs r'⟩
end
variable{as:List Sl}
section
variable{c:Cn}{Y:St}{H:Hp}{Z:List Sl}{B:St}{θ:List Sl}
theorem Bd.back(b:Bd c Y H Z B θ):Bd c c.σ0 H (aA c.σ0.length Z) B θ:=by
 obtain⟨L,b⟩:=b;obtain⟨q,L2,e1,n,k⟩:=av.split b.lt b.rel;obtain⟨L',sl,r⟩:=k.back (σ0:=c.σ0) (λi o e _=>b.kp i _ e rfl);have h:(q++L').Sublist L:=by rw[e1];exact S9 (Tn _) sl
 have sm:Sq (c.g H L) (c.g H (q++L')):=dJ λa f=>h.subset f;exact⟨q++L',b.nd.sublist h,(n.app r).sm sm (λ_ _ _ e=>e),λp hp=>b.own p (h.subset hp),b.fr,λi o _ _=>rfl,b.lt,b.hd⟩
noncomputable def take1:Rr->List Sl->Option (Sl×List Sl)
 | .fr a,Z=>some (.fr a,Z)
 | .nw o,Z=>some (.fr o.a,Z)
 | .rf i,Z=>match Z[i]? with
  |some (.lv o)=>some (.lv o,Z.set i .un)
  |some (.pv o)=>some (.lv o,Z.set i .un)
  |some (.fr a)=>some (.fr a,Z)
  |_=>none
def cA:List Rr->List Sl->Option (List Sl×List Sl)
 |[],Z=>some ([],Z)
 |r::rs,Z=>match take1 r Z with
  |some (a,U)=>match cA rs U with
   |some (as,Z')=>some (a::as,Z')
   |none=>none
  |none=>none
noncomputable def qv:Sl->Sl
 | .lv o=>.pv o
 |s=>s
theorem sR{r:Rr}(h:cA (r::rs) Z=some (as,O)):∃a H U,take1 r Z=some (a,U)/\cA rs U=some (H,O)/\as=a::H:=by
 unfold cA at h;cases e1:take1 r Z with
 |none=>rw[e1] at h;cases h
 |some p=>
  obtain⟨a,U⟩:=p;rw[e1] at h;cases e2:cA rs U with
  |none=>simp only[e2] at h;cases h
  |some q=>obtain⟨H,Z'⟩:=q;simp only[e2] at h;cases h;exact⟨a,H,U,rfl,e2,rfl⟩
theorem Bd.take1{r:Rr}{v:V}{a:Sl}{O:List Sl}{xs:St}{ss:List Sl}(e:xs.length=ss.length)(b:Bd c Y H Z (xs++cW r v B) (ss++cV r θ))(A:VR Y r v)(h:take1 r Z=some (a,O)):Bd c Y H O (xs++some v::B) (ss++a::θ):=by
 cases r with
 |fr a'=>cases h;exact b
 |nw o=>cases h;exact Bd.Nu e b
 |rf i=>
  delta M.take1 at h
  cases es:Z[i]? with
  |none=>simp only[es] at h;cases h
  |some s=>
   cases s with
   |un=>simp only[es] at h;cases h
   |fr a'=>simp only[es] at h;cases h;exact Bd.GR e b A es
   |lv o=>simp only[es] at h;cases h;exact Bd.IU e b A es (.inl rfl)
   |pv o=>simp only[es] at h;cases h;exact Bd.IU e b A es (.inr rfl)
   |cf o=>simp only[es] at h;cases h
theorem Bd.cA:∀{rs:List Rr}{vs:List V}{as:List Sl}{Z O:List Sl}{B:St}{θ:List Sl},nh Y rs vs->Bd c Y H Z (dC rs vs B) (dA rs θ)->cA rs Z=some (as,O)->Bd c Y H O (vs.reverse.map some++B) (as.reverse++θ)/\vs.length=as.length
 |[],[],_,_,_,_,_,_,b,h=>by cases h;exact⟨b,rfl⟩
 |r::rs,v::vs,_,Z,O,B,θ,hv,b,h=>by obtain⟨a,as,U,e1,e2,rfl⟩:=sR h;have b:Bd c Y H Z (dC rs vs (cW r v B)) (dA rs (cV r θ)):=b;rw[dZ,dW] at b;have b1:=Bd.take1 (pA rs vs (nh.len hv.2)) b hv.1 e1;simp only[<-dZ rs vs (some v::B),<-dW rs (a::θ)] at b1;obtain⟨b2,N⟩:=Bd.cA hv.2 b1 e2;exact⟨by simpa using b2,by simp[N]⟩
 |[],_::_,_,_,_,_,_,h,_,_=>h.elim
 |_::_,[],_,_,_,_,_,h,_,_=>h.elim
noncomputable def rO(S:List Sl):Rr->Sl->List Sl->Option (List Sl)
 | .rf i,s,Z=>match S[i]?,s,Z[i]? with
  |some (.lv _),.pv o,some .un=>some (Z.set i (.lv o))
  |some (.pv _),.pv o,some .un=>some (Z.set i (.pv o))
  |some (.fr _),_,_=>some Z
  |_,_,_=>none
 |_,_,Z=>some Z
def putL(S:List Sl):List Rr->List Sl->List Sl->Option (List Sl)
 |r::rs,s::ss,Z=>match putL S rs ss Z with
  |some U=>rO S r s U
  |none=>none
 |[],[],Z=>some Z
 |_,_,_=>none
end
section
variable{k:Kx}{G H:Hp}
theorem av.Ia:∀{Y:St}{Z:List Sl}{L:List Addr},av k G H Y Z L->∃L',L'.Perm L/\av k G H Y.reverse Z.reverse L'
 |_,_,_,.nil=>⟨[],.refl _,.nil⟩
 |_,_,_,.cons (L:=L1) h r=>by obtain⟨L',pm,r'⟩:=av.Ia r;refine⟨L'++(L1++[]),?_,by simp only[TL,TL];exact r'.app (av.cons h .nil)⟩;rw[RT];exact(pm.append_right L1).trans Tg
theorem av.AM:∀{Y:St}{Z:List Sl}{L:List Addr},av k G H Y Z L->∀p∈L,∀ob vs,H p=some (.frz ob vs)->False
 |_,_,_,.nil,p,hp,_,_,_=>by cases hp
 |_,_,_,.cons h r,p,hp,ob,vs,e=>by
  rcases QO.mp hp with z|z
  .cases h with
   |un=>cases z
   |fr=>cases z
   |cf=>cases z
   |lv h=>exact h.nf p z _ _ e
   |pv h=>exact h.nf p z _ _ e
  .exact r.AM p z ob vs e
theorem av.qv:∀{Y:St}{Z:List Sl}{L:List Addr},av k G H Y Z L->av k G H Y (Z.map qv) L
 |_,_,_,.nil=>.nil
 |_,_,_,.cons h r=>by
  refine av.cons ?_ (av.qv r);cases h with
  |un=>exact .un _
  |fr h=>exact .fr h
  |cf h=>exact .cf h
  |lv h=>exact .pv h
  |pv h=>exact .pv h
noncomputable def Bu:Sl->Sl
 | .pv o=>.lv o
 |s=>s
theorem av.Bu:∀{Y:St}{Z:List Sl}{L:List Addr},av k G H Y Z L->av k G H Y (Z.map Bu) L
 |_,_,_,.nil=>.nil
 |_,_,_,.cons h r=>by
  refine av.cons ?_ (av.Bu r);cases h with
  |un=>exact .un _
  |fr h=>exact .fr h
  |cf h=>exact .cf h
  |lv h=>exact .lv h
  |pv h=>exact .lv h
end
section
variable{c:Cn}{Y:St}{H:Hp}{Z:List Sl}{B:St}{θ:List Sl}
theorem Bd.enter(e:vs.length=as.length)(b:Bd c Y H Z (vs.reverse.map some++B) (as.reverse++θ)):
  ∃R:Cn,R.toKx=c.toKx/\R.σ0=vs.map some/\R.H0=H/\eu R (vs.map some) H (as.map qv) [] [] R.Lp /\
   ∀(H':Hp)(O:List Sl)(J:St)(T:List Sl),(∀s∈T,∀o,s≠.pv o)->O.length=vs.length->Bd R (vs.map some) H' O J T->Bd c Y H' Z (vs.reverse.map some++(J++B)) ((O.map Bu).reverse++(T++θ)):=by
 obtain⟨L,b⟩:=b;have r:av c.toKx (c.g H L) H (vs.reverse.map some++(B++Y)) (as.reverse++(θ++Z)) L:=by have:=b.rel;simpa[QN] using this
 obtain⟨La,v,e1,f,k⟩:=av.split (by simp[e]) r;obtain⟨Lp,pm,N⟩:=f.Ia;have N:av c.toKx (c.g H L) H (vs.map some) as Lp:=by simpa[<-Wd] using N
 have P:∀a,a∈Lp++(v++c.Hd)↔a∈L++c.Hd:=λa=>by
  rw[e1,QO,QO,QO,QO,pm.mem_iff];constructor
  .rintro(h|h|h)
   .exact .inl (.inl h)
   .exact .inl (.inr h)
   .exact .inr h
  .rintro((h|h)|h)
   .exact .inl h
   .exact .inr (.inl h)
   .exact .inr (.inr h)
 have nd:=b.nd;rw[e1] at nd;obtain⟨d,n2,C⟩:=QV.mp nd
 let R:Cn:={ toKx:=c.toKx,σ0:=vs.map some,H0:=H,Lp:=Lp,Hd:=v++c.Hd,Wk:=[] }
 have Q:∀U X L2,(∀a,a∈X++(v++c.Hd)↔a∈L2++c.Hd)->R.g U X=c.g U L2:=λU X L2 hm=>by
  funext a
  show (if a∈X++(v++c.Hd) then none else U a)=(if a∈L2++c.Hd then none else U a)
  by_cases z:a∈X++(v++c.Hd)
  .rw[Za z,Za ((hm a).mp z)]
  .rw[Zb z,Zb λy=>z ((hm a).mpr y)]
 refine⟨R,rfl,rfl,rfl,⟨(pm.nodup_iff).mpr d,?_,λp hp=>.inl hp,⟨λq o h=>⟨o,h,λ_ _=>rfl⟩,λq n=>by cases n⟩,λi o _ _=>rfl,rfl,λp hp=>?_⟩,?_⟩
 .show av c.toKx (R.g H Lp) H (vs.map some) (as.map qv) Lp;rw[Q H Lp L P];exact N.qv
 .rcases QO.mp hp with z|z
  .exact⟨k.is p z,λy=>C p (pm.mem_iff.mp y) p z rfl⟩
  .refine⟨?_,λy=>b.xZ (by rw[e1];exact QM _ (pm.mem_iff.mp y)) z⟩;obtain⟨⟨u,h1⟩,h2⟩:=b.hd p z;obtain⟨A,h3,_⟩:=b.fr.st p u h1;exact⟨A,h3⟩
 .intro H' O J T hθ hl I;obtain⟨L',I⟩:=I;obtain⟨Lt,Ls,e2,q1,q2⟩:=av.split I.lt I.rel;obtain⟨G,l,q3⟩:=q2.Bu.Ia;have lt':B.length=θ.length:=by have:=b.lt;simp[e] at this;exact id ‹_›
  obtain⟨Lτ,Lσ,e3,s1,s2⟩:=av.split lt' k;have x:∀p∈L',p∈Lp\/H p=none:=I.own;have m:∀p,p∈v->∀u,H p=some u->H' p=some u:=λp hp u h=>by obtain⟨A,h1,h2⟩:=I.fr.st p u h;have:p∉Lp:=λy=>C p (pm.mem_iff.mp y) p hp rfl;rw[h1,h2 this (λw j=>by cases j)]
  have V:∀p,p∈L'->p∉v:=λp hp y=>by
   rcases x p hp with z|z
   .exact C p (pm.mem_iff.mp z) p y rfl
   .obtain⟨u,h⟩:=k.is p y;rw[z] at h;cases h
  have D:Sq (c.g H L) (R.g H' L'):=λa u h=>by
   by_cases z:a∈L\/a∈c.Hd
   .rw[gO z] at h;cases h
   .rw[bM (λy=>z (.inl y)) (λy=>z (.inr y))] at h;have S:a∉Lp:=λy=>z (.inl (by rw[e1];exact QM _ (pm.mem_iff.mp y)));have nr:a∉v:=λy=>z (.inl (by rw[e1];exact QK _ y));obtain⟨A,h1,h2⟩:=I.fr.st a u h;refine⟨A,?_,.inl (h2 S (λw j=>by cases j))⟩;rw[bM (c:=R) (λy=>?_) (λy=>?_)]
    .exact h1
    .rcases x a y with w|w
     .exact S w
     .rw[w] at h;cases h
    .rcases QO.mp y with w|w
     .exact nr w
     .exact z (.inr w)
  have K:R.g H' L'=c.g H' (L'++v):=Q H' L' (L'++v) λa=>by simp[QO,or_assoc]
  have s3:av c.toKx (R.g H' L') H' (B++Y) (θ++Z) v:=k.sm D m;have Hi:av c.toKx (R.g H' L') H' (vs.reverse.map some++(J++B)++Y) ((O.map Bu).reverse++(T++θ)++Z) (G++(Lt++v)):=by have:=q3.app (q1.app s3);simpa[QN,<-Wd] using this
  have t:(G++(Lt++v)).Perm (L'++v):=by rw[e2];have:=l.append_right (Lt++v);refine this.trans ?_;rw[<-QN];exact Tg.append_right v
  refine⟨G++(Lt++v),(t.nodup_iff).mpr (QV.mpr ⟨I.nd,n2,λa ha b2 hb z=>V a ha (by rw[z];exact hb)⟩),?_,λp hp=>?_,⟨λq u h=>?_,λq n=>?_⟩,b.kp,?_,b.hd⟩
  .rw[EV (c:=c) (H:=H') (L':=L'++v) λa=>t.mem_iff,<-K];exact Hi
  .rcases QO.mp (t.mem_iff.mp hp) with z|z
   .rcases x p z with y|y
    .exact b.own p (by rw[e1];exact QM _ (pm.mem_iff.mp y))
    .exact .inr (b.fr.fresh y)
   .exact b.own p (by rw[e1];exact QK _ z)
  .obtain⟨u1,h1,h2⟩:=b.fr.st q u h;obtain⟨E,h3,h4⟩:=I.fr.st q u1 h1;refine⟨E,h3,λF nw=>?_⟩;rw[h4 (λy=>?_) (λw j=>by cases j),h2 F nw];rcases b.own q (by rw[e1];exact QM _ (pm.mem_iff.mp y)) with w|w
   .exact F w
   .rw[w] at h;cases h
  .obtain⟨h1,⟨ob,ws,h2⟩,h3⟩:=b.fr.pk q n;refine⟨?_,⟨ob,ws,h2⟩,h3⟩;obtain⟨E,h4,h5⟩:=I.fr.st q.1 q.2 h1;rw[h4,h5 (λy=>?_) (λw j=>by cases j)];exact N.AM q.1 y ob ws (by rw[h1,h2])
  .have:=I.lt;simp[hl];lia
end
section
variable{c:Cn}{Y:St}{H:Hp}{Z:List Sl}{B:St}{θ:List Sl}
theorem Bd.rO{S O:List Sl}{r:Rr}{s:Sl}{v:V}(kp:fh c.σ0 Y S)(A:VR Y r v)(b:Bd c Y H Z (some v::B) (Bu s::θ))(h:rO S r s Z=some O):Bd c Y H O B θ:=by
 cases r with
 |fr a=>cases h;exact b.pop
 |nw o=>cases h;exact b.pop
 |rf i=>
  delta M.rO at h
  dsimp only at h
  cases I:S[i]? with
  |none=>rw[I] at h;cases h
  |some w=>
   rw[I] at h;cases w with
   |un=>cases h
   |fr a=>cases h;exact b.pop
   |cf a=>cases h
   |lv x=>
    cases s with
    |pv o=>
     cases e1:Z[i]? with
     |none=>rw[e1] at h;cases h
     |some s1=>
      rw[e1] at h;cases s1 with
      |un=>cases h;exact Bd.putBack b A e1 (.inl rfl)
      |_=>exact cF h
    |_=>exact cF h
   |pv x=>
    cases s with
    |pv o=>
     cases e1:Z[i]? with
     |none=>rw[e1] at h;cases h
     |some s1=>
      rw[e1] at h;cases s1 with
      |un=>cases h;exact Bd.putBack b A e1 (.inr ⟨rfl,kp i _ I rfl⟩)
      |_=>exact cF h
    |_=>exact cF h
theorem Bd.putL{S:List Sl}(kp:fh c.σ0 Y S):∀{rs:List Rr}{vs:List V}{ss:List Sl}{Z O:List Sl}{B:St}{θ:List Sl},nh Y rs vs->Bd c Y H Z (vs.reverse.map some++B) ((ss.map Bu).reverse++θ)->M.putL S rs ss Z=some O->Bd c Y H O B θ
 |[],[],[],_,_,_,_,_,b,h=>by cases h;exact b
 |r::rs,v::vs,s::ss,Z,O,B,θ,hv,b,h=>by
  unfold M.putL at h;cases e:M.putL S rs ss Z with
  |none=>rw[e] at h;cases h
  |some U=>
   rw[e] at h;have b1:Bd c Y H Z (vs.reverse.map some++(some v::B)) ((ss.map Bu).reverse++(Bu s::θ)):=by simpa[QN] using b
   exact Bd.rO kp hv.1 (Bd.putL kp hv.2 b1 e) h
 |[],_::_,_,_,_,_,_,h,_,_=>h.elim
 |_::_,[],_,_,_,_,_,h,_,_=>h.elim
 |[],[],_::_,_,_,_,_,_,_,h=>by cases h
 |_::_,_::_,[],_,_,_,_,_,_,h=>by cases h
theorem cS:∀(n:Nat)(Z:List Sl),(aA n Z).length=n
 |0,_=>rfl
 |n+1,[]=>by show (Sl.un::aA n []).length=_;rw[QX,cS n []]
 |n+1,s::Z=>by cases s<;>(show (_::aA n Z).length=_;simp only[QX,cS n Z])
theorem nh.app:∀{rs qs:List Rr}{vs us:List V},nh Y rs vs->nh Y qs us->nh Y (rs++qs) (vs++us)
 |[],_,[],_,_,h=>h
 |_::rs,_,_::vs,_,h1,h2=>⟨h1.1,nh.app h1.2 h2⟩
 |[],_,_::_,_,h,_=>h.elim
 |_::_,_,[],_,h,_=>h.elim
theorem nh.lA:∀{I:List A}{dvs:List V},I.length=dvs.length->nh Y (I.map Rr.fr) dvs
 |[],[],_=>trivial
 |_::I,_::dvs,h=>⟨trivial,nh.lA (by simpa using h)⟩
 |[],_::_,h=>by simp at h
 |_::_,[],h=>by simp at h
theorem mw:∀{rs:List Rr}{vs:List V}(qs:List Rr)(us:List V)(B:St),rs.length=vs.length->dC (rs++qs) (vs++us) B=dC qs us (dC rs vs B)
 |[],[],_,_,_,_=>rfl
 |r::rs,v::vs,qs,us,B,h=>mw qs us (cW r v B) (by simpa using h)
 |[],_::_,_,_,_,h=>by simp at h
 |_::_,[],_,_,_,h=>by simp at h
theorem kq:∀(rs qs:List Rr)(θ:List Sl),dA (rs++qs) θ=dA qs (dA rs θ)
 |[],_,_=>rfl
 |r::rs,qs,θ=>kq rs qs (cV r θ)
theorem Bd.tR:∀{I:List A}{dvs:List V}{B:St}{θ:List Sl},(∀G,bX c.toKx G dvs I)->Bd c Y H Z B θ->Bd c Y H Z (dC (I.map Rr.fr) dvs B) (dA (I.map Rr.fr) θ)
 |[],[],_,_,_,b=>b
 |a::I,v::dvs,_,_,h,b=>Bd.tR (dvs:=dvs) (λG=>by cases h G;assumption) (Bd.push b λG=>by cases h G;assumption)
 |[],_::_,_,_,h,_=>by cases h (λ_=>none)
 |_::_,[],_,_,h,_=>by cases h (λ_=>none)
end
noncomputable def pM:Sl->Option Rr
 | .fr a=>some (.fr a)
 | .lv o=>some (.nw o)
 |_=>none
def ba(f:Ms)(I:List A)(ma:Mi (List Rr)):Mi Rr:=aY ma λrs Z=>match cA (rs++I.map Rr.fr) Z with
 |some (as,T)=>match f (as.map qv) with
  |some (.rt s,U)=>match pM s,putL Z (rs++I.map Rr.fr) (aA as.length U) T with
   |some r,some O=>some (.ok r,O)
   |_,_=>none
  |some (.ex x,U)=>match putL Z (rs++I.map Rr.fr) (aA as.length U) T with
   |some O=>some (.error x,O)
   |none=>none
  |_=>none
 |none=>none
variable{dvs:List V}{CX:qA}{f:Addr}{fd:XQ}{ps:List Str}
section
variable{X:Cx}{E:XK}
theorem ke{m:Ms}{n:Nat}{I:List A}(hd:∀G,bX (kx X) G dvs I){o:Except Str Rr}(u:c.toKx=kx X)(hn:(vs++dvs).length=n)
  (j:nh Y rs vs)(b:Bd c Y H Z (dC rs vs B) (dA rs θ)) (em:(match cA (rs++I.map Rr.fr) Z with
 |some (as,T)=>match m (as.map qv) with
  |some (.rt s,U)=>match pM s,putL Z (rs++I.map Rr.fr) (aA as.length U) T with
   |some r,some O=>some (.ok r,O)
   |_,_=>none
  |some (.ex x,U)=>match putL Z (rs++I.map Rr.fr) (aA as.length U) T with
   |some O=>some (.error x,O)
   |none=>none
  |_=>none
 | none=>none)=some (o,O)) (g:∀r,o=.ok r->∀v H',VR Y r v->Bd c Y H' O (cW r v B) (cV r θ)->Q v H') (S:∀x,o=.error x->∀C H',X.mg x=some (.ref C)->Bd c Y H' O B θ->E (.ref C) none H'):iY (kx X) n m (vs++dvs) H Q E:=by
 refine⟨hn,?_⟩;cases e1:cA (rs++I.map Rr.fr) Z with
 |none=>rw[e1] at em;cases em
 |some p=>
  obtain⟨as,T⟩:=p;rw[e1] at em;have ld:=(hd λ_=>none).len.symm;have h:=j.app (nh.lA ld);have b2:Bd c Y H Z (dC (rs++I.map Rr.fr) (vs++dvs) B) (dA (rs++I.map Rr.fr) θ):=by simp only[mw _ _ _ j.len,kq];exact Bd.tR (by rw[u];exact hd) b
  obtain⟨J,N⟩:=Bd.cA h b2 e1;obtain⟨R,q,F,e,i,l⟩:=Bd.enter N J;have kp:fh c.σ0 Y Z:=by obtain⟨L,b⟩:=b;exact b.kp
  cases P:m (as.map qv) with
  |none=>simp only[P] at em;cases em
  |some p=>
   obtain⟨f,U⟩:=p;simp only[P] at em;refine⟨R,_,f,U,q.trans u,F,e,i,P,?_⟩;cases f with
   |nx=>cases em
   |bk=>cases em
   |ct=>cases em
   |rt s=>
    cases D:pM s with
    |none=>simp only[D] at em;cases em
    |some r=>
     cases y:putL Z (rs++I.map Rr.fr) (aA as.length U) T with
     |none=>simp only[D,y] at em;cases em
     |some Z'=>
      simp only[D,y] at em;cases em;intro v H' hs V;have t:=l H' _ _ _ (λs' w o z=>by rw[Rc.mp w] at z;exact hs o z) (cS _ _) V;rw[N] at t;have K:=Bd.putL kp h t y;cases s with
      |fr a=>cases D;exact g _ rfl v H' trivial K
      |lv o=>cases D;exact g _ rfl v H' trivial K
      |_=>exact cF D
   |ex x=>
    cases y:putL Z (rs++I.map Rr.fr) (aA as.length U) T with
    |none=>simp only[y] at em;cases em
    |some Z'=>simp only[y] at em;cases em;intro C H' hm V;have t:=l H' _ _ _ (λs' w=>by cases w) (cS _ _) V;rw[N] at t;exact S x rfl C H' hm (Bd.putL kp h t y)
theorem Eh{k n:Nat}{m:Ms}{I:List A}{ds:List Value}{x:Str}{p:Pos}{ma:Mi (List Rr)}(F:dP X.prog X.w X.K X.mg X.base CX k f fd ps (iY (kx X) n m))(hr:dd k X.A)(hg:Gl X x)
  (hm:X.mg x=some (.ref f))(hk:Se X.K (.ref f)=true)(hb:Binds X.K fd ps ds)(hd:Vals dvs ds)(hda:∀G,bX (kx X) G dvs I)(hx:Passes CX X E)(ha:JA X E (e::es) ma)(hn:∀Z rs O,ma Z=some (.ok rs,O)->rs.length+I.length=n)(hdb:fM x)
  (he:XB (e::es) X.env=(false,eval e X.env)::XB es X.env:=by rfl)(hpl:(XI pos (XB es X.env)).any (·.1)=false:=by rfl):JE X E (.Call (.Name x p) (e::es) [] pos) (ba m I ma):=
 ⟨PE.weaken (Ep F hr hg hm hk hb hd hx ha.p hdb he hpl) λY H Q h=>by
  obtain⟨c,Z,B,θ,o,O,ek,b,em,q⟩:=h;rcases bind_some em with ⟨rs,U,e1,e2⟩|⟨e,e1,e2⟩
  .refine⟨c,Z,B,θ,_,U,ek,b,e1,λvs H1 hv b1=>?_⟩;refine ke hda ek ?_ hv b1 e2 (λr hr v H' hv b=>by subst hr;exact q v H' hv b) (λx hx=>by subst hx;exact q);rw[Q7,<-hv.len,<-hn Z rs U e1,(hda λ_=>none).len]
  .subst e2;exact⟨c,Z,B,θ,_,O,ek,b,e1,λC H1 hm b1=>q C H1 hm b1⟩⟩
theorem AQ:∀Z rs O,kS Z=some (.ok rs,O)->rs.length=0:=λZ rs O h=>by cases h;rfl
theorem vk{m:Mi Rr}{ma:Mi (List Rr)}{n:Nat}(h:∀Z rs O,ma Z=some (.ok rs,O)->rs.length=n):∀Z rs O,dt m ma Z=some (.ok rs,O)->rs.length=n+1:=λZ rs O e=>by
 rcases bind_some e with ⟨r,U,e1,e2⟩|⟨_,_,e2⟩
 .rcases bind_some e2 with ⟨rs',Z',N,v⟩|⟨_,_,v⟩
  .cases v;simp only[QX,h _ _ _ N]
  .cases v
 .cases e2
theorem Gz{ma:Mi (List Rr)}{n d N:Nat}(h:∀Z rs O,ma Z=some (.ok rs,O)->rs.length=n)(e:n+d=N):∀Z rs O,ma Z=some (.ok rs,O)->rs.length+d=N:=λZ rs O q=>by rw[h Z rs O q];exact e
def Ka(K:Kx)(E:XK)(c:Cn)(Z:List Sl)(B:St)(θ:List A)(D:Ends):Fl->Prop
 | .nx=>∀Y H,Bd c Y H Z B (θ.map Sl.fr)->D.nx Y H
 | .rt s=>∀v Y H,(∀o,s≠.pv o)->Bd c Y H Z (some v::B) (s::θ.map Sl.fr)->D.rt v H
 | .bk=>∀Y H,Bd c Y H Z B (θ.map Sl.fr)->D.bk Y H
 | .ct=>∀Y H,Bd c Y H Z B (θ.map Sl.fr)->D.ct Y H
 | .ex x=>∀C Y H,K.mg x=some (.ref C)->Bd c Y H Z B (θ.map Sl.fr)->E (.ref C) none H
inductive Km(K:Kx)(E:XK)(m:Ms)(D:Ends)(Y:St)(H:Hp):Prop
 |mk(c:Cn)(Z:List Sl)(B:St)(θ:List A)(f:Fl)(O:List Sl)(h1:c.toKx=K)(h2:Bd c Y H Z B (θ.map Sl.fr))(h3:m Z=some (f,O))(h4:Ka K E c O B θ D f)
structure JS(X:Cx)(E:XK)(s:Stmt)(m:Ms):Prop where
 p:PS X s (Km (kx X) E m)
structure qM(X:Cx)(E:XK)(s:List Stmt)(m:Ms):Prop where
 p:rj X s (Km (kx X) E m)
theorem PS.weaken{e:Stmt}{t t':TS}(h:PS X e t)(f:∀D Y H,t' D Y H->t D Y H):PS X e t':=λpins s Y H D I q=>h pins s Y H D I (f D Y H q)
theorem rj.weaken{e:List Stmt}{t t':TS}(h:rj X e t)(f:∀D Y H,t' D Y H->t D Y H):rj X e t':=λpins s Y H D I q=>h pins s Y H D I (f D Y H q)
noncomputable def cy:Ms:=λZ=>some (.nx,Z)
noncomputable def ao(m n:Ms):Ms:=λZ=>match m Z with
 |some (.nx,U)=>n U
 |r=>r
theorem vG:qM X E [] cy:=⟨rj.weaken D8 λD Y H h=>by obtain⟨c,Z,B,θ,f,O,u,b,em,q⟩:=h;cases em;exact q Y H b⟩
theorem uZ{s:Stmt}{m:Ms}(h:JS X E s m):qM X E [s] m:=⟨DQ h.p⟩
theorem rX{s:Stmt}{r:List Stmt}{m n:Ms}(h:JS X E s m)(h':qM X E r n):qM X E (s::r) (ao m n):=⟨rj.weaken (mO h.p h'.p) λD Y H h=>by
 obtain⟨c,Z,B,θ,f,O,u,b,em,q⟩:=h
 delta ao at em
 cases e:m Z with
 |none=>rw[e] at em;cases em
 |some p=>
  obtain⟨t,U⟩:=p;rw[e] at em;refine⟨c,Z,B,θ,t,U,u,b,e,?_⟩;cases t with
  |nx=>exact λj H' I=>⟨c,U,B,θ,f,O,u,I,em,q⟩
  |rt s=>cases em;exact q
  |bk=>cases em;exact q
  |ct=>cases em;exact q
  | ex x=>cases em;exact q⟩
noncomputable def dq{α:Type}(m:Mi α)(f:α->Ms):Ms:=λZ=>match m Z with
 |some (.ok x,U)=>f x U
 |some (.error e,U)=>some (.ex e,U)
 |none=>none
theorem fC{m:Mi α}{f:α->Ms}{o:Fl}(h:dq m f Z=some (o,O)):(∃x U,m Z=some (.ok x,U)/\f x U=some (o,O))\/∃e,m Z=some (.error e,O)/\o=.ex e:=by
 delta dq at h
 cases e:m Z with
 |none=>rw[e] at h;cases h
 |some p=>
  obtain⟨r,U⟩:=p;cases r with
  |ok x=>rw[e] at h;exact .inl ⟨x,U,rfl,h⟩
  |error x=>simp only[e] at h;cases h;exact .inr ⟨x,rfl,rfl⟩
theorem d6{θ:List A}{m:Mi Rr}{f:Rr->Ms}{o:Fl}{D:Ends}(u:c.toKx=kx X)(b:Bd c Y H Z B (θ.map Sl.fr))(em:dq m f Z=some (o,O))(q:Ka (kx X) E c O B θ D o)
  (h1:∀x v U i,VR Y x v->Bd c Y i U (cW x v B) (cV x (θ.map Sl.fr))->f x U=some (o,O)->Q v i):kO (kx X) E m Y H Q:=by
 rcases fC em with ⟨x,U,e1,e2⟩|⟨e,e1,e2⟩
 .exact⟨c,Z,B,_,_,U,u,b,e1,λv i t b1=>h1 x v U i t b1 e2⟩
 .subst e2;exact⟨c,Z,B,_,_,O,u,b,e1,λC i hm b1=>q C Y i hm b1⟩
theorem Di{θ:List A}{m:Mi Bool}{f:Bool->Ms}{o:Fl}{Q:Bool->Hp->Prop}{D:Ends}(u:c.toKx=kx X)(b:Bd c Y H Z B (θ.map Sl.fr))(em:dq m f Z=some (o,O))(q:Ka (kx X) E c O B θ D o)
  (h1:∀k U i,Bd c Y i U B (θ.map Sl.fr)->f k U=some (o,O)->Q k i):Dv (kx X) E m Y H Q:=by
 rcases fC em with ⟨x,U,e1,e2⟩|⟨e,e1,e2⟩
 .exact⟨c,Z,B,_,_,U,u,b,e1,λi b1=>h1 x U i b1 e2⟩
 .subst e2;exact⟨c,Z,B,_,_,O,u,b,e1,λC i hm b1=>q C Y i hm b1⟩
def c9(m:Mi Rr):Ms:=dq m λ_ Z=>some (.nx,Z)
theorem DV{m:Mi Rr}(h:JE X E e m)(hs:XX e none pos.line X.env=pure false:=by rfl):JS X E (.Expr e pos) (c9 m):=⟨PS.weaken (Ei h.p hs) λD Y H h=>by obtain⟨c,Z,B,θ,f,O,ek,b,em,q⟩:=h;refine d6 ek b em q λx v U H1 hv b1 em1=>?_;cases em1;exact q Y H1 b1.drop⟩
def i7(t:Mi Bool)(m n:Ms):Ms:=dq t λb=>if b then m else n
theorem NM{t:Expr}{a b:List Stmt}{m n:Ms}(l:JT X E t mt)(V:qM X E a m)(d:qM X E b n):JS X E (.If t a b pos) (i7 mt m n):=⟨PS.weaken (MS l.p V.p d.p) λD Y H h=>by
 obtain⟨c,Z,B,θ,f,O,u,b,em,q⟩:=h;refine Di u b em q λk U i b1 e=>?_;cases k with
 |true=>rw[Za rfl];exact⟨c,U,B,θ,f,O,u,b1,e,q⟩
 | false=>rw[Zb Z2];exact⟨c,U,B,θ,f,O,u,b1,e,q⟩⟩
noncomputable def G3:Rr->List Sl->Option (Sl×List Sl)
 | .fr a,Z=>some (.fr a,Z)
 | .nw o,Z=>some (.lv o,Z)
 | .rf i,Z=>match Z[i]? with
  |some (.lv o)=>some (.lv o,Z.set i .un)
  |_=>none
def bZ(m:Mi Rr):Ms:=dq m λr Z=>match G3 r Z with
 |some (s,O)=>some (.rt s,O)
 |none=>none
theorem Jl{m:Mi Rr}(h:JE X E e m):JS X E (.Return (some e) pos) (bZ m):=⟨PS.weaken (Jd h.p) λD Y H h=>by
 obtain⟨c,Z,B,θ,f,O,u,b,em,q⟩:=h;refine d6 u b em q λx v U y A b1 r=>?_;cases x with
 |fr a=>cases r;exact q v Y y (λo z=>by cases z) b1
 |nw o=>cases r;exact q v Y y (λo z=>by cases z) b1
 |rf i=>
  delta G3 at r
  cases es:U[i]? with
  |none=>simp only[es] at r;cases r
  |some s=>
   cases s with
   |lv o=>simp only[es] at r;cases r;exact q v Y y (λo z=>by cases z) (Bd.IU (xs:=[]) (ss:=[]) rfl b1 A es (.inl rfl))
   | _=>simp only[es] at r;cases r⟩
noncomputable def Gh:Ms:=λZ=>some (.rt (.fr .non),Z)
theorem D3:JS X E (.Return none pos) Gh:=⟨PS.weaken Dy λD Y H h=>by obtain⟨c,Z,B,θ,f,O,u,b,em,q⟩:=h;cases em;exact q .non Y H (λo z=>by cases z) (b.push λ_=>.non)⟩
def xW:Rr->List Sl->Option (Sl×List Sl)
 | .fr a,Z=>some (.fr a,Z)
 | .nw o,Z=>some (.lv o,Z)
 | .rf i,Z=>match bW (.rf i) Z with
  |some (a,O)=>some (.fr a,O)
  |none=>none
noncomputable def put(i:Nat)(s:Sl)(Z:List Sl):Option (List Sl):=match Z[i]? with
 |some (.pv _)=>none
 |some _=>some (Z.set i s)
 |none=>none
theorem Bd.put{c:Cn}{Y:St}{H:Hp}{Z O:List Sl}{B:St}{θ:List Sl}{i:Nat}{v:V}{t:Sl}(b:Bd c Y H Z (some v::B) (t::θ))(l:cst t=false)(h:put i t Z=some O):Bd c (Y.set i (some v)) H O B θ:=by
 delta M.put at h
 cases es:Z[i]? with
 |none=>rw[es] at h;cases h
 |some s=>
  cases s with
  |pv o=>rw[es] at h;cases h
  |un=>rw[es] at h;cases h;exact b.store es (λo z=>by cases z) l
  |fr a=>rw[es] at h;cases h;exact b.store es (λo z=>by cases z) l
  |lv o=>rw[es] at h;cases h;exact b.store es (λo z=>by cases z) l
  |cf o=>rw[es] at h;cases h;exact b.store es (λo z=>by cases z) l
theorem Bd.xW{c:Cn}{Y:St}{H:Hp}{Z O:List Sl}{B:St}{θ:List Sl}{r:Rr}{v:V}{t:Sl}(A:VR Y r v)(b:Bd c Y H Z (cW r v B) (cV r θ))(h:xW r Z=some (t,O)):Bd c Y H O (some v::B) (t::θ)/\cst t=false:=by
 cases r with
 |fr a=>cases h;exact⟨b,rfl⟩
 |nw o=>cases h;exact⟨b,rfl⟩
 |rf i=>
  delta M.xW at h
  cases e:M.bW (.rf i) Z with
  |none=>simp only[e] at h;cases h
  |some p=>simp only[e] at h;cases h;exact⟨Bd.bW (xs:=[]) (ss:=[]) rfl b A e,rfl⟩
def aE(i:Nat)(m:Mi Rr):Ms:=dq m λr Z=>match xW r Z with
 |some (t,U)=>match put i t U with
  |some Z'=>some (.nx,Z')
  |none=>none
 |none=>none
theorem AY{x:Str}{m:Mi Rr}{pos':Pos}(hN:X.N.Nodup)(hi:X.N[i]?=some x)(hx:Loc X.env.scope x)(he:JE X E e m)(hs:XX e (some (.Name x pos')) pos.line X.env=pure false:=by rfl)
  (hf:X.fn x=true\/X.env.scope.names.lookup x=some .local:=by first|exact .inl rfl|exact .inr rfl|assumption):JS X E (.Assign [.Name x pos'] e pos) (aE i m):=⟨PS.weaken (J6 hN hi hx he.p hs hf) λD Y H h=>by
 obtain⟨c,Z,B,θ,f,O,ek,b,em,q⟩:=h;refine d6 ek b em q λr v U H1 hv b1 em1=>?_;cases e1:xW r U with
 |none=>rw[e1] at em1;cases em1
 |some p=>
  obtain⟨t,Z'⟩:=p;rw[e1] at em1;obtain⟨b2,ht⟩:=Bd.xW hv b1 e1;cases e2:put i t Z' with
  |none=>simp only[e2] at em1;cases em1
  | some Z0=>simp only[e2] at em1;cases em1;exact q _ H1 (Bd.put b2 ht e2)⟩
noncomputable def cG(loc:Nat)(m:Ms):Ms:=λZ=>match m (Z++QZ loc .un) with
 |some (.nx,O)=>some (.rt (.fr .non),O)
 |some (.rt s,O)=>some (.rt s,O)
 |some (.ex x,O)=>some (.ex x,O)
 |_=>none
theorem mY{k:Kx}{G H:Hp}:∀n,av k G H (QZ n none) (QZ n Sl.un) []
 |0=>.nil
 |n+1=>av.cons (.un _) (mY n)
theorem eu.start{c:Cn}{vs:List V}{H:Hp}{Z:List Sl}(N:List Str)(b:eu c (vs.map some) H Z [] [] c.Lp)(e:c.σ0=vs.map some):Bd c (start N vs) H (Z++QZ (N.length-vs.length) .un) [] []:=by
 have hl:vs.length=Z.length:=by have:=b.rel.len;simpa using this
 refine⟨c.Lp,b.nd,?_,b.own,b.fr,λi o h w=>?_,rfl,b.hd⟩
 .have:=b.rel.app (mY (N.length-vs.length));simpa[L2.start] using this
 .have hi:i<Z.length:=by
   by_cases z:i<Z.length
   .exact z
   .rw[RG (by exact Ul.mp ‹_›)] at h;have:=RD h;have:=TY this;subst this;cases w
  delta L2.start
  rw[RV (by simp;lia),e]
end
variable{r':R2}{K:Kx}
section
variable{X:Cx}{E:XK}
theorem iU.or'{f:Value->Value->Sem Value}(h:iU X f r)(h':iU X f r'):iU X f (λx y H Q=>r x y H Q\/r' x y H Q):=by
 intro pins s Y H x y v u Q I K z q;rcases q with q|q
 .exact h pins s Y H x y v u Q I K z q
 .exact h' pins s Y H x y v u Q I K z q
noncomputable def N9(f g:A->A->Option Rr):A->A->Option Rr:=λa b=>match f a b with
 |some r=>some r
 |none=>g a b
theorem jf.or{f g:A->A->Option Rr}(h:jf K r f)(h':jf K r' g):jf K (λx y H Q=>r x y H Q\/r' x y H Q) (N9 f g):=by
 intro c Y H Z B θ x y v w a b q Q u t O bd e1 e2 N k
 delta N9 at N
 cases e:f a b with
 |some z=>rw[e] at N;cases N;exact .inl (h c Y H Z B θ x y v w a b _ Q u t O bd e1 e2 e k)
 |none=>rw[e] at N;exact .inr (h' c Y H Z B θ x y v w a b _ Q u t O bd e1 e2 N k)
theorem jf.scalar{f:A->A->Option Rr}(h:∀H v w a b q,RA K H v a->RA K H w b->f a b=some q->∃u d,q=.fr d/\(∀G,RA K G u d)/\∀Q:VK,Q u H->r v w H Q):jf K r f:=by intro c Y H Z B θ x y v w a b q Q o t O bd e1 e2 N k;have s:=Bd.rd bd O e2;have n:=Bd.rd bd.drop t e1;rw[o] at n s;obtain⟨u,d,rfl,g,R⟩:=h H v w a b q n s N;exact R Q (k u H trivial (Bd.push bd.drop.drop (by rw[o];exact g)))
noncomputable def fits(n:Nat)(i:Int):Bool:=decide (i.natAbs<2^n)
theorem pC{n:Nat}{i:Int}(h:fits n i=true):L2.Bd n i:=show i.natAbs<2^n from Zg h
theorem iB{n m:Nat}{i:Int}(h:L2.Bd m i)(k:m<=n):fits n i=true:=Zd (h.mono k)
noncomputable def n6(f:Int->Int->Option Rr):A->A->Option Rr
 | .int i,.int j=>f i j
 |_,_=>none
theorem cY{f:Int->Int->Option Rr}{a b:A}{q:Rr}(h:n6 f a b=some q):∃i j,a=.int i/\b=.int j/\f i j=some q:=by
 cases a with
 |int=>cases b with
  |int=>exact⟨_,_,rfl,rfl,h⟩
  |_=>exact cF h
 |_=>exact cF h
def Gf:A->A->Option Rr:=n6 λi j=>some (.fr (.int (i+j)))
def fE:A->A->Option Rr:=n6 λi j=>some (.fr (.int (i-j)))
def bz:A->A->Option Rr:=n6 λi j=>if fits 20000 i&&fits 20000 j then some (.fr (.int (i*j))) else none
def iI:A->A->Option Rr:=n6 λi j=>if j != 0&&fits 9000 j then some (.fr (.int (i.fdiv j))) else none
def kW:A->A->Option Rr:=n6 λi j=>if j != 0 then some (.fr (.int (i.fmod j))) else none
def nF:A->A->Option Rr:=n6 λi j=>if 0<=j/\j<=1000000/\i.natAbs<2^64 then some (.fr (.int (i^j.toNat))) else none
def k9:A->A->Option Rr:=n6 λi j=>some (.fr (.bl (decide (i<j))))
def sd:A->A->Option Rr:=n6 λi j=>some (.fr (.bl (decide (j<i))))
def E6:A->A->Option Rr:=n6 λi j=>some (.fr (.bl (decide (j<=i))))
theorem CY:jf K (yc λi j=>.int (i+j)) Gf:=.scalar λH v w a b q n o h=>by
 replace h:=cY h
 obtain⟨i,j,rfl,rfl,h⟩:=h
 cases n;cases o;cases h
 exact⟨_,_,rfl,λ_=>.int _,λQ k=>⟨_,_,rfl,rfl,k⟩⟩
theorem J5:jf K (yc λi j=>.int (i-j)) fE:=.scalar λH v w a b q n o h=>by
 replace h:=cY h
 obtain⟨i,j,rfl,rfl,h⟩:=h
 cases n;cases o;cases h
 exact⟨_,_,rfl,λ_=>.int _,λQ k=>⟨_,_,rfl,rfl,k⟩⟩
theorem EI:jf K (rI Y9 λi j=>.int (i*j)) bz:=.scalar λH v w a b q n o h=>by
 replace h:=cY h
 obtain⟨i,j,rfl,rfl,h⟩:=h
 cases n;cases o
 split at h
 .rename_i hc
  simp only[QI] at hc
  cases h
  exact⟨_,_,rfl,λ_=>.int _,λQ k=>⟨_,_,rfl,rfl,(pC hc.1).LB (pC hc.2) Z2,k⟩⟩
 .cases h
theorem GA:jf K (rI Pp λi j=>.int (i.fdiv j)) iI:=.scalar λH v w a b q n o h=>by
 replace h:=cY h
 obtain⟨i,j,rfl,rfl,h⟩:=h
 cases n;cases o
 split at h
 .rename_i hc
  simp only[QI] at hc
  cases h
  exact⟨_,_,rfl,λ_=>.int _,λQ k=>⟨_,_,rfl,rfl,⟨by simpa using hc.1,pC hc.2⟩,k⟩⟩
 .cases h
theorem JY:jf K (rI (λ_ j=>j≠0) λi j=>.int (i.fmod j)) kW:=.scalar λH v w a b q n o h=>by
 replace h:=cY h
 obtain⟨i,j,rfl,rfl,h⟩:=h
 cases n;cases o
 split at h
 .rename_i hc
  cases h
  exact⟨_,_,rfl,λ_=>.int _,λQ k=>⟨_,_,rfl,rfl,by simpa using hc,k⟩⟩
 .cases h
theorem Gs:jf K (rI MR λi j=>.int (i^j.toNat)) nF:=.scalar λH v w a b q n o h=>by
 replace h:=cY h
 obtain⟨i,j,rfl,rfl,h⟩:=h
 cases n;cases o
 split at h
 .rename_i hc
  cases h
  exact⟨_,_,rfl,λ_=>.int _,λQ k=>⟨_,_,rfl,rfl,hc,k⟩⟩
 .cases h
theorem FW:jf K (yc λi j=>.bl (decide (i<j))) k9:=.scalar λH v w a b q n o h=>by
 replace h:=cY h
 obtain⟨i,j,rfl,rfl,h⟩:=h
 cases n;cases o;cases h
 exact⟨_,_,rfl,λ_=>.bl _,λQ k=>⟨_,_,rfl,rfl,k⟩⟩
theorem E8:jf K (yc λi j=>.bl (decide (j<i))) sd:=.scalar λH v w a b q n o h=>by
 replace h:=cY h
 obtain⟨i,j,rfl,rfl,h⟩:=h
 cases n;cases o;cases h
 exact⟨_,_,rfl,λ_=>.bl _,λQ k=>⟨_,_,rfl,rfl,k⟩⟩
theorem E9:jf K (yc λi j=>.bl (decide (j<=i))) E6:=.scalar λH v w a b q n o h=>by
 replace h:=cY h
 obtain⟨i,j,rfl,rfl,h⟩:=h
 cases n;cases o;cases h
 exact⟨_,_,rfl,λ_=>.bl _,λQ k=>⟨_,_,rfl,rfl,k⟩⟩
mutual
noncomputable def toD:A->Option D
 | .non=>some .non
 | .bl b=>some (.bl b)
 | .int i=>some (.int i)
 | .str x=>some (.str x)
 | .tup xs=>match kT xs with
  |some ds=>some (.tup ds)
  |none=>none
 | .lst xs=>match kT xs with
  |some ds=>some (.lst ds)
  |none=>none
 | .dic _=>none
 | .exc _=>none
 | .obj _ _=>none
 | .dit _=>none
 | .opq=>none
noncomputable def kT:List A->Option (List D)
 |[]=>some []
 |a::as=>match toD a,kT as with
  |some d,some ds=>some (d::ds)
  |_,_=>none
end
mutual
theorem nc{K:Kx}{H:Hp}:∀{v:V}{a:A}{d:D},RA K H v a->toD a=some d->Den K.K H v d
 |_,_,_,.non,h=>by rw[toD] at h;cases h;exact .non
 |_,_,_,.bl b,h=>by rw[toD] at h;cases h;exact .bl _
 |_,_,_,.int i,h=>by rw[toD] at h;cases h;exact .int _
 |_,_,_,.str x,h=>by rw[toD] at h;cases h;exact .str _
 |_,_,_,.tup (as:=as) e r,h=>by
  rw[toD] at h;cases q:kT as with
  |none=>simp only[q] at h;cases h
  |some ds=>simp only[q] at h;cases h;exact .tup e (pT r q)
 |_,_,_,.lst (as:=as) e r,h=>by
  rw[toD] at h;cases q:kT as with
  |none=>simp only[q] at h;cases h
  |some ds=>simp only[q] at h;cases h;exact .lst e (pT r q)
 |_,_,_,.dic e r,h=>by rw[toD] at h;cases h
 |_,_,_,.exc e m,h=>by rw[toD] at h;cases h
 |_,_,_,.obj e m r,h=>by rw[toD] at h;cases h
 |_,_,_,.dit e r,h=>by rw[toD] at h;cases h
 |_,_,_,.opq,h=>by rw[toD] at h;cases h
theorem pT{K:Kx}{H:Hp}:∀{vs:List V}{as:List A}{ds:List D},bX K H vs as->kT as=some ds->f9 K.K H vs ds
 |_,_,_,.nil,h=>by rw[kT] at h;cases h;exact .nil
 |_,_,_,.cons (a:=a) (as:=as) q r,h=>by
  rw[kT] at h;cases e1:toD a with
  |none=>simp only[e1] at h;cases h
  |some d=>
   cases e2:kT as with
   |none=>simp only[e1,e2] at h;cases h
   |some ds=>simp only[e1,e2] at h;cases h;exact .cons (nc q e1) (pT r e2)
end
def tI(a b:A):Option Bool:=match toD a,toD b with
 |some d,some e=>if D.depth d<=40 then some (D.eq d e) else none
 |_,_=>none
def gw(a b:A):Option Rr:=match tI a b with
 |some k=>some (.fr (.bl k))
 |none=>none
def iX(a b:A):Option Rr:=match tI a b with
 |some k=>some (.fr (.bl (!k)))
 |none=>none
theorem rQ{a b:A}{k:Bool}(h:tI a b=some k):∃d e,toD a=some d/\toD b=some e/\D.depth d<=40/\k=D.eq d e:=by
 delta tI at h
 cases e1:toD a with
 |none=>rw[e1] at h;cases h
 |some d=>
  cases e2:toD b with
  |none=>simp only[e1,e2] at h;cases h
  |some e=>
   simp only[e1,e2] at h;split at h
   .rename_i hd;cases h;exact⟨d,e,rfl,rfl,hd,rfl⟩
   .cases h
theorem os_eq:jf K (NH K.K) gw:=.scalar λH v w a b q n o h=>by
 delta gw at h
 cases e:tI a b with
 |none=>rw[e] at h;cases h
 |some k=>rw[e] at h;cases h;obtain⟨d,d',h1,h2,h3,rfl⟩:=rQ e;exact⟨_,_,rfl,λ_=>.bl _,λQ k=>⟨d,d',nc n h1,nc o h2,h3,k⟩⟩
theorem Gi:jf K (Ng K.K) iX:=.scalar λH v w a b q n o h=>by
 delta iX at h
 cases e:tI a b with
 |none=>rw[e] at h;cases h
 |some k=>rw[e] at h;cases h;obtain⟨d,d',h1,h2,h3,rfl⟩:=rQ e;exact⟨_,_,rfl,λ_=>.bl _,λQ k=>⟨d,d',nc n h1,nc o h2,h3,k⟩⟩
theorem oH:100000<=sizeLine:=by rw[X4];decide
end
variable{w:V}{id:String}
section
variable{X:Cx}{E:XK}
def DC:A->A->Option Rr
 | .lst xs,.int i=>match gL xs i with
  |some a=>some (.fr a)
  |none=>none
 | .tup xs,.int i=>match gL xs i with
  |some a=>some (.fr a)
  |none=>none
 | .str z,.int i=>if z.length<=100000 then match gL z.cps.toList i with
  |some c=>some (.fr (.str ⟨#[c]⟩))
  |none=>none else none
 |_,_=>none
theorem bX.gL{k:Kx}{G:Hp}{vs:List V}{as:List A}{i:Int}{a:A}(r:bX k G vs as)(h:gL as i=some a):∃v,gL vs i=some v/\RA k G v a:=by
 delta L2.gL at h ⊢
 rw[r.len]
 cases e:gF as.length i with
 |none=>rw[e] at h;cases h
 |some j=>rw[e] at h;obtain⟨v,h1,h2⟩:=r.ta h;exact⟨v,h1,h2⟩
theorem L5:jf K (PY K.K) DC:=by
 intro c Y H Z B θ x y v w a b q Q r A O bd e1 e2 N k;subst r;have o:=Bd.rd bd O e2;obtain⟨L,bl,s,I⟩:=Bd.zj bd A O e1 e2;have n:=Bd.rd bd.drop A e1;cases a<;>first|exact cF N|(cases b<;>first|exact cF N|skip)
 .rename_i z i;cases n;cases o
  delta DC at N
  simp only at N;split at N
  .rename_i hz;cases e:gL z.cps.toList i with
   |none=>rw[e] at N;cases N
   |some ch=>rw[e] at N;cases N;exact .inr (.inr ⟨z,i,ch,rfl,rfl,Rn hz oH,e,k _ H trivial (Bd.push ⟨L,bl⟩ λ_=>.str _)⟩)
  .cases N
 .rename_i xs i;cases o
  delta DC at N
  cases e:gL xs i with
  |none=>simp only[e] at N;cases N
  |some d=>simp only[e] at N;cases N;obtain⟨p,vs,rfl,s1,h⟩:=s.2.1 xs rfl;obtain⟨u,h1,h2⟩:=h.gL e;exact .inr (.inl ⟨p,vs,i,u,rfl,rfl,gn (g_same _ _ _) s1,h1,k u H trivial (bl.push h2)⟩)
 .rename_i xs i;cases o
  delta DC at N
  cases e:gL xs i with
  |none=>simp only[e] at N;cases N
  |some d=>simp only[e] at N;cases N;obtain⟨p,vs,rfl,s1,h⟩:=s.1 xs rfl;obtain⟨u,h1,h2⟩:=h.gL e;exact .inl ⟨p,vs,i,u,rfl,rfl,s1,h1,k u H trivial (bl.push h2)⟩
theorem IZ{a b:Expr}(f:JE X E a ma)(d:JE X E b mb)(hs:jG b):JE X E (.Subscript a b pos) (ay DC ma mb):=
 ⟨PE.weaken (yz Jf f.p d.p hs) (jD L5)⟩
noncomputable def fJ:A->Bool
 | .non=>true
 | .bl _=>true
 | .int _=>true
 | .str _=>true
 |_=>false
noncomputable def kZ:A->V
 | .non=>.non
 | .bl b=>.bl b
 | .int i=>.int i
 | .str x=>.str x
 |_=>.non
theorem tP{b:A}(r:RA K H w b)(h:fJ b=true):w=kZ b/\gZ w=true:=by cases r<;>first|exact⟨rfl,rfl⟩|exact BG h
theorem ph{K:Kx}{H:Hp}:∀{vs:List V}{as:List A},bX K H vs as->as.all fJ=true->vs=as.map kZ/\vs.all gZ=true
 |_,_,.nil,_=>⟨rfl,rfl⟩
 |_,_,.cons h r,e=>by simp only[Rg,QI] at e;obtain⟨h1,h2⟩:=tP h e.1;obtain⟨h3,h4⟩:=ph r e.2;exact⟨by simp only[h1,h3];rfl,by simp only[Rg,h2,h4];rfl⟩
def Gv(neg:Bool)(x:A)(xs:List A):Option Rr:=if fJ x&&xs.all fJ then some (.fr (.bl (if neg then !FG (kZ x) (xs.map kZ) else FG (kZ x) (xs.map kZ)))) else none
def xK(neg:Bool):A->A->Option Rr
 |x,.lst xs=>Gv neg x xs
 |x,.tup xs=>Gv neg x xs
 |_,_=>none
theorem pF{neg:Bool}:jf K (Lu K.K neg) (xK neg):=.scalar λH v w a b q n o h=>by
 have key:∀(xs:List A)(vs:List V)(p:Addr),bX K H vs xs->(dR K.K H p vs\/jb K.K H p vs)->Gv neg a xs=some q->∃u d,q=.fr d/\(∀G,RA K G u d)/\∀Q:VK,Q u H->Lu K.K neg v (.ref p) H Q:=by
  intro xs vs p Y sq h
  delta Gv at h
  split at h
  .rename_i hc;simp only[QI] at hc;cases h;obtain⟨rfl,h2⟩:=tP n hc.1;obtain⟨rfl,h4⟩:=ph Y hc.2;exact⟨_,_,rfl,λ_=>.bl _,λQ k=>⟨p,_,rfl,sq,h2,h4,k⟩⟩
  .cases h
 cases b<;>first|exact cF h|skip
 .cases o with|tup e r=>exact key _ _ _ r (.inr e) h
 .cases o with|lst e r=>exact key _ _ _ r (.inl e) h
noncomputable def sO:A->Bool
 | .non=>true
 |_=>false
def qx(neg:Bool):A->A->Option Rr
 |a,.non=>some (.fr (.bl (if neg then !sO a else sO a)))
 |_,_=>none
theorem wa{v:V}{a:A}(r:RA K H v a):decide (v=.non)=sO a:=by cases r<;>rfl
theorem Fs:jf K (λx y H Q=>y=.non/\Q (.bl (decide (x=.non))) H) (qx false):=.scalar λH v w a b q n o h=>by
 cases b<;>first|exact cF h|skip
 cases o;cases h;exact⟨_,_,rfl,λ_=>.bl _,λQ k=>⟨rfl,by rw[wa n];exact k⟩⟩
theorem uN:jf K (λx y H Q=>y=.non/\Q (.bl (!decide (x=.non))) H) (qx true):=.scalar λH v w a b q n o h=>by
 cases b<;>first|(exact cF h)|skip
 cases o;cases h;exact⟨_,_,rfl,λ_=>.bl _,λQ k=>⟨rfl,by rw[wa n];exact k⟩⟩
def aM(f:A->Option Rr)(m:Mi Rr):Mi Rr:=aY m λx Z=>match res Z x with
 |some a=>match f a with
  |some r=>some (.ok r,Z)
  |none=>none
 |none=>none
def sL(K:Kx)(r:V->Hp->VK->Prop)(f:A->Option Rr):Prop:=∀(c:Cn)(Y:St)(H:Hp)(Z:List Sl)(B:St)(θ:List Sl)(x:Rr)(v:V)(a:A)(q:Rr)(Q:VK),c.toKx=K->VR Y x v->
 Bd c Y H Z (cW x v B) (cV x θ)->res Z x=some a->f a=some q->(∀u H',VR Y q u->Bd c Y H' Z (cW q u B) (cV q θ)->Q u H')->r v H Q
theorem Eo{f:A->Option Rr}{x:Rr}{o:Except Str Rr}(h:(match res Z x with|some a=>(match f a with|some r=>some ((.ok r:Except Str Rr),Z)|none=>none)|none=>none)=some (o,O)):∃a r,res Z x=some a/\f a=some r/\o=.ok r/\O=Z:=by
 cases e1:res Z x with
 |none=>rw[e1] at h;cases h
 |some a=>
  rw[e1] at h;cases N:f a with
  |none=>simp only[N] at h;cases h
  |some r=>simp only[N] at h;cases h;exact⟨a,r,rfl,N,rfl,rfl⟩
theorem jm{r:V->Hp->VK->Prop}{f:A->Option Rr}{m:Mi Rr}(hf:sL (kx X) r f)(Y:St)(H:Hp)(Q:VK)(h:kO (kx X) E (aM f m) Y H Q):kO (kx X) E m Y H λv H'=>r v H' Q:=by obtain⟨c,Z,B,θ,o,O,u,b,em,q⟩:=h;refine bF u b em (λx v U i t b1 e=>?_) (bY q);obtain⟨a,r,e1,N,rfl,rfl⟩:=Eo e;exact hf c Y i _ B θ x v a r Q u t b1 e1 N q
theorem sL.scalar{r:V->Hp->VK->Prop}{f:A->Option Rr}(h:∀H v a q,RA K H v a->f a=some q->∃u d,q=.fr d/\(∀G,RA K G u d)/\∀Q:VK,Q u H->r v H Q):sL K r f:=by intro c Y H Z B θ x v a q Q o t bd e1 N k;have n:=Bd.rd bd t e1;rw[o] at n;obtain⟨u,d,rfl,g,R⟩:=h H v a q n N;exact R Q (k u H trivial (Bd.push bd.drop (by rw[o];exact g)))
noncomputable def a6:A->Option Rr
 | .int i=>some (.fr (.int (-i)))
 |_=>none
theorem Kc{a:Expr}{m:Mi Rr}(h:JE X E a m):JE X E (.UnaryOp .USub a pos) (aM a6 m):=⟨PE.weaken (K0 IQ h.p) (jm (.scalar λH v a q n h=>by
 cases a<;>first|exact cF h|skip
 cases n;cases h;exact⟨_,_,rfl,λ_=>.int _,λQ k=>⟨_,rfl,k⟩⟩))⟩
noncomputable def one(f:A->Option Rr):List A->Option Rr
 |[a]=>f a
 |_=>none
def cE(f:A->Option Rr)(m:Mi Rr):Mi Rr:=aM f m
def F9(f:A->A->Option Rr)(m n:Mi Rr):Mi Rr:=ay f m n
theorem og{r:List V->Hp->VK->Prop}{f:A->Option Rr}{x:Str}{p:Pos}{m:Mi Rr}(hc:du X (.builtin id) r)(hf:sL (kx X) (λv=>r [v]) f)(hg:Gl X x)(hm:X.mg x=none)(hv:XD x=some (.builtin id))(ha:JE X E e m)(hn:x ≠ "__name__")
  (hdb:fM x)(hs:XB [e] X.env=(false,eval e X.env)::XB [] X.env:=by rfl)(hp:(XI pos (XB [] X.env)).any (·.1)=false:=by rfl):JE X E (.Call (.Name x p) [e] [] pos) (cE f m):=
 ⟨PE.weaken (jH hc hg hm hv (a9 ha.p cB hs) hn hdb hs hp) λY H Q h=>jm hf Y H Q h⟩
theorem z9{T:String}{r:List V->Hp->VK->Prop}{f:A->Option Rr}{x:Str}{p:Pos}{m:Mi Rr}(hc:du X (.type T) r)(hf:sL (kx X) (λv=>r [v]) f)(hg:Gl X x)(hm:X.mg x=none)(hv:XD x=some (.type T))(ha:JE X E e m)(hn:x ≠ "__name__")
  (hdb:fM x)(hs:XB [e] X.env=(false,eval e X.env)::XB [] X.env:=by rfl)(hp:(XI pos (XB [] X.env)).any (·.1)=false:=by rfl):JE X E (.Call (.Name x p) [e] [] pos) (cE f m):=
 ⟨PE.weaken (fU hc hg hm hv (a9 ha.p cB hs) hn hdb hs hp) λY H Q h=>jm hf Y H Q h⟩
theorem Fh{r:List V->Hp->VK->Prop}{f:A->A->Option Rr}{x:Str}{p:Pos}{e1 e2:Expr}{m n:Mi Rr}(hc:du X (.builtin id) r)(hf:jf (kx X) (λv w=>r [v,w]) f)(hg:Gl X x)(hm:X.mg x=none)(hv:XD x=some (.builtin id))(h1:JE X E e1 m)(h2:JE X E e2 n)(hn:x ≠ "__name__")
  (hdb:fM x)(hs:XB [e1,e2] X.env=(false,eval e1 X.env)::XB [e2] X.env:=by rfl)(hs2:XB [e2] X.env=(false,eval e2 X.env)::XB [] X.env:=by rfl)(hp:(XI pos (XB [e2] X.env)).any (·.1)=false:=by rfl):JE X E (.Call (.Name x p) [e1,e2] [] pos) (F9 f m n):=
 ⟨PE.weaken (jH hc hg hm hv (a9 h1.p (a9 h2.p cB hs2) hs) hn hdb hs hp) λY H Q h=>jD hf Y H Q h⟩
noncomputable def dy:A->Option Rr
 | .str z=>if z.length<=100000 then some (.fr (.int z.length)) else none
 | .lst xs=>some (.fr (.int xs.length))
 | .tup xs=>some (.fr (.int xs.length))
 |_=>none
theorem JN:sL K (λv H Q=>∃x n,[v]=[x]/\Ny K.K x H n/\Q (.int n) H) dy:=.scalar λH v a q f h=>by
 cases a<;>first|exact cF h|skip
 .cases f
  delta dy at h
  simp only at h;split at h
  .rename_i hz;cases h;exact⟨_,_,rfl,λ_=>.int _,λQ k=>⟨_,_,rfl,⟨Rn hz oH,rfl⟩,k⟩⟩
  .cases h
 .cases f with
  |tup e r=>cases h;exact⟨_,_,rfl,λ_=>.int _,λQ k=>⟨_,_,rfl,.inr ⟨_,e,rfl⟩,by rw[r.len];exact k⟩⟩
 .cases f with
  |lst e r=>cases h;exact⟨_,_,rfl,λ_=>.int _,λQ k=>⟨_,_,rfl,.inl ⟨_,e,rfl⟩,by rw[r.len];exact k⟩⟩
noncomputable def AW:A->Option Rr
 | .int i=>some (.fr (.int (if i<0 then -i else i)))
 |_=>none
theorem Jg:sL K (λv H Q=>∃i,[v]=[V.int i]/\Q (.int (if i<0 then -i else i)) H) AW:=.scalar λH v a q n h=>by
 cases a<;>first|exact cF h|skip
 cases n;cases h;exact⟨_,_,rfl,λ_=>.int _,λQ k=>⟨_,rfl,k⟩⟩
def Li:A->A->Option Rr:=n6 λi j=>some (.fr (.int (if j > i then j else i)))
def wm:A->A->Option Rr:=n6 λi j=>some (.fr (.int (if j<i then j else i)))
theorem HZ:jf K (λv w H Q=>∃i j,[v,w]=[V.int i,V.int j]/\Q (.int (if j > i then j else i)) H) Li:=.scalar λH v w a b q n o h=>by
 replace h:=cY h
 obtain⟨i,j,rfl,rfl,h⟩:=h
 cases n;cases o;cases h
 exact⟨_,_,rfl,λ_=>.int _,λQ k=>⟨_,_,rfl,k⟩⟩
theorem GU:jf K (λv w H Q=>∃i j,[v,w]=[V.int i,V.int j]/\Q (.int (if j<i then j else i)) H) wm:=.scalar λH v w a b q n o h=>by
 replace h:=cY h
 obtain⟨i,j,rfl,rfl,h⟩:=h
 cases n;cases o;cases h
 exact⟨_,_,rfl,λ_=>.int _,λQ k=>⟨_,_,rfl,k⟩⟩
noncomputable def nj:A->Option Rr
 | .int i=>some (.fr (.int i))
 | .bl k=>some (.fr (.int (if k then 1 else 0)))
 |_=>none
theorem J9:sL K (λv H Q=>(∃i,[v]=[V.int i]/\Q (.int i) H)\/∃k,[v]=[V.bl k]/\Q (.int (if k then 1 else 0)) H) nj:=.scalar λH v a q n h=>by
 cases a<;>first|exact cF h|skip
 .cases n;cases h;exact⟨_,_,rfl,λ_=>.int _,λQ k=>.inr ⟨_,rfl,k⟩⟩
 .cases n;cases h;exact⟨_,_,rfl,λ_=>.int _,λQ k=>.inl ⟨_,rfl,k⟩⟩
noncomputable def GN:A->Option (List A)
 | .lst xs=>some xs
 | .tup xs=>some xs
 |_=>none
def da(a:A):Option Rr:=match GN a with
 |some xs=>some (.nw (.lst xs))
 |none=>none
def mK(a:A):Option Rr:=match GN a with
 |some xs=>some (.fr (.tup xs))
 |none=>none
theorem CQ:sL K (λv H Q=>∃p ys,[v]=[V.ref p]/\(dR K.K H p ys\/jb K.K H p ys)/\∀l,H l=none->Q (.ref l) (upd H l (.lst ys))) da:=by
 intro c Y H Z B θ x v a q Q u A bd e1 N k;subst u;obtain⟨L,bl,s⟩:=Bd.open bd A e1;cases a<;>first|exact cF N|skip
 .rename_i xs;cases N;obtain⟨p,vs,rfl,s1,h⟩:=s.2.1 xs rfl;exact⟨p,vs,rfl,.inr (gn (g_same _ _ _) s1),λl hl=>k _ _ trivial (bl.kH hl λG H' sm q=>.lst q (h.sm sm))⟩
 .rename_i xs;cases N;obtain⟨p,vs,rfl,s1,h⟩:=s.1 xs rfl;exact⟨p,vs,rfl,.inl s1,λl hl=>k _ _ trivial (bl.kH hl λG H' sm q=>.lst q (h.sm sm))⟩
theorem yF:sL K (λv H Q=>∃p ys,[v]=[V.ref p]/\((dR K.K H p ys/\∀l,H l=none->Q (.ref l) (upd H l (.tup ys)))\/(jb K.K H p ys/\Q (.ref p) H))) mK:=by
 intro c Y H Z B θ x v a q Q u A bd e1 N k;subst u;obtain⟨L,bl,s⟩:=Bd.open bd A e1;cases a<;>first|exact cF N|skip
 .rename_i xs;cases N;obtain⟨p,vs,rfl,s1,h⟩:=s.2.1 xs rfl;exact⟨p,vs,rfl,.inr ⟨gn (g_same _ _ _) s1,k _ _ trivial (bl.push (.tup s1 h))⟩⟩
 .rename_i xs;cases N;obtain⟨p,vs,rfl,s1,h⟩:=s.1 xs rfl;refine⟨p,vs,rfl,.inl ⟨s1,λl hl=>?_⟩⟩;obtain⟨b2,sm,np⟩:=bl.new hl;exact k _ _ trivial (b2.push (.tup (.inl (.inl (by rw[bM np (bl.Mu hl)];exact aN))) (h.sm sm)))
end
section
variable{c:Cn}{Y:St}{H:Hp}{Z:List Sl}{B:St}{θ:List Sl}
theorem Bd.tQ{x:Option V}(e:xs.length=ss.length)(b:Bd c Y H Z (x::(xs++B)) (s::(ss++θ))):Bd c Y H Z (x::B) (s::θ):=by
 obtain⟨L,b⟩:=b;have r:av c.toKx (c.g H L) H (x::(xs++(B++Y))) (s::(ss++(θ++Z))) L:=by have:=b.rel;simpa[QN] using this
 cases r with
 |cons h r=>rename_i y L';obtain⟨q,L2,e1,n,k⟩:=av.split e r;subst e1;have sl:(y++L2).Sublist (y++(q++L2)):=S9 (Tn _) (TH _ _);have sm:Sq (c.g H (y++(q++L2))) (c.g H (y++L2)):=dJ λa f=>sl.subset f;exact⟨y++L2,b.nd.sublist sl,av.cons (h.sm sm (λ_ _ _ e=>e)) (k.sm sm (λ_ _ _ e=>e)),λp hp=>b.own p (sl.subset hp),b.fr,b.kp,by have:=b.lt;simp at this ⊢;lia,b.hd⟩
theorem Bd.O0{ys:St}(b:Bd c (Y++ys) H Z B θ):Bd c Y H (Z.take Y.length) B θ:=by
 have hl:=b.rA;rw[Q7] at hl;obtain⟨L,b⟩:=b;have r:av c.toKx (c.g H L) H ((B++Y)++ys) ((θ++Z.take Y.length)++Z.drop Y.length) L:=by have:=b.rel;rw[QN,QN,SI];exact this
 obtain⟨q,L2,e1,n,k⟩:=av.split (by simp[b.lt];lia) r;subst e1;have sm:Sq (c.g H (q++L2)) (c.g H q):=dJ λa f=>QM _ f;refine⟨q,(QV.mp b.nd).1,n.sm sm (λ_ _ _ e=>e),λp hp=>b.own p (QM _ hp),b.fr,λi o h w=>?_,b.lt,b.hd⟩;have hi:i<(Z.take Y.length).length:=(QL.mp h).1;rw[RN] at hi;have h':Z[i]?=some o:=by rw[List.getElem?_take] at h;split at h;exact h;cases h
 have:=b.kp i o h' w;rwa[RV Q1] at this
theorem Bd.Oc{n:Nat}(b:Bd c Y H Z B θ):Bd c (Y++QZ n none) H (Z++QZ n .un) B θ:=by
 have hl:=b.rA;obtain⟨L,b⟩:=b;refine⟨L,b.nd,?_,b.own,b.fr,λi o h w=>?_,b.lt,b.hd⟩
 .have:=b.rel.app (mY (k:=c.toKx) (G:=c.g H L) (H:=H) n);simpa[QN] using this
 .by_cases z:i<Z.length
  .rw[RV z] at h;rw[RV Q1];exact b.kp i o h w
  .rw[RG (by exact Ul.mp ‹_›)] at h;have:=TY (RD h);subst this;cases w
end
noncomputable abbrev Mg:=A->List Sl->Option (List Sl)
noncomputable abbrev Cc:=List A->List Sl->Option (List Sl)
inductive N7(K:Kx)(lo:Nat)(G:Mg)(v:V)(Y:St)(H:Hp)(Q:St->Hp->Prop):Prop
 |mk(c:Cn)(Z:List Sl)(B:St)(θ:List Sl)(a:A)(O:List Sl)(h1:c.toKx=K)(h2:Bd c Y H Z (some v::B) (.fr a::θ))(h3:G a Z=some O)(h4:∀j H',j.take lo=Y.take lo->j.length=Y.length->Bd c j H' O B θ->Q j H')
inductive O3(K:Kx)(lo:Nat)(G:Cc)(vs:List V)(Y:St)(H:Hp)(Q:St->Hp->Prop):Prop
 |mk(c:Cn)(Z:List Sl)(B:St)(θ:List Sl)(as:List A)(O:List Sl)(h1:c.toKx=K)(h2:vs.length=as.length)(h3:Bd c Y H Z (vs.map some++B) (as.map Sl.fr++θ))(h4:G as Z=some O)(h5:∀j H',j.take lo=Y.take lo->j.length=Y.length->Bd c j H' O B θ->Q j H')
structure JG(X:Cx)(lo:Nat)(tg:Expr)(G:Mg):Prop where
 p:PG X tg (N7 (kx X) lo G)
structure Mb(X:Cx)(lo:Nat)(tg:List Expr)(G:Cc):Prop where
 p:J4 X tg (O3 (kx X) lo G)
def aL(i:Nat):Mg:=λa Z=>put i (.fr a) Z
noncomputable def fm:Cc:=λas Z=>match as with
 |[]=>some Z
 |_=>none
noncomputable def bL(g:Mg)(gs:Cc):Cc:=λas Z=>match as with
 |a::as=>match g a Z with
  |some U=>gs as U
  |none=>none
 |[]=>none
noncomputable def fN(n:Nat)(gs:Cc):Mg:=λa Z=>match a with
 | .tup as=>if as.length=n then gs as Z else none
 |_=>none
variable{gs:Cc}{tg iter:Expr}{body:List Stmt}
section
variable{X:Cx}{E:XK}{lo:Nat}
theorem DL{x:Str}(hN:X.N.Nodup)(hi:X.N[i]?=some x)(hx:Loc X.env.scope x)(hl:lo<=i)(hf:X.fn x=true\/X.env.scope.names.lookup x=some .local:=by first|exact .inl rfl|exact .inr rfl|assumption):JG X lo (.Name x pos) (aL i):=⟨λpins s Y H v u Q I r h=>by refine Df hN hi hx hf pins s Y H v u Q I r ?_;obtain⟨c,Z,B,θ,a,O,ek,b,em,q⟩:=h;exact q _ H (by rw[List.take_set_of_le hl]) Z4 (Bd.put b rfl em)⟩
theorem EK:Mb X lo [] fm:=⟨λpins s Y H v u Q I r h=>by
 refine D5 pins s Y H v u Q I r ?_;obtain⟨c,Z,B,θ,as,O,o,hl,b,em,q⟩:=h;cases as with
 |nil=>cases em;cases v with|nil=>exact⟨rfl,q Y H rfl rfl b⟩|cons _ _=>simp at hl
 | cons _ _=>cases em⟩
theorem zy{g:Mg}(h1:JG X lo e g)(h2:Mb X lo es gs)(hp:∀{t:TG}{u:Fp},PG X e t->J4 X es u->J4 X (e::es) (FZ t u)):Mb X lo (e::es) (bL g gs):=⟨λpins s Y H v u Q I r h=>by
 refine hp h1.p h2.p pins s Y H v u Q I r ?_;obtain⟨c,Z,B,θ,as,O,o,hl,b,em,q⟩:=h;cases as with
 |nil=>cases em
 |cons a as=>
  cases v with
  |nil=>simp at hl
  |cons v vs=>
   delta bL at em
   simp only at em
   cases e1:g a Z with
   |none=>rw[e1] at em;cases em
   | some U=>rw[e1] at em;refine⟨v,vs,rfl,c,Z,_,_,a,U,o,b,e1,λj H' G x b1=>⟨c,U,B,θ,as,O,o,by simpa using hl,b1,em,λP S T w b2=>q P S (T.trans G) (w.trans x) b2⟩⟩⟩
theorem JU{k n:Nat}(hc:X.calm=true)(h:Mb X lo es gs)(hn:(XT es X.env).length=n:=by rfl)(hst:(XT es X.env).findIdx? (·.1)=none:=by rfl):JG X lo (.Tuple es k pos) (fN n gs):=⟨λpins s Y H v u Q I r h'=>by
 refine Ki hc h.p hn hst pins s Y H v u Q I r ?_;obtain⟨c,Z,B,θ,a,O,ek,b,em,q⟩:=h';cases a<;>first|exact cF em|skip
 rename_i as
 delta fN at em
 simp only at em;split at em
 .rename_i hl;obtain⟨L,bl,i1⟩:=Bd.open (r:=.fr (.tup as)) b trivial rfl;obtain⟨p,vs,rfl,s1,rr⟩:=i1.2.1 as rfl;have:c.K=X.K:=by have:=Ze Kx.K ek;exact this
  refine⟨p,vs,rfl,by rw[<-this];exact gn (g_same _ _ _) s1,by rw[rr.len];exact hl,c,Z,B,θ,as,O,ek,rr.len,?_,em,q⟩;obtain⟨nd,rel,own,fr,kp,lt,hdd⟩:=bl;exact⟨L,nd,by have:=(av.lA (H:=H) rr).app rel;simpa[QN] using this,own,fr,kp,by simp[lt,rr.len],hdd⟩
 .cases em⟩
def G8(K:Kx)(J:It)(T:St)(S:List A)(as:List A):Prop:=∀(c:Cn)(Y:St)(H:Hp)(Z:List Sl)(F:St)(D:List Sl)(B:St)(θ:List Sl)(i:Nat),c.toKx=K->F.length=D.length->Bd c Y H Z (F++(T++B)) (D++(S.map Sl.fr++θ))->
 (as.length<=i->J.stop i H)/\∀a,as[i]?=some a->J.go i H/\∀x H',J.yld i H x H'->Bd c Y H' Z (some x::(F++(T++B))) (.fr a::(D++(S.map Sl.fr++θ)))
def M8(K:Kx)(E:XK)(c:Cn)(Y:St)(Z:List Sl)(B:St)(θ:List Sl)(R:It->Hp->Prop):Except Str (List A)->Prop
 | .ok as=>∀J H T S,T.length=S.length->G8 K J T S as->Bd c Y H Z (T++B) (S.map Sl.fr++θ)->R J H
 | .error x=>∀C H,K.mg x=some (.ref C)->Bd c Y H Z B θ->E (.ref C) none H
inductive Pw(K:Kx)(E:XK)(m:Mi (List A))(Y:St)(H:Hp)(R:It->Hp->Prop):Prop
 |mk(c:Cn)(Z:List Sl)(B:St)(θ:List Sl)(o:Except Str (List A))(O:List Sl)(h1:c.toKx=K)(h2:Bd c Y H Z B θ)(h3:m Z=some (o,O))(h4:M8 K E c Y O B θ R o)
structure JI(X:Cx)(E:XK)(tg iter:Expr)(m:Mi (List A)):Prop where
 p:PI X tg iter (Pw (kx X) E m)
theorem dw{o:Except Str (List A)}{R:It->Hp->Prop}(q:M8 (kx X) E c Y O B θ R o):∀e,o=.error e->∀C H,X.mg e=some (.ref C)->Bd c Y H O B θ->E (.ref C) none H:=λe p=>by subst p;exact q
def HN:A->Option (List A)
 |a=>GN a
def cJ(m:Mi Rr):Mi (List A):=aY m λr Z=>match bW r Z with
 |some (a,O)=>match HN a with
  |some as=>some (.ok as,O)
  |none=>none
 |none=>none
theorem Bd.mid{v:V}{a:A}(e:xs.length=ss.length)(b:Bd c Y H Z (xs++(some v::B)) (ss++(.fr a::θ))):∃L,eu c Y H Z (xs++(some v::B)) (ss++(.fr a::θ)) L/\RA c.toKx (c.g H L) v a:=by
 obtain⟨L,b⟩:=b;have r:av c.toKx (c.g H L) H (xs++(some v::(B++Y))) (ss++(.fr a::(θ++Z))) L:=by have:=b.rel;simpa[QN] using this
 obtain⟨q,L2,e1,n,k⟩:=av.split e r;cases k with
 |cons h N=>cases h with|fr h=>exact⟨L,b,h⟩
theorem G0{l:Expr}{m:Mi Rr}(hl:JE X E l m):JI X E tg l (cJ m):=⟨λpins s Y H R I h=>by
 refine En hl.p pins s Y H R I ?_;obtain⟨c,Z,B,θ,o,O,Q,b,em,q⟩:=h;refine bF Q b em (λx v U V t b1 e=>?_) (dw q);cases e1:bW x U with
 |none=>rw[e1] at e;cases e
 |some p=>
  obtain⟨a,Z'⟩:=p;rw[e1] at e;have b2:=Bd.bW (xs:=[]) (ss:=[]) rfl b1 t e1;cases e2:HN a with
  |none=>simp only[e2] at e;cases e
  |some as=>
   simp only[e2] at e;cases e;have S:c.K=X.K:=Ze Kx.K Q;cases a<;>first|exact cF e2|skip
   .cases e2;have rt:=Bd.top b2 (a:=.tup as) rfl;cases rt with
    |tup w g=>
     rename_i p vs;refine⟨p,rfl,.inr ⟨⟨vs,by rw[<-S];exact w⟩,q _ V [some (.ref p)] [.tup as] rfl (λz j H' O F D J T i r C P=>?_) b2⟩⟩;have G:z.K=X.K:=Ze Kx.K r;obtain⟨L,bl,h⟩:=Bd.mid C P;cases h with
     |tup A N=>
      rename_i us;have sq:jb X.K H' p us:=by rw[<-G];exact gn (g_same _ _ _) A
      refine⟨λhi=>⟨us,sq,by rw[N.len];exact hi⟩,λa f=>?_⟩;obtain⟨u,h1,h2⟩:=N.ta f;refine⟨⟨us,u,sq,h1⟩,λx k y=>?_⟩;obtain⟨rfl,y⟩:=y;have:=y us sq;rw[h1] at this;cases this;exact bl.push h2
   .cases e2;have rt:=Bd.top b2 (a:=.lst as) rfl;cases rt with
    |lst w g=>
     rename_i p vs;refine⟨p,rfl,.inl ⟨⟨vs,by rw[<-S];exact w⟩,q _ V [some (.ref p)] [.lst as] rfl (λz j H' O F D J T i r C P=>?_) b2⟩⟩;have G:z.K=X.K:=Ze Kx.K r;obtain⟨L,bl,h⟩:=Bd.mid C P;cases h with
     |lst A N=>
      rename_i us;have sq:dR X.K H' p us:=by rw[<-G];exact fz (g_same _ _ _) A
      refine⟨λhi=>⟨us,sq,by rw[N.len];exact hi⟩,λa f=>?_⟩;obtain⟨u,h1,h2⟩:=N.ta f;refine⟨⟨us,u,sq,h1⟩,λx k y=>?_⟩;obtain⟨rfl,y⟩:=y;have:=y us sq;rw[h1] at this;cases this;exact bl.push h2⟩
noncomputable def bS(lo:Int)(n:Nat):List A:=(Q8 n).map λi=>.int (lo+(i:Nat))
theorem AV{lo:Int}{n:Nat}:G8 K (LX lo n) [] [] (bS lo n):=λc Y H Z F D B θ i u C b=>by
 have hl:(bS lo n).length=n:=by simp[bS]
 refine⟨λh=>by rw[hl] at h;exact h,λa f=>?_⟩;have hi:i<n:=by rw[<-hl];exact(QL.mp f).1
 refine⟨hi,λx H' y=>?_⟩;obtain⟨rfl,rfl⟩:=y;have:a=.int (lo+i):=by unfold bS at f;simp only[Rt,SE hi] at f;exact(Rh f).symm
 subst this;exact b.push λ_=>.int _
def cD(m:Mi Rr):Mi (List A):=aY m λr Z=>match res Z r with
 |some (.int j)=>if -(2^60)<=j/\j<2^60 then some (.ok (bS 0 j.toNat),Z) else none
 |_=>none
theorem Et{a:Expr}{m:Mi Rr}{p:Pos}(hg:Gl X "range")(hm:X.mg "range" = none)(ha:JE X E a m)(hs:XB [a] X.env=[(false,eval a X.env)]:=by rfl)(hs':XB [a] X.env=(false,eval a X.env)::XB [] X.env:=by rfl):JI X E tg (.Call (.Name "range" p) [a] [] pos) (cD m):=⟨λpins s Y H R I h=>by
 refine wt hg hm (a9 ha.p cB hs') hs pins s Y H R I ?_;obtain⟨c,Z,B,θ,o,O,ek,b,em,q⟩:=h;refine bF ek b em (λx v U H1 hv b1 em1=>?_) (dw q);cases e1:res U x with
 |none=>rw[e1] at em1;cases em1
 |some a=>
  have r1:=Bd.rd b1 hv e1;rw[e1] at em1;cases a<;>first|exact cF em1|skip
  rename_i j;simp only at em1;split at em1
  .rename_i hj;cases em1;cases r1;exact⟨j,rfl,by lia,by lia,q _ H1 [] [] rfl AV b1.drop⟩
  .cases em1⟩
theorem BE{u:Option A}{F:Int->Option α}{r:α} (h:(match u with
   |some (.int k)=>F k
   | _=>none)=some r):∃k,u=some (.int k)/\F k=some r:=by
 split at h
 .rename_i k;exact⟨k,rfl,h⟩
 .cases h
theorem sE{u w:Option A}{F:Int->Int->Option α}{r:α} (h:(match u,w with
 |some (.int i),some (.int j)=>F i j
 | _,_=>none)=some r):∃i j,u=some (.int i)/\w=some (.int j)/\F i j=some r:=by
 split at h
 .rename_i i j;exact⟨i,j,rfl,rfl,h⟩
 .cases h
def qG(m n:Mi Rr):Mi (List A):=aY m λr=>aY n λt=>λZ=>match res Z r,res Z t with
 |some (.int i),some (.int j)=>if -(2^60)<=i/\i<2^60 /\ -(2^60)<=j/\j<2^60 then some (.ok (bS i (j-i).toNat),Z) else none
 |_,_=>none
theorem Ck{a b:Expr}{m n:Mi Rr}{p:Pos}(hg:Gl X "range")(hm:X.mg "range" = none)(ha:JE X E a m)(hb:JE X E b n)(hs:XB [a,b] X.env=[(false,eval a X.env),(false,eval b X.env)]:=by rfl)(hs2:XB [b] X.env=[(false,eval b X.env)]:=by rfl)
  (hs3:XB [a,b] X.env=(false,eval a X.env)::XB [b] X.env:=by rfl)(hs4:XB [b] X.env=(false,eval b X.env)::XB [] X.env:=by rfl):JI X E tg (.Call (.Name "range" p) [a,b] [] pos) (qG m n):=⟨λpins s Y H R I h=>by
 refine wW hg hm (a9 ha.p (a9 hb.p cB hs4) hs3) hs hs2 pins s Y H R I ?_;obtain⟨c,Z,B,θ,o,O,ek,b,em,q⟩:=h;refine bF ek b em (λx v U H1 hv b1 em1=>?_) (dw q);refine bF ek b1 em1 (λy w Z' H2 hw b2 em2=>?_) (dm (dw q));obtain⟨i,j,e1,e2,em2⟩:=sE em2;obtain⟨rfl,rfl⟩:v=.int i/\w=.int j:=by have r2:=Bd.rd b2 hw e2;have r1:=Bd.rd b2.drop hv e1;cases r1;cases r2;exact⟨rfl,rfl⟩
 split at em2
 .rename_i hj;cases em2;exact⟨i,j,rfl,⟨by lia,by lia,by lia,by lia⟩,q _ H2 [] [] rfl AV b2.drop.drop⟩
 .cases em2⟩
noncomputable def forL(G:Mg)(b:Ms):List A->Ms
 |[],Z=>some (.nx,Z)
 |a::as,Z=>match G a Z with
  |none=>none
  |some U=>match b U with
   |some (.nx,Z')=>forL G b as Z'
   |some (.ct,Z')=>forL G b as Z'
   |some (.bk,Z')=>some (.nx,Z')
   |r=>r
def gQ(m:Mi (List A))(G:Mg)(b:Ms):Ms:=dq m λas Z=>forL G b as Z
theorem IX{m:Mi (List A)}{G:Mg}{mb:Ms}(hp:Yu (XH X.prog X.w) X.A X.env X.xe)(hc:X.calm=true)(hi:JI X E tg iter m)(hg:JG X 0 tg G)(hb:qM X E body mb)
  (hs:∀x,XU iter X.env x=pure x:=by intro _;rfl):JS X E (.For tg iter body [] pos) (gQ m G mb):=⟨PS.weaken (GI hp hc hi.p hg.p hb.p hs) λD Y H h=>by
 obtain⟨c,Z,B,θ,f,O,ek,b,em,q⟩:=h;rcases fC em with ⟨as,U,e1,e2⟩|⟨e,e1,e2⟩
 .refine⟨c,Z,B,_,_,U,ek,b,e1,λJ H1 T S li it b1=>?_⟩;refine⟨λi m j H'=>m=as.length-i/\i<=as.length/\∃R,Bd c j H' R (T++B) (S.map Sl.fr++θ.map Sl.fr)/\forL G mb (as.drop i) R=some (f,O),⟨_,rfl,R7 _,U,b1,by simpa using e2⟩,?_⟩;rintro i m j H' ⟨rfl,hi,R,bi,ei⟩;obtain⟨i1,i2⟩:=it c j H' R [] [] B (θ.map Sl.fr) i ek rfl bi;by_cases hlt:i<as.length
  .have hd:as.drop i=as[i]::as.drop (i+1):=SU hlt;rw[hd] at ei;obtain⟨go,yl⟩:=i2 as[i] Z4;refine .inr ⟨go,λP H2=>∃Z',Bd c P H2 Z' (T++B) (S.map Sl.fr++θ.map Sl.fr)/\forL G mb (as.drop (i+1)) Z'=some (f,O),λP H2 ⟨Z',q1,q2⟩=>⟨as.length-(i+1),by lia,rfl,hlt,Z',q1,q2⟩,λx H2 y=>?_⟩;have b2:=yl x H2 y;unfold forL at ei;cases eg:G as[i] R with
   |none=>rw[eg] at ei;cases ei
   |some Z'=>
    rw[eg] at ei;refine⟨c,R,_,_,as[i],Z',ek,b2,eg,λV H3 _ _ b3=>?_⟩;cases eb:mb Z' with
    |none=>simp only[eb] at ei;cases ei
    |some p=>
     obtain⟨f1,Z0⟩:=p;simp only[eb] at ei;refine⟨c,Z',T++B,S++θ,f1,Z0,ek,by simp only[Rq];exact b3,eb,?_⟩;cases f1 with
     |nx=>intro Q H4 b4;rw[Rq] at b4;exact⟨Z0,b4,ei⟩
     |ct=>intro Q H4 b4;rw[Rq] at b4;exact⟨Z0,b4,ei⟩
     |bk=>cases ei;intro Q H4 b4;simp only[Rq] at b4;exact q Q H4 (Bd.CM (by simp[li]) b4)
     |rt s=>cases ei;intro v Q H4 hs b4;rw[Rq] at b4;exact q v Q H4 hs (Bd.tQ (by simp[li]) b4)
     |ex x=>cases ei;intro C Q H4 hm b4;rw[Rq] at b4;exact q C Q H4 hm (Bd.CM (by simp[li]) b4)
  .have e:i=as.length:=by lia
   subst e;rw[T7] at ei;cases ei;exact .inl ⟨i1 (QR _),q j H' (Bd.CM (by simp[li]) bi)⟩
 .subst e2;exact⟨c,Z,B,_,_,O,ek,b,e1,λC H1 hm b1=>q C Y H1 hm b1⟩⟩
noncomputable def dI(t:Mi Bool)(b:Ms):Nat->Ms
 |0,_=>none
 |n+1,Z=>match t Z with
  |some (.ok true,U)=>match b U with
   |some (.nx,Z')=>dI t b n Z'
   |some (.ct,Z')=>dI t b n Z'
   |some (.bk,Z')=>some (.nx,Z')
   |r=>r
  |some (.ok false,U)=>some (.nx,U)
  |some (.error e,U)=>some (.ex e,U)
  |none=>none
def gS(n:Nat)(t:Mi Bool)(b:Ms):Ms:=dI t b n
theorem B2{n:Nat}{t:Expr}{mb:Ms}(hp:Yu (XH X.prog X.w) X.A X.env X.xe)(l:JT X E t mt)(d:qM X E body mb):JS X E (.While t body [] pos) (gS n mt mb):=⟨PS.weaken (Be hp l.p d.p) λD Y H h=>by
 obtain⟨c,Z,B,θ,f,O,u,b,em,q⟩:=h;refine⟨λm j H'=>∃R,Bd c j H' R B (θ.map Sl.fr)/\dI mt mb m R=some (f,O),⟨n,Z,b,em⟩,?_⟩;rintro m j H' ⟨R,z,a⟩;cases m with
 |zero=>cases a
 |succ m=>
  unfold dI at a;cases L:mt R with
  |none=>simp only[L] at a;cases a
  |some p=>
   obtain⟨o,U⟩:=p;refine⟨c,R,B,_,o,U,u,z,L,?_⟩;cases o with
   |error e=>simp only[L] at a;cases a;exact λC i hm b1=>q C j i hm b1
   |ok k=>
    intro i b1;cases k with
    |false=>simp only[L] at a;cases a;rw[Zb Z2];exact q j i b1
    |true=>
     rw[L] at a;rw[Za rfl];refine⟨λP S=>∃Z',Bd c P S Z' B (θ.map Sl.fr)/\dI mt mb m Z'=some (f,O),λP S w=>⟨m,Ru _,w⟩,?_⟩;cases T:mb U with
     |none=>simp only[T] at a;cases a
     |some p=>
      obtain⟨y,Z0⟩:=p;simp only[T] at a;refine⟨c,U,B,θ,y,Z0,u,b1,T,?_⟩;cases y with
      |nx=>exact λQ G r=>⟨Z0,r,a⟩
      |ct=>exact λQ G r=>⟨Z0,r,a⟩
      |bk=>cases a;exact λQ G r=>q Q G r
      |rt s=>cases a;exact λv Q G hs r=>q v Q G hs r
      | ex x=>cases a;exact λC Q G hm r=>q C Q G hm r⟩
end
theorem oJ(r:Rr)(v:V)(t:St)(u:List Sl):cW r v t=cW r v []++t/\cV r u=cV r []++u/\(cW r v []).length=(cV r []).length:=by cases r<;>exact⟨rfl,rfl,rfl⟩
def dB(G:Mg)(t:Mi Bool)(e:Mi Rr):List A->List A->List Sl->Option (List A×List Sl)
 |[],acc,Z=>some (acc,Z)
 |a::as,acc,Z=>match G a Z with
  |none=>none
  |some U=>match t U with
   |some (.ok true,Z')=>match e Z' with
    |some (.ok r,Z0)=>match bW r Z0 with
     |some (d,N)=>dB G t e as (acc++[d]) N
     |none=>none
    |_=>none
   |some (.ok false,Z')=>dB G t e as acc Z'
   |_=>none
inductive NG(G:Mg)(t:Mi Bool)(e:Mi Rr)(a:A)(as acc:List A)(Z:List Sl)(r:List A×List Sl):Prop
 |skip{U Z':List Sl}(g:G a Z=some U)(k:t U=some (.ok false,Z'))(q:dB G t e as acc Z'=some r)
 |take{d:A}{u:Rr}{U Z' Z0 N:List Sl}(g:G a Z=some U)(k:t U=some (.ok true,Z'))(m:e Z'=some (.ok u,Z0))(f:bW u Z0=some (d,N))(q:dB G t e as (acc++[d]) N=some r)
theorem xw{G:Mg}{t:Mi Bool}{e:Mi Rr}{a:A}{as acc:List A}{r:List A×List Sl}(h:dB G t e (a::as) acc Z=some r):NG G t e a as acc Z r:=by
 unfold dB at h;split at h
 .cases h
 .rename_i U b;split at h
  .rename_i Z' L;split at h
   .rename_i u Z0 p;split at h
    .rename_i d N H;exact .take b L p H h
    .cases h
   .cases h
  .rename_i Z' L;exact .skip b L h
  .cases h
def aF:Mi Bool:=lW true
def aH(n:Nat)(b:Mi (List A))(G:Mg)(t:Mi Bool)(e:Mi Rr):Mi Rr:=aY b λas Z=>if as.length<=100000 then match dB G t e as [] (Z++QZ n .un) with
 |some (ys,O)=>some (.ok (.nw (.lst ys)),O.take Z.length)
 |none=>none else none
structure JF(X:Cx)(E:XK)(ifs:List Expr)(m:Mi Bool):Prop where
 p:PF X ifs (Dv (kx X) E m)
variable{me:Mi Rr}{lo:Nat}{N:List Str}{elt:Expr}{ifs:List Expr}{px:Pos}
section
variable{X:Cx}{E:XK}
theorem Ig:JF X E [] aF:=⟨λpins s Y H Q I h=>by refine Ho pins s Y H Q I ?_;obtain⟨c,Z,B,θ,o,O,u,b,em,q⟩:=h;cases em;exact q H b⟩
theorem Hv{t:Expr}{m:Mi Bool}(h:JT X E t m):JF X E [t] m:=⟨GY h.p⟩
noncomputable abbrev u0:XK:=λ_ _ _=>False
theorem wy{n:Nat}{G:Mg}{T:St}{o:Hp}{U Z':List Sl}{S as ys:List A}{J:It}(g:Y.length=lo)(u:c.toKx=kx X)(li:T.length=S.length)
  (it:∀Y H Z F D i,F.length=D.length->Bd c Y H Z (F++(T++B)) (D++(S.map Sl.fr++θ))->(as.length<=i->J.stop i H)/\∀a,as[i]?=some a->J.go i H/\∀x H',J.yld i H x H'->Bd c Y H' Z (some x::(F++(T++B))) (.fr a::(D++(S.map Sl.fr++θ))))
  (b1:Bd c Y o U (T++B) (S.map Sl.fr++θ))(d:as.length<=100000)(ec:dB G mt me as [] (U++QZ n .un)=some (ys,Z'))(q:Oa (kx X) E c Y (Z'.take U.length) B θ Q (.ok (.nw (.lst ys)))):
  AD J (N7 (kx X) lo G) (Dv (kx X) u0 mt) (kO (kx X) u0 me) Q (Y++QZ n none) o:=by
 have w:=b1.rA;refine⟨λi m j vs H'=>m=as.length-i/\i<=as.length/\j.take lo=Y/\∃R acc,vs.length=acc.length/\acc.length<=i/\Bd c j H' R (vs.reverse.map some++(T++B)) (acc.reverse.map Sl.fr++(S.map Sl.fr++θ))/\dB G mt me (as.drop i) acc R=some (ys,Z'),
  ⟨_,rfl,R7 _,by simp only[<-g,List.take_left],_,[],rfl,R7 _,b1.Oc,by simpa using ec⟩,?_⟩
 rintro i m j vs H' ⟨rfl,hi,L,R,acc,lv,la,bi,r⟩;refine⟨by have:=oH;lia,?_⟩;obtain⟨i1,i2⟩:=it j H' R (vs.reverse.map some) (acc.reverse.map Sl.fr) i (by simp[lv]) bi;by_cases O:i<as.length
 .have hd:=SU O;rw[hd] at r;obtain⟨go,yl⟩:=i2 as[i] Z4;refine .inr ⟨go,λP s z=>P.take lo=Y/\∃Z0 b,s.length=b.length/\b.length<=i+1/\Bd c P z Z0 (s.reverse.map some++(T++B)) (b.reverse.map Sl.fr++(S.map Sl.fr++θ))/\dB G mt me (as.drop (i+1)) b Z0=some (ys,Z'),
   λP s z ⟨q0,Z0,b,q1,q2,q3,q4⟩=>⟨as.length-(i+1),by lia,rfl,O,q0,Z0,b,q1,q2,q3,q4⟩,λx z y=>?_⟩
  have b2:=yl x z y;have fin:∀{Z0 N:List Sl}{k:Bool},G as[i] R=some Z0->mt Z0=some (.ok k,N)->(∀V h,V.take lo=Y->Bd c V h N (vs.reverse.map some++(T++B)) (acc.reverse.map Sl.fr++(S.map Sl.fr++θ))->if k=true then kO (kx X) u0 me V h λv t=>V.take lo=Y/\∃Z0 b,(vs++[v]).length=b.length/\b.length<=i+1/\Bd c V t Z0 ((vs++[v]).reverse.map some++(T++B)) (b.reverse.map Sl.fr++(S.map Sl.fr++θ))/\dB G mt me (as.drop (i+1)) b Z0=some (ys,Z') else V.take lo=Y/\∃Z0 b,vs.length=b.length/\b.length<=i+1/\Bd c V h Z0 (vs.reverse.map some++(T++B)) (b.reverse.map Sl.fr++(S.map Sl.fr++θ))/\dB G mt me (as.drop (i+1)) b Z0=some (ys,Z'))->N7 (kx X) lo G x j z λV H3=>Dv (kx X) u0 mt V H3 λk h=>if k=true then kO (kx X) u0 me V h λv t=>V.take lo=Y/\∃Z0 b,(vs++[v]).length=b.length/\b.length<=i+1/\Bd c V t Z0 ((vs++[v]).reverse.map some++(T++B)) (b.reverse.map Sl.fr++(S.map Sl.fr++θ))/\dB G mt me (as.drop (i+1)) b Z0=some (ys,Z') else V.take lo=Y/\∃Z0 b,vs.length=b.length/\b.length<=i+1/\Bd c V h Z0 (vs.reverse.map some++(T++B)) (b.reverse.map Sl.fr++(S.map Sl.fr++θ))/\dB G mt me (as.drop (i+1)) b Z0=some (ys,Z'):=
   λC K f=>⟨c,R,_,_,as[i],_,u,b2,C,λV H3 l l3 b3=>⟨c,_,_,_,.ok _,_,u,b3,K,λh I=>f V h (l.trans L) I⟩⟩
  cases xw r with
  |skip C K r=>exact fin C K λV h l I=>⟨l,_,acc,lv,by exact We ‹_›,I,r⟩
  |take C K ee ef r=>exact fin C K λV h l I=>⟨c,_,_,_,_,_,u,I,ee,λv t hv b5=>⟨l,_,_,by simp[lv],by simp;exact id ‹_›,by simpa using Bd.bW (xs:=[]) (ss:=[]) rfl b5 hv ef,r⟩⟩
 .have e:i=as.length:=by lia
  subst e;rw[T7] at r;cases r;refine .inl ⟨i1 (QR _),λp hp=>?_⟩;have b7:=Bd.AI bi (by simp[lv]) hp vs ys uq;have b8:=Bd.tQ (by simp[li]) b7;have es:j=Y++j.drop lo:=by rw[<-L];exact(SI _ _).symm
  rw[es] at b8;have b9:=b8.O0;rw[w] at b9;exact q _ _ trivial b9
theorem oU{n:Nat}{v:Mi (List A)}{G:Mg}(Y:St)(H:Hp)(Q:VK)(g:Y.length=lo)(h:kO (kx X) E (aH n v G mt me) Y H Q):
  BP n (Pw (kx X) E v) (N7 (kx X) lo G) (Dv (kx X) u0 mt) (kO (kx X) u0 me) Y H Q:=by
 obtain⟨c,Z,B,θ,o,O,u,b,em,q⟩:=h;rcases bind_some em with ⟨as,U,e1,e2⟩|⟨e,e1,e2⟩
 .refine⟨c,Z,B,θ,_,U,u,b,e1,λJ y T S a it b1=>?_⟩;split at e2
  .rename_i d;cases f:dB G mt me as [] (U++QZ n .un) with
   |none=>rw[f] at e2;cases e2
   |some p=>simp only[f] at e2;cases e2;exact wy g u a (λY H Z F D i l b=>it c Y H Z F D B θ i u l b) b1 d f q
  .cases e2
 .subst e2;exact⟨c,Z,B,θ,_,O,u,b,e1,λC y hm b1=>q C y hm b1⟩
theorem Dh{k:Nat}{sc:Scope}{mi:Mi (List A)}{G:Mg}(hc:X.calm=true)(S:gj X.N N k sc X.env.scope)(hlo:X.N.length=lo)(hi:JI X E tg iter mi)
  (hg:∀cl C s H fp,JG (jk X N sc cl C s H fp) lo tg G)(ht:∀cl C s H fp,JF (jk X N sc cl C s H fp) u0 ifs mt)(he:∀cl C s H fp,JE (jk X N sc cl C s H fp) u0 elt me)(hs:∀x,XU iter X.env x=pure x:=by intro _;rfl):
  JE X E (.ListComp elt [⟨tg,iter,ifs,0⟩] sc pos) (aH k mi G mt me):=
 ⟨λpins s Y H Q I h=>ER hc S hi.p (λcl C s H fp=>(hg cl C s H fp).p) (λcl C s H fp=>(ht cl C s H fp).p) (λcl C s H fp=>(he cl C s H fp).p) hs pins s Y H Q I (oU Y H Q (I.len.trans hlo) h)⟩
theorem Dx{x:Str}{spos:Pos}{k:Nat}{sc:Scope}{mi:Mi (List A)}{G:Mg}(hc:X.calm=true)(S:gj X.N N k sc X.env.scope)(hlo:X.N.length=lo)(hN:X.N.Nodup)(hx:X.N[i]?=some x)
  (hl:X.env.scope.names.lookup x=some .local)(hsw:XX (.ListComp elt [⟨tg,iter,ifs,0⟩] sc pos) (some (.Name x px)) spos.line X.env=pure true)(hi:JI X E tg iter mi)
  (hg:∀cl C s H fp,JG (jk X N sc cl C s H fp) lo tg G)(ht:∀cl C s H fp,JF (jk X N sc cl C s H fp) u0 ifs mt)(he:∀cl C s H fp,JE (jk X N sc cl C s H fp) u0 elt me)(hs:∀x,XU iter X.env x=pure x:=by intro _;rfl):
  JS X E (.Assign [.Name x px] (.ListComp elt [⟨tg,iter,ifs,0⟩] sc pos) spos) (aE i (aH k mi G mt me)):=
 ⟨λpins s Y H D I h=>Eg hc S hN hx hl hsw hi.p (λcl C s H fp=>(hg cl C s H fp).p) (λcl C s H fp=>(ht cl C s H fp).p) (λcl C s H fp=>(he cl C s H fp).p) hs pins s Y H D I (by
  obtain⟨c,Z,B,θ,f,O,ek,b,em,q⟩:=h;refine oU Y H _ (I.len.trans hlo) (d6 ek b em q λr v U H1 hv b1 em1=>?_);cases e1:xW r U with
  |none=>rw[e1] at em1;cases em1
  |some p=>
   obtain⟨t,Z'⟩:=p;rw[e1] at em1;obtain⟨b2,ht⟩:=Bd.xW hv b1 e1;cases e2:put i t Z' with
   |none=>simp only[e2] at em1;cases em1
   | some Z0=>simp only[e2] at em1;cases em1;exact q _ H1 (Bd.put b2 ht e2))⟩
noncomputable def aD(Z:List Sl)(i:Nat):Option LO:=match Z[i]? with
 |some (.lv o)=>some o
 |some (.pv o)=>some o
 |_=>none
noncomputable def setAt(Z:List Sl)(i:Nat)(o:LO):List Sl:=match Z[i]? with
 |some (.pv _)=>Z.set i (.pv o)
 |_=>Z.set i (.lv o)
theorem eu.live(b:eu c Y H Z B θ L)(h:aD Z i=some o)(o':LO)(u:HO):
  ∃p q,Y[i]?=some (some (.ref p))/\LR c.toKx (c.g H L) H p o q/\((∀H',H' p=some u->LR c.toKx (c.g H L) H' p o' q)->Bd c Y (upd H p u) (setAt Z i o') B θ):=by
 delta aD at h
 delta setAt
 cases es:Z[i]? with
 |none=>rw[es] at h;cases h
 |some s=>
  cases s with
  |un=>rw[es] at h;cases h
  |cf _=>rw[es] at h;cases h
  |fr a=>rw[es] at h;cases h
  |lv v=>rw[es] at h;cases h;obtain⟨p,q,h1,h2,h3⟩:=b.change es (.inl ⟨rfl,rfl⟩);exact⟨p,q,h1,h2,λk=>h3 λH' e _=>k H' e⟩
  |pv v=>rw[es] at h;cases h;obtain⟨p,q,h1,h2,h3⟩:=b.change es (.inr ⟨rfl,rfl⟩);exact⟨p,q,h1,h2,λk=>h3 λH' e _=>k H' e⟩
theorem Bd.uv{v:V}{a:A}(b:Bd c Y H Z (some v::B) (.fr a::θ)):∃L,eu c Y H Z B θ L/\RA c.toKx (c.g H L) v a:=by obtain⟨L,bl,r⟩:=Bd.lA (vs:=[v]) (as:=[a]) b rfl;cases r with|cons h _=>exact⟨L,bl,h⟩
def jr(i:Nat)(m:Mi Rr):Mi Rr:=aY m λr Z=>match bW r Z with
 |some (a,U)=>match aD U i with
  |some (.lst xs)=>if xs.length<=16000000 then some (.ok (.fr .non),setAt U i (.lst (xs++[a]))) else none
  |_=>none
 |none=>none
theorem lT{xs:List A}(b:Bd c Y H Z B θ)(h:aD Z i=some (.lst xs)):∃p vs,Y[i]?=some (some (.ref p))/\H p=some (.lst vs):=by obtain⟨L,b⟩:=b;obtain⟨p,_,h1,h2,a⟩:=b.live h (.lst xs) (.lst []);cases h2 with|lst e r=>exact⟨p,_,h1,e⟩
def Ku(Z:List Sl)(i:Nat):Bool:=match aD Z i with
 |some (.lst _)=>true
 |_=>false
def xU(i:Nat)(m:Mi Rr):Mi Rr:=λZ=>if Ku Z i then m Z else none
theorem qF(h:Ku Z i=true):∃xs,aD Z i=some (.lst xs):=by
 delta Ku at h
 cases e:aD Z i with
 |none=>rw[e] at h;cases h
 |some o=>cases o with
  |lst xs=>exact⟨xs,rfl⟩
  |dic _=>rw[e] at h;cases h
  |dit _=>rw[e] at h;cases h
  |obj _ _=>rw[e] at h;cases h
  |nob _ _ _=>rw[e] at h;cases h
theorem xR{x:Str}{apos cpos:Pos}{m:Mi Rr}(hN:X.N[i]?=some x)(hv:j9 X.env.scope x)(hd:fM x)(hcd:lG x)(he:JE X E e m)
  (hbase:XE (.Name x px) "append" X.env (eval (.Name x px) X.env)=eval (.Name x px) X.env:=by rfl)
  (hfew:((XI cpos (XB [e] X.env)).all (λx=>!x.1)&&(XY cpos (XO [] X.env)).all (λx=>x.1.isSome)&&decide (([e]:List Expr).length+([]:List XW).length+(if ([]:List XW).isEmpty then 0 else 1)<30))=true:=by rfl)
  (hline:(apos.endLine==cpos.line)=true:=by rfl)(hs:XB [e] X.env=(false,eval e X.env)::XB [] X.env:=by rfl)(hplain:(XI cpos (XB [] X.env)).any (·.1)=false:=by rfl):
  JE X E (.Call (.Attribute (.Name x px) "append" apos) [e] [] cpos) (xU i (jr i m)):=
 ⟨PE.weaken (oO Sb TC TF kh (bU hN hv hd hcd) (a9 he.p cB hs) hbase hfew hline hs hplain) λY H Q h=>by
  obtain⟨c,Z,B,θ,o,O,ek,b,em,q⟩:=h
  delta xU at em
  split at em
  .rename_i hl;obtain⟨xs0,hl⟩:=qF hl;obtain⟨p,vs,hp,hH⟩:=lT b hl;refine⟨_,hp,.inl ⟨rfl,vs,.inl (.inl hH)⟩,?_⟩;refine bF ek b em (λr v U H1 hv b1 em1=>?_) (bY q);cases e1:bW r U with
   |none=>rw[e1] at em1;cases em1
   |some pr=>
    obtain⟨a,Z'⟩:=pr;rw[e1] at em1;have b2:=Bd.bW (xs:=[]) (ss:=[]) rfl b1 hv e1;cases e2:aD Z' i with
    |none=>simp only[e2] at em1;cases em1
    |some lo=>
     cases lo with
     |dic _=>simp only[e2] at em1;cases em1
     |dit _=>simp only[e2] at em1;cases em1
     |obj _ _=>simp only[e2] at em1;cases em1
     |nob _ _ _=>simp only[e2] at em1;cases em1
     |lst xs=>
      simp only[e2] at em1;split at em1
      .rename_i hx;cases em1;obtain⟨L,bl,ra⟩:=Bd.uv b2;obtain⟨p',_,h1,h2,h3⟩:=bl.live e2 (.lst (xs++[a])) (.lst ((match H1 p with|some (.lst ws)=>ws|_=>[])++[v]));rw[hp] at h1;cases h1;cases h2 with
       |lst e rr=>rename_i ws;rw[e] at h3;refine⟨p,ws,v,rfl,rfl,e,by have:=rr.len;have:=X4;lia,q _ _ trivial (Bd.push (h3 λH' hh=>.lst hh (rr.snoc ra)) λ_=>.non)⟩
      .cases em1
  .cases em⟩
def gq(i:Nat)(mk m:Mi Rr):Ms:=dq m λr S=>if Ku S i then dq mk (λc=>λZ=>match bW r Z with
 |some (a,U)=>match res U c,aD U i with
  |some (.int k),some (.lst xs)=>match gF xs.length k with
   |some j=>some (.nx,setAt U i (.lst (xs.set j a)))
   |none=>none
  |_,_=>none
 | none=>none) S else none
theorem Bp{x:Str}{z:Pos}{u:Expr}{mk m:Mi Rr}(hN:X.N[i]?=some x)(A:j9 X.env.scope x)(hd:fM x)(s:lG x)(hk:JE X E u mk)(he:JE X E e m)
  (hp:∀{F K I:TE},PE X (.Name x px) F->PE X u K->PE X e I->PS X (.Assign [.Subscript (.Name x px) u z] e pos) (sA I (zF F K qS))):JS X E (.Assign [.Subscript (.Name x px) u z] e pos) (gq i mk m):=
 ⟨PS.weaken (hp (bU hN A hd s) hk.p he.p) λD Y H h=>by
  obtain⟨c,Z,B,θ,f,O,u,b,em,q⟩:=h;refine d6 u b em q λr v U H1 A b1 T=>?_;split at T
  .rename_i hl;obtain⟨R,hl⟩:=qF hl;obtain⟨p,vs,hp,hH⟩:=lT b1 hl;refine⟨_,hp,?_⟩;rcases fC T with ⟨Q,Z',e1,e2⟩|⟨ee,e1,e2⟩
   .refine⟨c,U,_,_,_,Z',u,b1,e1,λw S g b2=>?_⟩;cases y:bW r Z' with
    |none=>rw[y] at e2;cases e2
    |some pr=>
     obtain⟨a,Z0⟩:=pr;rw[y] at e2;have l:Bd c Y S Z0 (cW Q w (some v::B)) (cV Q (.fr a::θ.map Sl.fr)):=by obtain⟨o,n,d⟩:=oJ Q w (cW r v B) (cV r (θ.map Sl.fr));obtain⟨g4,g5,_⟩:=oJ Q w (some v::B) (.fr a::θ.map Sl.fr);simp only[g4,g5];simp only[o,n] at b2;exact Bd.bW d b2 A y
     cases G:res Z0 Q with
     |none=>simp only[G] at e2;cases e2
     |some ak=>
      cases ak<;>first|(simp only[G] at e2;cases e2;done)|skip
      rename_i k;have J:=Bd.rd l g G;cases J;cases P:aD Z0 i with
      |none=>simp only[G,P] at e2;cases e2
      |some lo=>
       cases lo with
       |dic _=>simp only[G,P] at e2;cases e2
       |dit _=>simp only[G,P] at e2;cases e2
       |obj _ _=>simp only[G,P] at e2;cases e2
       |nob _ _ _=>simp only[G,P] at e2;cases e2
       |lst xs=>
        simp only[G,P] at e2;cases V:gF xs.length k with
        |none=>rw[V] at e2;cases e2
        |some j=>
         simp only[V] at e2;cases e2;obtain⟨L,bl,ra⟩:=Bd.uv l.drop;obtain⟨p',_,h1,h2,h3⟩:=bl.live P (.lst (xs.set j a)) (.lst ((match S p with|some (.lst ws)=>ws|_=>[]).set j v));rw[hp] at h1;cases h1;cases h2 with
         |lst e t=>rename_i ws;rw[e] at h3;exact⟨p,ws,k,j,rfl,rfl,e,by rw[t.len];exact V,q Y _ (h3 λH' hh=>.lst hh (t.set ra j))⟩
   .subst e2;exact⟨c,U,_,_,_,O,u,b1,e1,λC S hm b2=>q C Y S hm b2.drop⟩
  .cases T⟩
end
section
variable{X:Cx}{E:XK}
open PySem.Spec PyProof.Rows PySem.W in
open PySem.Spec PyProof.Rows PySem.W in
end
theorem eu.Nx{v:V}{a b:A}(bl:eu c Y H Z B θ L)(h1:RA c.toKx (c.g H L) v a)(h2:RA c.toKx (c.g H L) w b):Bd c Y H Z (some v::some w::B) (.fr a::.fr b::θ):=
 ⟨L,bl.nd,av.cons (.fr h1) (av.cons (.fr h2) bl.rel),bl.own,bl.fr,bl.kp,by simp[bl.lt],bl.hd⟩
variable{j:Nat}
section
variable{X:Cx}{E:XK}
open PySem.Spec PyProof.Rows PySem.W in
def aB:Mi (Option Int):=lW none
def aT(m:Mi Rr):Mi (Option Int):=aY m λr Z=>match res Z r with
 |some (.int i)=>some (.ok (some i),Z)
 |_=>none
def KQ(K:Kx)(E:XK)(c:Cn)(Y:St)(Z:List Sl)(B:St)(θ:List Sl)(Q:Option Int->Hp->Prop):Except Str (Option Int)->Prop
 | .ok i=>∀H,Bd c Y H Z B θ->Q i H
 | .error x=>∀C H,K.mg x=some (.ref C)->Bd c Y H Z B θ->E (.ref C) none H
inductive P5(K:Kx)(E:XK)(m:Mi (Option Int))(Y:St)(H:Hp)(Q:Option Int->Hp->Prop):Prop
 |mk(c:Cn)(Z:List Sl)(B:St)(θ:List Sl)(o:Except Str (Option Int))(O:List Sl)(h1:c.toKx=K)(h2:Bd c Y H Z B θ)(h3:m Z=some (o,O))(h4:KQ K E c Y O B θ Q o)
structure JP(X:Cx)(E:XK)(e:Option Expr)(m:Mi (Option Int)):Prop where
 p:PO X e (P5 (kx X) E m)
theorem PO.weaken{e:Option Expr}{t t':TO}(h:PO X e t)(f:∀Y H Q,t' Y H Q->t Y H Q):PO X e t':=λpins s Y H Q I q=>h pins s Y H Q I (f Y H Q q)
theorem zt{o:Except Str (Option Int)}{Q:Option Int->Hp->Prop}(q:KQ (kx X) E c Y O B θ Q o):∀e,o=.error e->∀C H,X.mg e=some (.ref C)->Bd c Y H O B θ->E (.ref C) none H:=λe p=>by subst p;exact q
theorem EW:JP X E none aB:=⟨PO.weaken Ez λY H Q h=>by obtain⟨c,Z,B,θ,o,O,u,b,em,q⟩:=h;cases em;exact q H b⟩
theorem EM{m:Mi Rr}(h:JE X E e m):JP X E (some e) (aT m):=⟨PO.weaken (Eu h.p) λY H Q h=>by
 obtain⟨c,Z,B,θ,o,O,u,b,em,q⟩:=h;refine bF u b em (λx v U i A b1 r=>?_) (zt q);cases e1:res U x with
 |none=>rw[e1] at r;cases r
 |some a=>
  have n:=Bd.rd b1 A e1;cases a<;>first|(simp only[e1] at r;cases r;done)|skip
  simp only[e1] at r;cases r;cases n;exact⟨_,rfl,q i b1.drop⟩⟩
def gu(xs:List A)(lo hi:Option Int):List A:=(xs.drop (HT.c7 xs.length 0 lo)).take (HT.c7 xs.length xs.length hi-HT.c7 xs.length 0 lo)
theorem yO{k:Kx}{as:List A}(r:bX k G vs as)(lo hi:Option Int):bX k G (ql vs lo hi) (gu as lo hi):=by
 delta ql gu
 rw[r.len]
 exact(r.drop _).take _
theorem u6{D:Type}{m:Mi (Option Int)}{f:Option Int->Mi D}{o:Except Str D}{Q:Option Int->Hp->Prop}(u:c.toKx=kx X)(b:Bd c Y H Z B θ)(em:aY m f Z=some (o,O))
  (h1:∀k U i,Bd c Y i U B θ->f k U=some (o,O)->Q k i)
  (h2:∀e,o=.error e->∀C H,X.mg e=some (.ref C)->Bd c Y H O B θ->E (.ref C) none H):P5 (kx X) E m Y H Q:=by
 rcases bind_some em with ⟨x,U,e1,e2⟩|⟨e,e1,e2⟩
 .exact⟨c,Z,B,θ,_,U,u,b,e1,λi b1=>h1 x U i b1 e2⟩
 .exact⟨c,Z,B,θ,_,O,u,b,e1,λC i hm b1=>h2 e e2 C i hm b1⟩
noncomputable def Qx(f g:Mg):Mg:=λa Z=>match f a Z with
 |some r=>some r
 |none=>g a Z
def K8(m:Mi Rr)(G:Mg):Ms:=dq m λr Z=>match bW r Z with
 |some (a,U)=>match G a U with
  |some Z'=>some (.nx,Z')
  |none=>none
 |none=>none
theorem GZ{m:Mi Rr}{G:Mg}(he:JE X E e m)(hg:JG X 0 tg G)(hs:Ye [tg] e pos.line X.env=pure false:=by rfl)(hw:X6 [tg] e X.env=pure none:=by rfl)
  (hp:∀{te:TE}{g:TG},PE X e te->PG X tg g->PS X (.Assign [tg] e pos) (sA te g)):JS X E (.Assign [tg] e pos) (K8 m G):=⟨PS.weaken (hp he.p hg.p) λD Y H h=>by
 obtain⟨c,Z,B,θ,f,O,ek,b,em,q⟩:=h;refine d6 ek b em q λr v U H1 hv b1 em1=>?_;cases e1:bW r U with
 |none=>rw[e1] at em1;cases em1
 |some p=>
  obtain⟨a,Z'⟩:=p;rw[e1] at em1;have b2:=Bd.bW (xs:=[]) (ss:=[]) rfl b1 hv e1;cases e2:G a Z' with
  |none=>simp only[e2] at em1;cases em1
  | some Z0=>simp only[e2] at em1;cases em1;exact⟨c,Z',B,_,a,O,ek,b2,e2,λj H' _ _ b3=>q j H' b3⟩⟩
def CV(i j:Nat)(rs:List Rr)(Z:List Sl):Option (Fl×List Sl):=match eH rs Z with
 |some ([a,b],U)=>match put i (.fr a) U with
  |some Z'=>match put j (.fr b) Z' with
   |some Z0=>some (.nx,Z0)
   |none=>none
  |none=>none
 |_=>none
theorem xn{f:Fl}(h:CV i j rs Z=some (f,O)):∃a d Z' Z0,eH rs Z=some ([a,d],Z')/\put i (.fr a) Z'=some Z0/\put j (.fr d) Z0=some O/\f=.nx:=by
 delta CV at h
 cases H:eH rs Z with
 |none=>rw[H] at h;cases h
 |some p=>
  rw[H] at h;obtain⟨as,Z'⟩:=p
  match as,h with
  |[a,d],h=>
   dsimp only at h;cases A:put i (.fr a) Z' with
   |none=>rw[A] at h;cases h
   |some Z0=>
    rw[A] at h;dsimp only at h;cases v:put j (.fr d) Z0 with
    |none=>rw[v] at h;cases h
    |some N=>simp only[v] at h;cases h;exact⟨a,d,Z',Z0,rfl,A,v,rfl⟩
theorem Cp{l:List α}(h:l.length=2):∃a b,l=[a,b]:=match l,h with
 |[a,b],_=>⟨a,b,rfl⟩
def yT(i j:Nat)(m:Mi (List Rr)):Ms:=dq m (CV i j)
theorem Ir{s:Stmt}{m:Mi (List Rr)}(V:JA X E es m)(G:i≠j)(hp:∀{ta:TA},PA X es ta->PS X s (LA i j ta)):JS X E s (yT i j m):=⟨PS.weaken (hp V.p) λD Y H h=>by
 obtain⟨c,Z,B,θ,f,O,u,b,em,q⟩:=h;rcases fC em with ⟨rs,U,e1,e2⟩|⟨e,e1,e2⟩
 .refine⟨c,Z,B,_,_,U,u,b,e1,λvs y A b1=>?_⟩;obtain⟨a,d,Z',Z0,T,N,P,rfl⟩:=xn e2;obtain⟨b2,r⟩:=Bd.eH A b1 T;obtain⟨v,w,rfl⟩:=Cp r;refine⟨v,w,rfl,q _ y ?_⟩;have J:Bd c Y y Z' (some w::some v::B) (.fr d::.fr a::θ.map Sl.fr):=by simpa using b2
  obtain⟨L,bl,x⟩:=Bd.lA (vs:=[w,v]) (as:=[d,a]) J rfl;cases x with|cons h1 x=>cases x with|cons h2 _=>
  exact Bd.put (Bd.put (eu.Nx bl h2 h1) rfl N) rfl P
 .subst e2;exact⟨c,Z,B,_,_,O,u,b,e1,λC y hm b1=>q C Y y hm b1⟩⟩
end
section
variable{X:Cx}{E:XK}{a b:Expr}{ma mb:Mi Rr}{pos:Pos}
theorem Hz(f:JE X E a ma)(d:JE X E b mb):JE X E (.BinOp a .Sub b pos) (ay fE ma mb):=mr Jk J5 f d
theorem Jv(f:JE X E a ma)(d:JE X E b mb):JE X E (.BinOp a .FloorDiv b pos) (ay iI ma mb):=mr AR GA f d
theorem IG(f:JE X E a ma)(d:JE X E b mb):JE X E (.BinOp a .Mod b pos) (ay kW ma mb):=mr EU JY f d
theorem HQ(f:JE X E a ma)(d:JE X E b mb):JE X E (.BinOp a .Pow b pos) (ay nF ma mb):=mr Hh Gs f d
theorem KH(g:X.A.units+64<cLine)(f:JE X E a ma)(d:JE X E b mb):JE X E (.Compare a [.Eq] [b] pos) (ay gw ma mb):=gp (BX g) os_eq f d (dH _)
theorem KW(g:X.A.units+64<cLine)(f:JE X E a ma)(d:JE X E b mb):JE X E (.Compare a [.NotEq] [b] pos) (ay iX ma mb):=gp (yt g) Gi f d (dH _)
theorem KA(f:JE X E a ma)(d:JE X E b mb):JE X E (.Compare a [.Lt] [b] pos) (ay k9 ma mb):=gp jB FW f d (dH _)
theorem Nd(f:JE X E a ma)(d:JE X E b mb):JE X E (.Compare a [.Gt] [b] pos) (ay sd ma mb):=gp kL E8 f d (dH _)
theorem L6(f:JE X E a ma)(d:JE X E b mb):JE X E (.Compare a [.GtE] [b] pos) (ay E6 ma mb):=gp Gk E9 f d (dH _)
theorem Nm(f:JE X E a ma)(d:JE X E b mb):JE X E (.Compare a [.Is] [b] pos) (ay (qx false) ma mb):=gp yg Fs f d (dH _)
theorem ES(f:JE X E a ma)(d:JE X E b mb):JE X E (.Compare a [.IsNot] [b] pos) (ay (qx true) ma mb):=gp uH uN f d (dH _)
theorem L8(g:X.A.units+64<cLine)(f:JE X E a ma)(d:JE X E b mb):JT X E (.Compare a [.Eq] [b] pos) (aj (ay gw ma mb)):=gD (BX g) os_eq f d (dH _)
theorem MO(g:X.A.units+64<cLine)(f:JE X E a ma)(d:JE X E b mb):JT X E (.Compare a [.NotEq] [b] pos) (aj (ay iX ma mb)):=gD (yt g) Gi f d (dH _)
theorem K6(f:JE X E a ma)(d:JE X E b mb):JT X E (.Compare a [.Lt] [b] pos) (aj (ay k9 ma mb)):=gD jB FW f d (dH _)
theorem MM(f:JE X E a ma)(d:JE X E b mb):JT X E (.Compare a [.Gt] [b] pos) (aj (ay sd ma mb)):=gD kL E8 f d (dH _)
theorem M5(f:JE X E a ma)(d:JE X E b mb):JT X E (.Compare a [.GtE] [b] pos) (aj (ay E6 ma mb)):=gD Gk E9 f d (dH _)
theorem Mt(f:JE X E a ma)(d:JE X E b mb):JT X E (.Compare a [.Is] [b] pos) (aj (ay (qx false) ma mb)):=gD yg Fs f d (dH _)
theorem DE(f:JE X E a ma)(d:JE X E b mb):JT X E (.Compare a [.IsNot] [b] pos) (aj (ay (qx true) ma mb)):=gD uH uN f d (dH _)
end
noncomputable def Af:Nat:=2^10000
noncomputable def zK(K:QJ):Sp:=λvs H Q _=>∃(p:Addr)(ns:List Int),vs=[.ref p]/\dR K H p (ns.map V.int)/\ns.length<=63/\∀H',Q (.bl true) H'
theorem uL{k:Kx}{G:Hp}:∀(ns:List Int),bX k G (ns.map V.int) (ns.map A.int)
 |[]=>.nil
 |n::ns=>.cons (.int n) (uL ns)
theorem Jw{P:Program}{w:XM}{K:QJ}{mg:Str->Option Value}{base:Heap}{k:Nat}{m:Ms}(F:dP P w K mg base CX k f fd ps (iY ⟨K,mg,P,w⟩ 1 m))
  (h:∀ns:List Int,ns.length<=63->∃Z,m [.fr (.lst (ns.map A.int))]=some (.rt (.fr (.bl true)),Z)):dP P w K mg base CX k f fd ps (zK K):=
 F.imp λvs H Q E q=>by
  obtain⟨p,ns,rfl,hs,hl,q⟩:=q;obtain⟨Z,e⟩:=h ns hl
  let c:Cn:={ K:=K,mg:=mg,P:=P,w:=w,σ0:=[some (.ref p)],H0:=H,Lp:=[],Hd:=[],Wk:=[] }
  refine⟨rfl,c,_,_,Z,rfl,rfl,rfl,⟨.nil,av.cons (.fr (.lst (fz (Sq.of λb o e=>?_) hs) (uL ns))) .nil,λp hp=>(by cases hp),⟨λb o e=>⟨o,e,λ_ _=>rfl⟩,λq R=>(by cases R)⟩,λi o _ _=>rfl,rfl,λq R=>(by cases R)⟩,e,λv H' _ b=>?_⟩
  .rw[bM (λz=>by cases z) (λz=>by cases z)];exact e
  .have r:=Bd.top b rfl;cases r;exact q H'
def dS(m:Mi Rr):Mi Rr:=aY m λr Z=>match bW r Z with
 |some (a,O)=>some (.ok (.fr a),O)
 |none=>none
theorem Nn{E:XK}{m:Mi Rr}(he:JE X E e m):JE X E e (dS m):=⟨PE.weaken he.p λY H Q h=>by
 obtain⟨c,Z,B,θ,o,O,u,b,em,q⟩:=h;refine bF u b em (λx v U i A b1 r=>?_) (bY q);cases e1:bW x U with
 |none=>rw[e1] at r;cases r
 | some p=>rw[e1] at r;cases r;exact q v i trivial (Bd.bW (xs:=[]) (ss:=[]) rfl b1 A e1)⟩
section
variable{X:Cx}{E:XK}
inductive Ty where|bool|int|str|tuple|list|dict
 deriving DecidableEq
noncomputable def Ty.n:Ty->String
 | .bool=> "bool" | .int=> "int" | .str=> "str" | .tuple=> "tuple" | .list=> "list" | .dict=> "dict"
noncomputable def Ox(T:Ty):A->Option Bool
 | .non=>some false
 | .bl _=>some (T=.bool || T=.int)
 | .int _=>some (T=.int)
 | .str _=>some (T=.str)
 | .tup _=>some (T=.tuple)
 | .lst _=>some (T=.list)
 | .dic _=>some (T=.dict)
 |_=>none
def nG(T:Ty)(a:A):Option Rr:=match Ox T a with
 |some k=>some (.fr (.bl k))
 |none=>none
theorem Iz(K:QJ)(T:Ty):Sf K (.type "NoneType") (.type T.n)=some false:=by cases T<;>kernel_rfl
theorem Dz(K:QJ)(T:Ty):Sf K (.type "bool") (.type T.n)=some (T=.bool || T=.int:Bool):=by cases T<;>kernel_rfl
theorem HC(K:QJ)(T:Ty):Sf K (.type "int") (.type T.n)=some (T=.int:Bool):=by cases T<;>kernel_rfl
theorem Iy(K:QJ)(T:Ty):Sf K (.type "str") (.type T.n)=some (T=.str:Bool):=by cases T<;>kernel_rfl
theorem Ke(K:QJ)(T:Ty):Sf K (.type "tuple") (.type T.n)=some (T=.tuple:Bool):=by cases T<;>kernel_rfl
theorem Jr(K:QJ)(T:Ty):Sf K (.type "list") (.type T.n)=some (T=.list:Bool):=by cases T<;>kernel_rfl
theorem Ht(K:QJ)(T:Ty):Sf K (.type "dict") (.type T.n)=some (T=.dict:Bool):=by cases T<;>kernel_rfl
theorem Jb(T:Ty):sL K (λv H Q=>∃x c t b,[v,V.ty T.n]=[x,c]/\Io K.K H x t/\Aw c=true/\Sf K.K t (Ij c)=some b/\Q (.bl b) H) (nG T):=.scalar λH v a q f h=>by
 cases a<;>first|exact cF h|skip
 .cases f;cases h;exact⟨_,_,rfl,λ_=>.bl _,λQ k=>⟨_,_,_,_,rfl,.of .non,rfl,Iz _ T,k⟩⟩
 .cases f;cases h;exact⟨_,_,rfl,λ_=>.bl _,λQ k=>⟨_,_,_,_,rfl,.of (.bl _),rfl,Dz _ T,k⟩⟩
 .cases f;cases h;exact⟨_,_,rfl,λ_=>.bl _,λQ k=>⟨_,_,_,_,rfl,.of (.int _),rfl,HC _ T,k⟩⟩
 .cases f;cases h;exact⟨_,_,rfl,λ_=>.bl _,λQ k=>⟨_,_,_,_,rfl,.of (.str _),rfl,Iy _ T,k⟩⟩
 .cases f with
  |tup e r=>cases h;exact⟨_,_,rfl,λ_=>.bl _,λQ k=>⟨_,_,_,_,rfl,.tup e,rfl,Ke _ T,k⟩⟩
 .cases f with
  |lst e r=>cases h;exact⟨_,_,rfl,λ_=>.bl _,λQ k=>⟨_,_,_,_,rfl,.lst e,rfl,Jr _ T,k⟩⟩
 .cases f with
  |dic e r=>cases h;exact⟨_,_,rfl,λ_=>.bl _,λQ k=>⟨_,_,_,_,rfl,.dic e,rfl,Ht _ T,k⟩⟩
theorem Js{x y:Str}{p p2:Pos}{m:Mi Rr}(T:Ty)(hg:Gl X x)(hm:X.mg x=none)(hv:XD x=some (.builtin "isinstance"))(hg2:Gl X y)(hm2:X.mg y=none)(hv2:XD y=some (.type T.n))(ha:JE X E e m)(hn:x ≠ "__name__")
  (hdb:fM x)(hn2:y ≠ "__name__")(hdb2:fM y)(hs:XB [e,.Name y p2] X.env=(false,eval e X.env)::XB [.Name y p2] X.env:=by rfl)(hs2:XB [.Name y p2] X.env=(false,eval (.Name y p2) X.env)::XB [] X.env:=by rfl)(hp:(XI pos (XB [.Name y p2] X.env)).any (·.1)=false:=by rfl):JE X E (.Call (.Name x p) [e,.Name y p2] [] pos) (cE (nG T) m):=
 ⟨PE.weaken (jH zO hg hm hv (a9 ha.p (a9 (EE hg2 hm2 hv2 (v:=.ty T.n) rfl hn2 hdb2) cB hs2) hs) hn hdb hs hp) λY H Q h=>jm (Jb T) Y H Q h⟩
end
section
variable{X:Cx}{E:XK}
theorem Bd.Mf{v:V}{a b:A}(e:xs.length=ss.length)(q:Bd c Y H Z (xs++(some v::some w::B)) (ss++(.fr a::.fr b::θ))):∃L,eu c Y H Z (xs++(some v::some w::B)) (ss++(.fr a::.fr b::θ)) L/\RA c.toKx (c.g H L) v a/\RA c.toKx (c.g H L) w b:=by
 obtain⟨L,q⟩:=q;have r:av c.toKx (c.g H L) H (xs++(some v::some w::(B++Y))) (ss++(.fr a::.fr b::(θ++Z))) L:=by have:=q.rel;simpa[QN] using this
 obtain⟨X,L2,e1,n,k⟩:=av.split e r;cases k with
 |cons h N=>
  cases N with
  |cons h2 D=>
   cases h with
   |fr h=>
    cases h2 with
    |fr h2=>exact⟨L,q,h,h2⟩
noncomputable def kC(as bs:List A):List A:=(as.zip bs).map λp=>.tup [p.1,p.2]
end
section
variable{X:Cx}{E:XK}
def yq(K:QJ):R2:=λx y H Q=>∃a b xs ys,x=.ref a/\y=.ref b/\dR K H a xs/\dR K H b ys/\xs.length+ys.length<=sizeLine/\∀p,H p=none->Q (.ref p) (upd H p (.lst (xs++ys)))
theorem Bj:iU X (X9 .Add) (yq X.K):=by
 intro pins s Y H x y v u Q I G z h;obtain⟨a,b,xs,ys,rfl,rfl,f,d,hz,q⟩:=h;cases G;cases z;obtain⟨j,n,T,_⟩:=I.list f;obtain⟨B,k,P,_⟩:=I.list d;obtain⟨⟨C,V,S,L⟩,O,e1,c,m,D⟩:=id T;obtain⟨⟨l,o,e,r⟩,Z,e2,p,w,E⟩:=id P;subst c D p E m w;have t:=n.length;have R:=k.length;refine concat_meets ⟨_,e1,rfl⟩ ⟨_,e2,rfl⟩ noFill_list_add seq_list_add PySem.F.slot_list_add PySem.F.entry_list_add (PySem.F.args_list_add_2 _ _) (Xb a b _ _ O Z _ _ L r (by simp only[QQ,QQ];lia)) ⟨e1,e2,?_⟩;have J:j.toArray++B.toArray=(j++B).toArray:=by simp
 rw[J];exact⟨.ref _,_,I.Hx (n.append k) (by rw[Q7];lia),rfl,q _ I.fresh⟩
noncomputable def Av:A->A->Option Rr
 | .lst xs,.lst ys=>if xs.length+ys.length<=100000 then some (.nw (.lst (xs++ys))) else none
 |_,_=>none
theorem Ej:jf K (yq K.K) Av:=by
 intro c Y H Z B θ x y v w a b q Q u A O bd e1 e2 N k;cases a<;>first|exact cF N|(cases b<;>first|exact cF N|skip)
 rename_i xs ys
 delta Av at N
 simp only at N;split at N
 .rename_i hc;cases N;obtain⟨L,bl,m,I⟩:=Bd.zj bd A O e1 e2;obtain⟨T,h,rfl,s1,n⟩:=m.1 xs rfl;obtain⟨P,s,rfl,s2,o⟩:=I.1 ys rfl;have D:=n.len;have r:=o.len;subst u;exact⟨T,P,h,s,rfl,rfl,s1,s2,by have:=oH;lia,λp hp=>k _ _ trivial (bl.kH hp λG H' sm q=>.lst q ((n.app o).sm sm))⟩
 .cases N
end
end M
set_option maxHeartbeats 4000000
set_option maxHeartbeats 1000000
namespace M
open PySem L2
variable{s:Sl}{cn:Str}{r:Rr}
section
variable{c:Cn}{Y:St}{H:Hp}{Z:List Sl}{B:St}{θ:List Sl}
theorem eV.Fz{k:Kx}{G:Hp}{x:Option V}{L:List Addr}{fs:List (Str×A)}(h:eV k G H x s L)(sm:Sq G H)(e:s.a=some (.obj cn fs)):∃p C dx vs,x=some (.ref p)/\H p=some (.ins C dx vs)/\k.mg cn=some (.ref C)/\hU k G vs fs:=by
 have lo:∀p o q,LR k G H p o q->o.rd=some (A.obj cn fs)->∃C dx vs,H p=some (.ins C dx vs)/\k.mg cn=some (.ref C)/\hU k G vs fs:=λp o q h z=>by
  cases h with
  |nob=>cases z
  |lst=>cases z
  |dic=>cases z
  |dit=>cases z
  |obj e m r=>cases z;exact⟨_,_,_,e,m,r⟩
 cases h with
 |un=>cases e
 |cf h=>cases e;cases h with|obj e m r=>exact⟨_,_,_,_,rfl,sm.keep e rfl,m,r⟩
 |fr h=>cases e;cases h with|obj e m r=>exact⟨_,_,_,_,rfl,sm.keep e rfl,m,r⟩
 |lv h=>obtain⟨C,dx,vs,h1,h2,h3⟩:=lo _ _ _ h e;exact⟨_,C,dx,vs,rfl,h1,h2,h3⟩
 |pv h=>obtain⟨C,dx,vs,h1,h2,h3⟩:=lo _ _ _ h e;exact⟨_,C,dx,vs,rfl,h1,h2,h3⟩
theorem Bd.Gj{v:V}{fs:List (Str×A)}(b:Bd c Y H Z (cW r v B) (cV r θ))(t:VR Y r v)(e:res Z r=some (.obj cn fs)):∃L p C dx vs,eu c Y H Z B θ L/\v=.ref p/\H p=some (.ins C dx vs)/\c.mg cn=some (.ref C)/\hU c.toKx (c.g H L) vs fs:=by
 obtain⟨u,b⟩:=b;have y:∀s,eu c Y H Z (some v::B) (s::θ) u->s.a=some (.obj cn fs)->∃L p C dx vs,eu c Y H Z B θ L/\v=.ref p/\H p=some (.ins C dx vs)/\c.mg cn=some (.ref C)/\hU c.toKx (c.g H L) vs fs:=by
  intro s b J;obtain⟨nd,rel,own,fr,kp,lt,w⟩:=b;have rel:av c.toKx (c.g H u) H (some v::(B++Y)) (s::(θ++Z)) u:=rel;cases rel with
  |cons h r=>rename_i q L2;have sm:Sq (c.g H (q++L2)) (c.g H L2):=dJ λa f=>QK _ f;obtain⟨p,C,dx,vs,h1,h2,h3,h4⟩:=(h.sm sm (λ_ _ _ e=>e)).Fz (g_same _ _ _) J;exact⟨L2,p,C,dx,vs,⟨(QV.mp nd).2.1,r.sm sm (λ_ _ _ e=>e),λp hp=>own p (QK _ hp),fr,kp,by simpa using lt,w⟩,Rh h1,h2,h3,h4⟩
 cases r with
 |rf i=>
  unfold res at e;cases es:Z[i]? with
  |none=>simp only[es] at e;cases e
  |some s=>simp only[es] at e;obtain⟨q,L2,e1,n,k⟩:=av.split b.lt b.rel;obtain⟨x,_,_,_,hx,hs,_⟩:=k.at es;have t:Y[i]?=some (some v):=t;rw[t] at hx;obtain⟨p,C,dx,vs,h1,h2,h3,h4⟩:=hs.Fz (g_same _ _ _) e;rw[<-Rh hx] at h1;exact⟨u,p,C,dx,vs,b,Rh h1,h2,h3,h4⟩
 |fr a'=>exact y _ b e
 |nw o=>exact y _ b e
theorem Bd.Qc{x:Option V}{ys:St}{ss:List Sl}(e:ys.length=ss.length)(b:Bd c Y H Z (x::(ys++B)) (s::(ss++θ))):Bd c Y H Z (ys++x::B) (ss++s::θ):=by
 obtain⟨L,b⟩:=b;have r:av c.toKx (c.g H L) H (x::(ys++(B++Y))) (s::(ss++(θ++Z))) L:=by have:=b.rel;simpa[QN] using this
 cases r with
 |cons h r=>
  rename_i q L2;obtain⟨y,v,e1,n,k⟩:=av.split e r;subst e1;have pm:(q++(y++v)).Perm (y++(q++v)):=by rw[<-QN,<-QN];exact Tg.append_right v
  refine⟨y++(q++v),(pm.nodup_iff).mp b.nd,?_,λp hp=>b.own p (pm.mem_iff.mpr hp),b.fr,b.kp,by have:=b.lt;simp[e] at this ⊢;lia,b.hd⟩;have J:c.g H (y++(q++v))=c.g H (q++(y++v)):=EV λa=>pm.mem_iff.symm;rw[J];have:=n.app (av.cons h k);simpa[QN] using this
end
variable{K:Kx}{cs:List Str}{f mn:Str}{e:Expr}{pos:Pos}{Z O:List Sl}{o:Except Str Rr}{mo:Mi Rr}{ma:Mi (List Rr)}{C:Addr}
section
variable{X:Cx}{E:XK}
def au(cs:List Str)(f:Str):A->Option Rr
 | .obj c fs=>if cs.contains c then (match fs.lookup f with
  |some a=>some (.fr a)
  | none=>none) else none
 |_=>none
def Fe(K:QJ)(f:Str):V->Hp->VK->Prop:=λx U Q=>∃a C dx fs v,x=.ref a/\U a=some (.ins C dx fs)/\hW K C/\cj K C f/\fs.lookup f=some v/\Q v U
theorem D7(hc:∀c C,cs.contains c=true->K.mg c=some (.ref C)->hW K.K C/\cj K.K C f):sL K (Fe K.K f) (au cs f):=by
 intro c Y H Z B θ x v a q Q o A bd e1 N k;cases a<;>first|(exact cF N)|skip
 rename_i cn fs;unfold au at N;simp only at N;split at N
 .rename_i b;cases P:fs.lookup f with
  |none=>simp only[P] at N;cases N
  |some w=>
   simp only[P] at N;cases N;obtain⟨L,p,C,dx,vs,bl,rfl,h2,h3,h4⟩:=Bd.Gj bd A e1;subst o;obtain⟨X,l⟩:=hc cn C b h3;rcases h4.get f with ⟨u,a,h,n,d⟩|⟨_,n⟩
   .rw[P] at n;cases n;exact⟨p,C,dx,vs,u,rfl,h2,X,l,h,k u H trivial (bl.push d)⟩
   .rw[P] at n;cases n
 .cases N
theorem vO{m:Mi Rr}(hc:∀c C,cs.contains c=true->X.mg c=some (.ref C)->hW X.K C/\cj X.K C f)(he:JE X E e m)(d:XE e f X.env (eval e X.env)=eval e X.env):JE X E (.Attribute e f pos) (aM (au cs f) m):=
 ⟨PE.weaken (fk he.p d) λY H Q h=>jm (r:=Fe X.K f) (D7 hc) Y H Q h⟩
def PQ(cs:List Str)(i:Nat)(f:Str)(m:Mi Rr):Ms:=dq m λr Z=>match bW r Z with
 |some (a,U)=>match aD U i with
  |some (.obj c fs)=>if cs.contains c&&Sz fs.length 900 then some (.nx,setAt U i (.obj c (kF f a fs))) else none
  |_=>none
 |none=>none
def bP(cn m:Str)(mo:Mi Rr):Mi Rr:=aY mo λr Z=>match res Z r with
 |some (.obj c fs)=>if c==cn&&(fs.lookup m).isNone then some (.ok r,Z) else none
 |_=>none
theorem nQ{m:Str}{r':Rr}(h:(match res Z r with|some (.obj c fs)=>if c==cn&&(fs.lookup m).isNone then some ((.ok r:Except Str Rr),Z) else none|_=>none)=some (o,O)):∃fs,res Z r=some (.obj cn fs)/\fs.lookup m=none/\o=.ok r/\O=Z:=by
 split at h
 .rename_i c fs e;split at h
  .rename_i hc;rw[QI,Zf,RM] at hc;cases h;exact⟨fs,by rw[e,hc.1],hc.2,rfl,rfl⟩
  .cases h
 .cases h
inductive IY(cn mn:Str)(mo:Mi Rr)(ma:Mi (List Rr))(Z:List Sl)(x:Except Str (List Rr))(U:List Sl):Prop
 |ok{r:Rr}{rs:List Rr}{Z':List Sl}{fs:List (Str×A)}(e:mo Z=some (.ok r,Z'))(g:res Z' r=some (.obj cn fs))(l:fs.lookup mn=none)(a:ma Z'=some (.ok rs,U))(q:x=.ok (r::rs))
 |err{y:Str}(e:mo Z=some (.error y,U))(q:x=.error y)
 |bad{r:Rr}{Z':List Sl}{fs:List (Str×A)}{y:Str}(e:mo Z=some (.ok r,Z'))(g:res Z' r=some (.obj cn fs))(l:fs.lookup mn=none)(a:ma Z'=some (.error y,U))(q:x=.error y)
theorem rp{U:List Sl}{x:Except Str (List Rr)}(h:dt (bP cn mn mo) ma Z=some (x,U)):IY cn mn mo ma Z x U:=by
 rcases bind_some h with ⟨r,Z',A,v⟩|⟨y,A,v⟩
 .rcases bind_some A with ⟨g,Z0,D,Y⟩|⟨_,_,Y⟩
  .obtain⟨fs,o,n,d,c⟩:=nQ (r':=g) Y;cases d;subst c;rcases bind_some v with ⟨rs,N,B,H⟩|⟨y,B,H⟩
   .cases H;exact .ok D o n B rfl
   .exact .bad D o n B H
  .cases Y
 .rcases bind_some A with ⟨g,Z0,D,Y⟩|⟨z,D,Y⟩
  .obtain⟨fs,o,n,d,c⟩:=nQ (r':=g) Y;cases d
  .cases Y;exact .err D v
theorem oC{m:Ms}{n:Nat}{I:List A}{dvs:List V}(hd:∀G,bX (kx X) G dvs I)(P:X.mg cn=some (.ref C))(hn:∀Z rs O,ma Z=some (.ok rs,O)->rs.length+1+I.length=n)(Y:St)(H:Hp)(Q:VK)(h:kO (kx X) E (ba m I (dt (bP cn mn mo) ma)) Y H Q):
  uC C mn (iY (kx X) n m) dvs E (kO (kx X) E mo) (LQ (kx X) E ma) Y H Q:=by
 obtain⟨c,Z,B,θ,o,O,u,b,em,q⟩:=h;have K:∀{r:Rr}{Z':List Sl}{fs:List (Str×A)}{v:V}{i:Hp},res Z' r=some (.obj cn fs)->fs.lookup mn=none->VR Y r v->Bd c Y i Z' (cW r v B) (cV r θ)->∃p dx vs,v=.ref p/\i p=some (.ins C dx vs)/\vs.lookup mn=none:=λa j t b1=>by
  obtain⟨L,p,T,dx,vs,bl,rfl,h2,h3,h4⟩:=Bd.Gj b1 t a;have D:X.mg cn=some (.ref T):=by have:=Ze (λk:Kx=>k.mg cn) u;simp only at this;rw[<-this];exact h3
  rw[P] at D;cases D;refine⟨p,dx,vs,rfl,h2,?_⟩;rcases h4.get mn with ⟨_,_,_,z,_⟩|⟨z,_⟩
  .rw[j] at z;cases z
  .exact z
 have fin:∀e,o=.error e->∀C H,X.mg e=some (.ref C)->Bd c Y H O B θ->E (.ref C) none H:=bY q;rcases bind_some em with ⟨rs,U,e1,e2⟩|⟨e,e1,e2⟩
 .cases rp e1 with
  |@ok r rs' Z' fs s a j F eq=>cases eq;refine⟨c,Z,B,θ,_,_,u,b,s,λv i t b1=>?_⟩;obtain⟨p,dx,vs,rfl,h2,hl⟩:=K a j t b1;refine⟨p,dx,vs,rfl,h2,hl,c,_,_,_,_,_,u,b1,F,λws S w b2=>?_⟩;refine ke (rs:=r::rs') (vs:=.ref p::ws) hd u ?_ ⟨t,w⟩ b2 e2 (λr y v H' t b=>by subst y;exact q v H' t b) (λx hx=>by subst hx;exact q);simp only[SR,QX,Q7,<-w.len,<-hn _ _ _ F,(hd λ_=>none).len];lia
  |err _ eq=>cases eq
  |bad _ _ _ _ eq=>cases eq
 .cases rp e1 with
  |ok _ _ _ _ eq=>cases eq
  |err s eq=>cases eq;exact⟨c,Z,B,θ,_,_,u,b,s,λC i hm b1=>fin _ e2 C i hm b1⟩
  |bad s a j F eq=>cases eq;refine⟨c,Z,B,θ,_,_,u,b,s,λv i t b1=>?_⟩;obtain⟨p,dx,vs,rfl,h2,hl⟩:=K a j t b1;exact⟨p,dx,vs,rfl,h2,hl,c,_,_,_,_,_,u,b1,F,λC S hm b2=>fin _ e2 C S hm b2.drop⟩
end
theorem iF{o:Expr}{m:Str}{apos:Pos}{args:List Expr}{env:Env}(Y:XE o m env (eval o env)=eval o env)
  (H:Yd (args.length+([]:List XW).length) (XI pos (XB args env)) (XY pos (XO [] env))=true)(B:(apos.endLine==pos.line)=true):
  eval (.Call (.Attribute o m apos) args [] pos) env=(do
   let ov <- eval o env
   Ym apos.atName
   let (f,first) <- holding [ov] (Yv ov m (do return (<- importBound o env).getD true))
   YS pos f first (XI pos (XB args env)) (XY pos (XO [] env))):=by
 rw[arm_eval_Call,Y]
 delta methodCall calleeOf methodCallPos
 rw[H,B];rfl
variable{H:Hp}
section
variable{X:Cx}{E:XK}{CX:qA}{k n:Nat}{f C:Addr}{fd:XQ}{ps:List Str}{m:Ms}{I:List A}{dvs:List V}{ds:List Value}{cn mn:Str}{apos pos:Pos}{o e:Expr}{es:List Expr}{mo:Mi Rr}{ma:Mi (List Rr)}
theorem DJ(P:X.mg cn=some (.ref C))(hc:hW X.K C)(hm:Meth X.K C mn f)(F:dP X.prog X.w X.K X.mg X.base CX k f fd ps (iY (kx X) n m))(a:dd k X.A)(d:Binds X.K fd ps ds)(hd:Vals dvs ds)(b:∀G,bX (kx X) G dvs I)(hx:Passes CX X E)
  (ho:JE X E o mo)(V:JA X E (e::es) ma)(hn:∀Z rs O,ma Z=some (.ok rs,O)->rs.length+1+I.length=n)(Y:XE o mn X.env (eval o X.env)=eval o X.env)
  (H:Yd ((e::es).length+([]:List XW).length) (XI pos (XB (e::es) X.env)) (XY pos (XO [] X.env))=true)(B:(apos.endLine==pos.line)=true)
  (c:XB (e::es) X.env=(false,eval e X.env)::XB es X.env)(i:(XI pos (XB es X.env)).any (·.1)=false):JE X E (.Call (.Attribute o mn apos) (e::es) [] pos) (ba m I (dt (bP cn mn mo) ma)):=
 ⟨PE.weaken (u5 ho.p hc hm F a d hd hx V.p c i (iF Y H B)) (oC b P hn)⟩
theorem kO.mono{E:XK}{m:Mi Rr}{Y:St}{Q a:VK}(h:kO K E m Y H Q)(f:∀v H,Q v H->a v H):kO K E m Y H a:=by
 obtain⟨c,Z,B,θ,o,O,u,b,em,q⟩:=h;refine⟨c,Z,B,θ,o,O,u,b,em,?_⟩;cases o with
 |ok r=>exact λv H' A I=>f _ _ (q v H' A I)
 |error x=>exact q
theorem zB(P:X.mg cn=some (.ref C))(hc:hW X.K C)(hm:Meth X.K C mn f)(F:dP X.prog X.w X.K X.mg X.base CX k f fd ps (iY (kx X) n m))(u:dd k X.A)(d:Binds X.K fd ps ds)(hd:Vals dvs ds)(L:∀G,bX (kx X) G dvs I)(hx:Passes CX X E)
  (ho:JE X E o mo)(hn:1+I.length=n)(x:XE o mn X.env (eval o X.env)=eval o X.env)(j:(apos.endLine==pos.line)=true):JE X E (.Call (.Attribute o mn apos) [] [] pos) (ba m I (dt (bP cn mn mo) kS)):=
 ⟨PE.weaken (qB ho.p hc hm F u d hd hx (iF x rfl j)) λY H Q h=>by
  have h1:=oC (n:=n) L P (λZ rs O q=>by cases q;rw[<-hn];rfl) Y H Q h;refine kO.mono h1 λv U ⟨a,dx,fs,D,s,z,T⟩=>⟨a,dx,fs,D,s,z,?_⟩
  obtain⟨c,Z,B,θ,o,O,r,b,em,q⟩:=T;cases em;exact q [] U trivial b⟩
def n0(cn:Str)(f:Ms)(I:List A)(ma:Mi (List Rr)):Mi Rr:=aY ma λrs Z=>match cA (rs++I.map Rr.fr) Z with
 |some (as,T)=>match f (.pv (.obj cn [])::as.map qv) with
  |some (.rt (.fr .non),.pv o2::Y)=>match putL Z (rs++I.map Rr.fr) (aA as.length Y) T with
   |some O=>some (.ok (.nw o2),O)
   |none=>none
  |some (.ex x,s::Y)=>match putL Z (rs++I.map Rr.fr) (aA as.length Y) T with
   |some O=>some (.error x,O)
   |none=>none
  |_=>none
 |none=>none
theorem xp(n:Nat)(s:Sl)(Z:List Sl):∃t,aA (n+1) (s::Z)=t::aA n Z:=by cases s<;>exact⟨_,rfl⟩
inductive Jn(cn:Str)(f:Ms)(rs':List Rr)(Z:List Sl)(o:Except Str Rr)(O:List Sl):Prop
 |ok{as T Y:List Sl}{o2:LO}(t:cA rs' Z=some (as,T))(e:f (.pv (.obj cn [])::as.map qv)=some (.rt (.fr .non),.pv o2::Y))(p:putL Z rs' (aA as.length Y) T=some O)(q:o=.ok (.nw o2))
 |err{as T Y:List Sl}{s:Sl}{x:Str}(t:cA rs' Z=some (as,T))(e:f (.pv (.obj cn [])::as.map qv)=some (.ex x,s::Y))(p:putL Z rs' (aA as.length Y) T=some O)(q:o=.error x)
theorem zN{f:Ms}{rs':List Rr}{o:Except Str Rr} (h:(match cA rs' Z with
 |some (as,T)=>match f (.pv (.obj cn [])::as.map qv) with
  |some (.rt (.fr .non),.pv o2::Y)=>match putL Z rs' (aA as.length Y) T with
   |some O=>some (.ok (.nw o2),O)
   |none=>none
  |some (.ex x,s::Y)=>match putL Z rs' (aA as.length Y) T with
   |some O=>some (.error x,O)
   |none=>none
  |_=>none
 | none=>none:Option (Except Str Rr×List Sl))=some (o,O)):Jn cn f rs' Z o O:=by
 cases t:cA rs' Z with
 |none=>rw[t] at h;exact cF h
 |some pr=>
  obtain⟨as,T⟩:=pr;rw[t] at h;dsimp only at h;cases e:f (.pv (.obj cn [])::as.map qv) with
  |none=>rw[e] at h;exact cF h
  |some pr=>
   obtain⟨fl,U⟩:=pr;rw[e] at h;cases fl with
   |rt s=>cases s with
    |fr a=>cases a with
     |non=>cases U with
      |nil=>exact cF h
      |cons s Y=>cases s with
       |pv o2=>
        dsimp only at h;split at h
        .rename_i p;cases h;exact .ok t e p rfl
        .exact cF h
       |_=>exact cF h
     |_=>exact cF h
    |_=>exact cF h
   |ex x=>cases U with
    |nil=>exact cF h
    |cons s Y=>
     dsimp only at h;split at h
     .rename_i p;cases h;exact .err t e p rfl
     .exact cF h
   |_=>exact cF h
theorem wB(j:∀G,bX (kx X) G dvs I)(hC:X.mg cn=some (.ref C))(hn:∀Z rs O,ma Z=some (.ok rs,O)->rs.length+1+I.length=n)(Y:St)(H:Hp)(Q:VK)(h:kO (kx X) E (n0 cn m I ma) Y H Q):
  EY C (iY (kx X) n m) dvs E (LQ (kx X) E ma) Y H Q:=by
 obtain⟨c,Z,B,θ,o,O,r,b,em,q⟩:=h;rcases bind_some em with ⟨rs,U,e1,em⟩|⟨e,e1,e2⟩
 .refine⟨c,Z,B,θ,_,U,r,b,e1,λvs i A b1 x dx hx F K=>?_⟩;have ld:=(j λ_=>none).len.symm;refine⟨by simp only[QX,Q7,<-A.len,<-hn _ _ _ e1,ld];lia,?_⟩;have a:=A.app (nh.lA ld);have s:c.mg cn=some (.ref C):=by have:=Ze (λk:Kx=>k.mg cn) r;simp only at this;rw[this];exact hC
  have kp:fh c.σ0 Y U:=by obtain⟨L,b⟩:=b1;exact b.kp
  have pre:∀{as T:List Sl},cA (rs++I.map Rr.fr) U=some (as,T)->(vs++dvs).length=as.length/\Bd c Y (upd (upd i dx (.own x)) x (.ins C dx [])) T ((V.ref x::(vs++dvs)).reverse.map some++B) ((Sl.lv (.obj cn [])::as).reverse++θ):=λ{as T} e2=>by obtain⟨b3,N⟩:=Bd.cA a (by simp only[mw _ _ _ A.len,kq];exact Bd.tR (by rw[r];exact j) b1:Bd c Y i U (dC (rs++I.map Rr.fr) (vs++dvs) B) (dA (rs++I.map Rr.fr) θ)) e2;obtain⟨L,b5⟩:=b3.new (o:=.own x) F;have b6:=b5.kH (u:=.ins C dx []) (by rw[aq K.symm];exact hx) λG H' sm q=>.obj q s .nil;have b7:=Bd.Qc (by simp only[QU,List.length_reverse];exact N) b6;exact⟨N,by simpa[QN] using b7⟩
  cases zN em with
  |ok t P y eq=>obtain⟨N,J⟩:=pre t;obtain⟨R,S,l,g,f,d⟩:=Bd.enter (by simp only[QX,QX,N]) J;refine⟨R,_,_,_,S.trans r,l,g,f,P,λv H' hs D=>?_⟩;have rv:=Bd.top D rfl;cases rv;refine⟨rfl,?_⟩;have p:=d H' _ _ _ (λs' w o z=>by rw[Rc.mp w] at z;exact hs o z) (cS _ _) D;simp only[QX,N] at p;simp only[eq] at q;exact q (.ref x) H' trivial (Bd.tQ (xs:=[some .non]) (ss:=[.fr .non]) rfl (Bd.putL kp a (by simpa[aA,Bu,QN] using p) y))
  |err t P y eq=>obtain⟨N,J⟩:=pre t;obtain⟨R,S,l,g,f,d⟩:=Bd.enter (by simp only[QX,QX,N]) J;refine⟨R,_,_,_,S.trans r,l,g,f,P,λC' H' hm D=>?_⟩;have p:=d H' _ _ _ (λs' w=>by cases w) (cS _ _) D;simp only[QX,N] at p;obtain⟨t,ht⟩:=xp _ _ _;rw[ht] at p;simp only[eq] at q;exact q C' H' hm (Bd.putL kp a (by simpa[QN] using p) y).pop
 .subst e2;exact⟨c,Z,B,θ,_,O,r,b,e1,λC i hm b1=>q C i hm b1⟩
theorem CC{x:Str}{p:Pos}(U:Mk X.K C f)(F:dP X.prog X.w X.K X.mg X.base CX k f fd ps (iY (kx X) n m))(a:dd (k+1) X.A)(J:Gl X x)(P:X.mg x=some (.ref C))(d:Binds X.K fd ps ds)(hd:Vals dvs ds)(b:∀G,bX (kx X) G dvs I)(hx:Passes CX X E)
  (V:JA X E (e::es) ma)(hn:∀Z rs O,ma Z=some (.ok rs,O)->rs.length+1+I.length=n)(Y:fM x)(he:XB (e::es) X.env=(false,eval e X.env)::XB es X.env)(i:(XI pos (XB es X.env)).any (·.1)=false):
  JE X E (.Call (.Name x p) (e::es) [] pos) (n0 x m I ma):=
 ⟨PE.weaken (DR U F a J P d hd hx V.p Y he i) (wB b P hn)⟩
noncomputable def aP(m n:Mi Rr):Mi Rr:=λZ=>match m Z with
 |some x=>some x
 |none=>n Z
theorem oX{m n:Mi Rr}(h:JE X E e m)(h':JE X E e n):JE X E e (aP m n):=⟨λpins s Y H Q I t=>by
 obtain⟨c,Z,B,θ,o,O,u,b,em,q⟩:=t;unfold aP at em;cases e1:m Z with
 |some x=>simp only[e1] at em;cases em;exact h.p pins s Y H Q I ⟨c,Z,B,θ,o,O,u,b,e1,q⟩
 | none=>rw[e1] at em;exact h'.p pins s Y H Q I ⟨c,Z,B,θ,o,O,u,b,em,q⟩⟩
end
noncomputable def il:List A->Option (List Bool)
 |[]=>some []
 | .bl b::r=>match il r with
  |some bs=>some (b::bs)
  |none=>none
 |_=>none
theorem nV:∀{xs:List A}{bs:List Bool},il xs=some bs->xs=bs.map A.bl
 |[],bs,h=>by cases h;rfl
 |a::r,bs,h=>by
  cases a<;>first|(exact cF h)|skip
  unfold il at h;cases e:il r with
  |none=>simp only[e] at h;cases h
  |some cs=>rw[e] at h;cases h;rw[nV e];rfl
def kP(g:List Bool->Bool):A->Option Rr
 | .lst xs=>match il xs with
  |some bs=>some (.fr (.bl (g bs)))
  |none=>none
 |_=>none
theorem rM{K:Kx}{G:Hp}:∀{bs:List Bool}{vs:List V},bX K G vs (bs.map A.bl)->vs=bs.map V.bl
 |[],vs,h=>by cases h;rfl
 |b::bs,vs,h=>by
  cases h with
  |cons h1 h2=>cases h1;rw[rM h2];rfl
theorem GP{g:List Bool->Bool}:sL K (λv=>LH K.K g [v]) (kP g):=.scalar λH v a q n h=>by
 cases a<;>first|(exact cF h)|skip
 rename_i xs;unfold kP at h;simp only at h;cases e:il xs with
 |none=>simp only[e] at h;cases h
 |some bs=>
  rw[e] at h;cases h;have:=nV e;subst this;cases n with
  |lst I c=>exact⟨_,_,rfl,λ_=>.bl _,λQ k=>⟨_,_,bs,rfl,I,rM c,k⟩⟩
section
variable{X:Cx}{E:XK}{a b:Expr}{ma mb:Mi Rr}{pos:Pos}
theorem Ae:XD "any" = some (.builtin "any"):=by decide +kernel
end
def Lq(G G':Hp):Prop:=∀a u,G a=some u->(∀ws,u≠.lst ws)->G' a=some u
section
variable{k:Kx}{G G' H:Hp}(s:Lq G G')
theorem av.pick:∀{Y:St}{Z:List Sl}{L:List Addr}{j:Nat}{t:Sl},av k G H Y Z L->Z[j]?=some t->∃x q B L2,Y[j]?=some x/\L=q++(B++L2)/\eV k G H x t B /\
  ∀{G':Hp}{t':Sl}{L':List Addr},(∀{x:Option V}{t:Sl}{L:List Addr},t∈Z->eV k G H x t L->eV k G' H x t L)->eV k G' H x t' L'->av k G' H Y (Z.set j t') (q++(L'++L2))
 |_,_,_,j,t,.nil,e=>by simp at e
 |x::Y,u::Z,_,0,t,.cons (L:=La) (L':=Lb) h r,e=>by
  cases e;refine⟨x,[],La,Lb,rfl,rfl,h,λ{G2 T p} f h'=>?_⟩;rw[Um];have:∀{Y:St}{O:List Sl}{L:List Addr},(∀t∈O,t∈u::Z)->av k G H Y O L->av k G2 H Y O L:=by
   intro Y O L hm r;induction r with
   |nil=>exact .nil
   |cons h r b=>exact .cons (f (hm _ Q0) h) (b λt l=>hm t (QP _ l))
  exact .cons h' (this (λt l=>QP _ l) r)
 |x::Y,u::Z,_,j+1,t,.cons (L:=La) (L':=Lb) h r,e=>by obtain⟨y,q,B,L2,h1,h2,h3,h4⟩:=av.pick r (j:=j) (by simpa using e);refine⟨y,La++q,B,L2,by simpa using h1,by rw[h2,QN],h3,λf h'=>?_⟩;have:=h4 (λm=>f (QP _ m)) h';rw[QN];exact .cons (f Q0 h) this
end
noncomputable def AL:Option Sl->Bool
 |some .un=>true
 |_=>false
theorem uS{o:Option Sl}(h:AL o=true):o=some .un:=by
 cases o with
 |none=>cases h
 |some s=>cases s<;>first|rfl|cases h
theorem gT:∀{n j:Nat}{Z:List Sl}{o:LO},aA n ((aA n Z).set j (.pv o))=(aA n Z).set j (.pv o)
 |0,_,_,_=>rfl
 |n+1,0,Z,o=>by
  have:∀Z:List Sl,aA n (aA n Z)=aA n Z:=λZ=>backL_idem n Z;cases Z with
  |nil=>show aA (n+1) (.pv o::aA n [])=.pv o::aA n [];simp only[aA,this]
  |cons s Z=>cases s<;>(show aA (n+1) (.pv o::aA n Z)=.pv o::aA n Z;simp only[aA,this])
 |n+1,j+1,Z,o=>by
  cases Z with
  |nil=>show aA (n+1) (.un::(aA n []).set j (.pv o))=.un::(aA n []).set j (.pv o);rw[aA,gT];intro o z;cases z
  |cons s Z=>cases s<;>first
   |(show aA (n+1) (.un::(aA n Z).set j (.pv o))=.un::(aA n Z).set j (.pv o);rw[aA,gT];intro o z;cases z)
   |(show aA (n+1) (.pv _::(aA n Z).set j (.pv o))=.pv _::(aA n Z).set j (.pv o);simp only[aA,gT])
where backL_idem:∀(n:Nat)(Z:List Sl),aA n (aA n Z)=aA n Z
 |0,_=>rfl
 |n+1,[]=>by show aA (n+1) (.un::aA n [])=.un::aA n [];rw[aA,backL_idem];intro o z;cases z
 |n+1,s::Z=>by cases s<;>first
   |(show aA (n+1) (.un::aA n Z)=.un::aA n Z;rw[aA,backL_idem];intro o z;cases z)
   |(show aA (n+1) (.pv _::aA n Z)=.pv _::aA n Z;simp only[aA,backL_idem])
section
variable{X:Cx}{E:XK}
theorem bX.erase{K:Kx}{G:Hp}:∀{vs:List V}{as:List A}(j:Nat),bX K G vs as->bX K G (vs.eraseIdx j) (as.eraseIdx j)
 |_,_,_,.nil=>.nil
 |_,_,0,.cons h r=>r
 |_,_,j+1,.cons h r=>.cons h (r.erase j)
end
end M
namespace L2
open PySem PySem.Spec PyProof.Rows PySem.W
def Nq(K:QJ):List V->Hp->VK->Prop:=λxs H Q=>∃(p:Addr)(ys:List V)(ns:List Int),xs=[.ref p]/\dR K H p ys/\ys=ns.map V.int/\Q (.int ns.sum) H
theorem preSum_eq(ns:List Int):∀n,n<=ns.length->preSum (λi=>ns.getD i 0) n=(ns.take n).sum
 |0,_=>by simp only[List.take_zero];rfl
 |n+1,h=>by rw[preSum,preSum_eq ns n (by exact Q4 ‹_›),S6,Wv,Sj,Rb (by assumption)];simp
theorem zW{X:Cx}(hc:X.calm=true):du X (.builtin "sum") (Nq X.K):=by
 intro pins s Y H xs us Q I r h;obtain⟨p,ys,ns,rfl,R,rfl,q⟩:=h;obtain⟨u,rfl,E⟩:=vals1 r;cases E;obtain⟨j,r',pl,hz⟩:=I.list R;have w:=r'.length;refine call_sum_walkG (X8 pl.isList ?_);refine⟨s.heap.objs.size,_,_,_,_,_,(λi=>ns.getD i 0),rfl,U8 (A:=X.A.in1) (I.ok.hd hc) _ p (by obtain⟨o,ho,_⟩:=pl.isList;exact Rw (Q5 ho)) j.toArray,⟨⟨_,Rp _ rfl,rfl,rfl⟩,pl.isList.at λo e=>QY _ e⟩,?_,λi v V=>?_,λh' tk t' hk=>?_⟩
 .intro b d;simp only[QW,RL,or_false] at d;rcases d with rfl|rfl
  .show _<(s.heap.push _).objs.size;rw[SM];exact Ru _
  .obtain⟨o,ho,_⟩:=pl.isList;show _<(s.heap.push _).objs.size;rw[SM];exact Q9 (Q5 ho)
 .have c:j[i]?=some v:=by simpa using V
  cases L:ns[i]? with
  |none=>
   have h1:=SS.mp L;have h2:=(QL.mp c).1;rw[QU] at w
   lia
  |some b=>obtain⟨u,g,F⟩:=r'.get (i:=i) (x:=.int b) (by simp only[Rt,L];rfl);rw[c] at g;cases g;obtain⟨t,rfl⟩:=F;exact⟨t,by show TZ b t=TZ (ns.getD i 0) t;rw[Sj,L];rfl⟩
 .have e1:j.toArray.size = ns.length:=by simp at w ⊢; lia
  simp only [e1,preSum_eq ns ns.length (QR _),Wf];exact ⟨.int _,H,I.kept (t':=tk) fun b o e=>hk b o (fun z=>by have:=Rc.mp z; subst this; exact absurd (Q5 e) (Rf _)) (QY _ e),⟨t',rfl⟩,q⟩
end L2
namespace M
open PySem L2
noncomputable def kG:List A->Option (List Int)
 |[]=>some []
 | .int b::r=>match kG r with
  |some bs=>some (b::bs)
  |none=>none
 |_=>none
theorem rL:∀{xs:List A}{bs:List Int},kG xs=some bs->xs=bs.map A.int
 |[],bs,h=>by cases h;rfl
 |a::r,bs,h=>by
  cases a<;>first|(exact cF h)|skip
  unfold kG at h;cases e:kG r with
  |none=>simp only[e] at h;cases h
  |some cs=>rw[e] at h;cases h;rw[rL e];rfl
theorem mE:∀ns:List Int,kG (ns.map A.int)=some ns
 |[]=>rfl
 |n::ns=>by simp only[RC,kG,mE ns]
def ud:A->Option Rr
 | .lst xs=>match kG xs with
  |some bs=>some (.fr (.int bs.sum))
  |none=>none
 |_=>none
theorem vg{K:Kx}{G:Hp}:∀{bs:List Int}{vs:List V},bX K G vs (bs.map A.int)->vs=bs.map V.int
 |[],vs,h=>by cases h;rfl
 |b::bs,vs,h=>by
  cases h with
  |cons h1 h2=>cases h1;rw[vg h2];rfl
theorem II{K:Kx}:sL K (λv=>Nq K.K [v]) ud:=.scalar λH v a q n h=>by
 cases a<;>first|(exact cF h)|skip
 rename_i xs;unfold ud at h;simp only at h;cases e:kG xs with
 |none=>rw[e] at h;cases h
 |some bs=>
  rw[e] at h;cases h;have:=rL e;subst this;cases n with
  |lst I g=>exact⟨_,_,rfl,λ_=>.int _,λQ k=>⟨_,_,bs,rfl,I,vg g,k⟩⟩
theorem IM:XD "sum" = some (.builtin "sum"):=by decide +kernel
end M
set_option maxHeartbeats 4000000
namespace L2
open PySem PySem.Spec PyProof.Rows PySem.W
structure zg(h:Heap)(z TI TO i j l m:Addr)(k:Nat):Prop where
 hz:IsZip h z TI TO .none
 hi:IsPair h TI (.ref i) (.ref j)
 ho:∃a b,IsPair h TO a b
 h1:h.IsListIter i l k
 h2:h.IsListIter j m k
def Mh(K:QJ)(a b:Addr):It:=
  ⟨λi H=>∃xs ys x y,dR K H a xs/\dR K H b ys/\xs[i]?=some x/\ys[i]?=some y,
   λi H v H'=>∃t x y,v=.ref t/\H t=none/\H'=upd H t (.tup [x,y])/\∀xs ys,dR K H a xs->dR K H b ys->xs[i]?=some x/\ys[i]?=some y,
   λi H=>∃xs ys,dR K H a xs/\dR K H b ys/\(xs[i]?=none\/ys[i]?=none)⟩
theorem wu{P:Program}{w:XM}{K:QJ}{es:List Expr}{kk:Nat}{tp:Pos}{z TI TO i j a b:Addr}(D:ZipApart z TI TO i j a b):
  Turn P w K (.Tuple es kk tp) (Mh K a b) [z,TI,TO,i,j] z (λn h=>zg h z TI TO i j a b n) where
 mem:=by simp
 obj:=λn h Z c hc=>by
  obtain⟨hz,hi,⟨u,v,ho⟩,⟨L,e1,_,d1⟩,⟨o2,e2,_,d2⟩⟩:=Z;simp only[QW,RL,or_false] at hc;rcases hc with rfl|rfl|rfl|rfl|rfl
  .exact⟨_,hz,λv q=>by cases q⟩
  .exact⟨_,hi,λv q=>by cases q⟩
  .exact⟨_,ho,λv q=>by cases q⟩
  .exact⟨_,e1,λv q=>by rw[d1] at q;cases q⟩
  .exact⟨_,e2,λv q=>by rw[d2] at q;cases q⟩
 keep:=λn h h' Z k=>by obtain⟨hz,hi,⟨u,v,ho⟩,⟨L,e1,f⟩,⟨o2,e2,t⟩⟩:=Z;exact⟨k _ Z4 _ hz,k _ Z4 _ hi,⟨u,v,k _ Z4 _ ho⟩,⟨L,k _ Z4 _ e1,f⟩,⟨o2,k _ Z4 _ e2,t⟩⟩
 item:=by
  intro X R N A hc n pins s Y H E I hf Z U;subst R N A;obtain⟨xs,ys,x,y,V,J,hx,hy⟩:=U;obtain⟨its,rv,p,_⟩:=I.list V;obtain⟨jts,Q,p',_⟩:=I.list J;obtain⟨u,hu,ru⟩:=rv.get hx;obtain⟨v,hv,rv'⟩:=Q.get hy;obtain⟨uo,vo,G⟩:=Z.ho;refine wpAny_pyNext_zip_item D Z.hz Z.hi G Z.h1 Z.h2 p.isList p'.isList (x:=u) (y:=v) (by simpa using hu) (by simpa using hv) λh' z1 z2 z3 z4 z5 z6 keep=>?_;refine⟨_,rfl,wpAny_letOwnedTupleGo_zip (s:={ s with heap:=h' }) z1 λh2 hz2 sb=>?_⟩;have ch:∀c∈[z,TO,i,j],c∈[z,TI,TO,i,j]:=λc hc=>by simp only[QW,RL,or_false] at hc ⊢;rcases hc with e|e|e|e<;>simp[e]
  have F:∀c o,c∉[z,TO,i,j]->s.heap.get? c=some o->h2.get? c=some o:=λc o hc e=>by simp only[QW,RL,or_false,not_or] at hc;exact sb.extBut c o hc.1 (keep c o hc.1 hc.2.1 hc.2.2.1 hc.2.2.2 e)
  have O:∀c o,s.heap.get? c=some o->c≠s.heap.objs.size:=λc o e=>Rw (Q5 e);have C:∀c o,H c=some o->c∉[z,TO,i,j]:=λc o e hc=>by have:=(hf c (ch c hc)).1;rw[e] at this;cases this
  have hn:H s.heap.objs.size=none:=I.fresh;have nzT:s.heap.objs.size≠z:=(O _ _ Z.hz).symm;have I2:Inv X pins Y (upd H s.heap.objs.size (.tup [x,y])) { s with heap:=h2,gens:=s.gens,drawn:=s.drawn,toks:=s.toks }:=by
   refine I.step (ch:=[z,TO,i,j]) (λc hc=>?_) (λc o _ _ hc e _=>F c o hc e) (λc o _ _ hc e _=>⟨o.slots,F c o hc e⟩) (λc o _ e q=>by rw[aq (O c o e)];exact q) (λc o hc e=>⟨o,F c o hc e⟩)
    (λc q e=>by rw[aq (aJ e hn)];exact e) (λc o q e=>by rw[aq (aJ e hn)];exact e) (λc q e=>⟨#[],by rw[aq (aJ e hn),e];simp⟩) (λm hm=>?_) (λc o e=>?_) I.bare
   .obtain⟨f0,f1,f2,f3,f4,f5⟩:=hf c (ch c hc);exact⟨f3,f1,f4,f5⟩
   .obtain⟨o,g,l,ho,r⟩:=hm;exact⟨o,g,l,F _ o (λhc=>(hf _ (ch _ hc)).2.1 rfl) ho,r⟩
   .by_cases hc:c=s.heap.objs.size
    .subst hc;rw[aN] at e;cases e;refine⟨(show 2<=sizeLine by decide),[u,v],.cons ru (.cons rv' .nil),?_⟩;exact⟨_,sb.extBut _ _ nzT z5,rfl,_,rfl,rfl⟩
    .rw[aq hc] at e;refine(I.hok c o e).jL (λd w hd q=>F d w ?_ q) (λd q=>by rw[aq (aJ q hn)];exact q) λd q r=>by rw[aq (aJ r hn)];exact r
     rcases hd with rfl|hd
     .exact C _ _ e
     .exact C _ _ hd
  have B:∀c o,c≠z->h'.get? c=some o->h2.get? c=some o:=λc o hc e=>sb.extBut c o hc e;have T:IsPair h' TI (.ref i) (.ref j):=keep _ _ D.TIz D.TITO D.TIi1 D.TIi2 Z.hi;obtain⟨L,e1,f⟩:=z3;obtain⟨o2,e2,t⟩:=z4;refine⟨.ref s.heap.objs.size,_,I2,rfl,⟨s.heap.objs.size,x,y,rfl,hn,rfl,λxs' ys' g l=>?_⟩,⟨hz2,B _ _ D.TIz T,⟨_,_,B _ _ D.TOz z2⟩,⟨L,B _ _ D.i1z e1,f⟩,⟨o2,B _ _ D.i2z e2,t⟩⟩,λc hc=>?_⟩
  .rw[I.hZ g V,I.hZ l J];exact⟨hx,hy⟩
  .rw[aq]
   .exact(hf c hc).1
   .rintro rfl;obtain⟨hz,hi,⟨u,v,ho⟩,⟨L,e1,_⟩,⟨o2,e2,_⟩⟩:=Z;simp only[QW,RL,or_false] at hc;rcases hc with q|q|q|q|q
    .rw[<-q] at hz;exact O _ _ hz rfl
    .rw[<-q] at hi;exact O _ _ hi rfl
    .rw[<-q] at ho;exact O _ _ ho rfl
    .rw[<-q] at e1;exact O _ _ e1 rfl
    .rw[<-q] at e2;exact O _ _ e2 rfl
 done:=by
  intro X R N A hc n pins s Y H E I hf Z U;subst R N A;obtain⟨xs,ys,V,J,S⟩:=U;obtain⟨its,rv,p,_⟩:=I.list V;obtain⟨jts,Q,p',_⟩:=I.list J;obtain⟨uo,vo,G⟩:=Z.ho;have ch:∀c∈[z,TO,i,j],c∈[z,TI,TO,i,j]:=λc hc=>by simp only[QW,RL,or_false] at hc ⊢;rcases hc with e|e|e|e<;>simp[e]
  refine wpAny_pyNext_zip_end (I.ok.hd hc) D Z.hz Z.hi G Z.h1 Z.h2 p.isList p'.isList (S.imp (λq=>by simpa using rv.none_of q) (λq=>by simpa using Q.none_of q)) λh' keep=>⟨rfl,?_⟩
  have F:∀c o,c∉[z,TO,i,j]->s.heap.get? c=some o->h'.get? c=some o:=λc o hc e=>by simp only[QW,RL,or_false,not_or] at hc;exact keep c o hc.1 hc.2.1 hc.2.2.1 hc.2.2.2 e
  have C:∀c o,H c=some o->c∉[z,TO,i,j]:=λc o e hc=>by have:=(hf c (ch c hc)).1;rw[e] at this;cases this
  refine I.step (g':=s.gens) (d':=s.drawn) (t':=s.toks) (ch:=[z,TO,i,j]) (λc hc=>?_) (λc o _ _ hc e _=>F c o hc e) (λc o _ _ hc e _=>⟨o.slots,F c o hc e⟩) (λc o _ e q=>q) (λc o hc e=>⟨o,F c o hc e⟩)
   (λc q e=>e) (λc o q e=>e) (λc q e=>⟨#[],by rw[e];simp⟩) (λm hm=>?_) (λc o e=>?_) I.bare
  .obtain⟨f0,f1,f2,f3,f4,f5⟩:=hf c (ch c hc);exact⟨f3,f1,f4,f5⟩
  .obtain⟨o,g,l,ho,r⟩:=hm;exact⟨o,g,l,F _ o (λhc=>(hf _ (ch _ hc)).2.1 rfl) ho,r⟩
  .refine(I.hok c o e).jL (λd w hd q=>F d w ?_ q) (λd q=>q) λd q r=>r;rcases hd with rfl|hd
   .exact C _ _ e
   .exact C _ _ hd
 self:=λ_ _ _ _ _ Z q=>wpAny_pyIter_zip Z.hz q
end L2
set_option maxHeartbeats 1000000
set_option maxHeartbeats 4000000
set_option maxHeartbeats 1000000
set_option maxHeartbeats 4000000
namespace L2
open PySem PySem.Spec PyProof.Rows PySem.W
section
variable{prog:Program}{w:XM}{A:XN}{E:Value->Shared->Prop}{s:Shared}
theorem set_same{a:Addr}{h h':Heap}{S:Key->Bool}{n:Nat}(x:h.SetOf (iG prog w) a S n)(e:∀o,h.get? a=some o->h'.get? a=some o):h'.SetOf (iG prog w) a S n:=let ⟨o,es,ep,t,ho,r⟩:=x;⟨o,es,ep,t,e _ ho,r⟩
end
end L2
set_option maxHeartbeats 1000000
set_option maxHeartbeats 4000000
set_option maxHeartbeats 1000000
namespace M
open PySem L2
section
variable{X:Cx}{E:XK}
open PySem.Spec PyProof.Rows PySem.W in
end
open PySem.W (KasT kas_asc kas_desc kas_rev kas_tail3 kas_descPart kas_count kas_place kas_bin kas_sort)
open PyProof.Rows (mirror_perm bubble_perm bubble)
section
variable{X:Cx}{E:XK}
open PySem.Spec PyProof.Rows PySem.W in
end
section
open PySem PyProof.Rows PySem.W
variable{f:Nat->Nat->Bool}{n:Nat}{r:Nat->Nat}
noncomputable def Ra(r:Nat->Nat)(p:Array Nat)(i:Nat):Nat:=r (p.getD i 0)
end
section
variable{X:Cx}{E:XK}{pins:List (Addr×Obj)}{Y:St}{H:Hp}{s:Shared}{a b:Addr}
open PySem.Spec PyProof.Rows PySem.W in
end
noncomputable def eO:List A->Option (List Int)
 |[]=>some []
 | .int i::r=>match eO r with
  |some is=>some (i::is)
  |none=>none
 |_::_=>none
theorem jZ{K:Kx}{G:Hp}:∀{as:List A}{vs:List V}{is:List Int},bX K G vs as->eO as=some is->vs=is.map V.int
 |[],_,_,.nil,h=>by cases h;rfl
 |a::as,_,_,.cons q r,h=>by
  cases a<;>first|(exact cF h)|skip
  unfold eO at h;cases e:eO as with
  |none=>simp only[e] at h;cases h
  |some H=>rw[e] at h;cases h;cases q;rw[jZ r e];rfl
noncomputable def qK(ns:List Int):Int:=ns.getD (argBest (λi j=>decide (ns.getD i 0<ns.getD j 0)) (ns.length-1)) 0
noncomputable def t4:List Int->Int->Option Nat
 |[],_=>none
 |a::r,i=>if a=i then some 0 else (t4 r i).map (·+1)
theorem jh:∀{ns:List Int}{us:List Value},Vals (ns.map V.int) us->∃xs:List (Int×Tok),us.toArray=Yg xs.toArray/\xs.map (·.1)=ns
 |[],_,.nil=>⟨[],by simp[Yg],rfl⟩
 |n::ns,_,.cons h r=>by obtain⟨t,rfl⟩:=h;obtain⟨xs,h1,h2⟩:=jh r;refine⟨(n,t)::xs,?_,by simp only[RC,h2]⟩;have h1:_=_:=Ze Vu h1;apply Wa.mp;simp[Yg] at h1 ⊢;exact h1
section
variable{X:Cx}{E:XK}
open PySem.Builtin PyProof.Rows PySem.W in
end
section
variable{X:Cx}{E:XK}{pins:List (Addr×Obj)}{Y:St}{H:Hp}{s:Shared}
open Classical in
variable{a b:Expr}{ma mb:Mi Rr}{pos:Pos}
end
section
open PySem PyProof.Rows PySem.W
open SetTable in
noncomputable def aw(m:Nat)(p:Probe):Probe:=if p.more > 0 then { p with j:=p.j+1,more:=p.more-1 } else { p with j:=(leap m p.i p.perturb).1,more:=runEnd m (leap m p.i p.perturb).1-(leap m p.i p.perturb).1,i:=(leap m p.i p.perturb).1,perturb:=(leap m p.i p.perturb).2 }
open SetTable in
open SetTable in
def sp(m:Nat)(h:Int):Nat->Probe
 |0=>{ j:=bits h%(m+1),more:=runEnd m (bits h%(m+1))-bits h%(m+1),i:=bits h%(m+1),perturb:=bits h,dummy:=none }
 |n+1=>aw m (sp m h n)
open SetTable in
def nl(m:Nat)(h:Int)(N:Nat):Nat:=N+(sp m h N).more+1
end
theorem i8{α:Type}{f:Str}:∀{vs ws:List (Str×α)}{u:α},vs.lookup f=some u->(vs++ws).lookup f=some u
 |[],_,_,h=>nomatch h
 |(y,v)::vs,ws,u,h=>by
  simp only[Q2] at h;simp only[SR,Q2];split at h
  .exact h
  .exact i8 h
theorem kI{α:Type}{f:Str}:∀{vs ws:List (Str×α)},vs.lookup f=none->ws.lookup f=none->(vs++ws).lookup f=none
 |[],_,_,h=>h
 |(y,v)::vs,ws,h,h'=>by
  simp only[Q2] at h;simp only[SR,Q2];split at h
  .cases h
  .exact kI h h'
theorem kK{α:Type}{f:Str}:∀{vs ws:List (Str×α)}{u:α},vs.lookup f=none->ws.lookup f=some u->(vs++ws).lookup f=some u
 |[],_,_,_,h=>h
 |(y,v)::vs,ws,u,h,h'=>by
  simp only[Q2] at h;simp only[SR,Q2];split at h
  .cases h
  .exact kK h h'
theorem eY.none{k:Kx}{G H:Hp}{f:Str}:∀{ws:List (Str×V)}{ls:List (Str×List A)}{q:List Addr},eY k G H ws ls q->ls.lookup f=none->ws.lookup f=none
 |_,_,_,.nil,_=>rfl
 |_,_,_,.cons (y:=y) e r t,h=>by
  simp only[Q2] at h ⊢;split at h
  .cases h
  .exact eY.none t h
theorem eY.get{k:Kx}{G H:Hp}{f:Str}{xs:List A}:∀{ws:List (Str×V)}{ls:List (Str×List A)}{q:List Addr},eY k G H ws ls q->ls.lookup f=some xs->∃a us,ws.lookup f=some (.ref a)/\a∈q/\H a=some (.lst us)/\bX k G us xs
 |_,_,_,.nil,h=>nomatch h
 |_,_,_,.cons (y:=y) (a:=a) (us:=us) e r t,h=>by
  rw[Q2] at h;rw[Q2];split at h
  .cases h;exact⟨a,us,rfl,Q0,e,r⟩
  .obtain⟨a,us,h1,h2,h3,h4⟩:=eY.get t h;exact⟨a,us,h1,QP _ h2,h3,h4⟩
noncomputable def iJ(f:Str)(xs:List A):List (Str×List A)->List (Str×List A)
 |[]=>[]
 |(y,zs)::r=>if f==y then (y,xs)::r else (y,zs)::iJ f xs r
theorem eY.put{k:Kx}{G H H':Hp}{f:Str}{xs Y:List A}{a:Addr}{B:List V}:∀{ws:List (Str×V)}{ls:List (Str×List A)}{q:List Addr},eY k G H ws ls q->q.Nodup->ls.lookup f=some xs->ws.lookup f=some (.ref a)->H' a=some (.lst B)->(∀b∈q,b≠a->H' b=H b)->bX k G B Y->eY k G H' ws (iJ f Y ls) q
 |_,_,_,.nil,_,h,_,_,_,_=>nomatch h
 |_,_,_,.cons (y:=y) (a:=b) e r t,nd,h,h2,h3,sm,ra=>by
  simp only[Q2] at h h2;unfold iJ;have nd:=Rl.mp nd;cases hc:f==y with
  |true=>simp only[hc] at h2;cases h2;rw[Za rfl];exact .cons h3 ra (t.sm (Sq.refl _) λc hc u e=>by rw[sm c (QP _ hc) λz=>nd.1 (z▸hc)];exact e)
  |false=>simp only[hc] at h h2;rw[Zb Z2];obtain⟨a',us,o,n,-,-⟩:=eY.get t h;have h2:_=some (V.ref a):=h2;rw[o] at h2;cases h2;refine .cons ?_ r (eY.put t nd.2 h o h3 (λc hc=>sm c (QP _ hc)) ra);rw[sm b Q0 λz=>nd.1 (z▸n)];exact e
variable{i:Nat}{f cn:Str}{Z:List Sl}
section
variable{X:Cx}{E:XK}
def aO(cs:List Str)(i:Nat)(f:Str):Mi Rr:=λZ=>match aD Z i with
 | some (.nob c fs _)=>if cs.contains c then (match fs.lookup f with
  |some a=>some (.ok (.fr a),Z)
  | none=>none) else none
 |_=>none
theorem BQ{x:Str}{cs:List Str}{G pos:Pos}(hN:X.N[i]?=some x)(A:j9 X.env.scope x)(hd:fM x)(s:lG x)(hc:∀c C,cs.contains c=true->X.mg c=some (.ref C)->hW X.K C/\cj X.K C f)
  (d:XE (.Name x G) f X.env (eval (.Name x G) X.env)=eval (.Name x G) X.env):JE X E (.Attribute (.Name x G) f pos) (aO cs i f):=
 ⟨PE.weaken (fk (bU hN A hd s) d) λY H Q h=>by
  obtain⟨c,Z,B,θ,o,O,z,b,em,q⟩:=h;unfold aO at em;cases P:aD Z i with
  |none=>rw[P] at em;cases em
  |some lo=>
   cases lo with
   |lst _=>simp only[P] at em;cases em
   |dic _=>simp only[P] at em;cases em
   |obj _ _=>simp only[P] at em;cases em
   |dit _=>simp only[P] at em;cases em
   |nob cn fs ls=>
    simp only[P] at em;split at em
    .rename_i j;cases e2:fs.lookup f with
     |none=>simp only[e2] at em;cases em
     |some a=>
      simp only[e2] at em;cases em;obtain⟨L,bl⟩:=b;obtain⟨p,_,h1,h2,v⟩:=bl.live P (.nob cn fs ls) (.lst []);clear v;cases h2 with
      |nob e m r l=>
       rename_i C dx vs ws;have D:X.mg cn=some (.ref C):=by have:=Ze (λk:Kx=>k.mg cn) z;simp only at this;rw[<-this];exact m
       obtain⟨w,y⟩:=hc cn C j D;rcases r.get f with ⟨u,a',F,n,T⟩|⟨_,n⟩
       .rw[e2] at n;cases n;exact⟨_,h1,p,C,dx,vs++ws,u,rfl,e,w,y,i8 F,q u H trivial (bl.push T)⟩
       .rw[e2] at n;cases n
    .cases em⟩
def aQ(cn m:Str)(i:Nat):Mi Rr:=λZ=>match aD Z i with
 |some (.nob c fs ls)=>if c==cn&&(fs.lookup m).isNone&&(ls.lookup m).isNone then some (.ok (.rf i),Z) else none
 |_=>none
theorem jd{m:Str}{O:List Sl}{o:Except Str Rr}(h:aQ cn m i Z=some (o,O)):∃fs ls,aD Z i=some (.nob cn fs ls)/\fs.lookup m=none/\ls.lookup m=none/\o=.ok (.rf i)/\O=Z:=by
 unfold aQ at h;split at h
 .rename_i c fs ls e;split at h
  .rename_i hc;rw[QI,QI,Zf,RM,RM] at hc;cases h;exact⟨fs,ls,by rw[e,hc.1.1],hc.1.2,hc.2,rfl,rfl⟩
  .cases h
 .cases h
theorem mZ{m:Ms}{n:Nat}{mn:Str}{C:Addr}{I:List A}{dvs:List V}(hd:∀G,bX (kx X) G dvs I){ma:Mi (List Rr)}(g:X.mg cn=some (.ref C))(hn:∀Z rs O,ma Z=some (.ok rs,O)->rs.length+1+I.length=n)(Y:St)(H:Hp)(Q:VK)(h:kO (kx X) E (ba m I (dt (aQ cn mn i) ma)) Y H Q):
  uC C mn (iY (kx X) n m) dvs E (md i) (LQ (kx X) E ma) Y H Q:=by
 obtain⟨c,Z,B,θ,o,O,u,b,em,q⟩:=h;have t:∀{fs:List (Str×A)}{ls:List (Str×List A)},aD Z i=some (.nob cn fs ls)->fs.lookup mn=none->ls.lookup mn=none->∃p dx vs,Y[i]?=some (some (.ref p))/\H p=some (.ins C dx vs)/\vs.lookup mn=none:=λj s d=>by
  obtain⟨L,bl⟩:=b;obtain⟨p,_,h1,h2,a⟩:=bl.live j (.lst []) (.lst []);clear a;cases h2 with
  |nob e mm r l=>
   rename_i f dx vs ws;have w:X.mg cn=some (.ref f):=by have:=Ze (λk:Kx=>k.mg cn) u;simp only at this;rw[<-this];exact mm
   rw[g] at w;cases w;refine⟨p,dx,vs++ws,h1,e,kI ?_ (l.none d)⟩;rcases r.get mn with ⟨_,_,_,z,_⟩|⟨z,_⟩
   .rw[s] at z;cases z
   .exact z
 have fin:∀e,o=.error e->∀C H,X.mg e=some (.ref C)->Bd c Y H O B θ->E (.ref C) none H:=bY q;rcases bind_some em with ⟨rs,U,e1,e2⟩|⟨e,e1,e2⟩
 .rcases bind_some e1 with ⟨r,Z',D,P⟩|⟨y,D,P⟩
  .obtain⟨fs,ls,j,s,d,T,J⟩:=jd D;cases T;subst J;rcases bind_some P with ⟨rs',N,F,K⟩|⟨y,F,K⟩
   .cases K;obtain⟨p,dx,vs,hp,h2,hl⟩:=t j s d;refine⟨.ref p,hp,p,dx,vs,rfl,h2,hl,c,_,_,_,_,_,u,b,F,λws R S b2=>?_⟩;refine ke (rs:=.rf i::rs') (vs:=.ref p::ws) hd u ?_ ⟨hp,S⟩ b2 e2 (λr hr v H' hv b=>by subst hr;exact q v H' hv b) (λx hx=>by subst hx;exact q);simp only[SR,QX,Q7,<-S.len,<-hn _ _ _ F,(hd λ_=>none).len];lia
   .cases K
  .cases P
 .rcases bind_some e1 with ⟨r,Z',D,P⟩|⟨y,D,P⟩
  .obtain⟨fs,ls,j,s,d,T,J⟩:=jd D;cases T;subst J;rcases bind_some P with ⟨rs',N,F,K⟩|⟨y,F,K⟩
   .cases K
   .cases K;obtain⟨p,dx,vs,hp,h2,hl⟩:=t j s d;exact⟨.ref p,hp,p,dx,vs,rfl,h2,hl,c,_,_,_,_,_,u,b,F,λC R hm b2=>fin _ e2 C R hm b2⟩
  .obtain⟨_,_,_,_,_,T,_⟩:=jd D;cases T
end
section
variable{X:Cx}{E:XK}{CX:qA}{k n i:Nat}{f C:Addr}{fd:XQ}{ps:List Str}{m:Ms}{I:List A}{dvs:List V}{ds:List Value}{cn mn x:Str}{px apos pos:Pos}{e:Expr}{es:List Expr}{ma:Mi (List Rr)}
theorem rl(P:X.mg cn=some (.ref C))(hc:hW X.K C)(hm:Meth X.K C mn f)(F:dP X.prog X.w X.K X.mg X.base CX k f fd ps (iY (kx X) n m))(a:dd k X.A)(d:Binds X.K fd ps ds)(hd:Vals dvs ds)(b:∀G,bX (kx X) G dvs I)(hx:Passes CX X E)
  (hN:X.N[i]?=some x)(t:j9 X.env.scope x)(c:fM x)(s:lG x)(V:JA X E (e::es) ma)(hn:∀Z rs O,ma Z=some (.ok rs,O)->rs.length+1+I.length=n)(Y:XE (.Name x px) mn X.env (eval (.Name x px) X.env)=eval (.Name x px) X.env)
  (H:Yd ((e::es).length+([]:List XW).length) (XI pos (XB (e::es) X.env)) (XY pos (XO [] X.env))=true)(B:(apos.endLine==pos.line)=true)
  (h:XB (e::es) X.env=(false,eval e X.env)::XB es X.env)(v:(XI pos (XB es X.env)).any (·.1)=false):JE X E (.Call (.Attribute (.Name x px) mn apos) (e::es) [] pos) (ba m I (dt (aQ cn mn i) ma)):=
 ⟨PE.weaken (u5 (bU hN t c s) hc hm F a d hd hx V.p h v (iF Y H B)) (mZ b P hn)⟩
theorem oR(P:X.mg cn=some (.ref C))(hc:hW X.K C)(hm:Meth X.K C mn f)(F:dP X.prog X.w X.K X.mg X.base CX k f fd ps (iY (kx X) n m))(u:dd k X.A)(d:Binds X.K fd ps ds)(hd:Vals dvs ds)(L:∀G,bX (kx X) G dvs I)(hx:Passes CX X E)
  (hN:X.N[i]?=some x)(t:j9 X.env.scope x)(z:fM x)(s:lG x)(hn:1+I.length=n)(p:XE (.Name x px) mn X.env (eval (.Name x px) X.env)=eval (.Name x px) X.env)(j:(apos.endLine==pos.line)=true):JE X E (.Call (.Attribute (.Name x px) mn apos) [] [] pos) (ba m I (dt (aQ cn mn i) kS)):=
 ⟨PE.weaken (qB (bU hN t z s) hc hm F u d hd hx (iF p rfl j)) λY H Q h=>by obtain⟨v,r,a,dx,fs,D,e,T,y⟩:=mZ (X:=X) (E:=E) (C:=C) (n:=n) L P (ma:=kS) (λZ rs O q=>by cases q;rw[<-hn];rfl) Y H Q h;refine⟨v,r,a,dx,fs,D,e,T,?_⟩;obtain⟨c,Z,B,θ,o,O,S,b,em,q⟩:=y;cases em;exact q [] H trivial b⟩
end
section
variable{c:Cn}{Y:St}{H:Hp}{Z:List Sl}{B:St}{θ:List Sl}
theorem Bd.give{a:Addr}{xs:List A}{fs:List (Str×A)}(b:Bd c Y H Z (some (.ref a)::B) (.lv (.lst xs)::θ))(P:aD Z i=some (.obj cn fs)):
  ∃p C dx vs,Y[i]?=some (some (.ref p))/\H p=some (.ins C dx vs)/\c.mg cn=some (.ref C)/\vs.length=fs.length/\(fs.lookup f=none->vs.lookup f=none)/\Bd c Y (upd H p (.ins C dx (vs++[(f,.ref a)]))) (setAt Z i (.nob cn fs [(f,xs)])) B θ:=by
 obtain⟨L,b⟩:=b;have rel:av c.toKx (c.g H L) H (some (.ref a)::(B++Y)) (.lv (.lst xs)::(θ++Z)) L:=b.rel;have lt:B.length=θ.length:=by simpa using b.lt
 cases rel with
 |cons h r=>
  rename_i La L';cases h with
  |lv V=>
   cases V with
   |lst ea ra=>
    rename_i us;have nd:a∉L'/\L'.Nodup:=Rl.mp b.nd;obtain⟨E,L2,e1,r1,r2⟩:=av.split lt r;have key:∀(s t:Sl)(o:LO),Z[i]?=some s->(s=.lv (.obj cn fs)/\t=.lv (.nob cn fs [(f,xs)])\/s=.pv (.obj cn fs)/\t=.pv (.nob cn fs [(f,xs)]))->setAt Z i (.nob cn fs [(f,xs)])=Z.set i t->
      ∃p C dx vs,Y[i]?=some (some (.ref p))/\H p=some (.ins C dx vs)/\c.mg cn=some (.ref C)/\vs.length=fs.length/\(fs.lookup f=none->vs.lookup f=none)/\Bd c Y (upd H p (.ins C dx (vs++[(f,.ref a)]))) (setAt Z i (.nob cn fs [(f,xs)])) B θ:=by
     intro s t _ es K Q;obtain⟨x,M1,M2,X,hx,hs,e2,ins⟩:=r2.at es;have v:∀p,x=some (.ref p)->M2=[p]->LR c.toKx (c.g H (a::L')) H p (.obj cn fs) []->(∀G H' ,LR c.toKx G H' p (.nob cn fs [(f,xs)]) [a]->eV c.toKx G H' (some (.ref p)) t [p,a])->
       ∃p C dx vs,Y[i]?=some (some (.ref p))/\H p=some (.ins C dx vs)/\c.mg cn=some (.ref C)/\vs.length=fs.length/\(fs.lookup f=none->vs.lookup f=none)/\Bd c Y (upd H p (.ins C dx (vs++[(f,.ref a)]))) (setAt Z i (.nob cn fs [(f,xs)])) B θ:=by
      intro p ex J V mk;subst ex J;cases V with
      |obj e m k=>
       rename_i C dx vs;have R:p≠a:=λz=>nd.1 (by rw[e1,e2,<-z];simp);have T:∀b,b∈E++(M1++[p,a]++X)↔b∈a::L':=λb=>by
        rw[e1,e2];simp only[QO,QW,Rc,RL,or_false];constructor
        .rintro(h|(h|h|h)|h)<;>simp[h]
        .rintro(h|h|(h|h)|h)<;>simp[h]
       have hg:∀H',c.g H' (E++(M1++[p,a]++X))=c.g H' (a::L'):=λH'=>EV T;have pL:p∈a::L':=by rw[e1,e2];simp
       have N:c.g (upd H p (.ins C dx (vs++[(f,.ref a)]))) (a::L')=c.g H (a::L'):=by
        funext z
        by_cases O:z∈a::L'\/z∈c.Hd
        .rw[gO O,gO O]
        .rw[bM (λy=>O (.inl y)) (λy=>O (.inr y)),bM (λy=>O (.inl y)) (λy=>O (.inr y)),aq (λ(y:z=p)=>O (.inl (by rw[y];exact pL)))]
       have U:∀b∈E++(M1++X),b≠p:=λb d z=>by
        have D:=nd.2;rw[e1,e2] at D;subst z;obtain⟨n1,n2,n3⟩:=QV.mp D;rcases QO.mp d with z|z
        .exact n3 _ z _ Z4 rfl
        .obtain⟨m1,m2⟩:=je n2;exact m2 b Z4 z
       have keep:∀b∈E++(M1++X),∀u,H b=some u->upd H p (.ins C dx (vs++[(f,.ref a)])) b=some u:=λb d u e=>by rw[aq (U b d)];exact e
       refine⟨p,C,dx,vs,hx,e,m,k.len,(λz=>by
        rcases k.get f with ⟨_,_,_,y,_⟩|⟨y,_⟩
        .rw[z] at y;cases y
        .exact y),E++(M1++[p,a]++X),?_,?_,λz hz=>b.own z ((T z).mp hz),?_,?_,lt,b.hd⟩
       .have pm:(E++(M1++[p,a]++X)).Perm (a::L'):=by
         rw[e1,e2];have q1:(M1++[p,a]++X).Perm (a::(M1++[p]++X)):=by
          have:M1++[p,a]++X=(M1++[p])++(a::X):=by simp
          rw[this];exact R8
         exact(List.Perm.append_left E q1).trans R8
        exact pm.nodup_iff.mpr b.nd
       .rw[hg,N,Q];have i1:=ins (G':=c.g H (a::L')) (H':=upd H p (.ins C dx (vs++[(f,.ref a)]))) (y:=some (.ref p)) (t:=t) (L':=[p,a]) (Sq.refl _) (λb d=>keep b (QK _ d)) (mk _ _ (.nob (by rw[aN]) m k (.cons (by rw[aq R.symm];exact ea) ra .nil)));have n:Y.set i (some (.ref p))=Y:=by
         apply Sv;intro j;by_cases F:i=j
         .subst F;rw[Q6 (QL.mp hx).1,hx]
         .rw[Rj F]
        rw[n] at i1;exact(r1.sm (Sq.refl _) λb d=>keep b (QM _ d)).app i1
       .refine⟨λz o e'=>?_,λw hw=>?_⟩
        .obtain⟨u,u1,u2⟩:=b.fr.st z o e';by_cases hz:z=p
         .subst hz;refine⟨_,aN,λna _=>?_⟩;rcases b.own z pL with y|y
          .exact absurd y na
          .rw[y] at e';cases e'
         .exact⟨u,by rw[aq hz];exact u1,u2⟩
        .obtain⟨S,l,k3⟩:=b.fr.pk w hw;refine⟨?_,l,k3⟩;rw[aq λz=>?_]
         .exact S
         .obtain⟨ob,us',l⟩:=l;rw[z,e] at S;rw[l] at S;cases S
       .rw[Q];intro j o F w;by_cases I:i=j
        .subst I;rw[Q6 (QL.mp es).1] at F;rcases K with ⟨_,rfl⟩|⟨rfl,rfl⟩
         .cases F;cases w
         .exact b.kp i _ es rfl
        .rw[Rj I] at F;exact b.kp j o F w
     rcases K with ⟨rfl,rfl⟩|⟨rfl,rfl⟩
     .cases hs with
      |lv h=>
       rename_i p q;have:q=[]:=by cases h;rfl
       subst this;exact v p rfl rfl h λG H' h=>.lv h
     .cases hs with
      |pv h=>
       rename_i p q;have:q=[]:=by cases h;rfl
       subst this;exact v p rfl rfl h λG H' h=>.pv h
    unfold aD at P;cases es:Z[i]? with
    |none=>simp only[es] at P;cases P
    |some s=>
     cases s with
     |un=>simp only[es] at P;cases P
     |cf _=>simp only[es] at P;cases P
     |fr a=>simp only[es] at P;cases P
     |lv o1=>simp only[es] at P;cases P;exact key _ _ (.obj cn fs) es (.inl ⟨rfl,rfl⟩) (by unfold setAt;simp only[es])
     |pv o1=>simp only[es] at P;cases P;exact key _ _ (.obj cn fs) es (.inr ⟨rfl,rfl⟩) (by unfold setAt;simp only[es])
end
variable{H:Hp}
section
variable{X:Cx}{E:XK}
theorem rh(f:Str)(v:V):∀{fs:List (Str×V)},fs.lookup f=none->eD f v fs=fs++[(f,v)]
 |[],_=>rfl
 |(g,x)::r,h=>by
  simp only[Q2] at h;unfold eD;split at h
  .cases h
  .rename_i hc;have:¬ g=f:=λz=>by rw[z] at hc;simp at hc
   rw[Zb this,rh f v h];rfl
theorem Bd.uf{c:Cn}{Y:St}{B:St}{θ:List Sl}{v:V}{o:LO}(b:Bd c Y H Z (some v::B) (.lv o::θ)):∃a,v=.ref a:=by
 obtain⟨L,b⟩:=b;have rel:av c.toKx (c.g H L) H (some v::(B++Y)) (.lv o::(θ++Z)) L:=b.rel;cases rel with
 |cons h r=>cases h with
  |lv h=>exact⟨_,rfl⟩
end
mutual
noncomputable def pl:A->Bool
 | .tup xs=>Ef xs
 | .lst _=>false
 | .dic _=>false
 | .dit _=>false
 | .obj _ _=>false
 | .exc _=>false
 |_=>true
noncomputable def Ef:List A->Bool
 |[]=>true
 |a::r=>pl a&&Ef r
end
def N8:LO->Bool
 | .lst xs=>Ef xs
 |_=>false
def ya:Sl->Bool
 | .fr a=>pl a
 | .cf a=>pl a
 | .lv o=>N8 o
 | .pv o=>N8 o
 | .un=>true
def Tq(G G':Hp):Prop:=∀a u,G a=some u->(∀ws,u≠.lst ws)->(∀C dx fs,u≠.ins C dx fs)->G' a=some u
variable{vs:List V}
section
variable{k:Kx}{G G' H:Hp}
theorem JV{p:Addr}(s:Tq G G')(q:jb k.K G p vs):jb k.K G' p vs:=q.imp (λr=>by
 rcases r with r|⟨o,r⟩
 .exact .inl (s _ _ r (λws z=>by cases z) λC dx fs z=>by cases z)
 .exact .inr ⟨o,s _ _ r (λws z=>by cases z) λC dx fs z=>by cases z⟩) id
mutual
theorem RA.pl(s:Tq G G'):∀{v:V}{a:A},RA k G v a->M.pl a=true->RA k G' v a
 |_,_,.non,_=>.non
 |_,_,.bl b,_=>.bl b
 |_,_,.int i,_=>.int i
 |_,_,.str x,_=>.str x
 |_,_,.tup e r,h=>.tup (JV s e) (bX.pl s r (by rw[M.pl] at h;exact h))
 |_,_,.lst e r,h=>by rw[M.pl] at h;cases h
 |_,_,.dic e r,h=>by rw[M.pl] at h;cases h
 |_,_,.exc e m,h=>by rw[M.pl] at h;cases h
 |_,_,.obj e m r,h=>by rw[M.pl] at h;cases h
 |_,_,.dit e r,h=>by rw[M.pl] at h;cases h
 |_,_,.opq,_=>.opq
theorem bX.pl(s:Tq G G'):∀{vs:List V}{as:List A},bX k G vs as->Ef as=true->bX k G' vs as
 |_,_,.nil,_=>.nil
 |_,_,.cons h r,e=>by rw[Ef,QI] at e;exact .cons (RA.pl s h e.1) (bX.pl s r e.2)
end
theorem LR.pl{p:Addr}{o:LO}{q:List Addr}(s:Tq G G')(h:LR k G H p o q)(e:N8 o=true):LR k G' H p o q:=by
 cases h with
 |nob=>cases e
 |lst x r=>exact .lst x (r.pl s e)
 |dic x r=>cases e
 |obj x m r=>cases e
 |dit x r=>cases e
theorem eV.pl{x:Option V}{t:Sl}{L:List Addr}(s:Tq G G')(h:eV k G H x t L)(e:ya t=true):eV k G' H x t L:=by
 cases h with
 |un=>exact .un _
 |fr h=>exact .fr (h.pl s e)
 |cf h=>exact .cf (h.pl s e)
 |lv h=>exact .lv (h.pl s e)
 |pv h=>exact .pv (h.pl s e)
theorem eY.kind{ws:List (Str×V)}{ls:List (Str×List A)}{q:List Addr}(h:eY k G H ws ls q):∀a∈q,∃us,H a=some (.lst us):=by
 induction h with
 |nil=>intro a f;cases f
 |cons e r t m=>intro b d;rcases QW.mp d with rfl|d;exact⟨_,e⟩;exact m b d
theorem LR.kind{p:Addr}{cn:Str}{fs:List (Str×A)}{ls:List (Str×List A)}{q:List Addr}(h:LR k G H p (.nob cn fs ls) q):∀a∈p::q,(∃us,H a=some (.lst us))\/∃C dx fs,H a=some (.ins C dx fs):=by
 cases h with
 |nob e m r l=>
  intro a f;rcases QW.mp f with rfl|f
  .exact .inr ⟨_,_,_,e⟩
  .exact .inl (l.kind a f)
end
def bH(j:Nat)(m:Ms):Ms:=λZ=>match Z[j]? with
 |some (.pv (.nob c fs ls))=>match m (Z.set j (.fr (LO.nob c fs ls).a)) with
  |some (.rt s,U)=>if AL (aA Z.length U)[j]?&&(s::aA Z.length U).all ya then some (.rt s,(aA Z.length U).set j (.pv (.nob c fs ls))) else none
  |some (.ex x,U)=>if AL (aA Z.length U)[j]?&&(aA Z.length U).all ya then some (.ex x,(aA Z.length U).set j (.pv (.nob c fs ls))) else none
  |_=>none
 |_=>m Z
theorem iY.AE{K:Kx}{n j:Nat}{m:Ms}{Q:VK}{E:XK}(h:iY K n (bH j m) vs H Q E):iY K n m vs H Q E:=by
 obtain⟨hn,c,Z,f,O,ek,es,L,b,em,q⟩:=h;unfold bH at em;split at em
 .rename_i cn fs ls ej;have rel:av c.toKx (c.g H c.Lp) H (vs.map some) Z c.Lp:=b.rel;obtain⟨x,r,Lj,L2,x1,J,x3,x4⟩:=rel.pick ej;cases x3 with
  |pv lr=>
   rename_i p qs;have Y:=lr;cases lr with
   |nob ep mm rr ll=>
    rename_i C dx ws us;have nd:=b.nd;rw[J] at nd;have S:(r++L2).Nodup:=nd.sublist (S9 (Tn _) (TH _ _));have np:∀a∈p::qs,a∉r++L2:=λa V=>(je (by rw[<-QN] at nd;exact nd)).2 a V;have T:(p::qs).Nodup:=(QV.mp (QV.mp nd).2.1).1;have t:=Y.is;have P:=Y.nf;have sub:∀a,a∈r++L2->a∈c.Lp:=λa V=>by
     rw[J];rcases QO.mp V with z|z
     .exact QM _ z
     .exact QK _ (QK _ z)
    have pin:∀a∈p::qs,a∈c.Lp:=λa V=>by rw[J];exact QK _ (QM _ V)
    have xZ:∀a∈p::qs,a∉c.Hd:=λa V=>b.xZ (pin a V)
    let c2:Cn:={ c with Lp:=r++L2 }
    have X:Z.length=vs.length:=by have:=rel.len;simpa using this.symm
    have b2:eu c2 (vs.map some) H (Z.set j (.fr (LO.nob cn fs ls).a)) [] [] c2.Lp:=by refine⟨S,?_,λa V=>.inl V,⟨λa o e=>⟨o,by rw[<-L];exact e,λ_ _=>rfl⟩,λw N=>b.fr.pk w N⟩,λi o _ _=>by rw[es],rfl,λa V=>⟨(b.hd a V).1,λy=>(b.hd a V).2 (sub a y)⟩⟩;have sm:Sq (c.g H c.Lp) (c.g H (r++L2)):=dJ sub;have:av c.toKx (c.g H (r++L2)) H (vs.map some) (Z.set j (.fr (LO.nob cn fs ls).a)) (r++([]++L2)):=x4 (λ_ h=>h.sm sm (λ_ _ _ e=>e)) (.fr (Y.a' sm λa V u e=>by rw[bM (np a V) (xZ a V)];exact e));exact this
    have key:∀(H':Hp)(D:List Sl)(B:St)(θ:List Sl),B.length=θ.length->D[j]?=some .un->(θ++D).all ya=true->Bd c2 (vs.map some) H' D B θ->Bd c (vs.map some) H' (D.set j (.pv (.nob cn fs ls))) B θ:=by
     intro H' D B θ lt k R I;obtain⟨L',I⟩:=I;have A:∀a∈p::qs,∀w,(a,w)∉c.Wk:=λa V w N=>by obtain⟨h1,⟨ob,us,h2⟩,_⟩:=b.fr.pk _ N;simp only at h1 h2;exact P a V _ _ (by rw[h1,h2])
     have F:∀a∈p::qs,∀u,H a=some u->H' a=some u:=λa V u e=>by obtain⟨d,h1,h2⟩:=I.fr.st a u (by show c.H0 a=_;rw[L];exact e);rw[h1,h2 (np a V) (A a V)]
     have npL:∀a∈p::qs,a∉L':=λa V y=>by
      rcases I.own a y with z|z
      .exact np a V z
      .have z:c.H0 a=none:=z;obtain⟨u,l⟩:=t a V;rw[L,l] at z;cases z
     have jj:(θ++D)[θ.length+j]?=some .un:=by rw[RG (Si _ _),Ub];exact k
     obtain⟨y,M1,Mj,G,y1,y2,y3,y4⟩:=av.pick I.rel jj;cases y3 with
     |un=>
      have yx:y=some (.ref p):=by rw[<-lt,RG (Si _ _),Ub,x1] at y1;exact(Rh y1).symm
      subst yx;have eL:L'=M1++G:=y2;have hN:∀a,a∈M1++((p::qs)++G)↔a∈p::qs\/a∈L':=λa=>by
       rw[eL];simp only[QO];constructor
       .rintro(h|h|h)
        .exact .inr (.inl h)
        .exact .inl h
        .exact .inr (.inr h)
       .rintro(h|h|h)
        .exact .inr (.inl h)
        .exact .inl h
        .exact .inr (.inr h)
      have lq:Tq (c.g H' L') (c.g H' (M1++((p::qs)++G))):=λa u e nl ni=>by
       by_cases z:a∈L'\/a∈c.Hd
       .rw[gO z] at e;cases e
       .rw[bM (λy=>z (.inl y)) (λy=>z (.inr y))] at e;rw[bM (λy=>?_) (λy=>z (.inr y))]
        .exact e
        .rcases(hN a).mp y with w|w
         .rcases Y.kind a w with ⟨us,l⟩|⟨C,dx,fs,l⟩
          .rw[F a w _ l] at e;exact nl us (Rh e).symm
          .rw[F a w _ l] at e;exact ni C dx fs (Rh e).symm
         .exact z (.inl w)
      have sq:Sq (c.g H c.Lp) (c.g H' (M1++((p::qs)++G))):=λa u e=>by
       by_cases z:a∈c.Lp\/a∈c.Hd
       .rw[gO z] at e;cases e
       .rw[bM (λy=>z (.inl y)) (λy=>z (.inr y))] at e;obtain⟨d,h1,h2⟩:=I.fr.st a u (by show c.H0 a=_;rw[L];exact e);have l:d=u:=by
         by_cases N:∃w,(a,w)∈c.Wk
         .obtain⟨w,N⟩:=N;have p1:=(b.fr.pk _ N).1;have p2:=(I.fr.pk _ N).1;simp only at p1 p2;rw[e] at p1;rw[h1] at p2;rw[Rh p2,Rh p1]
         .exact h2 (λy=>z (.inl (sub a y))) λw y=>N ⟨w,y⟩
        subst l;refine⟨d,?_,.inl rfl⟩;rw[bM (λy=>?_) (λy=>z (.inr y))]
        .exact h1
        .rcases(hN a).mp y with w|w
         .exact z (.inl (pin a w))
         .rcases I.own a w with v|v
          .exact z (.inl (sub a v))
          .have v:c.H0 a=none:=v;rw[L,e] at v;cases v
      have Hi:av c.toKx (c.g H' (M1++((p::qs)++G))) H' (B++vs.map some) ((θ++D).set (θ.length+j) (.pv (.nob cn fs ls))) (M1++((p::qs)++G)):=
       y4 (λm h=>h.pl lq (R9.mp R _ m)) (.pv (Y.sm sq F))
      rw[Us _ _ (Si _ _),Ub] at Hi;refine⟨M1++((p::qs)++G),?_,Hi,λa V=>?_,⟨λa o e=>?_,λw N=>I.fr.pk w N⟩,λi o _ _=>by rw[es],lt,b.hd⟩
      .have pm:(M1++((p::qs)++G)).Perm ((p::qs)++(M1++G)):=by rw[<-QN,<-QN];exact Tg.append_right G
       refine(pm.nodup_iff).mpr (QV.mpr ⟨T,by rw[<-eL];exact I.nd,λa V b hb z=>npL a V (by rw[eL,z];exact hb)⟩)
      .rcases(hN a).mp V with w|w
       .exact .inl (pin a w)
       .rcases I.own a w with v|v
        .exact .inl (sub a v)
        .exact .inr v
      .obtain ⟨u,h1,h2⟩:=I.fr.st a o e;exact ⟨u,h1,fun na nw=>h2 (fun y=>na (sub a y)) nw⟩
    cases e4:m (Z.set j (.fr (LO.nob cn fs ls).a)) with
    |none=>simp only [e4] at em; cases em
    |some pr=>
     obtain⟨g,U⟩:=pr;simp only[e4] at em;refine⟨hn,c2,_,g,U,ek,es,L,b2,e4,?_⟩;cases g with
     |nx=>cases em
     |bk=>cases em
     |ct=>cases em
     |rt s=>
      simp only at em;split at em
      .rename_i hc;cases em;intro v H' hs I;rw[QI] at hc;rw[X] at hc q;simp only[gT] at q;exact q v H' hs (key H' _ _ _ rfl (uS hc.1) hc.2 I)
      .cases em
     |ex x=>
      simp only at em;split at em
      .rename_i hc;cases em;intro C H' hm I;rw[QI] at hc;rw[X] at hc q;simp only[gT] at q;exact q C H' hm (key H' _ _ _ rfl (uS hc.1) hc.2 I)
      .cases em
 .exact⟨hn,c,Z,f,O,ek,es,L,b,em,q⟩
section
variable{k:Kx}{G G' H:Hp}
theorem av.FT:∀{Y:St}{Z:List Sl}{L:List Addr},(∀{x:Option V}{t:Sl}{L:List Addr}(j:Nat),Z[j]?=some t->eV k G H x t L->eV k G' H x t L)->av k G H Y Z L->av k G' H Y Z L
 |_,_,_,_,.nil=>.nil
 |_,_,_,f,.cons h r=>.cons (f 0 rfl h) (av.FT (λj F=>f (j+1) (by simpa using F)) r)
end
def Oj:Rr->Bool
 | .rf _=>false
 | .fr a=>pl a
 | .nw o=>N8 o
end M
set_option maxHeartbeats 4000000
namespace L2
open PySem PySem.Spec PyProof.Rows PySem.W
structure GW(h:Heap)(e it l:Addr)(n:Nat):Prop where
 he:∃old,IsEnum h e it ((n:Nat):Int) old
 hi:h.IsListIter it l n
def PV(K:QJ)(a:Addr):It:=
  ⟨λi H=>∃xs x,dR K H a xs/\xs[i]?=some x,
   λi H v H'=>∃t x,v=.ref t/\H t=none/\H'=upd H t (.tup [.int i,x])/\∀xs,dR K H a xs->xs[i]?=some x,
   λi H=>∃xs,dR K H a xs/\xs[i]?=none⟩
variable{es:List Expr}{kk:Nat}{tp:Pos}
theorem xb{P:Program}{w:XM}{K:QJ}{e it a:Addr}(D:e≠it):
  Turn P w K (.Tuple es kk tp) (PV K a) [e,it] e (λn h=>GW h e it a n) where
 mem:=by simp
 obj:=λn h Z c hc=>by
  obtain⟨⟨old,he⟩,⟨o,e1,_,d1⟩⟩:=Z;simp only[QW,RL,or_false] at hc;rcases hc with rfl|rfl
  .exact⟨_,he,λv q=>by cases q⟩
  .exact⟨_,e1,λv q=>by rw[d1] at q;cases q⟩
 keep:=λn h h' Z k=>by obtain⟨⟨old,he⟩,⟨o,e1,f⟩⟩:=Z;exact⟨⟨old,k _ Z4 _ he⟩,⟨o,k _ Z4 _ e1,f⟩⟩
 item:=by
  intro X R j g hc n pins s Y H E I hf Z J;subst R j g;obtain⟨xs,x,V,hx⟩:=J;obtain⟨G,B,p,_⟩:=I.list V;obtain⟨u,hu,ru⟩:=B.get hx;obtain⟨⟨old,he⟩,hi⟩:=Z;refine wpAny_pyNext_enum_item he hi p.isList (by simpa using hu) D λh' z1 z2 z3 z4 keep=>?_;refine⟨_,rfl,wpAny_letOwnedTupleGo_enum z1 λh2 Q sb=>?_⟩;have l:∀c o,c∉[e,it]->s.heap.get? c=some o->h2.get? c=some o:=λc o hc q=>by simp only[QW,RL,or_false,not_or] at hc;exact sb.extBut c o hc.1 (keep c o hc.1 hc.2 q)
  have O:∀c o,s.heap.get? c=some o->c≠s.heap.objs.size:=λc o q=>Rw (Q5 q);have C:∀c o,H c=some o->c∉[e,it]:=λc o q hc=>by have:=(hf c hc).1;rw[q] at this;cases this
  have hn:=I.fresh;have L:=(O _ _ he).symm;have I2:Inv X pins Y (upd H s.heap.objs.size (.tup [.int n,x])) { s with heap:=h2,gens:=s.gens,drawn:=s.drawn,toks:=s.toks+1 }:=by
   refine I.step (λc hc=>?_) (λc o _ _ hc q _=>l c o hc q) (λc o _ _ hc q _=>⟨o.slots,l c o hc q⟩) (λc o _ q z=>by rw[aq (O c o q)];exact z) (λc o hc q=>⟨o,l c o hc q⟩)
    (λc z q=>by rw[aq (aJ q hn)];exact q) (λc o z q=>by rw[aq (aJ q hn)];exact q) (λc z q=>⟨#[],by rw[aq (aJ q hn),q];simp⟩) (λm hm=>?_) (λc o q=>?_) I.bare
   .obtain⟨A,t,f2,y,F,T⟩:=hf c hc;exact⟨y,t,F,T⟩
   .obtain⟨o,i,q2,ho,r⟩:=hm;exact⟨o,i,q2,l _ o (λhc=>(hf _ hc).2.1 rfl) ho,r⟩
   .by_cases hc:c=s.heap.objs.size
    .subst hc;rw[aN] at q;cases q;refine⟨(show 2<=sizeLine by decide),[.int n s.toks,u],.cons ⟨_,rfl⟩ (.cons ru .nil),?_⟩;exact⟨_,sb.extBut _ _ L z3,rfl,_,rfl,rfl⟩
    .rw[aq hc] at q;refine(I.hok c o q).jL (λd w hd z=>l d w ?_ z) (λd z=>by rw[aq (aJ z hn)];exact z) λd z r=>by rw[aq (aJ r hn)];exact r
     rcases hd with rfl|hd
     .exact C _ _ q
     .exact C _ _ hd
  have N:=λc o hc q=>sb.extBut c o hc q;obtain⟨o1,e1,f⟩:=z2;obtain⟨oi,U,_⟩:=id hi;have en:((n+1:Nat):Int)=(n:Int)+1:=by push_cast;rfl
  refine⟨.ref s.heap.objs.size,_,I2,rfl,⟨s.heap.objs.size,x,rfl,hn,rfl,λxs' i=>?_⟩,⟨⟨_,by rw[en];exact Q⟩,⟨o1,N _ _ (RO D) e1,f⟩⟩,λc hc=>?_⟩
  .rw[I.hZ i V];exact hx
  .rw[aq]
   .exact(hf c hc).1
   .rintro rfl;simp only[QW,RL,or_false] at hc;rcases hc with q|q
    .rw[<-q] at he;exact O _ _ he rfl
    .rw[<-q] at U;exact O _ _ U rfl
 done:=by
  intro X R j g hc n pins s Y H E I hf Z J;subst R j g;obtain⟨xs,V,S⟩:=J;obtain⟨G,B,p,_⟩:=I.list V;obtain⟨⟨old,he⟩,hi⟩:=Z;refine wpAny_pyNext_enum_end (I.ok.hd hc) he hi p.isList (by simpa using B.none_of S) λh' eb=>⟨rfl,?_⟩
  obtain⟨A,t,f2,y,F,T⟩:=hf it Z4;exact I.turned (λb o hb q=>eb b o hb q) A t y F T
 self:=λ_ _ _ _ _ Z q=>let ⟨_,he⟩:=Z.he;YU he q
def KG(K:QJ)(ta:TA):TI:=λY H R=>ta Y H λvs U=>∃a xs,vs=[.ref a]/\dR K U a xs/\R (PV K a) U
theorem CZ{X:Cx}{e1:Expr}{ta:TA}{p pos:Pos}(hg:Gl X "enumerate")(hm:X.mg "enumerate" = none)(ha:PA X [e1] ta)(hs:XB [e1] X.env=[(false,eval e1 X.env)]:=by rfl):
  PI X (.Tuple es kk tp) (.Call (.Name "enumerate" p) [e1] [] pos) (KG X.K ta):=by
 intro pins s Y H R I h;refine Call_ (gP I hg hm qe (RX (cM (ha pos pins s Y H _ I h) λus s1 ⟨vs,H1,I1,r1,q1⟩=>?_) (by rw[hs];rfl) rfl));obtain⟨a,xs,rfl,qa,q⟩:=q1;obtain⟨u,rfl,r⟩:=r1.one;cases r;obtain⟨its,rv,pa,_⟩:=I1.list qa;refine call_enumerate_list pa.isList λh' z1 z2 z3 keep=>?_;have I2:=I1.kept (t':=s1.toks) keep;refine YU z1 ⟨_,[s1.heap.objs.size+1,s1.heap.objs.size],_,_,H1,rfl,I2,xb (Nat.succ_ne_self _),⟨⟨_,z1⟩,z2⟩,λc hc=>?_,q⟩;have hle:s1.heap.objs.size<=c:=by simp only[QW,RL,or_false] at hc;rcases hc with rfl|rfl<;>first|exact Si _ _|exact QR _
 exact I1.xM hle (I1.hok.fresh hle)
end L2
namespace M
open PySem L2
section
variable{X:Cx}{E:XK}
noncomputable def iL:Nat->List A->List A
 |_,[]=>[]
 |i,a::as=>.tup [.int i,a]::iL (i+1) as
theorem kj:∀(as:List A)(i:Nat),(iL i as).length=as.length
 |[],_=>rfl
 |_::as,i=>by simp only[iL,QX,QX,kj as]
theorem mL:∀(as:List A)(i j:Nat)(a:A),(iL i as)[j]?=some a->∃b,as[j]?=some b/\a=.tup [.int (i+j:Nat),b]
 |[],_,_,_,h=>by simp[iL] at h
 |b::as,i,0,a,h=>by cases h;exact⟨b,rfl,rfl⟩
 |b::as,i,j+1,a,h=>by obtain⟨c,h1,h2⟩:=mL as (i+1) j a h;exact⟨c,by simp only[List.getElem?_cons_succ];exact h1,by rw[h2,show i+1+j=i+(j+1) by lia]⟩
def vH(ma:Mi Rr):Mi (List A):=aY ma λx=>λZ=>match eH [x] Z with
 |some ([.lst as],O)=>some (.ok (iL 0 as),O)
 |_=>none
theorem Dk{e1:Expr}{m:Mi Rr}{p pos:Pos}{es:List Expr}{kk:Nat}{tp:Pos}(hg:Gl X "enumerate")(hm:X.mg "enumerate" = none)(h1:JE X E e1 m)(hs:XB [e1] X.env=[(false,eval e1 X.env)]:=by rfl)(hs3:XB [e1] X.env=(false,eval e1 X.env)::XB [] X.env:=by rfl):
  JI X E (.Tuple es kk tp) (.Call (.Name "enumerate" p) [e1] [] pos) (vH m):=⟨λpins s Y H R I h=>by
 refine CZ hg hm (a9 h1.p cB hs3) hs pins s Y H R I ?_;obtain⟨c,Z,B,θ,o,O,ek,b,em,q⟩:=h;refine bF ek b em (λx v U H1 hv b1 em1=>?_) (dw q);cases ef:eH [x] U with
 |none=>rw[ef] at em1;cases em1
 |some pr=>
  rw[ef] at em1;obtain⟨q1,N⟩:=pr;rcases q1 with _|⟨a1,_|_⟩
  .cases em1
  rotate_left
  .cases a1<;>exact cF em1
  cases a1 with
  |lst as=>
   cases em1;have eK:c.K=X.K:=Ze Kx.K ek;have b3:=(Bd.eH (rs:=[x]) (vs:=[v]) ⟨hv,trivial⟩ b1 ef).1;obtain⟨L0,bl0,v0⟩:=Bd.mid (xs:=[]) (ss:=[]) rfl b3;cases v0 with
   |lst ve vr=>
   rename_i pv ts;refine⟨pv,ts,rfl,by rw[<-eK];exact fz (g_same _ _ _) ve,q _ H1 [some (.ref pv)] [.lst as] rfl (λc' j H' O F D J T i ek' lx b'=>?_) b3⟩;have eK':c'.K=X.K:=Ze Kx.K ek';obtain⟨L,bl,v1⟩:=Bd.mid lx b';cases v1 with
   |lst ve vr=>
   rename_i ts';have sv:dR X.K H' pv ts':=by rw[<-eK'];exact fz (g_same _ _ _) ve
   refine⟨λhi=>⟨ts',sv,?_⟩,λa ha=>?_⟩
   .rw[kj] at hi;exact Sk (by rw[vr.len];exact hi)
   .obtain⟨b0,za,rfl⟩:=mL as 0 i a ha;obtain⟨t,g1,g2⟩:=vr.ta za;refine⟨⟨ts',t,sv,g1⟩,λx H2 yy=>?_⟩;obtain⟨tt,x',rfl,hn,rfl,hall⟩:=yy;have z1:=hall ts' sv;rw[g1] at z1;cases z1;obtain⟨b2,sm,np⟩:=bl.new hn;rw[Uo];exact b2.push (.tup (.inl (.inl (by rw[bM np (bl.Mu hn)];exact aN))) ((bX.cons (.int _) (.cons g2 .nil)).sm sm))
  | _=>cases em1⟩
end
end M
set_option maxHeartbeats 1000000
namespace M
open PySem L2
variable{i j:Nat}{cn f:Str}
section
variable{c:Cn}{Y:St}{H:Hp}{Z:List Sl}{B:St}{θ:List Sl}{L:List Addr}
theorem eu.Nc{fs:List (Str×A)}{ls:List (Str×List A)}{xs:List A}(b:eu c Y H Z B θ L)(P:aD Z i=some (.nob cn fs ls))(e1:fs.lookup f=none)(e2:ls.lookup f=some xs):
  ∃p C dx ws a ys,Y[i]?=some (some (.ref p))/\H p=some (.ins C dx ws)/\c.mg cn=some (.ref C)/\ws.lookup f=some (.ref a)/\H a=some (.lst ys)/\bX c.toKx (c.g H L) ys xs /\
   ∀n x,bX c.toKx (c.g H L) n x->Bd c Y (upd H a (.lst n)) (setAt Z i (.nob cn fs (iJ f x ls))) B θ:=by
 obtain⟨p,q0,h1,h2,v⟩:=b.live P (.nob cn fs ls) (.lst []);cases h2 with
 |nob e m r l=>
  rename_i C dx ws us;obtain⟨a,ys,S,k2,j,D⟩:=l.get e2;have I:ws.lookup f=none:=by
   rcases r.get f with ⟨_,_,_,y,_⟩|⟨y,_⟩
   .rw[e1] at y;cases y
   .exact y
  refine⟨p,C,dx,ws++us,a,ys,h1,e,m,kK I S,j,D,λn x V=>?_⟩;have fin:∀(s t:Sl),Z[i]?=some s->(s=.lv (.nob cn fs ls)/\t=.lv (.nob cn fs (iJ f x ls))\/s=.pv (.nob cn fs ls)/\t=.pv (.nob cn fs (iJ f x ls)))->Bd c Y (upd H a (.lst n)) (Z.set i t) B θ:=by
   intro s t es K;obtain⟨p',q',Q,F,nd,J⟩:=b.M6 es K;simp only[h1] at Q;cases Q;cases F with
   |nob k T r' G=>
    rename_i C' o h X;rw[e] at k;have R:h=ws/\X=us:=by
     have w:h.length=ws.length:=by simp only[r'.len,r.len]
     injection k with k;injection k with _ _ k;exact⟨(Ww k.symm w).1,(Ww k.symm w).2⟩
    obtain⟨rfl,rfl⟩:=R;obtain⟨a',N,O,q,w3,w4⟩:=G.get e2;rw[S] at O;cases O;injection k with k;injection k with eC edx _;subst eC edx;refine J a (QP _ q) λH' E sm=>?_;refine .nob (dx:=dx) ?_ T r' (eY.put G (Rl.mp nd).2 e2 S E (λb d U=>sm b (QP _ d) U) V);rw[sm p Q0 λz=>(Rl.mp nd).1 (z▸q)];exact e
  unfold aD at P;unfold setAt;cases es:Z[i]? with
  |none=>rw[es] at P;cases P
  |some s=>
   rw[es] at P;cases s with
   |un=>cases P
   |cf _=>cases P
   |fr a=>cases P
   |lv u=>cases P;exact fin _ _ es (.inl ⟨rfl,rfl⟩)
   |pv u=>cases P;exact fin _ _ es (.inr ⟨rfl,rfl⟩)
theorem eu.DD{a:A}(b:eu c Y H Z B θ L)(e:Z[j]?=some (.fr a)):∃v,Y[j]?=some (some v)/\RA c.toKx (c.g H L) v a:=by
 obtain⟨q,L2,N,n,k⟩:=av.split b.lt b.rel;obtain⟨x,_,_,_,hx,hs,_⟩:=k.at e;cases hs with
 |fr h=>exact⟨_,hx,h⟩
end
variable{α:Type}
theorem G6{xs:List α}{a:α}(h:gF xs.length k=some j)(e:xs[j]?=some a):gL xs k=some a:=by
 delta L2.gL
 rw[h];exact e
variable{cs:List Str}{Z:List Sl}{px py p1 p2 pos:Pos}{e:Expr}
section
variable{X:Cx}{E:XK}
def ownAt(cs:List Str)(Z:List Sl)(i:Nat)(f:Str):Option (List A):=match aD Z i with
 |some (.nob c fs ls)=>if cs.contains c&&(fs.lookup f).isNone then ls.lookup f else none
 |_=>none
theorem lK{xs:List A}(h:ownAt cs Z i f=some xs):∃c fs ls,aD Z i=some (.nob c fs ls)/\cs.contains c=true/\fs.lookup f=none/\ls.lookup f=some xs:=by
 delta ownAt at h
 cases P:aD Z i with
 |none=>rw[P] at h;cases h
 |some lo=>
  rw[P] at h;cases lo with
  |nob cn fs ls=>
   by_cases e:(cs.contains cn&&(fs.lookup f).isNone)=true
   .have h:(if (cs.contains cn&&(fs.lookup f).isNone)=true then ls.lookup f else none)=some xs:=h;rw[Za e] at h;rw[QI,RM] at e;exact⟨cn,fs,ls,rfl,e.1,e.2,h⟩
   .have h:(if (cs.contains cn&&(fs.lookup f).isNone)=true then ls.lookup f else none)=some xs:=h;rw[Zb e] at h;cases h
  |_=>exact cF h
noncomputable def intAt(Z:List Sl)(j:Nat):Option Int:=match Z[j]? with
 |some (.fr (.int k))=>some k
 |_=>none
theorem i5(h:intAt Z j=some k):Z[j]?=some (.fr (.int k)):=by
 delta intAt at h
 cases e:Z[j]? with
 |none=>rw[e] at h;cases h
 |some s=>
  rw[e] at h;cases s with
  |fr a=>cases a with
   |int i=>cases h;rfl
   |_=>exact cF h
  |_=>exact cF h
def Qe(cs:List Str)(i:Nat)(f:Str)(j:Nat):Mi Rr:=λZ=>match ownAt cs Z i f,intAt Z j with
 |some xs,some k=>match gL xs k with
  |some a=>some (.ok (.fr a),Z)
  |none=>none
 |_,_=>none
def gi(Z:List Sl)(i:Nat)(f:Str)(xs:List A):List Sl:=match aD Z i with
 |some (.nob c fs ls)=>setAt Z i (.nob c fs (iJ f xs ls))
 |_=>Z
theorem kl{c:Str}{fs:List (Str×A)}{ls:List (Str×List A)}(xs:List A)(h:aD Z i=some (.nob c fs ls)):gi Z i f xs=setAt Z i (.nob c fs (iJ f xs ls)):=by delta gi;rw[h]
def fH(cs:List Str)(i:Nat)(f:Str)(j:Nat)(m:Mi Rr):Ms:=dq m λr Z=>match bW r Z with
 |some (a,U)=>match ownAt cs U i f,intAt U j with
  |some xs,some k=>match gF xs.length k with
   |some n=>some (.nx,gi U i f (xs.set n a))
   |none=>none
  |_,_=>none
 |none=>none
theorem wJ{x y:Str}{m:Mi Rr}(hN:X.N[i]?=some x)(A:j9 X.env.scope x)(hd:fM x)(s:lG x)
  (z:X.N[j]?=some y)(G:j9 X.env.scope y)(I:fM y)(Q:lG y)
  (hc:∀c C,cs.contains c=true->X.mg c=some (.ref C)->hW X.K C/\cj X.K C f)
  (d:XE (.Name x px) f X.env (eval (.Name x px) X.env)=eval (.Name x px) X.env)(he:JE X E e m)
  (hp:∀{J u S:TE},PE X (.Attribute (.Name x px) f p2) J->PE X (.Name y py) u->PE X e S->PS X (.Assign [.Subscript (.Attribute (.Name x px) f p2) (.Name y py) p1] e pos) (sA S (zF J u qS))):
  JS X E (.Assign [.Subscript (.Attribute (.Name x px) f p2) (.Name y py) p1] e pos) (fH cs i f j m):=
 ⟨PS.weaken (hp (fk (bU hN A hd s) d) (bU z G I Q) he.p) λD Y H h=>by
  obtain⟨c,Z,B,θ,fl,O,o,b,em,q⟩:=h;refine d6 o b em q λr v U H1 A b1 T=>?_;cases l:bW r U with
  |none=>rw[l] at T;cases T
  |some pr=>
   obtain⟨a,Z'⟩:=pr;rw[l] at T;dsimp only at T;have b2:=Bd.bW (xs:=[]) (ss:=[]) rfl b1 A l;cases e1:ownAt cs Z' i f with
   |none=>rw[e1] at T;cases T
   |some xs=>
    rw[e1] at T;cases e2:intAt Z' j with
    |none=>rw[e2] at T;cases T
    |some k=>
     rw[e2] at T;dsimp only at T;cases V:gF xs.length k with
     |none=>rw[V] at T;cases T
     |some n=>
      simp only[V] at T;cases T;obtain⟨cn,fs,ls,P,F,R,g⟩:=lK e1;obtain⟨L,bl,ra⟩:=Bd.uv b2;obtain⟨p,C,dx,ws,a',ys,h1,h2,h3,h4,h5,t,h7⟩:=bl.Nc P R g;obtain⟨w,k1,k2⟩:=bl.DD (i5 e2);cases k2;have e4:X.mg cn=some (.ref C):=by have:=Ze (λk:Kx=>k.mg cn) o;simp only at this;rw[<-this];exact h3
      obtain⟨c1,c2⟩:=hc cn C F e4;rw[kl _ P] at q;exact⟨_,h1,p,C,dx,ws,_,rfl,h2,c1,c2,h4,_,k1,a',ys,k,n,rfl,rfl,h5,by rw[t.len];exact V,q Y _ (h7 _ _ (t.set ra n))⟩⟩
end
variable{K:Kx}
section
open PyProof.Rows
noncomputable def ur(ns:List Int):Int:=ns.getD (argBest (λi j=>decide (ns.getD i 0 > ns.getD j 0)) (ns.length-1)) 0
section
variable{X:Cx}{E:XK}
def F0(K:QJ):List V->Hp->VK->Prop:=λus H Q=>∃(a:Addr)(ns:List Int),us=[.ref a]/\dR K H a (ns.map V.int)/\ns≠[]/\Q (.int (qK ns)) H
theorem wo(hc:X.calm=true):du X (.builtin "min") (F0 X.K):=by
 intro pins s Y H vs us Q I C h;obtain⟨a,ns,rfl,R,U,q⟩:=h;obtain⟨u,rfl,F⟩:=C.one;cases F;obtain⟨j,r,p,hz⟩:=I.list R;obtain⟨xs,e1,e2⟩:=jh r;simp only[e1] at p;have m:=p.isList;have O:=let ⟨_,e,_⟩:=m;Q5 e
 have hsz:xs.length=ns.length:=by simp only[<-e2,QU]
 have b:=VY.mpr U;refine call_min_walk (X8 m ?_);refine⟨_,[_,a],[_],_,_,_,_,rfl,U8 (A:=X.A.in1) (I.ok.hd hc) _ a (Rw O) (Yg xs.toArray),
  ⟨⟨_,Rp _ rfl,rfl,rfl⟩,m.push _⟩,λc hc=>?_,by simp[Yg,hsz,b],CmpOf.ints_lt (numAt xs.toArray) (λ_ _=>YK),λv h' tk V hk=>?_⟩
 .show c<(s.heap.push _).objs.size;rw[SM];rcases QW.mp hc with rfl|hc
  .exact Ru _
  .rcases QW.mp hc with rfl|hc
   .exact Q9 O
   .cases hc
 .have x:=λc o e=>by
   refine hk c o (λhm=>?_) (QY _ e);rcases QW.mp hm with e1|hm
   .have:=Q5 e;rw[e1] at this;exact Rf _ this
   .cases hm
  have en:numAt xs.toArray=λi=>ns.getD i 0:=funext λi=>by rw[<-e2];unfold numAt;simp only[VH,Rk,Rt]
  have B:∃t,v=.int (qK ns) t:=by obtain⟨t,l⟩:=YK V;simp only[l,en];unfold qK;simp[Yg,hsz]
  obtain⟨t,rfl⟩:=B;exact⟨.int (qK ns),H,I.kept x,⟨t,rfl⟩,q⟩
def qU:A->Option Rr
 | .lst as=>match eO as with
  |some ns=>if ns=[] then none else some (.fr (.int (qK ns)))
  |none=>none
 |_=>none
theorem Ci:sL K (λv=>F0 K.K [v]) qU:=.scalar λH v a q n h=>by
 cases a<;>first|(exact cF h)|skip
 rename_i as;cases n with
 |lst e r=>
  unfold qU at h;cases e1:eO as with
  |none=>simp only[e1] at h;cases h
  |some ns=>
   simp only[e1] at h;split at h
   .cases h
   .rename_i hn;cases h;have y:=jZ r e1;subst y;exact⟨_,_,rfl,λ_=>.int _,λQ k=>⟨_,ns,rfl,e,hn,k⟩⟩
def FX(K:QJ):List V->Hp->VK->Prop:=λus H Q=>∃(a:Addr)(ns:List Int),us=[.ref a]/\dR K H a (ns.map V.int)/\ns≠[]/\Q (.int (ur ns)) H
theorem wz(hc:X.calm=true):du X (.builtin "max") (FX X.K):=by
 intro pins s Y H vs us Q I C h;obtain⟨a,ns,rfl,R,U,q⟩:=h;obtain⟨u,rfl,F⟩:=C.one;cases F;obtain⟨j,r,p,hz⟩:=I.list R;obtain⟨xs,e1,e2⟩:=jh r;simp only[e1] at p;have m:=p.isList;have O:=let ⟨_,e,_⟩:=m;Q5 e
 have hsz:xs.length=ns.length:=by simp only[<-e2,QU]
 have b:=VY.mpr U;refine call_max_walk (X8 m ?_);refine⟨_,[_,a],[_],_,_,_,_,rfl,U8 (A:=X.A.in1) (I.ok.hd hc) _ a (Rw O) (Yg xs.toArray),
  ⟨⟨_,Rp _ rfl,rfl,rfl⟩,m.push _⟩,λc hc=>?_,by simp[Yg,hsz,b],CmpOf.ints_gt (numAt xs.toArray) (λ_ _=>YK),λv h' tk V hk=>?_⟩
 .show c<(s.heap.push _).objs.size;rw[SM];rcases QW.mp hc with rfl|hc
  .exact Ru _
  .rcases QW.mp hc with rfl|hc
   .exact Q9 O
   .cases hc
 .have x:=λc o e=>by
   refine hk c o (λhm=>?_) (QY _ e);rcases QW.mp hm with e1|hm
   .have:=Q5 e;rw[e1] at this;exact Rf _ this
   .cases hm
  have en:numAt xs.toArray=λi=>ns.getD i 0:=funext λi=>by rw[<-e2];unfold numAt;simp only[VH,Rk,Rt]
  have B:∃t,v=.int (ur ns) t:=by obtain⟨t,l⟩:=YK V;simp only[l,en];unfold ur;simp[Yg,hsz]
  obtain⟨t,rfl⟩:=B;exact⟨.int (ur ns),H,I.kept x,⟨t,rfl⟩,q⟩
def rn:A->Option Rr
 | .lst as=>match eO as with
  |some ns=>if ns=[] then none else some (.fr (.int (ur ns)))
  |none=>none
 |_=>none
theorem DT:sL K (λv=>FX K.K [v]) rn:=.scalar λH v a q n h=>by
 cases a<;>first|(exact cF h)|skip
 rename_i as;cases n with
 |lst e r=>
  unfold rn at h;cases e1:eO as with
  |none=>simp only[e1] at h;cases h
  |some ns=>
   simp only[e1] at h;split at h
   .cases h
   .rename_i hn;cases h;have y:=jZ r e1;subst y;exact⟨_,_,rfl,λ_=>.int _,λQ k=>⟨_,ns,rfl,e,hn,k⟩⟩
end
end
section
open PyProof.Rows PySem.W
theorem uA:∀{ns:List Int}{us:List Value}{i:Int}{j:Nat},Vals (ns.map V.int) us->t4 ns i=some j->kf_ints us=true/\kf_at i us=some j
 |[],_,_,_,.nil,h=>nomatch h
 |n::ns,_,i,j,.cons h r,e=>by
  obtain⟨t,rfl⟩:=h;have H:∀{ns:List Int}{us:List Value},Vals (ns.map V.int) us->kf_ints us=true:=λ{ns}=>by
   induction ns with
   |nil=>intro us r;cases r;rfl
   |cons n ns m=>intro us r;cases r with|cons h r=>obtain⟨t,rfl⟩:=h;have z:=m r;exact z
  refine⟨H (ns:=n::ns) (.cons ⟨t,rfl⟩ r),?_⟩;by_cases c:n=i
  .subst c;have e:(if n=n then some 0 else (t4 ns n).map (·+1))=some j:=e;rw[Za rfl] at e;cases e;show cond (n==n) _ _=_;rw[beq_self_eq_true];rfl
  .have e:(if n=i then some 0 else (t4 ns i).map (·+1))=some j:=e;rw[Zb c] at e;cases e2:t4 ns i with
   |none=>rw[e2] at e;cases e
   |some F=>rw[e2] at e;cases e;have:=(uA r e2).2;show cond (n==i) _ (match kf_at i _ with|some j=>some (j+1)|none=>none)=_;rw[this,beq_eq_false_iff_ne.mpr c];rfl
section
open PySem.Builtin PyProof.Rows PySem.W
noncomputable def Pj(j:Array Value)(n:Nat)(sl:Array (Option Value)):Obj:={ cls:=.type "list",dict:=none,data:=.seq j n,slots:=sl }
theorem rz{a:Addr}{b:Array Value}{n:Nat}{sl:Array (Option Value)}{v:Int}{t:Tok}(hi:kf_ints b.toList=true){j:Nat}(F:j<b.size)(b1:isInt v b[j]=true)(X:∀m (h:m<b.size),m<j->isInt v b[m]=false){up:Int}(l:(j:Int)<up):
  ∀d i,i+d=j->Meets (Builtin.«list.index.loop» ⟨[.ref a,.int v t,rawInt ((i:Nat):Int),rawInt up],[]⟩) λ_ R s=>s.heap.get? a=some (Pj b n sl)/\R (.ok (.ret (.int j s.toks))) { s with toks:=s.toks+1 }
 |0,i,e=>by
  obtain rfl:i=j:=e;rintro prog w A R ⟨hp,g,dp,tk,os⟩ ⟨hl,h⟩
  wp_walk using YH hl
  rw[show (if ((i:Nat):Int)<up then b[((i:Nat):Int).toNat]? else none)=some b[i] by rw[Za l,UY];exact Vc F];refine XC (kf_eq hi _ Z4 prog w _ _ _ _ ?_);rw[b1]
  wp_walk
  exact h
 |d+1,i,e=>by
  rintro prog w A R ⟨hp,g,dp,tk,os⟩ ⟨hl,h⟩;have O:=hl
  delta Pj at hl
  wp_walk using YH hl
  have lt:i<b.size:=by lia
  rw[show (if ((i:Nat):Int)<up then b[((i:Nat):Int).toNat]? else none)=some b[i] by rw[Za Q1,UY];exact Vc lt];refine XC (kf_eq hi _ Z4 prog w _ _ _ _ ?_);rw[X i lt Q1]
  wp_walk
  exact⟨plainId_quiet Tv _,codeAny_builtin U3 (by rw[XN.under_plainId Tv _];exact rz hi F b1 X l d (i+1) Q1 prog w A R _ ⟨O,h⟩)⟩
theorem xc{a:Addr}{b:Array Value}{n:Nat}{sl:Array (Option Value)}{v:Int}{t:Tok}(hi:kf_ints b.toList=true)(F:j<b.size)(b1:isInt v b[j]=true)(X:∀m (h:m<b.size),m<j->isInt v b[m]=false)(l:(j:Int)<2^63-1):
  Meets (Builtin.«list.index» ⟨[.ref a,.int v t],[]⟩) λ_ R s=>s.heap.get? a=some (Pj b n sl)/\R (.ok (.ret (.int j s.toks))) { s with toks:=s.toks+1 }:=by
 rintro prog w A R ⟨hp,g,dp,tk,os⟩ ⟨hl,h⟩;have O:=hl
 wp_walk using YH hl
 exact⟨plainId_quiet Tv _,codeAny_builtin U3 (by exact rz hi F b1 X l j 0 (Uo j) prog w A R _ ⟨O,h⟩)⟩
end
section
variable{X:Cx}{E:XK}
def Fy(K:QJ):V->List V->Hp->VK->Prop:=λx us H Q=>∃(a:Addr)(ns:List Int)(i:Int)(j:Nat),x=.ref a/\us=[.int i]/\dR K H a (ns.map V.int)/\t4 ns i=some j/\Q (.int j) H
theorem Ao:Ob X "list.index" (Fy X.K):=by
 intro pins s Y H x vs v us Q I E C h;obtain⟨a,ns,i,j,rfl,rfl,R,c,q⟩:=h;cases E;obtain⟨u,rfl,Z⟩:=C.one;obtain⟨t,rfl⟩:=Z;obtain⟨b,r,⟨⟨oc,od,B,osl⟩,n,p,g,l,z⟩,hz⟩:=I.list R;cases g;cases l;cases z;obtain⟨h1,h2⟩:=uA r c;obtain⟨a1,b1,w⟩:=kf_at_spec h2;have hl:b.length<=sizeLine:=by rw[<-r.length];exact hz
 rw[X4] at hl;refine YF TM ⟨_,p,rfl⟩ PySem.F.entry_list_index (PySem.F.args_list_index_2 _ _) (xc (n:=n) (sl:=osl) (by simpa using h1) (j:=j) (by simpa using a1) (by simpa using b1) (λm hm O=>by simpa using w m (by simpa using hm) O) Q1) ⟨p,?_⟩;exact⟨.int j,H,I.tok _,⟨_,rfl⟩,q⟩
end
end
variable{Y B:St}{H:Hp}{c:Cn}{θ:List Sl}{L:List Addr}{apos cpos:Pos}
section
variable{X:Cx}{E:XK}
def qp(X:Cx)(e:Expr)(g:List Sl->Option A):Prop:=∃I,PE X e I/\∀{c:Cn}{Y:St}{H:Hp}{Z:List Sl}{B:St}{θ:List Sl}{L:List Addr}{a:A},eu c Y H Z B θ L->g Z=some a->∃v,(∀Q:VK,Q v H->I Y H Q)/\RA c.toKx (c.g H L) v a
noncomputable def xV(j:Nat)(Z:List Sl):Option A:=match Z[j]? with
 |some (.fr a)=>some a
 |_=>none
theorem Ay{a:A}(h:xV j Z=some a):Z[j]?=some (.fr a):=by
 delta xV at h
 cases e:Z[j]? with
 |none=>rw[e] at h;cases h
 |some s=>
  rw[e] at h;cases s with
  |fr a=>cases h;rfl
  |_=>exact cF h
theorem xy{y:Str}(hN:X.N[j]?=some y)(A:j9 X.env.scope y)(hd:fM y)(s:lG y):qp X (.Name y py) (xV j):=
 ⟨_,bU hN A hd s,λb h=>by obtain⟨v,h1,h2⟩:=b.DD (Ay h);exact⟨v,λQ q=>⟨v,h1,q⟩,h2⟩⟩
noncomputable def AU(k:Int)(_:List Sl):Option A:=some (.int k)
theorem Ak(h:PE X e (tC (.int k))):qp X e (AU k):=
 ⟨_,h,λ_ e=>by cases e;exact⟨_,λQ q=>q,.int _⟩⟩
def Cf(Y:St)(H:Hp)(i:Nat)(f:Str)(a:Addr):Prop:=∃p C dx ws,Y[i]?=some (some (.ref p))/\H p=some (.ins C dx ws)/\ws.lookup f=some (.ref a)
theorem Cf.one{a b:Addr}(h:Cf Y H i f a)(h':Cf Y H i f b):a=b:=by obtain⟨p,C,dx,ws,h1,h2,h3⟩:=h;obtain⟨Z,T,c,x,o,n,d⟩:=h';rw[h1] at o;cases o;rw[h2] at n;cases n;rw[h3] at d;cases d;rfl
theorem gz{xs:List A}(u:c.toKx=kx X)(hc:∀c C,cs.contains c=true->X.mg c=some (.ref C)->hW X.K C/\cj X.K C f)(bl:eu c Y H Z B θ L)(e1:ownAt cs Z i f=some xs):
  ∃a ys,Cf Y H i f a/\(∀Q:VK,Q (.ref a) H->Cj X.K (md i) f Y H Q)/\H a=some (.lst ys)/\bX c.toKx (c.g H L) ys xs/\∀n x,bX c.toKx (c.g H L) n x->Bd c Y (upd H a (.lst n)) (gi Z i f x) B θ:=by
 obtain⟨cn,fs,ls,P,b,o,s⟩:=lK e1;obtain⟨p,C,dx,ws,a,ys,h1,h2,h3,h4,h5,t,h⟩:=bl.Nc P o s;have v:X.mg cn=some (.ref C):=by have:=Ze (λk:Kx=>k.mg cn) u;simp only at this;rw[<-this];exact h3
 obtain⟨w,l⟩:=hc cn C b v;exact⟨a,ys,⟨p,C,dx,ws,h1,h2,h4⟩,λQ q=>⟨_,h1,p,C,dx,ws,_,rfl,h2,w,l,h4,q⟩,h5,t,λn x r=>by rw[kl _ P];exact h _ _ r⟩
def gy(cs:List Str)(i:Nat)(f:Str)(g:List Sl->Option A):Mi Rr:=λZ=>match ownAt cs Z i f,g Z with
 |some xs,some (.int k)=>match eO xs with
  |some ns=>match t4 ns k with
   |some j=>some (.ok (.fr (.int j)),Z)
   |none=>none
  |none=>none
 |_,_=>none
theorem wC{x:Str}{g:List Sl->Option A}(hN:X.N[i]?=some x)(t:j9 X.env.scope x)(hd:fM x)(s:lG x)
  (hc:∀c C,cs.contains c=true->X.mg c=some (.ref C)->hW X.K C/\cj X.K C f)
  (d:XE (.Name x px) f X.env (eval (.Name x px) X.env)=eval (.Name x px) X.env)(he:qp X e g)
  (m:XE (.Attribute (.Name x px) f p1) "index" X.env (eval (.Attribute (.Name x px) f p1) X.env)=eval (.Attribute (.Name x px) f p1) X.env)
  (r:((XI cpos (XB [e] X.env)).all (λx=>!x.1)&&(XY cpos (XO [] X.env)).all (λx=>x.1.isSome)&&decide (([e]:List Expr).length+([]:List XW).length+(if ([]:List XW).isEmpty then 0 else 1)<30))=true)
  (G:(apos.endLine==cpos.line)=true)(hs:XB [e] X.env=(false,eval e X.env)::XB [] X.env)(p:(XI cpos (XB [] X.env)).any (·.1)=false):
  JE X E (.Call (.Attribute (.Attribute (.Name x px) f p1) "index" apos) [e] [] cpos) (gy cs i f g):=by
 obtain⟨I,he,R⟩:=he;exact⟨PE.weaken (oO Sb TM Vd Ao (fk (bU hN t hd s) d) (a9 he cB hs) m r G hs p) λY H Q h=>by
  obtain⟨c,Z,B,θ,o,O,u,b,em,q⟩:=h
  delta gy at em
  cases e1:ownAt cs Z i f with
  |none=>rw[e1] at em;cases em
  |some xs=>
   cases e2:g Z with
   |none=>rw[e1,e2] at em;cases em
   |some a=>
    rw[e1,e2] at em;cases a with
    |int k=>
     dsimp only at em;cases D:eO xs with
     |none=>rw[D] at em;cases em
     |some ns=>
      rw[D] at em;dsimp only at em;cases P:t4 ns k with
      |none=>rw[P] at em;cases em
      |some j=>rw[P] at em;cases em;obtain⟨L,bl⟩:=b;obtain⟨a,ys,_,h1,h5,z,_⟩:=gz u hc bl e1;obtain⟨v,S,l⟩:=R bl e2;cases l;have w:=jZ z D;subst w;refine h1 _ ⟨.inl ⟨rfl,_,.inl (.inl h5)⟩,?_⟩;exact S _ ⟨a,ns,k,j,rfl,rfl,.of h5,P,q _ H trivial (bl.push (.int _))⟩
    | _=>cases em⟩
def sD(cs:List Str)(i:Nat)(f:Str)(g:List Sl->Option A):Mi Rr:=λZ=>match ownAt cs Z i f,g Z with
 |some xs,some a=>if xs.length<=100000 then some (.ok (.fr .non),gi Z i f (xs++[a])) else none
 |_,_=>none
theorem D2{x:Str}{g:List Sl->Option A}(hN:X.N[i]?=some x)(z:j9 X.env.scope x)(hd:fM x)(s:lG x)
  (hc:∀c C,cs.contains c=true->X.mg c=some (.ref C)->hW X.K C/\cj X.K C f)
  (d:XE (.Name x px) f X.env (eval (.Name x px) X.env)=eval (.Name x px) X.env)(he:qp X e g)
  (G:XE (.Attribute (.Name x px) f p1) "append" X.env (eval (.Attribute (.Name x px) f p1) X.env)=eval (.Attribute (.Name x px) f p1) X.env)
  (r:((XI cpos (XB [e] X.env)).all (λx=>!x.1)&&(XY cpos (XO [] X.env)).all (λx=>x.1.isSome)&&decide (([e]:List Expr).length+([]:List XW).length+(if ([]:List XW).isEmpty then 0 else 1)<30))=true)
  (j:(apos.endLine==cpos.line)=true)(hs:XB [e] X.env=(false,eval e X.env)::XB [] X.env)(m:(XI cpos (XB [] X.env)).any (·.1)=false):
  JE X E (.Call (.Attribute (.Attribute (.Name x px) f p1) "append" apos) [e] [] cpos) (sD cs i f g):=by
 obtain⟨I,he,R⟩:=he;exact⟨PE.weaken (oO Sb TC TF kh (fk (bU hN z hd s) d) (a9 he cB hs) G r j hs m) λY H Q h=>by
  obtain⟨c,Z,B,θ,o,O,u,b,em,q⟩:=h
  delta sD at em
  cases e1:ownAt cs Z i f with
  |none=>rw[e1] at em;cases em
  |some xs=>
   cases e2:g Z with
   |none=>rw[e1,e2] at em;cases em
   |some a=>
    rw[e1,e2] at em;dsimp only at em;by_cases hl:xs.length<=100000
    .rw[Za hl] at em;cases em;obtain⟨L,bl⟩:=b;obtain⟨p,ys,_,h1,h5,t,D⟩:=gz u hc bl e1;obtain⟨v,S,l⟩:=R bl e2;refine h1 _ ⟨.inl ⟨rfl,_,.inl (.inl h5)⟩,?_⟩;exact S _ ⟨p,ys,v,rfl,rfl,h5,by have:=t.len;have:=X4;lia,q _ _ trivial (Bd.push (D _ _ (t.snoc l)) λ_=>.non)⟩
    .rw[Zb hl] at em;cases em⟩
def sI(cs:List Str)(i:Nat)(f:Str)(g:List Sl->Option A):Mi Rr:=λZ=>match ownAt cs Z i f,g Z with
 | some xs,some (.int k)=>if k.natAbs<2^62 then (match Yw k xs.length with
  |some n=>match xs[n]? with
   |some a=>some (.ok (.fr a),gi Z i f (xs.eraseIdx n))
   |none=>none
  | none=>none) else none
 |_,_=>none
theorem bX.one{k:Kx}{G:Hp}{a:A}:∀{vs:List V}{as:List A}{n:Nat},bX k G vs as->as[n]?=some a->∃v,vs[n]?=some v/\RA k G v a
 |_,_,_,.nil,h=>nomatch h
 |_,_,0,.cons h r,e=>by cases e;exact⟨_,rfl,h⟩
 |_,_,n+1,.cons h r,e=>bX.one r (n:=n) e
theorem CH{x:Str}{g:List Sl->Option A}(hN:X.N[i]?=some x)(w:j9 X.env.scope x)(hd:fM x)(s:lG x)
  (hc:∀c C,cs.contains c=true->X.mg c=some (.ref C)->hW X.K C/\cj X.K C f)
  (d:XE (.Name x px) f X.env (eval (.Name x px) X.env)=eval (.Name x px) X.env)(he:qp X e g)
  (G:XE (.Attribute (.Name x px) f p1) "pop" X.env (eval (.Attribute (.Name x px) f p1) X.env)=eval (.Attribute (.Name x px) f p1) X.env)
  (r:((XI cpos (XB [e] X.env)).all (λx=>!x.1)&&(XY cpos (XO [] X.env)).all (λx=>x.1.isSome)&&decide (([e]:List Expr).length+([]:List XW).length+(if ([]:List XW).isEmpty then 0 else 1)<30))=true)
  (j:(apos.endLine==cpos.line)=true)(hs:XB [e] X.env=(false,eval e X.env)::XB [] X.env)(m:(XI cpos (XB [] X.env)).any (·.1)=false):
  JE X E (.Call (.Attribute (.Attribute (.Name x px) f p1) "pop" apos) [e] [] cpos) (sI cs i f g):=by
 obtain⟨te,he,R⟩:=he;exact⟨PE.weaken (oO Sb PySem.F.slot_list_pop PySem.F.type_list_pop zi (fk (bU hN w hd s) d) (a9 he cB hs) G r j hs m) λY H Q h=>by
  obtain⟨c,Z,B,θ,o,O,z,b,em,q⟩:=h
  delta sI at em
  cases e1:ownAt cs Z i f with
  |none=>rw[e1] at em;cases em
  |some xs=>
   cases e2:g Z with
   |none=>rw[e1,e2] at em;cases em
   |some a=>
    rw[e1,e2] at em;cases a with
    |int k=>
     dsimp only at em;by_cases hl:k.natAbs<2^62
     .rw[Za hl] at em;cases D:Yw k xs.length with
      |none=>rw[D] at em;cases em
      |some n=>
       rw[D] at em;dsimp only at em;cases P:xs[n]? with
       |none=>rw[P] at em;cases em
       |some a=>rw[P] at em;cases em;obtain⟨L,bl⟩:=b;obtain⟨p,ys,y,h1,h5,t,_⟩:=gz z hc bl e1;obtain⟨v,S,l⟩:=R bl e2;cases l;obtain⟨u,I,T⟩:=bX.one t P;refine h1 _ ⟨.inl ⟨rfl,_,.inl (.inl h5)⟩,?_⟩;obtain⟨L2,b2⟩:=bl.push T;obtain⟨p2,V,U,_,J,g6,g7⟩:=gz z hc b2 e1;obtain rfl:=y.one U;rw[h5] at J;cases J;exact S _ ⟨p,ys,k,n,u,rfl,rfl,h5,by lia,by lia,by rw[t.len];exact D,I,q _ _ trivial (g7 _ _ (bX.erase n g6))⟩
     .rw[Zb hl] at em;cases em
    | _=>cases em⟩
end
variable{te:TE}{p:Pos}
section
variable{X:Cx}{E:XK}
def wZ(neg:Bool)(cs:List Str)(i:Nat)(f:Str)(g:List Sl->Option A):Mi Rr:=λZ=>match ownAt cs Z i f,g Z with
 |some xs,some a=>if fJ a&&xs.all fJ then some (.ok (.fr (.bl (if neg then !FG (kZ a) (xs.map kZ) else FG (kZ a) (xs.map kZ)))),Z) else none
 |_,_=>none
theorem B4{neg:Bool}{g:List Sl->Option A}(hc:∀c C,cs.contains c=true->X.mg c=some (.ref C)->hW X.K C/\cj X.K C f)
  (R:∀{c:Cn}{Y:St}{H:Hp}{Z:List Sl}{B:St}{θ:List Sl}{L:List Addr}{a:A},eu c Y H Z B θ L->g Z=some a->∃v,(∀Q:VK,Q v H->te Y H Q)/\RA c.toKx (c.g H L) v a)
  (Y:St)(H:Hp)(Q:VK)(h:kO (kx X) E (wZ neg cs i f g) Y H Q):HK (Lu X.K neg) te (Cj X.K (md i) f) Y H Q:=by
 obtain⟨c,Z,B,θ,o,O,u,b,em,q⟩:=h
 delta wZ at em
 cases e1:ownAt cs Z i f with
 |none=>rw[e1] at em;cases em
 |some xs=>
  cases e2:g Z with
  |none=>rw[e1,e2] at em;cases em
  |some a=>
   rw[e1,e2] at em;dsimp only at em;by_cases hl:(fJ a&&xs.all fJ)=true
   .rw[Za hl] at em;simp only[QI] at hl;cases em;obtain⟨L,bl⟩:=b;obtain⟨p,ys,_,h1,h5,t,_⟩:=gz u hc bl e1;obtain⟨v,S,l⟩:=R bl e2;obtain⟨rfl,h2⟩:=tP l hl.1;obtain⟨rfl,h4⟩:=ph t hl.2;exact S _ (h1 _ ⟨p,_,rfl,.inl (.of h5),h2,h4,q _ H trivial (bl.push (.bl _))⟩)
   .rw[Zb hl] at em;cases em
theorem HW{x:Str}{g:List Sl->Option A}(hN:X.N[i]?=some x)(t:j9 X.env.scope x)(hd:fM x)(s:lG x)
  (hc:∀c C,cs.contains c=true->X.mg c=some (.ref C)->hW X.K C/\cj X.K C f)
  (d:XE (.Name x px) f X.env (eval (.Name x px) X.env)=eval (.Name x px) X.env)(he:qp X e g)(hm:XR .In (.Attribute (.Name x px) f p1)=false):
  JT X E (.Compare e [.In] [.Attribute (.Name x px) f p1] pos) (aj (wZ false cs i f g)):=by
 obtain⟨te,he,R⟩:=he;exact⟨PT.weaken (vN kA he (fk (bU hN t hd s) d) hm) λY H Q h=>B4 hc R Y H _ (iH Y H Q h)⟩
def jR(cs:List Str)(i:Nat)(f:Str):Mi Rr:=λZ=>match ownAt cs Z i f with
 |some xs=>some (.ok (.fr (.int xs.length)),Z)
 |none=>none
theorem DB{x y:Str}(hN:X.N[i]?=some x)(hv:j9 X.env.scope x)(hd:fM x)(hcd:lG x)
  (hc:∀c C,cs.contains c=true->X.mg c=some (.ref C)->hW X.K C/\cj X.K C f)
  (hb:XE (.Name x px) f X.env (eval (.Name x px) X.env)=eval (.Name x px) X.env)
  (hg:Gl X y)(hm:X.mg y=none)(hv2:XD y=some (.builtin "len"))(hn:y ≠ "__name__")(hdb:fM y)(hs:XB [.Attribute (.Name x px) f p1] X.env=(false,eval (.Attribute (.Name x px) f p1) X.env)::XB [] X.env:=by rfl)(hp:(XI pos (XB [] X.env)).any (·.1)=false:=by rfl):
  JE X E (.Call (.Name y p) [.Attribute (.Name x px) f p1] [] pos) (jR cs i f):=
 ⟨PE.weaken (jH pd hg hm hv2 (a9 (fk (bU hN hv hd hcd) hb) cB hs) hn hdb hs hp) λY H Q h=>by
  obtain⟨c,Z,B,θ,o,O,ek,b,em,q⟩:=h
  delta jR at em
  cases e1:ownAt cs Z i f with
  |none=>rw[e1] at em;cases em
  | some xs=>rw[e1] at em;cases em;obtain⟨L,bl⟩:=b;obtain⟨p,ys,_,h1,h5,h6,_⟩:=gz ek hc bl e1;exact h1 _ ⟨p,ys,rfl,.inl (.of h5),by rw[h6.len];exact q _ H trivial (bl.push (.int _))⟩⟩
def pK(cs:List Str)(i:Nat)(f:Str)(g:List Sl->Option A):Mi Rr:=λZ=>match ownAt cs Z i f,g Z with
 |some xs,some (.int k)=>match gL xs k with
  |some a=>some (.ok (.fr a),Z)
  |none=>none
 |_,_=>none
theorem Kb{x:Str}{g:List Sl->Option A}(hN:X.N[i]?=some x)(t:j9 X.env.scope x)(hd:fM x)(s:lG x)
  (hc:∀c C,cs.contains c=true->X.mg c=some (.ref C)->hW X.K C/\cj X.K C f)
  (d:XE (.Name x px) f X.env (eval (.Name x px) X.env)=eval (.Name x px) X.env)(he:qp X e g)(hs:jG e):
  JE X E (.Subscript (.Attribute (.Name x px) f p1) e pos) (pK cs i f g):=by
 obtain⟨te,he,R⟩:=he;exact⟨PE.weaken (yz qj (fk (bU hN t hd s) d) he hs) λY H Q h=>by
  obtain⟨c,Z,B,θ,o,O,r,b,em,q⟩:=h
  delta pK at em
  cases e1:ownAt cs Z i f with
  |none=>rw[e1] at em;cases em
  |some xs=>
   cases e2:g Z with
   |none=>rw[e1,e2] at em;cases em
   |some a=>
    rw[e1,e2] at em;cases a with
    |int k=>
     dsimp only at em;cases D:gL xs k with
     |none=>rw[D] at em;cases em
     |some a=>rw[D] at em;cases em;obtain⟨L,bl⟩:=b;obtain⟨p,ys,_,h1,h5,z,_⟩:=gz r hc bl e1;obtain⟨v,S,l⟩:=R bl e2;cases l;obtain⟨u,I,T⟩:=z.gL D;exact h1 _ (S _ ⟨p,ys,k,u,rfl,rfl,.of h5,I,q u H trivial (bl.push T)⟩)
    | _=>cases em⟩
end
section
variable{k:Kx}{G G' H:Hp}
theorem av.Fv:∀{Y:St}{Z:List Sl}{L:List Addr},(∀{x:Option V}{t:Sl}{L:List Addr}(j:Nat),Y[j]?=some x->Z[j]?=some t->eV k G H x t L->eV k G' H x t L)->av k G H Y Z L->av k G' H Y Z L
 |_,_,_,_,.nil=>.nil
 |_,_,_,f,.cons h r=>.cons (f 0 rfl rfl h) (av.Fv (λj hs F=>f (j+1) (by simpa using hs) (by simpa using F)) r)
theorem av.Gb:∀{Y:St}{Z:List Sl}{L:List Addr}{j:Nat}{t:Sl},av k G H Y Z L->Z[j]?=some t->∃x q B L2,Y[j]?=some x/\eV k G H x t B/\L=q++(B++L2) /\
  ∀{G':Hp}{t':Sl}{L':List Addr},(∀{x:Option V}{t:Sl}{L:List Addr}(n:Nat),Y[n]?=some x->Z[n]?=some t->n≠j->eV k G H x t L->eV k G' H x t L)->eV k G' H x t' L'->av k G' H Y (Z.set j t') (q++(L'++L2))
 |_,_,_,j,t,.nil,e=>by simp at e
 |x::Y,u::Z,_,0,t,.cons (L:=La) (L':=Lb) h r,e=>by cases e;refine⟨x,[],La,Lb,rfl,h,rfl,λ{G2 T p} f h'=>?_⟩;simp only[Um];exact .cons h' (av.Fv (λn hs hn=>f (n+1) (by simpa using hs) (by simpa using hn) (U4 n)) r)
 |x::Y,u::Z,_,j+1,t,.cons (L:=La) h r,e=>by obtain⟨y,q,B,L2,h1,h3,h2,h4⟩:=av.Gb r (by simpa using e);refine⟨y,La++q,B,L2,by simpa using h1,h3,by simp only[h2,QN],λf h'=>?_⟩;have:=h4 (λn hs hn U=>f (n+1) (by simpa using hs) (by simpa using hn) (λz=>U (Wg z))) h';simp only[QN];exact .cons (f 0 rfl rfl (U4 j).symm h) this
end
section
variable{c:Cn}{Y:St}{H:Hp}{Z:List Sl}{B:St}{θ:List Sl}
theorem Bd.LF{s:Sl}{fs:List (Str×A)}{ls:List (Str×List A)}(b:Bd c Y H Z B θ)(es:Z[i]?=some s)(hs:s=.lv (.nob cn fs ls)\/s=.pv (.nob cn fs ls)):
  ∃l:Cn,l.toKx=c.toKx/\Bd l Y H (Z.set i (.fr (LO.nob cn fs ls).a)) [] []/\∀H' U Q X,Bd l Y H' U Q X->(∃a,U[i]?=some (.fr a))->(∀j t,j≠i->U[j]?=some t->ya t=true\/∃a,t=.fr a/\Z[j]?=some (.fr a))->X.all ya=true->(∀f a,Cf Y H i f a->Cf Y H' i f a)/\Bd c Y H' (U.set i s) (Q++B) (X++θ):=by
 obtain⟨L,b⟩:=b;obtain⟨r,L2,e1,r1,r2⟩:=av.split b.lt b.rel;obtain⟨x,M1,M2,T,hx,d,e2,ins⟩:=r2.at es;have key:∀p q,x=some (.ref p)->M2=p::q->LR c.toKx (c.g H L) H p (.nob cn fs ls) q->(∀G H',LR c.toKx G H' p (.nob cn fs ls) q->eV c.toKx G H' (some (.ref p)) s (p::q))->
   ∃l:Cn,l.toKx=c.toKx/\Bd l Y H (Z.set i (.fr (LO.nob cn fs ls).a)) [] []/\∀H' U Q X,Bd l Y H' U Q X->(∃a,U[i]?=some (.fr a))->(∀j t,j≠i->U[j]?=some t->ya t=true\/∃a,t=.fr a/\Z[j]?=some (.fr a))->X.all ya=true->(∀f a,Cf Y H i f a->Cf Y H' i f a)/\Bd c Y H' (U.set i s) (Q++B) (X++θ):=by
  intro p q ex em lr mk;subst ex em;have nd:=b.nd;simp only[e1,e2] at nd;obtain⟨n1,n2,n3⟩:=QV.mp nd;obtain⟨m1,m2⟩:=je n2;have ndq:(p::q).Nodup:=(QV.mp (QV.mp n2).1).2.1;have E:∀a,a∈L↔a∈r\/a∈p::q\/a∈M1++T:=λa=>by
   simp only[e1,e2];simp only[QO];constructor
   .rintro(h|(h|h)|h)
    .exact .inl h
    .exact .inr (.inr (.inl h))
    .exact .inr (.inl h)
    .exact .inr (.inr (.inr h))
   .rintro(h|h|h|h)
    .exact .inl h
    .exact .inr (.inl (.inr h))
    .exact .inr (.inl (.inl h))
    .exact .inr (.inr h)
  have S:∀a∈L,∃u,H a=some u:=b.rel.is;have k:∀a∈L,a∉c.Hd:=λa V=>b.xZ V;have nq:∀a∈p::q,a∉M1++T:=m2;have n1q:∀a∈r,a∉p::q:=λa V hq=>n3 a V a (QM _ (QK _ hq)) rfl;have n1m:∀a∈r,a∉M1++T:=λa V hq=>by
   rcases QO.mp hq with z|z
   .exact n3 a V a (QM _ (QM _ z)) rfl
   .exact n3 a V a (QK _ z) rfl
  let l:Cn:={ c with H0:=H,Lp:=M1++T,Hd:=r++c.Hd,Wk:=[] }
  have g2in:∀{H':Hp}{K:List Addr}{a:Addr},a∈K\/a∈r\/a∈c.Hd->l.g H' K a=none:=λ{H' K a} h=>gO (c:=l) (by rcases h with h|h|h;exact .inl h;exact .inr (QM _ h);exact .inr (QK _ h));have m:∀{H':Hp}{K:List Addr}{a:Addr},a∉K->a∉r->a∉c.Hd->l.g H' K a=H' a:=λ{H' K a} h1 h2 h3=>bM (c:=l) h1 (λy=>by rcases QO.mp y with z|z;exact h2 z;exact h3 z);have sm0:Sq (c.g H L) (l.g H (M1++T)):=λa u e=>by
   by_cases z:a∈L\/a∈c.Hd
   .rw[gO z] at e;cases e
   .have O:a∉L:=λy=>z (.inl y);rw[bM O (λy=>z (.inr y))] at e;refine⟨u,?_,.inl rfl⟩;rw[m (λy=>O ((E a).mpr (.inr (.inr y)))) (λy=>O ((E a).mpr (.inl y))) (λy=>z (.inr y))];exact e
  have es2:Y.set i (some (.ref p))=Y:=by
   apply Sv;intro j;by_cases F:i=j
   .subst F;rw[Q6 (QL.mp hx).1,hx]
   .rw[Rj F]
  refine⟨l,rfl,⟨M1++T,m1,?_,λa V=>.inl V,⟨λa o e=>⟨o,e,λ_ _=>rfl⟩,λw N=>nomatch N⟩,λj o F w0=>?_,rfl,λa V=>?_⟩,?_⟩
  .have i1:=ins (G':=l.g H (M1++T)) (H':=H) (y:=some (.ref p)) (t:=.fr (LO.nob cn fs ls).a) (L':=[]) sm0 (λ_ _ _ e=>e) (.fr (lr.a' sm0 λa V u e=>by rw[m (nq a V) (λy=>n1q a y V) (k a ((E a).mpr (.inr (.inl V))))];exact e))
   rw[es2,RT] at i1;exact i1
  .by_cases I:i=j
   .subst I;rw[Q6 (QL.mp es).1] at F;cases F;cases w0
   .rw[Rj I] at F;exact b.kp j o F w0
  .rcases QO.mp V with z|z
   .exact⟨S a ((E a).mpr (.inl z)),n1m a z⟩
   .obtain⟨⟨u,R⟩,_⟩:=b.hd a z;obtain⟨u',h1,_⟩:=b.fr.st a u R;exact⟨⟨u',h1⟩,λy=>k a ((E a).mpr (.inr (.inr y))) z⟩
  .rintro H' U Q X ⟨L',P⟩ ⟨a0,ea0⟩ hpl hp1;have jL:∀a u,H a=some u->a∉M1++T->H' a=some u:=λa u e na=>by obtain⟨u',h1,h2⟩:=P.fr.st a u e;rw[h1,h2 na λw N=>nomatch N]
   have D:∀a∈p::q,∀u,H a=some u->H' a=some u:=λa V u e=>jL a u e (nq a V);have h1':∀a∈r,∀u,H a=some u->H' a=some u:=λa V u e=>jL a u e (n1m a V);have npL:∀a∈p::q,a∉L':=λa V y=>by
    rcases P.own a y with z|z
    .exact nq a V z
    .obtain⟨u,R⟩:=S a ((E a).mpr (.inr (.inl V)));have z:H a=none:=z;rw[R] at z;cases z
   have n1L:∀a∈r,a∉L':=λa V y=>P.xZ y (QM _ V);obtain⟨K1,K2,e5,t1,t2⟩:=av.split P.lt P.rel;obtain⟨y,J,N2,N3,hy,hys,e4,ins2⟩:=t2.Gb ea0;have yp:y=some (.ref p):=by rw[hx] at hy;exact(Rh hy).symm
   subst yp;cases hys with
   |fr hra=>
    have eL:L'=K1++(J++N3):=by simp only[e5,e4];rfl
    have pm:(K1++(r++(J++((p::q)++N3)))).Perm (r++((p::q)++L')):=by rw[eL,SW];intro a;simp only[S5];lia
    have hN:∀a,a∈K1++(r++(J++((p::q)++N3)))↔a∈r\/a∈p::q\/a∈L':=λa=>by rw[pm.mem_iff,QO,QO]
    have lq:Tq (l.g H' L') (c.g H' (K1++(r++(J++((p::q)++N3))))):=λa u e nl ni=>by
     by_cases z:a∈L'\/a∈r\/a∈c.Hd
     .rw[g2in z] at e;cases e
     .rw[m (λy=>z (.inl y)) (λy=>z (.inr (.inl y))) (λy=>z (.inr (.inr y)))] at e;rw[bM (λy=>?_) (λy=>z (.inr (.inr y)))]
      .exact e
      .rcases(hN a).mp y with w|w|w
       .exact z (.inr (.inl w))
       .rcases lr.kind a w with ⟨us,R⟩|⟨C,dx,fs,R⟩
        .rw[D a w _ R] at e;exact nl us (Rh e).symm
        .rw[D a w _ R] at e;exact ni C dx fs (Rh e).symm
       .exact z (.inl w)
    have sq:Sq (c.g H L) (c.g H' (K1++(r++(J++((p::q)++N3))))):=λa u e=>by
     by_cases z:a∈L\/a∈c.Hd
     .rw[gO z] at e;cases e
     .have O:a∉L:=λy=>z (.inl y);rw[bM O (λy=>z (.inr y))] at e;refine⟨u,?_,.inl rfl⟩;rw[bM (λy=>?_) (λy=>z (.inr y))]
      .exact jL a u e λy=>O ((E a).mpr (.inr (.inr y)))
      .rcases(hN a).mp y with w|w|w
       .exact O ((E a).mpr (.inl w))
       .exact O ((E a).mpr (.inr (.inl w)))
       .rcases P.own a w with v|v
        .exact O ((E a).mpr (.inr (.inr v)))
        .have v:H a=none:=v;rw[e] at v;cases v
    have Hi:av c.toKx (c.g H' (K1++(r++(J++((p::q)++N3))))) H' Y (U.set i s) (J++((p::q)++N3)):=by
     refine ins2 (λ{x t L} j hx F hne h=>?_) (mk _ _ (lr.sm sq D));rcases hpl j t hne F with z|⟨a1,rfl,ej⟩
     .exact h.pl lq z
     .obtain⟨x',_,_,_,hx',hs',_⟩:=r2.at ej;rw[hx] at hx';cases hx';cases hs' with
      |fr ra=>
       cases h with
       |fr _=>exact .fr (ra.sm sq)
    have tem:av c.toKx (c.g H' (K1++(r++(J++((p::q)++N3))))) H' Q X K1:=t1.FT λj F h=>h.pl lq (R9.mp hp1 _ (RD F));refine⟨λf a ⟨p',C,dx,ws,g1,g2,g3⟩=>?_,?_⟩
    .rw[hx] at g1;cases g1;exact⟨p,C,dx,ws,hx,D p Q0 _ g2,g3⟩
    refine⟨K1++(r++(J++((p::q)++N3))),?_,(by rw[QN,QN];exact tem.app ((r1.sm sq h1').app Hi)),λa V=>?_,⟨λa o e=>?_,λw N=>?_⟩,λj o F w0=>?_,(by rw[Q7,Q7,P.lt,b.lt]),b.hd⟩
    .refine(pm.nodup_iff).mpr (QV.mpr ⟨n1,QV.mpr ⟨ndq,P.nd,λa V b hb z=>npL a V (by rw[z];exact hb)⟩,λa V b hb z=>?_⟩);subst z;rcases QO.mp hb with w|w
     .exact n1q a V w
     .exact n1L a V w
    .rcases(hN a).mp V with w|w|w
     .exact b.own a ((E a).mpr (.inl w))
     .exact b.own a ((E a).mpr (.inr (.inl w)))
     .rcases P.own a w with v|v
      .exact b.own a ((E a).mpr (.inr (.inr v)))
      .exact .inr (b.fr.fresh v)
    .obtain⟨u,f1,f2⟩:=b.fr.st a o e;obtain⟨u',g1,g2⟩:=P.fr.st a u f1;refine⟨u',g1,λk1 n=>?_⟩;rw[g2 (λy=>?_) λw N=>nomatch N]
     .exact f2 k1 n
     .rcases b.own a ((E a).mpr (.inr (.inr y))) with v|v
      .exact k1 v
      .rw[e] at v;cases v
    .obtain⟨k1,n,k3⟩:=b.fr.pk w N;refine⟨jL _ _ k1 λy=>?_,n,k3⟩;have hw2:=(E w.1).mpr (.inr (.inr y));obtain⟨ob,vs,n⟩:=n;exact b.rel.AM _ hw2 ob vs (by rw[k1,n])
    .by_cases I:i=j
     .subst I;have hlt:i<U.length:=(QL.mp ea0).1;rw[Q6 hlt] at F;cases F;exact b.kp i _ es w0
     .rw[Rj I] at F;exact P.kp j o F w0
 rcases hs with rfl|rfl
 .cases d with
  |lv h=>exact key _ _ rfl rfl h λG H' h=>.lv h
 .cases d with
  |pv h=>exact key _ _ rfl rfl h λG H' h=>.pv h
end
noncomputable def Ou:Sl->Bool
 | .fr _=>true
 | .un=>true
 |_=>false
def Il(i:Nat)(Z:List Sl):Bool:=(Z.set i .un).all Ou
def oS(i:Nat)(Z:List Sl):Option LO:=match Z[i]? with
 |some (.lv (.nob c fs ls))=>some (.nob c fs ls)
 |some (.pv (.nob c fs ls))=>some (.nob c fs ls)
 |_=>none
variable{o:LO}
theorem tM(h:oS i Z=some o):∃s cn fs ls,o=.nob cn fs ls/\Z[i]?=some s/\(s=.lv (.nob cn fs ls)\/s=.pv (.nob cn fs ls)):=by
 delta oS at h
 cases e:Z[i]? with
 |none=>rw[e] at h;cases h
 |some s=>
  rw[e] at h;cases s with
  |lv o=>cases o with
   |nob cn fs ls=>cases h;exact⟨_,cn,fs,ls,rfl,rfl,.inl rfl⟩
   |_=>exact cF h
  |pv o=>cases o with
   |nob cn fs ls=>cases h;exact⟨_,cn,fs,ls,rfl,rfl,.inr rfl⟩
   |_=>exact cF h
  |_=>exact cF h
open Classical in
def iV(i:Nat)(m:Mi Rr)(Z:List Sl):Option Rr:=match oS i Z with
 |some o=>match m (Z.set i (.fr o.a)) with
  |some (.ok r,U)=>if U=Z.set i (.fr o.a)/\Il i Z=true/\Oj r=true then some r else none
  |_=>none
 |none=>none
variable{r:Rr}
theorem sS{m:Mi Rr}(h:iV i m Z=some r):∃o,oS i Z=some o/\m (Z.set i (.fr o.a))=some (.ok r,Z.set i (.fr o.a))/\Il i Z=true/\Oj r=true:=by
 delta iV at h
 cases e:oS i Z with
 |none=>rw[e] at h;cases h
 |some o=>
  rw[e] at h;dsimp only at h;cases e1:m (Z.set i (.fr o.a)) with
  |none=>rw[e1] at h;cases h
  |some p=>
   obtain⟨x,U⟩:=p;rw[e1] at h;cases x with
   |error _=>cases h
   |ok r'=>
    dsimp only at h;split at h
    .rename_i z;cases h;exact⟨o,rfl,by rw[z.1] at e1;exact e1,z.2.1,z.2.2⟩
    .cases h
variable{Q:VK}
section
variable{X:Cx}{E:XK}
theorem xq{E:XK}{m:Mi Rr}(u:c.toKx=K)(b:Bd c Y H Z B θ)(h:iV i m Z=some r)
  (q:∀v U,VR Y r v->(∀f a,Cf Y H i f a->Cf Y U i f a)->Bd c Y U Z (cW r v B) (cV r θ)->Q v U):kO K E m Y H Q:=by
 obtain⟨o,h1,h2,h3,h4⟩:=sS h;obtain⟨s,cn,fs,ls,rfl,es,hs⟩:=tM h1;obtain⟨l,S,R,g⟩:=Bd.LF b es hs;have hi:i<Z.length:=(QL.mp es).1;have back:(Z.set i (.fr (LO.nob cn fs ls).a)).set i s=Z:=by
  apply Sv;intro j;by_cases F:i=j
  .subst F;rw[Q6 (by simpa using hi),es]
  .rw[Rj F,Rj F]
 have cond:∀j t,j≠i->(Z.set i (.fr (LO.nob cn fs ls).a))[j]?=some t->ya t=true\/∃a,t=.fr a/\Z[j]?=some (.fr a):=λj t F e=>by
  rw[Rj (RO F)] at e;have z:=R9.mp h3 t (RD (i:=j) (by rw[Rj (RO F)];exact e));cases t with
  |fr a=>exact .inr ⟨a,rfl,e⟩
  |un=>exact .inl rfl
  |_=>cases z
 refine⟨l,_,[],[],.ok r,_,S.trans u,R,h2,λv U A b1=>?_⟩;cases r with
 |rf j=>cases h4
 |fr a=>obtain⟨D,n⟩:=g U _ [some v] [.fr a] b1 ⟨_,Q6 hi⟩ cond (by simp only[Rg,Tw,SY];exact h4);rw[back] at n;exact q v U A D n
 |nw o=>obtain⟨D,n⟩:=g U _ [some v] [.lv o] b1 ⟨_,Q6 hi⟩ cond (by simp only[Rg,Tw,SY];exact h4);rw[back] at n;exact q v U A D n
end
section
variable{X:Cx}{pins:List (Addr×Obj)}{Y:St}{H:Hp}{s:Shared}{a C dx:Addr}{fs Z1:List (Str×V)}{f:Str}{o value:Expr}{ta tv:TE}{pos pos':Pos}
theorem nU(I:Inv X pins Y H s)(e:H a=some (.ins C dx fs))(hl:∀g,Z1.lookup g=fs.lookup g)(O:∀g,g∈fs.map (·.1)->g∈Z1.map (·.1))(hz:Z1.length<=1000):Inv X pins Y (upd H a (.ins C dx Z1)) s:=by
 obtain⟨d,z,ne,ob,mA,n,r,q⟩:=(I.hok a _ e)
 exact I.write (by rw[e];exact V3) (.inr d) (λb u _ e=>e) (I.hok dx _ d) ⟨by rw[aq ne];exact d,hz,ne,ob,mA,n,λf=>by rw[hl];exact r f,λy hy=>O y (q y hy)⟩
def Lx(K:QJ)(ta tv:TE)(f:Str):TS:=λD Y H=>tv Y H λy U=>ta Y U λx S=>∃a C dx fs Z1,x=.ref a/\S a=some (.ins C dx fs)/\hW K C/\cj K C f/\fs.length<1000 /\
 (∀g,Z1.lookup g=(eD f y fs).lookup g)/\(∀g,g∈(eD f y fs).map (·.1)->g∈Z1.map (·.1))/\Z1.length<=1000/\D.nx Y (upd S a (.ins C dx Z1))
theorem vY(H:Hp)(a:Addr)(x y:HO):upd (upd H a x) a y=upd H a y:=by
 funext b
 by_cases e:b=a
 .simp only[e,aN,aN]
 .simp only[aq e,aq e,aq e]
theorem vh(V:PE X o ta)(A:PE X value tv)(hs:XX value (some (.Attribute o f pos')) pos.line X.env=pure false):PS X (.Assign [.Attribute o f pos'] value pos) (Lx X.K ta tv f):=by intro pins s Y H D I h;refine plainObj_wpAny_Assign_Attribute (cM (A pins s Y H _ I h) λu s1 ⟨y,U,Z,N,q⟩=>cM (V pins s1 Y U _ Z q) λT s2 ⟨x,k,j,E,a,C,dx,fs,Z1,ex,J,c,n,l,S,F,g,b⟩=>?_) hs;subst ex;obtain rfl:T=SD a:=E;exact tL j J c n l N λQ B=>⟨Y,_,by have z:=nU B aN S F g;rw[vY] at z;exact z,b⟩
end
section
variable{c:Cn}{Y:St}{H:Hp}{Z:List Sl}{B:St}{θ:List Sl}{L K:List Addr}
noncomputable def PR(s:Sl)(o:LO):Sl:=match s with
 | .lv _=>.lv o
 |_=>.pv o
def rH(c:Cn)(Y:St)(H:Hp)(Z:List Sl)(B:St)(θ:List Sl)(i:Nat)(cn:Str)(fs:List (Str×A))(ls:List (Str×List A))(G:Hp)(K:List Addr):Prop:=
 ∃p C dx vs ws q,Y[i]?=some (some (.ref p))/\H p=some (.ins C dx (vs++ws))/\c.mg cn=some (.ref C)/\hU c.toKx G vs fs/\eY c.toKx G H ws ls q/\q.Nodup/\p∉q/\p∉K/\(∀a∈K,a∉q) /\
  ∀X v h x t,(∀G',Sq G G'->(∀z∈q,z∉t->∀u,H z=some u->G' z=some u)->hU c.toKx G' h X)->eY c.toKx G (upd H p (.ins C dx (h++x))) x v t->t.Nodup->(∀z∈t,z∈q\/z∈K)->Bd c Y (upd H p (.ins C dx (h++x))) (setAt Z i (.nob cn X v)) B θ
theorem mI{fs:List (Str×A)}{ls:List (Str×List A)}(xZ:∀z∈K++L,z∉c.Hd)(nd:(K++L).Nodup)(lt:B.length=θ.length)(rel:av c.toKx (c.g H (K++L)) H (B++Y) (θ++Z) L)(own:∀z∈K++L,z∈c.Lp\/c.H0 z=none)(fr:Fr c H)(kp:fh c.σ0 Y Z)
  (mkB:∀H' O L',L'.Nodup->av c.toKx (c.g H' L') H' (B++Y) (θ++O) L'->(∀z∈L',z∈c.Lp\/c.H0 z=none)->Fr c H'->fh c.σ0 Y O->Bd c Y H' O B θ)
  (P:aD Z i=some (.nob cn fs ls)):rH c Y H Z B θ i cn fs ls (c.g H (K++L)) K:=by
 have ndL:L.Nodup:=(QV.mp nd).2.1;obtain⟨X,L2,e1,r1,r2⟩:=av.split lt rel;have key:∀(s:Sl),Z[i]?=some s->(s=.lv (.nob cn fs ls)\/s=.pv (.nob cn fs ls))->(∀o',setAt Z i o'=Z.set i (PR s o'))->rH c Y H Z B θ i cn fs ls (c.g H (K++L)) K:=by
  intro s es J Q;obtain⟨x,M1,M2,T,hx,hs,e2,ins⟩:=r2.at es;have D:∀p q,x=some (.ref p)->M2=p::q->LR c.toKx (c.g H (K++L)) H p (.nob cn fs ls) q->(∀G H' o' t,LR c.toKx G H' p o' t->eV c.toKx G H' (some (.ref p)) (PR s o') (p::t))->rH c Y H Z B θ i cn fs ls (c.g H (K++L)) K:=by
   intro p q ex em2 lr mk;subst ex em2;cases lr with
   |nob e m r l=>
    rename_i C dx vs ws;have S:=ndL;simp only[e1,e2] at S;obtain⟨n1,n2,n⟩:=QV.mp S;obtain⟨m1,d⟩:=je n2;have E:(p::q).Nodup:=(QV.mp (QV.mp n2).1).2.1;have pL:p∈L:=by simp only[e1,e2];simp
    have qL:∀z∈q,z∈L:=λz hz=>by rw[e1,e2];simp[hz]
    have I:∀z∈K,z∉L:=λz hz hy=>(QV.mp nd).2.2 z hz z hy rfl;refine⟨p,C,dx,vs,ws,q,hx,e,m,r,l,(Rl.mp E).2,(Rl.mp E).1,λhp=>I p hp pL,λa ha hq=>I a ha (qL a hq),λZ1 ls' b v t rf ol V sub=>?_⟩;have k:p∉t:=λhp=>by
     rcases sub p hp with z|z
     .exact(Rl.mp E).1 z
     .exact I p z pL
    have N:∀z∈X++(M1++(p::t)++T),z∈K++L:=λz hz=>by
     have:z∈L\/z∈t:=by
      rw[e1,e2];simp only[QO,QW] at hz ⊢;rcases hz with h|(h|h|h)|h
      .exact .inl (.inl h)
      .exact .inl (.inr (.inl (.inl h)))
      .exact .inl (.inr (.inl (.inr (.inl h))))
      .exact .inr h
      .exact .inl (.inr (.inr h))
     rcases this with h|h
     .exact QK _ h
     .rcases sub z h with h|h
      .exact QK _ (qL z h)
      .exact QM _ h
    have sq:Sq (c.g H (K++L)) (c.g (upd H p (.ins C dx (b++v))) (X++(M1++(p::t)++T))):=λz u ez=>by
     by_cases hz:z∈K++L\/z∈c.Hd
     .rw[gO hz] at ez;cases ez
     .rw[bM (λy=>hz (.inl y)) (λy=>hz (.inr y))] at ez;refine⟨u,?_,.inl rfl⟩;rw[bM (λy=>hz (.inl (N z y))) (λy=>hz (.inr y)),aq λ(y:z=p)=>hz (.inl (by rw[y];exact QK _ pL))];exact ez
    have R:∀z∈t,z∉X/\z∉M1++T:=λz hz=>by
     rcases sub z hz with h|h
     .exact⟨λy=>n z y z (by simp[h]) rfl,d z (QP _ h)⟩
     .refine⟨λy=>I z h (by rw[e1];simp[y]),λy=>I z h ?_⟩;rw[e1,e2];rcases QO.mp y with w|w<;>simp[w]
    have U:∀z∈X++(M1++T),z≠p:=λz hz y=>by
     subst y;rcases QO.mp hz with w|w
     .exact n _ w _ Z4 rfl
     .exact d z Z4 w
    have keep:∀z∈X++(M1++T),∀u,H z=some u->upd H p (.ins C dx (b++v)) z=some u:=λz hz u e=>by rw[aq (U z hz)];exact e
    refine mkB _ _ (X++(M1++(p::t)++T)) ?_ ?_ (λz hz=>own z (N z hz)) ?_ ?_
    .have pm:(X++(M1++(p::t)++T)).Perm ((p::t)++(X++(M1++T))):=by rw[SW];intro z;simp only[S5];lia
     refine pm.nodup_iff.mpr (QV.mpr ⟨Rl.mpr ⟨k,V⟩,?_,λz hz y hy e=>?_⟩)
     .refine QV.mpr ⟨n1,m1,λz hz y hy e=>?_⟩;subst e;exact n z hz z (by rcases QO.mp hy with w|w<;>simp[w]) rfl
     .subst e;rcases QW.mp hz with rfl|hz
      .exact U z hy rfl
      .rcases QO.mp hy with w|w
       .exact(R z hz).1 w
       .exact(R z hz).2 w
    .rw[Q];have rf':=rf (c.g (upd H p (.ins C dx (b++v))) (X++(M1++(p::t)++T))) sq λz hz nz u e=>by
      have zp:z≠p:=λy=>(Rl.mp E).1 (y▸hz);rw[bM (λy=>?_) (xZ z (QK _ (qL z hz))),aq zp]
      .exact e
      .simp only[QO,QW] at y;rcases y with y|(y|y|y)|y
       .exact n z y z (by simp[hz]) rfl
       .exact d z (QP _ hz) (by simp[y])
       .exact zp y
       .exact nz y
       .exact d z (QP _ hz) (by simp[y])
     have i1:=ins (G':=c.g (upd H p (.ins C dx (b++v))) (X++(M1++(p::t)++T))) (H':=upd H p (.ins C dx (b++v))) (y:=some (.ref p)) (L':=p::t) sq (λz hz=>keep z (QK _ hz)) (mk _ _ (.nob cn Z1 ls') t (.nob (by rw[aN]) m rf' (ol.sm sq λz _ u e=>e)));have es2:Y.set i (some (.ref p))=Y:=by
      apply Sv;intro j;by_cases F:i=j
      .subst F;rw[Q6 (QL.mp hx).1,hx]
      .rw[Rj F]
     rw[es2] at i1;exact(r1.sm sq λz hz=>keep z (QM _ hz)).app i1
    .refine⟨λz o e'=>?_,λw hw=>?_⟩
     .obtain⟨u,u1,u2⟩:=fr.st z o e';by_cases hz:z=p
      .subst hz;refine⟨_,aN,λna _=>?_⟩;rcases own z (QK _ pL) with y|y
       .exact absurd y na
       .rw[y] at e';cases e'
      .exact⟨u,by rw[aq hz];exact u1,u2⟩
     .obtain⟨k1,k2,k3⟩:=fr.pk w hw;refine⟨?_,k2,k3⟩;rw[aq λz=>?_]
      .exact k1
      .obtain⟨ob,us',k2⟩:=k2;rw[z,e] at k1;rw[k2] at k1;cases k1
    .rw[Q];intro j o F w;by_cases f:i=j
     .subst f;rw[Q6 (QL.mp es).1] at F;rcases J with rfl|rfl
      .cases F;cases w
      .exact kp i _ es rfl
     .rw[Rj f] at F;exact kp j o F w
  rcases J with rfl|rfl
  .cases hs with
   |lv h=>exact D _ _ rfl rfl h λG H' o' t h=>.lv h
  .cases hs with
   |pv h=>exact D _ _ rfl rfl h λG H' o' t h=>.pv h
 unfold aD at P;cases es:Z[i]? with
 |none=>rw[es] at P;cases P
 |some s=>
  rw[es] at P;cases s with
  |un=>cases P
  |cf _=>cases P
  |fr a=>cases P
  |lv o1=>cases P;exact key _ es (.inl rfl) λo'=>by unfold setAt;rw[es];rfl
  |pv o1=>cases P;exact key _ es (.inr rfl) λo'=>by unfold setAt;rw[es];rfl
theorem Bd.J8{fs:List (Str×A)}{ls:List (Str×List A)}{a:Addr}{xs:List A}(b:Bd c Y H Z (some (.ref a)::B) (.lv (.lst xs)::θ))(P:aD Z i=some (.nob cn fs ls)):
  ∃G us,H a=some (.lst us)/\bX c.toKx G us xs/\rH c Y H Z B θ i cn fs ls G [a]:=by
 obtain⟨L,b⟩:=b;have rel:av c.toKx (c.g H L) H (some (.ref a)::(B++Y)) (.lv (.lst xs)::(θ++Z)) L:=b.rel;have lt:B.length=θ.length:=by simpa using b.lt
 cases rel with
 |cons h r=>
  rename_i y L';cases h with
  |lv V=>
   cases V with
   |lst J s=>rename_i us;exact⟨_,us,J,s,mI (K:=[a]) (λz hz=>b.xZ hz) b.nd lt r b.own b.fr b.kp (λH' O L2 d F C p x=>⟨L2,d,F,C,p,x,lt,b.hd⟩) P⟩
theorem eu.yC{fs:List (Str×A)}{ls:List (Str×List A)}(b:eu c Y H Z B θ L)(P:aD Z i=some (.nob cn fs ls)):rH c Y H Z B θ i cn fs ls (c.g H L) []:=
 mI (K:=[]) (λz hz=>b.xZ hz) b.nd b.lt b.rel b.own b.fr b.kp (λH' O L2 d F C p x=>⟨L2,d,F,C,p,x,b.lt,b.hd⟩) P
end
noncomputable def cP{α:Type}(f:Str):List (Str×α)->List (Str×α)
 |[]=>[]
 |(y,v)::r=>if f==y then cP f r else (y,v)::cP f r
section
variable{α:Type}{f g:Str}{k:Kx}{G H H':Hp}
theorem j6:∀{l:List (Str×α)},(cP f l).lookup g=if g=f then none else l.lookup g
 |[]=>by split<;>rfl
 |(y,v)::r=>by
  have m:=j6 (l:=r);unfold cP;by_cases c:(f==y)=true
  .rw[Za c,m,Q2];have:=eq_of_beq c;subst this;by_cases e:g=f
   .rw[Za e,Za e]
   .rw[Zb e,Zb e,beq_eq_false_iff_ne.mpr e]
  .rw[Zb c,Q2,Q2,m];by_cases e:g=f
   .subst e;cases z:(g==y) with
    |true=>exact absurd z c
    |false=>rfl
   .rw[Zb e,Zb e]
theorem ik:∀{l:List (Str×α)},(cP f l).length<=l.length
 |[]=>QR _
 |(y,v)::r=>by
  have m:=ik (l:=r);unfold cP;split
  .exact We m
  .exact Ua m
theorem my:∀{l:List (Str×α)},g∈l.map (·.1)↔l.lookup g≠none
 |[]=>by simp
 |(y,v)::r=>by
  have m:=my (l:=r);rw[RC,QW,Q2];cases c:(g==y) with
  |true=>simp[eq_of_beq c]
  |false=>simp only[beq_eq_false_iff_ne.mp c,false_or];exact m
theorem lY{l G:List (Str×α)}(h:∀g,G.lookup g=l.lookup g)(g:Str):g∈l.map (·.1)->g∈G.map (·.1):=λz=>my.mpr (by rw[h];exact my.mp z)
theorem hU.del:∀{vs:List (Str×V)}{fs:List (Str×A)},hU k G vs fs->hU k G (cP f vs) (cP f fs)
 |_,_,.nil=>.nil
 |(y,v)::vs,_,.cons h r=>by
  have m:=hU.del r;unfold cP;split
  .exact m
  .exact .cons h m
theorem eY.del:∀{ws:List (Str×V)}{ls:List (Str×List A)}{q:List Addr},eY k G H ws ls q->q.Nodup->∃Y,eY k G H (cP f ws) (cP f ls) Y/\Y.Nodup/\∀z∈Y,z∈q
 |_,_,_,.nil,_=>⟨[],.nil,.nil,λ_ h=>h⟩
 |(y,_)::ws,_,_,.cons (a:=a) e r t,nd=>by
  obtain⟨Y,h1,h2,h3⟩:=eY.del t (Rl.mp nd).2;unfold cP;split
  .exact⟨Y,h1,h2,λz hz=>QP _ (h3 z hz)⟩
  .exact⟨a::Y,.cons e r h1,Rl.mpr ⟨λz=>(Rl.mp nd).1 (h3 _ z),h2⟩,λz hz=>by
    rcases QW.mp hz with rfl|hz
    .exact Q0
    .exact QP _ (h3 z hz)⟩
theorem eY.snoc{a:Addr}{us:List V}{xs:List A}(e:H a=some (.lst us))(r:bX k G us xs):∀{ws:List (Str×V)}{ls:List (Str×List A)}{q:List Addr},eY k G H ws ls q->eY k G H (ws++[(f,.ref a)]) (ls++[(f,xs)]) (q++[a])
 |_,_,_,.nil=>.cons e r .nil
 |_,_,_,.cons e' r' t=>.cons e' r' (eY.snoc e r t)
theorem eY.rA:∀{ws:List (Str×V)}{ls:List (Str×List A)}{q:List Addr},eY k G H ws ls q->ws.length=ls.length
 |_,_,_,.nil=>rfl
 |_,_,_,.cons _ _ t=>Ze (·+1) (eY.rA t)
end
section
variable{X:Cx}{E:XK}
def iQ(cs:List Str)(i:Nat)(f:Str)(m:Mi Rr):Ms:=dq m λr Z=>match r,aD Z i with
 | .nw (.lst xs),some (.nob c fs ls)=>if cs.contains c&&Sz (fs.length+ls.length) 900 then some (.nx,setAt Z i (.nob c (cP f fs) (cP f ls++[(f,xs)]))) else none
 | .nw (.lst xs),some (.obj c fs)=>if cs.contains c&&Sz fs.length 900&&(fs.lookup f).isNone then some (.nx,setAt Z i (.nob c fs [(f,xs)])) else none
 |_,_=>none
theorem Dp{x:Str}{m:Mi Rr}(hN:X.N[i]?=some x)(n:j9 X.env.scope x)(hd:fM x)(Q:lG x)(hc:∀c C,cs.contains c=true->X.mg c=some (.ref C)->hW X.K C/\cj X.K C f)(he:JE X E e m)
  (hs:XX e (some (.Attribute (.Name x px) f p1)) pos.line X.env=pure false):JS X E (.Assign [.Attribute (.Name x px) f p1] e pos) (iQ cs i f m):=
 ⟨PS.weaken (vh (bU hN n hd Q) he.p hs) λD Y H h=>by
  obtain⟨c,Z,B,θ,fl,O,S,b,em,q⟩:=h;refine d6 S b em q λr v U H1 n b1 T=>?_;cases r with
  |rf j=>cases T
  |fr a=>cases T
  |nw o=>
   cases o with
   |lst xs=>
    cases P:aD U i with
    |none=>rw[P] at T;cases T
    |some lo=>
     rw[P] at T;cases lo with
     |nob cn fs ls=>
      dsimp only at T;by_cases hl:(cs.contains cn&&Sz (fs.length+ls.length) 900)=true
      .rw[Za hl] at T;cases T;simp only[QI] at hl;have L:=RP hl.2;obtain⟨a,rfl⟩:=Bd.uf b1;obtain⟨G,us,ha,ra,p,C,dx,vs,ws,q0,h1,h2,h3,h4,h5,t,h7,h8,h9,fin⟩:=b1.J8 P;have A:X.mg cn=some (.ref C):=by have:=Ze (λk:Kx=>k.mg cn) S;simp only at this;rw[<-this];exact h3
       obtain⟨I,J⟩:=hc cn C hl.1 A;obtain⟨q',o1,o2,F⟩:=eY.del (f:=f) h5 t;have lv:=h4.len;have lw:=h5.rA;have R:p≠a:=λz=>h8 (Rc.mpr z);have d:∀g,(cP f vs++(cP f ws++[(f,V.ref a)])).lookup g=(eD f (.ref a) (vs++ws)).lookup g:=λg=>by
        simp only[eI,RH,RH,j6,j6,RH];by_cases e:g=f
        .simp only[Za e];rw[e];simp
        .simp only[Zb e];rw[Q2,beq_eq_false_iff_ne.mpr e];simp
       refine⟨_,h1,p,C,dx,vs++ws,cP f vs++(cP f ws++[(f,V.ref a)]),rfl,h2,I,J,by rw[Q7];lia,d,lY d,?_,q Y _ (fin _ _ _ _ (q'++[a]) (λ_ s _=>h4.del.sm s) (eY.snoc ?_ ra (o1.sm (Sq.refl _) λz hz u e=>?_)) ?_ ?_)⟩
       .have:=ik (f:=f) (l:=vs);have:=ik (f:=f) (l:=ws);simp only[Q7,Tf];lia
       .rw[aq R.symm];exact ha
       .rw[aq λ(y:z=p)=>h7 (by rw[<-y];exact F z hz)];exact e
       .exact QV.mpr ⟨o2,by simp,λz hz y hy e=>h9 a (Rc.mpr rfl) (by rw[<-Rc.mp hy,<-e];exact F z hz)⟩
       .intro z hz;rcases QO.mp hz with w|w
        .exact .inl (F z w)
        .exact .inr w
      .rw[Zb hl] at T;cases T
     |obj cn fs=>
      dsimp only at T;by_cases hl:(cs.contains cn&&Sz fs.length 900&&(fs.lookup f).isNone)=true
      .rw[Za hl] at T;cases T;rw[QI,QI,RM] at hl;have L:=RP hl.1.2;obtain⟨a,rfl⟩:=Bd.uf b1;obtain⟨p,C,dx,vs,h1,h2,h3,h4,h5,t⟩:=Bd.give (f:=f) b1 P;have A:X.mg cn=some (.ref C):=by have:=Ze (λk:Kx=>k.mg cn) S;simp only at this;rw[<-this];exact h3
       obtain⟨I,J⟩:=hc cn C hl.1.1 A;have z:=rh f (.ref a) (h5 hl.2);exact⟨_,h1,p,C,dx,vs,vs++[(f,.ref a)],rfl,h2,I,J,by lia,λg=>by rw[z],λg hg=>by rw[z] at hg;exact hg,by simp only[Q7,Tf];lia,q Y _ t⟩
      .rw[Zb hl] at T;cases T
     |_=>cases T
   | _=>cases T⟩
def dG(cs:List Str)(i:Nat)(f:Str)(m:Mi Rr):Ms:=dq m λr Z=>match bW r Z with
 |some (a,U)=>match aD U i with
  |some (.nob c fs ls)=>if cs.contains c&&Sz (fs.length+ls.length) 900 then some (.nx,setAt U i (.nob c (kF f a fs) (cP f ls))) else none
  |some (.obj c fs)=>if cs.contains c&&Sz fs.length 900 then some (.nx,setAt U i (.obj c (kF f a fs))) else none
  |_=>none
 |none=>none
theorem Cs{x:Str}{m:Mi Rr}(hN:X.N[i]?=some x)(A:j9 X.env.scope x)(hd:fM x)(G:lG x)(hc:∀c C,cs.contains c=true->X.mg c=some (.ref C)->hW X.K C/\cj X.K C f)(he:JE X E e m)
  (hs:XX e (some (.Attribute (.Name x px) f p1)) pos.line X.env=pure false):JS X E (.Assign [.Attribute (.Name x px) f p1] e pos) (dG cs i f m):=
 ⟨PS.weaken (vh (bU hN A hd G) he.p hs) λD Y H h=>by
  obtain⟨c,Z,B,θ,fl,O,o,b,em,q⟩:=h;refine d6 o b em q λr v U S A b1 T=>?_;cases e1:bW r U with
  |none=>rw[e1] at T;cases T
  |some pr=>
   obtain⟨a,Z'⟩:=pr;rw[e1] at T;dsimp only at T;have b2:=Bd.bW (xs:=[]) (ss:=[]) rfl b1 A e1;cases P:aD Z' i with
   |none=>rw[P] at T;cases T
   |some lo=>
    rw[P] at T;cases lo with
    |nob cn fs ls=>
     dsimp only at T;by_cases hl:(cs.contains cn&&Sz (fs.length+ls.length) 900)=true
     .rw[Za hl] at T;cases T;simp only[QI] at hl;have Q:=RP hl.2;obtain⟨L,bl,V⟩:=Bd.uv b2;obtain⟨p,C,dx,vs,ws,q0,h1,h2,h3,h4,h5,R,n,h8,h9,fin⟩:=bl.yC P;have w:X.mg cn=some (.ref C):=by have:=Ze (λk:Kx=>k.mg cn) o;simp only at this;rw[<-this];exact h3
      obtain⟨I,J⟩:=hc cn C hl.1 w;obtain⟨q',o1,o2,F⟩:=eY.del (f:=f) h5 R;have lv:=h4.len;have lw:=h5.rA;have d:∀g,(eD f v vs++cP f ws).lookup g=(eD f v (vs++ws)).lookup g:=λg=>by
       simp only[eI,RH,j6,eI,RH];by_cases e:g=f
       .simp only[Za e];rfl
       .simp only[Zb e]
      refine⟨_,h1,p,C,dx,vs++ws,eD f v vs++cP f ws,rfl,h2,I,J,by rw[Q7];lia,d,lY d,?_,q Y _ (fin _ _ _ _ q' (λ_ s _=>(h4.put V).sm s) (o1.sm (Sq.refl _) λz hz u e=>?_) o2 λz hz=>.inl (F z hz))⟩
      .have:=ik (f:=f) (l:=ws);have:=fK f v vs;simp only[Q7];lia
      .rw[aq λ(y:z=p)=>n (by rw[<-y];exact F z hz)];exact e
     .rw[Zb hl] at T;cases T
    |obj cn fs=>
     dsimp only at T;by_cases hl:(cs.contains cn&&Sz fs.length 900)=true
     .rw[Za hl] at T;cases T;rw[QI] at hl;have Q:=RP hl.2;obtain⟨L,bl,V⟩:=Bd.uv b2;obtain⟨p,_,h1,h2,h3⟩:=bl.live P (.obj cn (kF f a fs)) (match S (match Y[i]? with|some (some (.ref p))=>p|_=>0) with|some (.ins C dx ws)=>.ins C dx (eD f v ws)|_=>.lst []);cases h2 with
      |obj j mm t=>
       rename_i C dx ws;simp only[h1,j] at h3;have w:X.mg cn=some (.ref C):=by have:=Ze (λk:Kx=>k.mg cn) o;simp only at this;rw[<-this];exact mm
       obtain⟨I,J⟩:=hc cn C hl.1 w;have lw:=t.len;exact⟨_,h1,p,C,dx,ws,eD f v ws,rfl,j,I,J,by lia,λg=>rfl,λg hg=>hg,by have:=fK f v ws;lia,q Y _ (h3 λH' hh=>.obj hh mm (t.put V))⟩
     .rw[Zb hl] at T;cases T
    | _=>cases T⟩
end
def yK:A->A->Option Rr
 | .lst as,.int i=>match eO as with
  |some ns=>match t4 ns i with
   |some j=>some (.fr (.int j))
   |none=>none
  |none=>none
 |_,_=>none
noncomputable def FJ:A->Bool
 | .lst _=>true
 |_=>false
section
variable{X:Cx}{E:XK}
theorem HA:jf K (λx y H Q=>Fy K.K x [y] H Q) yK:=.scalar λH v w a b q n o h=>by
 cases a with
 |lst as=>
  cases b with
  |int i=>
   have h:(match eO as with
    |some ns=>match t4 ns i with
     |some j=>some (Rr.fr (.int j))
     |none=>none
    | none=>none)=some q:=h
   cases e1:eO as with
   |none=>rw[e1] at h;cases h
   |some ns=>
    rw[e1] at h;dsimp only at h;cases e2:t4 ns i with
    |none=>rw[e2] at h;cases h
    |some j=>
     rw[e2] at h;cases h;cases o;cases n with
     |lst e r=>have P:=jZ r e1;subst P;exact⟨_,_,rfl,λ_=>.int _,λQ k=>⟨_,ns,i,j,rfl,rfl,e,e2,k⟩⟩
  |_=>exact cF h
 |_=>exact cF h
def vt(mo m:Mi Rr):Mi Rr:=aY mo λx S=>match res S x with
 | some a0=>if FJ a0=true then aY m (λy Z=>match res Z x,res Z y with
  |some a,some b=>match yK a b with
   |some q=>some (.ok q,Z)
   |none=>none
  | _,_=>none) S else none
 |none=>none
theorem Ed{o:Expr}{mo m:Mi Rr}(ho:JE X E o mo)(he:JE X E e m)
  (hbase:XE o "index" X.env (eval o X.env)=eval o X.env:=by rfl)(hfew:((XI cpos (XB [e] X.env)).all (λx=>!x.1)&&(XY cpos (XO [] X.env)).all (λx=>x.1.isSome)&&decide (([e]:List Expr).length+([]:List XW).length+(if ([]:List XW).isEmpty then 0 else 1)<30))=true:=by rfl)
  (hline:(apos.endLine==cpos.line)=true:=by rfl)(hs:XB [e] X.env=(false,eval e X.env)::XB [] X.env:=by rfl)(hplain:(XI cpos (XB [] X.env)).any (·.1)=false:=by rfl):JE X E (.Call (.Attribute o "index" apos) [e] [] cpos) (vt mo m):=
 ⟨PE.weaken (oO Sb TM Vd Ao ho.p (a9 he.p cB hs) hbase hfew hline hs hplain) λY H Q h=>by
  obtain⟨c,Z,B,θ,oo,O,ek,b,em,q⟩:=h;refine bF ek b em (λx v U H1 hv b1 em1=>?_) (bY q);cases e0:res U x with
  |none=>rw[e0] at em1;cases em1
  |some a0=>
   rw[e0] at em1;dsimp only at em1;by_cases ht:FJ a0=true
   .rw[Za ht] at em1;have r0:=Bd.rd b1 hv e0;rw[ek] at r0;cases a0 with
    |lst as=>
     cases r0 with
     |lst sq0 _=>refine⟨.inl ⟨rfl,_,sq0⟩,?_⟩;refine bF ek b1 em1 (λy w Z' H2 hw b2 em2=>?_) (dm (bY q));obtain⟨a,d,r,e1,e2,e3,rfl,rfl⟩:=vx em2;exact HA c Y H2 _ B θ x y _ w a d r Q ek hv hw b2 e1 e2 e3 q
    |_=>exact BG ht
   .rw[Zb ht] at em1;cases em1⟩
end
section
variable{k:Kx}{G H:Hp}{f:Str}
theorem eY.Mo:∀{ws:List (Str×V)}{ls:List (Str×List A)}{q:List Addr}{xs:List A},eY k G H ws ls q->q.Nodup->ls.lookup f=some xs->∃a ys c,ws.lookup f=some (.ref a)/\H a=some (.lst ys)/\bX k G ys xs/\a∈q/\a∉c/\eY k G H (cP f ws) (cP f ls) c/\c.Nodup/\∀z∈c,z∈q
 |_,_,_,_,.nil,_,h=>nomatch h
 |_,_,_,_,.cons (y:=y) (a:=a0) (us:=us) e r t,nd,h=>by
  have Y:=Rl.mp nd;simp only[Q2] at h;simp only[Q2];unfold cP;cases hc:f==y with
  |true=>rw[hc] at h;cases h;obtain⟨c,h1,h2,h3⟩:=eY.del t Y.2;exact⟨a0,us,c,rfl,e,r,Q0,λz=>Y.1 (h3 _ z),h1,h2,λz hz=>QP _ (h3 z hz)⟩
  |false=>
   rw[hc] at h;obtain⟨a,ys,c,h1,h2,h3,h4,h5,R,D,Z⟩:=eY.Mo t Y.2 h;refine⟨a,ys,a0::c,h1,h2,h3,QP _ h4,λz=>?_,.cons e r R,Rl.mpr ⟨λz=>Y.1 (Z _ z),D⟩,λz hz=>?_⟩
   .rcases QW.mp z with rfl|z
    .exact Y.1 h4
    .exact h5 z
   .rcases QW.mp hz with rfl|hz
    .exact Q0
    .exact QP _ (Z z hz)
end
section
variable{c:Cn}{Y:St}{H:Hp}{Z:List Sl}{B:St}{θ:List Sl}
theorem Bd.Cu{fs:List (Str×A)}{ls:List (Str×List A)}{xs:List A}(b:Bd c Y H Z B θ)(P:aD Z i=some (.nob cn fs ls))(e1:fs.lookup f=none)(e2:ls.lookup f=some xs):
  ∃p C dx ws x,Y[i]?=some (some (.ref p))/\H p=some (.ins C dx ws)/\(∀g,x.lookup g=ws.lookup g)/\(∀g,g∈ws.map (·.1)->g∈x.map (·.1))/\x.length<=fs.length+ls.length+1/\Bd c Y (upd H p (.ins C dx x)) (setAt Z i (.nob cn (fs++[(f,.lst xs)]) (cP f ls))) B θ:=by
 obtain⟨L,bl⟩:=b;obtain⟨p,C,dx,vs,ws,m,h1,h2,h3,h4,h5,t,D,G,r,fin⟩:=bl.yC P;obtain⟨a,ys,v,S,F,j,K,X,E,q,h⟩:=eY.Mo h5 t e2;have lv:=h4.len;have w:=h5.rA;have Q:vs.lookup f=none:=by
  rcases h4.get f with ⟨_,_,_,y,_⟩|⟨y,_⟩
  .rw[e1] at y;cases y
  .exact y
 have d:∀g,(vs++[(f,V.ref a)]++cP f ws).lookup g=(vs++ws).lookup g:=λg=>by
  by_cases e:g=f
  .subst e;simp only[RH,RH,RH,Q,S];simp
  .simp only[RH,RH,RH,j6,Zb e,Q2,beq_eq_false_iff_ne.mpr e];simp
 refine⟨p,C,dx,vs++ws,vs++[(f,V.ref a)]++cP f ws,h1,h2,d,lY d,?_,fin (fs++[(f,.lst xs)]) (cP f ls) (vs++[(f,V.ref a)]) (cP f ws) v (λG' s kp=>hU.app (h4.sm s) (.cons (.lst (.inl (.inl (kp a K X _ F))) (j.sm s)) .nil)) (E.sm (Sq.refl _) λz hz u e=>?_) q λz hz=>.inl (h z hz)⟩
 .have:=ik (f:=f) (l:=ws);simp only[Q7,Tf];lia
 .rw[aq λ(y:z=p)=>D (by rw[<-y];exact h z hz)];exact e
end
theorem BV{o':LO}(h:aD Z i=some o):aD (setAt Z i o') i=some o':=by
 delta aD at h
 delta aD setAt
 cases e:Z[i]? with
 |none=>rw[e] at h;cases h
 |some s=>
  rw[e] at h;have hi:=(QL.mp e).1;cases s with
  |lv v=>dsimp only;rw[Q6 hi]
  |pv v=>dsimp only;rw[Q6 hi]
  |_=>exact cF h
theorem set_set{v o2:LO}(h:aD Z i=some o):setAt (setAt Z i v) i o2=setAt Z i o2:=by
 delta aD at h
 delta setAt
 cases e:Z[i]? with
 |none=>rw[e] at h;cases h
 |some s=>
  rw[e] at h;have hi:=(QL.mp e).1;cases s with
  |lv v=>dsimp only;rw[Q6 hi];simp
  |pv v=>dsimp only;rw[Q6 hi];simp
  |_=>exact cF h
theorem vS{f:Str}{xs x:List A}:∀{ls:List (Str×List A)},ls.lookup f=some xs->(iJ f x ls).lookup f=some x
 |[],h=>nomatch h
 |(y,zs)::r,h=>by
  simp only[Q2] at h;unfold iJ;cases hc:f==y with
  |true=>rw[Za rfl,Q2,hc]
  |false=>rw[hc] at h;rw[Zb Z4,Q2,hc];exact vS h
theorem oy{f:Str}{x:List A}:∀{ls:List (Str×List A)},cP f (iJ f x ls)=cP f ls
 |[]=>rfl
 |(y,zs)::r=>by
  unfold iJ;cases hc:f==y with
  |true=>rw[Za rfl];delta cP;show (if (f==y)=true then _ else _)=(if (f==y)=true then _ else _);rw[hc];rfl
  |false=>show (if (f==y)=true then cP f (iJ f x r) else (y,zs)::cP f (iJ f x r))=(if (f==y)=true then cP f r else (y,zs)::cP f r);rw[hc,oy]
theorem sH{f:Str}{x:List A}:∀{ls:List (Str×List A)},(iJ f x ls).length=ls.length
 |[]=>rfl
 |(y,zs)::r=>by
  unfold iJ;split
  .rfl
  .simp only[QX,QX,sH]
section
variable{X:Cx}{E:XK}
theorem yP{t:TE}(h:PE X e t):PE X e (λY H Q=>t Y H λv U=>∃a C dx fs c,U a=some (.ins C dx fs)/\(∀g,c.lookup g=fs.lookup g)/\(∀g,g∈fs.map (·.1)->g∈c.map (·.1))/\c.length<=1000/\Q v (upd U a (.ins C dx c))):=
 λpins s Y H Q I q=>cM (h pins s Y H _ I q) λu s1 ⟨y,U,Z,z,a,C,dx,fs,c,e,S,l,j,q⟩=>⟨y,_,nU Z e S l j,z,q⟩
def rJ(cs:List Str)(Z:List Sl)(i:Nat)(f:Str)(a:A):Option (List Sl):=match aD Z i with
 | some (.nob c fs ls)=>if cs.contains c&&(fs.lookup f).isNone&&Sz (fs.length+ls.length) 900 then (match ls.lookup f with
  |some xs=>if xs.length<=100000 then some (setAt Z i (.nob c (fs++[(f,.lst (xs++[a]))]) (cP f ls))) else none
  | none=>none) else none
 |_=>none
theorem tE{O:List Sl}{a:A}(h:rJ cs Z i f a=some O):∃c fs ls xs,aD Z i=some (.nob c fs ls)/\fs.lookup f=none/\fs.length+ls.length<=900/\ls.lookup f=some xs/\xs.length<=100000/\ownAt cs Z i f=some xs/\O=setAt Z i (.nob c (fs++[(f,.lst (xs++[a]))]) (cP f ls)):=by
 delta rJ at h
 delta ownAt
 cases P:aD Z i with
 |none=>rw[P] at h;cases h
 |some lo=>
  rw[P] at h;cases lo with
  |nob cn fs ls=>
   dsimp only at h;by_cases e:(cs.contains cn&&(fs.lookup f).isNone&&Sz (fs.length+ls.length) 900)=true
   .rw[Za e] at h;rw[QI] at e;have k:=e.1;rw[QI,RM] at k;cases H:ls.lookup f with
    |none=>rw[H] at h;cases h
    |some xs=>
     rw[H] at h;dsimp only at h;by_cases hl:xs.length<=100000
     .rw[Za hl] at h;cases h;exact⟨cn,fs,ls,xs,rfl,k.2,RP e.2,H,hl,by dsimp only;rw[Za e.1];exact H,rfl⟩
     .rw[Zb hl] at h;cases h
   .rw[Zb e] at h;cases h
  |_=>exact cF h
def m9(cs:List Str)(i:Nat)(f:Str)(m:Mi Rr):Mi Rr:=λZ=>match ownAt cs Z i f,iV i m Z with
 |some _,some r=>match bW r Z with
  |some (a,U)=>match rJ cs U i f a with
   |some Z'=>some (.ok (.fr .non),Z')
   |none=>none
  |none=>none
 |_,_=>none
theorem CG{x:Str}{m:Mi Rr}(hN:X.N[i]?=some x)(A:j9 X.env.scope x)(hd:fM x)(s:lG x)
  (hc:∀c C,cs.contains c=true->X.mg c=some (.ref C)->hW X.K C/\cj X.K C f)
  (d:XE (.Name x px) f X.env (eval (.Name x px) X.env)=eval (.Name x px) X.env)(he:JE X E e m)
  (G:XE (.Attribute (.Name x px) f p1) "append" X.env (eval (.Attribute (.Name x px) f p1) X.env)=eval (.Attribute (.Name x px) f p1) X.env)
  (z:((XI cpos (XB [e] X.env)).all (λx=>!x.1)&&(XY cpos (XO [] X.env)).all (λx=>x.1.isSome)&&decide (([e]:List Expr).length+([]:List XW).length+(if ([]:List XW).isEmpty then 0 else 1)<30))=true)
  (j:(apos.endLine==cpos.line)=true)(hs:XB [e] X.env=(false,eval e X.env)::XB [] X.env)(y:(XI cpos (XB [] X.env)).any (·.1)=false):
  JE X E (.Call (.Attribute (.Attribute (.Name x px) f p1) "append" apos) [e] [] cpos) (m9 cs i f m):=
 ⟨PE.weaken (yP (oO Sb TC TF kh (fk (bU hN A hd s) d) (a9 he.p cB hs) G z j hs y)) λY H Q h=>by
  obtain⟨c,Z,B,θ,o,O,u,b,em,q⟩:=h
  delta m9 at em
  cases e1:ownAt cs Z i f with
  |none=>rw[e1] at em;cases em
  |some xs=>
   cases e2:iV i m Z with
   |none=>rw[e1,e2] at em;cases em
   |some r=>
    rw[e1,e2] at em;dsimp only at em;cases D:bW r Z with
    |none=>rw[D] at em;cases em
    |some pr=>
     obtain⟨a,U⟩:=pr;rw[D] at em;dsimp only at em;cases P:rJ cs U i f a with
     |none=>rw[P] at em;cases em
     | some Z'=>rw[P] at em;cases em;obtain⟨cn,fs,ls,t,w,F,l9,g,hl,R,rfl⟩:=tE P;obtain⟨L,bl⟩:=id b;obtain⟨p,ys,n,h1,h5,h6,_⟩:=gz u hc bl e1;refine h1 _ ⟨.inl ⟨rfl,_,.inl (.inl h5)⟩,?_⟩;refine xq u b e2 λv H1 A I b1=>?_;have b2:=Bd.bW (xs:=[]) (ss:=[]) rfl b1 A D;obtain⟨L2,J,ra⟩:=Bd.uv b2;obtain⟨p2,V,l2,_,g5,k,g7⟩:=gz u hc J R;obtain rfl:=(I f p n).one l2;have l:=g7 _ _ (k.snoc ra);rw[kl _ w] at l;obtain⟨p',C,dx,ws,T,w1,w2,w3,w4,w5,S⟩:=Bd.Cu l (BV w) F (vS g);rw[set_set w,oy] at S;rw[sH] at w5;exact⟨p,V,v,rfl,rfl,g5,by have:=k.len;have:=X4;lia,p',C,dx,ws,T,w2,w3,w4,by lia,q _ _ trivial (Bd.push S λ_=>.non)⟩⟩
end
section
variable{c:Cn}{Y:St}{H:Hp}{Z:List Sl}{B:St}{θ:List Sl}
theorem Bd.HH{p:Addr}{as:List A}(b:Bd c Y H Z (some (.ref p)::B) (.lv (.lst as)::θ)):∃us,H p=some (.lst us)/\us.length=as.length/\∀(q:Nat)(s:Int),Bd c Y (upd H p (.lst (us.set q (.int s)))) Z (some (.ref p)::B) (.lv (.lst (as.set q (.int s)))::θ):=by
 obtain⟨L,b⟩:=b;have rel:=b.rel;cases rel with
 |cons h r=>
  rename_i E L';cases h with
  |lv X=>
   cases X with
   |lst e V=>
    rename_i us;refine⟨us,e,V.len,λq s=>?_⟩;have nd:=Rl.mp b.nd;have K:p∈[p]++L':=by simp
    have sq:Sq (c.g H ([p]++L')) (c.g (upd H p (.lst (us.set q (.int s)))) ([p]++L')):=λz u a=>by
     by_cases hz:z∈[p]++L'\/z∈c.Hd
     .rw[gO hz] at a;cases a
     .rw[bM (λy=>hz (.inl y)) (λy=>hz (.inr y))] at a;refine⟨u,?_,.inl rfl⟩;rw[bM (λy=>hz (.inl y)) (λy=>hz (.inr y)),aq λ(y:z=p)=>hz (.inl (by simp only[y];exact K))];exact a
    refine⟨[p]++L',b.nd,?_,b.own,⟨λz o k=>?_,λw O=>?_⟩,b.kp,b.lt,b.hd⟩
    .exact .cons (.lv (.lst aN ((V.sm sq).set (.int s) q))) (r.sm sq λz hz u e=>by rw[aq λ(y:z=p)=>nd.1 (y▸hz)];exact e)
    .obtain⟨u,I,T⟩:=b.fr.st z o k;by_cases hz:z=p
     .subst hz;refine⟨_,aN,λx _=>?_⟩;rcases b.own z K with y|y
      .exact absurd y x
      .rw[y] at k;cases k
     .exact⟨u,by rw[aq hz];exact I,T⟩
    .obtain⟨S,l,j⟩:=b.fr.pk w O;refine⟨?_,l,j⟩;rw[aq λz=>?_]
     .exact S
     .obtain⟨ob,C,l⟩:=l;simp only[z,e] at S;rw[l] at S;cases S
end
section
variable{X:Cx}{E:XK}
def Ew(cs:List Str)(Z:List Sl)(o:Nat)(f:Str):Option Int:=match aD Z o with
 | some (.nob c fs _)=>if cs.contains c then (match fs.lookup f with
  |some (.int s)=>some s
  | _=>none) else none
 |_=>none
theorem xD{o:Nat}{s:Int}(h:Ew cs Z o f=some s):∃c fs ls,aD Z o=some (.nob c fs ls)/\cs.contains c=true/\fs.lookup f=some (.int s):=by
 delta Ew at h
 cases P:aD Z o with
 |none=>rw[P] at h;cases h
 |some lo=>
  rw[P] at h;cases lo with
  |nob cn fs ls=>
   dsimp only at h;by_cases e:cs.contains cn=true
   .rw[Za e] at h;cases e2:fs.lookup f with
    |none=>rw[e2] at h;cases h
    |some a=>
     rw[e2] at h;cases a with
     |int i=>cases h;exact⟨cn,fs,ls,rfl,e,e2⟩
     |_=>exact cF h
   .rw[Zb e] at h;cases h
  |_=>exact cF h
theorem eu.Oi{fs:List (Str×A)}{ls:List (Str×List A)}{a:A}(bl:eu c Y H Z B θ L)(P:aD Z i=some (.nob cn fs ls))(e2:fs.lookup f=some a):
  ∃p C dx ws v,Y[i]?=some (some (.ref p))/\H p=some (.ins C dx ws)/\c.mg cn=some (.ref C)/\ws.lookup f=some v/\RA c.toKx (c.g H L) v a:=by
 obtain⟨p,_,h1,h2,h⟩:=bl.live P (.nob cn fs ls) (.lst []);cases h2 with
 |nob e m r l=>
  rename_i C dx vs ws;rcases r.get f with ⟨u,a',o,n,d⟩|⟨_,n⟩
  .rw[e2] at n;cases n;exact⟨p,C,dx,vs++ws,u,h1,e,m,i8 o,d⟩
  .rw[e2] at n;cases n
def vQ(cs:List Str)(i j z o:Nat)(f:Str)(m:Mi Rr):Ms:=dq m λr Z=>match r with
 | .nw (.lst as)=>match aD Z i,intAt Z j,intAt Z z,Ew cs Z o f with
  |some (.lst xs),some k,some l,some s=>match gF xs.length k,gF as.length l with
   |some n,some q=>some (.nx,setAt Z i (.lst (xs.set n (.lst (as.set q (.int s))))))
   |_,_=>none
  |_,_,_,_=>none
 |_=>none
theorem zv{a b:Addr}{x y:HO}(h:a≠b):upd (upd H a x) b y=upd (upd H b y) a x:=by
 funext d
 by_cases e:d=b
 .subst e;simp only[aN,aq (λz=>h z.symm),aN]
 .by_cases e2:d=a
  .subst e2;simp only[aq e,aN,aN]
  .simp only[aq e,aq e2,aq e2,aq e]
theorem wV{z o:Nat}{m:Mi Rr}(hc:∀c C,cs.contains c=true->X.mg c=some (.ref C)->hW X.K C/\cj X.K C f)(hw:∀Y H Q,kO (kx X) E m Y H Q->te Y H Q)(D:Ends)(Y:St)(H:Hp)
  (h:Km (kx X) E (vQ cs i j z o f m) D Y H):zI (sA te (zF (md i) (md j) qS)) (sA (Cj X.K (md o) f) (zF (HK (J2 X.K) (md i) (md j)) (md z) qS)) D Y H:=by
 obtain⟨c,Z,B,θ,fl,O,ek,b,em,q⟩:=h;refine hw _ _ _ (d6 ek b em q λr v U S hv b1 T=>?_);cases r with
 |rf j=>cases T
 |fr a=>cases T
 |nw lo=>
  cases lo with
  |lst as=>
   cases e1:aD U i with
   |none=>rw[e1] at T;cases T
   |some lo=>
    cases e2:intAt U j with
    |none=>rw[e1,e2] at T;cases lo<;>exact cF T
    |some k=>
     cases N:intAt U z with
     |none=>rw[e1,e2,N] at T;cases lo<;>exact cF T
     |some l=>
      cases P:Ew cs U o f with
      |none=>rw[e1,e2,N,P] at T;cases lo<;>exact cF T
      |some s=>
       rw[e1,e2,N,P] at T;cases lo with
       |lst xs=>
        dsimp only at T;cases R:gF xs.length k with
        |none=>rw[R] at T;cases T
        |some n=>
         cases t:gF as.length l with
         |none=>rw[R,t] at T;cases T
         |some G=>
          simp only[R,t] at T;cases T;obtain⟨p,rfl⟩:=Bd.uf b1;obtain⟨us,k1,k2,k3⟩:=Bd.HH b1;have b2:=k3 G s;have b3:Bd c Y (upd S p (.lst (us.set G (.int s)))) U (some (.ref p)::B) (.fr (.lst (as.set G (.int s)))::θ.map Sl.fr):=Bd.bW (xs:=[]) (ss:=[]) (r:=.nw (.lst (as.set G (.int s)))) rfl b2 (by trivial) rfl;obtain⟨L3,F,ra⟩:=Bd.uv b3;obtain⟨y,vs,s1,s2⟩:=lT b1 e1;obtain⟨L1,J⟩:=id b1;obtain⟨cn,fs,ls,f1,f2,f3⟩:=xD P;obtain⟨po,C,dx,ws,vo,o1,o2,o3,o4,o5⟩:=J.Oi f1 f3;obtain⟨vj,j1,j2⟩:=J.DD (i5 e2);obtain⟨vz,z1,z2⟩:=J.DD (i5 N);cases j2;cases z2;cases o5;have u:X.mg cn=some (.ref C):=by have:=Ze (λk:Kx=>k.mg cn) ek;simp only at this;rw[<-this];exact o3
          obtain⟨c1,c2⟩:=hc cn C f2 u;have d:y≠po:=λw=>by simp only[w,o2] at s2;cases s2
          have yp:y≠p:=λw=>by
           obtain⟨L,bb⟩:=b1;have rel:av c.toKx (c.g S L) S (some (.ref p)::(B++Y)) (.lv (.lst as)::(θ.map Sl.fr++U)) L:=bb.rel;cases rel with
           |cons h r=>
            cases h with
            |lv lr=>
             obtain⟨L1,L2,g1,r1,r2⟩:=av.split (by have:(some (V.ref p)::B).length=(Sl.lv (.lst as)::θ.map Sl.fr).length:=bb.lt;simpa using this) r;have key:∀s:Sl,U[i]?=some s->(s=.lv (.lst xs)\/s=.pv (.lst xs))->False:=λs es hst=>by
              obtain⟨x,M1,M2,M3,hx,hs,g2,_⟩:=r2.at es;rw[s1] at hx;cases hx;have:y∈M2:=by
               rcases hst with rfl|rfl
               .cases hs;exact Q0
               .cases hs;exact Q0
              have nd:=bb.nd;rw[g1,g2] at nd;have:=(QV.mp nd).2.2 p Q0 y (by simp[this]);exact this w.symm
             delta aD at e1
             cases es:U[i]? with
             |none=>rw[es] at e1;cases e1
             |some s=>
              rw[es] at e1;cases s with
              |lv o=>cases e1;exact key _ es (.inl rfl)
              |pv o=>cases e1;exact key _ es (.inr rfl)
              |_=>exact cF e1
          obtain⟨y',_,h1,h2,h3⟩:=F.live e1 (.lst (xs.set n (.lst (as.set G (.int s))))) (.lst (vs.set n (.ref p)));rw[s1] at h1;cases h1;have hvs:∃vl,bX c.toKx (c.g (upd S p (.lst (us.set G (.int s)))) L3) vl xs/\vl=vs:=by
           cases h2 with
           |lst e r=>rw[aq yp,s2] at e;cases e;exact⟨_,r,rfl⟩
          obtain⟨vl,I,evl⟩:=hvs;rw[evl] at I;have A:=I.len;have hn:n<vs.length:=by rw[A];exact(lF R).2.1
          refine⟨_,s1,_,j1,y,vs,k,n,rfl,rfl,s2,by rw[A];exact R,?_⟩;refine⟨_,o1,po,C,dx,ws,_,rfl,by rw[aq d.symm];exact o2,c1,c2,o4,?_⟩;refine⟨_,s1,_,j1,y,vs.set n (.ref p),k,.ref p,rfl,rfl,.of aN,G6 (by rw[U5,A];exact R) (by rw[Q6 hn]),_,z1,p,us,l,G,rfl,rfl,by rw[aq yp.symm];exact k1,by rw[k2];exact t,?_⟩;rw[zv yp];cases h2 with
          |lst e r=>exact q Y _ (h3 λH' hh=>.lst hh (I.set ra n))
       |_=>cases T
  |_=>cases T
theorem A1{a b:Stmt}{r:List Stmt}{ta tb:TS}{m n:Ms}(L:PS X a ta)(K:PS X b tb)(w:∀D Y H,Km (kx X) E m D Y H->zI ta tb D Y H)(h':qM X E r n):qM X E (a::b::r) (ao m n):=⟨rj.weaken (mO L (mO K h'.p)) λD Y H h=>by
 refine w { D with nx:=Km (kx X) E n D } Y H ?_;obtain⟨c,Z,B,θ,f,O,u,b,em,q⟩:=h
 delta ao at em
 cases e:m Z with
 |none=>rw[e] at em;cases em
 |some p=>
  obtain⟨t,U⟩:=p;rw[e] at em;refine⟨c,Z,B,θ,t,U,u,b,e,?_⟩;cases t with
  |nx=>exact λj H' I=>⟨c,U,B,θ,f,O,u,I,em,q⟩
  |rt s=>cases em;exact q
  |bk=>cases em;exact q
  |ct=>cases em;exact q
  | ex x=>cases em;exact q⟩
end
variable{w:XM}{lo hi:Int}{u:Tok}{q1 q2:Pos}
section
open PyProof.Rows
noncomputable def NV(p:Addr)(lo hi:Int):HO:=.exd λh=>∃t u v,IsRange h p lo hi 1 t u v
section
variable{X:Cx}{E:XK}
theorem Fu{prog:Program}{h:Heap}{p:Addr}{t v:Tok}(e:IsRange h p lo hi 1 t u v):dQ prog w H h p (NV p lo hi):=
 ⟨⟨t,u,v,e⟩,⟨_,e⟩,λ_ _ ⟨t,u,v,q⟩ k=>⟨t,u,v,k _ q⟩⟩
theorem xt:du X (.type "range") (λxs H Q=>∃j:Int,xs=[.int j]/\∀p,H p=none->Q (.ref p) (upd H p (NV p 0 j))):=by intro pins s Y H xs us Q I r h;obtain⟨j,rfl,q⟩:=h;obtain⟨u,rfl,K⟩:=vals1 r;obtain⟨t,rfl⟩:=K;exact call_range_1 ⟨.ref s.heap.objs.size,_,I.laid (λb o e=>QY _ e) (QR _) (Fu (Rp _ rfl)),rfl,q _ (I.hok.fresh (QR _))⟩
theorem wq:du X (.type "range") (λxs H Q=>∃i j:Int,xs=[.int i,.int j]/\∀p,H p=none->Q (.ref p) (upd H p (NV p i j))):=by
 intro pins s Y H xs us Q I r h;obtain⟨i,j,rfl,q⟩:=h;cases r with
 |cons r k=>
  cases k with
  |cons c k=>cases k;obtain⟨t,rfl⟩:=r;obtain⟨T,rfl⟩:=c;exact call_range_2 ⟨.ref s.heap.objs.size,_,I.laid (λb o e=>QY _ e) (QR _) (Fu (Rp _ rfl)),rfl,q _ (I.hok.fresh (QR _))⟩
noncomputable def tJ(lo:Int)(n:Nat):List V:=(Q8 n).map λi=>.int (lo+(i:Nat))
theorem zu{n:Nat}{acc:Array Value}(h:ItemsOf (λi v=>∃t,v=TZ (lo+(i:Nat)*1) t) acc n):Vals (tJ lo n) acc.toList:=by
 obtain⟨h1,h2⟩:=h;obtain⟨l⟩:=acc;have key:∀(l:List Value)(k n:Nat),l.length=n->(∀(j:Nat)(v:Value),l[j]?=some v->∃t,v=TZ (lo+((j+k:Nat):Int)*1) t)->Vals ((List.range' k n).map λi=>V.int (lo+(i:Nat))) l:=by
  intro l;induction l with
  |nil=>intro k n e _;subst e;exact .nil
  |cons a l m=>
   intro k n e h;subst e;refine .cons ?_ (m (k+1) _ rfl λj v e=>?_)
   .obtain⟨t,rfl⟩:=h 0 a rfl;exact⟨t,by simp⟩
   .obtain⟨t,rfl⟩:=h (j+1) v e;exact⟨t,by rw[show j+1+k=j+(k+1) by lia]⟩
 have:=key l 0 n h1 (by simpa using h2);rw[<-List.range_eq_range'] at this;exact this
theorem oM(hc:X.calm=true):du X (.type "list") (λxs H Q=>∃(p:Addr)(lo hi:Int),xs=[.ref p]/\H p=some (NV p lo hi) /\ -(2^60)<=lo/\lo<2^60 /\ -(2^60)<=hi/\hi<2^60/\(hi-lo).toNat<=100000/\∀l,H l=none->Q (.ref l) (upd H l (.lst (tJ lo (hi-lo).toNat)))):=by
 intro pins s Y H xs us Q I r h;obtain⟨p,lo,hi,rfl,hp,b1,b2,J,B,V,q⟩:=h;obtain⟨u,rfl,K⟩:=vals1 r;cases K;obtain⟨⟨t,u,v,e⟩,_,_⟩:=(I.hok p _ hp)
 have hn:So lo hi 1=((hi-lo).toNat:Nat):=by rw[rangeSize_one];split<;>lia
 refine call_list_range (I.ok.hd hc) e (small_one Q1 (by exact Mc) Q1 (by exact Mc)) hn Z5 λh' tk c R kp a b=>?_;refine⟨.ref s.heap.objs.size,_,I.laid kp (QR _) (show dQ X.prog X.w _ h' _ (.lst (tJ lo (hi-lo).toNat)) from ⟨?_,c.toList,R,zu b,by simpa using a⟩),rfl,q _ (I.hok.fresh (QR _))⟩;have:=X4;unfold tJ;simp only[QU,TN];exact qw
theorem DO{k:Kx}{G:Hp}(lo:Int)(n:Nat):bX k G (tJ lo n) (bS lo n):=by
 delta tJ bS
 generalize Q8 n=l
 induction l with
 |nil=>exact .nil
 |cons i l m=>exact .cons (.int _) m
theorem qY{Y:L2.St}{B:L2.St}{n:Nat}(b:Bd c Y H Z B θ)(q:∀v H',VR Y (.nw (.lst (bS lo n))) v->Bd c Y H' Z (some v::B) (.lv (.lst (bS lo n))::θ)->Q v H')(l:Addr)(h:H l=none):Q (.ref l) (upd H l (.lst (tJ lo n))):=by obtain⟨L,bl⟩:=b;exact q _ _ trivial (bl.kH h λG H' _ e=>.lst e (DO lo n))
noncomputable def F3(lo hi:Int):Bool:=decide (-(2^60)<=lo/\lo<2^60 /\ -(2^60)<=hi/\hi<2^60/\(hi-lo).toNat<=100000)
def lV(m:Mi Rr):Mi Rr:=aY m λr Z=>match res Z r with
 |some (.int j)=>if F3 0 j=true then some (.ok (.nw (.lst (bS 0 (j-0).toNat))),Z) else none
 |_=>none
theorem BC{a:Expr}{m:Mi Rr}(hc:X.calm=true)(C:Gl X "list")(hm:X.mg "list" = none)(A:XD "list" = some (.type "list"))(e:Gl X "range")(L:X.mg "range" = none)(f:JE X E a m)
  (hs:XB [a] X.env=(false,eval a X.env)::XB [] X.env):JE X E (.Call (.Name "list" p1) [.Call (.Name "range" p2) [a] [] q2] [] q1) (lV m):=
 ⟨PE.weaken (fU (oM hc) C hm A (a9 (fU xt e L YB (a9 f.p cB hs) Z2 Z2 hs rfl) cB rfl) Z2 Z2 rfl rfl) λY H Q h=>by
  obtain⟨c,Z,B,θ,o,O,u,b,em,q⟩:=h;refine bF u b em (λx v U i A b1 T=>?_) (bY q);obtain⟨j,e1,J⟩:=BE T;have n:=Bd.rd b1 A e1;cases n;by_cases hl:F3 0 j=true
  .rw[Za hl] at J;cases J;have hl:=Zg hl;refine⟨j,rfl,λp hp=>⟨p,0,j,rfl,aN,by decide,by decide,by lia,by lia,hl.2.2.2.2,λl hl=>?_⟩⟩;exact qY (b1.drop.new hp) q l hl
  .rw[Zb hl] at J;cases J⟩
def mT(m n:Mi Rr):Mi Rr:=aY m λr=>aY n λt=>λZ=>match res Z r,res Z t with
 |some (.int i),some (.int j)=>if F3 i j=true then some (.ok (.nw (.lst (bS i (j-i).toNat))),Z) else none
 |_,_=>none
theorem yD{a e:Expr}{m n:Mi Rr}(hc:X.calm=true)(z:Gl X "list")(hm:X.mg "list" = none)(A:XD "list" = some (.type "list"))(L:Gl X "range")(C:X.mg "range" = none)(f:JE X E a m)(K:JE X E e n)
  (hs:XB [a,e] X.env=(false,eval a X.env)::XB [e] X.env)(r:XB [e] X.env=(false,eval e X.env)::XB [] X.env)(hp:(XI q2 (XB [e] X.env)).any (·.1)=false):JE X E (.Call (.Name "list" p1) [.Call (.Name "range" p2) [a,e] [] q2] [] q1) (mT m n):=
 ⟨PE.weaken (fU (oM hc) z hm A (a9 (fU wq L C YB (a9 f.p (a9 K.p cB r) hs) Z2 Z2 hs hp) cB rfl) Z2 Z2 rfl rfl) λY H Q h=>by
  obtain⟨c,Z,B,θ,o,O,u,b,em,q⟩:=h;refine bF u b em (λx v U S A b1 T=>?_) (bY q);refine bF u b1 T (λy w Z' R N b2 J=>?_) (dm (bY q));obtain⟨i,j,e1,e2,J⟩:=sE J;obtain⟨rfl,rfl⟩:v=.int i/\w=.int j:=by have k:=Bd.rd b2 N e2;have G:=Bd.rd b2.drop A e1;cases G;cases k;exact⟨rfl,rfl⟩
  by_cases hl:F3 i j=true
  .rw[Za hl] at J;cases J;have hl:=Zg hl;refine⟨i,j,rfl,λp hp=>⟨p,i,j,rfl,aN,by lia,by lia,by lia,by lia,hl.2.2.2.2,λl hl=>?_⟩⟩;exact qY (b2.drop.drop.new hp) q l hl
  .rw[Zb hl] at J;cases J⟩
end
end
variable{d:Expr}
section
open PyProof.Rows
noncomputable def ET(lo c:Int)(n:Nat):It:=⟨λi _=>i<n,λi H x H'=>H'=H/\x=.int (lo+i*c),λi _=>n<=i⟩
theorem qW{P:Program}{K:QJ}{tg:Expr}(it:Addr)(lo c:Int)(n:Nat):Turn P w K tg (ET lo c n) [it] it (λi h=>YX h it (lo+(i:Nat)*c) ((n:Int)-(i:Nat)) c) where
 mem:=by simp
 obj:=λi h st b d=>by
  have e:b=it:=by simpa using d
  subst e;exact⟨_,st,λv z=>by have Z:=z;cases Z⟩
 keep:=λi h h' st k=>k it Z4 _ st
 item:=by intro X V O m hc i pins s Y H E I hf st J;subst V O m;obtain⟨r,a,G,B,C,D⟩:=hf it Z4;have W:=WN (prog:=X.prog) (w:=X.w) (I.ok.hd hc) it lo c n;refine W.item i s _ _ J st λv h' tk A N u=>?_;obtain⟨t,rfl⟩:=A;have p:Inv X pins Y H { s with heap:=h',toks:=tk }:=I.turned (λb o d e=>u b o (by simpa using d) e) r a B C D;exact⟨_,rfl,vd N rfl rfl Z2 ⟨.int (lo+i*c),H,p,⟨t,rfl⟩,⟨rfl,rfl⟩,N,λb d=>(hf b d).1⟩⟩
 done:=by intro X V O m hc i pins s Y H E I hf st J;obtain⟨r,a,G,B,C,D⟩:=hf it Z4;exact Yz (I.ok.hd hc) st (by have:n<=i:=J;lia) λh' L=>⟨rfl,I.turned (λb o d e=>L b o d e) r a B C D⟩
 self:=λ_ _ _ _ _ st h=>YA st h
noncomputable def Au(lo hi c:Int):Nat:=if lo<hi then ((hi-lo-1) / c+1).toNat else 0
theorem Jp{c:Int}(h:0<c):So lo hi c=(Au lo hi c:Nat):=by
 delta So Au
 rw[Za h]
 by_cases e:lo<hi
 .rw[Za e,Za e]
  have:=Int.ediv_nonneg (show 0<=hi-lo-1 by lia) (show 0<=c by exact R4 ‹_›)
  lia
 .rw[Zb e,Zb e];rfl
section
variable{X:Cx}{E:XK}{tg:Expr}
theorem xJ{pins:List (Addr×Obj)}{Y:L2.St}{s:Shared}{R:It->Hp->Prop}{E:Value->Shared->Prop}{c:Int}{t v:Tok}{tk:Nat}(I:Inv X pins Y H s)(h:T6 lo hi c=true)(hc:0<c)
  (q:R (ET lo c (Au lo hi c)) H):XG (XH X.prog X.w) X.A (pyIter (.ref s.heap.objs.size)) (NQ X pins Y tg R) E { s with heap:=s.heap.push { cls:=.type "range",data:=.fields #[.int lo t,.int hi u,.int c v] },toks:=tk }:=by
 refine YN (Wz ..) h ?_;have Z:Inv X pins Y H { s with heap:=s.heap.push { cls:=.type "range",data:=.fields #[.int lo t,.int hi u,.int c v] },toks:=tk }:=I.kept λb o e=>QY _ e;refine⟨(s.heap.push { cls:=.type "range",data:=.fields #[.int lo t,.int hi u,.int c v] }).objs.size,[(s.heap.push { cls:=.type "range",data:=.fields #[.int lo t,.int hi u,.int c v] }).objs.size],_,_,H,rfl,
  Z.kept λb o e=>QY _ e,qW _ lo c (Au lo hi c),?_,λb d=>?_,q⟩
 .have e1:lo+((0:Nat):Int)*c=lo:=by simp
  have e2:((Au lo hi c:Nat):Int)-((0:Nat):Int)=So lo hi c:=by rw[Jp hc];rfl
  simp only[e1,e2];exact Rp _ rfl
 .have e:b=(s.heap.push { cls:=.type "range",data:=.fields #[.int lo t,.int hi u,.int c v] }).objs.size:=by simpa using d
  subst e;exact Z.xM (QR _) (Z.hok.fresh (QR _))
noncomputable def He(lo hi c:Int):Bool:=decide (0<c)&&decide (c.natAbs<2^60)&&T6 lo hi c
def L9(ta:TA):TI:=λY H R=>ta Y H λvs U=>∃i j c:Int,vs=[.int i,.int j,.int c]/\He i j c=true/\R (ET i c (Au i j c)) U
theorem yJ{c:Int}(h:He lo hi c=true):0<c/\T6 lo hi c=true/\∀x,U0 x c=false:=by unfold He at h;simp only[QI,QI,decide_eq_true_eq,decide_eq_true_eq] at h;refine⟨h.1.1,h.2,λx=>?_⟩;unfold U0;have:c.natAbs.log2<60:=(VW Q1).mpr h.1.2;rw[Bool.and_eq_false_iff];left;refine Zc ?_;show ¬ (if (c==0)=true then 0 else c.natAbs.log2 / 30+1) > 300;split<;>lia
theorem xi{a b:Expr}{ta:TA}(J:Gl X "range")(hm:X.mg "range" = none)(f:PA X [a,b,d] ta)(hs:XB [a,b,d] X.env=(false,eval a X.env)::XB [b,d] X.env)(hp:(XI pos (XB [b,d] X.env)).any (·.1)=false):
  PI X tg (.Call (.Name "range" p) [a,b,d] [] pos) (L9 ta):=by
 intro pins s Y H R I h;refine Call_ (gP I J hm YB (RX (cM (f pos pins s Y H _ I h) λus s1 ⟨vs,U,Z,n,q1⟩=>?_) hs hp));obtain⟨i,j,c,e,ok,q⟩:=q1;subst e;obtain⟨S,l,g⟩:=yJ ok;cases n with
 |cons r k=>
  cases k with
  |cons r' k=>
   cases k with
   |cons B k=>cases k;obtain⟨t,rfl⟩:=r;obtain⟨t',rfl⟩:=r';obtain⟨v,rfl⟩:=B;exact call_range_3 (by exact Rz ‹_›) (xJ Z l S q) (.inl (g _))
noncomputable def si(lo c:Int)(n:Nat):List A:=(Q8 n).map λi=>.int (lo+(i:Nat)*c)
theorem DZ{c:Int}{n:Nat}:G8 K (ET lo c n) [] [] (si lo c n):=λcn Y H Z F D B θ i u C b=>by
 have hl:(si lo c n).length=n:=by simp[si]
 refine⟨λh=>by rw[hl] at h;exact h,λa f=>?_⟩;have hi:i<n:=by rw[<-hl];exact(QL.mp f).1
 refine⟨hi,λx H' y=>?_⟩;obtain⟨rfl,rfl⟩:=y;have:a=.int (lo+i*c):=by unfold si at f;simp only[Rt,SE hi] at f;exact(Rh f).symm
 subst this;exact b.push λ_=>.int _
theorem AH{u w x:Option A}{F:Int->Int->Int->Option α}{r:α} (h:(match u,w,x with
 |some (.int i),some (.int j),some (.int k)=>F i j k
 | _,_,_=>none)=some r):∃i j k,u=some (.int i)/\w=some (.int j)/\x=some (.int k)/\F i j k=some r:=by
 split at h
 .rename_i i j k;exact⟨i,j,k,rfl,rfl,rfl,h⟩
 .cases h
def sx(m n o:Mi Rr):Mi (List A):=aY m λr=>aY n λt=>aY o λu=>λZ=>match res Z r,res Z t,res Z u with
 |some (.int i),some (.int j),some (.int c)=>if He i j c=true then some (.ok (si i c (Au i j c)),Z) else none
 |_,_,_=>none
theorem DA{a b:Expr}{m n o:Mi Rr}(C:Gl X "range")(hm:X.mg "range" = none)(f:JE X E a m)(A:JE X E b n)(hd:JE X E d o)
  (Q:XB [a,b,d] X.env=(false,eval a X.env)::XB [b,d] X.env)(L:XB [b,d] X.env=(false,eval b X.env)::XB [d] X.env)(K:XB [d] X.env=(false,eval d X.env)::XB [] X.env)(hp:(XI pos (XB [b,d] X.env)).any (·.1)=false):JI X E tg (.Call (.Name "range" p) [a,b,d] [] pos) (sx m n o):=⟨λpins s Y H R I h=>by
 refine xi C hm (a9 f.p (a9 A.p (a9 hd.p cB K) L) Q) Q hp pins s Y H R I ?_;obtain⟨c,Z,B,θ,o,O,r,b,em,q⟩:=h;refine bF r b em (λx v U H1 t b1 T=>?_) (dw q);refine bF r b1 T (λy w Z' H2 N b2 V=>?_) (dm (dw q));refine bF r b2 V (λz u Z0 G g J e=>?_) (dm (dm (dw q)));obtain⟨i,j,k,e1,e2,D,e⟩:=AH e;obtain⟨rfl,rfl,rfl⟩:v=.int i/\w=.int j/\u=.int k:=by have l:=Bd.rd J g D;have S:=Bd.rd J.drop N e2;have P:=Bd.rd J.drop.drop t e1;cases P;cases S;cases l;exact⟨rfl,rfl,rfl⟩
 by_cases F:He i j k=true
 .rw[Za F] at e;cases e;exact⟨i,j,k,rfl,F,q _ G [] [] rfl DZ J.drop.drop.drop⟩
 .rw[Zb F] at e;cases e⟩
end
end
end M
set_option maxHeartbeats 4000000
set_option maxHeartbeats 1000000
namespace M
open PySem L2
section
variable{X:Cx}{E:XK}
def FD(K:QJ):R2:=λx y H Q=>∃l k xs,x=.ref l/\y=.int k/\dR K H l xs /\ -(2^63)<=k/\k<2^63/\xs.length*k.toNat<=sizeLine/\∀p,H p=none->Q (.ref p) (upd H p (.lst (QZ k.toNat xs).flatten))
theorem Dj:iU X (X9 .Mult) (FD X.K):=by
 intro pins s Y H x y v u Q I w z h;obtain⟨l,k,xs,rfl,rfl,i,h1,h2,hz,q⟩:=h;cases w;obtain⟨t,rfl⟩:=z;obtain⟨b,r,T,_⟩:=I.list i;obtain⟨⟨O,V,S,j⟩,n,e,E,L,D⟩:=id T;subst E D L;have hl:=r.length;have A:b.toArray.size*k.toNat<=sizeLine:=by rw[QQ,<-hl];exact hz
 have p:¬ b.toArray.size*k.toNat > (2^63-1) / 8:=by
  have:(sizeLine:Nat)<=(2^63-1) / 8:=by decide
  lia
 have B:¬ (!Xc k)=true:=by rw[fitsIndex_both h1 h2];exact RF
 have c:¬ Ts (b.toArray.size*k.toNat)=true:=by rw[zC A];exact RF
 have Z:UI (λG J=>G++J) #[] (QZ (if b.toArray.isEmpty=true then 0 else k.toNat) b.toArray)=(QZ k.toNat b).flatten.toArray:=by
  have C:∀m:Nat,UI (λG J=>G++J) #[] (QZ m b.toArray)=(QZ m b).flatten.toArray:=λm=>by have:=foldl_rep b m [];exact this
  rw[C];cases b with
  |nil=>simp
  |cons a r'=>rw[Zb Z4]
 refine wpAny_binaryOp_repeat_ref Z2 ⟨_,e,rfl⟩ (λs'=>Y8 s' k t) noFill_list_mul F.fills_int_mul WS repeat_list F.slot_int_index.lookup
  (YF WS (Y8 s k t) F.entry_int_rmul (F.args_int_rmul_2 _ _) (lm_int_rmul_list_any k t l b.toArray n _ _)
   ⟨e,rfl,⟨_,e,rfl⟩,YF F.slot_list_mul ⟨_,e,rfl⟩ F.entry_list_mul (F.args_list_mul_2 _ _) (lm_list_mul_any l b.toArray n _ _ k t B p c) ⟨e,?_⟩⟩)
 rw[Z];exact⟨.ref _,_,I.Hx (r.rep k.toNat) (by rw[len_rep,Tz];exact hz),rfl,q _ I.fresh⟩
theorem bX.rep{k:Kx}{G:Hp}{vs:List V}{as:List A}(r:bX k G vs as):∀n:Nat,bX k G (QZ n vs).flatten (QZ n as).flatten
 |0=>.nil
 |n+1=>by exact r.app (bX.rep r n)
noncomputable def C9:A->A->Option Rr
 | .lst xs,.int k=>if 0<=k/\k<=1000/\xs.length<=100 then some (.nw (.lst (QZ k.toNat xs).flatten)) else none
 |_,_=>none
theorem GS{K:Kx}:jf K (FD K.K) C9:=by
 intro c Y H Z B θ x y v w a b q Q u A O bd e1 e2 N k;cases a<;>first|(exact cF N)|(cases b<;>first|(exact cF N)|skip)
 rename_i xs n
 delta C9 at N
 dsimp only at N;by_cases hc:0<=n/\n<=1000/\xs.length<=100
 .rw[Za hc] at N;cases N;obtain⟨L,bl,s,I⟩:=Bd.zj bd A O e1 e2;obtain⟨T,h,rfl,s1,e⟩:=s.1 xs rfl;have o:=Bd.rd bd O e2;cases o;have j:=e.len;subst u;have hz:=Rn (Vh (show h.length<=100 by lia) (show n.toNat<=1000 by lia)) oH;exact⟨T,n,h,rfl,rfl,s1,by lia,by lia,hz,λp hp=>k _ _ trivial (bl.kH hp λG H' sm q=>.lst q ((e.rep n.toNat).sm sm))⟩
 .rw[Zb hc] at N;cases N
theorem Ji{a b:Expr}{ma mb:Mi Rr}{pos:Pos}(f:JE X E a ma)(d:JE X E b mb):JE X E (.BinOp a .Mult b pos) (ay C9 ma mb):=mr Dj GS f d
end
end M
set_option maxHeartbeats 4000000
namespace M
open PySem L2
variable{ma mb:Mi Rr}{pos:Pos}
section
variable{X:Cx}{E:XK}
abbrev aK:=N9 Gf Av
theorem Dw{a b:Expr}(f:JE X E a ma)(d:JE X E b mb):JE X E (.BinOp a .Add b pos) (ay aK ma mb):=mr (iU.or' Iq Bj) (CY.or Ej) f d
theorem C7{a b:Expr}(f:JE X E a ma)(d:JE X E b mb):JE X E (.BinOp a .Mult b pos) (ay bz ma mb):=mr Dr EI f d
end
def Ml(K:QJ)(ta:TA):TI:=λY H R=>ta Y H λvs U=>∃a b xs ys,vs=[.ref a,.ref b]/\dR K U a xs/\dR K U b ys/\R (Mh K a b) U
variable{e1 e2:Expr}{p tp:Pos}{es:List Expr}{kk:Nat}
section
variable{X:Cx}{E:XK}
theorem D9{ta:TA}(C:Gl X "zip")(hm:X.mg "zip" = none)(f:PA X [e1,e2] ta)(hs:XB [e1,e2] X.env=[(false,eval e1 X.env),(false,eval e2 X.env)])(n:XB [e2] X.env=[(false,eval e2 X.env)]):
  PI X (.Tuple es kk tp) (.Call (.Name "zip" p) [e1,e2] [] pos) (Ml X.K ta):=by
 intro pins s Y H R I h;refine Xd (gP I C hm Ju (RX (cM (f pos pins s Y H _ I h) λus s1 ⟨vs,U,B,G,g⟩=>?_) (by simp only[hs,n]) (by rw[n];rfl)));obtain⟨a,b,xs,ys,rfl,V,z,q⟩:=g;obtain⟨u,v,rfl,r,r'⟩:=G.two;cases r;cases r';have fin:∀{J:It}{St:Nat->Heap->Prop}{h':Heap},a<s1.heap.objs.size->b<s1.heap.objs.size->(∀c o,s1.heap.get? c=some o->h'.get? c=some o)->IsZip h' (s1.heap.objs.size+4) (s1.heap.objs.size+2) (s1.heap.objs.size+3) .none->St 0 h'->
   Turn X.prog X.w X.K (.Tuple es kk tp) J [s1.heap.objs.size+4,s1.heap.objs.size+2,s1.heap.objs.size+3,s1.heap.objs.size,s1.heap.objs.size+1] (s1.heap.objs.size+4) St->R J U->XG (XH X.prog X.w) X.A (pyIter (.ref (s1.heap.objs.size+4))) (NQ X pins Y (.Tuple es kk tp) R) X.xe { s1 with heap:=h' }:=by
  intro J St h' x Q keep Z y T q;have j:=B.kept (t':=s1.toks) keep;refine wpAny_pyIter_zip Z ⟨_,[s1.heap.objs.size+4,s1.heap.objs.size+2,s1.heap.objs.size+3,s1.heap.objs.size,s1.heap.objs.size+1],_,_,U,rfl,j,T,y,λc hc=>?_,q⟩;have E:s1.heap.objs.size<=c:=by simp only[QW,RL,or_false] at hc;rcases hc with rfl|rfl|rfl|rfl|rfl<;>first|exact Si _ _|exact QR _
  exact B.xM E (B.hok.fresh E)
 obtain⟨i,P,L,_⟩:=B.list V;obtain⟨D,k,m,_⟩:=B.list z;have x:a<s1.heap.objs.size:=by obtain⟨o,e,_⟩:=L.isList;exact Q5 e
 have Q:b<s1.heap.objs.size:=by obtain⟨o,e,_⟩:=m.isList;exact Q5 e
 exact call_zip_2 L.isList m.isList λh' O l F t N S keep=>fin x Q keep O (⟨O,l,⟨_,_,F⟩,t,N⟩:zg h' _ _ _ _ _ a b 0) (wu (Xe x Q)) q
def gN(ma mb:Mi Rr):Mi (List A):=aY ma λx=>aY mb λy=>λZ=>match eH [x,y] Z with
 |some ([.lst as,.lst bs],O)=>some (.ok (kC as bs),O)
 |_=>none
theorem CA{m n:Mi Rr}(hg:Gl X "zip")(hm:X.mg "zip" = none)(h1:JE X E e1 m)(h2:JE X E e2 n)(hs:XB [e1,e2] X.env=[(false,eval e1 X.env),(false,eval e2 X.env)])(r:XB [e2] X.env=[(false,eval e2 X.env)])(k:XB [e1,e2] X.env=(false,eval e1 X.env)::XB [e2] X.env)(g:XB [e2] X.env=(false,eval e2 X.env)::XB [] X.env):
  JI X E (.Tuple es kk tp) (.Call (.Name "zip" p) [e1,e2] [] pos) (gN m n):=⟨λpins s Y H R I h=>by
 refine D9 hg hm (a9 h1.p (a9 h2.p cB g) k) hs r pins s Y H R I ?_;obtain⟨c,Z,B,θ,o,O,S,b,em,q⟩:=h;refine bF S b em (λx v U H1 hv b1 P=>?_) (dw q);refine bF S b1 P (λy w Z' A hw b2 V=>?_) (dm (dw q));cases d:eH [x,y] Z' with
 |none=>rw[d] at V;cases V
 |some pr=>
  rw[d] at V;obtain⟨cs,N⟩:=pr;cases cs with
  |nil=>cases V
  |cons ca l=>cases ca with
   |lst as=>cases l with
    |nil=>cases V
    |cons cb l=>cases cb with
     |lst bs=>cases l with
      |cons _ _=>cases V
      |nil=>
       cases V;have eK:c.K=X.K:=Ze Kx.K S;have b3:Bd c Y A _ ([some w,some v]++B) ([Sl.fr (.lst bs),Sl.fr (.lst as)]++θ):=(Bd.eH (rs:=[x,y]) (vs:=[v,w]) ⟨hv,hw,trivial⟩ b2 d).1;obtain⟨L0,bl0,w0,v0⟩:=Bd.Mf (xs:=[]) (ss:=[]) rfl b3;cases w0 with
       |lst we wr=>
       cases v0 with
       |lst ve vr=>
       rename_i pw us pv ts;refine⟨pv,pw,ts,us,rfl,by rw[<-eK];exact fz (g_same _ _ _) ve,by rw[<-eK];exact fz (g_same _ _ _) we,q _ A [some (.ref pw),some (.ref pv)] [.lst bs,.lst as] rfl (λc' j H' O F D J T i ek' lx b'=>?_) b3⟩;have G:c'.K=X.K:=Ze Kx.K ek';obtain⟨L,bl,w1,v1⟩:=Bd.Mf (B:=J) (θ:=T) lx b';cases w1 with
       |lst we wr=>
       cases v1 with
       |lst ve vr=>
       rename_i C e;have sw:dR X.K H' pw C:=by rw[<-G];exact fz (g_same _ _ _) we
       have sv:dR X.K H' pv e:=by rw[<-G];exact fz (g_same _ _ _) ve
       refine⟨λhi=>⟨e,C,sv,sw,?_⟩,λa f=>?_⟩
       .unfold kC at hi;rw[QU,S1] at hi;by_cases z:as.length<=i
        .exact .inl (Sk (by rw[vr.len];exact z))
        .exact .inr (Sk (by rw[wr.len];lia))
       .unfold kC at f;rw[Rt] at f;cases ez:(as.zip bs)[i]? with
        |none=>rw[ez] at f;cases f
        |some pr=>rw[ez] at f;cases f;obtain⟨za,zb⟩:=Sr.mp ez;obtain⟨t,g1,g2⟩:=vr.ta za;obtain⟨u,k1,k2⟩:=wr.ta zb;refine⟨⟨e,C,t,u,sv,sw,g1,k1⟩,λx A yy=>?_⟩;obtain⟨tt,x',y',rfl,hn,rfl,Q⟩:=yy;obtain⟨z1,z2⟩:=Q e C sv sw;rw[g1] at z1;cases z1;rw[k1] at z2;cases z2;obtain⟨b2,sm,np⟩:=bl.new (o:=.tup [t,u]) hn;exact b2.push (.tup (.inl (.inl (by rw[bM np (bl.Mu hn)];exact aN))) ((bX.cons g2 (.cons k2 .nil)).sm sm))
     |_=>exact cF V
   | _=>cases V⟩
def bT(m:Mi Rr)(H Y:Mi (Option Int)):Mi Rr:=aY m λx=>aY H λlo=>aY Y λhi=>λZ=>match res Z x with
 |some (.lst xs)=>some (.ok (.nw (.lst (gu xs lo hi))),Z)
 |some (.tup xs)=>if HT.c7 xs.length 0 lo=0/\HT.c7 xs.length xs.length hi=xs.length then none else some (.ok (.fr (.tup (gu xs lo hi))),Z)
 |_=>none
theorem HI{e:Expr}{lo hi:Option Expr}{m:Mi Rr}{w z:Mi (Option Int)}{P:Pos}(h:JE X E e m)(hl:JP X E lo w)(N:JP X E hi z):JE X E (.Subscript e (.Slice lo hi none P) pos) (bT m w z):=
 ⟨PE.weaken (A3 (L2.eV.or DN Jm) h.p hl.p N.p) λY H Q h=>by
  obtain⟨c,Z,B,θ,o,O,r,b,em,q⟩:=h;refine bF r b em (λx v U i A b1 T=>?_) (bY q);refine u6 r b1 T (λl Z' R b2 V=>?_) (dm (bY q));refine u6 r b2 V (λu Z0 j J y=>?_) (dm (bY q));have S:c.K=X.K:=Ze Kx.K r;cases e1:res Z0 x with
  |none=>rw[e1] at y;cases y
  |some a=>
   rw[e1] at y;obtain⟨L,bl,s⟩:=Bd.open J A e1;cases a with
   |lst xs=>cases y;obtain⟨p,vs,rfl,s1,k⟩:=s.1 xs rfl;exact .inl ⟨p,vs,rfl,by rw[<-S];exact s1,λC hp=>q _ _ trivial (bl.kH hp λG H' sm q=>.lst q ((yO k l u).sm sm))⟩
   |tup xs=>
    obtain⟨p,vs,rfl,s1,k⟩:=s.2.1 xs rfl;by_cases hn:HT.c7 xs.length 0 l=0/\HT.c7 xs.length xs.length u=xs.length
    .cases (Za hn).symm.trans y
    .cases (Zb hn).symm.trans y;refine .inr ⟨p,vs,rfl,by rw[<-S];exact gn (g_same _ _ _) s1,by rw[k.len];exact hn,λC hp=>?_⟩;obtain⟨b2,sm,np⟩:=bl.new (o:=.tup (ql vs l u)) hp;exact q _ _ trivial (b2.push (.tup (.inl (.inl (by rw[bM np (bl.Mu hp)];exact aN))) ((yO k l u).sm sm)))
   | _=>cases y⟩
end
end M
set_option maxHeartbeats 1000000
namespace M
open PySem L2 W
def fL(f:Ms)(I:List A):List Rr->Mi Rr:=λrs Z=>match cA (rs++I.map Rr.fr) Z with
 |some (as,T)=>match f (as.map qv) with
  |some (.rt s,U)=>match pM s,putL Z (rs++I.map Rr.fr) (aA as.length U) T with
   |some r,some O=>some (.ok r,O)
   |_,_=>none
  |some (.ex x,U)=>match putL Z (rs++I.map Rr.fr) (aA as.length U) T with
   |some O=>some (.error x,O)
   |none=>none
  |_=>none
 |none=>none
def Val(f:Ms)(as:List A)(a:A):Prop:=∃Z,f (as.map Sl.fr)=some (.rt (.fr a),Z)
def nB(f:Ms)(as:List A)(o:LO):Prop:=∃Z,f (as.map Sl.fr)=some (.rt (.lv o),Z)
def cU(f:Ms)(o:LO)(as:List A)(s:Sl)(o':LO):Prop:=∃Z,f (.pv o::as.map Sl.fr)=some (.rt s,.pv o'::Z)
theorem jC(as:List A)(Z:List Sl):cA (as.map Rr.fr) Z=some (as.map Sl.fr,Z):=by
 induction as generalizing Z with
 |nil=>rfl
 |cons a as m=>simp only[RC,cA,take1,m]
theorem pU(as:List A):(as.map Sl.fr).map qv=as.map Sl.fr:=by rw[Ry];rfl
theorem jz(S:List Sl):∀(as:List A)(ss:List Sl)(Z:List Sl),as.length=ss.length->putL S (as.map Rr.fr) ss Z=some Z
 |[],[],Z,_=>rfl
 |a::as,s::ss,Z,h=>by rw[RC,putL,jz S as ss Z (by simpa using h)];rfl
 |[],_::_,_,h=>by simp at h
 |_::_,[],_,h=>by simp at h
variable{f:Ms}
theorem bj{as:List A}{a:A}(h:Val f as a)(Z:List Sl):fL f [] (as.map Rr.fr) Z=some (.ok (.fr a),Z):=by
 obtain⟨U,h⟩:=h
 delta fL
 rw[Tu,RT,jC];simp only[pU,h,pM];rw[jz _ _ _ _ (by rw[cS,QU])]
variable{o:LO}
theorem jq{as:List A}(h:nB f as o)(Z:List Sl):fL f [] (as.map Rr.fr) Z=some (.ok (.nw o),Z):=by
 obtain⟨U,h⟩:=h
 delta fL
 rw[Tu,RT,jC];simp only[pU,h,pM];rw[jz _ _ _ _ (by rw[cS,QU])]
variable{i:Nat}{Z:List Sl}
theorem cH{as:List A}{o':LO}{s:Sl}{r:Rr}(h:cU f o as s o')(u:pM s=some r)(hl:aD Z i=some o):fL f [] (.rf i::as.map Rr.fr) Z=some (.ok r,setAt Z i o'):=by
 obtain⟨U,h⟩:=h;unfold aD at hl;unfold setAt;have hi:∀s,Z[i]?=some s->(Z.set i Sl.un)[i]?=some .un:=λs e=>Q6 (QL.mp e).1;have key:∀(w:Sl)(k:LO->Sl),Z[i]?=some w->take1 (.rf i) Z=some (.lv o,Z.set i .un)->(∀s O,O[i]?=some Sl.un->rO Z (.rf i) (.pv s) O=some (O.set i (k s)))->fL f [] (.rf i::as.map Rr.fr) Z=some (.ok r,Z.set i (k o')):=by
  intro w k es l hp;unfold fL;rw[Tu,RT,cA,l];simp only[jC];have h':f (WB qv (Sl.lv o::WB Sl.fr as))=some (.rt s,.pv o'::U):=by rw[RC,pU];exact h
  rw[h'];simp only[u];have d:aA (Sl.lv o::WB Sl.fr as).length (.pv o'::U)=.pv o'::aA as.length U:=by rw[QX,QU];rfl
  rw[d,putL,jz _ _ _ _ (by rw[cS])];simp only[hp _ _ (hi w es),List.set_set]
 cases es:Z[i]? with
 |none=>simp only[es] at hl;cases hl
 |some t=>
  cases t with
  |un=>simp only[es] at hl;cases hl
  |cf _=>simp only[es] at hl;cases hl
  |fr a=>simp only[es] at hl;cases hl
  |lv v=>simp only[es] at hl;cases hl;refine key _ Sl.lv es (by unfold take1;simp only[es]) λs O e=>?_;unfold rO;simp only[es,e]
  |pv v=>simp only[es] at hl;cases hl;refine key _ Sl.pv es (by unfold take1;simp only[es]) λs O e=>?_;unfold rO;simp only[es,e]
variable{G:Mg}
theorem zr{b:Ms}{as:List A}(P:Nat->List Sl->Prop)(L:P 0 Z)(hs:∀i a Z,as[i]?=some a->P i Z->∃U Z',G a Z=some U/\(b U=some (.nx,Z')\/b U=some (.ct,Z'))/\P (i+1) Z'):
  ∃O,forL G b as Z=some (.nx,O)/\P as.length O:=by
 have key:∀n i Z,as.length-i=n->i<=as.length->P i Z->∃O,forL G b (as.drop i) Z=some (.nx,O)/\P as.length O:=by
  intro n;induction n with
  |zero=>
   intro i Z e hi p;have:i=as.length:=by lia
   subst this;exact⟨Z,by rw[T7];rfl,p⟩
  |succ n m=>
   intro i Z e hi p;have H:i<as.length:=by lia
   obtain⟨U,Z',h1,h2,h3⟩:=hs i as[i] Z Z4 p;obtain⟨O,h4,h5⟩:=m (i+1) Z' Q1 H h3;refine⟨O,?_,h5⟩;rw[SU H,forL,h1];rcases h2 with h2|h2
   .simp only[h2];exact h4
   .simp only[h2];exact h4
 simpa using key as.length 0 Z (by rfl) (R7 _) L
theorem dU{t:Mi Bool}{e:Mi Rr}{as:List A}(P:Nat->List A->List Sl->Prop)(L:P 0 [] Z)
  (hs:∀i a acc Z,as[i]?=some a->P i acc Z->∃U,G a Z=some U/\((∃Z' r Z0 d N,t U=some (.ok true,Z')/\e Z'=some (.ok r,Z0)/\bW r Z0=some (d,N)/\P (i+1) (acc++[d]) N)\/∃Z',t U=some (.ok false,Z')/\P (i+1) acc Z')):
  ∃ys O,dB G t e as [] Z=some (ys,O)/\P as.length ys O:=by
 have key:∀n i acc Z,as.length-i=n->i<=as.length->P i acc Z->∃ys O,dB G t e (as.drop i) acc Z=some (ys,O)/\P as.length ys O:=by
  intro n;induction n with
  |zero=>
   intro i acc Z k hi p;have:i=as.length:=by lia
   subst this;exact⟨acc,Z,by rw[T7];rfl,p⟩
  |succ n m=>
   intro i acc Z k hi p;have H:i<as.length:=by lia
   obtain⟨U,h1,h2⟩:=hs i as[i] acc Z Z4 p;rw[SU H,dB,h1];rcases h2 with ⟨Z',r,Z0,d,N,g,l,z,Y⟩|⟨Z',g,l⟩
   .simp only[g,l,z];exact m (i+1) _ N Q1 H Y
   .simp only[g];exact m (i+1) _ Z' Q1 H l
 simpa using key as.length 0 [] Z (by rfl) (R7 _) L
theorem oI{t:Mi Bool}{b:Ms}(P:Nat->List Sl->Prop)(Q:List Sl->Prop)(hs:∀k Z,P k Z->(∃U,t Z=some (.ok false,U)/\Q U)\/∃U Z' v,t Z=some (.ok true,U)/\(b U=some (.nx,Z')\/b U=some (.ct,Z'))/\v<k/\P v Z'):
  ∀{n k:Nat}{Z:List Sl},P k Z->k<n->∃O,dI t b n Z=some (.nx,O)/\Q O:=by
 intro n;induction n with
 |zero=>intro k Z _ h;exact absurd ‹_› (RZ _)
 |succ n m=>
  intro k Z p hk;rcases hs k Z p with ⟨U,h1,h2⟩|⟨U,Z',v,h1,h2,h3,h4⟩
  .exact⟨U,by simp only[dI,h1],h2⟩
  .obtain⟨O,h5,z⟩:=m h4 Q1;refine⟨O,?_,z⟩;rw[dI,h1];rcases h2 with h2|h2
   .simp only[h2];exact h5
   .simp only[h2];exact h5
theorem tu{n:Nat}(h:n<2^9500):n<Af:=Q3 h (by delta Af;exact SN Z2 Z2)
noncomputable def nm(x:Num):A:=.tup [.int x.1,.int x.2]
theorem Hc(x:Num):toD (nm x)=some (.tup [.int x.1,.int x.2]):=by rfl
theorem HV(x y:Num):tI (nm x) (nm y)=some (decide (x=y)):=by
 delta tI
 rw[Hc]
 obtain⟨G,J⟩:=x
 obtain⟨t,H⟩:=y
 show some ((G==t)&&((J==H)&&true))=_
 simp[Bool.beq_eq_decide_eq]
theorem pJ(i j:Int):tI (.int i) (.int j)=some (decide (i=j)):=by
 delta tI
 simp only[toD]
 show some (i==j)=_
 rfl
section
variable{α D:Type}{Z:List Sl}
def kX(f:A->A->Option Rr)(x y:Rr)(Z:List Sl):Option (Except Str Rr×List Sl):=match res Z x,res Z y with
 |some a,some b=>match f a b with
  |some r=>some (.ok r,Z)
  |none=>none
 |_,_=>none
def OT(f:A->Option Rr)(x:Rr)(Z:List Sl):Option (Except Str Rr×List Sl):=match res Z x with
 |some a=>match f a with
  |some r=>some (.ok r,Z)
  |none=>none
 |none=>none
theorem P6(m n:Mi Bool):iK m n Z=(match m Z with|some (.ok true,U)=>n U|some (.ok false,U)=>some (.ok false,U)|some (.error e,U)=>some (.error e,U)|none=>none):=by
 unfold iK aY;cases m Z with
 |none=>rfl
 |some p=>obtain⟨o,U⟩:=p;cases o with|error e=>rfl|ok k=>cases k<;>rfl
theorem JM(m n:Mi Rr):lN m n Z=(match aj m Z with|some (.ok true,U)=>n U|some (.ok false,U)=>some (.ok (.fr (.bl false)),U)|some (.error e,U)=>some (.error e,U)|none=>none):=by
 delta lN aY
 cases aj m Z with
 |none=>rfl
 |some p=>obtain⟨o,U⟩:=p;cases o with|error e=>rfl|ok k=>cases k<;>rfl
theorem LV(t:Mi Bool)(m n:Mi Rr):Nv t m n Z=(match t Z with|some (.ok true,U)=>m U|some (.ok false,U)=>n U|some (.error e,U)=>some (.error e,U)|none=>none):=by
 delta Nv aY
 cases t Z with
 |none=>rfl
 |some p=>obtain⟨o,U⟩:=p;cases o with|error e=>rfl|ok k=>cases k<;>rfl
def tupK(rs:List Rr)(Z:List Sl):Option (Except Str Rr×List Sl):=match eH rs Z with
 |some (as,O)=>if as.length<=1000 then some (.ok (.fr (.tup as)),O) else none
 |none=>none
def lstK(rs:List Rr)(Z:List Sl):Option (Except Str Rr×List Sl):=match eH rs Z with
 |some (as,O)=>if as.length<=1000 then some (.ok (.nw (.lst as)),O) else none
 |none=>none
theorem Fd(m n:Ms):ao m n Z=(match m Z with|some (.nx,U)=>n U|r=>r):=rfl
def CO(i:Nat)(r:Rr)(Z:List Sl):Option (Fl×List Sl):=match xW r Z with
 |some (t,U)=>match put i t U with
  |some Z'=>some (.nx,Z')
  |none=>none
 |none=>none
def O8(r:Rr)(Z:List Sl):Option (Fl×List Sl):=match G3 r Z with
 |some (s,O)=>some (.rt s,O)
 |none=>none
theorem MB(loc:Nat)(m:Ms):cG loc m Z=(match m (Z++QZ loc .un) with|some (.nx,O)=>some (.rt (.fr .non),O)|some (.rt s,O)=>some (.rt s,O)|some (.ex x,O)=>some (.ex x,O)|_=>none):=by
 delta cG
 cases m (Z++QZ loc .un) with
 |none=>rfl
 |some p=>obtain⟨f,U⟩:=p;cases f<;>rfl
theorem LS(m:Mi (List A))(G:Mg)(b:Ms):gQ m G b Z=(match m Z with|some (.ok as,U)=>forL G b as U|some (.error e,U)=>some (.ex e,U)|none=>none):=by
 delta gQ dq
 cases m Z with
 |none=>rfl
 |some p=>
  obtain⟨o,U⟩:=p;cases o with
  |error e=>rfl
  |ok x=>rfl
def OP(r:Rr)(Z:List Sl):Option (Except Str (List A)×List Sl):=match bW r Z with
 |some (a,O)=>match HN a with
  |some as=>some (.ok as,O)
  |none=>none
 |none=>none
def PB(r:Rr)(Z:List Sl):Option (Except Str (List A)×List Sl):=match res Z r with
 |some (.int j)=>if -(2^60)<=j/\j<2^60 then some (.ok (bS 0 j.toNat),Z) else none
 |_=>none
def gG(n:Nat)(G:Mg)(t:Mi Bool)(e:Mi Rr)(as:List A)(Z:List Sl):Option (Except Str Rr×List Sl):=if as.length<=100000 then match dB G t e as [] (Z++QZ n .un) with
 |some (ys,O)=>some (.ok (.nw (.lst ys)),O.take Z.length)
 |none=>none else none
def Qp(i:Nat)(r:Rr)(Z:List Sl):Option (Except Str Rr×List Sl):=match bW r Z with
 |some (a,U)=>match aD U i with
  |some (.lst xs)=>if xs.length<=16000000 then some (.ok (.fr .non),setAt U i (.lst (xs++[a]))) else none
  |_=>none
 |none=>none
def P2(i:Nat)(r c:Rr)(Z:List Sl):Option (Fl×List Sl):=match bW r Z with
 |some (a,U)=>match res U c,aD U i with
  |some (.int k),some (.lst xs)=>match gF xs.length k with
   |some j=>some (.nx,setAt U i (.lst (xs.set j a)))
   |none=>none
  |_,_=>none
 |none=>none
def Qk(r:Rr)(Z:List Sl):Option (Except Str Rr×List Sl):=match bW r Z with
 |some (a,O)=>some (.ok (.fr a),O)
 |none=>none
end
section
variable{Z:List Sl}
def Pu(cs:List Str)(i:Nat)(f:Str)(r:Rr)(Z:List Sl):Option (Fl×List Sl):=match bW r Z with
 |some (a,U)=>match aD U i with
  |some (.obj c fs)=>if cs.contains c&&Sz fs.length 900 then some (.nx,setAt U i (.obj c (kF f a fs))) else none
  |_=>none
 |none=>none
def vT(cn:Str)(f:Ms)(I:List A)(rs:List Rr)(Z:List Sl):Option (Except Str Rr×List Sl):=match cA (rs++I.map Rr.fr) Z with
 |some (as,T)=>match f (.pv (.obj cn [])::as.map qv) with
  |some (.rt (.fr .non),.pv o2::Y)=>match putL Z (rs++I.map Rr.fr) (aA as.length Y) T with
   |some O=>some (.ok (.nw o2),O)
   |none=>none
  |some (.ex x,s::Y)=>match putL Z (rs++I.map Rr.fr) (aA as.length Y) T with
   |some O=>some (.error x,O)
   |none=>none
  |_=>none
 |none=>none
def K3(cn mn:Str)(r:Rr)(Z:List Sl):Option (Except Str Rr×List Sl):=match res Z r with
 |some (.obj c fs)=>if c==cn&&(fs.lookup mn).isNone then some (.ok r,Z) else none
 |_=>none
theorem Gr(a b:A):iI a b=(n6 λi j=>if j != 0&&fits 9000 j then some (.fr (.int (i.fdiv j))) else none) a b:=rfl
theorem Nt(a b:A):sd a b=(n6 λi j=>some (.fr (.bl (decide (j<i))))) a b:=rfl
end
noncomputable def np:Sl->Bool
 | .pv _=>false
 |_=>true
theorem v8(a:A):np (.fr a)=true:=rfl
theorem FQ(o:LO):np (.lv o)=true:=rfl
theorem F7(i:Nat)(s:Sl)(Z:List Sl):put i s Z=(match Z[i]? with|some t=>if np t=true then some (Z.set i s) else none|none=>none):=by
 delta put
 cases Z[i]? with
 |none=>rfl
 |some t=>cases t<;>rfl
def Wp(m:Ms)(Z:List Sl)(Q:Fl->List Sl->Prop):Prop:=∃f O,m Z=some (f,O)/\Q f O
section
variable{m n b:Ms}{Z U:List Sl}{Q:Fl->List Sl->Prop}
theorem Wp.st(h:m Z=some (.nx,U))(k:Wp n U Q):Wp (ao m n) Z Q:=by obtain⟨f,O,e,q⟩:=k;exact⟨f,O,by simp only[Fd,h];exact e,q⟩
theorem Wp.sq(k:Wp m Z λf U=>f=.nx/\Wp n U Q):Wp (ao m n) Z Q:=by obtain⟨f,U,e,rfl,G,Z',e2,q⟩:=k;exact⟨G,Z',by simp only[Fd,e];exact e2,q⟩
theorem Wp.en{f:Fl}(h:m Z=some (f,U))(q:Q f U):Wp m Z Q:=⟨_,_,h,q⟩
theorem Wp.mono{H:Fl->List Sl->Prop}(k:Wp m Z Q)(h:∀f U,Q f U->H f U):Wp m Z H:=by obtain⟨f,U,e,q⟩:=k;exact⟨f,U,e,h f U q⟩
theorem Wp.fr{v:Mi (List A)}{as:List A}(P:Nat->List Sl->Prop)(h:v Z=some (.ok as,U))(L:P 0 U)(hs:∀i a Z,as[i]?=some a->P i Z->∃U,G a Z=some U/\Wp b U λf Z'=>(f=.nx\/f=.ct)/\P (i+1) Z')(R:∀O,P as.length O->Q .nx O):Wp (gQ v G b) Z Q:=by
 obtain⟨O,h1,h2⟩:=zr P L (λi a Z V p=>by
  obtain⟨U,g,f,Z',e,hf,C⟩:=hs i a Z V p;refine⟨U,Z',g,?_,C⟩;rcases hf with rfl|rfl
  .exact .inl e
  .exact .inr e)
 exact⟨_,O,by simp only[LS,h];exact h1,R O h2⟩
theorem Wp.Qi{v:Mi (List A)}(as:List A)(P:List Sl->Prop)(h:v Z=some (.ok as,U))(L:P U)(hs:∀a∈as,∀Z,P Z->∃U,G a Z=some U/\Wp b U λf Z'=>(f=.nx\/f=.ct)/\P Z')(R:∀O,P O->Q .nx O):Wp (gQ v G b) Z Q:=
 Wp.fr (λ_=>P) h L (λ_ a Z V p=>hs a (RD V) Z p) R
theorem Wp.df{loc:Nat}(k:Wp m (Z++QZ loc .un) λf O=>match f with | .nx=>Q (.rt (.fr .non)) O | .rt s=>Q (.rt s) O | .ex x=>Q (.ex x) O|_=>False):Wp (cG loc m) Z Q:=by
 obtain⟨f,O,e,q⟩:=k
 delta Wp
 rw[MB,e];cases f with
 |nx=>exact⟨_,_,rfl,q⟩
 |rt s=>exact⟨_,_,rfl,q⟩
 |ex x=>exact⟨_,_,rfl,q⟩
 |bk=>exact q.elim
 |ct=>exact q.elim
theorem Val.of{as:List A}{a:A}(k:Wp f (as.map Sl.fr) λg _=>g=.rt (.fr a)):Val f as a:=by obtain⟨g,O,e,rfl⟩:=k;exact⟨O,e⟩
theorem nB.of{as:List A}(k:Wp f (as.map Sl.fr) λg _=>g=.rt (.lv o)):nB f as o:=by obtain⟨g,O,e,rfl⟩:=k;exact⟨O,e⟩
theorem cU.of{as:List A}{R:Sl->LO->Prop}(k:Wp f (.pv o::as.map Sl.fr) λg Z=>∃s o' U,g=.rt s/\Z=.pv o'::U/\R s o'):∃s o',cU f o as s o'/\R s o':=by obtain⟨g,O,e,s,o',U,rfl,rfl,r⟩:=k;exact⟨s,o',⟨U,e⟩,r⟩
end
def Dt(n:Nat)(a:A):Prop:=∃d,toD a=some d/\D.depth d<=n
def Kw(n:Nat)(as:List A):Prop:=∃ds,kT as=some ds/\D.hJ ds<=n
theorem Dt.int{n:Nat}(i:Int):Dt n (.int i):=⟨.int i,by simp only[toD],by exact R7 _⟩
theorem Dt.str{n:Nat}(x:Str):Dt n (.str x):=⟨.str x,by simp only[toD],by exact R7 _⟩
theorem Kw.nil{n:Nat}:Kw n []:=⟨[],by simp only[kT],by exact R7 _⟩
theorem Kw.cons{n:Nat}{a:A}{as:List A}(h:Dt n a)(k:Kw n as):Kw n (a::as):=by obtain⟨d,h1,h2⟩:=h;obtain⟨ds,h3,h4⟩:=k;exact⟨d::ds,by simp only[kT,h1,h3],by simp only[D.hJ];lia⟩
theorem Dt.tup{n:Nat}{as:List A}(h:Kw n as):Dt (n+1) (.tup as):=by obtain⟨ds,h1,h2⟩:=h;exact⟨.tup ds,by simp only[toD,h1],by simp only[D.depth];exact RE ‹_›⟩
theorem Dt.nm{n:Nat}(x:Num):Dt (n+1) (nm x):=Dt.tup (.cons (.int _) (.cons (.int _) .nil))
theorem BN{a:A}(h:Dt 40 a):tI a a=some true:=by
 obtain⟨d,h1,h2⟩:=h
 delta tI
 simp only[h1];rw[Za h2,D.lg]
theorem gk(n:Nat):(bS 0 n).length=n:=by simp[bS]
theorem pG{n:Nat}{a:A}(h:(bS 0 n)[i]?=some a):i<n/\a=.int i:=by
 have hi:=(QL.mp h).1;rw[gk] at hi
 delta bS at h
 simp only[Rt,SE hi] at h;simp at h;exact⟨hi,h.symm⟩
open PySem L2
section
variable{G:Mg}{b:Ms}{g:Key×A->A}{j:Nat}{Z:List Sl}{kvs:List (Key×A)}
theorem CJ{a:A}(h:Z[j]?=some (.fr a)):ag j Z=some (.ok (.fr a),Z):=by unfold ag;rw[h]
end
variable{rs:List Rr}{cn:Str}
section
variable{α D:Type}{Z S U Z' Z0:List Sl}{m n mk:Mi Rr}{t u:Mi Bool}{x y r rk:Rr}
theorem bk{m:Mi α}{f:α->Mi D}{x:α}{q:Option (Except Str D×List Sl)}(h:m Z=some (.ok x,U))(k:f x U=q):aY m f Z=q:=by unfold aY;rw[h];exact k
theorem sk{m:Mi α}{f:α->Ms}{x:α}{q:Option (Fl×List Sl)}(h:m Z=some (.ok x,U))(k:f x U=q):dq m f Z=q:=by unfold dq;rw[h];exact k
theorem az{I:List A}{ms:Mi (List Rr)}(h:ms Z=some (.ok rs,U))(c:fL f I rs U=some (.ok r,Z')):ba f I ms Z=some (.ok r,Z'):=bk h c
theorem ae{ms:Mi (List Rr)}(h:m Z=some (.ok x,U))(k:ms U=some (.ok rs,Z')):dt m ms Z=some (.ok (x::rs),Z'):=bk h (bk k rfl)
theorem ah{f:A->A->Option Rr}(h:m Z=some (.ok x,U))(k:n U=some (.ok y,Z'))(o:kX f x y Z'=some (.ok r,Z0)):ay f m n Z=some (.ok r,Z0):=bk h (bk k o)
theorem eW{f:A->Option Rr}(h:m Z=some (.ok x,U))(o:OT f x U=some (.ok r,Z')):aM f m Z=some (.ok r,Z'):=bk h o
theorem gH(h:m Z=some (.ok x,U))(o:Qk x U=some (.ok r,Z')):dS m Z=some (.ok r,Z'):=bk h o
theorem fv{ms:Mi (List Rr)}(h:ms Z=some (.ok rs,U))(o:tupK rs U=some (.ok r,Z')):eJ ms Z=some (.ok r,Z'):=bk h o
theorem gE{ms:Mi (List Rr)}(h:ms Z=some (.ok rs,U))(o:lstK rs U=some (.ok r,Z')):dj ms Z=some (.ok r,Z'):=bk h o
theorem Dc{I:List A}{ms:Mi (List Rr)}(h:ms Z=some (.ok rs,U))(c:vT cn f I rs U=some (.ok r,Z')):n0 cn f I ms Z=some (.ok r,Z'):=bk h c
theorem jF{mn:Str}(h:m Z=some (.ok x,U))(c:K3 cn mn x U=some (.ok r,Z')):bP cn mn m Z=some (.ok r,Z'):=bk h c
theorem aG{b:Bool}(h:m Z=some (.ok (.fr (.bl b)),U)):aj m Z=some (.ok b,U):=bk h rfl
theorem hV{b:Bool}(h:t Z=some (.ok b,U)):fS t Z=some (.ok (!b),U):=bk h rfl
theorem H9(h:t Z=some (.ok true,U)):j7 t u Z=some (.ok true,U):=bk h rfl
theorem dM{b:Bool}(h:t Z=some (.ok false,U))(k:u U=some (.ok b,Z')):j7 t u Z=some (.ok b,Z'):=bk h k
theorem qo(h:t Z=some (.ok false,U)):iK t u Z=some (.ok false,U):=bk h rfl
theorem jO{b:Bool}(h:t Z=some (.ok true,U))(k:u U=some (.ok b,Z')):iK t u Z=some (.ok b,Z'):=bk h k
theorem lu(h:m Z=none)(k:n Z=some (.ok r,U)):aP m n Z=some (.ok r,U):=by unfold aP;rw[h];exact k
theorem bQ(h:m Z=some (.ok r,U)):aP m n Z=some (.ok r,U):=by unfold aP;rw[h]
theorem Ar(h:m Z=some (.ok r,U))(k:CO i r U=some (.nx,Z')):aE i m Z=some (.nx,Z'):=sk h k
theorem aV{f:Fl}(h:m Z=some (.ok r,U))(k:O8 r U=some (f,Z')):bZ m Z=some (f,Z'):=sk h k
theorem d9(h:m Z=some (.ok r,U)):c9 m Z=some (.nx,U):=sk h rfl
theorem Nf{a:Sl}(h:xW r Z=some (a,U))(k:U[i]?=some s)(hn:np s=true):CO i r Z=some (.nx,U.set i a):=by unfold CO;rw[h];dsimp only;rw[F7,k];dsimp only;rw[Za hn]
end
end M
namespace W
open PySem L2
noncomputable def Bz(o:Obj):Bool:=match o.data with
 | .freed=>false
 |_=>true
def oe:List Nat->List Obj->QJ->QJ
 |a::as,o::os,K=>oe as os (match Bz o with|true=>(a,o)::K|false=>K)
 |_,_,K=>K
def iu(h:Heap):QJ:=match h.get? XJ with
 |some o=>(XJ,o)::oe (Q8 h.objs.size) h.objs.toList []
 |none=>[]
theorem om{o:Obj}{a:Addr}:∀{K:QJ},K.lookup a=some o->(a,o)∈K
 |(b,u)::K,e=>by
  simp only[Q2] at e;split at e
  .rename_i q;cases e;rw[Zf.mp q];exact Q0
  .exact QP _ (om e)
theorem rS{h:Heap}:∀{as:List Nat}{os:List Obj}{K:QJ},(∀(i a:Nat)(o:Obj),as[i]?=some a->os[i]?=some o->h.objs[a]?=some o)->(∀(a:Nat)(o:Obj),(a,o)∈K->h.get? a=some o)->∀a o,(a,o)∈oe as os K->h.get? a=some o
 |[],_,K,_,k=>by delta oe;exact k
 |_::_,[],K,_,k=>by delta oe;exact k
 |a::as,o::os,K,e,k=>by
  unfold oe;refine rS (λi b u h1 h2=>e (i+1) b u h1 h2) ?_;cases c:Bz o with
  |false=>exact k
  |true=>
   intro b u m;rcases QW.mp m with m|m
   .cases m
    delta Heap.get?
    rw[e 0 a o rfl rfl];obtain⟨V,H,Y,p⟩:=o;cases Y<;>first|rfl|cases c
   .exact k b u m
theorem mq(h:Heap):(iu h).In h:=λa o e=>by
 have m:=om e;unfold iu at m;split at m
 .rename_i o' C;rcases QW.mp m with m|m
  .cases m;exact C
  .refine rS (λi b u h1 h2=>?_) (λ_ _ q=>by cases q) a o m;have hi:=(QL.mp h1).1 |> λq=>by rwa[TN] at q
   rw[SE hi] at h1;cases h1;rw[<-VA];exact h2
 .cases m
noncomputable def Na(K:QJ)(n:Str):Option (Str×Str×Arguments×YV×Scope×Addr×List (Str×Addr)×Value×Addr×Bool):=
 match Vi K XJ n with
 | some (some (.ref f))=>(match K.lookup f with
  |some ⟨_,_,.func d,_⟩=>some (d.name,d.qualname,d.params,d.body,d.scope,d.globals,d.closure,d.defaults,d.builtins,Uk K d.code n&&Se K (.ref f))
  | _=>none)
 |_=>none
def Np(n:Str)(st:Stmt):Option (Str×Str×Arguments×YV×Scope×Addr×List (Str×Addr)×Value×Addr×Bool):=some (n,n,d5 st,.stmts (fI st),bC st,XJ,[],.none,Yy,true)
noncomputable def O4(K:QJ)(a:Addr)(i j:Int):Bool:=match K.lookup a with
 | some ⟨.type "tuple",none,.seq its _,_⟩=>(match its.toList with
  |[.int x _,.int y _]=>x==i&&y==j
  | _=>false)
 |_=>false
def Kv(ds:List (Str×Stmt))(Y:QJ->Bool)(K:QJ):=(ds.map λx=>Na K x.1,Y K)
def Ky(ds:List (Str×Stmt)):List (Option (Str×Str×Arguments×YV×Scope×Addr×List (Str×Addr)×Value×Addr×Bool))×Bool:=(ds.map λx=>Np x.1 x.2,true)
def hk(ds:List (Str×Stmt))(Y:QJ->Bool):Wx where
 α:=List (Option (Str×Str×Arguments×YV×Scope×Addr×List (Str×Addr)×Value×Addr×Bool))×Bool
 obs:=λs=>Kv ds Y (iu s.heap)
 val:=λ_=>Ky ds
 says:=λ_ h=>∃K:QJ,Kv ds Y K=Ky ds/\K.In h
 of:=λ_ s e=>⟨iu s.heap,e,mq _⟩
 keeps:=λ_ _ _ ⟨K,e,i⟩ k=>⟨K,e,i.keeps k⟩
noncomputable def KJ(p:Program):List Stmt:=p.main.body.filter λs=>match s with | .FunctionDef n ..=>n==("law" : Str)|_=>false
noncomputable def KO:Stmt->List Str
 | .FunctionDef n ..=>[n]
 | .ClassDef n ..=>[n]
 | .Assign [.Name n _] _ _=>[n]
 |_=>[]
def LG(p:Program):Program:={ p with main:={ p.main with body:=KJ p } }
def uV(p:Program):List Str:=(p.main.body.flatMap KO).filter λn=>n != ("law" : Str)
open PySem PySem.W PyProof.Rows
noncomputable abbrev EX:=Xf
noncomputable abbrev uw:=Xg
noncomputable abbrev LD:=Xh
noncomputable abbrev yi:=Xi
noncomputable abbrev FP:=Xj
noncomputable abbrev Ft:=Xk
noncomputable abbrev yo:=Xl
theorem B7:denote=EX:=Xm
theorem nR:Yx=uw:=Xn
theorem Cq:stepOk=LD:=Xo
theorem xl:stepT=yi:=Xp
theorem zZ:importEnds=FP:=Xq
theorem AX:fenceModules?=Ft:=Xr
theorem xm:openSeen=yo:=Xs
def yd(p:Program)(w:XM)(Z:Nat)(H:Option Value):Nat->Y2->Thread->Option Y2
 |0,_,_=>none
 |m+1,s,t=>match through t with
  |true=>some s
  |false=>match LD Z H t with
   |false=>none
   |true=>match yi (EX uw) p w s t with
    |some (s',t')=>yd p w Z H m s' t'
    |none=>none
theorem u7{p:Program}{w:XM}{Z:Nat}{H:Option Value}:∀{m:Nat}{s s2:Y2}{t:Thread},yd p w Z H m s t=some s2->topRun Yx p w Z H m s.abs t=some s2.abs
 |0,_,_,_,e=>by cases e
 |m+1,s,s2,t,e=>by
  unfold yd at e;simp only[<-Cq,<-xl,<-B7,<-nR] at e;unfold topRun;cases L:through t with
  |true=>rw[L] at e;cases e;rfl
  |false=>
   simp only[L] at e;cases a:stepOk Z H t with
   |false=>rw[a] at e;cases e
   |true=>
    simp only[a] at e;cases es:stepT (denote Yx) p w s t with
    |none=>rw[es] at e;cases e
    |some q=>rw[es] at e;simp only[stepT_spec es];exact u7 e
noncomputable def Kt:List Obj->Nat->BT->Option BT
 |[],_,t=>some t
 |o::os,n,t=>match ((t.ins n o).get n).isSome with
  |true=>Kt os (n+1) (t.ins n o)
  |false=>none
theorem yr(l:Life):∀{os:List Obj}{n:Nat}{t t':BT},Kt os n t=some t'->absHeap t' (n+os.length) l=⟨(absHeap t n l).objs++os.toArray,l⟩
 |[],n,t,t',e=>by cases e;rfl
 |o::os,n,t,t',e=>by
  unfold Kt at e;cases C:((t.ins n o).get n).isSome with
  |false=>rw[C] at e;cases e
  |true=>
   rw[C] at e;have i:=yr l e;rw[absHeap_ins C] at i;have e2:n+1+os.length=n+(o::os).length:=by simp only[QX];lia
   simp only[<-e2,i];show Heap.mk (((absHeap t n l).objs.push o)++os.toArray) l=_;simp
theorem yk{h:Heap}{t:BT}(e:Kt h.objs.toList 0 .nil=some t):absHeap t h.objs.size h.life=h:=by have i:=yr h.life e;simp only[Uo,Tp] at i;rw[i];obtain⟨objs,l⟩:=h;show Heap.mk (#[]++objs.toList.toArray) l=_;simp
def Ih(p:Program)(w:XM)(N:Nat)(s₀:Shared):Option Shared:=match s₀.heap.isNs XJ&&s₀.gens.size==0 with
 |true=>match Kt s₀.heap.objs.toList 0 .nil with
  |some t=>(yd p w s₀.heap.objs.size (s₀.heap.nsMap XJ "__annotations__") N ⟨t,s₀.heap.objs.size,s₀.heap.life,s₀.gens,s₀.drawn,s₀.toks,s₀.os⟩ (topStub p)).bind λq=>match staticsOk (importedModules p.main.body) s₀.heap q.abs.heap&&namesBound p q.abs.heap&&gensDone q.abs&&laidKept s₀.heap q.abs.heap with
   |true=>some q.abs
   |false=>none
  |none=>none
 |false=>none
variable{p:Program}{w:XM}{N:Nat}{s:Shared}
theorem CN{s₀:Shared}(e:Ih p w N s₀=some s):topFrom Yx p w N s₀=some s:=by
 delta Ih at e
 delta topFrom
 cases e1:s₀.heap.isNs XJ&&s₀.gens.size==0 with
 |false=>rw[e1] at e;cases e
 |true=>
  rw[e1] at e;cases e2:Kt s₀.heap.objs.toList 0 .nil with
  |none=>rw[e2] at e;cases e
  |some t=>
   rw[e2] at e;simp only at e;cases D:yd p w s₀.heap.objs.size (s₀.heap.nsMap XJ "__annotations__") N ⟨t,s₀.heap.objs.size,s₀.heap.life,s₀.gens,s₀.drawn,s₀.toks,s₀.os⟩ (topStub p) with
   |none=>rw[D] at e;cases e
   |some q=>
    rw[D] at e;have k:=u7 D;have Y:WC ⟨t,s₀.heap.objs.size,s₀.heap.life,s₀.gens,s₀.drawn,s₀.toks,s₀.os⟩=s₀:=by
     delta WC
     rw[yk e2]
    rw[Y] at k;rw[k];exact e
def vC(p:Program)(w:XM)(N:Nat):Option Shared:=((FP uw (opening p) w N (start (opening p)).1 (start (opening p)).2).bind (Ft p)).bind (Ih p w N)
theorem Bf(e:vC p w N=some s):openEnds Yx p w N=some s:=by
 delta vC at e
 delta openEnds fencedOpening
 simp only[<-zZ,<-nR,<-AX] at e
 cases e1:(importEnds Yx (opening p) w N (start (opening p)).1 (start (opening p)).2).bind (fenceModules? p) with
 |none=>rw[e1] at e;cases e
 |some r=>rw[e1] at e;exact CN e
theorem yj{q:Program}{loose:List Str}{Xt:Shared->Bool}{α:Type}{Yf:Shared->α}{Ya:XM->α}
  (h:∀w,Option.map (λs=>(yo q loose (importedModules p.main.body) Xt true s,Yf s)) (vC p w N)=some (openGood q loose,Ya w)):LeftO p q loose Xt Yf Ya N:=λw=>by
 have h:=h w;rw[<-xm] at h;cases e:vC p w N with
 |none=>rw[e] at h;cases h
 |some s=>rw[e] at h;rw[Bf e];exact h
end W
namespace L2
open PySem PySem.Spec PyProof.Rows
section
variable{P:Program}{w:XM}{K:QJ}{mg:Str->Option Value}{base:Heap}{dV:Value}
theorem pz.Qd{CX:qA}{x qual:Str}{st:Stmt}{f:Addr}{fd:XQ}{N ps:List Str}{k:Nat}{sp:Sp}(F:pz K x qual st f fd dV)(S:jA N ps (bC st))(len:∀vs H Q E,sp vs H Q E->vs.length=ps.length)
  (X:∀(cdv:Value)(A:XN)(outer:List Env)(s:Shared)(H:Hp)(vs:List V)(Q:VK)(E:XK),dd k (A.deeper (YJ qual (bC st) s.heap.objs.size f cdv))->sp vs H Q E->
   ∃t,rj (um CX P w K mg base N qual (bC st) f cdv A outer s H E) (fI st) t/\t { nx:=λ_ H'=>Q .non H',rt:=Q } (start N vs) H):dP P w K mg base CX (k+1) f fd ps sp:=by
 obtain⟨oc,od,kV,doc,pm,an,cdv,ct,osl,rfl,d,e⟩:=F.ex;exact My d e S len λA outer s H vs Q E a Y=>X cdv A outer s H vs Q E a Y
end
end L2
namespace M
open PySem L2
section
variable{X:Cx}{E:XK}
theorem Ec{CX:qA}{P:Program}{w:XM}{K:QJ}{mg:Str->Option Value}{base:Heap}{dV:Value}{x qual:Str}{st:Stmt}{f:Addr}{fd:XQ}{N ps:List Str}{k:Nat}{m:Ms}(F:pz K x qual st f fd dV)(S:jA N ps (bC st))
  (d:∀(cdv:Value)(A:XN)(outer:List Env)(s:Shared)(H:Hp)(E:XK),dd k (A.deeper (Xu qual (bC st) s.heap.objs.size f cdv))->
   qM (um CX P w K mg base N qual (bC st) f cdv A outer s H E) E (fI st) m):dP P w K mg base CX (k+1) f fd ps (iY ⟨K,mg,P,w⟩ ps.length (cG (N.length-ps.length) m)):=
 F.Qd S (λvs H Q E h=>h.1) λcdv A outer s H vs Q E a h=>by
  obtain⟨hn,c,Z,f,O,u,l,e1,b,em,q⟩:=h;refine⟨_,(d cdv A outer s H E a).p,?_⟩;have bs:=b.start N l;rw[hn] at bs
  delta cG at em
  cases e:m (Z++QZ (N.length-ps.length) .un) with
  |none=>rw[e] at em;cases em
  |some p=>
   obtain⟨t,U⟩:=p;rw[e] at em;refine⟨c,_,[],[],t,U,u,bs,e,?_⟩;have bk:∀{j:St}{H':Hp}{J:St}{T:List Sl},Bd c j H' U J T->Bd c (vs.map some) H' (aA vs.length U) J T:=λI=>by have:=I.back;rw[l,QU] at this;exact this
   cases t with
   |nx=>cases em;exact λj H' I=>q .non H' (λo z=>by cases z) ((bk I).push λ_=>.non)
   |rt s=>cases em;exact λv j H' hs I=>q v H' hs (bk I)
   |ex x=>cases em;exact λC j H' hm I=>q C H' hm (bk I)
   |bk=>cases em
   |ct=>cases em
noncomputable def Ce:qA:=λ_ _ _ _ _ _=>False
noncomputable def qJ:Ms:=λ_=>none
theorem DS{s:Stmt}:JS X E s qJ:=⟨λpins s Y H D I h=>by obtain⟨c,Z,B,θ,f,O,u,b,em,q⟩:=h;cases em⟩
end
end M
namespace W
open PySem L2
theorem xo{CX:qA}{l:V5}{n k:Nat}{q:Program}{loose:List Str}{XP:(Str->Option Value)->Heap->Prop}{YP:XM->Heap->Prop}{d:DefRec}{x:Str}{sp:QJ->Sp}
  (hn:l.most=some n)(B:n<=sizeLine)(y:d.params.defaults=[])(S:dd k YG)
  (F:∀(w:XM)(mg:Str->Option Value)(X:Addr)(h:Heap),YP w h->h.Ns XJ mg->mg d.name=some (.ref X)->
   ∃K:QJ,K.In h/\∃fd:XQ,(∀(s:Shared)(u:Value),YC s fd ⟨[u],[]⟩ [(x,u)])/\∀base:Heap,K.In base->base.Ns XJ mg->dP l.prog w K mg base CX k X fd [x] (sp K))
  (hx:∀l H s e s',CX l H s (λ_ _ _=>False) e s'->False) (D:∀(K:QJ)(H:Hp)(a:Addr)(ns:List Int),ns.length<=n->HP H->dR K H a (ns.map V.int)->sp K [.ref a] H (λv _=>v=.bl true) λ_ _ _=>False):
  Wh q loose XP YP l.row.toRowW d [] (λf vs=>VV f vs):=by
 refine Att.rE hn y λw s₀ Z mg mb X o pm cd doc a vs ns G Y ho hd i E p c A J=>?_;obtain⟨K,N,fd,Q,O⟩:=F w mg X _ Y G.T.g E;exact yZ N G.T.g G.T.b G.T.builtins G.T.nolimit J p c (Rn A B) S O Q (λH r R=>D K H a ns A r R) λH e s' z=>hx _ _ _ _ _ z
end W
namespace M
open PySem L2
structure FI where
 n:Nat
 m:Ms
 mu:List Bool
 df:List A
 hf:Bool
structure Tb where
 fns:List (Str×FI)
 cst:List (Str×A)
 exs:List Str
 kit:List (Str×List (Str×Bool))
 exm:List (Str×List Str)
 fld:List (Str×List Str)
 fO:List (Str×FI)
 mts:List (Str×Str×FI)
structure Sc where
 N:List Str
 nm:List (Str×NameKind)
 di:List Str
 ca:List Str
 hd:Bool
 lv:List Str
 tp:Bool:=false
noncomputable def Pa(s:Sc):Sc:={ s with tp:=false }
noncomputable def af{α D:Type}(x:Option α)(f:α->Option D):Option D:=match x with
 |some a=>f a
 |none=>none
noncomputable def dg{α:Type}(b:Bool)(x:Option α):Option α:=match b with
 |true=>x
 |false=>none
variable{α:Type}
theorem ab{D:Type}{x:Option α}{f:α->Option D}{y:D}(h:af x f=some y):∃a,x=some a/\f a=some y:=by
 cases x with
 |none=>cases h
 |some a=>exact⟨a,rfl,h⟩
theorem ai{b:Bool}{x:Option α}{y:α}(h:dg b x=some y):b=true/\x=some y:=by
 cases b with
 |false=>cases h
 |true=>exact⟨rfl,h⟩
def qy(s:Sc)(x:Str)(k:NameKind):Bool:=s.nm.lookup x==some k
def DF(s:Sc)(x:Str):Bool:=qy s x .local || qy s x .cell || qy s x .free
def tD(s:Sc)(x:Str):Bool:=qy s x .local || qy s x .cell
noncomputable def okN(x:Str):Bool:=!(x==("__debug__" : Str))&&!(x==("__classdict__" : Str))
def nJ(s:Sc)(x:Str):Bool:=qy s x .globalImplicit&&okN x
def gF(x:Str):List Str->Nat->Option Nat
 |[],_=>none
 |y::ys,i=>if x==y then some i else gF x ys (i+1)
theorem mG{x:Str}:∀{N:List Str}{k i:Nat},gF x N k=some i->∃j,i=k+j/\N[j]?=some x
 |[],_,_,h=>by cases h
 |y::ys,k,i,h=>by
  unfold gF at h;split at h
  .rename_i e;cases h;exact⟨0,rfl,by rw[Zf.mp e];rfl⟩
  .obtain⟨j,e1,e2⟩:=mG h;exact⟨j+1,by lia,by simpa using e2⟩
def slot(s:Sc)(x:Str):Option Nat:=dg (DF s x&&okN x) (gF x s.N 0)
def iM(s:Sc)(x:Str):Option Nat:=dg (tD s x&&okN x) (gF x s.N 0)
noncomputable def CP:List Str:=["len", "isinstance", "abs", "max", "min", "int", "bool", "str", "tuple", "list", "dict", "range", "ValueError", "sorted", "all", "zip", "set", "sum", "enumerate", "any", "reversed"]
def m6(P:Program)(w:XM)(K:QJ)(mg:Str->Option Value)(fd:XQ)(ps:List Str)(df:List A):Prop:=∀j,j<=df.length->∃ds dvs,Binds K fd ps ds/\Vals dvs ds/\∀G,bX ⟨K,mg,P,w⟩ G dvs (df.drop j)
noncomputable def nA(fi:FI)(n:Nat):List A:=fi.df.drop (fi.df.length-(fi.n-n))
variable{w:XM}{K:QJ}{mg:Str->Option Value}{fd:XQ}{ps:List Str}
theorem m6.of{P:Program}{fi:FI}(h:m6 P w K mg fd ps fi.df)(n:Nat):∃ds dvs,Binds K fd ps ds/\Vals dvs ds/\∀G,bX ⟨K,mg,P,w⟩ G dvs (nA fi n):=h _ (Nat.sub_le _ _)
noncomputable def fA(tb:Tb)(f:Str):List Str:=(tb.fld.filter λp=>p.2.contains f).map (·.1)
noncomputable def Fq(tb:Tb)(m:Str):List (Str×FI):=tb.mts.filterMap λp=>if p.1==m then some p.2 else none
structure Gd(tb:Tb)(k:Nat)(P:Program)(w:XM)(K:QJ)(mg:Str->Option Value)(base:Heap):Prop where
 fn:∀x f,tb.fns.lookup x=some f->∃a fd ps,dP P w K mg base Ce k a fd ps (iY ⟨K,mg,P,w⟩ f.n f.m)/\mg x=some (.ref a)/\Se K (.ref a)=true/\m6 P w K mg fd ps f.df
 cs:∀x a,tb.cst.lookup x=some a->∃v u,mg x=some u/\RelV v u/\∀G,RA ⟨K,mg,P,w⟩ G v a
 bl:∀x∈CP,mg x=none
 fl:∀f c C,(fA tb f).contains c=true->mg c=some (.ref C)->hW K C/\cj K C f
 im:∀c f,tb.fO.lookup c=some f->∃C a fd ps j,j+1<=k/\dP P w K mg base Ce j a fd ps (iY ⟨K,mg,P,w⟩ f.n f.m)/\mg c=some (.ref C)/\Mk K C a/\m6 P w K mg fd ps f.df
 mt:∀m c f,(m,c,f)∈tb.mts->∃C a fd ps,dP P w K mg base Ce k a fd ps (iY ⟨K,mg,P,w⟩ f.n f.m)/\mg c=some (.ref C)/\hW K C/\Meth K C m a/\m6 P w K mg fd ps f.df
structure Sit(tb:Tb)(k:Nat)(X:Cx)(E:XK)(s:Sc):Prop where
 n:X.N=s.N
 nd:s.N.Nodup
 gl:∀x,s.nm.lookup x=some .globalImplicit->Gl X x
 vs:∀x,DF s x=true->j9 X.env.scope x
 lo:∀x,tD s x=true->Loc X.env.scope x
 lc:∀x,s.nm.lookup x=some .local->X.env.scope.names.lookup x=some .local
 ce:∀x,(s.nm.lookup x=some .cell->X.env.scope.names.lookup x=some .cell)/\(s.nm.lookup x=some .free->X.env.scope.names.lookup x=some .cell\/X.env.scope.names.lookup x=some .free)
 fx:∀x,tD s x=true->X.fn x=true\/X.env.scope.names.lookup x=some .local
 cm:s.hd=false->X.calm=true
 rm:s.hd=false->dd k X.A
 ps:s.hd=false->Passes Ce X E
 gd:Gd tb k X.prog X.w X.K X.mg X.base
variable{i:Nat}
section
variable{tb:Tb}{k:Nat}{X:Cx}{E:XK}{s:Sc}
theorem qr{x:Str}(h:okN x=true):fM x/\lG x:=by unfold okN at h;simp only[QI] at h;exact⟨by simpa using h.1,by simpa using h.2⟩
theorem Sit.slot(S:Sit tb k X E s){x:Str}(h:M.slot s x=some i):X.N[i]?=some x/\j9 X.env.scope x/\fM x/\lG x:=by
 obtain⟨h1,h2⟩:=ai h;simp only[QI] at h1;obtain⟨j,e1,e2⟩:=mG h2;obtain rfl:i=j:=by lia
 exact⟨by rw[S.n];exact e2,S.vs x h1.1,(qr h1.2).1,(qr h1.2).2⟩
theorem Sit.iM(S:Sit tb k X E s){x:Str}(h:M.iM s x=some i):X.N[i]?=some x/\Loc X.env.scope x/\fM x/\(X.fn x=true\/X.env.scope.names.lookup x=some .local):=by
 obtain⟨h1,h2⟩:=ai h;simp only[QI] at h1;obtain⟨j,e1,e2⟩:=mG h2;obtain rfl:i=j:=by lia
 exact⟨by rw[S.n];exact e2,S.lo x h1.1,(qr h1.2).1,S.fx x h1.1⟩
theorem Sit.glob(S:Sit tb k X E s){x:Str}(h:nJ s x=true):Gl X x/\fM x:=by unfold nJ qy at h;rw[QI,Zf] at h;exact⟨S.gl x h.1,(qr h.2).1⟩
end
noncomputable def notStar:Expr->Bool
 | .Starred _ _=>false
 |_=>true
variable{e:Expr}
theorem ax(h:notStar e=true)(es:List Expr)(env:Env):XB (e::es) env=(false,eval e env)::XB es env:=by cases e<;>first|rfl|cases h
theorem dF{env:Env}{pos:Pos}:∀{es:List Expr},es.all notStar=true->(XI pos (XB es env)).any (·.1)=false
 |[],_=>rfl
 |e::es,h=>by simp only[Rg,QI] at h;rw[ax h.1];show (false || (XI pos (XB es env)).any (·.1))=false;rw[dF h.2];rfl
noncomputable def jJ:Expr->Bool
 | .ListComp _ _ _ _=>false
 | .SetComp _ _ _ _=>false
 | .DictComp _ _ _ _ _=>false
 |_=>true
theorem j8(h:jJ e=true)(t:Option Expr)(l:Nat)(env:Env):XX e t l env=pure false:=by cases e<;>first|rfl|cases h
noncomputable def kz:Expr->Bool
 | .Set _ _ _=>false
 |_=>true
theorem lU(h:kz e=true)(env:Env)(x:Value):XU e env x=pure x:=by cases e<;>first|rfl|cases h
noncomputable def plainT:Expr->Bool
 | .UnaryOp _ _ _=>false
 | .BoolOp _ _ _=>false
 | .IfExp _ _ _ _=>false
 | .Compare _ _ _ _=>false
 |_=>true
theorem tF(h:plainT e=true)(env:Env):∀z,YW e env z=(do let v <- z;Ym e.pos;holding [v] (truthy v)):=by intro z;cases e<;>first|rfl|cases h
noncomputable def jW:Expr->Bool
 | .Slice _ _ _ _=>false
 |_=>true
theorem tj(h:jW e=true):jG e:=by intro o i;cases e<;>first|rfl|cases h
variable{op:Yj}
theorem j0(h:kz e=true):XR op e=false:=by cases e<;>first|rfl|cases h
theorem uE{env:Env}:∀es:List Expr,(XT es env).length=es.length
 |[]=>rfl
 |e::es=>by cases e<;>(show (_::XT es env).length=_;simp only[QX,QX,uE es])
theorem qZ{env:Env}:∀es:List Expr,es.all notStar=true->(XT es env).findIdx? (·.1)=none
 |[],_=>rfl
 |e::es,h=>by
  simp only[Rg,QI] at h;have m:=qZ (env:=env) es h.2;have e1:XT (e::es) env=(false,assign e env)::XT es env:=by cases e<;>first|rfl|cases h.1
  simp only[e1,List.findIdx?_cons];simp[m]
variable{env:Env}
theorem zk{es:List Expr}(h:notStar e=true):(XT (e::es) env).map (·.2)=assign e env::(XT es env).map (·.2):=by cases e<;>first|rfl|cases h
variable{q:Mi Rr}{pos p:Pos}{f:Str}
section
variable{tb:Tb}{k:Nat}{X:Cx}{E:XK}{s:Sc}
def yf(F:Expr->Option (Mi Rr)):List Expr->Option (Mi (List Rr))
 |[]=>some kS
 |e::es=>dg (notStar e) (af (F e) λm=>af (yf F es) λn=>some (dt m n))
def Ey(F G:Expr->Option (Mi Rr)):List Expr->List Bool->Option (Mi (List Rr))
 |[],_=>some kS
 |e::es,b::bs=>dg (notStar e) (af (match b with|true=>F e|false=>G e) λm=>af (Ey F G es bs) λn=>some (dt m n))
 |_::_,[]=>none
def NL(m:Mi (List Rr))(n:Nat):Prop:=∀Z rs O,m Z=some (.ok rs,O)->rs.length=n
theorem lj{F:Expr->Option (Mi Rr)}(h:∀e m,F e=some m->JE X E e m):∀{es:List Expr}{m:Mi (List Rr)},yf F es=some m->JA X E es m/\NL m es.length/\es.all notStar=true
 |[],m,e=>by cases e;exact⟨Bs,AQ,rfl⟩
 |a::es,m,e=>by obtain⟨h1,e⟩:=ai e;obtain⟨K,e1,e⟩:=ab e;obtain⟨L,e2,e⟩:=ab e;cases e;obtain⟨s,I,c⟩:=lj h e2;exact⟨uR (h _ _ e1) s (ax h1 _ _),vk I,by simp only[Rg,h1,c];rfl⟩
theorem lh{F G:Expr->Option (Mi Rr)}(h:∀e m,F e=some m->JE X E e m)(g:∀e m,G e=some m->JE X E e m):∀{es:List Expr}{bs:List Bool}{m:Mi (List Rr)},Ey F G es bs=some m->JA X E es m/\NL m es.length/\es.all notStar=true
 |[],_,m,e=>by cases e;exact⟨Bs,AQ,rfl⟩
 |_::_,[],m,e=>by cases e
 |a::es,b::bs,m,e=>by
  obtain⟨h1,e⟩:=ai e;obtain⟨K,e1,e⟩:=ab e;obtain⟨L,e2,e⟩:=ab e;cases e;obtain⟨s,I,c⟩:=lh h g e2;refine⟨uR ?_ s (ax h1 _ _),vk I,by simp only[Rg,h1,c];rfl⟩;cases b
  .exact g _ _ e1
  .exact h _ _ e1
def O9(op:BoolOp)(F:Expr->Option (Mi Rr)):List Expr->Option (Mi Rr)
 |[]=>none
 |[a]=>F a
 |a::b::r=>af (F a) λm=>af (O9 op F (b::r)) λn=>(match op with | .And=>some (lN m n) | .Or=>none)
theorem A7{op:BoolOp}{F:Expr->Option (Mi Rr)}{pos:Pos}(h:∀e m,F e=some m->JE X E e m):∀{es:List Expr}{m:Mi Rr},O9 op F es=some m->JE X E (.BoolOp op es pos) m
 |[],m,e=>by cases e
 |[a],m,e=>HD (h _ _ e)
 |a::b::r,m,e=>by
  obtain⟨K,e1,e⟩:=ab e;obtain⟨L,e2,e⟩:=ab e;have i:=A7 (pos:=pos) h e2;cases op
  .cases e;exact JD (h _ _ e1) i
  .cases e
def OH(op:BoolOp)(F:Expr->Option (Mi Bool)):List Expr->Option (Mi Bool)
 |[]=>none
 |[a]=>F a
 |a::b::r=>af (F a) λm=>af (OH op F (b::r)) λn=>some (match op with | .And=>iK m n | .Or=>j7 m n)
theorem zc{op:BoolOp}{F:Expr->Option (Mi Bool)}{pos:Pos}(h:∀e m,F e=some m->JT X E e m):∀{es:List Expr}{m:Mi Bool},OH op F es=some m->JW X E (.BoolOp op es pos) m
 |[],m,e=>by cases e
 |[a],m,e=>by cases op;exact ED (h _ _ e);exact G9 (h _ _ e)
 |a::b::r,m,e=>by
  obtain⟨K,e1,e⟩:=ab e;obtain⟨L,e2,e⟩:=ab e;have i:=zc (pos:=pos) h e2;cases op
  .cases e;exact IB (h _ _ e1) i
  .cases e;exact Nh (h _ _ e1) i
def Po(s:Sc)(op:Yj)(a b:Expr)(m n:Mi Rr):Option (Mi Rr):=match op with
 | .Eq=>dg (!s.hd) (some (ay gw m n))
 | .NotEq=>dg (!s.hd) (some (ay iX m n))
 | .Lt=>some (ay k9 m n)
 | .LtE=>none
 | .Gt=>some (ay sd m n)
 | .GtE=>some (ay E6 m n)
 | .Is=>some (ay (qx false) m n)
 | .IsNot=>some (ay (qx true) m n)
 | .In=>dg (!s.hd&&kz b) (some (ay (xK false) m n))
 | .NotIn=>dg (!s.hd&&kz b) (some (ay (xK true) m n))
theorem HY(S:Sit tb k X E s){a b:Expr}{m n:Mi Rr}(h:Po s op a b m n=some q)(f:JE X E a m)(d:JE X E b n):JE X E (.Compare a [op] [b] pos) q/\JT X E (.Compare a [op] [b] pos) (aj q):=by
 cases op
 case Eq=>obtain⟨h1,h⟩:=ai h;have g:=(S.rm (by simpa using h1)).units;cases h;exact⟨KH g f d,L8 g f d⟩
 case NotEq=>obtain⟨h1,h⟩:=ai h;have g:=(S.rm (by simpa using h1)).units;cases h;exact⟨KW g f d,MO g f d⟩
 case Lt=>cases h;exact⟨KA f d,K6 f d⟩
 case LtE=>cases h
 case Gt=>cases h;exact⟨Nd f d,MM f d⟩
 case GtE=>cases h;exact⟨L6 f d,M5 f d⟩
 case Is=>cases h;exact⟨Nm f d,Mt f d⟩
 case IsNot=>cases h;exact⟨ES f d,DE f d⟩
 case In=>obtain⟨h1,h⟩:=ai h;rw[QI] at h1;cases h;exact⟨gp kA pF f d (j0 h1.2),gD kA pF f d (j0 h1.2)⟩
 case NotIn=>obtain⟨h1,h⟩:=ai h;rw[QI] at h1;cases h;exact⟨gp jN pF f d (j0 h1.2),gD jN pF f d (j0 h1.2)⟩
def Ow(f:Str):Option (A->Option Rr):=
 if f==("len" : Str) then some dy else if f==("abs" : Str) then some AW else if f==("int" : Str) then some nj else if f==("tuple" : Str) then some mK else
 if f==("list" : Str) then some da else if f==("any" : Str) then some (kP λbs=>bs.any id) else none
theorem bI(S:Sit tb k X E s){x:Str}(h:CP.contains x=true):X.mg x=none:=S.gd.bl x (SJ.mp h)
theorem Hs(S:Sit tb k X E s){g:A->Option Rr}{a:Expr}{m:Mi Rr}(h:Ow f=some g)(J:nJ s f=true)(N:s.hd=false)(hs:notStar a=true)(V:JE X E a m):JE X E (.Call (.Name f p) [a] [] pos) (cE g m):=by
 obtain⟨o,n⟩:=S.glob J;have hc:=S.cm N;have h1:=ax hs [] X.env;have h2:(XI pos (XB [] X.env)).any (·.1)=false:=rfl;unfold Ow at h;split at h
 .rename_i z;rw[Zf] at z;subst z;cases h;exact og B3 JN o (bI S Z3) Br V Z3 n h1 h2
 split at h
 .rename_i z;rw[Zf] at z;subst z;cases h;exact og zS Jg o (bI S Z3) GD V Z3 n h1 h2
 split at h
 .rename_i z;rw[Zf] at z;subst z;cases h;exact z9 wH J9 o (bI S Z3) yu V Z3 n h1 h2
 split at h
 .rename_i z;rw[Zf] at z;subst z;cases h;exact z9 nI yF o (bI S Z3) rD V Z3 n h1 h2
 split at h
 .rename_i z;rw[Zf] at z;subst z;cases h;exact z9 pH CQ o (bI S Z3) lE V Z3 n h1 h2
 split at h
 .rename_i z;rw[Zf] at z;subst z;cases h;exact og (Bl hc) GP o (bI S Z3) Ae V Z3 n h1 h2
 .cases h
def NZ(f:Str):Option (A->A->Option Rr):=if f==("max" : Str) then some Li else if f==("min" : Str) then some wm else none
theorem Aa(S:Sit tb k X E s){g:A->A->Option Rr}{a b:Expr}{m n:Mi Rr}(h:NZ f=some g)(J:nJ s f=true)(N:s.hd=false)(hs:notStar a=true)(w:notStar b=true)(V:JE X E a m)(d:JE X E b n):JE X E (.Call (.Name f p) [a,b] [] pos) (F9 g m n):=by
 obtain⟨o,e⟩:=S.glob J;have hc:=S.cm N;have h1:=ax hs [b] X.env;have h3:=ax w [] X.env;have h2:(XI pos (XB [b] X.env)).any (·.1)=false:=dF (by simp only[Rg,w];rfl);unfold NZ at h;split at h
 .rename_i z;rw[Zf] at z;subst z;cases h;exact Fh (xC hc) HZ o (bI S Z3) BZ V d Z3 e h1 h3 h2
 split at h
 .rename_i z;rw[Zf] at z;subst z;cases h;exact Fh (wY hc) GU o (bI S Z3) yn V d Z3 e h1 h3 h2
 .cases h
noncomputable def Pl(x:Str):Option Ty:=if x==("int" : Str) then some .int else if x==("bool" : Str) then some .bool else if x==("str" : Str) then some .str else if x==("tuple" : Str) then some .tuple else if x==("list" : Str) then some .list else if x==("dict" : Str) then some .dict else none
theorem IH{x:Str}{T:Ty}(h:Pl x=some T):XD x=some (.type T.n)/\CP.contains x=true/\x ≠ "__name__" := by
 unfold Pl at h;split at h
 .rename_i z;rw[Zf] at z;subst z;cases h;exact⟨yu,by decide +kernel,by decide +kernel⟩
 split at h
 .rename_i z;rw[Zf] at z;subst z;cases h;exact⟨Es,by decide +kernel,by decide +kernel⟩
 split at h
 .rename_i z;rw[Zf] at z;subst z;cases h;exact⟨Jh,by decide +kernel,by decide +kernel⟩
 split at h
 .rename_i z;rw[Zf] at z;subst z;cases h;exact⟨rD,by decide +kernel,by decide +kernel⟩
 split at h
 .rename_i z;rw[Zf] at z;subst z;cases h;exact⟨lE,by decide +kernel,by decide +kernel⟩
 split at h
 .rename_i z;rw[Zf] at z;subst z;cases h;exact⟨Ex,by decide +kernel,by decide +kernel⟩
 .cases h
end
structure Tr where
 E:Sc->Expr->Option (Mi Rr)
 T:Sc->Expr->Option (Mi Bool)
 I:Sc->Expr->Expr->Option (Mi (List A))
structure cK(tb:Tb)(k:Nat)(r:Tr):Prop where
 E:∀{X E s e m},Sit tb k X E s->r.E s e=some m->JE X E e m
 T:∀{X E s e m},Sit tb k X E s->r.T s e=some m->JT X E e m
 I:∀{X E s tg e m},Sit tb k X E s->r.I s tg e=some m->JI X E tg e m
def Cy(s:Sc)(lo:Nat):Nat->Expr->Option Mg
 |0,_=>none
 |d+1,.Name x _=>af (iM s x) λi=>dg (Sz lo i) (some (aL i))
 |d+1,.Tuple es _ _=>dg (!s.hd) (af (trGs (Cy s lo d) es) λgs=>some (fN es.length gs))
 |_+1,_=>none
where trGs (F:Expr->Option Mg):List Expr->Option Cc
 |[]=>some fm
 |e::es=>dg (notStar e) (af (F e) λg=>af (trGs F es) λgs=>some (bL g gs))
variable{r:Tr}{tg:Expr}
section
variable{tb:Tb}{k:Nat}{X:Cx}{E:XK}{s:Sc}
theorem uD{lo:Nat}{F:Expr->Option Mg}(h:∀e g,F e=some g->JG X lo e g):∀{es:List Expr}{gs:Cc},Cy.trGs F es=some gs->Mb X lo es gs/\es.all notStar=true
 |[],gs,e=>by cases e;exact⟨EK,rfl⟩
 |a::es,gs,e=>by obtain⟨h1,e⟩:=ai e;obtain⟨g,e1,e⟩:=ab e;obtain⟨H,e2,e⟩:=ab e;cases e;obtain⟨s,I⟩:=uD h e2;exact⟨zy (h _ _ e1) s (λx y=>z8 x y (zk h1)),by simp only[Rg,h1,I];rfl⟩
theorem oW(S:Sit tb k X E s){lo:Nat}:∀{d:Nat}{e:Expr}{g:Mg},Cy s lo d e=some g->JG X lo e g
 |0,e,g,h=>by cases h
 |d+1,e,g,h=>by
  unfold Cy at h;split at h
  .rename_i Y;cases Y
  .rename_i Y;cases Y;obtain⟨i,e1,h⟩:=ab h;obtain⟨h1,h⟩:=ai h;cases h;obtain⟨a1,H,c,b⟩:=S.iM e1;exact DL (by rw[S.n];exact S.nd) a1 H (RP h1) b
  .rename_i Y;cases Y;obtain⟨L,h⟩:=ai h;obtain⟨gs,e1,h⟩:=ab h;cases h;obtain⟨m,I⟩:=uD (λe g h=>oW S h) e1;have hc:=S.cm (by simpa using L);exact JU hc m (uE _) (qZ _ I)
  .cases h
noncomputable def As:Expr->Bool
 | .Tuple _ _ _=>true
 |_=>false
noncomputable def P1:Expr->Bool
 | .Name _ _=>true
 |_=>false
def Co(r:Tr)(s:Sc)(tg:Expr):Expr->Option (Mi (List A))
 | .Call (.Name f p) [a] [] pos=>match f==("range" : Str) with
  |true=>dg (nJ s f&&notStar a) (af (r.E s a) λm=>some (cD m))
  |false=>af (r.E s (.Call (.Name f p) [a] [] pos)) λm=>some (cJ m)
 | .Call (.Name f p) [a,b] [] pos=>match f==("range" : Str) with
  |true=>dg (nJ s f&&notStar a&&notStar b) (af (r.E s a) λm=>af (r.E s b) λn=>some (qG m n))
  |false=>match f==("zip" : Str) with
   |true=>dg (nJ s f&&notStar a&&notStar b&&As tg) (af (r.E s a) λm=>af (r.E s b) λn=>some (gN m n))
   |false=>af (r.E s (.Call (.Name f p) [a,b] [] pos)) λm=>some (cJ m)
 |e=>af (r.E s e) λm=>some (cJ m)
theorem gW(R:cK tb k r)(S:Sit tb k X E s){m:Mi (List A)}(h:(af (r.E s e) λm=>some (cJ m))=some m):JI X E tg e m:=by obtain⟨K,e1,h⟩:=ab h;cases h;exact G0 (R.E S e1)
theorem Cz(R:cK tb k r)(S:Sit tb k X E s){m:Mi (List A)}(h:Co r s tg e=some m):JI X E tg e m:=by
 cases e with
 |Call fn args Y pos=>cases fn with
  |Name f p=>cases args with
   |nil=>exact gW R S h
   |cons a l=>cases l with
    |nil=>cases Y with
     |cons _ _=>exact gW R S h
     |nil=>
      delta Co at h
      dsimp only at h
      split at h
      .rename_i z;rw[Zf] at z;subst z
       obtain⟨h1,h⟩:=ai h
       simp only[QI] at h1
       obtain⟨K,e1,h⟩:=ab h
       cases h
       exact Et (S.glob h1.1).1 (bI S Z3) (R.E S e1) (ax h1.2 _ _) (ax h1.2 _ _)
      .exact gW R S h
    |cons b l=>cases l with
     |cons _ _=>exact gW R S h
     |nil=>cases Y with
      |cons _ _=>exact gW R S h
      |nil=>
       delta Co at h
       dsimp only at h
       split at h
       .rename_i z;rw[Zf] at z;subst z
        obtain⟨h1,h⟩:=ai h
        rw[QI,QI] at h1
        obtain⟨K,e1,h⟩:=ab h
        obtain⟨L,e2,h⟩:=ab h
        cases h
        have q:=ax h1.1.2
        have F:=ax h1.2
        exact Ck (S.glob h1.1.1).1 (bI S Z3) (R.E S e1) (R.E S e2) (by rw[q,F];rfl) (by rw[F];rfl) (q _ _) (F _ _)
       .split at h
        .rename_i z;rw[Zf] at z;subst z
         obtain⟨h1,h⟩:=ai h
         simp only[QI,QI,QI] at h1
         obtain⟨K,e1,h⟩:=ab h
         obtain⟨L,e2,h⟩:=ab h
         cases h
         have q:=ax h1.1.1.2
         have F:=ax h1.1.2
         cases tg<;>first|(exact BG h1.2)|skip
         exact CA (S.glob h1.1.1.1).1 (bI S Z3) (R.E S e1) (R.E S e2) (by rw[q,F];rfl) (by rw[F];rfl) (q _ _) (F _ _)
        .exact gW R S h
  |_=>exact gW R S h
 |_=>exact gW R S h
noncomputable def mU{α:Type}(a b:Option α):Option α:=match a with
 |some x=>some x
 |none=>b
theorem bp{a b:Option α}{x:α}(h:mU a b=some x):a=some x\/b=some x:=by
 cases a with
 |none=>exact .inr h
 |some y=>exact .inl h
def O6(r:Tr)(s:Sc)(tg e:Expr):Option (Mi (List A)):=mU (r.I s tg e) (Co r s tg e)
theorem zA(R:cK tb k r)(S:Sit tb k X E s){m:Mi (List A)}(h:O6 r s tg e=some m):JI X E tg e m:=by
 rcases bp h with h|h
 .exact R.I S h
 .exact Cz R S h
noncomputable def PX:Nat->Expr->List Str
 |0,_=>[]
 |_+1,.Name x _=>[x]
 |d+1,.Tuple es _ _=>es.flatMap (PX d)
 |_+1,_=>[]
noncomputable def OR(N own:List Str):List Str:=N.map (λn=>if own.contains n then n++(" (of the def)" : Str) else n)++own
def zG(s:Sc)(N:List Str)(own:Nat)(sc:Scope):Bool:=
 sc.kind==.function&&sc.names.all (λy=>y.2 != .cell)&&sc.names.all (λy=>y.2 != .local || sc.names.lookup y.1==some .local)&&N.length==s.N.length+own&&decide N.Nodup &&
 ((N.take s.N.length).zip s.N).all (λp=>p.1==p.2 || sc.names.lookup p.1==none)&&(N.take s.N.length).all (λn=>sc.names.lookup n != some .local)&&sc.names.all (λy=>y.2 != .free || (s.nm.lookup y.1==some .cell || s.nm.lookup y.1==some .free))
def zH(s:Sc)(N:List Str)(sc:Scope):Sc:={ N:=N,nm:=sc.names,di:=s.di,ca:=[],hd:=false,lv:=s.lv }
end
variable{elt:Expr}{gs:List Yt}{args:List Expr}
section
variable{tb:Tb}{k:Nat}{X:Cx}{E:XK}{s:Sc}
theorem eP{α:Type}{x:Str}{v:α}:∀{l:List (Str×α)},l.lookup x=some v->(x,v)∈l
 |(y,u)::l,h=>by
  simp only[Q2] at h;split at h
  .rename_i e;cases h;rw[Zf.mp e];exact Q0
  .exact QP _ (eP h)
theorem Sit.comp(S:Sit tb k X E s){N:List Str}{sc:Scope}{own:Nat}(h:zG s N own sc=true)(u:s.hd=false):
  gj X.N N own sc X.env.scope/\∀cl C w H fp,Sit tb k (jk X N sc cl C w H fp) u0 (zH s N sc):=by
 unfold zG at h;simp only[QI,Zf,decide_eq_true_eq,R9,Su,bne_iff_ne,ne_eq] at h;obtain⟨⟨⟨⟨⟨⟨⟨h1,h2⟩,h3⟩,h4⟩,h5⟩,t⟩,D⟩,Z⟩:=h;refine⟨⟨h1,h2,λy hy e=>?_,by rw[S.n];exact h4,h5,by rw[S.n];exact t,by rw[S.n];exact D,λy hy e=>?_⟩,λcl C w H fp=>?_⟩
 .rcases h3 y hy with z|z
  .exact absurd e z
  .exact z
 .rcases Z y hy with z|z
  .exact absurd e z
  .rcases z with z|z
   .exact .inl ((S.ce _).1 z)
   .exact(S.ce _).2 z
 .have loc:∀x,tD (zH s N sc) x=true->sc.names.lookup x=some .local:=λx hx=>by
   unfold tD qy zH at hx;simp only[Su,Zf] at hx;rcases hx with z|z
   .exact z
   .exact absurd rfl (h2 _ (eP z))
  refine⟨rfl,h5,λx hx=>zU hx,λx hx=>?_,λx hx=>.inl (iw (loc x hx)),λx hx=>iw hx,λx=>⟨λhx=>absurd rfl (h2 _ (eP hx)),λhx=>by rcases eN (env:=X.env) hx with z|⟨_,z⟩;exact .inr z;exact .inl z⟩,λx hx=>.inr (iw (loc x hx)),λ_=>S.cm u,λ_=>S.rm u,λ_=>(λ_ _ _ _ _ _ _ x=>x.elim),S.gd⟩;unfold DF qy zH at hx;simp only[Su,Zf] at hx;rcases hx with (z|z)|z
  .exact .inl (iw z)
  .exact absurd rfl (h2 _ (eP z))
  .exact rP z
def HM(r:Tr)(s:Sc):List Expr->Option (Mi Bool)
 |[]=>some aF
 |[t]=>r.T s t
 |_=>none
def oY(r:Tr)(s:Sc)(elt:Expr)(gs:List Yt)(sc:Scope):Option (Mi Rr):=match gs with
 |[g]=>
  let own:=PX 9 g.target
  let N:=OR s.N own
  let s':=zH s N sc
  dg (!s.hd&&g.is_async==0&&kz g.iter&&zG s N own.length sc) (af (O6 r s g.target g.iter) λv=>af (Cy s' s.N.length 9 g.target) λG=>af (HM r s' g.ifs) λmt=>af (r.E s' elt) λh=>some (aH own.length v G mt h))
 |_=>none
theorem CI(R:cK tb k r)(S:Sit tb k X E s){ifs:List Expr}{m:Mi Bool}(h:HM r s ifs=some m):JF X E ifs m:=by
 unfold HM at h;split at h
 .cases h;exact Ig
 .exact Hv (R.T S h)
 .cases h
theorem nO(R:cK tb k r)(S:Sit tb k X E s){sc:Scope}{m:Mi Rr}(h:oY r s elt gs sc=some m):
  s.hd=false/\∃N own tg iter ifs v G mt b,gs=[⟨tg,iter,ifs,0⟩]/\m=aH own v G mt b/\gj X.N N own sc X.env.scope/\JI X E tg iter v/\(∀cl C w H fp,JG (jk X N sc cl C w H fp) X.N.length tg G) /\
   (∀cl C w H fp,JF (jk X N sc cl C w H fp) u0 ifs mt)/\(∀cl C w H fp,JE (jk X N sc cl C w H fp) u0 elt b)/\∀x,XU iter X.env x=pure x:=by
 unfold oY at h;split at h
 .rename_i g;obtain⟨tg,iter,ifs,c⟩:=g;obtain⟨L,h⟩:=ai h;simp only[QI,Zf,Rv] at L;obtain⟨⟨⟨h1,rfl⟩,h3⟩,h4⟩:=L;obtain⟨v,e1,h⟩:=ab h;obtain⟨G,e2,h⟩:=ab h;obtain⟨mt,D,h⟩:=ab h;obtain⟨b,P,h⟩:=ab h;cases h;obtain⟨a,Y⟩:=S.comp h4 h1;exact⟨h1,_,_,tg,iter,ifs,v,G,mt,b,rfl,rfl,a,zA R S e1,λcl C w H fp=>by rw[S.n];exact oW (Y cl C w H fp) e2,λcl C w H fp=>CI R (Y cl C w H fp) D,λcl C w H fp=>R.E (Y cl C w H fp) P,lU h3 _⟩
 .cases h
def OQ(F:Expr->Option (Mi Rr)):Option Expr->Option (Mi (Option Int))
 |none=>some aB
 |some e=>af (F e) λm=>some (aT m)
theorem zo{F:Expr->Option (Mi Rr)}(h:∀e m,F e=some m->JE X E e m){o:Option Expr}{m:Mi (Option Int)}(e:OQ F o=some m):JP X E o m:=by
 cases o with
 |none=>cases e;exact EW
 |some a=>obtain⟨K,e1,e⟩:=ab e;cases e;exact EM (h _ _ e1)
def yX(r:Tr)(s:Sc)(a:Expr):Expr->Option (Mi Rr)
 | .Slice lo hi none _=>af (r.E s a) λm=>af (OQ (r.E s) lo) λH=>af (OQ (r.E s) hi) λY=>some (bT m H Y)
 |b=>dg (jW b&&!s.hd) (af (r.E s a) λm=>af (r.E s b) λn=>some (ay DC m n))
theorem zQ(R:cK tb k r)(S:Sit tb k X E s){a b:Expr}{m:Mi Rr}(h:yX r s a b=some m):JE X E (.Subscript a b pos) m:=by
 unfold yX at h;split at h
 .obtain⟨K,e1,h⟩:=ab h;obtain⟨d,e2,h⟩:=ab h;obtain⟨e,N,h⟩:=ab h;cases h;exact HI (R.E S e1) (zo (λ_ _=>R.E S) e2) (zo (λ_ _=>R.E S) N)
 .obtain⟨L,h⟩:=ai h;simp only[QI,Rv] at L;obtain⟨K,e1,h⟩:=ab h;obtain⟨d,e2,h⟩:=ab h;cases h;exact IZ (R.E S e1) (R.E S e2) (tj L.1)
noncomputable def Qv(f:Str):Bool:=match f.cps[0]? with
 |some c=>Sz 65 c&&Sz c 90
 |none=>false
def Ie:Expr->Bool
 | .ListComp _ _ _ _=>true
 | .List _ _=>true
 | .Dict _ _ _=>true
 | .BinOp _ .Add _ _=>true
 | .Subscript _ (.Slice _ _ _ _) _=>true
 | .Call (.Name f _) _ _ _=>f==("list" : Str) || f==("sorted" : Str) || f==("dict" : Str) || Qv f
 | .Call (.Attribute _ _ _) _ _ _=>true
 |_=>false
def ME(r:Tr)(s:Sc)(e:Expr):Option (Mi Rr):=match e with
 | .Name x _=>match s.lv.contains x with
  |true=>r.E s e
  |false=>match slot s x with
   |some i=>some (ag i)
   |none=>r.E s e
 |e=>match Ie e with
  |true=>af (r.E s e) λm=>some (dS m)
  |false=>r.E s e
theorem pV(R:cK tb k r)(S:Sit tb k X E s){m:Mi Rr}(h:ME r s e=some m):JE X E e m:=by
 unfold ME at h;split at h
 .split at h
  .exact R.E S h
  split at h
  .rename_i e1;cases h;obtain⟨a1,H,c,b⟩:=S.slot e1;exact CK a1 H c b
  .exact R.E S h
 .split at h
  .obtain⟨K,e1,h⟩:=ab h;cases h;exact Nn (R.E S e1)
  .exact R.E S h
noncomputable def fR(s:Sc):Nat->List Expr->List Bool->List Nat
 |j,.Name x _::es,false::bs=>match s.lv.contains x with
  |true=>j::fR s (j+1) es bs
  |false=>fR s (j+1) es bs
 |j,_::es,_::bs=>fR s (j+1) es bs
 |_,_,_=>[]
def eR:List Nat->Ms->Ms
 |[],m=>m
 |j::js,m=>bH j (eR js m)
theorem iY.eR{K:Kx}{n:Nat}{m:Ms}{vs:List V}{H:Hp}{Q:VK}{E:XK}:∀{p:List Nat},iY K n (M.eR p m) vs H Q E->iY K n m vs H Q E
 |[],h=>h
 |_::_,h=>iY.eR (iY.AE h)
def J3(tb:Tb)(r:Tr)(s:Sc)(fi:FI)(args:List Expr):Option (Mi (List Rr)):=dg (args.length+(nA fi args.length).length==fi.n) (Ey (r.E s) (ME r s) args fi.mu)
def B1(tb:Tb)(r:Tr)(s:Sc)(fi:FI)(args:List Expr):Option (Mi (List Rr)):=dg (args.length+1+(nA fi (args.length+1)).length==fi.n) (Ey (r.E s) (ME r s) args (fi.mu.drop 1))
def yN(tb:Tb)(r:Tr)(s:Sc)(f:Str):List Expr->Option (Mi Rr)
 |[]=>none
 |a::as=>af (tb.fO.lookup f) λfi=>dg (!s.hd) (af (B1 tb r s fi (a::as)) λm=>some (n0 f (eR (fR s 1 (a::as) (fi.mu.drop 1)) fi.m) (nA fi ((a::as).length+1)) m))
def FL(tb:Tb)(r:Tr)(s:Sc)(a:Expr)(x:Str):Option (Mi Rr):=match Pl x with
 |some T=>af (r.E s a) λm=>some (cE (nG T) m)
 |none=>none
def B6(tb:Tb)(r:Tr)(s:Sc)(f:Str)(args:List Expr):Option (Mi Rr):=dg (nJ s f) (match tb.fns.lookup f with
 |some fi=>match args with
  |[]=>none
  |a::as=>match s.hd with
   |true=>none
   |false=>af (J3 tb r s fi (a::as)) λm=>some (ba (eR (fR s 0 (a::as) fi.mu) fi.m) (nA fi (a::as).length) m)
 |none=>match tb.fO.lookup f with
 |some _=>yN tb r s f args
 |none=>match args with
  |[a]=>dg (notStar a&&!s.hd) (af (Ow f) λg=>af (r.E s a) λm=>some (cE g m))
  |[a,.Name x p]=>match f==("isinstance" : Str) with
   |true=>dg (notStar a&&nJ s x) (FL tb r s a x)
   |false=>dg (notStar a&&!s.hd) (af (NZ f) λg=>af (r.E s a) λm=>af (r.E s (.Name x p)) λn=>some (F9 g m n))
  |[a,b]=>dg (notStar a&&notStar b&&!s.hd) (af (NZ f) λg=>af (r.E s a) λm=>af (r.E s b) λn=>some (F9 g m n))
  | _=>none)
theorem wx(R:cK tb k r)(S:Sit tb k X E s){m:Mi Rr}(h:B6 tb r s f args=some m):JE X E (.Call (.Name f p) args [] pos) m:=by
 have h':=ai h;clear h;obtain⟨J,h⟩:=h';split at h
 .rename_i fi y;split at h
  .cases h
  .rename_i a as;split at h
   .cases h
   rename_i N;obtain⟨ma,e1,h⟩:=ab h;cases h;obtain⟨h1,e1⟩:=ai e1;obtain⟨c,I,x⟩:=lh (λ_ _=>R.E S) (λ_ _=>pV R S) e1;obtain⟨u,fd,ps,F,hm,hk,d⟩:=S.gd.fn f fi y;obtain⟨ds,dvs,B,H,Y⟩:=d.of (a::as).length;have b:=x;simp only[Rg,QI] at b;exact Eh (F.imp λ_ _ _ _ q=>iY.eR q) (S.rm N) (S.glob J).1 hm hk B H Y (S.ps N) c (Gz I (by simp only[Zf] at h1;exact h1)) (S.glob J).2 (ax b.1 _ _) (dF b.2)
 split at h
 .unfold yN at h;split at h
  .cases h
  .rename_i a as;obtain⟨fi,y,h⟩:=ab h;obtain⟨N,h⟩:=ai h;have N:s.hd=false:=by simpa using N
   obtain⟨ma,e1,h⟩:=ab h;cases h;obtain⟨h1,e1⟩:=ai e1;simp only[Zf] at h1;obtain⟨c,I,x⟩:=lh (λ_ _=>R.E S) (λ_ _=>pV R S) e1;obtain⟨C,u,fd,ps,j,Q,F,hm,hk,d⟩:=S.gd.im f fi y;obtain⟨ds,dvs,B,H,Y⟩:=d.of ((a::as).length+1);have b:=x;simp only[Rg,QI] at b;exact CC hk (F.imp λ_ _ _ _ q=>iY.eR q) ((S.rm N).mono Q) (S.glob J).1 hm B H Y (S.ps N) c (λZ rs O q=>by rw[I Z rs O q];exact h1) (S.glob J).2 (ax b.1 _ _) (dF b.2)
 .split at h
  .obtain⟨L,h⟩:=ai h;simp only[QI,Rv] at L;obtain⟨g,e1,h⟩:=ab h;obtain⟨K,e2,h⟩:=ab h;cases h;exact Hs S e1 J L.2 L.1 (R.E S e2)
  .split at h
   .rename_i z;simp only[Zf] at z;subst z;obtain⟨L,h⟩:=ai h;simp only[QI] at L;obtain⟨o,n⟩:=S.glob J;obtain⟨e,v⟩:=S.glob L.2;unfold FL at h;split at h
    .rename_i T w;obtain⟨K,e2,h⟩:=ab h;cases h;obtain⟨G,i,l⟩:=IH w;exact Js T o (bI S Z3) nL e (bI S i) G (R.E S e2) Z3 n l v (ax L.1 _ _)
    .cases h
   .obtain⟨L,h⟩:=ai h;simp only[QI,Rv] at L;obtain⟨g,e1,h⟩:=ab h;obtain⟨K,e2,h⟩:=ab h;obtain⟨V,D,h⟩:=ab h;cases h;exact Aa S e1 J L.2 L.1 rfl (R.E S e2) (R.E S D)
  .obtain⟨L,h⟩:=ai h;simp only[QI,Rv] at L;obtain⟨g,e1,h⟩:=ab h;obtain⟨K,e2,h⟩:=ab h;obtain⟨V,D,h⟩:=ab h;cases h;exact Aa S e1 J L.2 L.1.1 L.1.2 (R.E S e2) (R.E S D)
  .cases h
end
variable{o:Expr}{apos cpos px:Pos}
section
variable{tb:Tb}{k:Nat}{X:Cx}{E:XK}{s:Sc}
noncomputable def ox(o:Expr):Bool:=match o with
 | .Call f args kw _=>match f with
  | .Name _ _=>!(args.isEmpty&&kw.isEmpty)
  |_=>true
 |_=>true
theorem bu(h:ox o=true)(m:Str)(env:Env)(w:Sem Value):XE o m env w=w:=by
 cases o with
 |Call f args I p=>cases f with
  |Name _ _=>cases args with
   |cons _ _=>rfl
   |nil=>cases I with
    |cons _ _=>rfl
    |nil=>cases h
  |_=>rfl
 |_=>rfl
theorem MX(h:notStar e=true)(cpos:Pos)(env:Env):((XI cpos (XB [e] env)).all (λx=>!x.1)&&(XY cpos (XO [] env)).all (λx=>x.1.isSome)&&decide (([e]:List Expr).length+([]:List XW).length+(if ([]:List XW).isEmpty then 0 else 1)<30))=true:=by rw[ax h];rfl
def Qq(e:Expr):Option (Expr×Str×Pos×Pos):=match e with
 | .Call f args kw cpos=>match f with
  | .Attribute o m apos=>dg (args.isEmpty&&kw.isEmpty) (some (o,m,apos,cpos))
  |_=>none
 |_=>none
def HX(e:Expr):Option (Expr×Str×Pos×Expr×Pos):=match e with
 | .Call f args kw cpos=>match f with
  | .Attribute o m apos=>match args with
   |[a]=>dg (kw.isEmpty&&notStar a) (some (o,m,apos,a,cpos))
   |_=>none
  |_=>none
 |_=>none
theorem wF{a:Expr}{m:Str}(h:HX e=some (o,m,apos,a,cpos)):e=.Call (.Attribute o m apos) [a] [] cpos/\notStar a=true:=by
 unfold HX at h;split at h
 .rename_i f args I c;split at h
  .split at h
   .obtain⟨L,h⟩:=ai h;rw[QI,Sa] at L;cases h;rw[L.1];exact⟨rfl,L.2⟩
   .cases h
  .cases h
 .cases h
def pY(e:Expr):Option (Str×Pos×Expr×Pos):=match e with
 | .Call f args kw cpos=>match f with
  | .Name x p=>match args with
   |[a]=>dg (kw.isEmpty&&notStar a) (some (x,p,a,cpos))
   |_=>none
  |_=>none
 |_=>none
theorem d0{a:Expr}{x:Str}(h:pY e=some (x,p,a,cpos)):e=.Call (.Name x p) [a] [] cpos/\notStar a=true:=by
 unfold pY at h;split at h
 .rename_i f args I c;split at h
  .split at h
   .obtain⟨L,h⟩:=ai h;rw[QI,Sa] at L;cases h;rw[L.1];exact⟨rfl,L.2⟩
   .cases h
  .cases h
 .cases h
noncomputable def u3(e:Expr):Option (Str×Pos):=match e with
 | .Name x p=>some (x,p)
 |_=>none
theorem cQ{x:Str}(h:u3 e=some (x,p)):e=.Name x p:=by
 unfold u3 at h;split at h
 .cases h;rfl
 .cases h
def JK(e:Expr):Option (Str×Pos×Expr×Expr×Pos):=match e with
 | .Call f args kw cpos=>match f with
  | .Name x p=>match args with
   |[a,b]=>dg (kw.isEmpty&&notStar a&&notStar b) (some (x,p,a,b,cpos))
   |_=>none
  |_=>none
 |_=>none
theorem wA{a b:Expr}{x:Str}(h:JK e=some (x,p,a,b,cpos)):e=.Call (.Name x p) [a,b] [] cpos/\notStar a=true/\notStar b=true:=by
 unfold JK at h;split at h
 .rename_i f args I c;split at h
  .split at h
   .obtain⟨L,h⟩:=ai h;rw[QI,QI,Sa] at L;cases h;rw[L.1.1];exact⟨rfl,L.1.2,L.2⟩
   .cases h
  .cases h
 .cases h
def uP(_:Tb)(r:Tr)(s:Sc)(tg e:Expr):Option (Mi (List A)):=af (pY e) λ(f,_,a,_)=>dg (f==("enumerate" : Str)&&nJ s f&&As tg) (af (r.E s a) λn=>some (vH n))
theorem uc(R:cK tb k r)(S:Sit tb k X E s){q:Mi (List A)}(h:uP tb r s tg e=some q):JI X E tg e q:=by
 obtain⟨⟨f,p,a,cpos⟩,h1,g⟩:=ab h;clear h;obtain⟨rfl,hs⟩:=d0 h1;obtain⟨h2,g⟩:=ai g;simp only[QI,Zf] at h2;obtain⟨n,e2,g⟩:=ab g;cases g;obtain⟨⟨rfl,J⟩,l⟩:=h2;cases tg<;>first|(exact BG l)|skip
 exact Dk (S.glob J).1 (bI S Z3) (R.E S e2) (ax hs _ _) (ax hs _ _)
def yw(_:Tb)(r:Tr)(s:Sc)(e:Expr):Option (Mi Rr):=af (pY e) λ(f,_,a,_)=>dg (f==("sum" : Str)&&nJ s f&&!s.hd) (af (r.E s a) λn=>some (cE ud n))
theorem xh(R:cK tb k r)(S:Sit tb k X E s)(h:yw tb r s e=some q):JE X E e q:=by obtain⟨⟨f,p,a,cpos⟩,h1,g⟩:=ab h;clear h;obtain⟨rfl,hs⟩:=d0 h1;obtain⟨h2,h⟩:=ai g;simp only[QI,QI,Zf,Rv] at h2;obtain⟨n,e2,h⟩:=ab h;cases h;obtain⟨⟨rfl,J⟩,N⟩:=h2;exact og (zW (S.cm N)) II (S.glob J).1 (bI S Z3) IM (R.E S e2) Z3 (S.glob J).2 (ax hs _ _) rfl
def v9(_:Tb)(r:Tr)(s:Sc)(e:Expr):Option (Mi Rr):=af (pY e) λ(f,_,a,_)=>dg (f==("min" : Str)&&nJ s f&&!s.hd) (af (r.E s a) λn=>some (cE qU n))
theorem sY(R:cK tb k r)(S:Sit tb k X E s)(h:v9 tb r s e=some q):JE X E e q:=by obtain⟨⟨f,p,a,cpos⟩,h1,g⟩:=ab h;clear h;obtain⟨rfl,hs⟩:=d0 h1;obtain⟨h2,g⟩:=ai g;simp only[QI,Zf,Rv] at h2;obtain⟨n,e2,g⟩:=ab g;cases g;obtain⟨⟨rfl,J⟩,N⟩:=h2;exact og (wo (S.cm N)) Ci (S.glob J).1 (bI S Z3) yn (R.E S e2) Z3 (S.glob J).2 (ax hs _ _) rfl
def uO(_:Tb)(r:Tr)(s:Sc)(e:Expr):Option (Mi Rr):=af (pY e) λ(f,_,a,_)=>dg (f==("max" : Str)&&nJ s f&&!s.hd) (af (r.E s a) λn=>some (cE rn n))
theorem tZ(R:cK tb k r)(S:Sit tb k X E s)(h:uO tb r s e=some q):JE X E e q:=by obtain⟨⟨f,p,a,cpos⟩,h1,g⟩:=ab h;clear h;obtain⟨rfl,hs⟩:=d0 h1;obtain⟨h2,g⟩:=ai g;simp only[QI,Zf,Rv] at h2;obtain⟨n,e2,g⟩:=ab g;cases g;obtain⟨⟨rfl,J⟩,N⟩:=h2;exact og (wz (S.cm N)) DT (S.glob J).1 (bI S Z3) BZ (R.E S e2) Z3 (S.glob J).2 (ax hs _ _) rfl
def uG(_:Tb)(r:Tr)(s:Sc)(e:Expr):Option (Mi Rr):=af (HX e) λ(o,m,apos,a,cpos)=>dg (m==("index" : Str)&&apos.endLine==cpos.line) (dg (ox o) <| af (r.E s o) λn=>af (r.E s a) λq=>some (vt n q))
theorem sU(R:cK tb k r)(S:Sit tb k X E s)(h:uG tb r s e=some q):JE X E e q:=by obtain⟨⟨o,m,apos,a,cpos⟩,h1,g⟩:=ab h;clear h;obtain⟨rfl,hs⟩:=wF h1;obtain⟨h2,h⟩:=ai g;rw[QI,Zf] at h2;obtain⟨d,j⟩:=ai h;clear h;obtain⟨n,e1,h⟩:=ab j;obtain⟨i,e2,h⟩:=ab h;cases h;obtain⟨rfl,hl⟩:=h2;exact Ed (R.E S e1) (R.E S e2) (bu d _ _ _) (MX hs _ _) hl (ax hs _ _) rfl
def Ks(tb:Tb)(s:Sc)(e:Expr):Option (List Sl->Option A):=af (u3 e) λ(x,_)=>match slot s x with
 |some j=>some (xV j)
 |none=>af (tb.cst.lookup x) λa=>match a with
  | .int i=>dg (nJ s x) (some (AU i))
  |_=>none
theorem xg{x:Str}{v:V}{u:Value}{i:Int}(J:Gl X x)(hm:X.mg x=some u)(r:RelV v u)(s:∀G,RA (kx X) G v (.int i))(hd:fM x):qp X (.Name x pos) (AU i):=by have z:=s λ_=>none;cases z;exact Ak (vE J hm r hd)
theorem lM(S:Sit tb k X E s){g:List Sl->Option A}(h:Ks tb s e=some g):qp X e g/\jG e/\notStar e=true:=by
 obtain⟨⟨x,p⟩,h1,w⟩:=ab h;clear h;obtain rfl:=cQ h1;refine⟨?_,λ_ _=>rfl,rfl⟩;dsimp only at w;cases e1:slot s x with
 |some j=>rw[e1] at w;cases w;obtain⟨a1,H,c,b⟩:=S.slot e1;exact xy a1 H c b
 |none=>
  rw[e1] at w;obtain⟨a,e2,q⟩:=ab w;clear w;cases a with
  |int i=>obtain⟨J,F⟩:=ai q;cases F;obtain⟨v,u,o,n,d⟩:=S.gd.cs _ _ e2;exact xg (S.glob J).1 o n d (S.glob J).2
  |_=>exact cF q
def xx(s:Sc)(e:Expr):Option (Nat×Str×Str×Pos×Pos):=match e with
 | .Attribute o f p=>af (u3 o) λ(x,px)=>dg (s.lv.contains ("*nob" : Str)&&s.lv.contains f) (af (slot s x) λi=>some (i,x,f,px,p))
 |_=>none
theorem fV(S:Sit tb k X E s){x:Str}(h:xx s e=some (i,x,f,px,p)):e=.Attribute (.Name x px) f p/\X.N[i]?=some x/\j9 X.env.scope x/\fM x/\lG x:=by
 cases e with
 |Attribute o a C=>obtain⟨⟨B,Z⟩,h1,w⟩:=ab h;clear h;obtain⟨_,q⟩:=ai w;obtain⟨Y,e1,F⟩:=ab q;cases F;obtain rfl:=cQ h1;obtain⟨a1,H,c,b⟩:=S.slot e1;exact⟨rfl,a1,H,c,b⟩
 |_=>exact cF h
noncomputable def oN(e:Expr):Option (Expr×Expr×Pos):=match e with
 | .Subscript a b p=>some (a,b,p)
 |_=>none
theorem fg{a b:Expr}(h:oN e=some (a,b,p)):e=.Subscript a b p:=by
 cases e with
 |Subscript=>cases h;rfl
 |_=>exact cF h
def FY(e:Expr):Option (Expr×Str×Pos×Expr×Pos):=match e with
 | .Call c as ks cpos=>match c with
  | .Attribute o m apos=>match as,ks with
   |[a],[]=>dg (apos.endLine==cpos.line) (some (o,m,apos,a,cpos))
   |_,_=>none
  |_=>none
 |_=>none
theorem tx{a:Expr}{m:Str}(h:FY e=some (o,m,apos,a,cpos)):e=.Call (.Attribute o m apos) [a] [] cpos/\(apos.endLine==cpos.line)=true:=by
 cases e with
 |Call c as Z X=>
  cases c with
  |Attribute o' P p=>
   rcases as with _|⟨a',_|_⟩
   .cases h
   .cases Z with
    |nil=>obtain⟨L,h⟩:=ai h;cases h;exact⟨rfl,L⟩
    |cons=>cases h
   .cases h
  |_=>exact cF h
 |_=>exact cF h
def KL(tb:Tb)(r:Tr)(s:Sc)(i:Nat)(f m:Str)(a:Expr):Option (Mi Rr):=match m==("index" : Str) with
 |true=>af (Ks tb s a) λg=>some (gy (fA tb f) i f g)
 |false=>match m==("pop" : Str) with
  |true=>af (Ks tb s a) λg=>some (sI (fA tb f) i f g)
  |false=>match m==("append" : Str) with
   |true=>mU (af (Ks tb s a) λg=>some (sD (fA tb f) i f g)) (dg (notStar a) (af (r.E s a) λq=>some (m9 (fA tb f) i f q)))
   |false=>none
def BM(tb:Tb)(r:Tr)(s:Sc)(e:Expr):Option (Mi Rr):=mU (af (oN e) λ(a,b,_)=>af (xx s a) λ(i,_,f,_,_)=>af (Ks tb s b) λg=>some (pK (fA tb f) i f g))
 (mU (af (FY e) λ(o,m,_,a,_)=>af (xx s o) λ(i,_,f,_,_)=>KL tb r s i f m a)
 (af (pY e) λ(l,_,a,_)=>dg (l==("len" : Str)&&nJ s l) (af (xx s a) λ(i,_,f,_,_)=>some (jR (fA tb f) i f))))
theorem wD(R:cK tb k r)(S:Sit tb k X E s){m:Mi Rr}(h:BM tb r s e=some m):JE X E e m:=by
 rcases bp h with w|w
 .obtain⟨⟨a,b,p⟩,h1,L⟩:=ab w;clear w h;obtain rfl:=fg h1;obtain⟨⟨i,x,f,px,T⟩,h2,v⟩:=ab L;clear L;obtain⟨rfl,a1,H,Z,B⟩:=fV S h2;obtain⟨g,h3,F⟩:=ab v;cases F;obtain⟨V,O,_⟩:=lM S h3;exact Kb a1 H Z B (λc C=>S.gd.fl _ c C) (bu rfl _ _ _) V O
 clear h;rcases bp w with z|z
 .obtain⟨⟨o,mm,apos,a,cpos⟩,h1,L⟩:=ab z;clear w z;obtain⟨rfl,hl⟩:=tx h1;obtain⟨⟨i,x,f,px,T⟩,h2,h⟩:=ab L;clear L;obtain⟨rfl,a1,H,Z,B⟩:=fV S h2;dsimp only at h
  delta KL at h
  cases I:mm==("index" : Str) with
  |true=>simp only[I] at h;obtain⟨g,h3,h⟩:=ab h;cases h;obtain rfl:=eq_of_beq I;obtain⟨V,_,Y⟩:=lM S h3;exact wC a1 H Z B (λc C=>S.gd.fl _ c C) (bu rfl _ _ _) V (bu rfl _ _ _) (by rw[ax Y _ _];rfl) hl (ax Y _ _) rfl
  |false=>
   rw[I] at h;dsimp only at h;cases J:mm==("pop" : Str) with
   |true=>simp only[J] at h;obtain⟨g,h3,h⟩:=ab h;cases h;obtain rfl:=eq_of_beq J;obtain⟨V,_,Y⟩:=lM S h3;exact CH a1 H Z B (λc C=>S.gd.fl _ c C) (bu rfl _ _ _) V (bu rfl _ _ _) (by rw[ax Y _ _];rfl) hl (ax Y _ _) rfl
   |false=>
    rw[J] at h;dsimp only at h;cases y:mm==("append" : Str) with
    |true=>
     rw[y] at h;obtain rfl:=eq_of_beq y;rcases bp h with h|h
     .obtain⟨g,h3,h⟩:=ab h;cases h;obtain⟨V,_,Y⟩:=lM S h3;exact D2 a1 H Z B (λc C=>S.gd.fl _ c C) (bu rfl _ _ _) V (bu rfl _ _ _) (by rw[ax Y _ _];rfl) hl (ax Y _ _) rfl
     .obtain⟨Q,h⟩:=ai h;obtain⟨q,h3,h⟩:=ab h;cases h;exact CG a1 H Z B (λc C=>S.gd.fl _ c C) (bu rfl _ _ _) (R.E S h3) (bu rfl _ _ _) (by rw[ax Q _ _];rfl) hl (ax Q _ _) rfl
    |false=>rw[y] at h;cases h
 .obtain⟨⟨l,p,a,cpos⟩,h1,L⟩:=ab z;clear w z;obtain⟨rfl,hs⟩:=d0 h1;obtain⟨Q,v⟩:=ai L;clear L;simp only[QI,Zf] at Q;obtain⟨⟨i,x,f,px,T⟩,h2,F⟩:=ab v;obtain⟨rfl,a1,H,Z,B⟩:=fV S h2;cases F;obtain⟨rfl,A⟩:=Q;exact DB a1 H Z B (λc C=>S.gd.fl _ c C) (bu rfl _ _ _) (S.glob A).1 (bI S Z3) Br Z3 (S.glob A).2 (ax rfl _ _) rfl
def Bn(tb:Tb)(_:Tr)(s:Sc)(e:Expr):Option (Mi Bool):=match e with
 | .Compare a ops bs _=>match ops,bs with
  |[op],[b]=>match op with
   | .In=>af (xx s b) λ(i,_,f,_,_)=>af (Ks tb s a) λg=>some (aj (wZ false (fA tb f) i f g))
   |_=>none
  |_,_=>none
 |_=>none
theorem xN(R:cK tb k r)(S:Sit tb k X E s){q:Mi Bool}(h:Bn tb r s e=some q):JT X E e q:=by
 cases e with
 |Compare a ops bs p=>
  rcases ops with _|⟨op,_|_⟩
  .cases h
  .rcases bs with _|⟨b,_|_⟩
   .cases h
   .cases op with
    |In=>obtain⟨⟨i,x,f,px,T⟩,h2,w⟩:=ab h;clear h;obtain⟨rfl,a1,H,Z,B⟩:=fV S h2;obtain⟨g,h3,v⟩:=ab w;cases v;exact HW a1 H Z B (λc C=>S.gd.fl _ c C) (bu rfl _ _ _) (lM S h3).1 rfl
    |_=>exact cF h
   .cases h
  .cases h
 |_=>exact cF h
def vI(_:Tb)(r:Tr)(s:Sc)(e:Expr):Option (Mi Rr):=af (pY e) λ(f,_,a,_)=>dg (f==("list" : Str)&&nJ s f&&!s.hd) (mU
 (af (pY a) λ(g,_,b,_)=>dg (g==("range" : Str)&&nJ s g) (af (r.E s b) λn=>some (lV n)))
 (af (JK a) λ(g,_,b,c,_)=>dg (g==("range" : Str)&&nJ s g) (af (r.E s b) λn=>af (r.E s c) λq=>some (mT n q))))
theorem tV(R:cK tb k r)(S:Sit tb k X E s)(h:vI tb r s e=some q):JE X E e q:=by
 obtain⟨⟨f,p,a,cpos⟩,h1,B⟩:=ab h;clear h;obtain⟨rfl,hs⟩:=d0 h1;obtain⟨h2,Z⟩:=ai B;clear B;simp only[QI,Zf,Rv] at h2;obtain⟨⟨rfl,J⟩,N⟩:=h2;rcases bp Z with w|w
 .clear Z;obtain⟨⟨G,P,b,x⟩,h3,O⟩:=ab w;clear w;obtain⟨rfl,Y⟩:=d0 h3;obtain⟨h4,v⟩:=ai O;clear O;simp only[QI,Zf] at h4;obtain⟨n,e2,F⟩:=ab v;cases F;obtain⟨rfl,L⟩:=h4;exact BC (S.cm N) (S.glob J).1 (bI S Z3) lE (S.glob L).1 (bI S Z3) (R.E S e2) (ax Y _ _)
 .clear Z;obtain⟨⟨G,P,b,c,x⟩,h3,O⟩:=ab w;clear w;obtain⟨rfl,Y,Q⟩:=wA h3;obtain⟨h4,v⟩:=ai O;clear O;simp only[QI,Zf] at h4;obtain⟨n,e2,F⟩:=ab v;obtain⟨y,D,H⟩:=ab F;cases H;obtain⟨rfl,L⟩:=h4;exact yD (S.cm N) (S.glob J).1 (bI S Z3) lE (S.glob L).1 (bI S Z3) (R.E S e2) (R.E S D) (ax Y _ _) (ax Q _ _) (dF (by simp only[Rg,Q];rfl))
def J7(e:Expr):Option (Str×Pos×Expr×Expr×Expr×Pos):=match e with
 | .Call f args kw cpos=>match f with
  | .Name x p=>match args with
   |[a,b,d]=>dg (kw.isEmpty&&notStar a&&notStar b&&notStar d) (some (x,p,a,b,d,cpos))
   |_=>none
  |_=>none
 |_=>none
theorem xr{a b d:Expr}{x:Str}(h:J7 e=some (x,p,a,b,d,cpos)):e=.Call (.Name x p) [a,b,d] [] cpos/\notStar a=true/\notStar b=true/\notStar d=true:=by
 unfold J7 at h;split at h
 .rename_i f args I c;split at h
  .split at h
   .obtain⟨L,h⟩:=ai h;rw[QI,QI,QI,Sa] at L;cases h;obtain⟨⟨⟨rfl,h1⟩,h2⟩,h3⟩:=L;exact⟨rfl,h1,h2,h3⟩
   .cases h
  .cases h
 .cases h
def v5(_:Tb)(r:Tr)(s:Sc)(_ e:Expr):Option (Mi (List A)):=af (J7 e) λ(f,_,a,b,d,_)=>dg (f==("range" : Str)&&nJ s f) (af (r.E s a) λm=>af (r.E s b) λn=>af (r.E s d) λo=>some (sx m n o))
theorem sW(R:cK tb k r)(S:Sit tb k X E s){q:Mi (List A)}(h:v5 tb r s tg e=some q):JI X E tg e q:=by obtain⟨⟨f,p,a,b,d,cpos⟩,h1,D⟩:=ab h;clear h;obtain⟨rfl,hs,Y,Q⟩:=xr h1;obtain⟨h2,j⟩:=ai D;clear D;simp only[QI,Zf] at h2;obtain⟨m,e1,T⟩:=ab j;obtain⟨n,e2,c⟩:=ab T;obtain⟨o,N,J⟩:=ab c;cases J;obtain⟨rfl,C⟩:=h2;exact DA (S.glob C).1 (bI S Z3) (R.E S e1) (R.E S e2) (R.E S N) (ax hs _ _) (ax Y _ _) (ax Q _ _) (dF (by simp only[Rg,Y,Rg,Q];rfl))
noncomputable def IF:Expr->Bool
 | .List _ _=>true
 |_=>false
noncomputable def Ag:Expr->Option (Expr×Expr×Pos)
 | .BinOp a .Mult b p=>some (a,b,p)
 |_=>none
theorem ui{a b:Expr}(h:Ag e=some (a,b,p)):e=.BinOp a .Mult b p:=by
 unfold Ag at h;split at h
 .cases h;rfl
 .cases h
def Bh(_:Tb)(r:Tr)(s:Sc)(e:Expr):Option (Mi Rr):=af (Ag e) λ(a,b,_)=>dg (IF a) (af (r.E s a) λm=>af (r.E s b) λn=>some (ay C9 m n))
theorem xG(R:cK tb k r)(S:Sit tb k X E s)(h:Bh tb r s e=some q):JE X E e q:=by obtain⟨⟨a,b,p⟩,h1,g⟩:=ab h;clear h;obtain rfl:=ui h1;obtain⟨_,j⟩:=ai g;obtain⟨m,e1,d⟩:=ab j;obtain⟨n,e2,c⟩:=ab d;cases c;exact Ji (R.E S e1) (R.E S e2)
def xP(tb:Tb)(r:Tr)(s:Sc)(e:Expr):Option (Mi Rr):=mU (BM tb r s e) (mU (Bh tb r s e) (none))
theorem K5(R:cK tb k r)(S:Sit tb k X E s){m:Mi Rr}(h:xP tb r s e=some m):JE X E e m:=by
 rcases bp h with h|h
 .exact wD R S h
 rcases bp h with h|h
 .exact xG R S h
 cases h
def xE(tb:Tb)(r:Tr)(s:Sc)(e:Expr):Option (Mi Rr):=mU (yw tb r s e) (mU (v9 tb r s e) (mU (uO tb r s e) (mU (uG tb r s e) (mU (vI tb r s e) (none)))))
theorem LZ(R:cK tb k r)(S:Sit tb k X E s){m:Mi Rr}(h:xE tb r s e=some m):JE X E e m:=by
 rcases bp h with h|h
 .exact xh R S h
 rcases bp h with h|h
 .exact sY R S h
 rcases bp h with h|h
 .exact tZ R S h
 rcases bp h with h|h
 .exact sU R S h
 rcases bp h with h|h
 .exact tV R S h
 cases h
def xT(tb:Tb)(r:Tr)(s:Sc)(e:Expr):Option (Mi Bool):=mU (Bn tb r s e) (none)
theorem MQ(R:cK tb k r)(S:Sit tb k X E s){m:Mi Bool}(h:xT tb r s e=some m):JT X E e m:=by
 rcases bp h with h|h
 .exact xN R S h
 cases h
def xI(tb:Tb)(r:Tr)(s:Sc)(tg e:Expr):Option (Mi (List A)):=mU (uP tb r s tg e) (mU (v5 tb r s tg e) (none))
theorem Lz(R:cK tb k r)(S:Sit tb k X E s){m:Mi (List A)}(h:xI tb r s tg e=some m):JI X E tg e m:=by
 rcases bp h with h|h
 .exact uc R S h
 rcases bp h with h|h
 .exact sW R S h
 cases h
end
variable{mn:Str}
section
variable{tb:Tb}{k:Nat}{X:Cx}{E:XK}{s:Sc}
def MZ(r:Tr)(s:Sc)(o:Expr)(m:Str)(e:Expr):Option (Mi Rr):=
 if m==("append" : Str) then (match o with
  | .Name x _=>af (slot s x) λi=>af (r.E s e) λn=>some (xU i (jr i n))
  | _=>none)
 else none
noncomputable def KR:Expr->Bool
 | .Name x _=>x==("self" : Str)
 |_=>false
def yV(r:Tr)(s:Sc)(fi:FI)(o:Expr):Option (Mi Rr):=match KR o || fi.mu.headD true with
 |true=>r.E s o
 |false=>ME r s o
def Ii(s:Sc)(o:Expr):Option (Str×Pos×Nat):=match o with
 | .Name x p=>dg (s.lv.contains ("*nob" : Str)) (af (slot s x) λi=>some (x,p,i))
 |_=>none
theorem ou{s:Sc}{x:Str}(h:Ii s o=some (x,p,i)):o=.Name x p/\slot s x=some i:=by
 cases o<;>first|(exact cF h)|skip
 obtain⟨_,h⟩:=ai h;obtain⟨j,e,h⟩:=ab h;cases h;exact⟨rfl,e⟩
def t6(tb:Tb)(r:Tr)(s:Sc)(o:Expr)(m:Str)(args:List Expr)(c:Str)(fi:FI):Option (Mi Rr):=dg (!s.hd&&Sz args.length 20) (af (yV r s fi o) λmo=>af (B1 tb r s fi args) λma=>(match Ii s o with
 |some (_,_,i)=>some (aP (ba (eR (fR s 1 args (fi.mu.drop 1)) fi.m) (nA fi (args.length+1)) (dt (aQ c m i) ma)) (aP (ba (bH 0 (eR (fR s 1 args (fi.mu.drop 1)) fi.m)) (nA fi (args.length+1)) (dt (aQ c m i) ma)) (ba (eR (fR s 1 args (fi.mu.drop 1)) fi.m) (nA fi (args.length+1)) (dt (bP c m mo) ma))))
 | none=>some (ba (eR (fR s 1 args (fi.mu.drop 1)) fi.m) (nA fi (args.length+1)) (dt (bP c m mo) ma))))
def BR(tb:Tb)(r:Tr)(s:Sc)(o:Expr)(m:Str)(args:List Expr):List (Str×FI)->Option (Mi Rr)
 |[]=>none
 |[p]=>t6 tb r s o m args p.1 p.2
 |p::q::ps=>af (t6 tb r s o m args p.1 p.2) λa=>af (BR tb r s o m args (q::ps)) λb=>some (aP a b)
theorem pX(h:args.all notStar=true)(hl:args.length<=20)(pos:Pos)(env:Env):Yd (args.length+([]:List XW).length) (XI pos (XB args env)) (XY pos (XO [] env))=true:=by
 have:∀{es:List Expr},es.all notStar=true->(XI pos (XB es env)).all (λx=>!x.1)=true:=by
  intro es;induction es with
  |nil=>intro _;rfl
  |cons e es m=>intro h;simp only[Rg,QI] at h;rw[ax h.1];show (true&&(XI pos (XB es env)).all (λx=>!x.1))=true;rw[m h.2];rfl
 unfold Yd;simp only[this h];show (true&&(true&&decide (args.length+0+0<30)))=true;rw[show decide (args.length+0+0<30)=true from Zd (by exact Qj)];rfl
theorem nN(R:cK tb k r)(S:Sit tb k X E s){m:Mi Rr}{c:Str}{fi:FI}(hl:(apos.endLine==cpos.line)=true)(d:ox o=true)(hc:(mn,c,fi)∈tb.mts)(h:t6 tb r s o mn args c fi=some m):JE X E (.Call (.Attribute o mn apos) args [] cpos) m:=by
 obtain⟨L,h⟩:=ai h;rw[QI,Rv] at L;obtain⟨mo,e1,h⟩:=ab h;obtain⟨ma,e2,h⟩:=ab h;obtain⟨h1,e2⟩:=ai e2;rw[Zf] at h1;obtain⟨v,I,p⟩:=lh (λ_ _=>R.E S) (λ_ _=>pV R S) e2;obtain⟨C,u,fd,ps,F,hm,P,U,z⟩:=S.gd.mt _ _ _ hc;obtain⟨ds,dvs,B,H,Y⟩:=z.of (args.length+1);have ho:JE X E o mo:=by
  unfold yV at e1;split at e1
  .exact R.E S e1
  .exact pV R S e1
 have len:=RP L.2;have old:JE X E (.Call (.Attribute o mn apos) args [] cpos) (ba (eR (fR s 1 args (fi.mu.drop 1)) fi.m) (nA fi (args.length+1)) (dt (bP c mn mo) ma)):=by
  cases args with
  |nil=>cases e2;exact zB hm P U F (S.rm L.1) B H Y (S.ps L.1) ho (by simpa using h1) (bu d _ _ _) hl
  |cons a as=>have b:=p;rw[Rg,QI] at b;exact DJ hm P U (F.imp λ_ _ _ _ q=>iY.eR q) (S.rm L.1) B H Y (S.ps L.1) ho v (λZ rs O q=>by rw[I Z rs O q];exact h1) (bu d _ _ _) (pX p len _ _) hl (ax b.1 _ _) (dF b.2)
 split at h
 .rename_i x px i en;cases h;obtain⟨rfl,sl⟩:=ou en;obtain⟨a1,e,Q,y⟩:=S.slot sl;refine oX ?_ (oX ?_ old)
  .cases args with
   |nil=>cases e2;exact oR hm P U F (S.rm L.1) B H Y (S.ps L.1) a1 e Q y (by simpa using h1) (bu d _ _ _) hl
   |cons a as=>have b:=p;rw[Rg,QI] at b;exact rl hm P U (F.imp λ_ _ _ _ q=>iY.eR q) (S.rm L.1) B H Y (S.ps L.1) a1 e Q y v (λZ rs O q=>by rw[I Z rs O q];exact h1) (bu d _ _ _) (pX p len _ _) hl (ax b.1 _ _) (dF b.2)
  .cases args with
   |nil=>cases e2;exact oR hm P U (F.imp λ_ _ _ _ q=>iY.AE q) (S.rm L.1) B H Y (S.ps L.1) a1 e Q y (by simpa using h1) (bu d _ _ _) hl
   |cons a as=>have b:=p;rw[Rg,QI] at b;exact rl hm P U (F.imp λ_ _ _ _ q=>iY.eR (iY.AE q)) (S.rm L.1) B H Y (S.ps L.1) a1 e Q y v (λZ rs O q=>by rw[I Z rs O q];exact h1) (bu d _ _ _) (pX p len _ _) hl (ax b.1 _ _) (dF b.2)
 .cases h;exact old
theorem sG{r:Tr}(R:cK tb k r)(S:Sit tb k X E s){o:Expr}{mn:Str}{args:List Expr}{apos cpos:Pos}(hl:(apos.endLine==cpos.line)=true)(d:ox o=true):∀{cs:List (Str×FI)}{m:Mi Rr},(∀p∈cs,(mn,p.1,p.2)∈tb.mts)->BR tb r s o mn args cs=some m->JE X E (.Call (.Attribute o mn apos) args [] cpos) m
 |[],m,_,h=>by cases h
 |[p],m,hc,h=>nN R S hl d (hc p Q0) h
 |p::q::ps,m,hc,h=>by obtain⟨a,e1,h⟩:=ab h;obtain⟨b,e2,h⟩:=ab h;cases h;exact oX (nN R S hl d (hc p Q0) e1) (sG R S hl d (λx hx=>hc x (QP _ hx)) e2)
def BY(tb:Tb)(r:Tr)(s:Sc)(o:Expr)(m:Str)(apos:Pos)(args:List Expr)(cpos:Pos):Option (Mi Rr):=dg (apos.endLine==cpos.line&&ox o) (match Fq tb m with
 |p::ps=>BR tb r s o m args (p::ps)
 |[]=>match args with
 |[e]=>dg (notStar e) (MZ r s o m e)
 | _=>none)
theorem wO(R:cK tb k r)(S:Sit tb k X E s){m:Mi Rr}(h:BY tb r s o mn apos args cpos=some m):JE X E (.Call (.Attribute o mn apos) args [] cpos) m:=by
 have h':=ai h;clear h;obtain⟨L,h⟩:=h';simp only[QI] at L;split at h
 .rename_i p ps e;refine sG R S L.1 L.2 (λx hx=>?_) h;rw[<-e] at hx;unfold Fq at hx;obtain⟨⟨a,b⟩,h1,h2⟩:=UH.mp hx;simp only at h2;split at h2
  .rename_i z;cases h2;rw[Zf] at z;subst z;exact h1
  .cases h2
 split at h
 .have h':=ai h;clear h;obtain⟨hs,h⟩:=h';unfold MZ at h;split at h
  .rename_i z;rw[Zf] at z;split at h
   .obtain⟨i,e1,h⟩:=ab h;obtain⟨n,e2,h⟩:=ab h;obtain⟨a1,H,c,B⟩:=S.slot e1;cases h;subst z;exact xR a1 H c B (R.E S e2) rfl (MX hs _ _) L.1 (ax hs _ _) rfl
   .cases h
  .cases h
 .cases h
def stK:Const->Option (Mi Rr)
 | .none=>some (mC .non)
 | .bool b=>some (mC (.bl b))
 | .int i=>some (mC (.int i))
 | .str x=>some (mC (.str x))
 |_=>none
def Lf(m n:Mi Rr):Y5->Option (Mi Rr)
 | .Add=>some (ay aK m n)
 | .Sub=>some (ay fE m n)
 | .Mult=>some (ay bz m n)
 | .FloorDiv=>some (ay iI m n)
 | .Mod=>some (ay kW m n)
 | .Pow=>some (ay nF m n)
 |_=>none
theorem EN{a b:Expr}{m n:Mi Rr}{op:Y5}(h:Lf m n op=some q)(f:JE X E a m)(d:JE X E b n):JE X E (.BinOp a op b pos) q:=by
 cases op<;>first|(exact cF h)|skip
 .cases h;exact Dw f d
 .cases h;exact Hz f d
 .cases h;exact C7 f d
 .cases h;exact IG f d
 .cases h;exact HQ f d
 .cases h;exact Jv f d
def vW(r:Tr)(s:Sc)(a:Expr)(ops:List Yj)(bs:List Expr):Option (Mi Rr):=match ops,bs with
 |[op],[b]=>af (r.E s a) λm=>af (r.E s b) λn=>Po s op a b m n
 |_,_=>none
theorem qT(R:cK tb k r)(S:Sit tb k X E s){a:Expr}{ops:List Yj}{bs:List Expr}{m:Mi Rr}(h:vW r s a ops bs=some m):JE X E (.Compare a ops bs pos) m/\JT X E (.Compare a ops bs pos) (aj m):=by
 unfold vW at h;split at h
 .obtain⟨K,e1,h⟩:=ab h;obtain⟨L,e2,h⟩:=ab h;exact HY S h (R.E S e1) (R.E S e2)
 .cases h
def JL(tb:Tb)(r:Tr)(s:Sc)(f:Expr)(args:List Expr)(I:List XW)(cpos:Pos):Option (Mi Rr):=match I with
 |[]=>match f with
  | .Name f _=>B6 tb r s f args
  | .Attribute o m apos=>BY tb r s o m apos args cpos
  |_=>none
 |_::_=>none
theorem Em(R:cK tb k r)(S:Sit tb k X E s){f:Expr}{I:List XW}{m:Mi Rr}(h:JL tb r s f args I pos=some m):JE X E (.Call f args I pos) m:=by
 unfold JL at h;split at h
 .split at h
  .exact wx R S h
  .exact wO R S h
  .cases h
 .cases h
def PH(tb:Tb)(r:Tr)(s:Sc):Expr->Option (Mi Rr)
 | .Name x _=>match slot s x with
  |some i=>some (aa i)
  |none=>af (tb.cst.lookup x) λa=>dg (nJ s x) (some (mC a))
 | .Constant c _ _=>stK c
 | .BinOp a op b _=>af (r.E s a) λm=>af (r.E s b) λn=>Lf m n op
 | .UnaryOp op a _=>match op with
  | .USub=>af (r.E s a) λm=>some (aM a6 m)
  | .Not=>af (r.E s a) λm=>some (zJ m)
  |_=>none
 | .BoolOp op vs _=>O9 op (r.E s) vs
 | .Compare a ops bs _=>vW r s a ops bs
 | .IfExp t a b _=>af (r.T s t) λmt=>af (r.E s a) λm=>af (r.E s b) λn=>some (Nv mt m n)
 | .Tuple es _ _=>af (yf (r.E s) es) λm=>some (eJ m)
 | .List es _=>af (yf (r.E s) es) λm=>some (dj m)
 | .Subscript a b _=>yX r s a b
 | .Call f args kw cpos=>JL tb r s f args kw cpos
 | .Attribute o f _=>dg (ox o) (af (r.E s o) λm=>match Ii s o with
  |some (_,_,i)=>some (aP (aO (fA tb f) i f) (aM (au (fA tb f) f) m))
  | none=>some (aM (au (fA tb f) f) m))
 | .ListComp elt gs sc _=>oY r s elt gs sc
 |_=>none
theorem Hb(R:cK tb k r)(S:Sit tb k X E s){m:Mi Rr}(h:PH tb r s e=some m):JE X E e m:=by
 cases e with
 |Name x _=>
  have h:(match slot s x with
   |some i=>some (aa i)
   | none=>af (tb.cst.lookup x) λa=>dg (nJ s x) (some (mC a)))=some m:=h
  split at h
  .rename_i e1;cases h;obtain⟨a1,H,Z,B⟩:=S.slot e1;exact Jy a1 H Z B
  .obtain⟨a,e1,h⟩:=ab h;obtain⟨J,h⟩:=ai h;cases h;obtain⟨v,u,h1,h2,h3⟩:=S.gd.cs _ _ e1;exact DP (S.glob J).1 h1 h2 h3 (S.glob J).2
 |Constant c _ _=>
  cases c<;>first|(exact cF h)|skip
  .cases h;exact GB
  .cases h;exact ND
  .cases h;exact Jx
  .cases h;exact Hl
 |BinOp a op b _=>obtain⟨K,e1,h⟩:=ab h;obtain⟨L,e2,h⟩:=ab h;exact EN h (R.E S e1) (R.E S e2)
 |UnaryOp op a _=>
  cases op<;>first|(exact cF h)|skip
  .obtain⟨K,e1,h⟩:=ab h;cases h;exact HJ (R.E S e1)
  .obtain⟨K,e1,h⟩:=ab h;cases h;exact Kc (R.E S e1)
 |BoolOp op vs _=>exact A7 (λ_ _=>R.E S) h
 |Compare a ops bs _=>exact(qT R S h).1
 |IfExp t a b _=>obtain⟨mt,e1,h⟩:=ab h;obtain⟨K,e2,h⟩:=ab h;obtain⟨L,D,h⟩:=ab h;cases h;exact KI (R.T S e1) (R.E S e2) (R.E S D)
 |Tuple es _ _=>obtain⟨K,e1,h⟩:=ab h;cases h;exact Jo (lj (λ_ _=>R.E S) e1).1
 |List es _=>obtain⟨K,e1,h⟩:=ab h;cases h;exact IK (lj (λ_ _=>R.E S) e1).1
 |Dict z vs _=>cases h
 |Subscript a b _=>exact zQ R S h
 |Call f args I cpos=>exact Em R S h
 |Attribute o f _=>
  obtain⟨d,h⟩:=ai h;obtain⟨K,e1,h⟩:=ab h;split at h
  .rename_i x px i en;cases h;obtain⟨rfl,sl⟩:=ou en;obtain⟨a1,H,Z,B⟩:=S.slot sl;exact oX (BQ a1 H Z B (λc C=>S.gd.fl _ c C) (bu d _ _ _)) (vO (λc C=>S.gd.fl _ c C) (R.E S e1) (bu d _ _ _))
  .cases h;exact vO (λc C=>S.gd.fl _ c C) (R.E S e1) (bu d _ _ _)
 |ListComp elt gs sc _=>obtain⟨p,N,own,tg,iter,ifs,j,G,mt,l,rfl,rfl,q,Y,Q,y,O,w⟩:=nO R S h;exact Dh (S.cm p) q rfl Y Q y O w
 |JoinedStr es _=>cases h
 |_=>exact cF h
def Mw(r:Tr)(s:Sc):Expr->Option (Mi Bool)
 | .Compare a ops bs _=>af (vW r s a ops bs) λq=>some (aj q)
 | .UnaryOp .Not a _=>af (r.T s a) λm=>some (fS m)
 | .BoolOp op vs _=>OH op (r.T s) vs
 |e=>dg (plainT e) (af (r.E s e) λm=>some (aj m))
theorem zL(R:cK tb k r)(S:Sit tb k X E s){m:Mi Bool}(h:dg (plainT e) (af (r.E s e) λm=>some (aj m))=some m):JT X E e m:=by obtain⟨L,h⟩:=ai h;obtain⟨K,e1,h⟩:=ab h;cases h;exact Hu (R.E S e1) (tF L _)
theorem Cm(R:cK tb k r)(S:Sit tb k X E s){m:Mi Bool}(h:Mw r s e=some m):JT X E e m:=by
 cases e with
 |Compare a ops bs _=>obtain⟨q,e1,h⟩:=ab h;cases h;exact(qT R S e1).2
 |UnaryOp op a _=>cases op with
  |Not=>obtain⟨K,e1,h⟩:=ab h;cases h;exact Ja (R.T S e1)
  |_=>exact zL R S h
 |BoolOp op vs _=>exact NJ (zc (λ_ _=>R.T S) h)
 |_=>exact zL R S h
def tr(tb:Tb):Nat->Tr
 |0=>⟨λ_ _=>none,λ_ _=>none,λ_ _ _=>none⟩
 |n+1=>⟨λs e=>mU (xP tb (tr tb n) s e) (mU (PH tb (tr tb n) s e) (xE tb (tr tb n) s e)),λs e=>mU (xT tb (tr tb n) s e) (Mw (tr tb n) s e),xI tb (tr tb n)⟩
theorem jx:∀n,cK tb k (tr tb n)
 |0=>⟨λ_ h=>(by cases h),λ_ h=>(by cases h),λ_ h=>(by cases h)⟩
 | n+1=>⟨λS h=>by
   rcases bp h with h|h
   .exact K5 (jx n) S h
   rcases bp h with h|h
   .exact Hb (jx n) S h
   .exact LZ (jx n) S h,λS h=>by
   rcases bp h with h|h
   .exact MQ (jx n) S h
   .exact Cm (jx n) S h,λS h=>Lz (jx n) S h⟩
end
structure i6(tb:Tb)(k:Nat)(X:Cx)(E:XK)(s:Sc):Prop extends Sit tb k X E s where
 po:s.hd=false->Yu (XH X.prog X.w) X.A X.env X.xe
 st:s.hd=false->X.stack=X.env::X.outer/\X.env.frame=some X.env.locals/\X.ex=[]
 bk:X.env.blockKind=.function
noncomputable def NY:Expr->Bool
 | .Starred ..=>true
 |_=>false
def OZ(x y:Str)(px h:Pos)(a b:Expr):Bool:=x != y&&px.line==h.line&&notStar a&&notStar b&&!([a,b].all (foldedForSure 8))&&!([a,b].all (constantsAlone 8))
variable{py:Pos}{kt:Nat}
theorem Ll{x y:Str}{pt X:Pos}{l:Nat}{a b:Expr}(h:OZ x y px py a b=true)(hx:env.kindOf x=some .local)(hy:env.kindOf y=some .local)(d:env.blockKind=.function):
  X6 [.Tuple [.Name x px,.Name y py] kt pt] (.Tuple [a,b] l X) env=pure (some [x,y]):=by
 unfold OZ at h;simp only[QI,bne_iff_ne,ne_eq,Zf,Rv] at h;obtain⟨⟨⟨⟨⟨h1,h2⟩,h3⟩,h4⟩,h5⟩,t⟩:=h;have s1:(([a,b]:List Expr).any fun | .Starred ..=>true|_=>false)=false:=by
  rw[TJ];intro e he;have hn:notStar e=true:=by
   rcases QW.mp he with z|z
   .rw[z];exact h3
   .rw[Rc.mp z];exact h4
  cases e<;>first|(exact BG hn)|exact RF
 have E:(y==x)=false:=beq_eq_false_iff_ne.mpr λz=>h1 z.symm;have q:(x==y)=false:=beq_eq_false_iff_ne.mpr h1;unfold X6;have pn:∀(n:Str)(p:Pos),(Expr.Name n p).pos=p:=λ_ _=>rfl;simp[d,s1,hx,hy,pn,<-h2,h5,t,List.eraseDups_cons,E,q];intro z;exfalso;rcases z with z|z
 .cases a<;>first|(cases h3;done)|cases z
 .cases b<;>first|(cases h4;done)|cases z
noncomputable def vR:Expr->Bool
 | .Tuple _ _ _=>false
 |_=>true
theorem mf(h:vR e=true):X6 [tg] e env=pure none:=by cases tg<;>first|rfl|(cases e<;>first|rfl|cases h)
theorem gC{i:Expr}:X6 [.Subscript o i p] e env=pure none:=by cases e<;>rfl
theorem xO{i:Expr}{l:Nat}:XX e (some (.Subscript o i p)) l env=pure false:=by cases e<;>rfl
theorem ug{sc:Scope}{x:Str}{l:Nat}(h:env.kindOf x=some .cell):XX (.ListComp elt gs sc pos) (some (.Name x px)) l env=pure false:=by unfold XX;show (pure (env.blockKind==.function&&env.kindOf x==some .local&&px.line==pos.line&&!(sc.names.any λp=>p.1==x&&(p.2==.local || p.2==.cell))):Sem Bool)=pure false;simp only[h,show (some (NameKind.cell)==some (NameKind.local))=false from rfl,Uu,Va,Va]
theorem rT{t:Expr}(h:jJ e=true)(l:Nat)(env:Env):Ye [t] e l env=pure false:=j8 h (some t) l env
theorem jX{i:Expr}{l:Nat}:Ye [.Subscript o i p] e l env=pure false:=xO (e:=e) (o:=o) (i:=i) (p:=p) (l:=l) (env:=env)
theorem lC{i:Expr}(h:jW i=true)(v:Value):assign (.Subscript o i p) env v=(do
   let ov <- holding [v] (eval o env)
   let iv <- holding [v,ov] (eval i env)
   Ym p
   holding [v,ov,iv] (setItem ov iv v)
   release [v,ov,iv] []):=by cases i<;>first|rfl|cases h
variable{ts:List Expr}
section
variable{tb:Tb}{k:Nat}{X:Cx}{E:XK}{s:Sc}
def A0(r:Tr)(s:Sc)(x:Str)(px:Pos)(e:Expr):Option Ms:=af (iM s x) λi=>match e with
 | .ListComp elt gs sc pos=>match qy s x .local with
  |true=>dg (px.line==pos.line&&!(sc.names.any λp=>p.1==x&&(p.2==.local || p.2==.cell))) (af (oY r s elt gs sc) λm=>some (aE i m))
  |false=>af (r.E s e) λm=>some (aE i m)
 |e=>dg (jJ e) (af (r.E s e) λm=>some (aE i m))
theorem xQ(R:cK tb k r)(S:i6 tb k X E s){x:Str}{m:Ms}(h:A0 r s x px e=some m):JS X E (.Assign [.Name x px] e pos) m:=by
 obtain⟨i,e1,h⟩:=ab h;obtain⟨a1,H,c,b⟩:=S.iM e1;have hN:X.N.Nodup:=by rw[S.n];exact S.nd
 split at h
 .split at h
  .rename_i z;obtain⟨L,h⟩:=ai h;simp only[QI,Rv] at L;obtain⟨K,e2,h⟩:=ab h;have hl:X.env.scope.names.lookup x=some .local:=S.lc x (by unfold qy at z;simpa using z);obtain⟨u,N,own,tg,iter,ifs,v,G,mt,l,rfl,rfl,a,Y,Q,p,O,w⟩:=nO R S.toSit e2;cases h;exact Dx (S.cm u) a rfl hN a1 hl (tm S.bk hl L.1 L.2) Y Q p O w
  .rename_i z;obtain⟨K,e2,h⟩:=ab h;cases h;refine AY hN a1 H (R.E S.toSit e2) (ug ?_) b;obtain⟨g,_⟩:=ai e1;simp only[QI,tD,Su] at g;rcases g.1 with y|y
   .rw[y] at z;cases z
   .exact(S.ce x).1 (by unfold qy at y;simpa using y)
 .obtain⟨L,h⟩:=ai h;obtain⟨K,e2,h⟩:=ab h;cases h;exact AY hN a1 H (R.E S.toSit e2) (j8 L _ _ _) b
noncomputable def IA(e:Expr):Option (Expr×Expr):=match e with
 | .Tuple es _ _=>match es with
  |[a,b]=>some (a,b)
  |_=>none
 |_=>none
theorem wk{a b:Expr}(h:IA e=some (a,b)):∃c p,e=.Tuple [a,b] c p:=by
 cases e with
 |Tuple es c p=>match es,h with
  |[a,b],h=>cases h;exact⟨c,p,rfl⟩
 |_=>exact cF h
def HE(ts:List Expr):Option ((Str×Pos)×Str×Pos):=match ts with
 |[a,b]=>af (u3 a) λp=>af (u3 b) λq=>some (p,q)
 |_=>none
theorem wN{x y:Str}(h:HE ts=some ((x,px),y,py)):ts=[.Name x px,.Name y py]:=by
 match ts,h with
 |[a,b],h=>obtain⟨p,h1,h⟩:=ab h;obtain⟨q,h2,h⟩:=ab h;cases h;rw[cQ h1,cQ h2]
def ue(r:Tr)(s:Sc)(ts:List Expr)(e:Expr):Option Ms:=dg (vR e&&jJ e) (af (r.E s e) λm=>af (Cy s 0 9 (.Tuple ts 0 default)) λg=>some (K8 m g))
def BI(r:Tr)(s:Sc)(ts:List Expr)(e:Expr):Option Ms:=match HE ts with
 | some ((x,px),y,py)=>(match IA e with
  |some (a,b)=>dg (!s.hd&&qy s x .local&&qy s y .local&&okN x&&okN y&&OZ x y px py a b) (af (iM s x) λi=>af (iM s y) λj=>dg (i != j) (af (yf (r.E s) [a,b]) λm=>some (yT i j m)))
  | none=>ue r s ts e)
 |none=>ue r s ts e
theorem Ib{lo d:Nat}{n Q:Nat}{C:Pos}{g:Mg}(h:Cy s lo d (.Tuple ts n p)=some g):Cy s lo d (.Tuple ts Q C)=some g:=by
 cases d with
 |zero=>cases h
 |succ d=>exact h
theorem oF(R:cK tb k r)(S:i6 tb k X E s){pt:Pos}{m:Ms}(h:ue r s ts e=some m):JS X E (.Assign [.Tuple ts kt pt] e pos) m:=by obtain⟨L,h⟩:=ai h;simp only[QI] at L;obtain⟨K,e1,h⟩:=ab h;obtain⟨g,e2,h⟩:=ab h;cases h;exact GZ (R.E S.toSit e1) (oW S.toSit (Ib e2)) (rT L.2 _ _) (mf L.1) (hp:=λx y=>mR x y (rT L.2 _ _) (mf L.1))
theorem Bi(R:cK tb k r)(S:i6 tb k X E s){pt:Pos}{m:Ms}(h:BI r s ts e=some m):JS X E (.Assign [.Tuple ts kt pt] e pos) m:=by
 unfold BI at h;cases g:HE ts with
 |none=>rw[g] at h;exact oF R S h
 |some p=>
  obtain⟨⟨x,px⟩,y,py⟩:=p;rw[g] at h;dsimp only at h;cases l:IA e with
  |none=>rw[l] at h;exact oF R S h
  |some p=>
   obtain⟨a,b⟩:=p;simp only[l] at h;obtain⟨L,h⟩:=ai h;simp only[QI,Rv] at L;obtain⟨⟨⟨⟨⟨h1,h2⟩,h3⟩,_⟩,_⟩,h4⟩:=L;obtain⟨i,e1,h⟩:=ab h;obtain⟨j,e2,h⟩:=ab h;obtain⟨I,h⟩:=ai h;obtain⟨ma,D,h⟩:=ab h;cases h;obtain rfl:=wN g;obtain⟨c,p,rfl⟩:=wk l;have hN:X.N.Nodup:=by rw[S.n];exact S.nd
   have Q:=S.lc x (show s.nm.lookup _=_ by unfold qy at h2;simpa using h2);have T:=S.lc y (show s.nm.lookup _=_ by unfold qy at h3;simpa using h3);have q:i≠j:=by simpa using I
   exact Ir (lj (λ_ _=>R.E S.toSit) D).1 q (λy=>JX (S.cm h1) hN (S.iM e1).1 (S.iM e2).1 q Q T y (Ll h4 Q T S.bk))
def MC(r:Tr)(s:Sc)(x:Str)(u e:Expr):Option Ms:=af (slot s x) λi=>af (r.E s u) λmk=>af (r.E s e) λm=>dg (!s.hd&&jW u) (some (gq i mk m))
theorem CL(R:cK tb k r)(S:i6 tb k X E s){x:Str}{T:Pos}{u:Expr}{m:Ms}(h:MC r s x u e=some m):JS X E (.Assign [.Subscript (.Name x px) u T] e pos) m:=by obtain⟨i,e1,h⟩:=ab h;obtain⟨mk,e2,h⟩:=ab h;obtain⟨K,D,h⟩:=ab h;obtain⟨N,h⟩:=ai h;simp only[QI,Rv] at N;obtain⟨a1,H,c,b⟩:=S.slot e1;cases h;exact Bp a1 H c b (R.E S.toSit e2) (R.E S.toSit D) (λx y z=>mR z (qu x y set_list (lC N.2)) jX gC)
theorem oV{l:Nat}:XX e (some (.Attribute o f p)) l env=pure false:=by cases e<;>rfl
def Fw(tb:Tb)(r:Tr)(s:Sc)(t e:Expr):Option Ms:=match t with
 | .Name x px=>A0 r s x px e
 | .Tuple ts _ _=>BI r s ts e
 | .Subscript (.Name x _) ek _=>MC r s x ek e
 |_=>none
theorem AO(R:cK tb k r)(S:i6 tb k X E s){t:Expr}{m:Ms}(h:Fw tb r s t e=some m):JS X E (.Assign [t] e pos) m:=by
 cases t with
 |Name x px=>exact xQ R S h
 |Tuple ts _ _=>exact Bi R S h
 |Subscript b u _=>cases b with
  |Name x _=>exact CL R S h
  |_=>exact cF h
 |_=>exact cF h
end
section
variable{tb:Tb}{k:Nat}{X:Cx}{E:XK}{s:Sc}
def tX(F:Stmt->Option Ms):List Stmt->Option Ms
 |[]=>some cy
 |[a]=>F a
 |a::b::r=>af (F a) λm=>af (tX F (b::r)) λn=>some (ao m n)
theorem iC{F:Stmt->Option Ms}(h:∀a m,F a=some m->JS X E a m):∀{l:List Stmt}{m:Ms},tX F l=some m->qM X E l m
 |[],m,e=>by cases e;exact vG
 |[a],m,e=>uZ (h _ _ e)
 |a::b::r,m,e=>by obtain⟨K,e1,e⟩:=ab e;obtain⟨L,e2,e⟩:=ab e;cases e;exact rX (h _ _ e1) (iC h e2)
noncomputable def uJ(st:Stmt):Option (Expr×Expr×Pos):=match st with
 | .Assign ts e pos=>match ts with
  |[t]=>some (t,e,pos)
  |_=>none
 |_=>none
theorem ji{st:Stmt}{t:Expr}(h:uJ st=some (t,e,pos)):st=.Assign [t] e pos:=by
 cases st with
 |Assign ts k p=>
  rcases ts with _|⟨t',_|_⟩
  .cases h
  .cases h;rfl
  .cases h
 |_=>exact cF h
noncomputable def yS(e:Expr):Option (Expr×Str×Pos):=match e with
 | .Attribute o f p=>some (o,f,p)
 |_=>none
theorem lJ(h:yS e=some (o,f,p)):e=.Attribute o f p:=by
 cases e with
 |Attribute=>cases h;rfl
 |_=>exact cF h
def u9(tb:Tb)(r:Tr)(s:Sc)(_:Sc->Stmt->Option Ms)(st:Stmt):Option Ms:=af (uJ st) λ(t,e,_)=>mU
 (af (yS t) λ(o,f,_)=>af (u3 o) λ(x,_)=>dg (s.lv.contains ("*nob" : Str)) (af (slot s x) λi=>af (r.E s e) λm=>match s.lv.contains f with
  |true=>some (iQ (fA tb f) i f m)
  | false=>some (dG (fA tb f) i f m)))
 (af (oN t) λ(a,b,_)=>af (xx s a) λ(i,_,f,_,_)=>af (u3 b) λ(y,_)=>af (slot s y) λj=>af (r.E s e) λm=>some (fH (fA tb f) i f j m))
theorem tK{F:Sc->Stmt->Option Ms}(R:cK tb k r)(S:i6 tb k X E s)(V:∀K,Passes Ce X K->∀a m,F (Pa s) a=some m->JS X K a m){st:Stmt}{m:Ms}(h:u9 tb r s F st=some m):JS X E st m:=by
 obtain⟨⟨t,e,pos⟩,h1,w⟩:=ab h;clear h;obtain rfl:=ji h1;rcases bp w with z|z
 .clear w;obtain⟨⟨o,f,p⟩,h2,v⟩:=ab z;clear z;obtain rfl:=lJ h2;obtain⟨⟨x,px⟩,h3,B⟩:=ab v;clear v;obtain rfl:=cQ h3;obtain⟨_,H⟩:=ai B;clear B;obtain⟨i,e1,Y⟩:=ab H;clear H;obtain⟨q,e2,Z⟩:=ab Y;clear Y;obtain⟨a1,O,Q,G⟩:=S.slot e1;cases I:s.lv.contains f with
  |true=>rw[I] at Z;cases Z;exact Dp a1 O Q G (λc C=>S.gd.fl _ c C) (R.E S.toSit e2) oV
  |false=>rw[I] at Z;cases Z;exact Cs a1 O Q G (λc C=>S.gd.fl _ c C) (R.E S.toSit e2) oV
 .clear w;obtain⟨⟨a,b,T⟩,h2,v⟩:=ab z;clear z;obtain rfl:=fg h2;obtain⟨⟨i,x,f,px,P⟩,h3,B⟩:=ab v;clear v;obtain⟨rfl,a1,O,Q,G⟩:=fV S.toSit h3;obtain⟨⟨y,py⟩,h4,H⟩:=ab B;clear B;obtain rfl:=cQ h4;obtain⟨j,e1,Y⟩:=ab H;clear H;obtain⟨q,e2,Z⟩:=ab Y;cases Z;obtain⟨b1,b2,J,D⟩:=S.slot e1;exact wJ a1 O Q G b1 b2 J D (λc C=>S.gd.fl _ c C) (bu rfl _ _ _) (R.E S.toSit e2) (λx y z=>mR z (qu x y set_list (lC rfl)) jX gC)
def xS(tb:Tb)(r:Tr)(s:Sc)(F:Sc->Stmt->Option Ms)(st:Stmt):Option Ms:=mU (u9 tb r s F st) (none)
theorem Nw{F:Sc->Stmt->Option Ms}(R:cK tb k r)(S:i6 tb k X E s)(V:∀D,Passes Ce X D->∀a m,F (Pa s) a=some m->JS X D a m){st:Stmt}{m:Ms}(h:xS tb r s F st=some m):JS X E st m:=by
 rcases bp h with h|h
 .exact tK R S V h
 cases h
end
variable{base:Heap}{dV:Value}
section
variable{tb:Tb}{k:Nat}{X:Cx}{E:XK}{s:Sc}
def FA(r:Tr)(s:Sc)(tg it:Expr)(b:Ms):Option Ms:=dg (kz it) (af (O6 r s tg it) λm=>af (Cy s 0 9 tg) λG=>some (gQ m G b))
theorem zm(R:cK tb k r)(S:i6 tb k X E s)(N:s.hd=false){it:Expr}{body:List Stmt}{b m:Ms}(d:qM X E body b)(h:FA r s tg it b=some m):JS X E (.For tg it body [] pos) m:=by obtain⟨L,h⟩:=ai h;obtain⟨K,e1,h⟩:=ab h;obtain⟨G,e2,h⟩:=ab h;cases h;exact IX (S.po N) (S.cm N) (zA R S.toSit e1) (oW S.toSit e2) d (lU L _)
def AS(tb:Tb)(r:Tr)(s:Sc)(ts:List Expr)(e:Expr):Option Ms:=match ts with
 |[t]=>Fw tb r s t e
 |_=>none
def O7(tb:Tb)(r:Tr)(s:Sc)(ex ca:Option Expr):Option Ms:=some qJ
def Qr(tb:Tb)(r:Tr)(s:Sc)(F:Sc->Stmt->Option Ms):Stmt->Option Ms
 | .Assign ts e _=>AS tb r s ts e
 | .Return none _=>some Gh
 | .Return (some e) _=>af (r.E s e) λm=>some (bZ m)
 | .If t a b _=>af (r.T s t) λmt=>af (tX (F s) a) λm=>af (tX (F s) b) λn=>some (i7 mt m n)
 | .While t b els _=>dg (!s.hd&&els.isEmpty) (af (r.T s t) λmt=>af (tX (F s) b) λm=>some (gS Af mt m))
 | .For tg it b els _=>dg (!s.hd&&els.isEmpty) (af (tX (F s) b) λm=>FA r s tg it m)
 | .Raise ex ca _=>O7 tb r s ex ca
 | .Expr e _=>dg (jJ e) (af (r.E s e) λm=>some (c9 m))
 |_=>none
def Kl(tb:Tb)(r:Tr):Nat->Sc->Stmt->Option Ms
 |0,_,_=>none
 |d+1,s,st=>mU (xS tb r s (Kl tb r d) st) (Qr tb r s (Kl tb r d) st)
theorem i6.Mq{K:XK}(S:i6 tb k X E s)(h1:Passes Ce X K):i6 tb k X K (Pa s):=⟨⟨S.n,S.nd,S.gl,S.vs,S.lo,S.lc,S.ce,S.fx,S.cm,S.rm,λ_=>h1,S.gd⟩,S.po,S.st,S.bk⟩
theorem qm{r:Tr}(R:cK tb k r):∀{d:Nat}{X:Cx}{E:XK}{s:Sc}{st:Stmt}{m:Ms},i6 tb k X E s->Kl tb r d s st=some m->JS X E st m
 |0,X,E,s,st,m,S,h=>by cases h
 |d+1,X,E,s,st,m,S,h=>by
  have x:∀a m,Kl tb r d s a=some m->JS X E a m:=λa m e=>qm R S e;unfold Kl at h;have h':=bp h;clear h;rcases h' with h|h
  .exact Nw R S (λq h1 a m e=>qm R (S.Mq h1) e) h
  cases st with
  |Assign ts e _=>
   have h:AS tb r s ts e=some m:=h;unfold AS at h;split at h
   .exact AO R S h
   .cases h
  |Return v _=>cases v with
   |none=>cases h;exact D3
   |some e=>obtain⟨K,e1,h⟩:=ab h;cases h;exact Jl (R.E S.toSit e1)
  |If t a b _=>obtain⟨mt,e1,h⟩:=ab h;obtain⟨K,e2,h⟩:=ab h;obtain⟨V,D,h⟩:=ab h;cases h;exact NM (R.T S.toSit e1) (iC x e2) (iC x D)
  |While t b p _=>have h':=ai h;clear h;obtain⟨L,h⟩:=h';simp only[QI,Rv,Sa] at L;obtain⟨N,rfl⟩:=L;obtain⟨mt,e1,h⟩:=ab h;obtain⟨K,e2,h⟩:=ab h;cases h;exact B2 (S.po N) (R.T S.toSit e1) (iC x e2)
  |For tg it b p _=>have h':=ai h;clear h;obtain⟨L,h⟩:=h';simp only[QI,Rv,Sa] at L;obtain⟨N,rfl⟩:=L;obtain⟨K,e2,h⟩:=ab h;exact zm R S N (iC x e2) h
  |Raise ex ca _=>cases h;exact DS
  |Expr e _=>obtain⟨L,h⟩:=ai h;obtain⟨K,e1,h⟩:=ab h;cases h;exact DV (R.E S.toSit e1) (j8 L _ _ _)
  |Pass _=>cases h
  |Break _=>cases h
  |Continue _=>cases h
  |_=>exact cF h
structure DI where
 cl:Option Str
 name:Str
 st:Stmt
 N:List Str
 n:Nat
 di:List Str
 mu:List Bool
 df:List A
 lv:List Str
 m:Ms
 ce:List Str:=[]
 tp:Bool:=false
 sp:Bool:=false
 bo:Option (Nat×Nat×Nat×List Nat):=none
def DI.sc(d:DI):Sc:={ N:=d.N,nm:=(bC d.st).names,di:=d.di,ca:=[],hd:=false,lv:=d.lv }
def iq(d:DI):Bool:=(bC d.st).kind==.function&&!(bC d.st).isCoroutine&&!(bC d.st).isGenerator&&decide d.N.Nodup&&Sz d.n d.N.length&&(d.N.take d.n).all (λx=>(bC d.st).names.lookup x==some .local || (bC d.st).names.lookup x==some .cell)&&(bC d.st).names.all (λy=>y.2 != .free)
variable{d:DI}
theorem iy(h:iq d=true):jA d.N (d.N.take d.n) (bC d.st)/\(d.N.take d.n).length=d.n:=by
 unfold iq at h;simp only[QI,Zf,Rv,decide_eq_true_eq,R9,Su,bne_iff_ne,ne_eq] at h;obtain⟨⟨⟨⟨⟨⟨h1,h2⟩,h3⟩,h4⟩,h5⟩,t⟩,D⟩:=h;have hl:(d.N.take d.n).length=d.n:=by rw[RN];have:=RP h5;lia
 exact⟨⟨h1,h2,h3,h4,by rw[hl],t,D⟩,hl⟩
def DI.M(d:DI):Ms:=cG (d.N.length-d.n) d.m
noncomputable def DI.fi(d:DI):FI:=⟨d.n,d.M,d.mu,d.df,!d.ce.isEmpty⟩
noncomputable def DI.qual(d:DI):Str:=match d.cl with
 |none=>d.name
 |some c=>c++(("." : Str)++d.name)
def Tb.add(tb:Tb)(d:DI):Tb:=match d.cl with
 |none=>{ tb with fns:=(d.name,d.fi)::tb.fns }
 |some c=>match d.name==("__init__" : Str) with
  |true=>{ tb with fO:=(c,d.fi)::tb.fO }
  |false=>{ tb with mts:=(d.name,c,d.fi)::tb.mts }
noncomputable def sF:Nat:=40
noncomputable def F2:Ms:=λ_=>none
theorem AF{l:List Stmt}:qM X E l F2:=⟨λpins s Y H D I h=>by obtain⟨c,Z,B,θ,f,O,u,b,em,q⟩:=h;cases em⟩
def vD(tb:Tb)(r:Tr)(s:Sc)(a b:Stmt):Option Ms:=af (uJ a) λ(t,e,_)=>af (oN t) λ(G,h,_)=>af (u3 G) λ(x,_)=>af (u3 h) λ(y,_)=>
 af (uJ b) λ(T,e2,_)=>af (oN T) λ(u,O,_)=>af (oN u) λ(J,H,_)=>af (u3 J) λ(B,_)=>af (u3 H) λ(X,_)=>af (u3 O) λ(z,_)=>af (yS e2) λ(v,f,_)=>af (u3 v) λ(o,_)=>
 dg (s.lv.contains ("*nob" : Str)&&x==B&&y==X) (af (slot s x) λi=>af (slot s y) λj=>af (slot s z) λl=>af (slot s o) λq=>af (r.E s e) λm=>some (vQ (fA tb f) i j l q f m))
theorem tG(R:cK tb k r)(S:i6 tb k X E s){a b:Stmt}{m:Ms}(h:vD tb r s a b=some m):∃ta Z,PS X a ta/\PS X b Z/\∀D Y H,Km (kx X) E m D Y H->zI ta Z D Y H:=by
 obtain⟨⟨t,e,p1⟩,h1,L⟩:=ab h;clear h;obtain rfl:=ji h1;obtain⟨⟨x1,y1,p2⟩,h2,V⟩:=ab L;clear L;obtain rfl:=fg h2;obtain⟨⟨x,p3⟩,h3,P⟩:=ab V;clear V;obtain rfl:=cQ h3;obtain⟨⟨y,p4⟩,h4,I⟩:=ab P;clear P;obtain rfl:=cQ h4;obtain⟨⟨t2,e2,p5⟩,h5,A⟩:=ab I;clear I;obtain rfl:=ji h5;obtain⟨⟨u,z1,p6⟩,h6,J⟩:=ab A;clear A;obtain rfl:=fg h6;obtain⟨⟨x2,y2,p7⟩,h7,N⟩:=ab J;clear J;obtain rfl:=fg h7;obtain⟨⟨x',p8⟩,h8,U⟩:=ab N;clear N;obtain rfl:=cQ h8;obtain⟨⟨y',p9⟩,h9,n⟩:=ab U;clear U;obtain rfl:=cQ h9;obtain⟨⟨z,q1⟩,g1,B⟩:=ab n;clear n;obtain rfl:=cQ g1;obtain⟨⟨o1,f,q2⟩,g2,w⟩:=ab B;clear B;obtain rfl:=lJ g2;obtain⟨⟨o,q3⟩,g3,v⟩:=ab w;clear w;obtain rfl:=cQ g3;obtain⟨d,O⟩:=ai v;clear v;simp only[QI,QI,Zf,Zf] at d;obtain⟨⟨_,rfl⟩,rfl⟩:=d;obtain⟨i,e3,G⟩:=ab O;clear O;obtain⟨j,e4,K⟩:=ab G;clear G;obtain⟨l,e5,F⟩:=ab K;clear K;obtain⟨q,e6,g⟩:=ab F;clear F;obtain⟨m1,e7,T⟩:=ab g;clear g;cases T;obtain⟨a1,a2,a3,a4⟩:=S.slot e3;obtain⟨b1,b2,b3,b4⟩:=S.slot e4;obtain⟨c1,c2,c3,c4⟩:=S.slot e5;obtain⟨d1,d2,d3,d4⟩:=S.slot e6;exact⟨_,_,mR (R.E S.toSit e7).p (qu (bU a1 a2 a3 a4) (bU b1 b2 b3 b4) set_list (lC rfl)) jX gC,
  mR (fk (bU d1 d2 d3 d4) (bu rfl _ _ _)) (qu (yz qj (bU a1 a2 a3 a4) (bU b1 b2 b3 b4) (λ_ _=>rfl)) (bU c1 c2 c3 c4) set_list (lC rfl)) jX gC,
  wV (λc C=>S.gd.fl _ c C) λY H Q h=>h⟩
def EJ(P:Stmt->Stmt->Option Ms)(F:Stmt->Option Ms):List Stmt->Option Ms
 |[]=>some cy
 |[a]=>F a
 |a::b::r=>mU (af (P a b) λm=>af (EJ P F r) λn=>some (ao m n)) (af (F a) λm=>af (EJ P F (b::r)) λn=>some (ao m n))
theorem pI{P:Stmt->Stmt->Option Ms}{F:Stmt->Option Ms}(hp:∀a b m,P a b=some m->∃ta tb,PS X a ta/\PS X b tb/\∀D Y H,Km (kx X) E m D Y H->zI ta tb D Y H)(h:∀a m,F a=some m->JS X E a m):∀{l:List Stmt}{m:Ms},EJ P F l=some m->qM X E l m
 |[],m,e=>by cases e;exact vG
 |[a],m,e=>uZ (h _ _ e)
 |a::b::r,m,e=>by
  rcases bp e with e|e
  .obtain⟨K,e1,e⟩:=ab e;obtain⟨L,e2,e⟩:=ab e;cases e;obtain⟨ta,tb,x,p,w⟩:=hp _ _ _ e1;exact A1 x p w (pI hp h e2)
  .obtain⟨K,e1,e⟩:=ab e;obtain⟨L,e2,e⟩:=ab e;cases e;exact rX (h _ _ e1) (pI hp h e2)
def s9(tb:Tb)(d:DI):Option Ms:=match d.sp with
 |true=>some F2
 |false=>EJ (vD tb (tr tb sF) d.sc) (Kl tb (tr tb sF) sF d.sc) (fI d.st)
theorem Cr{m:Ms}(h:s9 tb d=some m)(S:i6 tb k X E d.sc):qM X E (fI d.st) m:=by
 unfold s9 at h;split at h
 .cases h;exact AF
 .have ok:∀{l:List Stmt}{m:Ms},tX (Kl tb (tr tb sF) sF d.sc) l=some m->qM X E l m:=λh=>iC (λa m e=>qm (jx sF) S e) h;exact pI (λa b m e=>tG (jx sF) S e) (λa m e=>qm (jx sF) S e) h
theorem F8{P:Program}{f:Addr}{qual:Str}(G:Gd tb k P w K mg base)(F:pz K d.name qual d.st f fd dV)(hs:iq d=true)
  (h:s9 tb d=some d.m):dP P w K mg base Ce (k+1) f fd (d.N.take d.n) (iY ⟨K,mg,P,w⟩ d.n d.M):=by
 obtain⟨S,hl⟩:=iy hs;have key:=Ec (CX:=Ce) (P:=P) (w:=w) (mg:=mg) (base:=base) (k:=k) (m:=d.m) F S (λcdv A outer s H E a=>Cr h (?_:i6 tb k _ E d.sc))
 .rw[hl] at key;exact key
 .refine⟨⟨rfl,S.nd,λx hx=>hx,λx hx=>?_,λx hx=>?_,λx hx=>hx,λx=>⟨λhx=>hx,.inr⟩,λx hx=>.inl rfl,λ_=>rfl,λ_=>a,λ_ _ _ _ _ _ _ _ x=>x.elim,G⟩,λ_=>Yu.leaving,λ_=>⟨rfl,rfl,rfl⟩,?_⟩
  .unfold DF qy DI.sc at hx;simp only[Su,Zf] at hx;rcases hx with (z|z)|z
   .exact .inl z
   .exact .inr (.inl z)
   .exact .inr (.inr z)
  .unfold tD qy DI.sc at hx;simp only[Su,Zf] at hx;exact hx
  .show (if (bC d.st).kind.isAnnotationScope then ScopeKind.function else (bC d.st).kind)=.function;rw[S.kind];rfl
end
theorem ux:∀{us:List Value}{n:Str},us.length=ps.length->n∈ps->((ps.zip us).lookup n).isSome=true:=by
 induction ps with
 |nil=>intro us n _ h;cases h
 |cons p ps m=>
  intro us n hl h;cases us with
  |nil=>cases hl
  |cons u us=>
   simp only[S3,Q2];split
   .rfl
   .rename_i z;rcases QW.mp h with y|y
    .rw[y,beq_self_eq_true] at z;cases z
    .exact m (by simpa using hl) y
theorem lS:∀{us:List Value}{pre:List (Str×Value)},us.length=ps.length->ps.Nodup->(∀n∈ps,pre.lookup n=none)->ps.filterMap (λn=>((pre++ps.zip us).lookup n).map (n,·))=ps.zip us:=by
 induction ps with
 |nil=>intro us pre _ _ _;rfl
 |cons p ps m=>
  intro us pre hl nd hp;cases us with
  |nil=>cases hl
  |cons u us=>
   obtain⟨d,F⟩:=Rl.mp nd;have e1:(pre++(p,u)::ps.zip us).lookup p=some u:=by simp only[RH,hp p Q0,Q2,beq_self_eq_true];rfl
   rw[S3,Tt,e1];show (p,u)::_=_
   congr 1
   have:=m (us:=us) (pre:=pre++[(p,u)]) (by simpa using hl) F (λn hn=>by simp only[RH,hp n (QP _ hn),Q2];have:(n==p)=false:=beq_eq_false_iff_ne.mpr λz=>d (z▸hn);rw[this];rfl)
   simpa[QN] using this
theorem kQ{α D:Type}{f:α->D->Sem (ForInStep D)}{g:D->α->D}(h:∀a b,f a b=pure (.yield (g b a))):∀(l:List α)(b:D),(forIn l b f:Sem D)=pure (l.foldl g b)
 |[],_=>rfl
 |a::l,b=>by rw[Wu,h,pure_bind];exact kQ h l _
noncomputable def qV(S:List (Str×Value))(x:Str×Value):List (Str×Value):=if (S.lookup x.1).isNone=true then S++[(x.1,x.2)] else S
variable{us:List Value}
theorem qi(h1:fd.params.posonlyargs=[])(h2:fd.params.kwonlyargs=[])(h3:fd.params.vararg=none)(h4:fd.params.kwarg=none)(t:fd.params.args.map (·.arg)=ps)(hl:us.length<=ps.length):
  ∃k,bindArgs fd ⟨us,[]⟩=seqItems? fd.defaults >>= k/\∀(o:Option (Array Value))(ds:List Value),(o.getD #[]).toList.drop ((o.getD #[]).toList.length-ps.length)=ds->
   (ps.take (ps.length-ds.length)).filter (λn=>((ps.zip us).lookup n).isNone)=[]->
   k o=pure ((ps++[]).filterMap λn=>((((ps.drop (ps.length-ds.length)).zip ds).foldl qV (ps.zip us)).lookup n).map (n,·)):=by
 obtain⟨nm,p,pr,bo,sc,gl,cl,de,q,e,pm,an,cd,ct,Z⟩:=fd;obtain⟨po,h,E,X,x,I,df⟩:=pr;obtain rfl:h.map (·.arg)=ps:=t;obtain rfl:po=[]:=h1;obtain rfl:X=[]:=h2;obtain rfl:E=none:=h3;obtain rfl:I=none:=h4;refine⟨_,rfl,λo ds hd hm=>?_⟩;subst hd;refine(Zb (λz=>?_)).trans ?_
 .rw[QI,decide_eq_true_eq] at z;exact absurd z.1 (Ul.mpr hl)
 refine(Zb (λz=>?_)).trans ?_
 .rw[Rv,List.isEmpty_eq_false_iff] at z;exact z hm
 refine(Ze (· >>= _) (kQ (g:=qV) (λa b=>?_) _ _)).trans ?_
 .unfold qV;by_cases z:(b.lookup a.1).isNone=true
  .rw[Za z];exact Za z
  .rw[Zb z];exact Zb z
 .exact rfl
theorem jE(hl:us.length=ps.length):ps.filter (λn=>((ps.zip us).lookup n).isNone)=[]:=by
 rw[SF];intro n hn;have:=ux hl hn;cases e:(ps.zip us).lookup n with
 |none=>rw[e] at this;cases this
 |some v=>exact RF
theorem rY(h1:fd.params.posonlyargs=[])(h2:fd.params.kwonlyargs=[])(h3:fd.params.vararg=none)(h4:fd.params.kwarg=none)(h5:fd.defaults=.none)(t:fd.params.args.map (·.arg)=ps)(nd:ps.Nodup)(hl:us.length=ps.length):
  bindArgs fd ⟨us,[]⟩=pure (ps.zip us):=by
 obtain⟨k,e1,e2⟩:=qi (us:=us) h1 h2 h3 h4 t (Uj hl);rw[e1,h5];refine(e2 none [] WI (by simp only[List.length_nil,VI,Wf];exact jE hl)).trans ?_;simp only[RT,List.zip_nil_right];have G:=lS (pre:=[]) hl nd (λn _=>rfl);simp only[Um] at G;exact Ze pure G
theorem A2:∀{us:List Value}{z:Str},z∉ps->(ps.zip us).lookup z=none:=by
 induction ps with
 |nil=>intro us z _;rfl
 |cons p ps m=>
  intro us z hz;cases us with
  |nil=>rfl
  |cons u us=>simp only[S3,Q2];have:(z==p)=false:=beq_eq_false_iff_ne.mpr λy=>hz (y▸Q0);rw[this];exact m λy=>hz (QP _ y)
theorem wU{qs:List Str}:∀{us:List Value},us.length=ps.length->(ps++qs).zip us=ps.zip us:=by
 induction ps with
 |nil=>intro us h;cases us with
  |nil=>cases qs<;>rfl
  |cons _ _=>cases h
 |cons p ps m=>intro us h;cases us with
  |nil=>cases h
  |cons u us=>simp only[SR,S3,S3,m (by simpa using h)]
theorem zY{s:Shared}{qs:List Str}{z:Str}{a:Addr}{o:Obj}{h:Value}{i:Nat}(h1:fd.params.posonlyargs=[])(h2:fd.params.kwonlyargs=[])(h3:fd.params.vararg=none)(h4:fd.params.kwarg=none)(h5:fd.defaults=.ref a)(ho:s.heap.get? a=some o)(hs:o.data=.seq #[h] i)
  (t:fd.params.args.map (·.arg)=qs++[z])(nd:(qs++[z]).Nodup):
  (us.length=(qs++[z]).length->YC s fd ⟨us,[]⟩ ((qs++[z]).zip us))/\(us.length=qs.length->YC s fd ⟨us,[]⟩ ((qs++[z]).zip (us++[h]))):=by
 have nz:z∉qs:=λy=>(QV.mp nd).2.2 z y z Q0 rfl;have e1:Wi (1-(qs++[z]).length) [h]=[h]:=by rw[show 1-(qs++[z]).length=0 by simp];rfl
 have e2:(qs++[z]).take ((qs++[z]).length - [h].length)=qs:=by simp
 have N:(qs++[z]).drop ((qs++[z]).length - [h].length)=[z]:=by simp
 refine⟨λhl=>?_,λhl=>?_⟩
 .obtain⟨k,S,l⟩:=qi (us:=us) h1 h2 h3 h4 t (Uj hl);refine .of_defaults h5 ho hs S ((l (some #[h]) [h] e1 ?_).trans ?_)
  .rw[e2,SF];exact λn hn=>SF.mp (jE hl) n (QM _ hn)
  .have E:¬ (((qs++[z]).zip us).lookup z).isNone=true:=SF.mp (jE hl) z (QK _ Q0);rw[N];have P:UI qV ((qs++[z]).zip us) ([z].zip [h])=(qs++[z]).zip us:=Zb E;rw[P,RT];exact Ze pure (lS (pre:=[]) hl nd (λn _=>rfl))
 .obtain⟨k,S,l⟩:=qi (us:=us) h1 h2 h3 h4 t (by simp only[hl,Q7];exact Si _ _);have hz:(qs++[z]).zip us=qs.zip us:=wU hl;refine .of_defaults h5 ho hs S ((l (some #[h]) [h] e1 ?_).trans ?_)
  .rw[e2,hz];exact jE hl
  .have B:(us++[h]).length=(qs++[z]).length:=by simp only[Q7,Q7,hl];rfl
   have C:(qs++[z]).zip (us++[h])=qs.zip us++[(z,h)]:=by rw[List.zip_append hl.symm];rfl
   rw[N,hz];have P:UI qV (qs.zip us) ([z].zip [h])=qs.zip us++[(z,h)]:=Za (by rw[A2 nz];rfl);simp only[P,<-C,RT];exact Ze pure (lS (pre:=[]) B nd (λn _=>rfl))
mutual
noncomputable def BJ(K:QJ):Nat->Value->A->Bool
 |0,_,_=>false
 |n+1,v,a=>match v,a with
  | .none,.non=>true
  | .bool b,.bl c=>b==c
  | .int i _,.int j=>i==j
  | .str x _,.str y=>x==y
  | .ref p,.tup as=>(match K.lookup p with
   |some ⟨.type "tuple",none,.seq its _,_⟩=>Sz its.size 1000&&qN K n its.toList as
   | _=>false)
  |_,_=>false
noncomputable def qN(K:QJ):Nat->List Value->List A->Bool
 |0,_,_=>false
 |_+1,[],[]=>true
 |n+1,v::vs,a::as=>BJ K n v a&&qN K n vs as
 |_+1,_,_=>false
end
mutual
theorem pB{P:Program}{w:XM}{K:QJ}{mg:Str->Option Value}:∀{n:Nat}{v:Value}{a:A},BJ K n v a=true->∃x,RelV x v/\∀G,RA ⟨K,mg,P,w⟩ G x a
 |0,v,a,h=>by cases h
 |n+1,v,a,h=>by
  cases v with
  |none=>cases a with
   |non=>exact⟨.non,rfl,λ_=>.non⟩
   |_=>exact BG h
  |bool b=>cases a with
   |bl c=>obtain rfl:b=c:=eq_of_beq h;exact⟨.bl _,rfl,λ_=>.bl _⟩
   |_=>exact BG h
  |int i t=>cases a with
   |int j=>obtain rfl:i=j:=eq_of_beq h;exact⟨.int _,⟨_,rfl⟩,λ_=>.int _⟩
   |_=>exact BG h
  |str x t=>cases a with
   |str y=>obtain rfl:x=y:=eq_of_beq h;exact⟨.str _,⟨_,rfl⟩,λ_=>.str _⟩
   |_=>exact BG h
  |ref p=>cases a with
   |tup as=>
    replace h:(match K.lookup p with
     |some ⟨.type "tuple",none,.seq X _,_⟩=>Sz X.size 1000&&qN K n X.toList as
     | _=>false)=true:=h
    split at h
    .rename_i X r sl e
     rw[QI] at h
     obtain⟨xs,h1,h2⟩:=rC (P:=P) (w:=w) (mg:=mg) h.2
     refine⟨.ref _,rfl,λG=>.tup (.inr ⟨_,X,_,e,⟨rfl,rfl⟩,rfl,?_,h1⟩) (h2 G)⟩
     have:=RP h.1
     have:=oH
     lia
    .cases h
   |_=>exact BG h
  |_=>exact BG h
theorem rC{P:Program}{w:XM}{K:QJ}{mg:Str->Option Value}:∀{n:Nat}{vs:List Value}{as:List A},qN K n vs as=true->∃xs,Vals xs vs/\∀G,bX ⟨K,mg,P,w⟩ G xs as
 |0,vs,as,h=>by cases h
 |_+1,[],[],h=>⟨[],.nil,λ_=>.nil⟩
 |n+1,v::vs,a::as,h=>by
  replace h:(BJ K n v a&&qN K n vs as)=true:=h
  rw[QI] at h
  obtain⟨x,h1,h2⟩:=pB (P:=P) (w:=w) (mg:=mg) h.1
  obtain⟨xs,h3,h4⟩:=rC (P:=P) (w:=w) (mg:=mg) h.2
  exact⟨x::xs,.cons h1 h3,λG=>.cons (h2 G) (h4 G)⟩
 |_+1,[],_::_,h=>by cases h
 |_+1,_::_,[],h=>by cases h
end
noncomputable def gV(K:QJ)(x:Str):Option Value:=match Vi K XJ x with
 |some (some v)=>some v
 |_=>none
variable{h:Heap}
theorem wc(X:K.In h)(G:h.Ns XJ mg){x:Str}{v:Value}(e:gV K x=some v):mg x=some v:=by
 unfold gV at e;split at e
 .rename_i q;cases e;exact PySem.W.mg_of X G q
 .cases e
def LK(K:QJ)(p:Str×A):Bool:=match gV K p.1 with
 |some v=>BJ K 20 v p.2
 |none=>false
noncomputable def pN(K:QJ)(C:Addr):Bool:=S7 K C Str.empty&&TB K C&&UB K C&&RW K (.ref C) "__setattr__" == some (some (.builtin "object.__setattr__"))
theorem oT{C:Addr}(h:pN K C=true):hW K C:=by unfold pN at h;simp only[QI,Zf] at h;obtain⟨⟨⟨h1,h2⟩,h3⟩,h4⟩:=h;exact⟨h1,h2,h3,h4⟩
def Mr(K:QJ)(p:Str×List Str):Bool:=match gV K p.1 with
 |some (.ref C)=>pN K C&&p.2.all λf=>RW K (.ref C) f==some none
 |_=>false
def E7(tb:Tb)(K:QJ):Bool:=tb.fns.isEmpty&&tb.cst.all (LK K)&&CP.all (λx=>Vi K XJ x==some none)&&tb.fld.all (Mr K)&&tb.fO.isEmpty&&tb.mts.isEmpty
variable{tb:Tb}
theorem IT{P:Program}(X:K.In h)(G:h.Ns XJ mg)(e:E7 tb K=true):Gd tb 1 P w K mg base:=by
 unfold E7 at e;simp only[QI,Sa,R9,Zf] at e;obtain⟨⟨⟨⟨⟨e1,e2⟩,N⟩,F⟩,H⟩,b⟩:=e;refine⟨λx f q=>(by rw[e1] at q;cases q),λx a q=>?_,λx q=>PySem.W.mg_none_of X G (N x q),λf c C q hm=>?_,λc f q=>(by rw[H] at q;cases q),λm c f q=>(by rw[b] at q;cases q)⟩
 .have:=e2 _ (eP q);unfold LK at this;split at this
  .rename_i v E;obtain⟨y,Z,Y⟩:=pB (P:=P) (w:=w) (mg:=mg) this;exact⟨y,v,wc X G E,Z,Y⟩
  .cases this
 .obtain⟨p,g,l⟩:=Rx.mp (SJ.mp q);obtain⟨z,r⟩:=Ug.mp g;have t:=F p z;subst l;unfold Mr at t;split at t
  .rename_i T E;have:=wc X G E;rw[hm] at this;cases this;simp only[QI,R9] at t;have:=t.2 f (SJ.mp r);exact⟨oT t.1,by simp only[Zf] at this;exact this⟩
  .cases t
def sN(d:DI):Bool:=(d5 d.st).posonlyargs.isEmpty&&(d5 d.st).kwonlyargs.isEmpty&&(d5 d.st).vararg.isNone&&(d5 d.st).kwarg.isNone&&(d5 d.st).args.map (·.arg)==d.N.take d.n
def JR(K:QJ)(dV:Value)(a:A):Bool:=match dV with
 | .ref td=>match K.lookup td with
  | some ⟨_,_,.seq its _,_⟩=>(match its.toList with
   |[v]=>BJ K 20 v a
   | _=>false)
  |_=>false
 |_=>false
def wM(K:QJ)(dV:Value):List A->Bool
 |[]=>match dV with
  | .none=>true
  |_=>false
 |[a]=>JR K dV a
 |_=>false
variable{d:DI}
theorem IS{P:Program}{qual:Str}{f:Addr}(h:sN d=true)(hs:iq d=true)(F:pz K d.name qual d.st f fd dV)(hd:wM K dV d.df=true):m6 P w K mg fd (d.N.take d.n) d.df:=by
 unfold sN at h;simp only[QI,Sa,RM,Zf] at h;obtain⟨⟨⟨⟨h1,h2⟩,h3⟩,h4⟩,h5⟩:=h;obtain⟨S,hl⟩:=iy hs;have nd:=S.nd.sublist (UR d.n d.N);obtain⟨T,X⟩:fd.params=d5 d.st/\fd.defaults=dV:=by obtain⟨oc,od,kV,doc,pm,an,cdv,ct,osl,e,_⟩:=F.ex;rw[e];exact⟨rfl,rfl⟩
 rw[<-T] at h1 h2 h3 h4 h5;clear F T S hl hs;cases e:d.df with
 |nil=>
  rw[e] at hd;have hd:dV=.none:=by cases dV<;>first|rfl|cases hd
  subst hd
  .intro j c;refine⟨[],[],Binds.all λus g=>rY h1 h2 h3 h4 X h5 nd g,.nil,λ_=>?_⟩;simp only[WI];exact .nil
 |cons a as=>
  cases as with
  |cons _ _=>rw[e] at hd;cases hd
  |nil=>
   rw[e] at hd
   replace hd:JR K dV a=true:=hd
   unfold JR at hd;split at hd
   .rename_i Y;split at hd
    .rename_i x y b i sl E;split at hd
     .rename_i v p;obtain⟨Z,r,o⟩:=pB (P:=P) (w:=w) (mg:=mg) hd;have hi:b=#[v]:=by rw[<-Wa,p]
      subst hi;have bo:∀(s:Shared)(us:List Value),K.In s.heap->((us.length=(d.N.take d.n).length->YC s _ ⟨us,[]⟩ ((d.N.take d.n).zip us))/\(us.length+1=(d.N.take d.n).length->YC s _ ⟨us,[]⟩ ((d.N.take d.n).zip (us++[v])))):=λs us H=>by
       rcases List.eq_nil_or_concat (d.N.take d.n) with z|⟨qs,B,z⟩
       .rw[z] at h5 ⊢;refine⟨λhl=>?_,λhl=>by cases hl⟩;cases us with
        |cons _ _=>cases hl
        |nil=>obtain⟨k,t,l⟩:=qi (us:=[]) h1 h2 h3 h4 h5 (QR 0);exact .of_defaults X (H _ _ E) rfl t (l (some #[v]) [] rfl rfl)
       .rw[List.concat_eq_append] at z;rw[z] at h5 nd ⊢;have:=zY (s:=s) (us:=us) h1 h2 h3 h4 X (H _ _ E) rfl h5 nd;exact⟨this.1,λq=>this.2 (by simpa using q)⟩
      intro j c;rcases Nat.le_one_iff_eq_zero_or_eq_one.mp c with rfl|rfl
      .exact⟨[v],[Z],λs us H g=>(bo s us H).2 (by simpa using g),.cons r .nil,λG=>.cons (o G) .nil⟩
      .exact⟨[],[],λs us H g=>by rw[RT] at g ⊢;exact(bo s us H).1 g,.nil,λG=>.nil⟩
     .cases hd
    .cases hd
   .cases hd
def v7:Tb->List DI->List (Option Ms)
 |_,[]=>[]
 |tb,d::ds=>s9 tb d::v7 (tb.add d) ds
def vq:Tb->List DI->Tb
 |tb,[]=>tb
 |tb,d::ds=>vq (tb.add d) ds
def iZ(K:QJ)(mg:Str->Option Value)(d:DI)(f:Addr):Prop:=match d.cl with
 |none=>mg d.name=some (.ref f)
 |some c=>∃C,mg c=some (.ref C)/\hW K C/\Meth K C d.name f/\(d.name=("__init__" : Str)->Mk K C f)
section
variable{P:Program}{w:XM}{K:QJ}{mg:Str->Option Value}{base:Heap}
theorem Gd.up{j k:Nat}(G:Gd tb j P w K mg base)(h:j<=k):Gd tb k P w K mg base:=⟨λx f e=>by
 obtain⟨a,fd,ps,F,r⟩:=G.fn x f e;exact⟨a,fd,ps,F.mono h,r⟩,G.cs,G.bl,G.fl,λc f e=>by
 obtain⟨C,a,fd,ps,i,hi,r⟩:=G.im c f e;exact⟨C,a,fd,ps,i,Rn hi h,r⟩,λm c f e=>by
 obtain⟨C,a,fd,ps,F,r⟩:=G.mt m c f e;exact⟨C,a,fd,ps,F.mono h,r⟩⟩
theorem Gd.add{tb:Tb}{k:Nat}(G:Gd tb k P w K mg base){d:DI}{f:Addr}{fd:XQ}{dV:Value}(m:iZ K mg d f)(F:pz K d.name d.qual d.st f fd dV)(hd:wM K dV d.df=true)(hs:iq d=true)(hp:sN d=true)
  (h:s9 tb d=some d.m):Gd (tb.add d) (k+2) P w K mg base:=by
 have G2:=G.up (show k<=k+2 by exact Si _ _);have a:=F8 G F hs h;have X:m6 P w K mg fd (d.N.take d.n) d.df:=IS hp hs F hd;unfold Tb.add;unfold iZ at m;split
 .rename_i hc;rw[hc] at m;refine⟨λx fi e=>?_,G2.cs,G2.bl,G2.fl,G2.im,G2.mt⟩
  .have e:((d.name,d.fi)::tb.fns).lookup x=some fi:=e;simp only[Q2] at e;cases z:x==d.name with
   |true=>rw[z] at e;cases e;rw[Zf] at z;subst z;exact⟨f,fd,_,a.mono (Ux _),m,F.kp,X⟩
   |false=>rw[z] at e;exact G2.fn x fi e
 .rename_i c hc;rw[hc] at m;obtain⟨C,E,L,q,b⟩:=m;split
  .rename_i z;simp only[Zf] at z;refine⟨G2.fn,G2.cs,G2.bl,G2.fl,λx fi e=>?_,G2.mt⟩;have e:((c,d.fi)::tb.fO).lookup x=some fi:=e;simp only[Q2] at e;cases y:x==c with
   |true=>rw[y] at e;cases e;simp only[Zf] at y;subst y;exact⟨C,f,fd,_,k+1,QR _,a,E,b z,X⟩
   |false=>rw[y] at e;exact G2.im x fi e
  .refine⟨G2.fn,G2.cs,G2.bl,G2.fl,G2.im,λx y fi e=>?_⟩;rcases QW.mp e with e|e
   .cases e;exact⟨C,f,fd,_,a.mono (Ux _),E,L,q,X⟩
   .exact G2.mt x y fi e
theorem Gd.all:∀{ds:List DI}{tb:Tb}{k:Nat},Gd tb k P w K mg base->(∀d∈ds,∃f fd dV,iZ K mg d f/\pz K d.name d.qual d.st f fd dV/\wM K dV d.df=true)->ds.all (λd=>iq d&&sN d)=true->v7 tb ds=ds.map (λd=>some d.m)->Gd (vq tb ds) (k+2*ds.length) P w K mg base
 |[],tb,k,G,_,_,_=>G
 |d::ds,tb,k,G,hf,hs,ht=>by simp only[Rg,QI,QI] at hs;obtain⟨S,T⟩:=List.cons.inj ht;obtain⟨f,fd,dV,m,F,hd⟩:=hf d Q0;have:=Gd.all (G.add m F hd hs.1.1 hs.1.2 S) (λe he=>hf e (QP _ he)) hs.2 T;simp only[QX,show k+2*(ds.length+1)=k+2+2*ds.length by lia];exact this
end
noncomputable abbrev An:=Str×Str×Arguments×YV×Scope×Addr×List (Str×Addr)×Addr×Bool
def LW(K:QJ)(d:DI):Option Addr:=match d.cl with
 |none=>match gV K d.name with
  |some (.ref f)=>some f
  |_=>none
 |some c=>match gV K c with
  |some (.ref C)=>match RW K (.ref C) d.name with
   |some (some (.ref f))=>some f
   |_=>none
  |_=>none
def NP(K:QJ)(d:DI)(f:Addr):Bool:=match d.cl with
 |none=>true
 |some c=>match gV K c with
  |some (.ref C)=>pN K C&&UA K (.ref f)&&(!(d.name==("__init__" : Str)) || (UX K C&&Se K (.ref C)))
  |_=>false
def J0(K:QJ)(d:DI):Option An:=match LW K d with
 |some f=>match K.lookup f with
  |some ⟨_,_,.func x,_⟩=>some (x.name,x.qualname,x.params,x.body,x.scope,x.globals,x.closure,x.builtins,Uk K x.code d.qual&&Se K (.ref f)&&wM K x.defaults d.df&&NP K d f)
  |_=>none
 |none=>none
def Jt(d:DI):Option An:=some (d.name,d.qual,d5 d.st,.stmts (fI d.st),bC d.st,XJ,[],Yy,true)
theorem Dl(X:K.In h)(G:h.Ns XJ mg)(e:J0 K d=Jt d):∃f fd dV,iZ K mg d f/\pz K d.name d.qual d.st f fd dV/\wM K dV d.df=true:=by
 unfold J0 Jt at e;split at e
 .rename_i f H;split at e
  .rename_i a1 O x Q w;obtain⟨b1,b2,J,D,V,t,v,i,j,p,q,b,Z,Y,r⟩:=x;simp only[Vr,Prod.mk.injEq] at e;obtain⟨rfl,rfl,rfl,rfl,rfl,rfl,rfl,rfl,E⟩:=e;simp only[QI] at E;obtain⟨⟨⟨o,n⟩,s⟩,T⟩:=E;refine⟨f,_,_,?_,⟨⟨_,_,_,_,_,_,_,_,_,rfl,w,o⟩,n⟩,s⟩;unfold iZ;unfold LW at H;unfold NP at T;split
   .rename_i hc;rw[hc] at H;simp only at H;split at H
    .rename_i B P;cases H;exact wc X G P
    .cases H
   .rename_i c hc;rw[hc] at H T;simp only at H T;split at H
    .rename_i C P;rw[P] at T;simp only[QI,Su,Rv,beq_eq_false_iff_ne] at T;split at H
     .rename_i B a;cases H;refine⟨C,wc X G P,oT T.1.1,⟨a,T.1.2,n⟩,λz=>?_⟩;rcases T.2 with y|y
      .exact absurd z y
      .rw[z] at a;exact⟨y.1,a,T.1.2,y.2⟩
     .cases H
    .cases H
  .cases e
 .cases e
def Kv(ds:List DI)(Y:QJ->Bool)(K:QJ):List (Option An)×Bool:=(ds.map (J0 K),Y K)
def Ky(ds:List DI):List (Option An)×Bool:=(ds.map Jt,true)
def hk(ds:List DI)(Y:QJ->Bool):Wx where
 α:=List (Option An)×Bool
 obs:=λs=>Kv ds Y (W.iu s.heap)
 val:=λ_=>Ky ds
 says:=λ_ h=>∃K:QJ,Kv ds Y K=Ky ds/\K.In h
 of:=λ_ s e=>⟨W.iu s.heap,e,W.mq _⟩
 keeps:=λ_ _ _ ⟨K,e,i⟩ k=>⟨K,e,i.keeps k⟩
variable{ds:List DI}
theorem Ee{Y:QJ->Bool}(X:K.In h)(G:h.Ns XJ mg)(e:Kv ds Y K=Ky ds):Y K=true/\∀d∈ds,∃f fd dV,iZ K mg d f/\pz K d.name d.qual d.st f fd dV/\wM K dV d.df=true:=by obtain⟨e1,e2⟩:=Prod.mk.inj e;exact⟨e2,λd hd=>Dl X G (List.map_eq_map_iff.mp e1 d hd)⟩
theorem yY{l:V5}{q:Program}{loose:List Str}{XP:(Str->Option Value)->Heap->Prop}{d:DefRec}{x:Str}{di:DI}(hn:l.most=some 63)(y:d.params.defaults=[])(dn:d.name = "law")
  (hs:(ds++[di]).all (λd=>iq d&&sN d)=true)(O:v7 tb ds=ds.map (λd=>some d.m))(hl:s9 (vq tb ds) di=some di.m)(c:di.name = "law")(r:di.cl=none)(B:di.df=[])(hx:di.N.take di.n=[x])(H:dd (2+2*ds.length) YG)
  (hm:∀ns:List Int,ns.length<=63->∃Z,di.M [.fr (.lst (ns.map A.int))]=some (.rt (.fr (.bl true)),Z)):
  Wh q loose XP (hk (ds++[di]) (E7 tb)).says l.row.toRowW d [] (λf vs=>VV f vs):=by
 refine W.xo (CX:=Ce) (l:=l) (n:=63) (k:=2+2*ds.length) (x:=x) (sp:=zK) hn Z2 y H (λw mg F h Y G p=>?_) (λ_ _ _ _ _ z=>z) (λ_ _ a ns hl _ R=>⟨a,ns,rfl,R,hl,λ_=>rfl⟩);obtain⟨K,e,D⟩:=Y;obtain⟨e1,e2⟩:=Ee D G e;refine⟨K,D,?_⟩;rw[List.all_append,QI] at hs;obtain⟨f,fd,dV,b,Q,E⟩:=e2 di (QK _ Q0);rw[B] at E;have E:dV=.none:=by cases dV<;>first|rfl|cases E
 subst E;unfold iZ at b;rw[dn] at p;rw[r] at b;simp only at b;rw[c,p] at b;cases b;have X:=R9.mp hs.2 di Q0;simp only[QI] at X;have C:di.n=1:=by have:=(iy X.1).2;rw[hx] at this;exact this.symm
 refine⟨fd,λs u=>?_,λbase _ _=>?_⟩
 .obtain⟨oc,od,kV,doc,pm,an,cdv,ct,osl,rfl,g,i⟩:=Q.ex;obtain⟨S,j⟩:=iy X.1;have hp:=X.2;unfold sN at hp;simp only[QI,Sa,RM,Zf] at hp;obtain⟨⟨⟨⟨h1,h2⟩,h3⟩,h4⟩,h5⟩:=hp;have:=rY (fd:=UC di.name di.qual (d5 di.st) (fI di.st) (bC di.st) .none kV doc pm an cdv ct) (us:=[u]) h1 h2 h3 h4 rfl h5 (S.nd.sublist (UR _ _)) (by rw[hx];rfl);simp only[hx] at this;exact .of_eq this
 .have o:=Gd.all (IT (P:=l.prog) (w:=w) (base:=base) D G e1) (λd hd=>e2 d (QM _ hd)) hs.1 O;have v:=F8 o Q X.1 hl;rw[hx,C,show 1+2*ds.length+1=2+2*ds.length by lia] at v;exact Jw v hm
end M
set_option maxHeartbeats 4000000
namespace W
open PySem L2 M
noncomputable def top(i:Nat):Stmt:=PySem.Challenge.pw_fitwhatever_k34_bests_that_are_known.main.body.getD i (.Pass ⟨0,0,0,0⟩)
def topC(i j:Nat):Stmt:=match top i with
 | .ClassDef _ _ _ b _ _ _ _ _ _ _=>b.getD j (.Pass ⟨0,0,0,0⟩)
 |s=>s
abbrev mix(m n:Mi Rr):Mi Rr:=ay DC m n
abbrev aC(i:Int):Mi Rr:=mC (.int i)
abbrev aX(f:Ms)(m:Mi (List Rr)):Mi Rr:=ba f [] m
abbrev uW(t:Mi Bool):Ms:=i7 t (bZ (mC (.bl false))) cy
abbrev cC(a:Mi Rr):Mi (List Rr):=dt a kS
abbrev cq(a b:Mi Rr):Mi (List Rr):=dt a (cC b)
abbrev eQ(a b c:Mi Rr):Mi (List Rr):=dt a (cq b c)
abbrev E5(a b c d:Mi Rr):Mi (List Rr):=dt a (eQ b c d)
def kJ:Ms:=ao (aE 2 (aC 0)) (ao (i7 (aj (ay k9 (aa 1) (cE dy (aa 0)))) (aE 2 (mix (aa 0) (aa 1))) cy) (bZ (dj (eQ (cE nj (ay E6 (cE AW (aa 2)) (ay nF (aC 10) (aC 18)))) (aa 2) (ay bz (aC 17) (aa 1))))))
def fG:Ms:=cG 1 kJ
def ie:Ms:=bZ (cE ud (aH 2 (gN (aa 0) (aa 1)) (fN 2 (bL (aL 2) (bL (aL 3) fm))) aF (ay bz (aa 2) (aa 3))))
def aR:Ms:=cG 0 ie
def jY:Ms:=ao (dG ["Board"] 0 "long" (cE dy (aa 1))) (ao (dG ["Board"] 0 "many" (cE dy (aa 2))) (ao (dG ["Board"] 0 "scale" (aC 1)) (ao (iQ ["Board"] 0 "across" (lV (aP (aO ["Board"] 0 "long") (aM (au ["Board"] "long") (aa 0))))) (ao (iQ ["Board"] 0 "down" (mT (aP (aO ["Board"] 0 "long") (aM (au ["Board"] "long") (aa 0))) (ay aK (aP (aO ["Board"] 0 "long") (aM (au ["Board"] "long") (aa 0))) (aP (aO ["Board"] 0 "many") (aM (au ["Board"] "many") (aa 0)))))) (ao (iQ ["Board"] 0 "grid" (aH 2 (gN (aa 2) (aa 3)) (fN 2 (bL (aL 4) (bL (aL 5) fm))) aF (ay aK (cE da (aa 4)) (dj (cC (aa 5)))))) (c9 (m9 ["Board"] 0 "grid" (ay aK (aH 1 (cJ (aa 1)) (aL 4) aF (aM a6 (aa 4))) (dj (cC (aC 0)))))))))))
def dE:Ms:=cG 0 jY
def ip:Ms:=bZ (ay aK (ay bz (aM (au ["Board"] "scale") (aa 0)) (aM (au ["Board"] "scale") (aa 0))) (cE ud (aH 1 (cJ (bT (aM (au ["Board"] "grid") (aa 0)) aB (aT (aM a6 (aC 1))))) (aL 2) aF (ay bz (mix (aa 2) (aa 1)) (mix (aa 2) (aa 1))))))
def fB:Ms:=cG 0 ip
def fX:Ms:=ao (aE 2 (mC .non)) (ao (aE 3 (eJ (cq (aC 0) (aC 1)))) (ao (gQ (vH (aa 1)) (fN 2 (bL (aL 4) (bL (aL 5) fm))) (i7 (aj (ay sd (aa 5) (aC 0))) (ao (aE 6 (eJ (cq (ay bz (aa 5) (aa 5)) (aX fB (cq (bP "Board" "stride" (ag 0)) (ag 4)))))) (i7 (aj (ay sd (ay bz (mix (aa 6) (aC 0)) (mix (aa 3) (aC 1))) (ay bz (mix (aa 3) (aC 0)) (mix (aa 6) (aC 1))))) (ao (aE 2 (aa 4)) (aE 3 (aa 6))) cy)) cy)) (bZ (aa 2))))
def bN:Ms:=cG 5 fX
def gX:Ms:=ao (i7 (aj (ay (xK false) (aa 2) (aM (au ["Board"] "across") (aa 0)))) (bZ (mix (mix (aM (au ["Board"] "grid") (aa 0)) (aa 1)) (vt (aM (au ["Board"] "across") (aa 0)) (aa 2)))) cy) (bZ (Nv (aj (ay gw (mix (aM (au ["Board"] "down") (aa 0)) (aa 1)) (aa 2))) (aM (au ["Board"] "scale") (aa 0)) (aC 0)))
def cv:Ms:=cG 0 gX
def g9:Ms:=ao (aE 4 (ay bz (mix (mix (aM (au ["Board"] "grid") (aa 0)) (aa 1)) (aM a6 (aC 1))) (mix (mix (aM (au ["Board"] "grid") (aa 0)) (aa 2)) (aa 3)))) (ao (aE 5 (ay bz (mix (mix (aM (au ["Board"] "grid") (aa 0)) (aa 2)) (aM a6 (aC 1))) (mix (mix (aM (au ["Board"] "grid") (aa 0)) (aa 1)) (aa 3)))) (ao (i7 (aj (ay iX (aa 4) (aa 5))) (bZ (ay k9 (aa 4) (aa 5))) cy) (ao (gQ (qG (aM (au ["Board"] "long") (aa 0)) (ay aK (aM (au ["Board"] "long") (aa 0)) (aM (au ["Board"] "many") (aa 0)))) (aL 6) (ao (aE 4 (ay bz (aX cv (eQ (bP "Board" "top_of" (ag 0)) (ag 1) (ag 6))) (mix (mix (aM (au ["Board"] "grid") (aa 0)) (aa 2)) (aa 3)))) (ao (aE 5 (ay bz (aX cv (eQ (bP "Board" "top_of" (ag 0)) (ag 2) (ag 6))) (mix (mix (aM (au ["Board"] "grid") (aa 0)) (aa 1)) (aa 3)))) (i7 (aj (ay iX (aa 4) (aa 5))) (bZ (ay k9 (aa 4) (aa 5))) cy)))) (bZ (mC (.bl false))))))
def fc:Ms:=cG 3 g9
def iR:Ms:=ao (aE 2 (mC .non)) (ao (gQ (cD (aM (au ["Board"] "many") (aa 0))) (aL 3) (i7 (iK (aj (ay sd (mix (mix (aM (au ["Board"] "grid") (aa 0)) (aa 3)) (aa 1)) (aC 0))) (j7 (aj (ay (qx false) (aa 2) (mC .non))) (aj (aX fc (E5 (ag 0) (ag 3) (ag 2) (ag 1)))))) (aE 2 (aa 3)) cy)) (bZ (aa 2)))
def bh:Ms:=cG 2 iR
def jU:Ms:=ao (aE 4 (mix (aa 1) (aa 2))) (ao (aE 5 (mix (aa 0) (aa 2))) (ao (i7 (aj (ay gw (aa 5) (aC 0))) (bZ (aH 1 (cJ (aa 0)) (aL 7) aF (ay iI (ay bz (aa 4) (aa 7)) (aa 3)))) cy) (ao (aE 6 (aH 2 (gN (aa 0) (aa 1)) (fN 2 (bL (aL 7) (bL (aL 8) fm))) aF (ay iI (ay fE (ay bz (aa 4) (aa 7)) (ay bz (aa 5) (aa 8))) (aa 3)))) (ao (gq 6 (aa 2) (aM a6 (aa 5))) (bZ (aa 6))))))
def eX:Ms:=cG 3 jU
def gY:Ms:=bZ (aH 1 (cJ (aa 0)) (aL 1) aF (aM a6 (aa 1)))
def aS:Ms:=cG 0 gY
def ju:Ms:=ao (aE 3 (mix (aP (aO ["Board"] 0 "grid") (aM (au ["Board"] "grid") (aa 0))) (aa 1))) (ao (aE 4 (aH 1 (cJ (aP (aO ["Board"] 0 "grid") (aM (au ["Board"] "grid") (aa 0)))) (aL 6) aF (aX eX (E5 (ag 6) (ag 3) (ag 2) (aP (aO ["Board"] 0 "scale") (aM (au ["Board"] "scale") (aa 0))))))) (ao (vQ ["Board"] 4 1 2 0 "scale" (cE da (aa 3))) (ao (dG ["Board"] 0 "scale" (mix (aa 3) (aa 2))) (ao (dG ["Board"] 0 "grid" (aa 4)) (ao (i7 (aj (ay k9 (aP (aO ["Board"] 0 "scale") (aM (au ["Board"] "scale") (aa 0))) (aC 0))) (ao (dG ["Board"] 0 "scale" (aM a6 (aP (aO ["Board"] 0 "scale") (aM (au ["Board"] "scale") (aa 0))))) (dG ["Board"] 0 "grid" (aH 1 (cJ (aa 4)) (aL 6) aF (aX aS (cC (ag 6)))))) cy) (ao (aE 5 (pK ["Board"] 0 "across" (xV 2))) (ao (fH ["Board"] 0 "across" 2 (pK ["Board"] 0 "down" (xV 1))) (fH ["Board"] 0 "down" 1 (aa 5)))))))))
def aI:Ms:=cG 3 ju
def fT:Ms:=ao (gS Af (aj (ay iX (aa 1) (aC 0))) (ao (aE 2 (ay kW (aa 0) (aa 1))) (ao (aE 0 (aa 1)) (aE 1 (aa 2))))) (bZ (aa 0))
def fY:Ms:=cG 1 fT
def gR:Ms:=ao (aE 2 (aX fY (cq (ag 0) (ag 1)))) (bZ (eJ (cq (ay iI (aa 0) (aa 2)) (ay iI (aa 1) (aa 2)))))
def cL:Ms:=cG 1 gR
def eS:Ms:=ao (aE 2 (aH 1 (cD (aM (au ["Board"] "long") (aa 0))) (aL 5) aF (mC (.tup [.int 0,.int 1])))) (ao (gQ (gN (aM (au ["Board"] "down") (aa 0)) (aa 1)) (fN 2 (bL (aL 3) (bL (aL 4) fm))) (i7 (aj (ay k9 (aa 3) (aM (au ["Board"] "long") (aa 0)))) (gq 2 (aa 3) (aX cL (cq (ag 4) (aM (au ["Board"] "scale") (aa 0))))) cy)) (bZ (cE mK (aa 2))))
def cI:Ms:=cG 3 eS
def iS:Ms:=bZ (aX cI (cq (bP "Board" "spread_down" (aa 0)) (dS (aH 1 (cJ (aM (au ["Board"] "grid") (aa 0))) (aL 1) aF (mix (aa 1) (aM a6 (aC 1)))))))
def bG:Ms:=cG 0 iS
def gU:Ms:=ao (aE 2 (aH 1 (cD (aM (au ["Board"] "many") (aa 0))) (aL 5) aF (mC (.tup [.int 0,.int 1])))) (ao (gQ (gN (aM (au ["Board"] "across") (aa 0)) (aa 1)) (fN 2 (bL (aL 3) (bL (aL 4) fm))) (i7 (aj (ay E6 (aa 3) (aM (au ["Board"] "long") (aa 0)))) (gq 2 (ay fE (aa 3) (aM (au ["Board"] "long") (aa 0))) (aX cL (cq (ag 4) (aM (au ["Board"] "scale") (aa 0))))) cy)) (bZ (cE mK (aa 2))))
def aZ:Ms:=cG 3 gU
def kM:Ms:=ao (aE 2 (cE da (aX cI (cq (bP "Board" "spread_down" (aa 0)) (dS (aH 1 (cJ (aM (au ["Board"] "grid") (aa 0))) (aL 3) aF (aM a6 (mix (aa 3) (aa 1))))))))) (ao (i7 (aj (ay k9 (mix (aM (au ["Board"] "across") (aa 0)) (aa 1)) (aM (au ["Board"] "long") (aa 0)))) (gq 2 (mix (aM (au ["Board"] "across") (aa 0)) (aa 1)) (mC (.tup [.int 1,.int 1]))) cy) (bZ (cE mK (aa 2))))
def cX:Ms:=cG 1 kM
def oK:Ms:=gS Af (aj (mC (.bl true))) (ao (aE 1 (ba (bH 0 bN) [] (cq (aa 0) (aX aS (cC (dS (bT (mix (aP (aO ["Board"] 0 "grid") (aM (au ["Board"] "grid") (aa 0))) (aM a6 (aC 1))) aB (aT (aM a6 (aC 1)))))))))) (ao (i7 (aj (ay (qx false) (aa 1) (mC .non))) (ao (aE 2 (aX cL (cq (mix (mix (aP (aO ["Board"] 0 "grid") (aM (au ["Board"] "grid") (aa 0))) (aM a6 (aC 1))) (aM a6 (aC 1))) (aP (aO ["Board"] 0 "scale") (aM (au ["Board"] "scale") (aa 0)))))) (bZ (eJ (E5 (mC (.str "best")) (aa 2) (aP (aX bG (cC (aQ "Board" "point" 0))) (aP (ba (bH 0 bG) [] (cC (aQ "Board" "point" 0))) (aX bG (cC (bP "Board" "point" (aa 0)))))) (aP (aX aZ (cq (aQ "Board" "prices" 0) (mix (aP (aO ["Board"] 0 "grid") (aM (au ["Board"] "grid") (aa 0))) (aM a6 (aC 1))))) (aP (ba (bH 0 aZ) [] (cq (aQ "Board" "prices" 0) (mix (aP (aO ["Board"] 0 "grid") (aM (au ["Board"] "grid") (aa 0))) (aM a6 (aC 1))))) (aX aZ (cq (bP "Board" "prices" (aa 0)) (mix (aP (aO ["Board"] 0 "grid") (aM (au ["Board"] "grid") (aa 0))) (aM a6 (aC 1))))))))))) cy) (ao (aE 3 (ba (bH 0 bh) [] (cq (aa 0) (ag 1)))) (ao (i7 (aj (ay (qx false) (aa 3) (mC .non))) (bZ (eJ (eQ (mC (.str "open")) (aP (aX bG (cC (aQ "Board" "point" 0))) (aP (ba (bH 0 bG) [] (cC (aQ "Board" "point" 0))) (aX bG (cC (bP "Board" "point" (aa 0)))))) (aP (aX cX (cq (aQ "Board" "way" 0) (ag 1))) (aP (ba (bH 0 cX) [] (cq (aQ "Board" "way" 0) (ag 1))) (aX cX (cq (bP "Board" "way" (aa 0)) (ag 1)))))))) cy) (c9 (aP (aX aI (eQ (aQ "Board" "turn" 0) (ag 3) (ag 1))) (aP (ba (bH 0 aI) [] (eQ (aQ "Board" "turn" 0) (ag 3) (ag 1))) (aX aI (eQ (bP "Board" "turn" (aa 0)) (ag 3) (ag 1))))))))))
def ir:Ms:=cG 3 oK
def fq:Ms:=ao (c9 (sD ["Board"] 0 "across" (AU (S4 0)))) (ao (aE 1 (mix (aP (aO ["Board"] 0 "grid") (aM (au ["Board"] "grid") (aa 0))) (aM a6 (aC 1)))) (ao (iQ ["Board"] 0 "grid" (aH 1 (cJ (bT (aP (aO ["Board"] 0 "grid") (aM (au ["Board"] "grid") (aa 0))) aB (aT (aM a6 (aC 1))))) (aL 2) aF (ay aK (ay aK (bT (aa 2) aB (aT (aM a6 (aC 1)))) (dj (cC (aM a6 (aC 1))))) (bT (aa 2) (aT (aM a6 (aC 1))) aB)))) (c9 (m9 ["Board"] 0 "grid" (ay aK (ay aK (bT (aa 1) aB (aT (aM a6 (aC 1)))) (dj (cC (aC 0)))) (bT (aa 1) (aT (aM a6 (aC 1))) aB))))))
def bB:Ms:=cG 1 fq
def eU:Ms:=ao (aE 1 (gy ["Board"] 0 "across" (AU (S4 0)))) (ao (c9 (sI ["Board"] 0 "across" (xV 1))) (dG ["Board"] 0 "grid" (aH 1 (cJ (aP (aO ["Board"] 0 "grid") (aM (au ["Board"] "grid") (aa 0)))) (aL 2) aF (ay aK (bT (aa 2) aB (aT (aa 1))) (bT (aa 2) (aT (ay aK (aa 1) (aC 1))) aB)))))
def bq:Ms:=cG 1 eU
def j5:Ms:=ao (aE 1 (cE qU (aa 0))) (bZ (cE rn (aH 2 (vH (aa 0)) (fN 2 (bL (aL 2) (bL (aL 3) fm))) (aj (ay gw (aa 3) (aa 1))) (aa 2))))
def dO:Ms:=cG 1 j5
def jv:Ms:=ao (c9 (aP (aX bB (cC (aQ "Board" "put_helper" 0))) (aP (ba (bH 0 bB) [] (cC (aQ "Board" "put_helper" 0))) (aX bB (cC (bP "Board" "put_helper" (aa 0))))))) (ao (c9 (aP (aX aI (eQ (aQ "Board" "turn" 0) (aX dO (cC (dS (aH 1 (cJ (bT (aP (aO ["Board"] 0 "grid") (aM (au ["Board"] "grid") (aa 0))) aB (aT (aM a6 (aC 1))))) (aL 3) aF (mix (aa 3) (aM a6 (aC 1))))))) (ay fE (jR ["Board"] 0 "across") (aC 1)))) (aP (ba (bH 0 aI) [] (eQ (aQ "Board" "turn" 0) (aX dO (cC (dS (aH 1 (cJ (bT (aP (aO ["Board"] 0 "grid") (aM (au ["Board"] "grid") (aa 0))) aB (aT (aM a6 (aC 1))))) (aL 3) aF (mix (aa 3) (aM a6 (aC 1))))))) (ay fE (jR ["Board"] 0 "across") (aC 1)))) (aX aI (eQ (bP "Board" "turn" (aa 0)) (aX dO (cC (dS (aH 1 (cJ (bT (aP (aO ["Board"] 0 "grid") (aM (au ["Board"] "grid") (aa 0))) aB (aT (aM a6 (aC 1))))) (aL 3) aF (mix (aa 3) (aM a6 (aC 1))))))) (ay fE (jR ["Board"] 0 "across") (aC 1))))))) (ao (gS Af (aj (wZ false ["Board"] 0 "down" (AU (S4 0)))) (ao (aE 1 (mix (aP (aO ["Board"] 0 "grid") (aM (au ["Board"] "grid") (aa 0))) (gy ["Board"] 0 "down" (AU (S4 0))))) (ao (aE 2 (ba (bH 0 bN) [] (cq (aa 0) (dS (bT (aa 1) aB (aT (aM a6 (aC 1)))))))) (ao (i7 (aj (ay (qx false) (aa 2) (mC .non))) (bZ (aP (aX aZ (cq (aQ "Board" "prices" 0) (aX aS (cC (ag 1))))) (aP (ba (bH 0 aZ) [] (cq (aQ "Board" "prices" 0) (aX aS (cC (ag 1))))) (aX aZ (cq (bP "Board" "prices" (aa 0)) (aX aS (cC (ag 1)))))))) cy) (c9 (aP (aX aI (eQ (aQ "Board" "turn" 0) (ba (bH 0 bh) [] (cq (aa 0) (ag 2))) (ag 2))) (aP (ba (bH 0 aI) [] (eQ (aQ "Board" "turn" 0) (ba (bH 0 bh) [] (cq (aa 0) (ag 2))) (ag 2))) (aX aI (eQ (bP "Board" "turn" (aa 0)) (ba (bH 0 bh) [] (cq (aa 0) (ag 2))) (ag 2)))))))))) (ao (c9 (aP (aX bq (cC (aQ "Board" "drop_helper" 0))) (aP (ba (bH 0 bq) [] (cC (aQ "Board" "drop_helper" 0))) (aX bq (cC (bP "Board" "drop_helper" (aa 0))))))) (bZ (mC .non)))))
def dN:Ms:=cG 2 jv
def rK:Ms:=ao (aE 3 (n0 "Board" dE [] (eQ (ag 0) (ag 1) (ag 2)))) (ao (i7 (aj (cE (kP λbs=>VO bs id) (aH 1 (cJ (aa 2)) (aL 5) aF (ay k9 (aa 5) (aC 0))))) (ao (aE 4 (aX dN (cC (aa 3)))) (i7 (aj (ay (qx true) (aa 4) (mC .non))) (bZ (eJ (cq (mC (.str "none")) (aa 4)))) cy)) cy) (bZ (aX ir (cC (aa 3)))))
def rW:Ms:=cG 2 rK
def nZ:Ms:=ao (i7 (j7 (aj (ay sd (cE dy (aa 0)) (aC 48))) (aj (ay sd (cE dy (aa 1)) (aC 48)))) qJ cy) (ao (i7 (aj (ay iX (cE dy (aa 2)) (cE dy (aa 1)))) qJ cy) (ao (i7 (aj (cE (kP λbs=>VO bs id) (aH 1 (cJ (aa 1)) (aL 3) aF (ay iX (cE dy (aa 3)) (cE dy (aa 0)))))) qJ cy) (bZ (aX rW (eQ (ag 0) (ag 1) (ag 2))))))
def cu:Ms:=cG 0 nZ
def kE:Ms:=ao (i7 (aj (ay gw (mix (aa 0) (aC 0)) (aC 1))) (ao (aE 2 (ay kW (mix (aa 0) (aC 1)) (aa 1))) (ao (gq 0 (aC 1) (ay iI (mix (aa 0) (aC 1)) (aa 1))) (bZ (aa 2)))) cy) (ao (aE 3 (ay aK (mix (aa 0) (aC 2)) (aC 1))) (ao (gq 0 (aC 2) (aa 3)) (ao (aE 4 (ay kW (ay bz (ay aK (ay aK (mix (aa 0) (aC 1)) (ay bz (ay bz (aC 7919) (aa 3)) (aa 3))) (aa 3)) (aC 48271)) (aC 2305843009213693951))) (bZ (ay kW (ay iI (ay kW (ay aK (ay bz (aa 4) (aC 1442695040888963407)) (aC 4321)) (aC 2305843009213693921)) (aC 64)) (aa 1))))))
def a7:Ms:=cG 3 kE
def jo:Ms:=bZ (mix (dj (eQ (aX a7 (cq (aa 0) (aC 4))) (aC 0) (aX a7 (cq (aa 0) (ay nF (aC 10) (aC 6)))))) (aX a7 (cq (aa 0) (aC 3))))
def a8:Ms:=cG 0 jo
def iP:Ms:=bZ (mix (dj (E5 (ay fE (aX a7 (cq (aa 0) (aC 7))) (aC 3)) (aC 0) (ay fE (aX a7 (cq (aa 0) (dS (ay aK (ay bz (aC 2) (ay nF (aC 10) (aC 6))) (aC 1))))) (ay nF (aC 10) (aC 6))) (aC 1))) (aX a7 (cq (aa 0) (aC 4))))
def ck:Ms:=cG 0 iP
def jV:Ms:=bZ (lN (cE (nG Ty.int) (aa 0)) (zJ (cE (nG Ty.bool) (aa 0))))
def gh:Ms:=cG 0 jV
def iT:Ms:=ao (gS Af (aj (ay iX (aa 1) (aC 0))) (yT 0 1 (cq (aa 1) (ay kW (aa 0) (aa 1))))) (bZ (cE AW (aa 0)))
def fP:Ms:=cG 0 iT
def m5:Ms:=ao (i7 (aj (ay k9 (aa 1) (aC 0))) (ao (aE 0 (ay fE (aC 0) (aa 0))) (aE 1 (ay fE (aC 0) (aa 1)))) cy) (ao (aE 2 (aX fP (cq (ag 0) (ag 1)))) (bZ (eJ (cq (ay iI (aa 0) (aa 2)) (ay iI (aa 1) (aa 2))))))
def mP:Ms:=cG 1 m5
def f6:Ms:=ao (uW (j7 (fS (aj (cE (nG Ty.tuple) (aa 0)))) (j7 (aj (ay iX (cE dy (aa 0)) (aC 2))) (j7 (fS (aj (aX gh (cC (mix (aa 0) (aC 0)))))) (fS (aj (aX gh (cC (mix (aa 0) (aC 1)))))))))) (bZ (lN (ay sd (mix (aa 0) (aC 1)) (aC 0)) (ay gw (aX mP (cq (mix (aa 0) (aC 0)) (mix (aa 0) (aC 1)))) (aa 0))))
def dY:Ms:=cG 0 f6
def fe:Ms:=ao (uW (j7 (fS (aj (cE (nG Ty.tuple) (aa 0)))) (aj (ay iX (cE dy (aa 0)) (aa 1))))) (bZ (ay gw (aH 1 (cJ (aa 0)) (aL 3) (j7 (fS (aj (aX dY (cC (ag 3))))) (iK (fS (aj (aa 2))) (aj (ay k9 (mix (aa 3) (aC 0)) (aC 0))))) (aa 3)) (dj kS)))
def bf:Ms:=cG 0 fe
def jt:Ms:=bZ (ay k9 (ay bz (mix (aa 0) (aC 0)) (mix (aa 1) (aC 1))) (ay bz (mix (aa 1) (aC 0)) (mix (aa 0) (aC 1))))
def cO:Ms:=cG 0 jt
def F4:Ms:=ao (gQ (sx (aC 0) (ay aK (F9 wm (cE dy (aa 0)) (aC 60)) (aC 1)) (aC 15)) (aL 1) (ao (aE 2 (aX fG (cq (ag 0) (ag 1)))) (ao (aE 3 (ay aK (aC 1) (aX a7 (cq (aa 2) (aC 5))))) (ao (aE 4 (ay aK (aC 1) (aX a7 (cq (aa 2) (aC 5))))) (ao (aE 5 (aH 1 (cD (aa 3)) (aL 16) aF (aX a8 (cC (aa 2))))) (ao (aE 6 (aH 1 (cD (aa 4)) (aL 16) aF (aX a8 (cC (aa 2))))) (ao (aE 7 (aH 1 (cD (aa 4)) (aL 16) aF (aH 1 (cD (aa 3)) (aL 17) aF (aX ck (cC (aa 2)))))) (ao (aE 8 (aH 2 (gN (aa 7) (aa 6)) (fN 2 (bL (aL 16) (bL (aL 17) fm))) aF (ay aK (aX aR (cq (ag 16) (ag 5))) (ay bz (aX a8 (cC (aa 2))) (cE nj (ay gw (aa 17) (aC 0))))))) (ao (aE 9 (dj kS)) (ao (gQ (cD (aa 3)) (aL 10) (c9 (xU 9 (jr 9 (ay fE (aX aR (cq (dS (aH 1 (cJ (aa 7)) (aL 16) aF (mix (aa 16) (aa 10)))) (ag 6))) (ay bz (aX a8 (cC (aa 2))) (cE nj (ay gw (mix (aa 5) (aa 10)) (aC 0))))))))) (ao (aE 11 (aX aR (cq (ag 9) (ag 5)))) (ao (aE 12 (aX cu (eQ (dS (cE da (aa 9))) (dS (aH 1 (cJ (aa 7)) (aL 16) aF (cE da (aa 16)))) (dS (cE da (aa 8)))))) (ao (uW (j7 (fS (aj (cE (nG Ty.tuple) (aa 12)))) (j7 (aj (ay iX (cE dy (aa 12)) (aC 4))) (aj (ay iX (bT (aa 12) aB (aT (aC 2))) (eJ (cq (mC (.str "best")) (eJ (cq (aa 11) (aC 1)))))))))) (ao (uW (j7 (fS (aj (aX bf (eQ (mix (aa 12) (aC 2)) (ag 3) (mC (.bl false)))))) (fS (aj (aX bf (eQ (mix (aa 12) (aC 3)) (ag 4) (mC (.bl false)))))))) (ao (aE 13 (aH 1 (cD (aa 3)) (aL 16) aF (aX ck (cC (aa 2))))) (ao (aE 14 (aX cu (eQ (ag 9) (dS (ay aK (aa 7) (dj (cC (aa 13))))) (dS (ay aK (aa 8) (dj (cC (ay fE (aX aR (cq (ag 13) (ag 5))) (aC 1))))))))) (ao (uW (j7 (aj (ay gw (mix (aa 14) (aC 0)) (mC (.str "open")))) (iK (aj (ay gw (mix (aa 14) (aC 0)) (mC (.str "best")))) (aj (aX cO (cq (eJ (cq (aa 11) (aC 1))) (mix (aa 14) (aC 1)))))))) (ao (aE 15 (aX cu (eQ (ag 9) (dS (bT (aa 7) (aT (aC 1)) aB)) (dS (bT (aa 8) (aT (aC 1)) aB))))) (uW (j7 (aj (ay gw (mix (aa 15) (aC 0)) (mC (.str "none")))) (iK (aj (ay gw (mix (aa 15) (aC 0)) (mC (.str "best")))) (aj (aX cO (cq (mix (aa 15) (aC 1)) (eJ (cq (aa 11) (aC 1))))))))))))))))))))))))))) (bZ (mC (.bl true)))
def M4:Ms:=cG 15 F4
def JZ:Tb:={ fns:=[],cst:=[("ZERO",(.tup [(.int 0),(.int 1)])),("ONE",(.tup [(.int 1),(.int 1)])),("MOST_LONG",(.int 48)),("HELPER",(.int (-1)))],exs:=["NoProgram"],kit:=[],exm:=[],fld:=[("Board",["long", "many", "scale", "across", "down", "grid"])],fO:=[],mts:=[] }
def Dd:List DI:=[
 ⟨none, "_law_well",top 23,["_law_script", "_law_k", "_law_cell"],2,[],[false,false],[],[],kJ,[],false,false,none⟩,
 ⟨none, "_law_product",top 35,["_law_row", "_law_other"],2,[],[false,false],[],[],ie,[],false,false,none⟩,
 ⟨some "Board", "__init__",topC 13 0,["self", "goal", "rows", "limits"],4,[],[true,false,false,false],[],["*nob", "across", "down", "grid"],jY,[],false,false,none⟩,
 ⟨some "Board", "stride",topC 13 3,["self", "column"],2,[],[false,false],[],[],ip,[],false,false,none⟩,
 ⟨none, "gaining_column",top 16,["board", "gains", "found", "steepest", "k", "gain", "slope"],2,[],[false,false],[],[],fX,[],false,false,none⟩,
 ⟨some "Board", "top_of",topC 13 2,["self", "at", "name"],3,[],[false,false,false],[],[],gX,[],false,false,none⟩,
 ⟨none, "binds_before",top 18,["board", "one", "other", "column", "sooner", "later", "name"],4,[],[false,false,false,false],[],[],g9,[],false,false,none⟩,
 ⟨none, "binding_row",top 17,["board", "column", "found", "k"],2,[],[false,false],[],[],iR,[],false,false,none⟩,
 ⟨none, "turned_row",top 15,["row", "pivot_row", "column", "scale", "pivot", "factor", "turned"],4,[],[false,false,false,false],[],[],jU,[],false,false,none⟩,
 ⟨none, "negative_row",top 14,["row"],1,[],[false],[],[],gY,[],false,false,none⟩,
 ⟨some "Board", "turn",topC 13 1,["self", "at", "column", "pivot_row", "turned", "name"],3,[],[true,false,false],[],["*nob", "across", "down"],ju,[],false,false,none⟩,
 ⟨none, "common_divisor",top 6,["a", "b", "rest"],2,[],[false,false],[],[],fT,[],false,false,none⟩,
 ⟨none, "lowest_terms",top 7,["top", "bottom", "divisor"],2,[],[false,false],[],[],gR,[],false,false,none⟩,
 ⟨some "Board", "spread_down",topC 13 8,["self", "tops", "told", "name", "top"],2,[],[false,false],[],[],eS,[],false,false,none⟩,
 ⟨some "Board", "point",topC 13 6,["self"],1,[],[false],[],[],iS,[],false,false,none⟩,
 ⟨some "Board", "prices",topC 13 9,["self", "tops", "told", "name", "top"],2,[],[false,false],[],[],gU,[],false,false,none⟩,
 ⟨some "Board", "way",topC 13 7,["self", "column", "told"],2,[],[false,false],[],[],kM,[],false,false,none⟩,
 ⟨none, "climbed",top 21,["board", "column", "value", "at"],1,[],[true],[],["*nob", "board"],oK,[],false,false,none⟩,
 ⟨some "Board", "put_helper",topC 13 4,["self", "goal"],1,[],[true],[],["*nob", "across", "down", "grid"],fq,[],false,false,none⟩,
 ⟨some "Board", "drop_helper",topC 13 5,["self", "at"],1,[],[true],[],["*nob", "across", "down"],eU,[],false,false,none⟩,
 ⟨none, "last_least",top 19,["limits", "least"],1,[],[false],[],[],j5,[],false,false,none⟩,
 ⟨none, "find_point",top 20,["board", "row", "column"],1,[],[true],[],["*nob", "across", "down", "board"],jv,[],false,false,none⟩,
 ⟨none, "solved",top 12,["goal", "rows", "limits", "board", "prices"],3,[],[false,false,false],[],["*nob", "board"],rK,[],false,false,none⟩,
 ⟨none, "best_of",top 11,["goal", "rows", "limits"],3,[],[false,false,false],[],[],nZ,[],false,false,none⟩,
 ⟨none, "_law_take",top 24,["_law_well_here", "_law_many", "_law_digit", "_law_turn", "_law_number"],2,[],[true,false],[],[],kE,[],false,false,none⟩,
 ⟨none, "_law_small",top 33,["_law_well_here"],1,[],[true],[],[],jo,[],false,false,none⟩,
 ⟨none, "_law_signed",top 34,["_law_well_here"],1,[],[true],[],[],iP,[],false,false,none⟩,
 ⟨none, "_law_whole",top 30,["_law_found"],1,[],[false],[],[],jV,[],false,false,none⟩,
 ⟨none, "_law_common",top 25,["_law_one", "_law_other"],2,[],[false,false],[],[],iT,[],false,false,none⟩,
 ⟨none, "_law_num",top 26,["_law_top", "_law_bottom", "_law_by"],2,[],[false,false],[],[],m5,[],false,false,none⟩,
 ⟨none, "_law_is_number",top 31,["_law_found"],1,[],[false],[],[],f6,[],false,false,none⟩,
 ⟨none, "_law_are_numbers",top 32,["_law_found", "_law_many", "_law_below_too"],3,[],[false,false,false],[],[],fe,[],false,false,none⟩,
 ⟨none, "_law_below",top 29,["_law_one", "_law_other"],2,[],[false,false],[],[],jt,[],false,false,none⟩]
def nk:DI:=⟨none, "law",top 36,["_law_script", "_law_k", "_law_well_here", "_law_wide", "_law_high", "_law_point", "_law_prices", "_law_rows", "_law_limits", "_law_goal", "_law_j", "_law_value", "_law_told", "_law_row", "_law_more", "_law_less"],1,[],[false],[],[],F4,[],false,false,none⟩
theorem G4:v7 JZ Dd=Dd.map (λd=>some d.m):=by kernel_rfl
theorem Gu:s9 (vq JZ Dd) nk=some nk.m:=by kernel_rfl
theorem Hr:(Dd++[nk]).all (λd=>iq d&&sN d)=true:=by decide +kernel
end W
section
open PySem PySem.W PyProof.Rows L2
set_option maxRecDepth 100000 in
theorem W.hl:LeftO PySem.Challenge.rw_fitwhatever_k34_bests_that_are_known.row.prog (W.LG PySem.Challenge.pw_fitwhatever_k34_bests_that_are_known) (W.uV PySem.Challenge.pw_fitwhatever_k34_bests_that_are_known) (λs=>xlAt (W.LG PySem.Challenge.pw_fitwhatever_k34_bests_that_are_known) [] s&&recOk PySem.Challenge.rw_fitwhatever_k34_bests_that_are_known.row.records s) (Hook.obs (M.hk (W.Dd++[W.nk]) (M.E7 W.JZ))) (Hook.val (M.hk (W.Dd++[W.nk]) (M.E7 W.JZ))) 20000:=W.yj λw=>by kernel_rfl
set_option maxRecDepth 100000 in
set_option maxHeartbeats 0 in
theorem W.fin(LT:∀ns:List Int,ns.length<=63->∃Z,W.nk.M [.fr (.lst (ns.map M.A.int))]=some (.rt (.fr (.bl true)),Z)):PySem.Challenge.rw_fitwhatever_k34_bests_that_are_known.Holds:=by
 w_on
 refine holds_law Z3 λh=>?_
 refine holds_open (q:=W.LG PySem.Challenge.pw_fitwhatever_k34_bests_that_are_known) (loose:=W.uV PySem.Challenge.pw_fitwhatever_k34_bests_that_are_known) (Xt:=λs=>xlAt (W.LG PySem.Challenge.pw_fitwhatever_k34_bests_that_are_known) [] s&&recOk (RowW.records _) s) (XP:=XL (W.LG PySem.Challenge.pw_fitwhatever_k34_bests_that_are_known) []) (Yf:=Hook.obs (M.hk (W.Dd++[W.nk]) (M.E7 W.JZ))) (Ya:=Hook.val (M.hk (W.Dd++[W.nk]) (M.E7 W.JZ))) (YP:=Hook.says (M.hk (W.Dd++[W.nk]) (M.E7 W.JZ))) (N:=20000) W.hl (Hook.of _) (Hook.keeps _) (λs e=>xl_of s (VP.mp e).1) XL.keeps (by rfl) (by rfl) (by rfl) (λs e=>recFacts_of (VP.mp e).2) (by rfl) h Z3 ⟨rfl,rfl,rfl,rfl,rfl,by decide +kernel⟩ ?hw ?hc
 case hw=>w_witness2
 case hc=>exact M.yY rfl rfl rfl W.Hr W.G4 W.Gu rfl rfl rfl rfl ⟨rfl,by decide,by decide⟩ LT
end
set_option maxHeartbeats 1000000
set_option exponentiation.threshold 100000
namespace Sx
noncomputable def su(n:Nat)(f:Nat->Int):Int:=match n with
 |0=>0
 |n+1=>su n f+f n
variable{f:Nat->Int}
theorem aU{n:Nat}{g:Nat->Int}(h:∀i,i<n->f i=g i):su n f=su n g:=by
 induction n with
 |zero=>rfl
 |succ n m=>simp only[su,su,m λi hi=>h i (by exact Q9 ‹_›),h n (by exact Ru _)]
theorem ku{n:Nat}{g:Nat->Int}{x y:Int}:su n (λi=>x*f i+y*g i)=x*su n f+y*su n g:=by
 induction n with
 |zero=>simp[su]
 |succ n m=>simp only[su,m];grind
theorem gJ{n:Nat}(h:∀i,i<n->f i=0):su n f=0:=by
 induction n with
 |zero=>rfl
 |succ n m=>simp only[su,m λi hi=>h i Q1,h n Q1];rfl
theorem iW{n a:Nat}(V:a<n)(h:∀i,i<n->i≠a->f i=0):su n f=f a:=by
 induction n with
 |zero=>exact absurd ‹_› (RZ _)
 |succ n m=>
  by_cases e:a=n
  .subst e;rw[su,gJ λi hi=>h i (by exact Q9 ‹_›) (by exact Rw ‹_›)];simp
  .simp only[su,m Q1 λi hi=>h i (by exact Q9 ‹_›),h n (by exact Ru _) Q1];simp
theorem ON{n a:Nat}(V:a+1<n)(h:∀i,i<n->i≠a->i≠a+1->f i=0)(e:f a+f (a+1)=0):su n f=0:=by
 induction n with
 |zero=>exact absurd ‹_› (RZ _)
 |succ n m=>
  by_cases c:a+1=n
  .subst c;rw[su,iW (by exact TR ‹_›) λi hi hn=>h i (by exact Q9 ‹_›) hn (by exact Rw ‹_›)];exact e
  .simp only[su,m Q1 λi hi=>h i (by exact Q9 ‹_›),h n (by exact Ru _) Q1 Q1];rfl
noncomputable abbrev Ve:=Nat->Int
noncomputable def sk(i:Nat)(v:Nat->Ve):Nat->Ve:=λj=>if j<i then v j else v (j+1)
noncomputable def up(a:Nat)(u:Ve)(v:Nat->Ve):Nat->Ve:=λj=>if j=a then u else v j
noncomputable def sg(i:Nat):Int:=if i%2=0 then 1 else -1
def D:Nat->(Nat->Ve)->Int
 |0,_=>1
 |k+1,v=>su (k+1) λi=>sg i*v i k*D k (sk i v)
theorem D.eq(k:Nat)(v:Nat->Ve):D (k+1) v=su (k+1) λi=>sg i*v i k*D k (sk i v):=rfl
theorem D.congr:∀{k:Nat}{v w:Nat->Ve},(∀i j,i<k->j<k->v i j=w i j)->D k v=D k w
 |0,_,_,_=>rfl
 |k+1,v,w,h=>aU λi hi=>by
  rw[h i k hi (by exact Ru _),D.congr (w:=sk i w) λa b f d=>by
   unfold sk;split
   .exact h a b (by exact Q9 ‹_›) Q1
   .exact h _ b (by exact RE ‹_›) Q1]
variable{i:Nat}
theorem KN{a:Nat}(h:i≠a)(u:Ve)(v:Nat->Ve):sk i (up a u v)=up (if a<i then a else a-1) u (sk i v):=by funext j;delta sk up;grind
theorem HL(a:Nat)(u:Ve)(v:Nat->Ve):sk a (up a u v)=sk a v:=by funext j;delta sk up;grind
theorem D.Ff:∀{k a:Nat}{v:Nat->Ve}{u w:Ve}{x y:Int},a<k->D k (up a (λj=>x*u j+y*w j) v)=x*D k (up a u v)+y*D k (up a w v)
 |0,_,_,_,_,_,_,h=>absurd h Q1
 |k+1,a,v,u,w,x,y,h=>by
  rw[D.eq,D.eq,D.eq,<-ku];refine aU λi hi=>?_;by_cases e:i=a
  .subst e;simp only[HL];simp only[up,Za];grind
  .simp only[KN e];rw[D.Ff (k:=k) (a:=if a<i then a else a-1) (by split<;>lia)];simp only[up,Zb e];grind
theorem Of(i:Nat):sg (i+1) =-sg i:=by unfold sg;split<;>split<;>lia
theorem D.M9:∀{k a:Nat}{v:Nat->Ve},a+1<k->v a=v (a+1)->D k v=0
 |0,_,_,h,_=>absurd h (by exact absurd ‹_› (RZ _))
 |k+1,a,v,h,e=>by
  refine ON h (λi hi h1 h2=>?_) ?_
  .rw[D.M9 (a:=if a<i then a else a-1) (by split<;>lia) (by
    unfold sk;split
    .rw[Za Q1];exact e
    .rw[Zb Q1,Zb Q1];rw[show a-1+1=a by lia];exact e)]
   exact Rm _
  .have:sk a v=sk (a+1) v:=by
    funext j;unfold sk
    by_cases c:j=a
    .subst c;rw[Zb Z4,Za (by exact Ru _),e]
    .by_cases l:j<a
     .rw[Za l,Za Q1]
     .rw[Zb l,Zb Q1]
   rw[this,e,Of];grind
theorem BK{a b:Nat}(h:a≠b)(u w:Ve)(v:Nat->Ve):up a u (up b w v)=up b w (up a u v):=by funext j;unfold up;grind
theorem rB(a:Nat)(v:Nat->Ve):up a (v a) v=v:=by funext j;unfold up;split<;>simp_all
variable{w:Ve}
theorem D.add{k a:Nat}{v:Nat->Ve}{u:Ve}(h:a<k):D k (up a (λj=>u j+w j) v)=D k (up a u v)+D k (up a w v):=by have:=D.Ff (v:=v) (u:=u) (w:=w) (x:=1) (y:=1) h;simpa using this
theorem D.swap{k a:Nat}{v:Nat->Ve}(h:a+1<k):D k (up a (v (a+1)) (up (a+1) (v a) v)) =-D k v:=by
 have z:=D.M9 (v:=up a (λj=>v a j+v (a+1) j) (up (a+1) (λj=>v a j+v (a+1) j) v)) h (by simp[up]);rw[D.add (by exact Q4 ‹_›),BK Q1,D.add h,BK (b:=a+1) Q1 (v (a+1)),D.add h] at z;rw[D.M9 h (by simp[up])] at z;rw[D.M9 (v:=up (a+1) (v (a+1)) (up a (v (a+1)) v)) h (by simp[up])] at z;rw[rB,rB,<-BK Q1] at z
 lia
theorem D.two:∀{d k a:Nat}{v:Nat->Ve},a+d+1<k->v a=v (a+d+1)->D k v=0
 |0,k,a,v,h,e=>D.M9 h e
 |d+1,k,a,v,h,e=>by
  have s:=D.swap (k:=k) (a:=a+d+1) (v:=v) h;have z:=D.two (d:=d) (k:=k) (a:=a) (v:=up (a+d+1) (v (a+d+1+1)) (up (a+d+1+1) (v (a+d+1)) v)) Q1 (by simp only[up];rw[Zb Q1,Zb Q1];simp only[if_true];exact e)
  lia
theorem D.alike{k a b:Nat}{v:Nat->Ve}(f:a<k)(E:b<k)(h:a≠b)(e:v a=v b):D k v=0:=by
 by_cases c:a<b
 .exact D.two (d:=b-a-1) (a:=a) Q1 (by rw[show a+(b-a-1)+1=b by lia];exact e)
 .exact D.two (d:=a-b-1) (a:=b) Q1 (by rw[show b+(a-b-1)+1=a by lia];exact e.symm)
variable{c:Nat->Int}
theorem D.sum{k a m:Nat}{v:Nat->Ve}{u:Nat->Ve}(h:a<k):D k (up a (λj=>su m λl=>c l*u l j) v)=su m λl=>c l*D k (up a (u l) v):=by
 induction m with
 |zero=>have:=D.Ff (v:=v) (u:=λ_=>0) (w:=λ_=>0) (x:=0) (y:=0) h;simpa[su] using this
 |succ m b=>simp only[su];rw[D.add h,b];have:=D.Ff (v:=v) (u:=u m) (w:=u m) (x:=c m) (y:=0) h;simp only[Ta,R5] at this;simp only[this]
variable{s:Int}
theorem D.Iw{k a:Nat}{v:Nat->Ve}(h:a<k)(e:∀j,j<k->s*w j=su k λl=>c l*v l j):s*D k (up a w v)=c a*D k v:=by
 have e1:=D.Ff (k:=k) (a:=a) (v:=v) (u:=w) (w:=w) (x:=s) (y:=0) h;simp only[Ta,R5] at e1;rw[<-e1,D.congr (w:=up a (λj=>su k λl=>c l*v l j) v) λi j hi F=>by
  unfold up;split
  .exact e j F
  .rfl,D.sum h,iW h λi hi hn=>by rw[D.alike (b:=i) h hi (RO hn) (by simp[up,hn]),Rm],rB]
noncomputable def mv(k c:Nat)(v:Nat->Ve):Nat->Ve:=λj=>if j<c then v j else if j+1<k then v (j+1) else if j+1=k then v c else v j
theorem D.mv:∀{d k c:Nat}{v:Nat->Ve},c+d+1=k->(D k (mv k c v)).natAbs=(D k v).natAbs
 |0,k,c,v,h=>by
  have:Sx.mv k c v=v:=by funext j;unfold Sx.mv;grind
  rw[this]
 |d+1,k,c,v,h=>by have s:=D.swap (k:=k) (a:=c) (v:=v) Q1;have z:=D.mv (d:=d) (k:=k) (c:=c+1) (v:=up c (v (c+1)) (up (c+1) (v c) v)) Q1;simp only[show Sx.mv k c v=Sx.mv k (c+1) (up c (v (c+1)) (up (c+1) (v c) v)) by funext j;delta Sx.mv up;grind,z];lia
noncomputable def un(i:Nat):Ve:=λj=>if j=i then 1 else 0
theorem D.un:∀{k:Nat}{v:Nat->Ve},(∀i,i<k->v i=un i)->(D k v).natAbs=1
 |0,_,_=>rfl
 |k+1,v,h=>by
  rw[D.eq,iW (a:=k) Q1 λi hi hn=>by rw[h i hi];simp[Sx.un,RO hn]];rw[h k Q1];have z:=D.un (v:=sk k v) λi hi=>by unfold sk;rw[Za hi];exact h i Q1
  simp only[Sx.un,Za];rw[RU,z];unfold sg;split<;>rfl
theorem mD{k a:Nat}(h:a<k):su k f=f a+su k λl=>if l=a then 0 else f l:=by
 induction k with
 |zero=>lia
 |succ k m=>
  by_cases e:a=k
  .subst e;simp only[su,if_true];rw[aU λi hi=>Zb Q1];lia
  .simp only[su,Zb (RO e)];rw[m Q1];lia
theorem cN{k:Nat}{x:Int}:su k (λl=>x*f l)=x*su k f:=by have:=ku (n:=k) (f:=f) (g:=f) (x:=x) (y:=0);simpa using this
noncomputable def Gt(at' a:Nat)(s:Int)(G:Nat->Nat->Int):Nat->Nat->Int:=λi l=>if i=at' then (if l=a then s else G at' l) else if l=a then-G i a else (G at' a*G i l-G i a*G at' l) / s
def Id(k m:Nat)(q:Nat->Int)(s:Int)(W:Nat->Ve)(G:Nat->Nat->Int)(v:Nat->Ve):Prop:=∀i,i<=m->∀j,j<k->s*W i j=su k λl=>q l*G i l*v l j
variable{k m at' col:Nat}{q:Nat->Int}{s:Int}{W v:Nat->Ve}{G:Nat->Nat->Int}
theorem Id.mid(hk:col<k)(hc:q col = -1)(id:Id k m q s W G v)(f:at'<=m)(i:Nat)(hi:i<=m)(j:Nat)(F:j<k):(s*G at' col)*W i j=su k λl=>(if l=col then s*G i col else q l*(G at' col*G i l-G i col*G at' l))*up col (W at') v l j:=by
 have h1:=id i hi j F;have h2:=id at' f j F;rw[mD hk] at h1 h2 ⊢;simp only[if_true,hc,up] at h1 h2 ⊢;have e:(su k λl=>if l=col then 0 else (if l=col then s*G i col else q l*(G at' col*G i l-G i col*G at' l))*(if l=col then W at' else v l) j)=G at' col*(su k λl=>if l=col then 0 else q l*G i l*v l j)+(- G i col)*su k λl=>if l=col then 0 else q l*G at' l*v l j:=by
  rw[<-ku];refine aU λl hl=>?_;by_cases c:l=col
  .simp[c]
  .simp only[Zb c];grind
 rw[e];grind
theorem Id.det(hk:col<k)(hc:q col = -1)(hs:s≠0)(P:(D k v).natAbs=s.natAbs)(id:Id k m q s W G v)(f:at'<=m):(D k (up col (W at') v)).natAbs=(G at' col).natAbs:=by
 have h:=D.Iw hk λj F=>id at' f j F;simp only[hc] at h;have e:=Ze Xz h;simp only[RU,RU,RU,P] at e;have:0<s.natAbs:=by lia
 apply Vp this;rw[e];simp;exact Tz _ _
theorem Id.dvd(hk:col<k)(R:∀l,q l=1\/q l = -1)(hc:q col = -1)(hs:s≠0)(P:(D k v).natAbs=s.natAbs)(id:Id k m q s W G v)(f:at'<=m)(hp:G at' col≠0)(i:Nat)(hi:i<=m)(l:Nat)(hl:l<k)(hn:l≠col):s ∣ G at' col*G i l-G i col*G at' l:=by
 have d:=id.det hk hc hs P f;have c:=D.Iw hl (id.mid hk hc f i hi);generalize D k (up l (W i) (up col (W at') v))=x at c;generalize D k (up col (W at') v)=y at c d;generalize G at' col*G i l-G i col*G at' l=z at c ⊢;have e:y=G at' col\/y =-G at' col:=by lia
 have e2:q l*z=s*x\/q l*z=s*(-x):=by
  rcases e with e|e<;>subst e
  .exact .inl (Sm hp (by grind))
  .exact .inr (Sm hp (by grind))
 rcases R l with N|N<;>rw[N] at e2<;>rcases e2 with e2|e2
 .exact⟨x,by grind⟩
 .exact⟨-x,by grind⟩
 .exact⟨-x,by grind⟩
 .exact⟨x,by grind⟩
theorem Id.turn(hk:col<k)(R:∀l,q l=1\/q l = -1)(hc:q col = -1)(hs:s≠0)(P:(D k v).natAbs=s.natAbs)(id:Id k m q s W G v)(f:at'<=m)(hp:G at' col≠0):Id k m q (G at' col) (up at' (v col) W) (Gt at' col s G) (up col (W at') v):=λi hi j F=>by
 by_cases e:i=at'
 .subst e;have h:=id i hi j F;rw[mD hk] at h ⊢;simp only[if_true,hc,up,Gt] at h ⊢
  grind
 .have h:=id.mid hk hc f i hi j F;rw[show up at' (v col) W i=W i by simp[up,e]];apply Int.eq_of_mul_eq_mul_left hs;rw[<-cN,<-T5,h];refine aU λl hl=>?_;simp only[Gt,Zb e];by_cases c:l=col
  .simp only[c,if_true,hc];grind
  .simp only[Zb c];have z:=Uy (id.dvd hk R hc hs P f hp i hi l hl c);rw[<-z];grind
def LP(M:Nat)(f:Nat->Int):Prop:=∃t,t<M/\0<f t/\∀u,u<t->f u=0
def LN(M:Nat)(f:Nat->Int):Prop:=¬ LP M λt=>- f t
variable{M:Nat}{f g h:Nat->Int}{x y:Int}
theorem LP.congr(e:∀t,t<M->f t=g t)(h:LP M f):LP M g:=by obtain⟨t,a,b,c⟩:=h;exact⟨t,a,by rw[<-e t a];exact b,λu l=>by rw[<-e u (by exact Tc ‹_› ‹_›)];exact c u l⟩
theorem LP.mul(hx:0<x)(h:LP M f):LP M λt=>x*f t:=by obtain⟨t,a,b,c⟩:=h;exact⟨t,a,VZ hx b,λu g=>by simp only[c u g,Rm]⟩
theorem LP.uj(hx:0<x)(h:LP M λt=>x*f t):LP M f:=by obtain⟨t,a,b,c⟩:=h;exact⟨t,a,Int.pos_of_mul_pos_right b hx,λu g=>(WD.mp (c u g)).resolve_left (by exact Rz ‹_›)⟩
theorem LN.or(h:LN M f):LP M f\/∀t,t<M->f t=0:=by
 induction M with
 |zero=>exact .inr λt l=>absurd l Q1
 |succ M m=>
  rcases m λ⟨t,a,b⟩=>h ⟨t,by exact Q9 ‹_›,b⟩ with ⟨t,a,b⟩|z
  .exact .inl ⟨t,by exact Q9 ‹_›,b⟩
  .rcases Int.lt_trichotomy (f M) 0 with c|c|c
   .exact absurd ⟨M,by lia,by show-f M > 0;lia,λu g=>by show-f u=0;rw[z u g];rfl⟩ h
   .exact .inr λt l=>by
     by_cases e:t=M
     .rw[e];exact c
     .exact z t Q1
   .exact .inl ⟨M,by exact Ru _,c,λu g=>z u g⟩
theorem LP.add(a:LP M f)(b:LP M g):LP M λt=>f t+g t:=by
 obtain⟨t,a1,H,Z⟩:=a;obtain⟨u,b1,b2,J⟩:=b;rcases Wj t u with c|c|c
 .exact⟨t,a1,by show 0<f t+g t;rw[J t c];lia,λw O=>by show f w+g w=0;simp only[Z w O,J w (by exact Tc ‹_› ‹_›)];rfl⟩
 .subst c;exact⟨t,a1,by show 0<f t+g t;lia,λw O=>by show f w+g w=0;simp only[Z w O,J w O];rfl⟩
 .exact⟨u,b1,by show 0<f u+g u;rw[Z u c];lia,λw O=>by show f w+g w=0;simp only[Z w (by exact Tc ‹_› ‹_›),J w O];rfl⟩
theorem LP.OX(a:LP M f)(b:LN M g):LP M λt=>f t+g t:=by
 rcases b.or with b|b
 .exact a.add b
 .exact a.congr λt l=>by rw[b t l];simp
theorem LP.ln(a:LP M f):LN M f:=λb=>by
 obtain⟨t,_,c,_⟩:=a.add b;have c:0<f t +-f t:=c
 lia
theorem LN.mul(hx:0<=x)(h:LN M f):LN M λt=>x*f t:=by
 rcases h.or with h|h
 .by_cases e:x=0
  .subst e;rintro⟨t,_,c,_⟩;simp at c
  .exact(LP.mul Q1 h).ln
 .rintro⟨t,a,c,_⟩;simp only[h t a] at c;simp at c
def LL(M:Nat)(f:Nat->Int)(s:Int)(g:Nat->Int)(s':Int):Prop:=LP M λt=>s*g t-s'*f t
theorem LL.PD:¬ LL M f s f s:=λ⟨t,_,b,_⟩=>by have b:0<s*f t-s*f t:=b;lia
variable{s' s'':Int}
theorem LL.trans(h1:0<s)(h2:0<s')(h3:0<s'')(a:LL M f s g s')(b:LL M g s' h s''):LL M f s h s'':=
 LP.uj h2 (((LP.mul h1 b).add (LP.mul h3 a)).congr λt _=>by grind)
theorem LL.nt(h1:0<s)(h2:0<s')(h3:0<s'')(a:¬ LL M f s g s')(b:LL M h s'' g s'):¬ LL M f s h s'':=λc=>a (LL.trans h1 h3 h2 c b)
def F(N m:Nat)(ac dn:Nat->Int)(G:Nat->Nat->Int)(s:Int)(i:Nat)(u:Int):Int:=(su N λl=>if ac l=u then G i l else 0)+if i<m/\dn i=u then s else 0
noncomputable def qz(a:Nat)(u:Int)(v:Nat->Int):Nat->Int:=λj=>if j=a then u else v j
variable{N m at' col i:Nat}{ac dn:Nat->Int}{G:Nat->Nat->Int}{s u:Int}
theorem F.own(hk:col<N)(V:at'<m):F N m (qz col (dn at') ac) (qz at' (ac col) dn) (Gt at' col s G) (G at' col) at' u=F N m ac dn G s at' u:=by
 unfold F;rw[mD hk,mD (f:=λl=>if ac l=u then G at' l else 0) hk];rw[aU (g:=λl=>if l=col then 0 else if ac l=u then G at' l else 0) λl hl=>by
  by_cases c:l=col
  .simp only[Za c]
  .simp only[Zb c,qz,Gt,if_true]]
 simp only[qz,Gt,if_true,V,true_and];lia
theorem F.Qh(hk:col<N)(V:at'<m)(hn:i≠at')(hd:∀l,l<N->l≠col->s ∣ G at' col*G i l-G i col*G at' l):s*F N m (qz col (dn at') ac) (qz at' (ac col) dn) (Gt at' col s G) (G at' col) i u=G at' col*F N m ac dn G s i u-G i col*F N m ac dn G s at' u:=by
 unfold F;rw[mD hk,mD (f:=λl=>if ac l=u then G at' l else 0) hk,mD (f:=λl=>if ac l=u then G i l else 0) hk];have e:s*(su N λl=>if l=col then 0 else if qz col (dn at') ac l=u then Gt at' col s G i l else 0)=G at' col*(su N λl=>if l=col then 0 else if ac l=u then G i l else 0)+(- G i col)*(su N λl=>if l=col then 0 else if ac l=u then G at' l else 0):=by
  rw[<-ku,<-cN];refine aU λl hl=>?_;by_cases c:l=col
  .simp[c]
  .simp only[Zb c,qz,Gt,Zb hn];by_cases J:ac l=u
   .simp only[Za J];have z:=Uy (hd l hl c);rw[z];grind
   .simp[Zb J]
 simp only[qz,if_true,Zb hn,V,true_and,Gt] at e ⊢;rw[U6,U6,e];by_cases I:dn at'=u<;>by_cases J:ac col=u<;>by_cases y:i<m/\dn i=u<;>simp only[I,J,y,if_true,if_false]<;>grind
structure Bo where
 ac:List Int
 dn:List Int
 g:List (List Int)
 s:Int
noncomputable def Bo.Gq(b:Bo)(i l:Nat):Int:=(b.g.getD i []).getD l 0
noncomputable def Bo.Aq(b:Bo)(l:Nat):Int:=b.ac.getD l 0
noncomputable def Bo.Bq(b:Bo)(i:Nat):Int:=b.dn.getD i 0
structure Sh(N m:Nat)(b:Bo):Prop where
 ac:b.ac.length=N
 dn:b.dn.length=m
 g:b.g.length=m+1
 r:∀x∈b.g,x.length=N+1
noncomputable def ka(row pr:List Int)(c:Nat)(s:Int):List Int:=
 if row.getD c 0=0 then row.map λx=>(pr.getD c 0*x).fdiv s
 else ((row.zip pr).map λp=>(pr.getD c 0*p.1-row.getD c 0*p.2).fdiv s).set c (- row.getD c 0)
def Bo.raw(b:Bo)(a c:Nat):List (List Int):=(b.g.map λrow=>ka row (b.g.getD a []) c b.s).set a ((b.g.getD a []).set c b.s)
noncomputable def fW(row:List Int):List Int:=row.map λx=>- x
def Bo.turn(b:Bo)(a c:Nat):Bo:=
 ⟨b.ac.set c (b.dn.getD a 0),b.dn.set a (b.ac.getD c 0),if b.Gq a c<0 then (b.raw a c).map fW else b.raw a c,if b.Gq a c<0 then-b.Gq a c else b.Gq a c⟩
variable{α:Type}
theorem getD_map{D:Type}{f:α->D}{xs:List α}{d:α}{e:D}(h:i<xs.length):(xs.map f).getD i e=f (xs.getD i d):=by simp[Rk,h]
variable{j:Nat}
theorem hY{xs:List α}{v d:α}(h:i<xs.length):(xs.set i v).getD j d=if j=i then v else xs.getD j d:=by
 by_cases e:j=i
 .subst e;simp[Rk,h]
 .simp[Rk,e,Rj (RO e)]
theorem getD_mem{xs:List (List Int)}(h:i<xs.length):xs.getD i []∈xs:=by simp[Rk,h]
variable{N m a c i l:Nat}{b:Bo}
theorem Sh.row(h:Sh N m b)(hi:i<=m):(b.g.getD i []).length=N+1:=h.r _ (getD_mem (by rw[h.g];exact RE ‹_›))
variable{pr:List Int}
theorem El{row:List Int}(h1:row.length=N+1)(h2:pr.length=N+1)(hc:c<N+1)(hl:l<N+1)(hs:s≠0)(hd:l≠c->s ∣ pr.getD c 0*row.getD l 0-row.getD c 0*pr.getD l 0):
  (ka row pr c s).getD l 0=if l=c then-row.getD c 0 else (pr.getD c 0*row.getD l 0-row.getD c 0*pr.getD l 0) / s:=by
 unfold ka;by_cases e:row.getD c 0=0
 .rw[Za e,getD_map (d:=0) Q1,e];by_cases e2:l=c
  .subst e2;rw[Za rfl,e];simp
  .rw[Zb e2];have z:=hd e2;rw[e] at z;simp only[Ta,Int.sub_zero] at z ⊢;exact VC z
 .rw[Zb e,hY (by simp;lia)];by_cases e2:l=c
  .rw[Za e2,Za e2]
  .rw[Zb e2,Zb e2,getD_map (d:=(0,0)) (by simp;lia)];rw[VC (by have z:=hd e2;simpa[Rk,Sr,h1,h2,hl,Rb] using z)]
   simp[Rk,h1,h2,hl]
theorem yM{row:List Int}(h1:row.length=N+1)(h2:pr.length=N+1):(ka row pr c s).length=N+1:=by unfold ka;split<;>simp[h1,h2]
theorem Bo.JC(h:Sh N m b)(f:a<=m)(hc:c<N+1)(hs:b.s≠0)(hd:∀i,i<=m->∀l,l<N+1->l≠c->b.s ∣ b.Gq a c*b.Gq i l-b.Gq i c*b.Gq a l)(hi:i<=m)(hl:l<N+1):((b.raw a c).getD i []).getD l 0=Gt a c b.s b.Gq i l:=by
 unfold Bo.raw;rw[hY (by simp[h.g];exact RE ‹_›)];by_cases e:i=a
 .subst e;rw[Za rfl,hY (by rw[h.row f];lia)];simp only[Gt,if_true];rfl
 .rw[Zb e,getD_map (by rw[h.g];exact RE ‹_›),El (h.row hi) (h.row f) hc hl hs (hd i hi l hl)];simp only[Gt,Zb e];rfl
theorem Sh.raw(h:Sh N m b)(f:a<=m)(x:List Int)(hx:x∈b.raw a c):x.length=N+1:=by
 rcases List.mem_or_eq_of_mem_set hx with z|z
 .obtain⟨r,u,rfl⟩:=Rx.mp z;exact yM (h.r r u) (h.row f)
 .subst z;rw[U5];exact h.row f
theorem Sh.turn(h:Sh N m b)(f:a<=m):Sh N m (b.turn a c):=by
 refine⟨by simp[Bo.turn,h.ac],by simp[Bo.turn,h.dn],?_,?_⟩
 .show WY (ite _ _ _)=_;split<;>simp[Bo.raw,h.g]
 .intro x hx;have hx:x∈(if b.Gq a c<0 then (b.raw a c).map fW else b.raw a c):=hx;split at hx
  .obtain⟨y,hy,rfl⟩:=Rx.mp hx;simpa[fW] using h.raw f y hy
  .exact h.raw f x hx
noncomputable def sn(x:Int):Int:=if x<0 then -1 else 1
theorem Bo.lO(h:Sh N m b)(f:a<=m)(hc:c<N+1)(hs:b.s≠0)(hd:∀i,i<=m->∀l,l<N+1->l≠c->b.s ∣ b.Gq a c*b.Gq i l-b.Gq i c*b.Gq a l)(hi:i<=m)(hl:l<N+1):(b.turn a c).Gq i l=sn (b.Gq a c)*Gt a c b.s b.Gq i l:=by
 have z:=b.JC h f hc hs hd hi hl;have V:i<(b.raw a c).length:=by simp[Bo.raw,h.g];exact RE ‹_›
 show (Rk (ite _ _ _) i []).getD l 0=_;unfold sn;by_cases e:b.Gq a c<0
 .rw[Za e,Za e,getD_map V];unfold fW;rw[getD_map (by rw[h.raw f _ (getD_mem V)];exact hl),z];simp
 .rw[Zb e,Zb e,z];simp
theorem Bo.i4:(b.turn a c).s=sn (b.Gq a c)*b.Gq a c:=by show ite _ _ _=_;unfold sn;split<;>simp
theorem Bo.qf(h:Sh N m b)(hc:c<N):(b.turn a c).Aq=qz c (b.Bq a) b.Aq:=by funext l;exact hY (by rw[h.ac];exact hc)
theorem Bo.mS(h:Sh N m b)(f:a<m):(b.turn a c).Bq=qz a (b.Aq c) b.Bq:=by funext l;exact hY (by rw[h.dn];exact f)
structure Pb where
 n:Nat
 m:Nat
 c:Nat->Int
 R:Nat->Nat->Int
 L:Nat->Int
def Pb.Yq(P:Pb)(u:Int):Ve:=if u = -1 then un (P.n+1) else if u<P.n then un u.toNat else λj=>if j<P.n then-P.R (u-P.n).toNat j else if j=P.n then P.L (u-P.n).toNat else 1
noncomputable def Pb.zq(P:Pb):Ve:=λj=>if j<P.n then P.c j else 0
def Pb.vec(P:Pb)(N:Nat)(b:Bo):Nat->Ve:=λl=>if l<N then P.Yq (b.Aq l) else if l=N then un P.n else un (P.n+1)
def Pb.Wq(P:Pb)(b:Bo):Nat->Ve:=λi=>if i<P.m then P.Yq (b.Bq i) else P.zq
def Gx(N:Nat)(b:Bo)(T:Nat->Int):Nat->Nat->Int:=λi l=>if l<=N then b.Gq i l else T i
noncomputable def qs(N l:Nat):Int:=if l<N then -1 else 1
structure Ok(P:Pb)(N:Nat)(b:Bo):Prop where
 sh:Sh N P.m b
 nd:(b.ac++b.dn).Nodup
 nm:∀u,u∈b.ac++b.dn↔(if N=P.n then 0 else -1)<=u/\u<(P.n+P.m:Nat)
 pos:0<b.s
 hN:N=P.n\/N=P.n+1
 det:(D (P.n+2) (P.vec N b)).natAbs=b.s.natAbs
 id:∃T,Id (P.n+2) P.m (qs N) b.s (P.Wq b) (Gx N b T) (P.vec N b)
variable{P:Pb}{N a c i l:Nat}{b:Bo}
theorem Ok.hc(h:Ok P N b)(hc:c<N):c<P.n+2:=by have:=h.hN;lia
theorem Ok.dvd(h:Ok P N b)(f:a<P.m)(hc:c<N)(hp:b.Gq a c≠0)(i:Nat)(hi:i<=P.m)(l:Nat)(hl:l<N+1)(hn:l≠c):b.s ∣ b.Gq a c*b.Gq i l-b.Gq i c*b.Gq a l:=by obtain⟨T,id⟩:=h.id;have:=h.hN;have hs:=h.pos;have z:=Id.dvd (at':=a) (h.hc hc) (λl=>by unfold qs;split<;>decide) (by simp[qs,hc]) (by exact Rz ‹_›) h.det id (by exact Q4 ‹_›) (by simpa[Gx,Q4 hc] using hp) i hi l Q1 hn;simpa[Gx,Q4 hc,TR hl] using z
theorem qP(h:Sh N P.m b)(f:a<P.m)(hc:c<N):P.vec N (b.turn a c)=up c (P.Wq b a) (P.vec N b):=by
 funext l
 delta Pb.vec up Pb.Wq
 rw[Bo.qf h hc,Za f]
 by_cases e:l=c
 .subst e;simp[qz,hc]
 .simp[qz,e]
theorem GV(h:Sh N P.m b)(f:a<P.m)(hc:c<N):P.Wq (b.turn a c)=up a (P.vec N b c) (P.Wq b):=by
 funext i
 delta Pb.vec up Pb.Wq
 rw[Bo.mS h f,Za hc]
 by_cases e:i=a
 .subst e;simp[qz,f]
 .simp[qz,e]
theorem K7(h:x≠0):0<sn x*x:=by unfold sn;split<;>lia
theorem NI(x:Int):sn x=1\/sn x = -1:=by unfold sn;split<;>simp
theorem swap_perm[DecidableEq α]{xs ys:List α}{c a:Nat}(hc:c<xs.length)(f:a<ys.length)(d:α):(xs.set c (ys.getD a d)++ys.set a (xs.getD c d)).Perm (xs++ys):=by
 have e1:xs.getD c d=xs[c]:=by simp[Rk,hc]
 have e2:ys.getD a d=ys[a]:=by simp[Rk,f]
 simp only[e1,e2];have T:(xs.set c ys[a]).Perm (ys[a]::xs.eraseIdx c):=by simp only[UP,Za hc,RB];exact R8
 have P:(ys.set a xs[c]).Perm (xs[c]::ys.eraseIdx a):=by rw[UP,Za f,RB];exact R8
 have h:xs.Perm (xs[c]::xs.eraseIdx c):=by rw[RB];have:=R8 (a:=xs[c]) (l₁:=xs.take c) (l₂:=xs.drop (c+1));simp only[Ud,SI] at this;exact this
 have x:ys.Perm (ys[a]::ys.eraseIdx a):=by rw[RB];have:=R8 (a:=ys[a]) (l₁:=ys.take a) (l₂:=ys.drop (a+1));simp only[Ud,SI] at this;exact this
 refine(T.append P).trans (List.Perm.trans ?_ (h.append x).symm);generalize xs.eraseIdx c=X;generalize ys.eraseIdx a=Z;exact((R8.cons _).trans (List.Perm.swap _ _ _)).trans (R8.symm.cons _)
theorem Ok.turn(h:Ok P N b)(f:a<P.m)(hc:c<N)(hp:b.Gq a c≠0):Ok P N (b.turn a c):=by
 have hs:=h.pos;have hN:=h.hN;have pm:((b.turn a c).ac++(b.turn a c).dn).Perm (b.ac++b.dn):=swap_perm (by rw[h.sh.ac];exact hc) (by rw[h.sh.dn];exact f) 0;have g:∀l,qs N l=1\/qs N l = -1:=λl=>by unfold qs;split<;>simp
 have y:qs N c = -1:=by simp[qs,hc]
 obtain⟨T,id⟩:=h.id;have x:∀i,Gx N b T i c=b.Gq i c:=λi=>by simp[Gx,Q4 hc]
 have D:Gx N b T a c≠0:=by rw[x];exact hp
 refine⟨h.sh.turn Q1,pm.nodup_iff.mpr h.nd,λu=>by rw[pm.mem_iff];exact h.nm u,?_,hN,?_,?_⟩
 .rw[Bo.i4];exact K7 hp
 .rw[qP h.sh f hc,Id.det (h.hc hc) y (by exact Rz ‹_›) h.det id Q1,x,Bo.i4];rcases NI (b.Gq a c) with e|e<;>rw[e]<;>lia
 .refine⟨λi=>sn (b.Gq a c)*Gt a c b.s (Gx N b T) i (N+1),λi hi j F=>?_⟩;have z:=Id.turn (h.hc hc) g y Q1 h.det id Q1 D i hi j F;rw[qP h.sh f hc,GV h.sh f hc,Bo.i4,T5,<-x a,z,<-cN];refine aU λl hl=>?_;have e:Gx N (b.turn a c) (λi=>sn (b.Gq a c)*Gt a c b.s (Gx N b T) i (N+1)) i l=sn (Gx N b T a c)*Gt a c b.s (Gx N b T) i l:=by
   unfold Gx;by_cases e:l<=N
   .rw[Za e,Bo.lO h.sh Q1 Q1 Q1 (h.dvd f hc hp) hi Q1];simp[Gt,Q4 hc,e]
   .rw[Zb e,show l=N+1 by lia];simp[Q4 hc]
  rw[<-x a] at e;rw[e];grind
def Fb(P:Pb)(N:Nat)(b:Bo)(i:Nat)(u:Int):Int:=F N P.m b.Aq b.Bq b.Gq b.s i u
def Rr(P:Pb)(N:Nat)(b:Bo)(i t:Nat):Int:=if t=0 then b.Gq i N else Fb P N b i ((P.n+(t-1):Nat):Int)
variable{P:Pb}{N a c i l:Nat}{b:Bo}
theorem F.scale{ac dn:Nat->Int}{G G':Nat->Nat->Int}(e:∀l,l<N->G' i l=x*G i l):F N m ac dn G' (x*s) i u=x*F N m ac dn G s i u:=by
 unfold F;rw[U6,<-cN]
 congr 1
 .refine aU λl hl=>?_;split
  .exact e l hl
  .simp
 .split<;>simp
theorem Ok.Fa(h:Ok P N b)(f:a<P.m)(hc:c<N)(hp:b.Gq a c≠0)(u:Int):Fb P N (b.turn a c) a u=sn (b.Gq a c)*Fb P N b a u:=by unfold Fb;rw[Bo.qf h.sh hc,Bo.mS h.sh f,Bo.i4,F.scale λl hl=>Bo.lO h.sh Q1 (by exact Q9 ‹_›) (by have:=h.pos;exact Rz ‹_›) (h.dvd f hc hp) Q1 (by exact Q9 ‹_›),F.own hc f]
theorem Ok.Fo(h:Ok P N b)(f:a<P.m)(hc:c<N)(hp:b.Gq a c≠0)(hi:i<=P.m)(hn:i≠a)(u:Int):b.s*Fb P N (b.turn a c) i u=sn (b.Gq a c)*(b.Gq a c*Fb P N b i u-b.Gq i c*Fb P N b a u):=by
 unfold Fb;rw[Bo.qf h.sh hc,Bo.mS h.sh f,Bo.i4,F.scale λl hl=>Bo.lO h.sh (by exact Q4 ‹_›) (by exact Q9 ‹_›) (by have:=h.pos;exact Rz ‹_›) (h.dvd f hc hp) hi (by exact Q9 ‹_›)];rw[<-F.Qh hc f hn λl hl B=>h.dvd f hc hp i hi l (by exact Q9 ‹_›) B]
 grind
theorem Ok.Ra(h:Ok P N b)(f:a<P.m)(hc:c<N)(hp:b.Gq a c≠0)(t:Nat):Rr P N (b.turn a c) a t=sn (b.Gq a c)*Rr P N b a t:=by
 unfold Rr;split
 .rw[Bo.lO h.sh Q1 (by exact Q9 ‹_›) (by have:=h.pos;exact Rz ‹_›) (h.dvd f hc hp) Q1 (by exact Ru _)];simp[Gt,show N≠c by exact Uh ‹_›]
 .exact h.Fa f hc hp _
theorem Ok.Ro(h:Ok P N b)(f:a<P.m)(hc:c<N)(hp:b.Gq a c≠0)(hi:i<=P.m)(hn:i≠a)(t:Nat):b.s*Rr P N (b.turn a c) i t=sn (b.Gq a c)*(b.Gq a c*Rr P N b i t-b.Gq i c*Rr P N b a t):=by
 unfold Rr;split
 .rw[Bo.lO h.sh (by exact Q4 ‹_›) (by exact Q9 ‹_›) (by have:=h.pos;exact Rz ‹_›) (h.dvd f hc hp) hi Q1];have z:=Uy (h.dvd f hc hp i hi N Q1 (by exact Uh ‹_›));rw[Gt,Zb hn,Zb (show N≠c by exact Uh ‹_›)]
  grind
 .exact h.Fo f hc hp hi hn _
theorem getD_inj{xs:List Int}(h:xs.Nodup)(hi:i<xs.length)(F:j<xs.length)(e:xs.getD i 0=xs.getD j 0):i=j:=by simp only[Rk,Rb hi,Rb F,Te] at e;exact(Wb h).mp e
theorem Ok.Ai(h:Ok P N b){G:Nat}(hl:l<N)(X:G<N)(e:b.Aq l=b.Aq G):l=G:=
 getD_inj (QV.mp h.nd).1 (by rw[h.sh.ac];exact hl) (by rw[h.sh.ac];exact X) e
theorem Ok.Am(h:Ok P N b)(hl:l<N):b.Aq l∈b.ac:=by have:=h.sh.ac;simp[Bo.Aq,Rk,this,hl]
theorem Ok.Bm(h:Ok P N b)(hi:i<P.m):b.Bq i∈b.dn:=by have:=h.sh.dn;simp[Bo.Bq,Rk,this,hi]
theorem Ok.AB(h:Ok P N b)(hl:l<N)(hi:i<P.m):b.Bq i≠b.Aq l:=λe=>(QV.mp h.nd).2.2 _ (h.Am hl) _ (h.Bm hi) e.symm
theorem Ok.IJ(h:Ok P N b)(hl:l<N)(i:Nat):Fb P N b i (b.Aq l)=b.Gq i l:=by
 delta Fb F
 rw[iW hl λG X hn=>Zb λe=>hn (h.Ai X hl e),Za rfl,Zb λz=>h.AB hl z.1 z.2];simp
theorem Ok.O1(h:Ok P N b)(hi:i<P.m):Fb P N b i (b.Bq i)=b.s:=by
 delta Fb F
 rw[gJ λl hl=>Zb λe=>h.AB hl hi e.symm,Za ⟨hi,rfl⟩];simp
theorem Ok.xX(h:Ok P N b)(g:u∈b.ac++b.dn):-1<=u/\u<(P.n+P.m:Nat):=by have:=(h.nm u).mp g;split at this<;>lia
theorem Ok.nz(h:Ok P N b)(hi:i<P.m)(z:∀t,t<P.m+1->Rr P N b i t=0):False:=by
 have hs:=h.pos;have hN:=h.hN;have s:∀u:Int,(P.n:Int)<=u->u<(P.n+P.m:Nat)->Fb P N b i u=0:=λu h1 h2=>by have:=z ((u-P.n).toNat+1) Q1;unfold Rr at this;rw[Zb Q1,show ((P.n+((u-P.n).toNat+1-1):Nat):Int)=u by lia] at this;exact this
 have R:=h.xX (QK b.ac (h.Bm hi));by_cases I:(P.n:Int)<=b.Bq i
 .have:=s _ I R.2;rw[h.O1 hi] at this;lia
 .obtain⟨T,id⟩:=h.id;have a:=(h.nm _).mp (QK b.ac (h.Bm hi));obtain⟨j,V⟩:∃j:Nat,j=if b.Bq i = -1 then P.n+1 else (b.Bq i).toNat:=⟨_,rfl⟩
  have F:j<P.n+2:=by rw[V];split<;>lia
  have p:j≠P.n:=by rw[V];split<;>lia
  have e:=id i Q1 j F;rw[gJ λl hl=>?_] at e
  .have w:P.Wq b i j=1:=by
    unfold Pb.Wq Pb.Yq;rw[Za hi,V];by_cases J:b.Bq i = -1
    .simp[J,un]
    .rw[Zb J,Zb J,Za Q1];simp[un]
   rw[w] at e;lia
  .by_cases J:l<N
   .have E:=h.AB J hi;have O:=h.xX (QM b.dn (h.Am J));by_cases y:(P.n:Int)<=b.Aq l
    .have g:=s _ y O.2;rw[h.IJ J] at g;simp[Gx,Q4 J,g]
    .have x:P.vec N b l j=0:=by
      unfold Pb.vec Pb.Yq;rw[Za J,V];by_cases q:b.Aq l = -1<;>by_cases X:b.Bq i = -1
      .lia
      .rw[Za q,Zb X];exact Zb Q1
      .rw[Zb q,Za Q1,Za X];exact Zb Q1
      .rw[Zb q,Za Q1,Zb X];exact Zb Q1
     rw[x,Rm]
   .by_cases y:l=N
    .have g:=z 0 Q1;simp only[Rr,if_true] at g;subst y;simp[Gx,g]
    .have x:P.vec N b l j=0:=by
      unfold Pb.vec;rw[Zb J,Zb y];refine Zb ?_;have:N=P.n:=by lia
      rw[Za this] at a;rw[V];split<;>lia
     rw[x,Rm]
theorem pZ{n:Nat}{f:Nat->Nat->Int}:(su n λi=>su m λj=>f i j)=su m λj=>su n λi=>f i j:=by
 induction n with
 |zero=>exact(gJ λ_ _=>rfl).symm
 |succ n b=>simp only[su];rw[b];have:=ku (n:=m) (f:=λj=>su n λi=>f i j) (g:=λj=>f n j) (x:=1) (y:=1);simp only[R0] at this;exact this.symm
variable{P:Pb}{N:Nat}{b b1 b2:Bo}
theorem Ok.Ax(h:Ok P N b)(g:u∈b.ac):∃l,l<N/\b.Aq l=u:=by obtain⟨l,hl,e⟩:=R6 g;exact⟨l,by rw[<-h.sh.ac];exact hl,by simp[Bo.Aq,Rk,hl,e]⟩
def Fc(N:Nat)(b:Bo)(r:Nat)(u:Int):Int:=su N λl=>if b.Aq l=u then b.Gq r l else 0
theorem Ok.perm(h1:Ok P N b1)(h2:Ok P N b2)(hs:∀u,u∈b1.ac↔u∈b2.ac)(r:Nat)(y:Int->Int):(su N λl=>Fc N b2 r (b1.Aq l)*y (b1.Aq l))=su N λl=>b2.Gq r l*y (b2.Aq l):=by
 unfold Fc;rw[aU (g:=λl=>su N λG=>(if b2.Aq G=b1.Aq l then b2.Gq r G*y (b2.Aq G) else 0)) λl hl=>by
  rw[Ri,<-cN];refine aU λG X=>?_;by_cases e:b2.Aq G=b1.Aq l
  .rw[Za e,Za e,e];exact Ri _ _
  .rw[Zb e,Zb e,Rm],pZ]
 refine aU λG X=>?_;obtain⟨l,hl,e⟩:=h1.Ax ((hs _).mpr (h2.Am X));rw[iW hl λi hi hn=>Zb λz=>hn (h1.Ai hi hl (z.symm.trans e.symm)),Za e.symm]
variable{r1 r2:Nat}
theorem Ok.cols(h1:Ok P N b1)(h2:Ok P N b2)(hs:∀u,u∈b1.ac↔u∈b2.ac)(h:r1<=P.m)(e:r2<=P.m)(O:P.Wq b1 r1=P.Wq b2 r2):
  (∀l,l<N->b1.s*Fc N b2 r2 (b1.Aq l)=b2.s*b1.Gq r1 l)/\b1.s*b2.Gq r2 N=b2.s*b1.Gq r1 N:=by
 obtain⟨T1,c⟩:=h1.id;obtain⟨T2,I⟩:=h2.id;have hN:=h1.hN;have T:=h1.pos;have dn:D (P.n+2) (P.vec N b1)≠0:=λz=>by have:=h1.det;rw[z] at this;simp at this;lia
 have key:∀j,j<P.n+2->b2.s*P.Wq b1 r1 j=su (P.n+2) λl=>(if l<N then-Fc N b2 r2 (b1.Aq l) else if l=N then b2.Gq r2 N else T2 r2)*P.vec N b1 l j:=λj F=>by
  simp only[O,I r2 e j F];have q:=h1.perm h2 hs r2 λu=>P.Yq u j;have e1:(su N λl=>qs N l*Gx N b2 T2 r2 l*P.vec N b2 l j) =-su N λl=>b2.Gq r2 l*P.Yq (b2.Aq l) j:=by rw[<-Sd,<-cN];refine aU λl hl=>?_;simp only[qs,Gx,Pb.vec,Za hl,Za (Q4 hl)];grind
  have e2:(su N λl=>(if l<N then-Fc N b2 r2 (b1.Aq l) else if l=N then b2.Gq r2 N else T2 r2)*P.vec N b1 l j) =-su N λl=>Fc N b2 r2 (b1.Aq l)*P.Yq (b1.Aq l) j:=by rw[<-Sd,<-cN];refine aU λl hl=>?_;simp only[Pb.vec,Za hl];grind
  rcases hN with z|z
  .rw[<-z];simp only[su];simp only[e1,e2,q];simp[qs,Gx,Pb.vec,show ¬ N+1<N by simp,show ¬ N+1<=N by lia]
  .rw[show P.n+2=N+1 by lia];simp only[su];rw[e1,e2,q];simp[qs,Gx,Pb.vec]
 have go:∀l,l<P.n+2->b1.s*(if l<N then-Fc N b2 r2 (b1.Aq l) else if l=N then b2.Gq r2 N else T2 r2)=b2.s*(qs N l*Gx N b1 T1 r1 l):=λl hl=>by
  have X:=D.Iw (v:=P.vec N b1) (w:=P.Wq b1 r1) (s:=b1.s) hl (c r1 h);have J:=D.Iw (v:=P.vec N b1) (w:=P.Wq b1 r1) (s:=b2.s) hl key;refine Sm dn ?_
  grind
 refine⟨λl hl=>?_,?_⟩
 .have z:=go l (h1.hc hl);simp only[qs,Gx,Za hl,Za (Q4 hl)] at z
  grind
 .have z:=go N Q1;simp only[qs,Gx,Rf,if_false,if_true,QR] at z
  grind
theorem Ok.uniq(h1:Ok P N b1)(h2:Ok P N b2)(hs:∀u,u∈b1.ac↔u∈b2.ac)(h:r1<=P.m)(e:r2<=P.m)(O:P.Wq b1 r1=P.Wq b2 r2)(v:r1<P.m->b1.Bq r1<P.n)(o2:r2<P.m->b2.Bq r2<P.n)(t:Nat):
  b2.s*Rr P N b1 r1 t=b1.s*Rr P N b2 r2 t:=by
 obtain⟨I,J⟩:=h1.cols h2 hs h e O;unfold Rr;split
 .exact J.symm
 .generalize g:((P.n+(t-1):Nat):Int)=u;have a:Fb P N b1 r1 u=Fc N b1 r1 u:=by unfold Fb F Fc;rw[Zb λz=>by have:=v z.1;lia];exact R5 _
  have G:Fb P N b2 r2 u=Fc N b2 r2 u:=by unfold Fb F Fc;rw[Zb λz=>by have:=o2 z.1;lia];exact R5 _
  rw[a,G];by_cases m:u∈b1.ac
  .obtain⟨l,hl,rfl⟩:=h1.Ax m;rw[I l hl];unfold Fc;rw[iW hl λi hi hn=>Zb λz=>hn (h1.Ai hi hl z),Za rfl]
  .unfold Fc;rw[gJ λl hl=>Zb λ(z:b1.Aq l=u)=>m (by rw[<-z];exact h1.Am hl),gJ λl hl=>Zb λ(z:b2.Aq l=u)=>m ((hs u).mpr (by rw[<-z];exact h2.Am hl))];simp
variable{P:Pb}{N a c:Nat}{b b':Bo}
def Lp(P:Pb)(N:Nat)(b:Bo):Prop:=∀i,i<P.m->LP (P.m+1) (Rr P N b i)
theorem Lp.turn(h:Ok P N b)(p:Lp P N b)(f:a<P.m)(hc:c<N)(hp:0<b.Gq a c)(hm:∀i,i<P.m->0<b.Gq i c->¬ LL (P.m+1) (Rr P N b i) (b.Gq i c) (Rr P N b a) (b.Gq a c)):Lp P N (b.turn a c):=λi hi=>by
 have hs:=h.pos;have q:sn (b.Gq a c)=1:=Zb Q1;by_cases e:i=a
 .subst e;exact(p i hi).congr λt _=>by rw[h.Ra hi hc Q1,q,R0]
 .have E:∀t,b.s*Rr P N (b.turn a c) i t=b.Gq a c*Rr P N b i t+(- b.Gq i c)*Rr P N b a t:=λt=>by rw[h.Ro f hc Q1 Q1 e,q];grind
  by_cases g:b.Gq i c<=0
  .exact LP.uj hs (((LP.mul hp (p i hi)).OX (LN.mul (x:=- b.Gq i c) Q1 (p a f).ln)).congr λt _=>(E t).symm)
  .have z:LN (P.m+1) λt=>b.s*Rr P N (b.turn a c) i t:=λz=>hm i hi Q1 (z.congr λt _=>by show-(b.s*Rr P N (b.turn a c) i t)=_;rw[E t];grind);rcases z.or with z|z
   .exact LP.uj hs z
   .exact((h.turn f hc Q1).nz hi λt l=>(WD.mp (z t l)).resolve_left Q1).elim
variable{r:Nat}
theorem Ok.tO(h:Ok P N b)(p:Lp P N b)(f:a<P.m)(hc:c<N)(hp:0<b.Gq a c)(u:r<=P.m)(hn:r≠a)(J:b.Gq r c<0):LL (P.m+1) (Rr P N b r) b.s (Rr P N (b.turn a c) r) (b.turn a c).s:=by have q:sn (b.Gq a c)=1:=Zb Q1;refine(LP.mul (x:=- b.Gq r c) Q1 (p a f)).congr λt _=>?_;rw[Bo.i4,h.Ro f hc Q1 u hn,q];grind
theorem Ok.Pd(h:Ok P N b)(p:Lp P N b)(f:a<P.m)(hc:c<N)(hp:0<b.Gq a c)(u:r<=P.m)(hn:r≠a)(J:0<b.Gq r c):LL (P.m+1) (Rr P N (b.turn a c) r) (b.turn a c).s (Rr P N b r) b.s:=by have q:sn (b.Gq a c)=1:=Zb Q1;refine(LP.mul J (p a f)).congr λt _=>?_;rw[Bo.i4,h.Ro f hc Q1 u hn,q];grind
noncomputable def allB:Nat->List (List Bool)
 |0=>[[]]
 |k+1=>(allB k).map (true::·)++(allB k).map (false::·)
theorem mN:∀{x:List Bool}{k:Nat},x.length=k->x∈allB k
 |[],_,rfl=>Rc.mpr rfl
 |true::x,_,rfl=>QM _ (Rx.mpr ⟨x,mN rfl,rfl⟩)
 |false::x,_,rfl=>QK _ (Rx.mpr ⟨x,mN rfl,rfl⟩)
theorem rR{α:Type}{p q:α->Bool}(h:∀x,q x=true->p x=true){x0:α}(h1:p x0=true)(h2:q x0=false):∀{L:List α},x0∈L->L.countP q<L.countP p
 |[],z=>nomatch z
 |x::L,z=>by
  have le:=List.countP_mono_left (l:=L) λy _=>h y;simp only[Wm,Wm];rcases QW.mp z with rfl|z
  .rw[h1,h2];simp;exact RE ‹_›
  .have:=rR h h1 h2 z;by_cases e:q x=true
   .rw[e,h x e];simp;lia
   .rw[Zb e];lia
noncomputable def key(P:Pb)(b:Bo):List Bool:=(Q8 (P.n+P.m+1)).map λk=>b.ac.contains ((Ti k)-1)
theorem yQ{b1 b2:Bo}(h1:Ok P N b1)(h2:Ok P N b2)(e:key P b1=key P b2)(u:Int):u∈b1.ac↔u∈b2.ac:=by
 have go:∀{b1 b2:Bo},Ok P N b1->key P b1=key P b2->u∈b1.ac->u∈b2.ac:=λ{b1 b2} h1 e g=>by have r:=h1.xX (QM _ g);have z:=Ze (λx=>x[(u+1).toNat]?) e;simp only[key,Rt,SE (show (u+1).toNat<P.n+P.m+1 by lia),V8,Vr,show Ti (u+1).toNat-1=u by have:Ti (u+1).toNat=((u+1).toNat:Int):=rfl;lia] at z;exact SJ.mp (z▸SJ.mpr g)
 exact⟨go h1 e,go h2 e.symm⟩
open Classical in
def ms(P:Pb)(K:Bo->Prop)(ob:Bo->Nat->Int)(b:Bo):Nat:=(allB (P.n+P.m+1)).countP λx=>decide (∃b',K b'/\key P b'=x/\LL (P.m+1) (ob b) b.s (ob b') b'.s)
open Classical in
theorem FH{K:Bo->Prop}{ob:Bo->Nat->Int}(hs:∀b,K b->0<b.s)(g:∀b1 b2,K b1->K b2->key P b1=key P b2->∀t,b2.s*ob b1 t=b1.s*ob b2 t)(h:K b)(h':K b')(c:LL (P.m+1) (ob b) b.s (ob b') b'.s):ms P K ob b'<ms P K ob b:=by
 refine rR (x0:=key P b') (λx hx=>?_) (Zd ⟨b',h',rfl,c⟩) (Zc ?_) (mN (by simp[key]))
 .obtain⟨a,k,e,l⟩:=Zg hx;exact Zd ⟨a,k,e,LL.trans (hs _ h) (hs _ h') (hs _ k) c l⟩
 .rintro⟨a,k,e,l⟩;obtain⟨t,_,z,_⟩:=l;have:=g b' a h' k e.symm t;have z:0<b'.s*ob a t-a.s*ob b' t:=z;lia
variable{P:Pb}{N c:Nat}{b:Bo}
theorem A6{n:Nat}{g:Nat->Int}:su n (λi=>f i-g i)=su n f-su n g:=by have:=ku (n:=n) (f:=f) (g:=g) (x:=1) (y:=-1);simp only[R0] at this;simp only[show su n f-su n g=su n f + -1*su n g by lia,<-this];exact aU λi _=>by lia
theorem Pk(u:Int)(g:-1<=u)(h2:u<(P.n+P.m:Nat))(F:j<P.n):P.Yq u j=(if u=j then 1 else 0)-su P.m λk=>if u=((P.n+k:Nat):Int) then P.R k j else 0:=by
 unfold Pb.Yq;by_cases I:u = -1
 .rw[Za I,gJ λk hk=>Zb Q1,Zb Q1];exact Zb Q1
 .rw[Zb I];by_cases J:u<P.n
  .rw[Za J,gJ λk hk=>Zb Q1];unfold un;by_cases y:u=j
   .rw[Za Q1,Za y];rfl
   .rw[Zb Q1,Zb y];rfl
  .have e1:(if u=(j:Int) then (1:Int) else 0)=0:=Zb Q1;have e2:(su P.m λk=>if u=((P.n+k:Nat):Int) then P.R k j else 0)=P.R (u-P.n).toNat j:=by rw[iW (a:=(u-P.n).toNat) Q1 λk hk hn=>Zb Q1];exact Za Q1
   rw[Zb J,e1,e2];simp[F]
theorem Qo(u:Int)(g:-1<=u)(h2:u<(P.n+P.m:Nat)):P.Yq u P.n=su P.m λk=>if u=((P.n+k:Nat):Int) then P.L k else 0:=by
 unfold Pb.Yq;by_cases I:u = -1
 .rw[Za I,gJ λk hk=>Zb Q1];exact Zb Z4
 .rw[Zb I];by_cases J:u<P.n
  .rw[Za J,gJ λk hk=>Zb Q1];exact Zb Q1
  .have e2:(su P.m λk=>if u=((P.n+k:Nat):Int) then P.L k else 0)=P.L (u-P.n).toNat:=by rw[iW (a:=(u-P.n).toNat) Q1 λk hk hn=>Zb Q1];exact Za Q1
   rw[Zb J,e2];simp
theorem Ga{x:Nat->Int}:(su N λl=>b.Gq r l*su P.m λk=>if b.Aq l=((P.n+k:Nat):Int) then x k else 0)=su P.m λk=>Fc N b r ((P.n+k:Nat):Int)*x k:=by
 rw[aU (g:=λl=>su P.m λk=>if b.Aq l=((P.n+k:Nat):Int) then b.Gq r l*x k else 0) λl hl=>by rw[<-cN];refine aU λk hk=>?_;split<;>simp,pZ]
 refine aU λk hk=>?_;unfold Fc;rw[Ri,<-cN];refine aU λl hl=>?_;split
 .exact Ri _ _
 .simp
theorem Ok.Ni(h:Ok P N b)(a:r<=P.m)(F:j<P.n+1):b.s*P.Wq b r j=(su N λl=>- (b.Gq r l*P.Yq (b.Aq l) j))+b.Gq r N*un P.n j:=by
 obtain⟨T,id⟩:=h.id;simp only[id r a j (by exact Q9 ‹_›)];have e:(su N λl=>qs N l*Gx N b T r l*P.vec N b l j)=su N λl=>- (b.Gq r l*P.Yq (b.Aq l) j):=aU λl hl=>by simp only[qs,Gx,Pb.vec,Za hl,Za (Q4 hl)];grind
 rcases h.hN with z|z
 .subst z;simp only[su];simp only[e];simp[qs,Gx,Pb.vec,show ¬ P.n+1<P.n by simp,show ¬ P.n+1<=P.n by simp,un,show j≠P.n+1 by exact Rw ‹_›]
 .rw[show P.n+2=N+1 by lia];simp only[su];rw[e];simp[qs,Gx,Pb.vec]
theorem Ok.cost(h:Ok P N b)(a:r<=P.m)(F:j<P.n):b.s*P.Wq b r j=(su P.m λk=>Fc N b r ((P.n+k:Nat):Int)*P.R k j)-Fc N b r j:=by rw[h.Ni a Q1,show un P.n j=0 from Zb Q1,Rm,R5,<-Ga];rw[show Fc N b r j=su N λl=>b.Gq r l*if b.Aq l=j then 1 else 0 from aU λl hl=>by split<;>simp,<-A6];refine aU λl hl=>?_;have:=h.xX (QM b.dn (h.Am hl));rw[Pk (b.Aq l) this.1 this.2 F];grind
theorem Ok.EZ(h:Ok P N b)(a:r<=P.m):b.s*P.Wq b r P.n=b.Gq r N-su P.m λk=>Fc N b r ((P.n+k:Nat):Int)*P.L k:=by
 rw[h.Ni a (by exact Ru _),show un P.n P.n=1 from Za rfl,Sg,<-Ga];simp only[show (su N λl=>- (b.Gq r l*P.Yq (b.Aq l) P.n)) =-su N λl=>b.Gq r l*su P.m λk=>if b.Aq l=((P.n+k:Nat):Int) then P.L k else 0 from by rw[<-Sd,<-cN];refine aU λl hl=>?_;have:=h.xX (QM b.dn (h.Am hl));simp only[Qo (b.Aq l) this.1 this.2];simp]
 exact Int.add_comm _ _
def vl(P:Pb)(b:Bo)(c:Nat)(u:Int):Int:=(su P.m λi=>if b.Bq i=u then qs P.n c*b.Gq i c else 0)+if c<P.n/\b.Aq c=u then b.s else 0
theorem Ok.NC(h:Ok P P.n b)(hc:c<=P.n)(g:u∈b.ac++b.dn):b.s*D (P.n+2) (up c (P.Yq u) (P.vec P.n b))=vl P b c u*D (P.n+2) (P.vec P.n b):=by
 obtain⟨T,id⟩:=h.id;rcases QO.mp g with m|m
 .obtain⟨l,hl,rfl⟩:=h.Ax m;have z:su P.m (λi=>if b.Bq i=b.Aq l then qs P.n c*b.Gq i c else 0)=0:=gJ λi hi=>Zb (h.AB hl hi);unfold vl;rw[z];by_cases e:l=c
  .subst e;rw[Za ⟨hl,rfl⟩,show P.Yq (b.Aq l)=P.vec P.n b l by simp[Pb.vec,hl],rB,Up]
  .rw[Zb λz=>e (h.Ai hl z.1 z.2.symm),D.alike Q1 Q1 (RO e) (by simp[up,e,Pb.vec,hl])];simp
 .obtain⟨i,hi,e⟩:=R6 m;have x:i<P.m:=by rw[<-h.sh.dn];exact hi
  have e2:b.Bq i=u:=by simp[Bo.Bq,Rk,hi,e]
  subst e2;have z:su P.m (λY=>if b.Bq Y=b.Bq i then qs P.n c*b.Gq Y c else 0)=qs P.n c*b.Gq i c:=by rw[iW x λY h1 hn=>Zb λ(z:b.Bq Y=b.Bq i)=>hn (getD_inj (QV.mp h.nd).2.1 (by rw[h.sh.dn];exact h1) hi z),Za rfl]
  unfold vl;rw[z,Zb λz=>h.AB z.1 x z.2.symm];have k:=D.Iw (show c<P.n+2 by lia) (id i (by exact Q4 ‹_›));rw[show P.Wq b i=P.Yq (b.Bq i) by simp[Pb.Wq,x]] at k;simp only[k];simp[Gx,hc]
theorem Ok.Qz(h:Ok P N b):D (P.n+2) (P.vec N b)≠0:=λz=>by have d:=h.det;have:=h.pos;rw[z] at d;simp at d;lia
theorem Ok.Ff(h:Ok P P.n b)(hc:c<=P.n){x:Nat->Int}(e:∀j,j<P.n+2->w j=su (P.n+2) λt=>x t*un t j){g:Int}(O:b.s*D (P.n+2) (up c w (P.vec P.n b))=g*D (P.n+2) (P.vec P.n b)):
  g=(su P.n λj=>x j*vl P b c j)+if c=P.n then b.s*x P.n else 0:=by
 refine Sm h.Qz ?_;rw[<-O,D.congr (w:=up c (λj=>su (P.n+2) λt=>x t*un t j) (P.vec P.n b)) λi j hi F=>by
  unfold up;split
  .exact e j F
  .rfl,D.sum Q1]
 have V:D (P.n+2) (up c (un P.n) (P.vec P.n b))=if c=P.n then D (P.n+2) (P.vec P.n b) else 0:=by
  have v:P.vec P.n b P.n=un P.n:=by simp[Pb.vec]
  split
  .rename_i z;subst z;simp only[<-v,rB]
  .rename_i z;exact D.alike Q1 Z4 z (by simp[up,RO z,v])
 have o:D (P.n+2) (up c (un (P.n+1)) (P.vec P.n b))=0:=D.alike (a:=c) (b:=P.n+1) Q1 (by exact Ru _) Q1 (by simp[up,show P.n+1≠c by lia,Pb.vec,show ¬ P.n+1<P.n by simp]);simp only[su];rw[V,o,Rm,R5,U6,<-cN,Int.add_mul,show ∀(f:Nat->Int)(y:Int),su P.n f*y=su P.n λi=>y*f i from λf y=>by rw[Ri,cN]]
 congr 1
 .refine aU λj F=>?_;have z:=h.NC hc ((h.nm j).mpr (by rw[Za rfl];lia));rw[show P.Yq j=un j by unfold Pb.Yq;rw[Zb Q1,Za Q1];simp] at z
  grind
 .split<;>grind
theorem Ok.E3(h:Ok P P.n b)(hc:c<=P.n)(hk:k<P.m):vl P b c ((P.n+k:Nat):Int)=(if c=P.n then b.s*P.L k else 0)-su P.n λj=>P.R k j*vl P b c j:=by
 have z:=h.NC hc (u:=((P.n+k:Nat):Int)) ((h.nm _).mpr (by rw[Za rfl];lia));have e:=h.Ff hc (x:=λt=>if t<P.n then-P.R k t else if t=P.n then P.L k else 1) (w:=P.Yq ((P.n+k:Nat):Int)) (λj F=>by rw[iW F λt l hn=>by rw[show un t j=0 from Zb (RO hn),Rm]];unfold Pb.Yq;rw[Zb Q1,Zb Q1,show (((P.n+k:Nat):Int)-P.n).toNat=k by lia];simp[un]) z
 rw[e];simp only[Rf,if_false,if_true];rw[aU (g:=λj=>-1*(P.R k j*vl P b c j)) λj F=>by simp only[Za F];grind,cN];lia
theorem Ok.worth(h:Ok P P.n b)(hc:c<=P.n):qs P.n c*b.Gq P.m c=su P.n λj=>P.c j*vl P b c j:=by
 obtain⟨T,id⟩:=h.id;have k:=D.Iw (show c<P.n+2 by lia) (id P.m Z4);rw[show P.Wq b P.m=P.zq by simp[Pb.Wq]] at k;have e:=h.Ff hc (x:=λt=>if t<P.n then P.c t else 0) (λj F=>by rw[iW F λt l hn=>by simp only[show un t j=0 from Zb (RO hn),Rm]];simp[Pb.zq,un]) k
 simp only[Gx,Za hc,Rf,if_false,Rm,ite_self,R5] at e;simp only[e];exact aU λj F=>by rw[Za F]
variable{P:Pb}
noncomputable def fO(P:Pb):Bo:=⟨(Q8 P.n).map Ti,(Q8 P.m).map λi=>((P.n+i:Nat):Int),((Q8 P.m).map λi=>((Q8 P.n).map λj=>P.R i j)++[P.L i])++[((Q8 P.n).map λj=>- P.c j)++[0]],1⟩
noncomputable def cg(P:Pb):Bo:=⟨((Q8 P.n).map Ti)++[-1],(Q8 P.m).map λi=>((P.n+i:Nat):Int),((Q8 P.m).map λi=>((Q8 P.n).map λj=>P.R i j)++[-1,P.L i])++[((Q8 P.n).map λj=>- P.c j)++[0,0]],1⟩
theorem cR{xs ys:List α}{d:α}(h:i<xs.length):(xs++ys).getD i d=xs.getD i d:=by simp[Rk,RV h]
theorem cT{xs ys:List α}{d:α}(h:xs.length<=i):(xs++ys).getD i d=ys.getD (i-xs.length) d:=by simp[Rk,RG h]
theorem dk{f:Nat->α}{n:Nat}{d:α}(h:i<n):((Q8 n).map f).getD i d=f i:=by simp[Rk,h]
theorem qE(hi:i<=P.m)(hl:l<=P.n):(fO P).Gq i l=if i<P.m then (if l<P.n then P.R i l else P.L i) else if l<P.n then-P.c l else 0:=by
 delta Bo.Gq fO
 by_cases c:i<P.m
 .rw[cR (by simpa using c),dk c,Za c]
  by_cases e:l<P.n
  .rw[cR (by simpa using e),dk e,Za e]
  .rw[cT (by simp;lia),Zb e,show l=P.n by lia];simp
 .rw[cT (by simp;lia),Zb c,show i=P.m by lia]
  simp only[QU,TN,Td,V0]
  by_cases e:l<P.n
  .rw[cR (by simpa using e),dk e,Za e]
  .rw[cT (by simp;lia),Zb e,show l=P.n by lia];simp
theorem ig(hi:i<=P.m)(hl:l<=P.n+1):(cg P).Gq i l=if i<P.m then (if l<P.n then P.R i l else if l=P.n then -1 else P.L i) else if l<P.n then-P.c l else 0:=by
 delta Bo.Gq cg
 by_cases c:i<P.m
 .rw[cR (by simpa using c),dk c,Za c]
  by_cases e:l<P.n
  .rw[cR (by simpa using e),dk e,Za e]
  .rw[cT (by simp;lia),Zb e]
   by_cases e2:l=P.n
   .subst e2;simp
   .rw[show l=P.n+1 by lia];simp
 .rw[cT (by simp;lia),Zb c,show i=P.m by lia]
  simp only[QU,TN,Td,V0]
  by_cases e:l<P.n
  .rw[cR (by simpa using e),dk e,Za e]
  .rw[cT (by simp;lia),Zb e]
   by_cases e2:l=P.n
   .subst e2;simp
   .rw[show l=P.n+1 by lia];simp
theorem Gg(hl:l<P.n):(fO P).Aq l=l:=dk hl
theorem qt(hl:l<P.n+1):(cg P).Aq l=if l<P.n then (l:Int) else -1:=by
 delta Bo.Aq cg
 by_cases c:l<P.n
 .rw[cR (by simpa using c),dk c,Za c];rfl
 .rw[cT (by simp;exact Ul.mp ‹_›),Zb c,show l=P.n by lia];simp
theorem E4(hi:i<P.m):(fO P).Bq i=((P.n+i:Nat):Int):=dk hi
theorem Ba(hi:i<P.m):(cg P).Bq i=((P.n+i:Nat):Int):=dk hi
theorem KC(h:j<P.n):P.Yq j=un j:=by unfold Pb.Yq;rw[Zb Z4,Za Q1];rfl
theorem MY(i:Nat):P.Yq ((P.n+i:Nat):Int)=λj=>if j<P.n then-P.R i j else if j=P.n then P.L i else 1:=by unfold Pb.Yq;rw[Zb Q1,Zb Q1,show (((P.n+i:Nat):Int)-P.n).toNat=i by lia]
theorem O5:P.Yq (-1)=un (P.n+1):=Za rfl
theorem iO(h:j≠i):un i j=0:=Zb h
theorem uY(i:Nat):un i i=1:=Za rfl
theorem l8(n:Nat):((Q8 n).map Ti).Nodup:=Vf _ (λa b h z=>h (Ti.inj z)) Wn
theorem qI(P:Pb):((Q8 P.m).map λi=>((P.n+i:Nat):Int)).Nodup:=Vf _ (λa b h (z:((P.n+a:Nat):Int)=((P.n+b:Nat):Int))=>by lia) Wn
theorem yW(P:Pb):Ok P P.n (fO P):=by
 have E:∀l,l<P.n+2->P.vec P.n (fO P) l=un l:=λl hl=>by
  unfold Pb.vec;by_cases c:l<P.n
  .rw[Za c,Gg c,KC c]
  .rw[Zb c];by_cases J:l=P.n
   .rw[Za J,J]
   .rw[Zb J,show l=P.n+1 by lia]
 refine⟨⟨by simp[fO],by simp[fO],by simp[fO],?_⟩,?_,λu=>?_,by simp[fO],.inl rfl,?_,?_⟩
 .intro x hx;rcases QO.mp hx with z|z
  .obtain⟨i,_,rfl⟩:=Rx.mp z;simp
  .rw[Rc.mp z];simp
 .refine QV.mpr ⟨l8 _,qI P,λa f b d=>?_⟩;obtain⟨x,hx,rfl⟩:=Rx.mp f;obtain⟨y,hy,rfl⟩:=Rx.mp d;have:=RJ.mp hx;show (x:Int)≠_;lia
 .rw[Za rfl];constructor
  .intro h;rcases QO.mp h with h|h
   .obtain⟨x,hx,rfl⟩:=Rx.mp h;have:=RJ.mp hx;show 0<=(x:Int)/\(x:Int)<_;lia
   .obtain⟨x,hx,rfl⟩:=Rx.mp h;have:=RJ.mp hx;lia
  .rintro⟨h1,h2⟩;by_cases c:u<P.n
   .exact QM _ (Rx.mpr ⟨u.toNat,RJ.mpr Q1,by show ((u.toNat:Nat):Int)=u;lia⟩)
   .exact QK _ (Rx.mpr ⟨(u-P.n).toNat,RJ.mpr Q1,by show ((P.n+(u-P.n).toNat:Nat):Int)=u;lia⟩)
 .rw[D.un E];rfl
 .refine⟨λi=>if i<P.m then 1 else 0,λi hi j F=>?_⟩;rw[iW F λl hl hn=>by rw[E l hl,iO (RO hn),Rm],E j F,uY,Sg];show 1*P.Wq (fO P) i j=_;unfold Pb.Wq Gx qs;by_cases c:i<P.m
  .rw[Za c,E4 c,MY];by_cases e:j<P.n
   .simp[e,Q4 e,qE hi (Q4 e),c]
   .by_cases e2:j=P.n
    .subst e2;simp[qE hi (QR _),c]
    .simp[e,e2,show ¬ j<=P.n by lia,c]
  .rw[Zb c];unfold Pb.zq;by_cases e:j<P.n
   .simp[e,Q4 e,qE hi (Q4 e),c]
   .by_cases e2:j=P.n
    .subst e2;simp[qE hi (QR _),c]
    .simp[e,show ¬ j<=P.n by lia,c]
theorem FN{b:Bo}(j:∀l,l<N->b.Aq l<P.n)(t:∀i,i<P.m->b.Bq i=((P.n+i:Nat):Int))(hs:b.s=1)(hk:k<P.m):Fb P N b i ((P.n+k:Nat):Int)=if i=k then 1 else 0:=by
 unfold Fb F;rw[gJ λl hl=>Zb λz=>by have:=j l hl;lia,hs];by_cases c:i=k
 .subst c;rw[Za ⟨hk,t i hk⟩,Za rfl];rfl
 .rw[Zb λz=>by have:=t i z.1;lia,Zb c];rfl
theorem HG(h:∀i,i<P.m->0<=P.L i):Lp P P.n (fO P):=λi hi=>by
 have v:Rr P P.n (fO P) i 0=P.L i:=by unfold Rr;rw[Za rfl,qE (by exact Q4 ‹_›) (QR _),Za hi,Zb (Rf _)]
 have f:∀k,k<P.m->Rr P P.n (fO P) i (k+1)=if i=k then 1 else 0:=λk hk=>by exact FN (λl hl=>by rw[Gg hl];lia) (λi hi=>E4 hi) rfl hk
 have:=h i hi;by_cases c:P.L i=0
 .refine⟨i+1,by exact RE ‹_›,by rw[f i hi,Za rfl];decide,λu g=>?_⟩;cases u with
  |zero=>simp only[v,c]
  |succ u=>rw[f u Q1,Zb Q1]
 .exact⟨0,by exact Uq _,by rw[v];lia,λu g=>by exact absurd ‹_› (RZ _)⟩
variable{P:Pb}{a c:Nat}{b:Bo}
theorem qk(P:Pb):Ok P (P.n+1) (cg P):=by
 have X:∀l,l<P.n->P.vec (P.n+1) (cg P) l=un l:=λl hl=>by unfold Pb.vec;rw[Za Q1,qt Q1,Za hl,KC hl]
 have Z:P.vec (P.n+1) (cg P) P.n=un (P.n+1):=by unfold Pb.vec;rw[Za Q1,qt Q1,Zb (Rf _),O5]
 have q:P.vec (P.n+1) (cg P) (P.n+1)=un P.n:=by unfold Pb.vec;rw[Zb (Rf _),Za rfl]
 refine⟨⟨by simp[cg],by simp[cg],by simp[cg],?_⟩,?_,λu=>?_,by simp[cg],.inr rfl,?_,?_⟩
 .intro x hx;rcases QO.mp hx with z|z
  .obtain⟨i,_,rfl⟩:=Rx.mp z;simp
  .rw[Rc.mp z];simp
 .refine QV.mpr ⟨QV.mpr ⟨l8 _,by simp,λa f b E=>?_⟩,qI P,λa f b E=>?_⟩
  .obtain⟨x,hx,rfl⟩:=Rx.mp f;rw[Rc.mp E];show (x:Int) ≠ -1;lia
  .obtain⟨y,hy,rfl⟩:=Rx.mp E;rcases QO.mp f with f|f
   .obtain⟨x,hx,rfl⟩:=Rx.mp f;have:=RJ.mp hx;show (x:Int)≠_;lia
   .rw[Rc.mp f];lia
 .rw[Zb Q1];constructor
  .intro h;rcases QO.mp h with h|h
   .rcases QO.mp h with h|h
    .obtain⟨x,hx,rfl⟩:=Rx.mp h;have:=RJ.mp hx;show -1<=(x:Int)/\(x:Int)<_;lia
    .rw[Rc.mp h];lia
   .obtain⟨x,hx,rfl⟩:=Rx.mp h;have:=RJ.mp hx;lia
  .rintro⟨h1,h2⟩;by_cases p:u = -1
   .exact QM _ (QK _ (Rc.mpr p))
   .by_cases c:u<P.n
    .exact QM _ (QM _ (Rx.mpr ⟨u.toNat,RJ.mpr Q1,by show ((u.toNat:Nat):Int)=u;lia⟩))
    .exact QK _ (Rx.mpr ⟨(u-P.n).toNat,RJ.mpr Q1,by show ((P.n+(u-P.n).toNat:Nat):Int)=u;lia⟩)
 .rw[<-D.mv (d:=1) (k:=P.n+2) (c:=P.n) rfl,D.un λl hl=>?_]
  .rfl
  .unfold mv;by_cases c:l<P.n
   .rw[Za c,X l c]
   .rw[Zb c];by_cases J:l=P.n
    .rw[Za Q1,J,q]
    .rw[Zb Q1,Za Q1,Z,show l=P.n+1 by lia]
 .refine⟨λ_=>0,λi hi j F=>?_⟩;show 1*P.Wq (cg P) i j=_;rw[R0];have w:P.Wq (cg P) i j=if i<P.m then (if j<P.n then-P.R i j else if j=P.n then P.L i else 1) else if j<P.n then P.c j else 0:=by
   unfold Pb.Wq;by_cases c:i<P.m
   .rw[Za c,Za c,Ba c,MY]
   .rw[Zb c,Zb c];rfl
  rw[w];by_cases e:j<P.n
  .rw[iW (a:=j) Q1 λl hl hn=>by
    by_cases c:l<P.n
    .rw[X l c,iO (RO hn),Rm]
    .by_cases J:l=P.n
     .rw[J,Z,iO Q1,Rm]
     .rw[show l=P.n+1 by lia,q,iO Q1,Rm],X j e,uY,Sg]
   unfold Gx qs;by_cases c:i<P.m
   .simp[ig hi (show j<=P.n+1 by lia),e,c,show j<P.n+1 by lia,show j<=P.n+1 by lia]
   .simp[ig hi (show j<=P.n+1 by lia),e,c,show j<P.n+1 by lia,show j<=P.n+1 by lia]
  .by_cases e2:j=P.n
   .rw[iW (a:=P.n+1) Q1 λl hl hn=>by
     by_cases c:l<P.n
     .rw[X l c,iO Q1,Rm]
     .rw[show l=P.n by lia,Z,iO Q1,Rm],q,e2,uY,Sg]
    unfold Gx qs;rw[Zb (Rf _),Za (QR _),ig hi Q1];by_cases c:i<P.m
    .simp[c,show ¬ P.n+1<P.n by lia]
    .simp[c,show ¬ P.n+1<P.n by lia]
   .rw[iW (a:=P.n) Q1 λl hl hn=>by
     by_cases c:l<P.n
     .rw[X l c,iO Q1,Rm]
     .rw[show l=P.n+1 by lia,q,iO Q1,Rm],Z,show j=P.n+1 by lia,uY,Sg]
    unfold Gx qs;by_cases c:i<P.m
    .simp[c,ig hi (show P.n<=P.n+1 by lia),show ¬ P.n+1<P.n by lia]
    .simp[c,ig hi (show P.n<=P.n+1 by lia),show ¬ P.n+1<P.n by lia]
theorem xj(V:a<P.m)(r:P.L a<0)(h1:∀i,i<P.m->P.L a<=P.L i)(h2:∀i,i<P.m->a<i->P.L a<P.L i):Ok P (P.n+1) ((cg P).turn a P.n)/\Lp P (P.n+1) ((cg P).turn a P.n):=by
 have g:∀i,i<P.m->(cg P).Gq i P.n = -1:=λi hi=>by rw[ig Q1 Q1,Za hi,Zb (Rf _),Za rfl]
 have ok:=qk P;have ne:(cg P).Gq a P.n≠0:=by rw[g a V];decide
 refine⟨ok.turn V Q1 ne,λi hi=>?_⟩;have v:∀i,i<P.m->Rr P (P.n+1) (cg P) i 0=P.L i:=λi hi=>by unfold Rr;rw[Za rfl,ig Q1 (QR _),Za hi,Zb Q1,Zb Q1]
 have f:∀i k,k<P.m->Rr P (P.n+1) (cg P) i (k+1)=if i=k then 1 else 0:=λi k hk=>by unfold Rr;rw[Zb Q1];exact FN (λl hl=>by rw[qt hl];split<;>lia) (λi hi=>Ba hi) rfl hk
 have q:sn ((cg P).Gq a P.n) = -1:=by rw[g a V];rfl
 by_cases e:i=a
 .subst e;refine⟨0,by lia,?_,λu R=>by lia⟩;rw[ok.Ra hi Q1 ne,q,v i hi];lia
 .have x:∀t,Rr P (P.n+1) ((cg P).turn a P.n) i t=Rr P (P.n+1) (cg P) i t-Rr P (P.n+1) (cg P) a t:=λt=>by have z:=ok.Ro V (show P.n<P.n+1 by lia) ne (show i<=P.m by lia) e t;rw[q,g a V,g i hi,show (cg P).s=1 from rfl] at z;lia
  have Q:=h1 i hi;by_cases p:P.L i=P.L a
  .have c:i<a:=by
    rcases Nat.lt_or_ge i a with z|z
    .exact z
    .have:=h2 i hi Q1;lia
   refine⟨i+1,by lia,?_,λu R=>?_⟩
   .rw[x,f i i hi,f a i hi,Za rfl,Zb (RO e)];decide
   .rw[x];cases u with
    |zero=>rw[v i hi,v a V,p];lia
    |succ u=>rw[f i u Q1,f a u Q1,Zb Q1,Zb Q1];rfl
  .exact⟨0,by lia,by rw[x,v i hi,v a V];lia,λu R=>by lia⟩
noncomputable def Bo.drop(b:Bo)(c:Nat):Bo:=⟨b.ac.eraseIdx c,b.dn,b.g.map λr=>r.eraseIdx c,b.s⟩
theorem uX{xs:List α}{c:Nat}{d:α}:(xs.eraseIdx c).getD l d=if l<c then xs.getD l d else xs.getD (l+1) d:=by simp only[Rk,List.getElem?_eraseIdx];split<;>rfl
theorem qc(l:Nat):(b.drop c).Aq l=if l<c then b.Aq l else b.Aq (l+1):=uX
theorem mX(h:Ok P (P.n+1) b)(hi:i<=P.m)(l:Nat):(b.drop c).Gq i l=if l<c then b.Gq i l else b.Gq i (l+1):=by
 delta Bo.Gq Bo.drop
 rw[getD_map (by rw[h.sh.g];exact RE ‹_›)]
 exact uX
theorem Ea(h:Ok P (P.n+1) b)(hc:c<P.n+1)(p:b.Aq c = -1):Ok P P.n (b.drop c):=by
 have lc:c<b.ac.length:=by rw[h.sh.ac];exact hc
 have Q:b.ac[c] = -1:=by rw[<-p];simp[Bo.Aq,Rk,lc]
 have pm:b.ac.Perm ((-1)::b.ac.eraseIdx c):=by have:=R8 (a:=b.ac[c]) (l₁:=b.ac.take c) (l₂:=b.ac.drop (c+1));rw[Ud,SI,<-RB,Q] at this;exact this
 have C:(b.ac++b.dn).Perm ((-1)::((b.drop c).ac++(b.drop c).dn)):=pm.append_right _;have nd:=C.nodup_iff.mp h.nd;have E:∀l,l<P.n+2->P.vec P.n (b.drop c) l=mv (P.n+2) c (P.vec (P.n+1) b) l:=λl hl=>by
  have V:∀l,l<P.n+1->P.vec (P.n+1) b l=P.Yq (b.Aq l):=λl hl=>Za hl;have O:P.vec (P.n+1) b (P.n+1)=un P.n:=by unfold Pb.vec;rw[Zb (Rf _),Za rfl]
  have r1:l<P.n->P.vec P.n (b.drop c) l=P.Yq ((b.drop c).Aq l):=λhl=>Za hl;unfold mv;by_cases e:l<c
  .rw[Za e,V l (by exact Tc ‹_› ‹_›),r1 Q1,qc,Za e]
  .rw[Zb e];by_cases e2:l<P.n
   .rw[Za Q1,V (l+1) Q1,r1 e2,qc,Zb e]
   .have r2:P.vec P.n (b.drop c) l=if l=P.n then un P.n else un (P.n+1):=Zb e2
    rw[r2];by_cases N:l=P.n
    .rw[Za N,Za Q1,N,O]
    .rw[Zb N,Zb Q1,Za Q1,V c hc,p,O5]
 refine⟨⟨?_,h.sh.dn,by simp[Bo.drop,h.sh.g],?_⟩,(Rl.mp nd).2,λu=>?_,h.pos,.inl rfl,?_,?_⟩
 .show (b.ac.eraseIdx c).length=_;rw[VQ,Za lc,h.sh.ac];rfl
 .intro x hx;obtain⟨r,S,rfl⟩:=Rx.mp hx;have:=h.sh.r r S;rw[VQ,Za Q1,this];rfl
 .rw[Za rfl];have z:=h.nm u;rw[Zb Q1,C.mem_iff,QW] at z;constructor
  .intro y;have:=z.mp (.inr y);have:u ≠ -1:=λq=>(Rl.mp nd).1 (q▸y);lia
  .rintro⟨h1,h2⟩;exact(z.mpr ⟨by lia,h2⟩).resolve_left Q1
 .rw[D.congr (w:=mv (P.n+2) c (P.vec (P.n+1) b)) λi j hi F=>by rw[E i hi],D.mv (d:=P.n+1-c) Q1];exact h.det
 .obtain⟨T,id⟩:=h.id;refine⟨λi=>- b.Gq i c,λi hi j F=>?_⟩;have w:P.Wq (b.drop c) i=P.Wq b i:=rfl;rw[w];show b.s*_=_;rw[id i hi j F];have key:∀(f g:Nat->Int),(∀l,l<c->g l=f l)->(∀l,c<=l->l<P.n+1->g l=f (l+1))->g (P.n+1)=f c->su (P.n+2) f=su (P.n+2) g:=λf g h1 h2 h3=>by
   have A:∀d,c+d<=P.n+1->su (c+d+1) f=su (c+d) g+f c:=λd hd=>by
    induction d with
    |zero=>show su c f+f c=_;rw[aU (n:=c) λi hi=>(h1 i hi).symm];rfl
    |succ d m=>show su (c+d+1) f+f (c+d+1)=su (c+d) g+g (c+d)+f c;rw[m Q1,h2 (c+d) Q1 Q1];lia
   have:=A (P.n+1-c) Q1;rw[show c+(P.n+1-c)=P.n+1 by lia] at this;rw[this];show _=su (P.n+1) g+g (P.n+1);rw[h3]
  refine key _ _ (λl hl=>?_) (λl h1 h2=>?_) ?_
  .have a1:P.vec P.n (b.drop c) l=P.vec (P.n+1) b l:=by rw[E l Q1];exact Za hl
   have H:Gx P.n (b.drop c) (λi=>- b.Gq i c) i l=b.Gq i l:=by unfold Gx;rw[Za Q1,mX h hi,Za hl]
   have Z:Gx (P.n+1) b T i l=b.Gq i l:=Za Q1;have B:qs P.n l = -1:=Za Q1;have X:qs (P.n+1) l = -1:=Za Q1;rw[a1,H,Z,B,X]
  .have a1:P.vec P.n (b.drop c) l=P.vec (P.n+1) b (l+1):=by rw[E l Q1];unfold mv;rw[Zb Q1,Za Q1]
   have H:Gx P.n (b.drop c) (λi=>- b.Gq i c) i l=b.Gq i (l+1):=by unfold Gx;rw[Za Q1,mX h hi,Zb Q1]
   have Z:Gx (P.n+1) b T i (l+1)=b.Gq i (l+1):=Za Q1;have B:qs P.n l=qs (P.n+1) (l+1):=by
    unfold qs;by_cases e:l<P.n
    .rw[Za e,Za Q1]
    .rw[Zb e,Zb Q1]
   rw[a1,H,Z,B]
  .have a1:P.vec P.n (b.drop c) (P.n+1)=P.vec (P.n+1) b c:=by rw[E (P.n+1) Q1];unfold mv;rw[Zb Q1,Zb Q1,Za rfl]
   have H:Gx P.n (b.drop c) (λi=>- b.Gq i c) i (P.n+1) =-b.Gq i c:=Zb Q1;have Z:Gx (P.n+1) b T i c=b.Gq i c:=Za Q1;have B:qs P.n (P.n+1)=1:=Zb Q1;have X:qs (P.n+1) c = -1:=Za hc;rw[a1,H,Z,B,X];grind
theorem Ds(h:Ok P (P.n+1) b)(p:Lp P (P.n+1) b)(hc:c<P.n+1)(N:b.Aq c = -1):Lp P P.n (b.drop c):=λi hi=>(p i hi).congr λt _=>by
 unfold Rr;rw[mX h (by exact Q4 ‹_›)];by_cases e:t=0
 .rw[Za e,Za e,Zb Q1]
 .rw[Zb e,Zb e]
  delta Fb F
  congr 1
  generalize g:((P.n+(t-1):Nat):Int)=u;have A:∀d,c+d<=P.n->su (c+d+1) (λl=>if b.Aq l=u then b.Gq i l else 0)=su (c+d) (λl=>if (b.drop c).Aq l=u then (b.drop c).Gq i l else 0):=λd hd=>by
   induction d with
   |zero=>show su c _+(if b.Aq c=u then b.Gq i c else 0)=_;rw[Zb Q1,R5];exact aU λl hl=>by rw[qc,Za hl,mX h Q1,Za hl]
   |succ d m=>show su (c+d+1) _+(if b.Aq (c+d+1)=u then b.Gq i (c+d+1) else 0)=su (c+d) _+(if (b.drop c).Aq (c+d)=u then (b.drop c).Gq i (c+d) else 0);rw[m (by exact Q4 ‹_›),qc,mX h Q1,Zb (show ¬ c+d<c by lia),Zb (show ¬ c+d<c by lia)]
  have:=A (P.n-c) Q1;rw[show c+(P.n-c)=P.n by lia] at this;exact this
theorem Ok.short(h:Ok P (P.n+1) b)(x:Lp P (P.n+1) b)(a:r<P.m)(N:b.Bq r = -1)(J:∀l,l<P.n+1->b.Gq r l<=0):0<b.Gq r (P.n+1):=by
 have f:∀k,k<P.m->Rr P (P.n+1) b r (k+1)<=0:=λk hk=>by
  unfold Rr;rw[Zb Q1];show Fb P (P.n+1) b r ((P.n+k:Nat):Int)<=0;by_cases m:((P.n+k:Nat):Int)∈b.ac
  .obtain⟨l,hl,e⟩:=h.Ax m;rw[<-e,h.IJ hl];exact J l hl
  .unfold Fb F;rw[gJ λl hl=>Zb λz=>m (by rw[<-z];exact h.Am hl),Zb λz=>by lia];decide
 obtain⟨t,y,p,z⟩:=x r a;cases t with
 |zero=>exact p
 |succ t=>have:=f t Q1;lia
variable{P:Pb}{N c:Nat}{b:Bo}
theorem uQ{n:Nat}(h:∀i,i<n->0<=f i):0<=su n f:=by
 induction n with
 |zero=>exact TQ 0
 |succ n m=>exact WJ (m λi hi=>h i Q1) (h n Q1)
theorem Lp.val(x:Lp P N b)(hi:i<P.m):0<=b.Gq i N:=by
 obtain⟨t,l,p,z⟩:=x i hi;cases t with
 |zero=>exact R4 p
 |succ t=>exact Ur (z 0 (by exact Uq _)).symm
structure Keeps(P:Pb)(s:Int)(x:Nat->Int):Prop where
 nn:∀j,j<P.n->0<=x j
 le:∀k,k<P.m->(su P.n λj=>P.R k j*x j)<=s*P.L k
theorem FK(A:∀i,i<P.m->0<=qs P.n c*b.Gq i c)(hs:0<=b.s)(u:Int):0<=vl P b c u:=by
 refine WJ (uQ λi hi=>?_) ?_
 .split
  .exact A i hi
  .exact TQ 0
 .split
  .exact hs
  .exact TQ 0
theorem Ok.keeps(h:Ok P P.n b)(p:Lp P P.n b):Keeps P b.s λj=>vl P b P.n j:=by
 have nn:=FK (λi hi=>by rw[show qs P.n P.n=1 from Zb (Rf _),R0];exact p.val hi) (R4 h.pos);refine⟨λj _=>nn _,λk hk=>?_⟩;have z:=h.E3 (QR P.n) hk;have:=nn ((P.n+k:Nat):Int)
 lia
theorem Gm(h:∀l,l<N->0<=b.Gq r l)(u:Int):0<=Fc N b r u:=uQ λl hl=>by
 split
 .exact h l hl
 .exact TQ 0
theorem Bx(h:Ok P P.n b)(J:∀l,l<P.n->0<=b.Gq P.m l):
  (su P.n λj=>P.c j*vl P b P.n j)=b.Gq P.m P.n/\(∀k,0<=Fc P.n b P.m ((P.n+k:Nat):Int))/\(∀j,j<P.n->b.s*P.c j<=su P.m λk=>Fc P.n b P.m ((P.n+k:Nat):Int)*P.R k j)/\(su P.m λk=>Fc P.n b P.m ((P.n+k:Nat):Int)*P.L k)=b.Gq P.m P.n:=by
 have w:P.Wq b P.m=P.zq:=by simp[Pb.Wq]
 refine⟨?_,λk=>Gm J _,λj F=>?_,?_⟩
 .rw[<-h.worth (QR P.n),show qs P.n P.n=1 from Zb (Rf _),R0]
 .have z:=h.cost (QR P.m) F;rw[w,show P.zq j=P.c j from Za F] at z;have:=Gm J (j:Int);lia
 .have z:=h.EZ (QR P.m);rw[w,show P.zq P.n=0 from Zb (Rf _)] at z;lia
theorem Bk(h:Ok P P.n b)(hc:c<P.n)(J:b.Gq P.m c<0)(d:∀i,i<P.m->b.Gq i c<=0):Keeps { P with L:=λ_=>0 } b.s (λj=>vl P b c j)/\0<su P.n λj=>P.c j*vl P b c j:=by
 have q:qs P.n c = -1:=Za hc;have nn:∀u,0<=vl P b c u:=FK (λi hi=>by rw[q];have:=d i hi;lia) (R4 h.pos);refine⟨⟨λj _=>nn _,λk hk=>?_⟩,?_⟩
 .have z:=h.E3 (Q4 hc) hk;rw[Zb Q1] at z;have:=nn ((P.n+k:Nat):Int);show (su P.n λj=>P.R k j*vl P b c j)<=b.s*0;lia
 .rw[<-h.worth (Q4 hc),q];lia
theorem yA(h:Ok P (P.n+1) b)(p:Lp P (P.n+1) b)(a:r<P.m)(N:b.Bq r = -1)(J:∀l,l<P.n+1->b.Gq r l<=0):
  (∀k,0 <=-Fc (P.n+1) b r ((P.n+k:Nat):Int))/\(∀j,j<P.n->0<=su P.m λk=>- Fc (P.n+1) b r ((P.n+k:Nat):Int)*P.R k j)/\(su P.m λk=>- Fc (P.n+1) b r ((P.n+k:Nat):Int)*P.L k)<0:=by
 have w:P.Wq b r=un (P.n+1):=by simp[Pb.Wq,a,N,O5]
 have np:∀u,Fc (P.n+1) b r u<=0:=λu=>by
  have:0<=su (P.n+1) λl=>- (if b.Aq l=u then b.Gq r l else 0):=uQ λl hl=>by have:=J l hl;split<;>lia
  have e:=cN (k:=P.n+1) (x:=-1) (f:=λl=>if b.Aq l=u then b.Gq r l else 0);simp only[Sd] at e;rw[e] at this;unfold Fc;lia
 have c:∀(f:Nat->Int),(su P.m λk=>- Fc (P.n+1) b r ((P.n+k:Nat):Int)*f k) =-su P.m λk=>Fc (P.n+1) b r ((P.n+k:Nat):Int)*f k:=λf=>by rw[<-Sd,<-cN];exact aU λk _=>by grind
 refine⟨λk=>by have:=np ((P.n+k:Nat):Int);lia,λj F=>?_,?_⟩
 .have z:=h.cost (show r<=P.m by lia) F;rw[w,iO Q1,Rm] at z;rw[c];have:=np (j:Int);lia
 .have z:=h.EZ (show r<=P.m by lia);rw[w,iO Q1,Rm] at z;have:=h.short p a N J;rw[c];lia
def K2(P:Pb)(b:Bo):Prop:=Ok P P.n b/\Lp P P.n b
def K1(P:Pb)(b:Bo):Prop:=Ok P (P.n+1) b/\Lp P (P.n+1) b /\ -1∈b.dn
def MT(P:Pb)(b:Bo):Nat->Int:=Rr P P.n b P.m
noncomputable def cx(b:Bo):Nat:=b.dn.idxOf (-1)
def GO(P:Pb)(b:Bo)(t:Nat):Int:=- Rr P (P.n+1) b (cx b) t
theorem iA(h:K1 P b):cx b<P.m:=by simp only[<-h.1.sh.dn];exact R1 h.2.2
theorem i9(h:K1 P b):b.Bq (cx b) = -1:=by
 have:=iA h;have l:cx b<b.dn.length:=by rw[h.1.sh.dn];exact this
 simp only[Bo.Bq,Rk,Rb l,Te];exact UJ l
theorem Hy{a:Nat}(h:K2 P b)(f:a<P.m)(hc:c<P.n)(hp:0<b.Gq a c)(J:b.Gq P.m c<0)(hm:∀i,i<P.m->0<b.Gq i c->¬ LL (P.m+1) (Rr P P.n b i) (b.Gq i c) (Rr P P.n b a) (b.Gq a c)):
  K2 P (b.turn a c)/\ms P (K2 P) (MT P) (b.turn a c)<ms P (K2 P) (MT P) b:=by
 have k:K2 P (b.turn a c):=⟨h.1.turn f hc Q1,Lp.turn h.1 h.2 f hc hp hm⟩
 refine⟨k,FH (λb h=>h.1.pos) (λb1 b2 h1 h2 e t=>?_) h k (h.1.tO h.2 f hc hp (QR _) Q1 J)⟩;exact h1.1.uniq h2.1 (yQ h1.1 h2.1 e) (QR _) (QR _) (by simp[Pb.Wq]) (λz=>absurd z (Rf _)) (λz=>absurd z (Rf _)) t
theorem IC{a:Nat}(h:K1 P b)(f:a<P.m)(hn:a≠cx b)(hc:c<P.n+1)(hp:0<b.Gq a c)(J:0<b.Gq (cx b) c)(hm:∀i,i<P.m->0<b.Gq i c->¬ LL (P.m+1) (Rr P (P.n+1) b i) (b.Gq i c) (Rr P (P.n+1) b a) (b.Gq a c)):
  K1 P (b.turn a c)/\cx (b.turn a c)=cx b/\ms P (K1 P) (GO P) (b.turn a c)<ms P (K1 P) (GO P) b:=by
 have hl:=iA h;have w:=i9 h;have ok:=h.1.turn f hc (show b.Gq a c≠0 by lia);have x:(b.turn a c).Bq (cx b) = -1:=by rw[Bo.mS h.1.sh f];unfold qz;rw[Zb (RO hn),w]
 have k:K1 P (b.turn a c):=⟨ok,Lp.turn h.1 h.2.1 f hc hp hm,x▸ok.Bm hl⟩
 have G:cx (b.turn a c)=cx b:=getD_inj (QV.mp ok.nd).2.1 (by rw[ok.sh.dn];exact iA k) (by rw[ok.sh.dn];exact hl) ((i9 k).trans x.symm);refine⟨k,G,FH (λb h=>h.1.pos) (λb1 b2 h1 h2 e t=>?_) h k ?_⟩
 .have Q:=iA h1;have T:=iA h2;have z:=h1.1.uniq h2.1 (yQ h1.1 h2.1 e) (Q4 Q) (Q4 T) (by simp[Pb.Wq,Q,T,i9 h1,i9 h2]) (λ_=>by rw[i9 h1];lia) (λ_=>by rw[i9 h2];lia) t;unfold GO
  grind
 .have z:=h.1.Pd h.2.1 f hc hp (Q4 hl) (RO hn) J;refine z.congr λt _=>?_;unfold GO;rw[G];grind
noncomputable def Er:Nat->Nat
 |0=>1
 |n+1=>(n+1)*Er n
theorem BS{n:Nat}{B:Nat}(h:∀i,i<n->(f i).natAbs<=B):(su n f).natAbs<=n*B:=by
 induction n with
 |zero=>exact R7 _
 |succ n m=>have h1:=m λi hi=>h i Q1;have h2:=h n (by exact Ru _);show (su n f+f n).natAbs<=_;simp only[Nat.add_mul,V1];lia
theorem Ip(i:Nat):(sg i).natAbs=1:=by unfold sg;split<;>rfl
theorem D.le{M:Nat}:∀{k:Nat}{v:Nat->Ve},(∀i j,i<k->j<k->(v i j).natAbs<=M)->(D k v).natAbs<=Er k*M^k
 |0,_,_=>by exact Uq _
 |k+1,v,h=>by
  refine Rn (BS (B:=M*(Er k*M^k)) λi hi=>?_) (Uj ?_)
  .simp only[RU,RU,Ip,V1];refine Vh (h i k hi (by exact Ru _)) (D.le λa b f d=>?_);unfold sk;split
   .exact h a b (by exact Q9 ‹_›) Q1
   .exact h _ b (by exact RE ‹_›) Q1
  .show (k+1)*(M*(Er k*M^k))=(k+1)*Er k*M^(k+1);simp only[W6];generalize Er k=x;generalize M^k=y;simp only[Vw,Tz y M,<-Vw M x y,Tz M x,Vw x M y]
variable{P:Pb}{N:Nat}{b:Bo}{M:Nat}
structure Pb.Le(P:Pb)(M:Nat):Prop where
 one:1<=M
 c:∀j,j<P.n->(P.c j).natAbs<=M
 R:∀i j,i<P.m->j<P.n->(P.R i j).natAbs<=M
 L:∀i,i<P.m->(P.L i).natAbs<=M
theorem z7(h:1<=M)(i j:Nat):(un i j).natAbs<=M:=by unfold un;split<;>simp<;>lia
theorem Ln(h:P.Le M)(g:-1<=u)(h2:u<(P.n+P.m:Nat))(j:Nat):(P.Yq u j).natAbs<=M:=by
 unfold Pb.Yq;by_cases I:u = -1
 .rw[Za I];exact z7 h.one _ _
 .rw[Zb I];by_cases J:u<P.n
  .rw[Za J];exact z7 h.one _ _
  .rw[Zb J];by_cases y:j<P.n
   .rw[Za y,WH];exact h.R _ _ Q1 y
   .rw[Zb y];by_cases q:j=P.n
    .rw[Za q];exact h.L _ Q1
    .rw[Zb q];exact h.one
theorem B8(h:P.Le M)(ok:Ok P N b)(i j:Nat):(P.vec N b i j).natAbs<=M:=by
 unfold Pb.vec;by_cases c:i<N
 .rw[Za c];have:=ok.xX (QM b.dn (ok.Am c));exact Ln h this.1 this.2 j
 .rw[Zb c];split<;>exact z7 h.one _ _
theorem OB(h:P.Le M)(ok:Ok P N b)(i j:Nat):(P.Wq b i j).natAbs<=M:=by
 unfold Pb.Wq;by_cases c:i<P.m
 .rw[Za c];have:=ok.xX (QK b.ac (ok.Bm c));exact Ln h this.1 this.2 j
 .rw[Zb c];unfold Pb.zq;by_cases J:j<P.n
  .rw[Za J];exact h.c j J
  .rw[Zb J];exact R7 _
theorem Ok.OW(h:P.Le M)(ok:Ok P N b):b.s.natAbs<=Er (P.n+2)*M^(P.n+2):=by rw[<-ok.det];exact D.le λi j _ _=>B8 h ok i j
theorem Ok.Pm(h:P.Le M)(ok:Ok P N b)(hi:i<=P.m)(hl:l<=N):(b.Gq i l).natAbs<=Er (P.n+2)*M^(P.n+2):=by
 obtain⟨T,id⟩:=ok.id;have hN:=ok.hN;have hs:=ok.pos;have c:=D.Iw (show l<P.n+2 by lia) (id i hi);have e:=Ze Xz c;simp only[RU,RU,RU,ok.det] at e;have g:(qs N l).natAbs=1:=by unfold qs;split<;>rfl
 rw[g,V1,show Gx N b T i l=b.Gq i l from Za hl,Tz] at e;have e2:=Nat.eq_of_mul_eq_mul_right (show 0<b.s.natAbs by lia) e;simp only[<-e2];refine D.le λa j _ _=>?_;unfold up;split
 .exact OB h ok i j
 .exact B8 h ok a j
variable{P:Pb}{N c a k t:Nat}{b:Bo}
theorem M7{M:Nat}(l:t<M)(L:∀u,u<t->f u=0)(hn:f t≠0):LP M f↔0<f t:=by
 constructor
 .rintro⟨u,a,b,z⟩;rcases Wj t u with c|c|c
  .exact absurd (z t c) hn
  .rw[c];exact b
  .rw[L u c] at b;lia
 .exact λh=>⟨t,l,h,L⟩
theorem Ma{M:Nat}(L:∀u,u<M->f u=0):¬ LP M f:=λ⟨u,a,b,_⟩=>by rw[L u a] at b;lia
def Bw(P:Pb)(N:Nat)(b:Bo)(c i k:Nat):Prop:=LL (P.m+1) (Rr P N b i) (b.Gq i c) (Rr P N b k) (b.Gq k c)
def pf(P:Pb)(N:Nat)(b:Bo)(c k:Nat):Option Nat->Prop
 |none=>∀i,i<k->b.Gq i c<=0
 |some a=>a<k/\0<b.Gq a c/\∀i,i<k->0<b.Gq i c->¬ Bw P N b c i a
theorem pf.zero:pf P N b c 0 none:=λi hi=>by lia
theorem pf.no{f:Option Nat}(h:pf P N b c k f)(hk:b.Gq k c<=0):pf P N b c (k+1) f:=by
 cases f with
 |none=>
  intro i hi;by_cases e:i=k
  .rw[e];exact hk
  .exact h i Q1
 | some a=>exact⟨by have:=h.1;exact Q9 ‹_›,h.2.1,λi hi hp=>by
   by_cases e:i=k
   .rw[e] at hp;lia
   .exact h.2.2 i Q1 hp⟩
theorem pf.one(h:pf P N b c k none)(hk:0<b.Gq k c):pf P N b c (k+1) (some k):=⟨by exact Ru _,hk,λi hi hp=>by
 by_cases e:i=k
 .rw[e];exact LL.PD
 .have:=h i Q1;lia⟩
theorem pf.keep(h:pf P N b c k (some a))(hn:¬ Bw P N b c k a):pf P N b c (k+1) (some a):=⟨by have:=h.1;exact Q9 ‹_›,h.2.1,λi hi hp=>by
 by_cases e:i=k
 .rw[e];exact hn
 .exact h.2.2 i Q1 hp⟩
theorem pf.put(h:pf P N b c k (some a))(hk:0<b.Gq k c)(hn:Bw P N b c k a):pf P N b c (k+1) (some k):=⟨by lia,hk,λi hi hp=>by
 by_cases e:i=k
 .rw[e];exact LL.PD
 .exact LL.nt hp h.2.1 hk (h.2.2 i Q1 hp) hn⟩
theorem Ok.KP(h:Ok P N b)(g:u∉b.ac)(i:Nat):Fb P N b i u=if i<P.m/\b.Bq i=u then b.s else 0:=by unfold Fb F;rw[gJ λl hl=>Zb λe=>g (by rw[<-e];exact h.Am hl),Up]
theorem uF{n:Nat}{g:Nat->Int}(h:∀i,i<n->f i<=g i):su n f<=su n g:=by
 have:=uQ (f:=λi=>g i-f i) λi hi=>by have:=h i hi;lia
 rw[A6] at this;lia
variable{P:Pb}{s t:Int}{x y:Nat->Int}
theorem ot:(su P.n λj=>(su P.m λk=>y k*P.R k j)*x j)=su P.m λk=>y k*su P.n λj=>P.R k j*x j:=by
 rw[aU (g:=λj=>su P.m λk=>y k*(P.R k j*x j)) λj F=>by rw[Ri,<-cN];exact aU λk hk=>by grind,pZ]
 exact aU λk hk=>cN
theorem weak(k:Keeps P s x)(hy:∀k,k<P.m->0<=y k)(hc:∀j,j<P.n->t*P.c j<=su P.m λk=>y k*P.R k j):t*(su P.n λj=>P.c j*x j)<=s*su P.m λk=>y k*P.L k:=by
 have a:(su P.n λj=>t*(P.c j*x j))<=su P.n λj=>(su P.m λk=>y k*P.R k j)*x j:=uF λj F=>by rw[<-T5];exact Int.mul_le_mul_of_nonneg_right (hc j F) (k.nn j F)
 have b:(su P.m λk=>y k*su P.n λj=>P.R k j*x j)<=su P.m λk=>s*(y k*P.L k):=uF λi hi=>by
  have:=Int.mul_le_mul_of_nonneg_left (k.le i hi) (hy i hi)
  grind
 simp only[cN] at a b;simp only[ot] at a;exact Tx a b
theorem uU(k:Keeps P s x)(hs:0<s)(hy:∀k,k<P.m->0<=y k)(hc:∀j,j<P.n->0<=su P.m λk=>y k*P.R k j)(hl:(su P.m λk=>y k*P.L k)<0):False:=by have z:=weak (P:={ P with c:=λ_=>0 }) (t:=1) ⟨k.nn,k.le⟩ hy (λj F=>by show 1*0<=_;exact hc j F);have e:(su P.n λj=>(0:Int)*x j)=0:=gJ λ_ _=>Ta _;have z:1*(su P.n λj=>(0:Int)*x j)<=s*su P.m λk=>y k*P.L k:=z;rw[e] at z;have:=Vq hs hl;lia
theorem DK(k:Keeps { P with L:=λ_=>0 } s x)(hs:0<=s)(J:0<su P.n λj=>P.c j*x j)(l:0<t)(hy:∀k,k<P.m->0<=y k)(hc:∀j,j<P.n->t*P.c j<=su P.m λk=>y k*P.R k j):False:=by have z:=weak (P:={ P with L:=λ_=>0 }) k hy hc;have e:(su P.m λk=>y k*(0:Int))=0:=gJ λ_ _=>Rm _;have z:t*(su P.n λj=>P.c j*x j)<=s*su P.m λk=>y k*(0:Int):=z;rw[e,Rm] at z;have:=VZ l J;lia
end Sx
namespace W
open PySem L2 M
inductive X2{α D:Type}(p:α->D->Prop):Prop|mk(a:α)(b:D)(h:p a b)
inductive X3{α D γ:Type}(p:α->D->γ->Prop):Prop|mk(a:α)(b:D)(c:γ)(h:p a b c)
inductive X5{α D γ δ ε:Type}(p:α->D->γ->δ->ε->Prop):Prop|mk(a:α)(b:D)(c:γ)(d:δ)(e:ε)(h:p a b c d e)
inductive N3(a b c:Prop):Prop|mk(x:a)(y:b)(z:c)
inductive N4(a b c d:Prop):Prop|mk(x:a)(y:b)(z:c)(w:d)
inductive N6(a b c d e f:Prop):Prop|mk(x:a)(y:b)(z:c)(w:d)(u:e)(v:f)
variable{Z:List Sl}
theorem bK{x:Rr}{xs:List A}{i:Int}{a:A}(h:res Z x=some (.lst xs)\/res Z x=some (.tup xs))(e:gL xs i=some a):kX DC x (.fr (.int i)) Z=some (.ok (.fr a),Z):=by
 have k:∀b,(b=.lst xs\/b=.tup xs)->DC b (.int i)=some (.fr a):=by rintro _ (rfl|rfl)<;>exact(show (match gL xs i with|some a=>some (Rr.fr a)|none=>none)=some (Rr.fr a) by rw[e])
 unfold kX;rcases h with h|h<;>rw[h,show res Z (.fr (.int i))=some (.int i) from rfl]<;>dsimp only<;>rw[k _ Z4]
variable{U:List Sl}{Q:Fl->List Sl->Prop}
theorem Wp.sr{m n:Ms}{s:Sl}(h:m Z=some (.rt s,U))(q:Q (.rt s) U):Wp (ao m n) Z Q:=⟨_,_,by unfold ao;rw[h],q⟩
theorem fD{t:Mi Bool}{m n:Ms}{r:Option (Fl×List Sl)}(h:t Z=some (.ok true,U))(k:m U=r):i7 t m n Z=r:=sk h k
theorem dr{t:Mi Bool}{m n:Ms}{r:Option (Fl×List Sl)}(h:t Z=some (.ok false,U))(k:n U=r):i7 t m n Z=r:=sk h k
theorem Gw(i j:Int)(Z:List Sl):kX gw (.fr (.int i)) (.fr (.int j)) Z=some (.ok (.fr (.bl (decide (i=j)))),Z):=by simp only[kX,res,gw,pJ]
theorem dD{m n:Ms}{r:Option (Fl×List Sl)}(h:m Z=some (.nx,U))(k:n U=r):ao m n Z=r:=by unfold ao;rw[h];exact k
variable{i:Nat}{r:Rr}{Z':List Sl}
theorem GL{a s:Sl}(h:xW r Z=some (a,U))(k:U[i]?=some s)(hn:np s=true)(e:U.set i a=Z'):CO i r Z=some (.nx,Z'):=by rw[Nf h k hn,e]
variable{G:Mg}{e:Mi Rr}
theorem bE{n:Nat}{v:Mi (List A)}{t:Mi Bool}{as:List A}(h:v Z=some (.ok as,U))(k:gG n G t e as U=some (.ok r,Z')):aH n v G t e Z=some (.ok r,Z'):=bk h k
theorem aW{m:Mi Rr}{a s:Sl}(h:m Z=some (.ok r,U))(h1:xW r U=some (a,U))(k:U[i]?=some s)(hn:np s=true)(e:U.set i a=Z'):aE i m Z=some (.nx,Z'):=Ar h (GL h1 k hn e)
theorem Kq{m:Mi Rr}{x:Rr}{a:A}{xs:List A}(L:Ku Z i=true)(h:m Z=some (.ok x,U))(k:bW x U=some (a,U))(l:aD U i=some (.lst xs))(hl:xs.length<=16000000)(e:setAt U i (.lst (xs++[a]))=Z'):c9 (xU i (jr i m)) Z=some (.nx,Z'):=by refine d9 (r:=.fr .non) ((Za L).trans (bk h ?_));rw[k];dsimp only;rw[l];dsimp only;rw[Za hl,e]
theorem fu{o:Option (Except Str Rr×List Sl)}{f:A->A->Option Rr}{x y:Rr}{a b:A}(h1:res Z x=some a)(h2:res Z y=some b)(k:f a b=some r):kX f x y Z=some (.ok r,Z):=by unfold kX;rw[h1,h2];dsimp only;rw[k]
theorem fw{i j:Int}{b:Bool}(h:decide (i=j)=b)(Z:List Sl):kX iX (.fr (.int i)) (.fr (.int j)) Z=some (.ok (.fr (.bl (!b))),Z):=by rw[<-h];simp only[kX,res,iX,pJ]
theorem iD{i j:Int}{b:Bool}(h:decide (i=j)=b)(Z:List Sl):kX gw (.fr (.int i)) (.fr (.int j)) Z=some (.ok (.fr (.bl b)),Z):=by rw[<-h];exact Gw i j Z
theorem kg{i j:Int}(h:j≠0)(Z:List Sl):kX kW (.fr (.int i)) (.fr (.int j)) Z=some (.ok (.fr (.int (i.fmod j))),Z):=fu (o:=none) rfl rfl (Za (by simpa using h))
theorem kn{i j:Int}(h:j≠0)(f:fits 9000 j=true)(Z:List Sl):kX iI (.fr (.int i)) (.fr (.int j)) Z=some (.ok (.fr (.int (i.fdiv j))),Z):=fu (o:=none) rfl rfl (Za (by rw[f];simpa using h))
theorem m8{i j:Int}(h:fits 20000 i=true)(k:fits 20000 j=true)(Z:List Sl):kX bz (.fr (.int i)) (.fr (.int j)) Z=some (.ok (.fr (.int (i*j))),Z):=by have e:bz (.int i) (.int j)=some (.fr (.int (i*j))):=Za (by simp only[h,k];rfl);exact fu (o:=none) rfl rfl e
theorem ft{n m:Nat}{i:Int}(h:L2.Bd n i)(k:n<=m):fits m i=true:=iB h k
theorem mj{f:A->Option Rr}{x:Rr}{a:A}(h:res Z x=some a)(k:f a=some r):OT f x Z=some (.ok r,Z):=by unfold OT;rw[h];dsimp only;rw[k]
theorem qD{m:Mi Rr}{x:Rr}{as:List A}(h:m Z=some (.ok x,U))(k:OP x U=some (.ok as,Z')):cJ m Z=some (.ok as,Z'):=bk h k
theorem sC{n:Nat}{t:Mi Bool}{b:Ms}{r:Option (Fl×List Sl)}(h:dI t b n Z=r):gS n t b Z=r:=h
variable{j:Nat}{rs:List Rr}
theorem Iu{ms:Mi (List Rr)}{r:Option (Fl×List Sl)}(h:ms Z=some (.ok rs,U))(k:CV i j rs U=r):yT i j ms Z=r:=sk h k
variable{mk:Mi Rr}{S:List Sl}
theorem oz{m:Mi Rr}{c:Rr}{q:Option (Fl×List Sl)}(h:m Z=some (.ok r,S))(l:Ku S i=true)(hk:mk S=some (.ok c,U))(k:P2 i r c U=q):gq i mk m Z=q:=sk h ((Za l).trans (sk hk k))
theorem Ph{x y:Int}(h:y≠0)(d:L2.Bd 9000 y):Val fY [.int x,.int y] (.int (cd x y)):=by
 obtain⟨O,h1,q,r,rfl⟩:=oI (t:=aj (ay iX (aa 1) (aC 0))) (b:=ao (aE 2 (ay kW (aa 0) (aa 1))) (ao (aE 0 (aa 1)) (aE 1 (aa 2))))
  (P:=λk Z=>X3 λp q r=>N4 (Z=[.fr (.int p),.fr (.int q),r]) (k=q.natAbs) (np r=true) ((q=0->p=cd x y)/\(q≠0->cd p q=cd x y)))
  (Q:=λZ=>X2 λq r=>Z=[.fr (.int (cd x y)),q,r]) (by
   rintro k Z ⟨p,q,r,rfl,rfl,a,h1,h2⟩;by_cases z:q=0
   .exact .inl ⟨_,aG (ah rfl rfl (fw (Zd z) _)),_,_,by rw[<-h1 z]⟩
   .exact .inr ⟨_,[.fr (.int q),.fr (.int (p.fmod q)),.fr (.int (p.fmod q))],_,aG (ah rfl rfl (fw (Zc z) _)),.inl (dD (aW (ah rfl rfl (kg z _)) rfl rfl a rfl) <| dD (aW rfl rfl rfl rfl rfl) (aW rfl rfl rfl rfl rfl)),sJ p z,q,p.fmod q,_,rfl,rfl,rfl,λe=>by rw[<-h2 z];exact CB z e,λe=>by rw[Du z e];exact h2 z⟩) ⟨x,y,.un,rfl,rfl,rfl,λe=>absurd e h,λ_=>rfl⟩ (tu (Q3 d (SN Z2 Z2)))
 exact Val.of (Wp.df (Wp.st (sC h1) (Wp.en (aV rfl rfl) rfl)))
theorem Bv{x y:Int}(d:L2.Bd 9000 y):Val fP [.int x,.int y] (.int (RQ x y)):=by
 obtain⟨O,h1,q,rfl,J⟩:=oI (t:=aj (ay iX (aa 1) (aC 0))) (b:=yT 0 1 (cq (aa 1) (ay kW (aa 0) (aa 1))))
  (P:=λk Z=>X2 λp q=>N3 (Z=[.fr (.int p),.fr (.int q)]) (k=q.natAbs) (RQ p q=RQ x y))
  (Q:=λZ=>∃p,Z=[.fr (.int p),.fr (.int 0)]/\RQ p 0=RQ x y) (by
   rintro k Z ⟨p,q,rfl,rfl,h1⟩;by_cases z:q=0
   .subst z;exact .inl ⟨_,aG (ah rfl rfl (fw rfl _)),p,rfl,h1⟩
   .exact .inr ⟨_,[.fr (.int q),.fr (.int (p.fmod q))],_,aG (ah rfl rfl (fw (Zc z) _)),.inl (Iu (ae rfl (ae (ah rfl rfl (kg z _)) rfl)) rfl),sJ p z,q,p.fmod q,rfl,rfl,by simp only[mF,h1]⟩) ⟨x,y,rfl,rfl,rfl⟩ (tu (Q3 d (SN Z2 Z2)))
 have e:(if q<0 then -q else q)=(RQ x y:Int):=by simp only[<-J,UO];split<;>lia
 exact Val.of (Wp.df (Wp.st (sC h1) (Wp.en (aV (eW rfl (mj (r:=.fr (.int (RQ x y))) rfl (by rw[<-e];rfl))) rfl) rfl)))
theorem IP{t b:Int}(h:b≠0)(d:L2.Bd 9000 b):Val mP [.int t,.int b] (nm (dz t b)):=by
 rw[<-DM h];have key:∀t b:Int,b≠0->L2.Bd 9000 b->∀Z,Wp (ao (aE 2 (aX fP (cq (ag 0) (ag 1)))) (bZ (eJ (cq (ay iI (aa 0) (aa 2)) (ay iI (aa 1) (aa 2)))))) (.fr (.int t)::.fr (.int b)::.un::Z) λg _=>g=.rt (.fr (nm (t.fdiv (RQ t b),b.fdiv (RQ t b)))):=λt b h d Z=>by
  have h1:RQ t b<=b.natAbs:=Int.gcd_le_natAbs_right _ h;have L:(RQ t b:Int)≠0:=by simpa using λz:RQ t b=0=>h (Int.gcd_eq_zero_iff.mp z).2
  have f:=iB (show L2.Bd 9000 (RQ t b:Int) from RS (by simpa using h1) d) (QR _);exact Wp.st (aW (az rfl (bj (Bv d) _)) rfl rfl rfl rfl) (Wp.en (aV (fv (ae (ah rfl rfl (kn L f _)) (ae (ah rfl rfl (kn L f _)) rfl)) rfl) rfl) rfl)
 have u:∀c,decide (b<0)=c->aj (ay k9 (aa 1) (aC 0)) [.fr (.int t),.fr (.int b),.un]=some (.ok c,[.fr (.int t),.fr (.int b),.un]):=by rintro c rfl;rfl
 unfold Kr;by_cases c:b<0
 .rw[Za c,<-VJ,<-VJ];exact Val.of (Wp.df (Wp.st (fD (u true (Zd c)) (dD (aW rfl rfl rfl rfl rfl) (aW rfl rfl rfl rfl rfl))) (Wp.mono (key (0-t) (0-b) Q1 (by rw[VJ];exact d.neg) []) λf _ e=>by rw[e])))
 .rw[Zb c];exact Val.of (Wp.df (Wp.st (dr (u false (Zc c)) rfl) (Wp.mono (key t b h d []) λf _ e=>by rw[e])))
def Wl(n:Int)(o:LO):Prop:=X3 λ(f c t:Int)=>N4 (o=.lst [.int f,.int c,.int t]) (f=0\/f=1) (f=0->c.natAbs<10^18) (0<=t/\t<=n)
variable{o:LO}
theorem Wl.mono{n m:Int}(h:Wl n o)(k:n<=m):Wl m o:=by obtain⟨f,c,t,h1,h2,h3,h4,h5⟩:=h;exact⟨f,c,t,h1,h2,h3,h4,by exact Tx ‹_› ‹_›⟩
theorem qQ{i:Int}(h:i.natAbs<2^64):fits 20000 i=true:=iB h Z2
theorem Cb{n:Int}{m:Int}(w:Wl n o)(hn:n<2^40)(G:0<m)(K:m<2^64):X2 λr o'=>N4 (cU a7 o [.int m] (.fr (.int r)) o') (0<=r) (r<m) (Wl (n+1) o'):=by
 suffices ∃s o',cU a7 o [.int m] s o'/\∃r,N4 (s=.fr (.int r)) (0<=r) (r<m) (Wl (n+1) o') by obtain⟨s,o',v,r,rfl,h1,h2,h3⟩:=this;exact⟨r,o',v,h1,h2,h3⟩
 obtain⟨f,c,t,rfl,hf,hc,e,S⟩:=w
 have h:m≠0:=by exact Rz ‹_›
 refine cU.of (Wp.df ?_)
 have u:∀b,decide (f=1)=b->∀Z,aj (ay gw (mix (aa 0) (aC 0)) (aC 1)) (.pv (.lst [.int f,.int c,.int t])::Z)=some (.ok b,.pv (.lst [.int f,.int c,.int t])::Z):=λb d Z=>aG (ah (ah rfl rfl (bK (.inl rfl) rfl)) rfl (iD d _))
 rcases hf with rfl|rfl
 .have hc:=hc rfl
  have b1:=L2.Bd.mul (show (7919*(t+1)).natAbs<2^64 by lia) (show (t+1).natAbs<2^64 by lia)
  have b2:L2.Bd 130 (c+7919*(t+1)*(t+1)+(t+1)):=((L2.Bd.add (show c.natAbs<2^128 by exact qw) b1).add (show (t+1).natAbs<2^128 by lia)).mono Z2
  have e1:∀i:Int,(i.fmod 2305843009213693951).natAbs<2^64:=λi=>by
   rw[Int.fmod_eq_emod_of_nonneg _ Z2]
   lia
  refine Wp.st (dr (u false rfl _) rfl) ?_
  refine Wp.st (aW (ah (ah rfl rfl (bK (.inl rfl) rfl)) rfl rfl) rfl rfl rfl rfl) ?_
  refine Wp.st (oz rfl rfl rfl rfl) ?_
  refine Wp.st (aW (ah (ah (ah (ah (ah rfl rfl (bK (.inl rfl) rfl)) (ah (ah rfl rfl (m8 (qQ Z2) (qQ Q1) _)) rfl (m8 (qQ Q1) (qQ Q1) _)) rfl) rfl rfl) rfl (m8 (ft b2 Z2) (qQ Z2) _)) rfl (kg Z2 _)) rfl rfl rfl rfl) ?_
  exact Wp.en (aV (ah (ah (ah (ah (ah rfl rfl (m8 (qQ (e1 _)) (qQ Z2) _)) rfl rfl) rfl (kg Z2 _)) rfl (kn Z2 (iB (show (64:Int).natAbs<2^64 by decide) Z2) _)) rfl (kg h _)) rfl) ⟨_,_,_,rfl,rfl,_,rfl,S8 _ G,UN _ G,0,c,t+1,rfl,.inl rfl,λ_=>hc,by lia,by lia⟩
 .have L:∀Z,mix (aa 0) (aC 1) (.pv (.lst [.int 1,.int c,.int t])::Z)=some (.ok (.fr (.int c)),.pv (.lst [.int 1,.int c,.int t])::Z):=λZ=>ah rfl rfl (bK (.inl rfl) rfl)
  exact Wp.sr (fD (u true rfl _) (dD (aW (ah (L _) rfl (kg h _)) rfl rfl rfl rfl) <| dD (oz (ah (L _) rfl (kn h (iB (show m.natAbs<2^64 by lia) Z2) _)) rfl rfl rfl) (aV rfl rfl))) ⟨_,.lst [.int 1,.int (c.fdiv m),.int t],_,rfl,rfl,_,rfl,S8 c G,UN c G,1,c.fdiv m,t,rfl,.inr rfl,λz=>by lia,e,by lia⟩
variable{f:Ms}{o':LO}
theorem Qg{as:List A}{s:Sl}(h:cU f o as s o')(a:pM s=some r):∀Z,fL f [] (.rf 0::as.map Rr.fr) (.pv o::Z)=some (.ok r,.pv o'::Z):=λZ=>cH h a rfl
theorem tk{n:Int}(m:Int)(w:Wl n o)(hn:n<2^40)(G:0<m)(K:m<2^64):X2 λr o'=>N4 (∀Z,fL a7 [] [.rf 0,.fr (.int m)] (.pv o::Z)=some (.ok (.fr (.int r)),.pv o'::Z)) (0<=r) (r<m) (Wl (n+1) o'):=by obtain⟨r,o',h,h1,h2,h3⟩:=Cb w hn G K;exact⟨r,o',Qg h rfl,h1,h2,h3⟩
theorem pw(k v:Int)(h:0<=k/\k<=1000000/\(10:Int).natAbs<2^64)(e:(10:Int)^k.toNat=v)(Z:List Sl):ay nF (aC 10) (mC (.int k)) Z=some (.ok (.fr (.int v)),Z):=
 ah rfl rfl (fu (o:=none) rfl rfl (by rw[<-e];exact Za h))
theorem GK(ns:List Int)(k:Int)(s:0<=k)(S:k<=1000):∃o,nB fG [.lst (ns.map A.int),.int k] o/\Wl 17000 o:=by
 have key:∀c:Int,Wl 17000 (.lst [.int (if decide (1000000000000000000<=(if c<0 then -c else c))=true then 1 else 0),.int c,.int (17*k)]):=λc=>by
  refine⟨_,c,17*k,rfl,?_,λz=>?_,by lia,by lia⟩
  .generalize decide (1000000000000000000<=(if c<0 then -c else c))=d;cases d
   .exact .inl rfl
   .exact .inr rfl
  .by_cases h:1000000000000000000<=(if c<0 then -c else c)
   .simp[h] at z
   .split at h<;>lia
 have fin:∀c:Int,Wp (bZ (dj (eQ (cE nj (ay E6 (cE AW (aa 2)) (ay nF (aC 10) (aC 18)))) (aa 2) (ay bz (aC 17) (aa 1))))) [.fr (.lst (ns.map A.int)),.fr (.int k),.fr (.int c)] λg _=>g=.rt (.lv (.lst [.int (if decide (1000000000000000000<=(if c<0 then -c else c))=true then 1 else 0),.int c,.int (17*k)])):=λc=>Wp.en (aV (gE (ae (eW (ah rfl (pw 18 1000000000000000000 Z2 Z2 _) rfl) rfl) (ae rfl (ae (ah rfl rfl (m8 (qQ Z2) (qQ Q1) _)) rfl))) rfl) rfl) rfl
 have u:∀b,decide (k<((ns.map A.int).length:Int))=b->aj (ay k9 (aa 1) (cE dy (aa 0))) [.fr (.lst (ns.map A.int)),.fr (.int k),.fr (.int 0)]=some (.ok b,[.fr (.lst (ns.map A.int)),.fr (.int k),.fr (.int 0)]):=by rintro b rfl;rfl
 by_cases hk:k<((ns.map A.int).length:Int)
 .obtain⟨j,rfl⟩:∃j:Nat,k=j:=⟨k.toNat,by lia⟩
  have F:j<ns.length:=by rw[QU] at hk;lia
  exact⟨_,nB.of (Wp.df (Wp.st rfl (Wp.st (fD (u true (Zd hk)) (aW (ah rfl rfl (bK (.inl rfl) (jM (by simp only[Rt,Rb F];rfl)))) rfl rfl rfl rfl)) (Wp.mono (fin ns[j]) λf _ e=>by rw[e])))),key ns[j]⟩
 .exact⟨_,nB.of (Wp.df (Wp.st rfl (Wp.st (dr (u false (Zc hk)) rfl) (Wp.mono (fin 0) λf _ e=>by rw[e])))),key 0⟩
theorem Ap{t b:Int}(h:b≠0)(E:L2.Bd 9000 b):Val cL [.int t,.int b] (nm (dz t b)):=by
 have k:=bj (Ph (x:=t) h E);have hc:=vm (x:=t) h;have f:=iB (show L2.Bd 9000 (cd t b) from RS (M0 h) E) (QR _);have d:∀(u:Int)(Z:List Sl),kX iI (.fr (.int u)) (.fr (.int (cd t b))) Z=some (.ok (.fr (.int (u.fdiv (cd t b)))),Z):=λu Z=>by unfold kX;simp only[res,Gr,M.n6,f,bne_iff_ne,ne_eq,hc,not_false_eq_true,SY,decide_true,if_true]
 exact Val.of (Wp.df (Wp.st (Ar (az rfl (k _)) rfl) (Wp.en (aV (fv (ae (ah rfl rfl (d _ _)) (ae (ah rfl rfl (d _ _)) rfl)) rfl) rfl) rfl)))
section
variable{x y:Num}{n m:Nat}(hx:NB n x)(hy:NB m y)(h:n<=20000)(h':m<=20000)
include hx hy h h'
theorem qO:Val cO [nm x,nm y] (.bl (OS x y)):=
 Val.of (Wp.df (Wp.en (aV (ah (ah rfl rfl (m8 (ft hx.b1 h) (ft hy.b2 h') _)) (ah rfl rfl (m8 (ft hy.b1 h') (ft hx.b2 h) _)) rfl) rfl) rfl))
end
theorem BF{x:Sl}{t:Sl}(hi:S.length=i)(hx:∀o,x≠Sl.pv o):put i t (S++[x])=some (S++[t]):=by
 subst hi;unfold put;rw[RG (QR _),Td];rw[Vx];have e:(S++[x]).set S.length t=S++[t]:=by rw[Us _ _ (QR _),Td];rfl
 cases x with
 |pv o=>exact absurd rfl (hx o)
 |un=>simp only[e]
 |fr a=>simp only[e]
 |lv o=>simp only[e]
 |cf a=>simp only[e]
theorem mW{n:Nat}{t:Mi Bool}{as ys:List A}{O:List Sl}(hl:as.length<=100000)(h:dB G t e as [] (Z++QZ n .un)=some (ys,O)):gG n G t e as Z=some (.ok (.nw (.lst ys)),O.take Z.length):=by unfold gG;rw[Za hl,h]
variable{T:Type}
theorem bJ{ts:List T}(k g:T->A)(hi:S.length=i)(hl:ts.length<=100000)(h:∀t∈ts,∃r,e (S++[.fr (k t)])=some (.ok r,S++[.fr (k t)])/\bW r (S++[.fr (k t)])=some (g t,S++[.fr (k t)])):
  gG 1 (aL i) aF e (ts.map k) S=some (.ok (.nw (.lst (ts.map g))),S):=by
 obtain⟨ys,O,h1,x,rfl,_,rfl⟩:=dU (G:=aL i) (t:=aF) (as:=ts.map k)
  (λj acc Z=>∃x:Sl,N3 (Z=S++[x]) (∀o,x≠Sl.pv o) (acc=(ts.take j).map g)) ⟨.un,rfl,(λo z=>by cases z),rfl⟩ (by
   rintro j q acc Z R ⟨x,rfl,hx,rfl⟩;rw[Rt] at R;cases a:ts[j]? with
   |none=>rw[a] at R;cases R
   | some t=>rw[a] at R;cases R;obtain⟨r,b,l⟩:=h t (RD a);refine⟨S++[Sl.fr (k t)],(show put i (.fr (k t)) (S++[x])=some (S++[.fr (k t)]) from BF hi hx),.inl ⟨_,r,_,g t,_,rfl,b,l,.fr (k t),rfl,(λo z=>by cases z),?_⟩⟩;simp only[S6,a,Rq];rfl)
 unfold gG;rw[Za (by rw[QU];exact hl)];have e1:S++QZ 1 Sl.un=S++[.un]:=rfl;simp only[e1,h1];simp
theorem Nz(x:Int):Ok (x,1):=⟨by show (0:Int)<1;decide,by show RQ x 1=1;simp⟩
theorem Dg(x:Num):tI (nm x) (nm x)=some true:=by rw[HV];simp
abbrev G2(i j:Nat):Mg:=fN 2 (bL (aL i) (bL (aL j) fm))
theorem Dq{t:Mi Bool}{ts:List T}(k g:T->A)(c:T->Bool)(hi:S.length=i)(hl:ts.length<=100000)(h:∀x∈ts,t (S++[.fr (k x)])=some (.ok (c x),S++[.fr (k x)])/\(c x=true->∃r,e (S++[.fr (k x)])=some (.ok r,S++[.fr (k x)])/\bW r (S++[.fr (k x)])=some (g x,S++[.fr (k x)]))):
  gG 1 (aL i) t e (ts.map k) S=some (.ok (.nw (.lst ((ts.filter c).map g))),S):=by
 obtain⟨ys,O,h1,x,rfl,_,rfl⟩:=dU (G:=aL i) (as:=ts.map k)
  (λj acc Z=>∃x:Sl,N3 (Z=S++[x]) (∀o,x≠Sl.pv o) (acc=((ts.take j).filter c).map g)) ⟨.un,rfl,(λo z=>by cases z),rfl⟩ (by
   rintro j q acc Z R ⟨x,rfl,hx,rfl⟩;rw[Rt] at R;cases a:ts[j]? with
   |none=>rw[a] at R;cases R
   |some y=>
    rw[a] at R;cases R;obtain⟨b,l⟩:=h y (RD a);refine⟨S++[Sl.fr (k y)],(show put i (.fr (k y)) (S++[x])=some (S++[.fr (k y)]) from BF hi hx),?_⟩;simp only[S6,a,V6];cases f:c y with
    |true=>obtain⟨r,X,D⟩:=l f;rw[f] at b;exact .inl ⟨_,r,_,g y,_,b,X,D,.fr (k y),rfl,(λo z=>by cases z),by simp[f]⟩
    | false=>rw[f] at b;exact .inr ⟨_,b,.fr (k y),rfl,(λo z=>by cases z),by simp[f]⟩)
 unfold gG;rw[Za (by rw[QU];exact hl)];have e1:S++QZ 1 Sl.un=S++[.un]:=rfl;rw[e1,h1];simp
noncomputable abbrev lI(r:List Int):A:=.lst (r.map A.int)
abbrev gI(g:List (List Int)):A:=.lst (g.map lI)
theorem gf{r:List Int}(h:j<r.length):gL (r.map A.int) (j:Int)=some (.int (r.getD j 0)):=
 jM (by simp[Rk,h])
theorem A9{g:List (List Int)}(h:j<g.length):gL (g.map lI) (j:Int)=some (lI (g.getD j [])):=
 jM (by simp[Rk,h])
variable{α:Type}
theorem Ac{xs:List α}{n:Nat}{v:α}(h:xs.length=n+1)(e:xs[n]?=some v):gL xs (-1)=some v:=by
 have k:L2.gF xs.length (-1)=some n:=by
  unfold L2.gF;rw[Zb Z2,Za Q1]
  congr 1;lia
 unfold gL;rw[k];exact e
theorem lH{r:List Int}{n:Nat}(h:r.length=n+1):gL (r.map A.int) (-1)=some (.int (r.getD n 0)):=
 Ac (by simpa using h) (by simp[Rk,h])
theorem u4{g:List (List Int)}{n:Nat}(h:g.length=n+1):gL (g.map lI) (-1)=some (lI (g.getD n [])):=
 Ac (by simpa using h) (by simp[Rk,h])
theorem Hn{xs:List A}{n:Nat}(h:xs.length=n+1):gu xs none (some (-1))=xs.take n:=by
 have e:HT.c7 xs.length xs.length (some (-1))=n:=by unfold HT.c7;simp[h];lia
 have I:HT.c7 xs.length 0 none=0:=rfl;unfold gu;simp only[e,I,VI,WE]
theorem IV{xs:List A}{n:Nat}(h:xs.length=n+1):gu xs (some (-1)) none=xs.drop n:=by
 have e:HT.c7 xs.length 0 (some (-1))=n:=by unfold HT.c7;simp[h];lia
 have I:HT.c7 xs.length xs.length none=xs.length:=rfl;unfold gu;rw[e,I,VD Z4]
theorem eE{D:Type}{k:α->A}{l:D->A}(xs:List α)(ys:List D):kC (xs.map k) (ys.map l)=(xs.zip ys).map λp=>.tup [k p.1,l p.2]:=by unfold kC;simp only[List.zip_map,Ry];rfl
variable{tl:List Sl}
theorem iN{x t:Sl}(hi:S.length=i)(hx:np x=true):put i t (S++x::tl)=some (S++t::tl):=by subst hi;rw[F7,RG (QR _),Td];simp only[Vx,hx,if_true];rw[Us _ _ (QR _),Td];rfl
theorem nX{x y:Sl}{a b:A}(hi:S.length=i)(hx:np x=true)(hy:np y=true):G2 i (i+1) (.tup [a,b]) (S++x::y::tl)=some (S++.fr a::.fr b::tl):=by
 have e1:=iN (tl:=y::tl) (t:=.fr a) hi hx;have e2:=iN (S:=S++[.fr a]) (i:=i+1) (tl:=tl) (t:=.fr b) (by simp[hi]) hy;simp only[QN,QN] at e2;have N:fN 2 (bL (aL i) (bL (aL (i+1)) fm)) (.tup [a,b]) (S++x::y::tl)=some (S++.fr a::.fr b::tl):=by show bL (aL i) (bL (aL (i+1)) fm) [a,b] _=_;unfold bL;simp only[aL,e1];show (match put (i+1) (Sl.fr b) (S++([Sl.fr a]++y::tl)) with|some U=>fm [] U|none=>none)=_;rw[e2];rfl
 exact N
theorem kc{ts:List T}(b l g:T->A)(hi:S.length=i)(hl:ts.length<=100000)
  (h:∀t∈ts,∃r,e (S++[.fr (b t),.fr (l t)])=some (.ok r,S++[.fr (b t),.fr (l t)])/\bW r (S++[.fr (b t),.fr (l t)])=some (g t,S++[.fr (b t),.fr (l t)])):
  gG 2 (G2 i (i+1)) aF e (ts.map λt=>.tup [b t,l t]) S=some (.ok (.nw (.lst (ts.map g))),S):=by
 obtain⟨ys,O,h1,x,y,rfl,_,_,rfl⟩:=dU (G:=G2 i (i+1)) (t:=aF) (as:=ts.map λt=>.tup [b t,l t])
  (λj acc Z=>X2 λ(x y:Sl)=>N4 (Z=S++[x,y]) (np x=true) (np y=true) (acc=(ts.take j).map g)) ⟨.un,.un,rfl,rfl,rfl,rfl⟩ (by
   rintro j q acc Z R ⟨x,y,rfl,hx,hy,rfl⟩;rw[Rt] at R;cases a:ts[j]? with
   |none=>rw[a] at R;cases R
   | some p=>rw[a] at R;cases R;obtain⟨r,b,l⟩:=h p (RD a);refine⟨_,nX hi hx hy,.inl ⟨_,r,_,g p,_,rfl,b,l,_,_,rfl,rfl,rfl,?_⟩⟩;simp only[S6,a,Rq];rfl)
 unfold gG;rw[Za (by rw[QU];exact hl)];have e1:S++QZ 2 Sl.un=S++[.un,.un]:=rfl;rw[e1,h1];simp
theorem Az{r:List Int}(hl:r.length<=100000):nB aS [lI r] (.lst ((Sx.fW r).map A.int)):=
 nB.of (Wp.df (Wp.en (aV (bE rfl (bJ (k:=A.int) (λx=>.int (-x)) rfl hl λx _=>⟨_,rfl,rfl⟩)) rfl) (by unfold Sx.fW;simp only[Ry];rfl)))
variable{c:Nat}
theorem cw{r:List Int}(h:c<r.length):r.getD c 0∈r:=by simp[Rk,h]
variable{pr:List Int}{s:Int}{N:Nat}
theorem Gy{row:List Int}(h1:row.length=N+1)(h2:pr.length=N+1)(hc:c<N+1)(hN:N<100)(hs:s≠0)(bs:L2.Bd 400 s)(b1:∀x∈row,L2.Bd 400 x)(b2:∀x∈pr,L2.Bd 400 x):
  nB eX [lI row,lI pr,.int c,.int s] (.lst ((Sx.ka row pr c s).map A.int)):=by
 have fp:=ft (b2 _ (cw (show c<pr.length by lia))) (show 400<=20000 by decide);have e:=ft (b1 _ (cw (show c<row.length by lia))) (show 400<=20000 by decide);have fs:=ft bs (show 400<=9000 by decide);have F:∀Z:List Sl,mix (aa 1) (aa 2) (.fr (lI row)::.fr (lI pr)::.fr (.int c)::Z)=some (.ok (.fr (.int (pr.getD c 0))),.fr (lI row)::.fr (lI pr)::.fr (.int c)::Z):=λZ=>ah rfl rfl (bK (.inl rfl) (gf Q1));have r:∀Z:List Sl,mix (aa 0) (aa 2) (.fr (lI row)::.fr (lI pr)::.fr (.int c)::Z)=some (.ok (.fr (.int (row.getD c 0))),.fr (lI row)::.fr (lI pr)::.fr (.int c)::Z):=λZ=>ah rfl rfl (bK (.inl rfl) (gf Q1));have h:row.length<=100000:=by lia
 generalize i:pr.getD c 0=p at F fp;generalize H:row.getD c 0=f at r e;refine nB.of (Wp.df (Wp.st (aW (F _) rfl rfl rfl rfl) (Wp.st (aW (r _) rfl rfl rfl rfl) ?_)));have u:∀b,decide (f=0)=b->∀x:Sl,aj (ay gw (aa 5) (aC 0)) [.fr (lI row),.fr (lI pr),.fr (.int c),.fr (.int s),.fr (.int p),.fr (.int f),x]=some (.ok b,[.fr (lI row),.fr (lI pr),.fr (.int c),.fr (.int s),.fr (.int p),.fr (.int f),x]):=λb d x=>aG (ah rfl rfl (iD d _));by_cases z:f=0
 .refine Wp.sr (fD (u true (Zd z) _) (aV (bE rfl (bJ (k:=A.int) (λx=>.int ((p*x).fdiv s)) rfl h λx hx=>⟨_,ah (ah rfl rfl (m8 fp (ft (b1 x hx) Z2) _)) rfl (kn hs fs _),rfl⟩)) rfl)) ?_;unfold Sx.ka;rw[i,H,Za z,Ry];rfl
 .refine Wp.st (dr (u false (Zc z) _) rfl) ?_;refine Wp.st (aW (bE ?_ (kc (S:=[.fr (lI row),.fr (lI pr),.fr (.int c),.fr (.int s),.fr (.int p),.fr (.int f),.un]) (λt=>.int t.1) (λt=>.int t.2) (λt=>.int ((p*t.1-f*t.2).fdiv s)) rfl (by rw[S1];lia) λt l=>⟨_,ah (ah (ah rfl rfl (m8 fp (ft (b1 _ (Ss l).1) Z2) _)) (ah rfl rfl (m8 e (ft (b2 _ (Ss l).2) Z2) _)) rfl) rfl (kn hs fs _),rfl⟩)) rfl rfl rfl rfl) ?_
  .rw[<-eE];rfl
  .have R:c<((row.zip pr).map λt=>A.int ((p*t.1-f*t.2).fdiv s)).length:=by simp only[QU,S1];lia
   have k:L2.gF ((row.zip pr).map λt=>A.int ((p*t.1-f*t.2).fdiv s)).length (c:Int)=some c:=by unfold L2.gF;rw[Za Z4,Za Q1];simp
   refine Wp.st (oz rfl rfl rfl (q:=some (.nx,[.fr (lI row),.fr (lI pr),.fr (.int c),.fr (.int s),.fr (.int p),.fr (.int f),.lv (.lst (((row.zip pr).map λt=>A.int ((p*t.1-f*t.2).fdiv s)).set c (.int (-f))))])) ?_) (Wp.en (aV rfl rfl) ?_)
   .show (match L2.gF ((row.zip pr).map λt=>A.int ((p*t.1-f*t.2).fdiv s)).length (c:Int) with|some n=>_|none=>_)=_;rw[k];rfl
   .unfold Sx.ka;rw[i,H,Zb z,Ue,Ry];rfl
theorem BH{m n:Mi Rr}{q:Option (Except Str Rr×List Sl)}(h:aj m Z=some (.ok true,U))(k:n U=q):lN m n Z=q:=by simp only[JM,h];exact k
theorem j4{m:Mi Rr}{n:Nat}(h:m Z=some (.ok (.fr (.int n)),U))(hn:n<=100000):cD m Z=some (.ok (bS 0 n),U):=by refine bk h ?_;show (if -(2^60)<=(n:Int)/\(n:Int)<2^60 then some (RI (bS 0 (n:Int).toNat),U) else none)=_;rw[Za Q1];rfl
noncomputable def vA:Rr->A
 | .fr a=>a
 | .nw o=>o.a
 | .rf _=>.non
noncomputable def Fi:Rr->Bool
 | .rf _=>false
 |_=>true
theorem pD(Z:List Sl):∀rs:List Rr,rs.all Fi=true->cA rs Z=some ((rs.map vA).map Sl.fr,Z)
 |[],_=>rfl
 |r::rs,h=>by
  simp only[Rg,QI] at h;have e:take1 r Z=some (.fr (vA r),Z):=by
   cases r with
   |rf i=>cases h.1
   |fr a=>rfl
   |nw o=>rfl
  unfold cA;rw[e];dsimp only;rw[pD Z rs h.2];rfl
theorem Oo{a:Int}(h:0<s):OS (k,1) (dz a s)=decide (k*s<a):=by
 have ne:s≠0:=by exact Rz ‹_›
 obtain⟨e1,e2⟩:=gr ne;have e:=(lD (t:=a) ne).1 h;apply decide_eq_decide.mpr;simp only[Sg];generalize cd a s=c at *;generalize (dz a s).1=x at *;generalize (dz a s).2=y at *;subst e1;subst e2;rw[show k*(c*y)=c*(k*y) by grind];exact⟨λz=>Vj z e,λz=>Vs z (R4 e)⟩
theorem Pc{a:Int}(h:0<s):OS (dz a s) (k,1)=decide (a<k*s):=by
 have ne:s≠0:=by lia
 obtain⟨e1,e2⟩:=gr ne;have e:=(lD (t:=a) ne).1 h;apply decide_eq_decide.mpr;rw[Sg];generalize cd a s=c at *;generalize (dz a s).1=x at *;generalize (dz a s).2=y at *;subst e1;subst e2;rw[show k*(c*y)=c*(k*y) by grind];exact⟨λz=>Vj z e,λz=>Vs z (R4 e)⟩
abbrev nS(n:Nat)(s:Int)(v:Nat->Int):A:=.tup ((Q8 n).map λj=>nm (dz (v j) s))
abbrev V9(n:Nat)(v:Nat->Int):Prop:=∀j,j<n->L2.Bd 900 (v j)
theorem BA{f:Nat->Int}{b:Nat}:∀{n:Nat},(∀j,j<n->L2.Bd b (f j))->n<=2^10->L2.Bd (b+10) (Sx.su n f):=by
 intro n h hn;have h1:=λj F=>Q4 (h j F);by_cases z:n=0
 .subst z;exact To Z2
 .have:∀j,j<n->(f j).natAbs<=2^b-1:=λj F=>by have:=h j F;unfold L2.Bd at this;lia
  have h3:=Sx.BS this;have:n*(2^b-1)<n*2^b:=Nat.mul_lt_mul_of_pos_left (by have:=To (n:=b) (show 0<2 by decide);lia) Q1;show (Sx.su n f).natAbs<2^(b+10);rw[VX];have:n*2^b<=2^b*2^10:=by rw[Tz];exact Nat.mul_le_mul_left _ hn
  lia
variable{R:List (List Int)}{L:List Int}
theorem Dn{a:A}(h:(kC (R.map lI) (L.map A.int))[i]?=some a):i<R.length/\i<L.length/\a=.tup [lI (R.getD i []),.int (L.getD i 0)]:=by
 rw[eE,Rt] at h;cases e:(R.zip L)[i]? with
 |none=>rw[e] at h;cases h
 |some p=>rw[e] at h;cases h;simp only[Sr] at e;obtain⟨e1,e2⟩:=e;refine⟨(QL.mp e1).1,(QL.mp e2).1,?_⟩;simp[Rk,e1,e2]
theorem Fj{i:Int}(h:L2.Bd 900 i):NB 900 (i,1):=⟨Nz i,h,by show (1:Int).natAbs<2^900;decide +kernel⟩
theorem wb(i:Int):Val gh [.int i] (.bl true):=⟨[.fr (.int i)],rfl⟩
theorem Dm{x:Num}{b:Nat}(h:NB b x)(d:b<=9000):Val dY [nm x] (.bl true):=by have k:=IP (t:=x.1) h.nz (h.b2.mono d);simp only[AA h.ok] at k;have a:∀Z:List Sl,mix (aa 0) (aC 0) (.fr (nm x)::Z)=some (.ok (.fr (.int x.1)),.fr (nm x)::Z):=λZ=>ah rfl rfl (bK (.inr rfl) rfl);have s:∀Z:List Sl,mix (aa 0) (aC 1) (.fr (nm x)::Z)=some (.ok (.fr (.int x.2)),.fr (nm x)::Z):=λZ=>ah rfl rfl (bK (.inr rfl) rfl);refine Val.of (Wp.df (Wp.st (dr (dM (hV (b:=true) rfl) (dM rfl (dM (hV (aG (az (ae (a _) rfl) (bj (wb _) _)))) (hV (aG (az (ae (s _) rfl) (bj (wb _) _))))))) rfl) ?_));have gt:ay sd (mix (aa 0) (aC 1)) (aC 0) [.fr (nm x)]=some (.ok (.fr (.bl true)),[.fr (nm x)]):=ah (s _) rfl (fu (o:=none) rfl rfl (by simp only[Nt];show some (Rr.fr (.bl (decide (0<x.2))))=_;rw[Zd h.ok.1]));refine Wp.en (aV (BH (aG gt) (ah (az (ae (a _) (ae (s _) rfl)) (bj k _)) rfl (fu (o:=none) rfl rfl (by unfold gw;rw[Dg])))) rfl) rfl
theorem IL{n:Nat}{v:Nat->Int}(hn:n<=20)(hs:0<s)(bs:L2.Bd 900 s)(A:V9 n v)(L:∀j,j<n->0<=v j):Val bf [nS n s v,.int n,.bl false] (.bl true):=by
 have ne:s≠0:=by exact Rz ‹_›
 have hl:((Q8 n).map λj=>nm (dz (v j) s)).length=n:=by simp
 have G:aj (ay iX (cE dy (aa 0)) (aa 1)) [.fr (nS n s v),.fr (.int n),.fr (.bl false)]=some (.ok false,[.fr (nS n s v),.fr (.int n),.fr (.bl false)]):=by refine aG (ah (x:=.fr (.int n)) (U:=[.fr (nS n s v),.fr (.int n),.fr (.bl false)]) ?_ rfl (fw (b:=true) Z4 _));show some (RI (Rr.fr (.int ((Q8 n).map λj=>nm (dz (v j) s)).length)),_)=_;rw[hl]
 have h:=Dq (e:=aa 3) (t:=j7 (fS (aj (aX dY (cC (ag 3))))) (iK (fS (aj (aa 2))) (aj (ay k9 (mix (aa 3) (aC 0)) (aC 0))))) (ts:=Q8 n) (S:=[.fr (nS n s v),.fr (.int n),.fr (.bl false)]) (λj=>nm (dz (v j) s)) (λj=>nm (dz (v j) s)) (λ_=>false) rfl (by simp;lia) (λj F=>⟨?_,λz=>nomatch z⟩)
 .rw[SF.mpr (λa _=>by simp)] at h;exact Val.of (Wp.df (Wp.st (dr (dM (hV (b:=true) rfl) G) rfl) (Wp.en (aV (ah (bE rfl h) rfl (fu (o:=none) rfl rfl rfl)) rfl) rfl)))
 .have F:=RJ.mp F;have k:=Dm (NB.dz ne (A j F) bs) Z2;have lt:(dz (v j) s).1<0↔v j<0:=Je hs;have:=L j F;refine dM (hV (aG (az rfl (bj k _)))) (jO (hV (b:=false) rfl) (aG (ah (ah rfl rfl (bK (.inr rfl) rfl)) rfl (fu (o:=none) rfl rfl ?_))));show some (Rr.fr (.bl (decide ((dz (v j) s).1<0))))=_;rw[Zc Q1]
theorem CF(i j:Str):tI (.str i) (.str j)=some (decide (i=j)):=by unfold tI;exact Za (R7 40)
inductive Told(c:List Int)(R:List (List Int))(L:List Int):A->Prop
 | best {s w:Int} {x y:Nat->Int} (hs:0<s) (bs:L2.Bd 900 s) (hx:V9 c.length x) (hy:V9 R.length y) (bw:L2.Bd 900 w) (x0:∀j,j<c.length->0<=x j) (y0:∀k,k<R.length->0<=y k)
  (keep:∀i,i<R.length->(Sx.su c.length λj=>(R.getD i []).getD j 0*x j)<=L.getD i 0*s) (uM:∀j,j<c.length->c.getD j 0*s<=Sx.su R.length λk=>(R.getD k []).getD j 0*y k)
  (e1:(Sx.su c.length λj=>c.getD j 0*x j)=w) (e2:(Sx.su R.length λk=>L.getD k 0*y k)=w):Told c R L (.tup [.str "best",nm (dz w s),nS c.length s x,nS R.length s y])
 | opn {s:Int} {x z:Nat->Int} (hs:0<s) (bs:L2.Bd 900 s) (hx:V9 c.length x) (hz:V9 c.length z) (x0:∀j,j<c.length->0<=x j) (z0:∀j,j<c.length->0<=z j)
  (keep:∀i,i<R.length->(Sx.su c.length λj=>(R.getD i []).getD j 0*x j)<=L.getD i 0*s) (still:∀i,i<R.length->(Sx.su c.length λj=>(R.getD i []).getD j 0*z j)<=0)
  (tO:0<Sx.su c.length λj=>c.getD j 0*z j):Told c R L (.tup [.str "open",nS c.length s x,nS c.length s z])
 | non {s:Int} {y:Nat->Int} (hs:0<s) (bs:L2.Bd 900 s) (hy:V9 R.length y) (y0:∀k,k<R.length->0<=y k)
  (uM:∀j,j<c.length->0<=Sx.su R.length λk=>(R.getD k []).getD j 0*y k) (less:(Sx.su R.length λk=>L.getD k 0*y k)<0):Told c R L (.tup [.str "none",nS R.length s y])
structure kR(c:List Int)(R:List (List Int))(L:List Int):Prop where
 n:c.length<=6
 m:R.length<=9
 l:L.length=R.length
 r:∀r∈R,r.length=c.length
 bc:∀x∈c,x.natAbs<=10^13
 br:∀r∈R,∀x∈r,x.natAbs<=10^13
 bl:∀x∈L,x.natAbs<=10^13
abbrev bA(n m:Nat)(b:Sx.Bo):A:=.obj "Board" [("long",.int n),("many",.int m),("scale",.int b.s),("grid",gI b.g),("across",lI b.ac),("down",lI b.dn)]
def bO(n m:Nat)(b:Sx.Bo):LO:=.nob "Board" [("long",.int n),("many",.int m),("scale",.int b.s),("grid",gI b.g)] [("across",b.ac.map A.int),("down",b.dn.map A.int)]
def eZ(f:Ms)(as:List A)(a:A):Prop:=∃Z,f (as.map Sl.fr)=some (.rt (.fr a),Z)/\Z.all np=true
theorem eZ.v{as:List A}{a:A}(h:eZ f as a):Val f as a:=by obtain⟨Z,h,_⟩:=h;exact⟨Z,h⟩
theorem eZ.of{as:List A}{a:A}(k:Wp f (as.map Sl.fr) λg Z=>g=.rt (.fr a)/\Z.all np=true):eZ f as a:=by obtain⟨g,Z,h,rfl,h2⟩:=k;exact⟨Z,h,h2⟩
theorem eZ.Pz{as:List A}{R:A->Prop}(k:Wp f (as.map Sl.fr) λg Z=>X2 λ(a:A)(_:Unit)=>N3 (g=.rt (.fr a)) (Z.all np=true) (R a)):∃a,eZ f as a/\R a:=by obtain⟨g,Z,h,a,_,rfl,h2,h3⟩:=k;exact⟨a,⟨Z,h,h2⟩,h3⟩
structure Bb(n m N:Nat)(b:Sx.Bo):Prop where
 sh:Sx.Sh N m b
 hN:N<=10
 hn:n<=9
 hm:m<=9
 bg:∀r∈b.g,∀x∈r,L2.Bd 400 x
 bs:L2.Bd 400 b.s
 pos:0<b.s
section
variable{n m N:Nat}{b:Sx.Bo}(h:Bb n m N b)
include h
theorem Bb.gb{l:Nat}(hi:i<=m)(hl:l<=N):L2.Bd 400 (b.Gq i l):=by have z:=h.sh.row hi;exact h.bg _ (Sx.getD_mem (by rw[h.sh.g];exact RE ‹_›)) _ (cw Q1)
theorem Bb.rowAt(hi:i<=m)(Z:List Sl)(F:(.fr (bA n m b)::Z)[j]?=some (.fr (.int i))):mix (aM (au ["Board"] "grid") (aa 0)) (aa j) (.fr (bA n m b)::Z)=some (.ok (.fr (lI (b.g.getD i []))),.fr (bA n m b)::Z):=
 ah rfl (show aa j _=some (.ok (.fr (.int i)),_) by unfold aa;simp only[F]) (bK (.inl rfl) (A9 (by rw[h.sh.g];lia)))
theorem Bb.at2{l:Nat}(hi:i<=m)(hl:l<=N)(Z:List Sl){k:Nat}(F:(.fr (bA n m b)::Z)[j]?=some (.fr (.int i)))(hk:(.fr (bA n m b)::Z)[k]?=some (.fr (.int l))):mix (mix (aM (au ["Board"] "grid") (aa 0)) (aa j)) (aa k) (.fr (bA n m b)::Z)=some (.ok (.fr (.int (b.Gq i l))),.fr (bA n m b)::Z):=
 ah (h.rowAt hi Z F) (show aa k _=some (.ok (.fr (.int l)),_) by unfold aa;simp only[hk]) (bK (.inl rfl) (gf (by rw[h.sh.row hi];exact RE ‹_›)))
theorem Bb.last(hi:i<=m)(Z:List Sl)(F:(.fr (bA n m b)::Z)[j]?=some (.fr (.int i))):mix (mix (aM (au ["Board"] "grid") (aa 0)) (aa j)) (aM a6 (aC 1)) (.fr (bA n m b)::Z)=some (.ok (.fr (.int (b.Gq i N))),.fr (bA n m b)::Z):=
 ah (h.rowAt hi Z F) rfl (bK (.inl rfl) (lH (h.sh.row hi)))
end
theorem iE{m:Mi Rr}{xs:List A}{n:Nat}(h:m Z=some (.ok (.fr (.lst xs)),Z))(hl:xs.length=n+1):bT m aB (aT (aM a6 (aC 1))) Z=some (.ok (.nw (.lst (xs.take n))),Z):=by refine bk h (bk rfl (bk rfl ?_));show some (RI (Rr.nw (.lst (gu xs none (some (-1))))),Z)=_;rw[Hn hl]
theorem BL{k:Nat}:∀{xs:List Int},(∀x∈xs,L2.Bd k x)->xs.sum.natAbs<=xs.length*(2^k-1)
 |[],_=>by exact R7 _
 |x::xs,h=>by have h1:=BL λy hy=>h y (QP _ hy);have h2:x.natAbs<2^k:=h x Q0;simp only[List.sum_cons,QX,W3];lia
variable{xs:List Int}
theorem EG{k:Nat}(h:∀x∈xs,L2.Bd k x)(l:xs.length<=2^10):L2.Bd (k+10) xs.sum:=by have h1:=BL h;have h2:xs.length*(2^k-1)<=2^10*(2^k-1):=V2 _ l;have h3:0<2^k:=To Z2;show xs.sum.natAbs<2^(k+10);simp only[VX];lia
noncomputable def stI(m:Nat)(b:Sx.Bo)(c:Nat):Int:=b.s*b.s+((b.g.take m).map λr=>r.getD c 0*r.getD c 0).sum
section
variable{n m N:Nat}{b:Sx.Bo}(h:Bb n m N b)
include h
theorem Bb.sb(hc:c<=N):L2.Bd 820 (stI m b c):=by
 have h1:=h.bs.mul h.bs;have h2:L2.Bd 810 ((b.g.take m).map λr=>r.getD c 0*r.getD c 0).sum:=EG (λx hx=>by obtain⟨r,a,rfl⟩:=Rx.mp hx;have a:=Sw a;have:=h.bg r a _ (cw (c:=c) (by have:=h.sh.r r a;lia));exact this.mul this) (by have:=h.hm;simp;lia)
 exact(L2.Bd.add (h1.mono (show 800<=810 by decide)) h2).mono (show max 810 810+1<=820 by decide)
theorem BU(hc:c<=N):Val fB [bA n m b,.int c] (.int (stI m b c)):=by
 have hm:=h.hm;have J:=h.sh.g;have fs:=ft h.bs (show 400<=20000 by decide);have e1:cJ (bT (aM (au ["Board"] "grid") (aa 0)) aB (aT (aM a6 (aC 1)))) [.fr (bA n m b),.fr (.int c)]=some (.ok ((b.g.take m).map lI),[.fr (bA n m b),.fr (.int c)]):=by refine qD (iE rfl (by rw[QU,J])) ?_;rw[<-S0];rfl
 have e2:=bJ (ts:=b.g.take m) (k:=lI) (S:=[.fr (bA n m b),.fr (.int c)]) (λr=>.int (r.getD c 0*r.getD c 0)) rfl (by simp;lia) λr a=>by
  have a:=Sw a;have l:=h.sh.r r a;have k:∀Z:List Sl,Z=[.fr (bA n m b),.fr (.int c),.fr (lI r)]->mix (aa 2) (aa 1) Z=some (.ok (.fr (.int (r.getD c 0))),Z):=by rintro Z rfl;exact ah rfl rfl (bK (.inl rfl) (gf Q1))
  have f:=ft (h.bg r a _ (cw (c:=c) Q1)) (show 400<=20000 by decide);exact⟨_,ah (k _ rfl) (k _ rfl) (m8 f f _),rfl⟩
 refine Val.of (Wp.df (Wp.en (aV (ah (ah rfl rfl (m8 fs fs _)) (eW (bE e1 e2) (mj (r:=.fr (.int ((b.g.take m).map λr=>r.getD c 0*r.getD c 0).sum)) rfl ?_)) rfl) rfl) rfl));rw[show (b.g.take m).map (λr=>A.int (r.getD c 0*r.getD c 0))=((b.g.take m).map λr=>r.getD c 0*r.getD c 0).map A.int by simp only[Ry];rfl];unfold ud;dsimp only;rw[mE]
end
abbrev JB(o:A)(gs:List Int)(f:A)(a q:Int)(x4 x5 h:Sl):List Sl:=[.fr o,.fr (lI gs),.fr f,.fr (.tup [.int a,.int q]),x4,x5,h]
theorem kL{i j:Int}{b:Bool}(h:decide (j<i)=b)(Z:List Sl):kX sd (.fr (.int i)) (.fr (.int j)) Z=some (.ok (.fr (.bl b)),Z):=by rw[<-h];rfl
theorem jB{i j:Int}{b:Bool}(h:decide (i<j)=b)(Z:List Sl):kX k9 (.fr (.int i)) (.fr (.int j)) Z=some (.ok (.fr (.bl b)),Z):=by rw[<-h];rfl
def Gn(gs:List Int)(i:Nat)(f:A)(a q:Int):Prop:=(f=.non/\a=0/\q=1/\∀j,j<i->gs.getD j 0<=0)\/∃k:Nat,k<i/\f=.int k/\0<gs.getD k 0/\L2.Bd 820 a/\L2.Bd 820 q
variable{gs:List Int}{q:Int}
theorem Gn.bd{f:A}{a:Int}(h:Gn gs i f a q):L2.Bd 820 a/\L2.Bd 820 q:=by
 rcases h with ⟨_,rfl,rfl,_⟩|⟨k,_,_,_,h⟩
 .exact⟨To Z2,show (1:Int).natAbs<2^820 by decide +kernel⟩
 .exact h
theorem Gn.no{f:A}{a:Int}(h:Gn gs i f a q)(hi:gs.getD i 0<=0):Gn gs (i+1) f a q:=by
 rcases h with ⟨h1,h2,h3,h4⟩|⟨k,h1,h2⟩
 .exact .inl ⟨h1,h2,h3,λj F=>by
   by_cases e:j=i
   .rw[e];exact hi
   .exact h4 j Q1⟩
 .exact .inr ⟨k,by exact Q9 ‹_›,h2⟩
theorem G5{n m:Nat}{b:Sx.Bo}(h:Bb n m N b)(Q:gs.length<=N)(bg:∀x∈gs,L2.Bd 400 x):∃f,eZ bN [bA n m b,lI gs] f/\((f=.non/\∀j,j<gs.length->gs.getD j 0<=0)\/∃k:Nat,f=.int k/\k<gs.length/\0<gs.getD k 0):=by
 refine eZ.Pz (Wp.df (Wp.st rfl (Wp.st (aW (fv (ae rfl (ae rfl rfl)) rfl) rfl rfl rfl rfl) (Wp.sq (Wp.fr (G:=G2 4 5) (as:=iL 0 (gs.map A.int))
  (λi Z=>X5 λ(f:A)(a q:Int)(x4 x5:Sl)=>∃z,N4 (Z=JB (bA n m b) gs f a q x4 x5 z) (np x4=true/\np x5=true) (np z=true) (Gn gs i f a q)) rfl ⟨.non,0,1,.un,.un,.un,rfl,⟨rfl,rfl⟩,rfl,.inl ⟨rfl,rfl,rfl,λj F=>absurd F (RZ j)⟩⟩ ?_ ?_)))))
 .rintro i a0 Z V ⟨f,a,q,x4,x5,z,rfl,⟨h4,h5⟩,R,g⟩;obtain⟨d,hd,rfl⟩:=mL _ _ _ _ V;rw[Rt] at hd;have hi:i<gs.length:=by
   cases e:gs[i]? with
   |none=>rw[e] at hd;cases hd
   |some x=>exact(QL.mp e).1
  rw[Rb hi] at hd;cases hd;have P:gs[i]=gs.getD i 0:=by simp[Rk,hi]
  rw[P];have w:=bg _ (cw hi);generalize B:gs.getD i 0=v at w;rw[Uo];refine⟨_,nX (S:=[.fr (bA n m b),.fr (lI gs),.fr f,.fr (.tup [.int a,.int q])]) (tl:=[z]) rfl h4 h5,?_⟩;have X:∀t,decide (0<v)=t->aj (ay sd (aa 5) (aC 0)) (JB (bA n m b) gs f a q (.fr (.int (i:Nat))) (.fr (.int v)) z)=some (.ok t,JB (bA n m b) gs f a q (.fr (.int (i:Nat))) (.fr (.int v)) z):=λt l=>aG (ah rfl rfl (kL l _));by_cases I:0<v
  .have y:=ft w (show 400<=20000 by decide);have b2:L2.Bd 800 (v*v):=w.mul w;have bs:=h.sb (c:=i) Q1;have C:=ft b2 (show 800<=20000 by decide);have E:=ft bs (show 820<=20000 by decide);have p:=ft g.bd.1 (show 820<=20000 by decide);have D:=ft g.bd.2 (show 820<=20000 by decide);have r:aE 6 (eJ (cq (ay bz (aa 5) (aa 5)) (aX fB (cq (bP "Board" "stride" (ag 0)) (ag 4))))) (JB (bA n m b) gs f a q (.fr (.int (i:Nat))) (.fr (.int v)) z)=some (.nx,JB (bA n m b) gs f a q (.fr (.int (i:Nat))) (.fr (.int v)) (.fr (.tup [.int (v*v),.int (stI m b i)]))):=
    aW (fv (ae (ah rfl rfl (m8 y y _)) (ae (az (ae (jF rfl rfl) (ae rfl rfl)) (bj (BU h (c:=i) Q1) _)) rfl)) rfl) rfl rfl R rfl
   have T:∀t,decide (a*stI m b i<v*v*q)=t->aj (ay sd (ay bz (mix (aa 6) (aC 0)) (mix (aa 3) (aC 1))) (ay bz (mix (aa 3) (aC 0)) (mix (aa 6) (aC 1)))) (JB (bA n m b) gs f a q (.fr (.int (i:Nat))) (.fr (.int v)) (.fr (.tup [.int (v*v),.int (stI m b i)])))=some (.ok t,JB (bA n m b) gs f a q (.fr (.int (i:Nat))) (.fr (.int v)) (.fr (.tup [.int (v*v),.int (stI m b i)]))):=
    λt l=>aG (ah (ah (ah rfl rfl (bK (.inr rfl) rfl)) (ah rfl rfl (bK (.inr rfl) rfl)) (m8 C D _)) (ah (ah rfl rfl (bK (.inr rfl) rfl)) (ah rfl rfl (bK (.inr rfl) rfl)) (m8 p E _)) (kL l _))
   by_cases J:a*stI m b i<v*v*q
   .exact Wp.en (fD (X true (Zd I)) (dD r (fD (T true (Zd J)) (dD (aW rfl rfl rfl rfl rfl) (aW rfl rfl rfl rfl rfl))))) ⟨.inl rfl,_,_,_,_,_,_,rfl,⟨rfl,rfl⟩,rfl,.inr ⟨i,by exact Ru _,rfl,by rw[B];exact I,b2.mono Z2,bs⟩⟩
   .refine Wp.en (fD (X true (Zd I)) (dD r (dr (T false (Zc J)) rfl))) ⟨.inl rfl,_,_,_,_,_,_,rfl,⟨rfl,rfl⟩,rfl,?_⟩;rcases g with ⟨_,rfl,rfl,_⟩|⟨k,o,s⟩
    .exact absurd (by simp only[Ta,Sg];exact VZ I I) J
    .exact .inr ⟨k,by exact Q9 ‹_›,s⟩
  .exact Wp.en (dr (X false (Zc I)) rfl) ⟨.inl rfl,_,_,_,_,_,_,rfl,⟨rfl,rfl⟩,R,g.no Q1⟩
 .rintro O ⟨f,a,q,x4,x5,z,rfl,⟨h4,h5⟩,R,g⟩;rw[kj,QU] at g;refine⟨rfl,Wp.en (aV rfl rfl) ⟨f,(),rfl,by simp only[Rg,Tw,v8,h4,h5,R,UE],?_⟩⟩;rcases g with ⟨h1,_,_,h2⟩|⟨k,o,s,Y,_⟩
  .exact .inl ⟨h1,h2⟩
  .exact .inr ⟨k,s,o,Y⟩
theorem fZ:∀ns:List Int,eO (ns.map A.int)=some ns
 |[]=>rfl
 |n::ns=>by simp only[RC,eO,fZ ns]
theorem o9{u:Int}:∀{xs:List Int},u∈xs->t4 xs u=some (xs.idxOf u)
 |a::r,h=>by
  unfold t4;rw[List.idxOf_cons];by_cases e:a=u
  .rw[Za e,Zf.mpr e];rfl
  .have S:u∈r:=by
    rcases QW.mp h with z|z
    .exact absurd z.symm e
    .exact z
   rw[Zb e,beq_eq_false_iff_ne.mpr e,o9 S];rfl
theorem rF(u:Int)(xs:List Int):Gv false (.int u) (xs.map A.int)=some (.fr (.bl (decide (u∈xs)))):=by
 unfold Gv;have h1:(fJ (.int u)&&(xs.map A.int).all fJ)=true:=by rw[US];simp[fJ]
 rw[Za h1]
 congr 3
 show FG (kZ (.int u)) ((xs.map A.int).map kZ)=_;unfold FG;rw[Ry,VB];rw[Wt,Wo,decide_eq_true_eq];constructor
 .rintro⟨x,hx,e⟩;rw[Zf.mp e] at hx;exact hx
 .exact λhx=>⟨u,hx,by show (u==u)=true;simp⟩
theorem Kg{u:Int}{c:Bool}(h:decide (u∈xs)=c)(Z:List Sl):kX (xK false) (.fr (.int u)) (.fr (lI xs)) Z=some (.ok (.fr (.bl c)),Z):=by exact fu (o:=none) rfl rfl (by rw[<-h];exact rF u xs)
def rG(b:Sx.Bo)(i:Nat)(u:Int):Int:=if u∈b.ac then b.Gq i (b.ac.idxOf u) else if b.Bq i=u then b.s else 0
section
variable{n m N:Nat}{b:Sx.Bo}(h:Bb n m N b)
include h
theorem Fg(hi:i<m)(u:Int):Val cv [bA n m b,.int i,.int u] (.int (rG b i u)):=by
 have S:∀c,decide (u∈b.ac)=c->aj (ay (xK false) (aa 2) (aM (au ["Board"] "across") (aa 0))) [.fr (bA n m b),.fr (.int i),.fr (.int u)]=some (.ok c,[.fr (bA n m b),.fr (.int i),.fr (.int u)]):=λc hc=>aG (ah rfl rfl (Kg hc _));unfold rG;by_cases I:u∈b.ac
 .rw[Za I];have hl:=R1 I;rw[h.sh.ac] at hl;have z:vt (aM (au ["Board"] "across") (aa 0)) (aa 2) [.fr (bA n m b),.fr (.int i),.fr (.int u)]=some (.ok (.fr (.int (b.ac.idxOf u))),[.fr (bA n m b),.fr (.int i),.fr (.int u)]):=by
   have e:yK (lI b.ac) (.int u)=some (.fr (.int (b.ac.idxOf u))):=by unfold yK;dsimp only;rw[fZ];dsimp only;rw[o9 I]
   refine bk rfl ?_;refine WT (Za rfl) ?_;show (match yK (lI b.ac) (.int u) with|some q=>_|none=>_)=_;simp only[e]
  exact Val.of (Wp.df (Wp.sr (fD (S true (Zd I)) (aV (ah (h.rowAt Q1 _ rfl) z (bK (.inl rfl) (gf (by rw[h.sh.row Q1];exact Q9 ‹_›)))) rfl)) rfl))
 .rw[Zb I];have T:∀c,decide (b.Bq i=u)=c->aj (ay gw (mix (aM (au ["Board"] "down") (aa 0)) (aa 1)) (aa 2)) [.fr (bA n m b),.fr (.int i),.fr (.int u)]=some (.ok c,[.fr (bA n m b),.fr (.int i),.fr (.int u)]):=λc hc=>aG (ah (ah rfl rfl (bK (.inl rfl) (gf (by rw[h.sh.dn];exact hi)))) rfl (iD hc _));refine Val.of (Wp.df (Wp.st (dr (S false (Zc I)) rfl) ?_));by_cases J:b.Bq i=u
  .rw[Za J];exact Wp.en (aV (by rw[LV,T true (Zd J)];rfl) rfl) rfl
  .rw[Zb J];exact Wp.en (aV (by rw[LV,T false (Zc J)];rfl) rfl) rfl
end
theorem OY{P:Sx.Pb}{b:Sx.Bo}(h:Sx.Ok P N b)(hi:i<P.m)(u:Int):rG b i u=Sx.Fb P N b i u:=by
 unfold rG;by_cases c:u∈b.ac
 .rw[Za c];have hl:=R1 c;have e:b.Aq (b.ac.idxOf u)=u:=by simp only[Sx.Bo.Aq,Rk,Rb hl,Te];exact UJ hl
  have:=h.IJ (by rw[<-h.sh.ac];exact hl) i;rw[e] at this;exact this.symm
 .rw[Zb c,h.KP c i];by_cases e:b.Bq i=u
  .rw[Za e,Za ⟨hi,e⟩]
  .rw[Zb e,Zb λz=>e z.2]
theorem nW{G:Mg}{b:Ms}{Q:Fl->List Sl->Prop}:∀{T:Nat}{as:List A}(P:Nat->List Sl->Prop)(hl:T<as.length){Z:List Sl}(h0:P 0 Z)(hs:∀i a Z,i<T->as[i]?=some a->P i Z->∃U,G a Z=some U/\Wp b U λf Z'=>(f=.nx\/f=.ct)/\P (i+1) Z')
  (ht:∀a Z,as[T]?=some a->P T Z->∃U,G a Z=some U/\Wp b U λf Z'=>X2 λ(s:Sl)(_:Unit)=>f=.rt s/\Q (.rt s) Z'),∃f O,forL G b as Z=some (f,O)/\Q f O
 |_,[],_,hl,_,_,_,_=>absurd hl (RZ _)
 |0,a::as,P,hl,Z,h0,hs,ht=>by obtain⟨U,e1,f,Z',e2,s,_,rfl,q⟩:=ht a Z rfl h0;refine⟨.rt s,Z',?_,q⟩;unfold forL;rw[e1];dsimp only;rw[e2]
 |T+1,a::as,P,hl,Z,h0,hs,ht=>by obtain⟨U,e1,f,Z',e2,hf,p⟩:=hs 0 a Z (by exact Uq _) rfl h0;obtain⟨g,O,N,q⟩:=nW (λi=>P (i+1)) (Nat.lt_of_succ_lt_succ hl) p (λi a Z hi V hp=>hs (i+1) a Z (by exact RE ‹_›) V hp) ht;refine⟨g,O,?_,q⟩;unfold forL;rw[e1];dsimp only;rw[e2];rcases hf with rfl|rfl<;>exact N
theorem Wp.stop{v:Mi (List A)}{b:Ms}{T:Nat}{as:List A}(P:Nat->List Sl->Prop)(hm:v Z=some (.ok as,U))(hl:T<as.length)(L:P 0 U)(hs:∀i a Z,i<T->as[i]?=some a->P i Z->∃U,G a Z=some U/\Wp b U λf Z'=>(f=.nx\/f=.ct)/\P (i+1) Z')
  (l:∀a Z,as[T]?=some a->P T Z->∃U,G a Z=some U/\Wp b U λf Z'=>X2 λ(s:Sl)(_:Unit)=>f=.rt s/\Q (.rt s) Z'):Wp (gQ v G b) Z Q:=by
 obtain⟨f,O,e,q⟩:=nW P hl L hs l;exact⟨f,O,sk hm e,q⟩
theorem Wp.P7{m n:Ms}(k:Wp m Z λf U=>X2 λ(s:Sl)(_:Unit)=>f=.rt s/\Q (.rt s) U):Wp (ao m n) Z Q:=by obtain⟨f,U,e,s,_,rfl,q⟩:=k;exact⟨.rt s,U,by unfold ao;rw[e],q⟩
theorem AK(f:Nat->Int):∀M:Nat,(∀t,t<M->f t=0)\/∃t,t<M/\f t≠0/\∀u,u<t->f u=0
 |0=>.inl λt l=>absurd l (RZ t)
 |M+1=>by
  rcases AK f M with h|⟨t,h1,h2⟩
  .by_cases e:f M=0
   .exact .inl λt l=>by
     by_cases c:t=M
     .rw[c];exact e
     .exact h t Q1
   .exact .inr ⟨M,by lia,e,h⟩
  .exact .inr ⟨t,by lia,h2⟩
variable{ma mb:Mi Rr}
theorem Ek(h:ma Z=some (.ok (.fr (.int i)),Z))(k:mb Z=some (.ok (.fr (.int j)),Z))(hi:i<=1000)(F:j<=1000):qG ma mb Z=some (.ok (bS i (j-i)),Z):=by refine bk h (bk k ?_);show (if -(2^60)<=(i:Int)/\(i:Int)<2^60 /\ -(2^60)<=(j:Int)/\(j:Int)<2^60 then some (RI (bS i ((j:Int)-i).toNat),Z) else none)=_;rw[Za Q1];rw[show ((j:Int)-i).toNat=j-i by simp]
theorem ym(l n:Nat):(bS (l:Int) n).length=n:=by simp[bS]
theorem pP{l n:Nat}{a:A}(h:(bS (l:Int) n)[i]?=some a):i<n/\a=.int ((l+i:Nat):Int):=by
 unfold bS at h;rw[Rt] at h;cases e:(Q8 n)[i]? with
 |none=>rw[e] at h;cases h
 |some x=>rw[e] at h;cases h;obtain⟨hi,e⟩:=QL.mp e;rw[UK] at e;subst e;exact⟨by simpa using hi,rfl⟩
structure Gd(P:Sx.Pb)(N:Nat)(b:Sx.Bo):Prop where
 ok:Sx.Ok P N b
 bb:Bb P.n P.m N b
theorem Fx{n m:Nat}{b:Sx.Bo}(h:Bb n m N b)(hi:i<m)(u:Int):L2.Bd 400 (rG b i u):=by
 unfold rG;by_cases c:u∈b.ac
 .rw[Za c];have hl:=R1 c;exact h.gb (by exact Q4 ‹_›) (by rw[<-h.sh.ac];exact Q4 ‹_›)
 .rw[Zb c];by_cases e:b.Bq i=u
  .rw[Za e];exact h.bs
  .rw[Zb e];exact To Z2
noncomputable abbrev sX(o:A)(i k c:Nat)(x4 x5 h:Sl):List Sl:=[.fr o,.fr (.int i),.fr (.int k),.fr (.int c),x4,x5,h]
abbrev Oe:Ms:=ao (aE 4 (ay bz (aX cv (eQ (bP "Board" "top_of" (ag 0)) (ag 1) (ag 6))) (mix (mix (aM (au ["Board"] "grid") (aa 0)) (aa 2)) (aa 3)))) (ao (aE 5 (ay bz (aX cv (eQ (bP "Board" "top_of" (ag 0)) (ag 2) (ag 6))) (mix (mix (aM (au ["Board"] "grid") (aa 0)) (aa 1)) (aa 3)))) (i7 (aj (ay iX (aa 4) (aa 5))) (bZ (ay k9 (aa 4) (aa 5))) cy))
variable{x4 x5:Sl}
section
variable{P:Sx.Pb}{N:Nat}{b:Sx.Bo}(h:Gd P N b){i k c:Nat}(hi:i<P.m)(hk:k<P.m)(hc:c<N)
include h hi hk hc
theorem pW(h4:np x4=true)(h5:np x5=true)(u:Int):Wp Oe (sX (bA P.n P.m b) i k c x4 x5 (.fr (.int u))) λf Z=>Z=sX (bA P.n P.m b) i k c (.fr (.int (rG b i u*b.Gq k c))) (.fr (.int (rG b k u*b.Gq i c))) (.fr (.int u))/\f=if rG b i u*b.Gq k c=rG b k u*b.Gq i c then .nx else .rt (.fr (.bl (decide (rG b i u*b.Gq k c<rG b k u*b.Gq i c)))):=by
 have t:=ft (Fx h.bb hi u) (show 400<=20000 by decide);have G:=ft (Fx h.bb hk u) (show 400<=20000 by decide);have o:=ft (h.bb.gb (i:=i) (l:=c) (by exact Q4 ‹_›) (by exact Q4 ‹_›)) (show 400<=20000 by decide);have s:=ft (h.bb.gb (i:=k) (l:=c) (by exact Q4 ‹_›) (by exact Q4 ‹_›)) (show 400<=20000 by decide);have z:∀x5,aE 4 (ay bz (aX cv (eQ (bP "Board" "top_of" (ag 0)) (ag 1) (ag 6))) (mix (mix (aM (au ["Board"] "grid") (aa 0)) (aa 2)) (aa 3))) (sX (bA P.n P.m b) i k c x4 x5 (.fr (.int u)))=some (.nx,sX (bA P.n P.m b) i k c (.fr (.int (rG b i u*b.Gq k c))) x5 (.fr (.int u))):=
  λx5=>aW (ah (az (ae (jF rfl rfl) (ae rfl (ae rfl rfl))) (bj (Fg h.bb hi u) _)) (h.bb.at2 (by exact Q4 ‹_›) (by exact Q4 ‹_›) _ rfl rfl) (m8 t s _)) rfl rfl h4 rfl
 have q:∀x4,aE 5 (ay bz (aX cv (eQ (bP "Board" "top_of" (ag 0)) (ag 2) (ag 6))) (mix (mix (aM (au ["Board"] "grid") (aa 0)) (aa 1)) (aa 3))) (sX (bA P.n P.m b) i k c x4 x5 (.fr (.int u)))=some (.nx,sX (bA P.n P.m b) i k c x4 (.fr (.int (rG b k u*b.Gq i c))) (.fr (.int u))):=
  λx4=>aW (ah (az (ae (jF rfl rfl) (ae rfl (ae rfl rfl))) (bj (Fg h.bb hk u) _)) (h.bb.at2 Q1 Q1 _ rfl rfl) (m8 G o _)) rfl rfl h5 rfl
 generalize rG b i u*b.Gq k c=x at *;generalize rG b k u*b.Gq i c=y at *;by_cases e:x=y
 .rw[Za e];exact Wp.en (dD (z _) (dD (q _) (dr (aG (ah rfl rfl (fw (Zd e) _))) rfl))) ⟨rfl,rfl⟩
 .rw[Zb e];exact Wp.en (dD (z _) (dD (q _) (fD (aG (ah rfl rfl (fw (Zc e) _))) (aV (ah rfl rfl (jB rfl _)) rfl)))) ⟨rfl,rfl⟩
theorem EA:∃r:Bool,Val fc [bA P.n P.m b,.int i,.int k,.int c] (.bl r)/\(r=true↔Sx.Bw P N b c i k):=by
 have o:=ft (h.bb.gb (i:=i) (l:=c) (by exact Q4 ‹_›) (by exact Q4 ‹_›)) (show 400<=20000 by decide);have s:=ft (h.bb.gb (i:=k) (l:=c) Q1 Q1) (show 400<=20000 by decide);have d:=ft (h.bb.gb (i:=i) (l:=N) Q1 Q1) (show 400<=20000 by decide);have v:=ft (h.bb.gb (i:=k) (l:=N) Q1 Q1) (show 400<=20000 by decide);have X:aE 4 (ay bz (mix (mix (aM (au ["Board"] "grid") (aa 0)) (aa 1)) (aM a6 (aC 1))) (mix (mix (aM (au ["Board"] "grid") (aa 0)) (aa 2)) (aa 3))) (sX (bA P.n P.m b) i k c .un .un .un)=some (.nx,sX (bA P.n P.m b) i k c (.fr (.int (b.Gq i N*b.Gq k c))) .un .un):=
  aW (ah (h.bb.last (j:=1) (i:=i) Q1 _ rfl) (h.bb.at2 (j:=2) (k:=3) (i:=k) (l:=c) Q1 Q1 _ rfl rfl) (m8 d s _)) rfl rfl rfl rfl
 have q:∀x4,aE 5 (ay bz (mix (mix (aM (au ["Board"] "grid") (aa 0)) (aa 2)) (aM a6 (aC 1))) (mix (mix (aM (au ["Board"] "grid") (aa 0)) (aa 1)) (aa 3))) (sX (bA P.n P.m b) i k c x4 .un .un)=some (.nx,sX (bA P.n P.m b) i k c x4 (.fr (.int (b.Gq k N*b.Gq i c))) .un):=
  λx4=>aW (ah (h.bb.last (j:=2) (i:=k) Q1 _ rfl) (h.bb.at2 (j:=1) (k:=3) (i:=i) (l:=c) Q1 Q1 _ rfl rfl) (m8 v o _)) rfl rfl rfl rfl
 have u:∀j,Sx.Rr P N b j 0=b.Gq j N:=λj=>Za rfl;have y:∀j t,j<P.m->rG b j ((P.n+t:Nat):Int)=Sx.Rr P N b j (t+1):=λj t F=>by rw[OY h.ok F];exact(Zb (U4 t)).symm
 have C:∀x4 x5,qG (aM (au ["Board"] "long") (aa 0)) (ay aK (aM (au ["Board"] "long") (aa 0)) (aM (au ["Board"] "many") (aa 0))) (sX (bA P.n P.m b) i k c x4 x5 .un)=some (.ok (bS P.n P.m),sX (bA P.n P.m b) i k c x4 x5 .un):=λx4 x5=>by have hn:=h.bb.hn;have hm:=h.bb.hm;have:=Ek (Z:=sX (bA P.n P.m b) i k c x4 x5 .un) (i:=P.n) (j:=P.n+P.m) (ma:=aM (au ["Board"] "long") (aa 0)) (mb:=ay aK (aM (au ["Board"] "long") (aa 0)) (aM (au ["Board"] "many") (aa 0))) rfl rfl Q1 Q1;rw[show P.n+P.m-P.n=P.m by lia] at this;exact this
 rcases AK (λt=>b.Gq i c*Sx.Rr P N b k t-b.Gq k c*Sx.Rr P N b i t) (P.m+1) with z|⟨t,G,E,x⟩
 .have z0:=z 0 Q1;simp only[u] at z0;refine⟨false,Val.of (Wp.df (Wp.st X (Wp.st (q _) (Wp.st (dr (aG (ah rfl rfl (fw (b:=true) (Zd (by grind)) _))) rfl) (Wp.sq (Wp.fr (b:=Oe) (λj Z=>X3 λ(x4 x5 e:Sl)=>N3 (Z=sX (bA P.n P.m b) i k c x4 x5 e) (np x4=true/\np x5=true) (np e=true)) (C _ _) ⟨_,_,_,rfl,⟨rfl,rfl⟩,rfl⟩ ?_ ?_)))))),by simp;exact λw=>Sx.Ma z w⟩
  .rintro j a Z V ⟨x4,x5,e,rfl,⟨h4,h5⟩,R⟩;obtain⟨F,rfl⟩:=pP V;refine⟨_,iN (S:=[.fr (bA P.n P.m b),.fr (.int i),.fr (.int k),.fr (.int c),x4,x5]) (tl:=[]) rfl R,Wp.mono (pW h hi hk hc h4 h5 _) ?_⟩;rintro f Z ⟨rfl,hf⟩;have:=z (j+1) Q1;rw[Za (by rw[y i j hi,y k j hk];grind)] at hf;exact⟨.inl hf,_,_,_,rfl,⟨rfl,rfl⟩,rfl⟩
  .rintro O ⟨x4,x5,e,rfl,_,_⟩;exact⟨rfl,Wp.en (aV rfl rfl) rfl⟩
 .have key:=Sx.M7 (M:=P.m+1) (f:=λt=>b.Gq i c*Sx.Rr P N b k t-b.Gq k c*Sx.Rr P N b i t) G x E;refine⟨decide (Sx.Rr P N b i t*b.Gq k c<Sx.Rr P N b k t*b.Gq i c),Val.of (Wp.df (Wp.st X (Wp.st (q _) ?_))),?_⟩
  .cases t with
   |zero=>simp only[u] at E;refine Wp.sr (fD (aG (ah rfl rfl (fw (b:=false) (Zc (by grind)) _))) (aV (ah rfl rfl (jB rfl _)) rfl)) ?_;rw[u,u]
   |succ t=>
    have z0:=x 0 Q1;simp only[u] at z0;refine Wp.st (dr (aG (ah rfl rfl (fw (b:=true) (Zd (by grind)) _))) rfl) (Wp.P7 (Wp.stop (b:=Oe) (T:=t) (λj Z=>X3 λ(x4 x5 e:Sl)=>N3 (Z=sX (bA P.n P.m b) i k c x4 x5 e) (np x4=true/\np x5=true) (np e=true)) (C _ _) (by rw[ym];lia) ⟨_,_,_,rfl,⟨rfl,rfl⟩,rfl⟩ ?_ ?_))
    .rintro j a Z F V ⟨x4,x5,e,rfl,⟨h4,h5⟩,R⟩;obtain⟨_,rfl⟩:=pP V;refine⟨_,iN (S:=[.fr (bA P.n P.m b),.fr (.int i),.fr (.int k),.fr (.int c),x4,x5]) (tl:=[]) rfl R,Wp.mono (pW h hi hk hc h4 h5 _) ?_⟩;rintro f Z ⟨rfl,hf⟩;have:=x (j+1) Q1;rw[Za (by rw[y i j hi,y k j hk];grind)] at hf;exact⟨.inl hf,_,_,_,rfl,⟨rfl,rfl⟩,rfl⟩
    .rintro a Z V ⟨x4,x5,e,rfl,⟨h4,h5⟩,R⟩;obtain⟨_,rfl⟩:=pP V;refine⟨_,iN (S:=[.fr (bA P.n P.m b),.fr (.int i),.fr (.int k),.fr (.int c),x4,x5]) (tl:=[]) rfl R,Wp.mono (pW h hi hk hc h4 h5 _) ?_⟩;rintro f Z ⟨rfl,hf⟩;rw[Zb (by rw[y i t hi,y k t hk];grind),y i t hi,y k t hk] at hf;exact⟨_,(),hf,_,(),rfl,rfl⟩
  .rw[decide_eq_true_eq];refine Iff.trans ?_ key.symm;constructor
   .intro z;show 0<b.Gq i c*Sx.Rr P N b k t-b.Gq k c*Sx.Rr P N b i t;grind
   .intro z;have z:0<b.Gq i c*Sx.Rr P N b k t-b.Gq k c*Sx.Rr P N b i t:=z;grind
end
noncomputable def oA:Option Nat->A
 |none=>.non
 |some a=>.int a
noncomputable abbrev Lm(o:A)(c:Nat)(f:A)(x3:Sl):List Sl:=[.fr o,.fr (.int c),.fr f,x3]
theorem wL{P:Sx.Pb}{b:Sx.Bo}(h:Gd P N b)(hc:c<N):∃f:Option Nat,eZ bh [bA P.n P.m b,.int c] (oA f)/\Sx.pf P N b c P.m f:=by
 have hm:=h.bb.hm
 suffices ∃a,eZ bh [bA P.n P.m b,.int c] a/\∃f:Option Nat,a=oA f/\Sx.pf P N b c P.m f by obtain⟨a,v,f,rfl,z⟩:=this;exact⟨f,v,z⟩
 refine eZ.Pz (Wp.df (Wp.st rfl (Wp.sq (Wp.fr (λk Z=>X2 λ(f:Option Nat)(x3:Sl)=>N3 (Z=Lm (bA P.n P.m b) c (oA f) x3) (np x3=true) (Sx.pf P N b c k f)) (j4 rfl Z5) ⟨none,.un,rfl,rfl,Sx.pf.zero⟩ ?_ ?_))))
 .rintro k a Z V ⟨f,x3,rfl,h3,g⟩;obtain⟨hk,rfl⟩:=pG V;refine⟨_,iN (S:=[.fr (bA P.n P.m b),.fr (.int c),.fr (oA f)]) rfl h3,?_⟩;have G:∀t,decide (0<b.Gq k c)=t->aj (ay sd (mix (mix (aM (au ["Board"] "grid") (aa 0)) (aa 3)) (aa 1)) (aC 0)) (Lm (bA P.n P.m b) c (oA f) (.fr (.int k)))=some (.ok t,Lm (bA P.n P.m b) c (oA f) (.fr (.int k))):=λt l=>aG (ah (h.bb.at2 (by exact Q4 ‹_›) (by exact Q4 ‹_›) _ rfl rfl) rfl (kL l _));by_cases I:0<b.Gq k c
  .cases f with
   |none=>exact Wp.en (fD (jO (G true (Zd I)) (H9 rfl)) (aW rfl rfl rfl rfl rfl)) ⟨.inl rfl,some k,_,rfl,rfl,g.one I⟩
   |some a=>
    have V:=g.1;obtain⟨r,v,e⟩:=EA h (k:=a) hk (by exact Tc ‹_› ‹_›) hc;have T:iK (aj (ay sd (mix (mix (aM (au ["Board"] "grid") (aa 0)) (aa 3)) (aa 1)) (aC 0))) (j7 (aj (ay (qx false) (aa 2) (mC .non))) (aj (aX fc (E5 (ag 0) (ag 3) (ag 2) (ag 1))))) (Lm (bA P.n P.m b) c (oA (some a)) (.fr (.int k)))=some (.ok r,Lm (bA P.n P.m b) c (oA (some a)) (.fr (.int k))):=jO (G true (Zd I)) (dM rfl (aG (az rfl (bj v _))));cases r with
    |true=>exact Wp.en (fD T (aW rfl rfl rfl rfl rfl)) ⟨.inl rfl,some k,_,rfl,rfl,g.put I (e.mp rfl)⟩
    |false=>exact Wp.en (dr T rfl) ⟨.inl rfl,some a,_,rfl,rfl,g.keep λz=>nomatch e.mpr z⟩
  .exact Wp.en (dr (qo (G false (Zc I))) rfl) ⟨.inl rfl,f,_,rfl,rfl,g.no (by exact Vk.mp ‹_›)⟩
 .rintro O ⟨f,x3,rfl,h3,g⟩;rw[gk] at g;exact⟨rfl,Wp.en (aV rfl rfl) ⟨oA f,(),rfl,by simp only[Rg,Tw,v8,h3,UE],f,rfl,g⟩⟩
abbrev sM(L:Nat)(s:Int)(g t:Nat->Int)(i:Nat):List A:=(Q8 L).map λ(j:Nat)=>nm (dz (Sx.su i λY=>if g Y=(j:Int) then t Y else 0) s)
theorem vV{n u:Nat}{f:Nat->α}{v:α}:((Q8 n).map f).set u v=(Q8 n).map λj=>if j=u then v else f j:=by
 refine U1 Z4 λi h1 h2=>?_;rw[List.getElem_set];simp only[Wr,UK];by_cases e:i=u
 .rw[Za e.symm,Za e]
 .rw[Zb (RO e),Zb e]
theorem KS{L:Nat}{g t:Nat->Int}(hs:s≠0):sM L s g t 0=(Q8 L).map λ_=>nm (0,1):=by refine RK λj _=>?_;rw[show Sx.su 0 _=0 from rfl,zR hs]
theorem zx{L:Nat}{g t:Nat->Int}(hd:∀Y,Y<i->g Y≠g i)(r:0<=g i):(sM L s g t i).set (g i).toNat (nm (dz (t i) s))=sM L s g t (i+1):=by
 simp only[vV];refine RK λj _=>?_;show _=nm (dz (Sx.su i _+if g i=(j:Int) then t i else 0) s);by_cases e:j=(g i).toNat
 .rw[Za e,Za Q1,Sx.gJ λY hi=>Zb λz=>hd Y hi Q1,Up]
 .rw[Zb e,Zb Q1,R5]
theorem vK{L:Nat}{g t:Nat->Int}(h:g i<0\/(L:Int)<=g i):sM L s g t i=sM L s g t (i+1):=by refine RK λj F=>?_;show _=nm (dz (Sx.su i _+if g i=(j:Int) then t i else 0) s);have:=RJ.mp F;rw[Zb Q1,R5]
theorem tW{xs:List A}{a:A}(hl:aD Z i=some (.lst xs))(L:0<=k)(h1:k<xs.length):P2 i (.fr a) (.fr (.int k)) Z=some (.nx,setAt Z i (.lst (xs.set k.toNat a))):=by
 show (match some (A.int k),aD Z i with|some (.int k),some (.lst xs)=>(match L2.gF xs.length k with|some j=>some (Fl.nx,setAt Z i (.lst (xs.set j a)))|none=>none)|_,_=>none)=_;rw[hl];dsimp only;have e:L2.gF xs.length k=some k.toNat:=by unfold L2.gF;rw[Za L,Za h1]
 simp only[e]
abbrev Ge(o:A)(ts:List Int)(xs:List A)(x3 x4:Sl):List Sl:=[.fr o,.fr (lI ts),.lv (.lst xs),x3,x4]
theorem wd{ys:List Int}{a:A}(h:(kC (xs.map A.int) (ys.map A.int))[i]?=some a):i<xs.length/\i<ys.length/\a=.tup [.int (xs.getD i 0),.int (ys.getD i 0)]:=by
 rw[eE,Rt] at h;cases e:(xs.zip ys)[i]? with
 |none=>rw[e] at h;cases h
 |some p=>rw[e] at h;cases h;simp only[Sr] at e;obtain⟨e1,e2⟩:=e;exact⟨(QL.mp e1).1,(QL.mp e2).1,by simp[Rk,e1,e2]⟩
theorem vB{L:Nat}{m:Mi Rr}(hm:m S=some (.ok (.fr (.int L)),S))(hl:L<=100)(i:Nat)(hi:S.length=i):aH 1 (cD m) (aL i) aF (mC (.tup [.int 0,.int 1])) S=some (.ok (.nw (.lst ((Q8 L).map λ_=>nm (0,1)))),S):=by refine bE (j4 hm Q1) ?_;exact bJ (k:=λ(j:Nat)=>A.int (0+(j:Int))) (λ_=>nm (0,1)) hi (by simp;lia) λj _=>⟨_,rfl,rfl⟩
variable{ts:List Int}
section
variable{n m N:Nat}{b:Sx.Bo}(h:Bb n m N b)
include h
theorem sf(l:m<=ts.length)(w:∀i,i<m->0<=b.Bq i)(hd:∀i Y,i<m->Y<i->b.Bq Y≠b.Bq i):eZ cI [bA n m b,lI ts] (nS n b.s λj=>Sx.su m λi=>if b.Bq i=(j:Int) then ts.getD i 0 else 0):=by
 have ne:b.s≠0:=by have:=h.pos;exact Rz ‹_›
 have hn:=h.hn;refine eZ.of (Wp.df (Wp.st (U:=Ge (bA n m b) ts (sM n b.s b.Bq (λi=>ts.getD i 0) 0) .un .un) (aW (vB rfl Z5 5 rfl) rfl rfl rfl (by rw[KS ne];rfl)) (Wp.sq (Wp.fr (λi Z=>X2 λ(x3 x4:Sl)=>N3 (Z=Ge (bA n m b) ts (sM n b.s b.Bq (λi=>ts.getD i 0) i) x3 x4) (np x3=true) (np x4=true)) rfl ⟨_,_,rfl,rfl,rfl⟩ ?_ ?_))))
 .rintro i a Z f ⟨x3,x4,rfl,h3,h4⟩;obtain⟨v,I,rfl⟩:=wd f;simp only[h.sh.dn] at v;refine⟨_,nX (S:=[.fr (bA n m b),.fr (lI ts),.lv (.lst (sM n b.s b.Bq (λi=>ts.getD i 0) i))]) rfl h3 h4,?_⟩;have P:=w i v;have G:∀t,decide (b.Bq i<(n:Int))=t->aj (ay k9 (aa 3) (aM (au ["Board"] "long") (aa 0))) (Ge (bA n m b) ts (sM n b.s b.Bq (λi=>ts.getD i 0) i) (.fr (.int (b.Bq i))) (.fr (.int (ts.getD i 0))))=some (.ok t,Ge (bA n m b) ts (sM n b.s b.Bq (λi=>ts.getD i 0) i) (.fr (.int (b.Bq i))) (.fr (.int (ts.getD i 0)))):=λt l=>aG (ah rfl rfl (jB l _));by_cases c:b.Bq i<(n:Int)
  .refine Wp.en (fD (G true (Zd c)) (oz (az (ae rfl (ae rfl rfl)) (bj (Ap ne (h.bs.mono Z2)) _)) rfl rfl (tW rfl P (by simpa using c)))) ⟨.inl rfl,.fr (.int (b.Bq i)),.fr (.int (ts.getD i 0)),?_,rfl,rfl⟩;rw[zx (hd i · v) P];rfl
  .refine Wp.en (dr (G false (Zc c)) rfl) ⟨.inl rfl,.fr (.int (b.Bq i)),.fr (.int (ts.getD i 0)),?_,rfl,rfl⟩;rw[vK (.inr (by exact Vk.mp ‹_›))]
 .rintro O ⟨x3,x4,rfl,h3,h4⟩;rw[show (kC (b.dn.map A.int) (ts.map A.int)).length=m by rw[eE,QU,S1,h.sh.dn];lia];exact⟨rfl,Wp.en (aV rfl rfl) ⟨rfl,by simp only[Rg,Tw,v8,FQ,h3,h4,UE]⟩⟩
theorem yI(y:N<=ts.length)(hd:∀i Y,i<N->Y<i->b.Aq Y≠b.Aq i)(j:∀i,i<N->b.Aq i<(n+m:Nat)):eZ aZ [bA n m b,lI ts] (nS m b.s λk=>Sx.su N λl=>if b.Aq l=((n+k:Nat):Int) then ts.getD l 0 else 0):=by
 have ne:b.s≠0:=by have:=h.pos;lia
 have hm:=h.hm;have conv:∀i,sM m b.s (λl=>b.Aq l-n) (λi=>ts.getD i 0) i=(Q8 m).map λk=>nm (dz (Sx.su i λl=>if b.Aq l=((n+k:Nat):Int) then ts.getD l 0 else 0) b.s):=λi=>by
  refine RK λk _=>?_
  congr 2
  refine Sx.aU λl _=>?_;by_cases e:b.Aq l=((n+k:Nat):Int)
  .rw[Za e,Za (show b.Aq l-n=(k:Int) by lia)]
  .rw[Zb e,Zb (show ¬ b.Aq l-n=(k:Int) by lia)]
 unfold nS;rw[<-conv];refine eZ.of (Wp.df (Wp.st (U:=Ge (bA n m b) ts (sM m b.s (λl=>b.Aq l-n) (λi=>ts.getD i 0) 0) .un .un) (aW (vB rfl Q1 5 rfl) rfl rfl rfl (by rw[KS ne];rfl)) (Wp.sq (Wp.fr (λi Z=>X2 λ(x3 x4:Sl)=>N3 (Z=Ge (bA n m b) ts (sM m b.s (λl=>b.Aq l-n) (λi=>ts.getD i 0) i) x3 x4) (np x3=true) (np x4=true)) rfl ⟨_,_,rfl,rfl,rfl⟩ ?_ ?_))))
 .rintro i a Z f ⟨x3,x4,rfl,h3,h4⟩;obtain⟨v,I,rfl⟩:=wd f;rw[h.sh.ac] at v;refine⟨_,nX (S:=[.fr (bA n m b),.fr (lI ts),.lv (.lst (sM m b.s (λl=>b.Aq l-n) (λi=>ts.getD i 0) i))]) (tl:=[]) rfl h3 h4,?_⟩;have b1:=j i v;have G:∀t,decide ((n:Int)<=b.Aq i)=t->aj (ay E6 (aa 3) (aM (au ["Board"] "long") (aa 0))) (Ge (bA n m b) ts (sM m b.s (λl=>b.Aq l-n) (λi=>ts.getD i 0) i) (.fr (.int (b.Aq i))) (.fr (.int (ts.getD i 0))))=some (.ok t,Ge (bA n m b) ts (sM m b.s (λl=>b.Aq l-n) (λi=>ts.getD i 0) i) (.fr (.int (b.Aq i))) (.fr (.int (ts.getD i 0)))):=λt y=>aG (ah rfl rfl (by rw[<-y];rfl));by_cases c:(n:Int)<=b.Aq i
  .refine Wp.en (fD (G true (Zd c)) (oz (az (ae rfl (ae rfl rfl)) (bj (Ap (t:=ts.getD i 0) ne (h.bs.mono Z2)) _)) rfl (ah rfl rfl rfl) (tW (k:=b.Aq i-n) rfl Q1 (by simp;lia)))) ⟨.inl rfl,.fr (.int (b.Aq i)),.fr (.int (ts.getD i 0)),?_,rfl,rfl⟩;rw[<-zx (g:=λl=>b.Aq l-n) (t:=λi=>ts.getD i 0) (i:=i) (λY x=>by have:=hd i Y v x;show b.Aq Y-n≠b.Aq i-n;lia) (by show 0<=b.Aq i-n;lia)];rfl
  .refine Wp.en (dr (G false (Zc c)) rfl) ⟨.inl rfl,.fr (.int (b.Aq i)),.fr (.int (ts.getD i 0)),?_,rfl,rfl⟩;rw[<-vK (g:=λl=>b.Aq l-n) (.inl (by show b.Aq i-n<0;lia))]
 .rintro O ⟨x3,x4,rfl,h3,h4⟩;rw[show (kC (b.ac.map A.int) (ts.map A.int)).length=N by rw[eE,QU,S1,h.sh.ac];lia];exact⟨rfl,Wp.en (aV rfl rfl) ⟨rfl,by simp only[Rg,Tw,v8,FQ,h3,h4,UE]⟩⟩
end
section
variable{P:Sx.Pb}{N:Nat}{b:Sx.Bo}
theorem Gd.PK(h:Gd P N b)(i Y:Nat)(hi:i<P.m)(F:Y<i):b.Bq Y≠b.Bq i:=λe=>by
 have:=Sx.getD_inj (QV.mp h.ok.nd).2.1 (by rw[h.ok.sh.dn];exact Tc ‹_› ‹_›) (by rw[h.ok.sh.dn];lia) e
 lia
theorem Gd.Qf(h:Gd P N b)(i Y:Nat)(hi:i<N)(F:Y<i):b.Aq Y≠b.Aq i:=λe=>by
 have:=h.ok.Ai (show Y<N by exact Tc ‹_› ‹_›) hi e
 lia
theorem Gd.B0(h:Gd P P.n b)(i:Nat)(hi:i<P.m):0<=b.Bq i:=by have:=(h.ok.nm _).mp (QK b.ac (h.ok.Bm hi));rw[Za rfl] at this;exact this.1
theorem Gd.Alt(h:Gd P N b)(i:Nat)(hi:i<N):b.Aq i<(P.n+P.m:Nat):=(h.ok.xX (QM b.dn (h.ok.Am hi))).2
theorem Bb.KU{n m:Nat}(h:Bb n m N b){f:List Int->Int}(hi:i<m):(b.g.map f).getD i 0=f (b.g.getD i []):=Sx.getD_map (by rw[h.sh.g];lia)
theorem CW(h:Gd P P.n b):eZ bG [bA P.n P.m b] (nS P.n b.s λj=>Sx.vl P b P.n j):=by
 have hm:=h.bb.hm;have J:=h.bb.sh.g;have I:=bJ (e:=mix (aa 1) (aM a6 (aC 1))) (k:=lI) (S:=[.fr (bA P.n P.m b)]) (λr=>.int (r.getD P.n 0)) rfl Q1 λr a=>⟨_,ah rfl rfl (bK (.inl rfl) (lH (h.bb.sh.r r a))),rfl⟩
 have H:dS (aH 1 (cJ (aM (au ["Board"] "grid") (aa 0))) (aL 1) aF (mix (aa 1) (aM a6 (aC 1)))) [.fr (bA P.n P.m b)]=some (.ok (.fr (lI (b.g.map λ(r:List Int)=>r.getD P.n 0))),[.fr (bA P.n P.m b)]):=by refine gH (bE rfl I) ?_;unfold lI;rw[Ry];rfl
 have k:=(sf h.bb (ts:=b.g.map λr=>r.getD P.n 0) (by rw[QU];lia) h.B0 h.PK).v;have eq:nS P.n b.s (λj=>Sx.su P.m λi=>if b.Bq i=(j:Int) then (b.g.map λr=>r.getD P.n 0).getD i 0 else 0)=nS P.n b.s λj=>Sx.vl P b P.n j:=by
  unfold nS
  congr 1
  refine RK λj _=>?_
  congr 2
  unfold Sx.vl;dsimp only;rw[Zb (λz=>absurd z.1 (Rf _)),R5];refine Sx.aU λi hi=>?_;rw[h.bb.KU hi,show Sx.qs P.n P.n=1 from Zb (Rf _),R0];rfl
 simp only[eq] at k;exact eZ.of (Wp.df (Wp.en (aV (az (ae (jF rfl rfl) (ae H rfl)) (bj k _)) rfl) ⟨rfl,rfl⟩))
theorem Hf(h:s≠0):dz s s=(1,1):=by have:=nY (q:=(1,1)) ⟨by decide,by decide⟩ h;simpa using this
theorem LU(h:Gd P P.n b)(hc:c<P.n):eZ cX [bA P.n P.m b,.int c] (nS P.n b.s λj=>Sx.vl P b c j):=by
 have ne:b.s≠0:=by have:=h.bb.pos;exact Rz ‹_›
 have hm:=h.bb.hm;have J:=h.bb.sh.g;have l:=bJ (e:=aM a6 (mix (aa 3) (aa 1))) (ts:=b.g) (k:=lI) (S:=[.fr (bA P.n P.m b),.fr (.int c),.un]) (λr=>.int (-(r.getD c 0))) rfl Q1 λr u=>⟨.fr (.int (-(r.getD c 0))),eW (ah rfl rfl (bK (.inl rfl) (gf (by rw[h.bb.sh.r r u];exact Q9 ‹_›)))) rfl,rfl⟩
 have H:dS (aH 1 (cJ (aM (au ["Board"] "grid") (aa 0))) (aL 3) aF (aM a6 (mix (aa 3) (aa 1)))) [.fr (bA P.n P.m b),.fr (.int c),.un]=some (.ok (.fr (lI (b.g.map λ(r:List Int)=>-(r.getD c 0)))),[.fr (bA P.n P.m b),.fr (.int c),.un]):=by refine gH (bE rfl l) ?_;unfold lI;rw[Ry];rfl
 have k:=(sf h.bb (ts:=b.g.map λr=>-(r.getD c 0)) (by rw[QU];lia) h.B0 h.PK).v;have eq:∀j:Nat,(Sx.su P.m λi=>if b.Bq i=(j:Int) then (b.g.map λr=>-(r.getD c 0)).getD i 0 else 0)=Sx.su P.m λi=>if b.Bq i=(j:Int) then Sx.qs P.n c*b.Gq i c else 0:=λj=>Sx.aU λi hi=>by rw[h.bb.KU hi,show Sx.qs P.n c = -1 from Za hc,Sd];rfl
 simp only[eq] at k;have s2:aE 2 (cE da (aX cI (cq (bP "Board" "spread_down" (aa 0)) (dS (aH 1 (cJ (aM (au ["Board"] "grid") (aa 0))) (aL 3) aF (aM a6 (mix (aa 3) (aa 1)))))))) [.fr (bA P.n P.m b),.fr (.int c),.un]=some (.nx,[.fr (bA P.n P.m b),.fr (.int c),.lv (.lst ((Q8 P.n).map λ(j:Nat)=>nm (dz (Sx.su P.m λi=>if b.Bq i=(j:Int) then Sx.qs P.n c*b.Gq i c else 0) b.s)))]):=
  aW (eW (az (ae (jF rfl rfl) (ae H rfl)) (bj k _)) (mj (r:=.nw (.lst _)) rfl rfl)) rfl rfl rfl rfl
 have Z:∀x,mix (aM (au ["Board"] "across") (aa 0)) (aa 1) [.fr (bA P.n P.m b),.fr (.int c),x]=some (.ok (.fr (.int (b.Aq c))),[.fr (bA P.n P.m b),.fr (.int c),x]):=λx=>ah rfl rfl (bK (.inl rfl) (gf (by rw[h.bb.sh.ac];exact hc)));have w:=(h.ok.nm _).mp (QM b.dn (h.ok.Am hc));rw[Za rfl] at w;refine eZ.of (Wp.df (Wp.st s2 ?_));have G:∀t x,decide (b.Aq c<(P.n:Int))=t->aj (ay k9 (mix (aM (au ["Board"] "across") (aa 0)) (aa 1)) (aM (au ["Board"] "long") (aa 0))) [.fr (bA P.n P.m b),.fr (.int c),x]=some (.ok t,[.fr (bA P.n P.m b),.fr (.int c),x]):=λt x y=>aG (ah (Z x) rfl (jB y _));by_cases I:b.Aq c<(P.n:Int)
 .refine Wp.st (fD (G true _ (Zd I)) (oz rfl rfl (Z _) (tW (a:=nm (1,1)) (k:=b.Aq c) rfl w.1 (by simpa using I)))) (Wp.en (aV rfl rfl) ⟨?_,rfl⟩);rw[vV]
  congr 3
  refine RK λj _=>?_;unfold Sx.vl;dsimp only;by_cases e:j=(b.Aq c).toNat
  .rw[Za e,Za ⟨hc,by lia⟩,Sx.gJ λi hi=>Zb λz=>h.ok.AB hc hi Q1,Up,Hf ne]
  .rw[Zb e,Zb λz=>by lia,R5]
 .refine Wp.st (dr (G false _ (Zc I)) rfl) (Wp.en (aV rfl rfl) ⟨?_,rfl⟩);show Fl.rt (.fr (.tup _))=_
  congr 3
  refine RK λj F=>?_;have:=RJ.mp F;unfold Sx.vl;dsimp only;rw[Zb λz=>by lia,R5]
theorem Mn(h:Gd P N b)(y:N<=ts.length):eZ aZ [bA P.n P.m b,lI ts] (nS P.m b.s λk=>Sx.su N λl=>if b.Aq l=((P.n+k:Nat):Int) then ts.getD l 0 else 0):=yI h.bb y h.Qf h.Alt
end
noncomputable abbrev oB(n m:Nat)(s:Int)(g:A)(ac dn:List Int):LO:=.nob "Board" [("long",.int n),("many",.int m),("scale",.int s),("grid",g)] [("across",ac.map A.int),("down",dn.map A.int)]
theorem vJ(n m:Nat)(b:Sx.Bo):bO n m b=oB n m b.s (gI b.g) b.ac b.dn:=rfl
theorem jK{n:Nat}(h:j<n):L2.gF n (j:Int)=some j:=by unfold L2.gF;rw[Za Z4,Za Q1];rfl
abbrev gK(n m:Nat)(s:Int)(g:A)(ac dn:List Int)(a c:Nat)(x3 x4 x5:Sl):List Sl:=[.pv (oB n m s g ac dn),.fr (.int a),.fr (.int c),x3,x4,x5]
section
variable{n m N:Nat}{s:Int}{g:A}{ac dn:List Int}{a c:Nat}{x3 x4 x5:Sl}
theorem qR{s':Int}(he:e (gK n m s g ac dn a c x3 x4 x5)=some (.ok (.fr (.int s')),gK n m s g ac dn a c x3 x4 x5)):dG ["Board"] 0 "scale" e (gK n m s g ac dn a c x3 x4 x5)=some (.nx,gK n m s' g ac dn a c x3 x4 x5):=sk he rfl
theorem vb{g':A}{h:Sl}(he:e (gK n m s g ac dn a c x3 x4 x5)=some (.ok r,gK n m s g ac dn a c x3 x4 x5))(hf:bW r (gK n m s g ac dn a c x3 x4 x5)=some (g',gK n m s g ac dn a c x3 h x5)):dG ["Board"] 0 "grid" e (gK n m s g ac dn a c x3 x4 x5)=some (.nx,gK n m s g' ac dn a c x3 h x5):=sk he (by rw[hf];rfl)
theorem OG(hc:c<ac.length)(h5:np x5=true):aE 5 (pK ["Board"] 0 "across" (xV 2)) (gK n m s g ac dn a c x3 x4 x5)=some (.nx,gK n m s g ac dn a c x3 x4 (.fr (.int (ac.getD c 0)))):=by refine aW (r:=.fr (.int (ac.getD c 0))) (U:=gK n m s g ac dn a c x3 x4 x5) ?_ rfl rfl h5 rfl;show (match gL (ac.map A.int) (c:Int) with|some a=>some (RI (Rr.fr a),_)|none=>none)=_;simp only[gf hc]
theorem LJ(f:a<dn.length)(hc:c<ac.length):fH ["Board"] 0 "across" 2 (pK ["Board"] 0 "down" (xV 1)) (gK n m s g ac dn a c x3 x4 x5)=some (.nx,gK n m s g (ac.set c (dn.getD a 0)) dn a c x3 x4 x5):=by
 refine sk (x:=.fr (.int (dn.getD a 0))) (U:=gK n m s g ac dn a c x3 x4 x5) ?_ ?_
 .show (match gL (dn.map A.int) (a:Int) with|some a=>some (RI (Rr.fr a),_)|none=>none)=_;rw[gf f]
 .show (match L2.gF (ac.map A.int).length (c:Int) with|some n=>some (Fl.nx,gi _ 0 "across" ((ac.map A.int).set n _))|none=>none)=_;rw[jK (by simpa using hc)];show some (Fl.nx,[Sl.pv (LO.nob "Board" _ [("across",(ac.map A.int).set c (.int (dn.getD a 0))),("down",dn.map A.int)]),_,_,_,_,_])=_;rw[<-Ue]
theorem LI{v:Int}(f:a<dn.length):fH ["Board"] 0 "down" 1 (aa 5) (gK n m s g ac dn a c x3 x4 (.fr (.int v)))=some (.nx,gK n m s g ac (dn.set a v) a c x3 x4 (.fr (.int v))):=by show (match L2.gF (dn.map A.int).length (a:Int) with|some n=>some (Fl.nx,gi _ 0 "down" ((dn.map A.int).set n _))|none=>none)=_;rw[jK (by simpa using f)];show some (Fl.nx,[Sl.pv (LO.nob "Board" _ [("across",ac.map A.int),("down",(dn.map A.int).set a (.int v))]),_,_,_,_,_])=_;rw[<-Ue]
theorem GG{xs:List A}(f:a<xs.length)(hc:c<pr.length):vQ ["Board"] 4 1 2 0 "scale" (cE da (aa 3)) (gK n m s g ac dn a c (.fr (lI pr)) (.lv (.lst xs)) x5)=some (.nx,gK n m s g ac dn a c (.fr (lI pr)) (.lv (.lst (xs.set a (lI (pr.set c s))))) x5):=by show (match L2.gF xs.length (a:Int),L2.gF (pr.map A.int).length (c:Int) with|some n,some q=>some (Fl.nx,setAt _ 4 (.lst (xs.set n (.lst ((pr.map A.int).set q (.int s))))))|_,_=>none)=_;rw[jK f,jK (by simpa using hc)];show some (Fl.nx,[_,_,_,_,Sl.lv (.lst (xs.set a (.lst ((pr.map A.int).set c (.int s))))),_])=_;rw[<-Ue]
end
theorem EO{b:Sx.Bo}{a:Nat}:(b.g.map λrow=>lI (Sx.ka row (b.g.getD a []) c b.s)).set a (lI ((b.g.getD a []).set c b.s))=(b.raw a c).map lI:=by unfold Sx.Bo.raw;simp only[Ue,Ry];rfl
theorem t9{n m:Nat}{b:Sx.Bo}(h:Bb n m N b){a:Nat}(V:a<m)(hc:c<N):cU aI (bO n m b) [.int a,.int c] (.fr .non) (bO n m (b.turn a c)):=by
 have hm:=h.hm;have hN:=h.hN;have J:=h.sh.g;have u:=h.sh.row (show a<=m by exact Q4 ‹_›);have ne:b.s≠0:=by have:=h.pos;exact Rz ‹_›
 have Y:aE 3 (mix (aP (aO ["Board"] 0 "grid") (aM (au ["Board"] "grid") (aa 0))) (aa 1)) (gK n m b.s (gI b.g) b.ac b.dn a c .un .un .un)=some (.nx,gK n m b.s (gI b.g) b.ac b.dn a c (.fr (lI (b.g.getD a []))) .un .un):=aW (ah (bQ rfl) rfl (bK (.inl rfl) (A9 Q1))) rfl rfl rfl rfl;have mem:b.g.getD a []∈b.g:=Sx.getD_mem Q1;have P:=bJ (e:=aX eX (E5 (ag 6) (ag 3) (ag 2) (aP (aO ["Board"] 0 "scale") (aM (au ["Board"] "scale") (aa 0))))) (ts:=b.g) (k:=lI) (S:=gK n m b.s (gI b.g) b.ac b.dn a c (.fr (lI (b.g.getD a []))) .un .un) (λrow=>lI (Sx.ka row (b.g.getD a []) c b.s)) rfl Q1 λrow cx=>⟨.nw (.lst ((Sx.ka row (b.g.getD a []) c b.s).map A.int)),az (ae rfl (ae rfl (ae rfl (ae (bQ rfl) rfl)))) (jq (Gy (N:=N) (h.sh.r row cx) u Q1 Q1 ne h.bs (h.bg row cx) (h.bg _ mem)) _),rfl⟩
 have B:aE 4 (aH 1 (cJ (aP (aO ["Board"] 0 "grid") (aM (au ["Board"] "grid") (aa 0)))) (aL 6) aF (aX eX (E5 (ag 6) (ag 3) (ag 2) (aP (aO ["Board"] 0 "scale") (aM (au ["Board"] "scale") (aa 0)))))) (gK n m b.s (gI b.g) b.ac b.dn a c (.fr (lI (b.g.getD a []))) .un .un)=some (.nx,gK n m b.s (gI b.g) b.ac b.dn a c (.fr (lI (b.g.getD a []))) (.lv (.lst (b.g.map λrow=>lI (Sx.ka row (b.g.getD a []) c b.s)))) .un):=
  aW (bE (qD (bQ rfl) rfl) P) rfl rfl rfl rfl
 have q:=GG (n:=n) (m:=m) (s:=b.s) (g:=gI b.g) (ac:=b.ac) (dn:=b.dn) (a:=a) (c:=c) (x5:=.un) (xs:=b.g.map λrow=>lI (Sx.ka row (b.g.getD a []) c b.s)) (pr:=b.g.getD a []) (by rw[QU];lia) Q1;rw[EO] at q;have C:dG ["Board"] 0 "scale" (mix (aa 3) (aa 2)) (gK n m b.s (gI b.g) b.ac b.dn a c (.fr (lI (b.g.getD a []))) (.lv (.lst ((b.raw a c).map lI))) .un)=some (.nx,gK n m (b.Gq a c) (gI b.g) b.ac b.dn a c (.fr (lI (b.g.getD a []))) (.lv (.lst ((b.raw a c).map lI))) .un):=qR (ah rfl rfl (bK (.inl rfl) (gf Q1)));have E:dG ["Board"] 0 "grid" (aa 4) (gK n m (b.Gq a c) (gI b.g) b.ac b.dn a c (.fr (lI (b.g.getD a []))) (.lv (.lst ((b.raw a c).map lI))) .un)=some (.nx,gK n m (b.Gq a c) (gI (b.raw a c)) b.ac b.dn a c (.fr (lI (b.g.getD a []))) (.fr (.lst ((b.raw a c).map lI))) .un):=vb rfl rfl;have w:∀t,decide (b.Gq a c<0)=t->aj (ay k9 (aP (aO ["Board"] 0 "scale") (aM (au ["Board"] "scale") (aa 0))) (aC 0)) (gK n m (b.Gq a c) (gI (b.raw a c)) b.ac b.dn a c (.fr (lI (b.g.getD a []))) (.fr (.lst ((b.raw a c).map lI))) .un)=some (.ok t,gK n m (b.Gq a c) (gI (b.raw a c)) b.ac b.dn a c (.fr (lI (b.g.getD a []))) (.fr (.lst ((b.raw a c).map lI))) .un):=λt l=>aG (ah (bQ rfl) rfl (jB l _));have tail:∀(s:Int)(g:A)(x3 x4:Sl),Wp (ao (aE 5 (pK ["Board"] 0 "across" (xV 2))) (ao (fH ["Board"] 0 "across" 2 (pK ["Board"] 0 "down" (xV 1))) (fH ["Board"] 0 "down" 1 (aa 5)))) (gK n m s g b.ac b.dn a c x3 x4 .un) λf Z=>f=.nx/\∃U,Z=.pv (oB n m s g (b.ac.set c (b.dn.getD a 0)) (b.dn.set a (b.ac.getD c 0)))::U:=λs g x3 x4=>Wp.st (OG (by rw[h.sh.ac];exact hc) rfl) (Wp.st (LJ (by rw[h.sh.dn];exact V) (by rw[h.sh.ac];exact hc)) (Wp.en (LI (by rw[h.sh.dn];exact V)) ⟨rfl,_,rfl⟩))
 suffices ∃s o',cU aI (bO n m b) [.int a,.int c] s o'/\(s=.fr .non/\o'=bO n m (b.turn a c)) by obtain⟨s,o',v,rfl,rfl⟩:=this;exact v
 refine cU.of (Wp.df (Wp.st Y (Wp.st B (Wp.st q (Wp.st C (Wp.st E ?_))))));by_cases z:b.Gq a c<0
 .have i:dG ["Board"] 0 "scale" (aM a6 (aP (aO ["Board"] 0 "scale") (aM (au ["Board"] "scale") (aa 0)))) (gK n m (b.Gq a c) (gI (b.raw a c)) b.ac b.dn a c (.fr (lI (b.g.getD a []))) (.fr (.lst ((b.raw a c).map lI))) .un)=some (.nx,gK n m (-b.Gq a c) (gI (b.raw a c)) b.ac b.dn a c (.fr (lI (b.g.getD a []))) (.fr (.lst ((b.raw a c).map lI))) .un):=qR (eW (bQ rfl) rfl);have Q:(b.raw a c).length=m+1:=by simp[Sx.Bo.raw,J]
  have x:=bJ (e:=aX aS (cC (ag 6))) (ts:=b.raw a c) (k:=lI) (S:=gK n m (-b.Gq a c) (gI (b.raw a c)) b.ac b.dn a c (.fr (lI (b.g.getD a []))) (.fr (.lst ((b.raw a c).map lI))) .un) (λrow=>lI (Sx.fW row)) rfl Q1 λrow cx=>⟨.nw (.lst ((Sx.fW row).map A.int)),az (ae rfl rfl) (jq (Az (by have:=h.sh.raw (c:=c) (show a<=m by lia) row cx;lia)) _),rfl⟩
  have X:dG ["Board"] 0 "grid" (aH 1 (cJ (aa 4)) (aL 6) aF (aX aS (cC (ag 6)))) (gK n m (-b.Gq a c) (gI (b.raw a c)) b.ac b.dn a c (.fr (lI (b.g.getD a []))) (.fr (.lst ((b.raw a c).map lI))) .un)=some (.nx,gK n m (-b.Gq a c) (gI ((b.raw a c).map Sx.fW)) b.ac b.dn a c (.fr (lI (b.g.getD a []))) (.fr (.lst ((b.raw a c).map lI))) .un):=by refine vb (bE rfl x) ?_;unfold gI;rw[Ry];rfl
  refine Wp.st (fD (w true (Zd z)) (dD i X)) (Wp.mono (tail _ _ _ _) ?_);rintro f Z ⟨rfl,U,rfl⟩;refine⟨_,_,U,rfl,rfl,rfl,?_⟩;rw[vJ];unfold Sx.Bo.turn;simp only[Za z]
 .refine Wp.st (dr (w false (Zc z)) rfl) (Wp.mono (tail _ _ _ _) ?_);rintro f Z ⟨rfl,U,rfl⟩;refine⟨_,_,U,rfl,rfl,rfl,?_⟩;rw[vJ];unfold Sx.Bo.turn;simp only[Zb z]
theorem ye{D:Type}(f:α->D)(xs:List α)(k:Nat):(xs.map f).eraseIdx k=(xs.eraseIdx k).map f:=by simp only[RB,RB,Rq,S0,UG]
theorem Kp{xs:List A}{k:Nat}(h:k<=xs.length):gu xs none (some (k:Int))=xs.take k:=by
 have e:HT.c7 xs.length xs.length (some (k:Int))=k:=by rw[HT.uT];lia
 have I:HT.c7 xs.length 0 none=0:=rfl;unfold gu;rw[e,I,VI,WE]
theorem yL{xs:List A}{k:Nat}(h:k<=xs.length):gu xs (some (k:Int)) none=xs.drop k:=by
 have e:HT.c7 xs.length 0 (some (k:Int))=k:=by rw[HT.uT];lia
 have I:HT.c7 xs.length xs.length none=xs.length:=rfl;unfold gu;rw[e,I,VD Z4]
theorem DG{m:Mi Rr}{xs:List A}{n:Nat}(h:m Z=some (.ok (.fr (.lst xs)),Z))(hl:xs.length=n+1):bT m (aT (aM a6 (aC 1))) aB Z=some (.ok (.nw (.lst (xs.drop n))),Z):=by refine bk h (bk rfl (bk rfl ?_));show some (RI (Rr.nw (.lst (gu xs (some (-1)) none))),Z)=_;rw[IV hl]
theorem kB{xs ys:List A}(h:xs.length+ys.length<=100000)(Z:List Sl):kX aK (.nw (.lst xs)) (.nw (.lst ys)) Z=some (.ok (.nw (.lst (xs++ys))),Z):=fu (o:=none) rfl rfl (Za h)
abbrev sV(n m:Nat)(s:Int)(g:A)(ac dn:List Int)(G:Sl):List Sl:=[.pv (oB n m s g ac dn),G]
theorem Im{n m:Nat}{g:A}{ac dn:List Int}(hc:c<ac.length)(hl:ac.length<=100):c9 (sI ["Board"] 0 "across" (xV 1)) (sV n m s g ac dn (.fr (.int c)))=some (.nx,sV n m s g (ac.eraseIdx c) dn (.fr (.int c))):=by
 refine d9 (r:=.fr (.int (ac.getD c 0))) ?_;show (if (c:Int).natAbs<2^62 then (match Yw (c:Int) (ac.map A.int).length with|some n=>(match (ac.map A.int)[n]? with|some a=>some (RI (Rr.fr a),gi _ 0 "across" ((ac.map A.int).eraseIdx n))|none=>none)|none=>none) else none)=_;rw[Za Q1];have e:=(lF (jK (n:=(ac.map A.int).length) (by simpa using hc))).1;have e2:(ac.map A.int)[c]?=some (.int (ac.getD c 0)):=by simp[Rk,hc]
 rw[e];dsimp only;rw[e2];show some (_,[Sl.pv (LO.nob "Board" _ [("across",(ac.map A.int).eraseIdx c),("down",dn.map A.int)]),_])=_;rw[show (ac.map A.int).eraseIdx c=(ac.eraseIdx c).map A.int from ye _ _ _]
theorem Jj{n m:Nat}{b:Sx.Bo}(h:Bb n m N b)(u:-1∈b.ac):cU bq (bO n m b) [] (.fr .non) (bO n m (b.drop (b.ac.idxOf (-1)))):=by
 have hl:=R1 u;have hN:=h.hN;have hm:=h.hm;have Z:=h.sh.ac;generalize o:b.ac.idxOf (-1)=k at hl;have Q:aE 1 (gy ["Board"] 0 "across" (AU (S4 0))) (sV n m b.s (gI b.g) b.ac b.dn .un)=some (.nx,sV n m b.s (gI b.g) b.ac b.dn (.fr (.int k))):=by refine aW (r:=.fr (.int k)) (U:=sV n m b.s (gI b.g) b.ac b.dn .un) ?_ rfl rfl rfl rfl;show (match eO (b.ac.map A.int) with|some ns=>(match t4 ns (-1) with|some j=>some (RI (Rr.fr (.int j)),_)|none=>none)|none=>none)=_;rw[fZ];dsimp only;simp only[o9 u,o]
 have D:=bJ (e:=ay aK (bT (aa 2) aB (aT (aa 1))) (bT (aa 2) (aT (ay aK (aa 1) (aC 1))) aB)) (ts:=b.g) (k:=lI) (S:=sV n m b.s (gI b.g) (b.ac.eraseIdx k) b.dn (.fr (.int k))) (λrow=>lI (row.eraseIdx k)) rfl (by have:=h.sh.g;lia) λrow cx=>by
  have V:=h.sh.r row cx;have a1:∀x,bT (aa 2) aB (aT (aa 1)) [x,.fr (.int k),.fr (lI row)]=some (.ok (.nw (.lst ((row.map A.int).take k))),[x,.fr (.int k),.fr (lI row)]):=λx=>by show some (RI (Rr.nw (.lst (gu (row.map A.int) none (some (k:Int))))),_)=_;rw[Kp (by simp;lia)]
  have H:∀x,bT (aa 2) (aT (ay aK (aa 1) (aC 1))) aB [x,.fr (.int k),.fr (lI row)]=some (.ok (.nw (.lst ((row.map A.int).drop (k+1)))),[x,.fr (.int k),.fr (lI row)]):=λx=>by show some (RI (Rr.nw (.lst (gu (row.map A.int) (some ((k+1:Nat):Int)) none))),_)=_;rw[yL (by simp;lia)]
  refine⟨_,ah (a1 _) (H _) (kB (by simp;lia) _),?_⟩;show some (A.lst ((row.map A.int).take k++(row.map A.int).drop (k+1)),_)=_;rw[<-RB,ye]
 have Y:dG ["Board"] 0 "grid" (aH 1 (cJ (aP (aO ["Board"] 0 "grid") (aM (au ["Board"] "grid") (aa 0)))) (aL 2) aF (ay aK (bT (aa 2) aB (aT (aa 1))) (bT (aa 2) (aT (ay aK (aa 1) (aC 1))) aB))) (sV n m b.s (gI b.g) (b.ac.eraseIdx k) b.dn (.fr (.int k)))=some (.nx,sV n m b.s (gI (b.g.map λr=>r.eraseIdx k)) (b.ac.eraseIdx k) b.dn (.fr (.int k))):=by refine sk (bE (qD (bQ rfl) rfl) D) ?_;rw[show (b.g.map λrow=>lI (row.eraseIdx k))=(b.g.map λr=>r.eraseIdx k).map lI by rw[Ry];rfl];rfl
 suffices ∃s o',cU bq (bO n m b) [] s o'/\(s=.fr .non/\o'=bO n m (b.drop k)) by obtain⟨s,o',v,rfl,rfl⟩:=this;exact v
 exact cU.of (Wp.df (Wp.st Q (Wp.st (Im hl Q1) (Wp.en Y ⟨_,_,_,rfl,rfl,rfl,rfl⟩))))
theorem lQ:∀xs:List Int,Ef (xs.map A.int)=true
 |[]=>rfl
 |x::xs=>by show (pl (.int x)&&Ef (xs.map A.int))=true;rw[lQ xs];rfl
theorem qX{m:Mi Rr}(h1:oS i Z=some o)(h2:m (Z.set i (.fr o.a))=some (.ok r,Z.set i (.fr o.a)))(h3:Il i Z=true)(h4:Oj r=true):iV i m Z=some r:=by
 delta iV
 rw[h1]
 dsimp only
 rw[h2]
 exact Za ⟨rfl,h3,h4⟩
theorem vZ{cs:List Str}{f:Str}{m:Mi Rr}{xs:List A}{a:A}(h1:ownAt cs Z i f=some xs)(h2:iV i m Z=some r)(h3:bW r Z=some (a,U))(h4:rJ cs U i f a=some Z'):m9 cs i f m Z=some (.ok (.fr .non),Z'):=by
 delta m9
 rw[h1,h2]
 dsimp only
 rw[h3]
 dsimp only
 rw[h4]
def xH(N m:Nat)(b:Sx.Bo):Sx.Bo:=⟨b.ac++[-1],b.dn,(b.g.take m).map (λr=>r.take N++[-1]++r.drop N)++[(b.g.getD m []).take N++[0]++(b.g.getD m []).drop N],b.s⟩
theorem Nk{n m:Nat}{b:Sx.Bo}(h:Bb n m N b):cU bB (bO n m b) [] (.fr .non) (bO n m (xH N m b)):=by
 have hN:=h.hN;have hm:=h.hm;have c:=h.sh.ac;have J:=h.sh.g;have a:=h.sh.row (QR m);have Q:c9 (sD ["Board"] 0 "across" (AU (S4 0))) (sV n m b.s (gI b.g) b.ac b.dn .un)=some (.nx,sV n m b.s (gI b.g) (b.ac++[-1]) b.dn .un):=by refine d9 (r:=.fr .non) ?_;show (if (b.ac.map A.int).length<=100000 then some (RI (Rr.fr .non),[Sl.pv (LO.nob "Board" _ [("across",b.ac.map A.int++[.int (-1)]),("down",b.dn.map A.int)]),_]) else none)=_;rw[Za (by simp;lia)];unfold sV oB;rw[Rq];rfl
 have T:aE 1 (mix (aP (aO ["Board"] 0 "grid") (aM (au ["Board"] "grid") (aa 0))) (aM a6 (aC 1))) (sV n m b.s (gI b.g) (b.ac++[-1]) b.dn .un)=some (.nx,sV n m b.s (gI b.g) (b.ac++[-1]) b.dn (.fr (lI (b.g.getD m [])))):=aW (ah (bQ rfl) rfl (bK (.inl rfl) (u4 J))) rfl rfl rfl rfl;have cut:∀{i:Nat}{row:List Int}{Z:List Sl}{m:Mi Rr}{v:Int},row.length=N+1->aa i Z=some (.ok (.fr (lI row)),Z)->m Z=some (.ok (.fr (.int v)),Z)->ay aK (ay aK (bT (aa i) aB (aT (aM a6 (aC 1)))) (dj (cC m))) (bT (aa i) (aT (aM a6 (aC 1))) aB) Z=some (.ok (.nw (.lst ((row.take N++[v]++row.drop N).map A.int))),Z):=λ{i row Z m v} hl t hm=>by have:=ah (ah (iE t (n:=N) (by simpa using hl)) (gE (show cC m Z=some (.ok [.fr (.int v)],Z) from ae hm rfl) rfl) (kB (ys:=[.int v]) (by simp;lia) _)) (DG t (n:=N) (by simpa using hl)) (kB (by simp;lia) _);rw[<-S0,<-UG,show [A.int v]=[v].map A.int from rfl,<-Rq,<-Rq] at this;exact this
 have D:=bJ (e:=ay aK (ay aK (bT (aa 2) aB (aT (aM a6 (aC 1)))) (dj (cC (aM a6 (aC 1))))) (bT (aa 2) (aT (aM a6 (aC 1))) aB)) (ts:=b.g.take m) (k:=lI) (S:=sV n m b.s (gI b.g) (b.ac++[-1]) b.dn (.fr (lI (b.g.getD m [])))) (λr=>lI (r.take N++[-1]++r.drop N)) rfl (by simp;lia) λrow cx=>⟨_,cut (i:=2) (m:=aM a6 (aC 1)) (v:=-1) (h.sh.r row (Sw cx)) rfl rfl,rfl⟩
 have Y:iQ ["Board"] 0 "grid" (aH 1 (cJ (bT (aP (aO ["Board"] 0 "grid") (aM (au ["Board"] "grid") (aa 0))) aB (aT (aM a6 (aC 1))))) (aL 2) aF (ay aK (ay aK (bT (aa 2) aB (aT (aM a6 (aC 1)))) (dj (cC (aM a6 (aC 1))))) (bT (aa 2) (aT (aM a6 (aC 1))) aB))) (sV n m b.s (gI b.g) (b.ac++[-1]) b.dn (.fr (lI (b.g.getD m []))))=some (.nx,[.pv (.nob "Board" [("long",.int n),("many",.int m),("scale",.int b.s)] [("across",(b.ac++[-1]).map A.int),("down",b.dn.map A.int),("grid",(b.g.take m).map λr=>lI (r.take N++[-1]++r.drop N))]),.fr (lI (b.g.getD m []))]):=by refine sk (bE (qD (iE (bQ rfl) (n:=m) (by simpa using J)) (as:=(b.g.take m).map lI) ?_) D) rfl;rw[<-S0];rfl
 suffices ∃s o',cU bB (bO n m b) [] s o'/\(s=.fr .non/\o'=bO n m (xH N m b)) by obtain⟨s,o',v,rfl,rfl⟩:=this;exact v
 refine cU.of (Wp.df (Wp.st Q (Wp.st T (Wp.st Y (Wp.en (f:=.nx) (U:=[.pv (.nob "Board" [("long",.int n),("many",.int m),("scale",.int b.s),("grid",.lst ((b.g.take m).map (λr=>lI (r.take N++[-1]++r.drop N))++[lI ((b.g.getD m []).take N++[0]++(b.g.getD m []).drop N)]))] [("across",(b.ac++[-1]).map A.int),("down",b.dn.map A.int)]),.fr (lI (b.g.getD m []))]) (d9 (r:=.fr .non) ?_) ⟨_,_,_,rfl,rfl,rfl,?_⟩)))))
 .have lv:iV 0 (ay aK (ay aK (bT (aa 1) aB (aT (aM a6 (aC 1)))) (dj (cC (aC 0)))) (bT (aa 1) (aT (aM a6 (aC 1))) aB)) [.pv (.nob "Board" [("long",.int n),("many",.int m),("scale",.int b.s)] [("across",(b.ac++[-1]).map A.int),("down",b.dn.map A.int),("grid",(b.g.take m).map λr=>lI (r.take N++[-1]++r.drop N))]),.fr (lI (b.g.getD m []))]=some (.nw (.lst (((b.g.getD m []).take N++[0]++(b.g.getD m []).drop N).map A.int))):=by exact qX rfl (cut (i:=1) (m:=aC 0) (v:=0) a rfl rfl) rfl (lQ _)
  refine vZ rfl lv rfl ?_;show (if ((b.g.take m).map λr=>lI (r.take N++[-1]++r.drop N)).length<=100000 then _ else none)=_;rw[Za (by simp;lia)];rfl
 .rw[vJ];unfold xH;dsimp only;have:gI ((b.g.take m).map (λr=>r.take N++[-1]++r.drop N)++[(b.g.getD m []).take N++[0]++(b.g.getD m []).drop N])=.lst ((b.g.take m).map (λr=>lI (r.take N++[-1]++r.drop N))++[lI ((b.g.getD m []).take N++[0]++(b.g.getD m []).drop N)]):=by unfold gI;rw[Rq,Ry];rfl
  rw[this]
variable{ns:List Int}
theorem xA(h:0<ns.length):qK ns∈ns/\∀j,j<ns.length->qK ns<=ns.getD j 0:=by obtain⟨h1,h2⟩:=argBest_lt (λi=>ns.getD i 0) (ns.length-1);exact⟨cw Q1,λj F=>h2 j Q1⟩
theorem xu(h:0<ns.length):ur ns∈ns/\∀j,j<ns.length->ns.getD j 0<=ur ns:=by obtain⟨h1,h2⟩:=argBest_gt (λi=>ns.getD i 0) (ns.length-1);exact⟨cw Q1,λj F=>h2 j Q1⟩
theorem Al{t:Mi Bool}{ts:List T}(b l g:T->A)(c:T->Bool)(hi:S.length=i)(hl:ts.length<=100000)
  (h:∀x∈ts,t (S++[.fr (b x),.fr (l x)])=some (.ok (c x),S++[.fr (b x),.fr (l x)])/\∃r,e (S++[.fr (b x),.fr (l x)])=some (.ok r,S++[.fr (b x),.fr (l x)])/\bW r (S++[.fr (b x),.fr (l x)])=some (g x,S++[.fr (b x),.fr (l x)])):
  gG 2 (G2 i (i+1)) t e (ts.map λt=>.tup [b t,l t]) S=some (.ok (.nw (.lst ((ts.filter c).map g))),S):=by
 obtain⟨ys,O,h1,x,y,rfl,_,_,rfl⟩:=dU (G:=G2 i (i+1)) (as:=ts.map λt=>.tup [b t,l t])
  (λj acc Z=>X2 λ(x y:Sl)=>N4 (Z=S++[x,y]) (np x=true) (np y=true) (acc=((ts.take j).filter c).map g)) ⟨.un,.un,rfl,rfl,rfl,rfl⟩ (by
   rintro j q acc Z R ⟨x,y,rfl,hx,hy,rfl⟩;rw[Rt] at R;cases a:ts[j]? with
   |none=>rw[a] at R;cases R
   |some p=>
    rw[a] at R;cases R;obtain⟨s,r,X,D⟩:=h p (RD a);refine⟨_,nX hi hx hy,?_⟩;rw[S6,a,V6];cases f:c p with
    |true=>rw[f] at s;exact .inl ⟨_,r,_,g p,_,s,X,D,_,_,rfl,rfl,rfl,by simp[f]⟩
    | false=>rw[f] at s;exact .inr ⟨_,s,_,_,rfl,rfl,rfl,by simp[f]⟩)
 unfold gG;rw[Za (by rw[QU];exact hl)];have e1:S++QZ 2 Sl.un=S++[.un,.un]:=rfl;rw[e1,h1];simp
theorem rZ:∀(xs:List Int)(i:Nat),iL i (xs.map A.int)=(Q8 xs.length).map λj=>A.tup [.int ((i+j:Nat):Int),.int (xs.getD j 0)]
 |[],_=>rfl
 |x::xs,i=>by
  simp only[RC,iL,rZ xs (i+1),QX,Uc,RC,Ry]
  congr 1
  refine RK λj _=>?_;rw[show i+1+j=i+(j+1) by lia];rfl
theorem Jc{ls:List Int}(h:0<ls.length)(hl:ls.length<=100):∃a:Nat,Val dO [lI ls] (.int a)/\a<ls.length/\(∀i,i<ls.length->ls.getD a 0<=ls.getD i 0)/\∀i,i<ls.length->a<i->ls.getD a 0<ls.getD i 0:=by
 obtain⟨K,L⟩:=xA h;generalize O:qK ls=w at K L;have b:=Al (e:=aa 2) (t:=aj (ay gw (aa 3) (aa 1))) (ts:=Q8 ls.length) (S:=[.fr (lI ls),.fr (.int w)]) (λj=>.int j) (λj=>.int (ls.getD j 0)) (λj=>.int j) (λj=>decide (ls.getD j 0=w)) rfl (by simp;exact qw) λj q=>⟨aG (ah rfl rfl (iD rfl _)),_,rfl,rfl⟩
 have Z:∀i,i∈(Q8 ls.length).filter (λj=>decide (ls.getD j 0=w))↔i<ls.length/\ls.getD i 0=w:=λi=>by rw[Ug,RJ,decide_eq_true_eq]
 have ex:∃i,i<ls.length/\ls.getD i 0=w:=by obtain⟨i,hi,e⟩:=R6 K;exact⟨i,hi,by simp[Rk,hi,e]⟩
 generalize B:(Q8 ls.length).filter (λj=>decide (ls.getD j 0=w))=F at b Z;have ne:0<(F.map Ti).length:=by obtain⟨i,hi⟩:=ex;rw[QU];exact List.length_pos_of_mem ((Z i).mpr hi)
 obtain⟨G,Q⟩:=xu ne;obtain⟨a,f,J⟩:=Rx.mp G;have u:=(Z a).mp f;have c:∀i,i<ls.length->ls.getD i 0=w->i<=a:=λi h1 h2=>by
  obtain⟨p,hp,e⟩:=R6 ((Z i).mpr ⟨h1,h2⟩);have:=Q p (by rw[QU];exact hp);rw[Sx.getD_map hp,<-J] at this;rw[show F.getD p 0=i by simp[Rk,hp,e]] at this;have:(i:Int)<=(a:Int):=this
  lia
 refine⟨a,Val.of (Wp.df (Wp.st (aW (eW rfl (mj (r:=.fr (.int w)) rfl ?_)) rfl rfl rfl rfl) (Wp.en (aV (eW (bE ?_ b) (mj (r:=.fr (.int a)) rfl ?_)) rfl) rfl))),u.1,λi hi=>by rw[u.2];exact L i hi,λi hi x=>?_⟩
 .unfold qU;dsimp only;rw[fZ];dsimp only;rw[Zb (by intro z;rw[z] at h;exact absurd h Z2),O]
 .show some (RI (iL 0 (ls.map A.int)),_)=_;rw[rZ]
  congr 3
  refine RK λj _=>?_;rw[Uo]
 .have e:F.map (λ(j:Nat)=>A.int (j:Int))=(F.map Ti).map A.int:=by rw[Ry];rfl
  rw[e];unfold rn;dsimp only;rw[fZ];dsimp only;rw[Zb (by intro z;rw[z] at ne;exact absurd ne Z2),<-J];rfl
 .rw[u.2];have:=L i hi;by_cases e:ls.getD i 0=w
  .have:=c i hi e;lia
  .lia
noncomputable def bD(c:List Int)(R:List (List Int))(L:List Int):Sx.Pb:=⟨c.length,R.length,λj=>c.getD j 0,λi j=>(R.getD i []).getD j 0,λi=>L.getD i 0⟩
theorem mH{α:Type}{f:Int->α}:∀xs:List Int,(Q8 xs.length).map (λj=>f (xs.getD j 0))=xs.map f
 |[]=>rfl
 |x::xs=>by simp only[QX,Uc,RC,Ry,RC,<-mH xs];rfl
theorem NA{c:List Int}(f:kR c R L):(Sx.fO (bD c R L)).g.map lI=((R.zip L).map λp=>lI (p.1++[p.2]))++[lI (c.map (λx=>-x)++[0])]:=by
 delta Sx.fO bD
 simp only[Rq,mH]
 congr 1
 refine U1 (by simp[f.l]) λi h1 h2=>?_
 have hi:i<R.length:=by simpa using h1
 have h:i<L.length:=by rw[f.l];exact hi
 simp only[Wr,UK,List.getElem_zip]
 have e1:R.getD i []=R[i]:=by simp[Rk,hi]
 have e2:L.getD i 0=L[i]:=by simp[Rk,h]
 have N:=f.r R[i] (List.getElem_mem hi)
 simp only[e1,e2,<-N,mH (f:=λx=>x),WU]
theorem Oh{cn:Str}{as:List A}{Y:List Sl}(h:f (.pv (.obj cn [])::as.map Sl.fr)=some (.rt (.fr .non),.pv o::Y))(Z:List Sl):vT cn f [] (as.map Rr.fr) Z=some (.ok (.nw o),Z):=by unfold vT;rw[Tu,RT,jC];simp only[pU,h];have:=jz Z as (aA (as.map Sl.fr).length Y) Z (by rw[cS,QU]);rw[this]
theorem Ik{m:Mi Rr}{n:Nat}(h:m Z=some (.ok (.fr (.int n)),Z))(hn:n<=100):lV m Z=some (.ok (.nw (.lst (bS 0 n))),Z):=by refine bk h ?_;show (if F3 0 (n:Int)=true then some (RI (Rr.nw (.lst (bS 0 ((n:Int)-0).toNat))),Z) else none)=_;rw[Za (show F3 0 (n:Int)=true from Zd Q1),show ((n:Int)-0).toNat=n by rfl]
theorem Ic(h:ma Z=some (.ok (.fr (.int i)),Z))(k:mb Z=some (.ok (.fr (.int j)),Z))(hi:i<=100)(F:j<=100):mT ma mb Z=some (.ok (.nw (.lst (bS i (j-i)))),Z):=by refine bk h (bk k ?_);show (if F3 (i:Int) (j:Int)=true then some (RI (Rr.nw (.lst (bS i ((j:Int)-i).toNat))),Z) else none)=_;rw[Za (show F3 (i:Int) (j:Int)=true from Zd Q1),show ((j:Int)-i).toNat=j-i by lia]
theorem yG{c:List Int}(f:kR c R L)(Z:List Sl):vT "Board" dE [] [.fr (lI c),.fr (gI R),.fr (lI L)] Z=some (.ok (.nw (bO c.length R.length (Sx.fO (bD c R L)))),Z):=by
 have hn:=f.n;have hm:=f.m
 suffices ∃Y,dE (.pv (.obj "Board" [])::[lI c,gI R,lI L].map Sl.fr)=some (.rt (.fr .non),.pv (bO c.length R.length (Sx.fO (bD c R L)))::Y) by obtain⟨Y,e⟩:=this;exact Oh (as:=[lI c,gI R,lI L]) e Z
 have go:Wp dE (.pv (.obj "Board" [])::[lI c,gI R,lI L].map Sl.fr) λg Z=>g=.rt (.fr .non)/\∃Y,Z=.pv (bO c.length R.length (Sx.fO (bD c R L)))::Y:=by
  have y:dG ["Board"] 0 "long" (cE dy (aa 1)) [.pv (.obj "Board" []),.fr (lI c),.fr (gI R),.fr (lI L)]=some (.nx,[.pv (.obj "Board" [("long",.int c.length)]),.fr (lI c),.fr (gI R),.fr (lI L)]):=by refine sk (x:=.fr (.int c.length)) (U:=[.pv (.obj "Board" []),.fr (lI c),.fr (gI R),.fr (lI L)]) ?_ rfl;show some (RI (Rr.fr (.int (c.map A.int).length)),_)=_;rw[QU]
  have T:dG ["Board"] 0 "many" (cE dy (aa 2)) [.pv (.obj "Board" [("long",.int c.length)]),.fr (lI c),.fr (gI R),.fr (lI L)]=some (.nx,[.pv (.obj "Board" [("long",.int c.length),("many",.int R.length)]),.fr (lI c),.fr (gI R),.fr (lI L)]):=by refine sk (x:=.fr (.int R.length)) (U:=[.pv (.obj "Board" [("long",.int c.length)]),.fr (lI c),.fr (gI R),.fr (lI L)]) ?_ rfl;show some (RI (Rr.fr (.int (R.map lI).length)),_)=_;rw[QU]
  have B:iQ ["Board"] 0 "across" (lV (aP (aO ["Board"] 0 "long") (aM (au ["Board"] "long") (aa 0)))) [.pv (.obj "Board" [("long",.int c.length),("many",.int R.length),("scale",.int 1)]),.fr (lI c),.fr (gI R),.fr (lI L)]=some (.nx,[.pv (.nob "Board" [("long",.int c.length),("many",.int R.length),("scale",.int 1)] [("across",bS 0 c.length)]),.fr (lI c),.fr (gI R),.fr (lI L)]):=sk (Ik (lu rfl rfl) Q1) rfl;have q:iQ ["Board"] 0 "down" (mT (aP (aO ["Board"] 0 "long") (aM (au ["Board"] "long") (aa 0))) (ay aK (aP (aO ["Board"] 0 "long") (aM (au ["Board"] "long") (aa 0))) (aP (aO ["Board"] 0 "many") (aM (au ["Board"] "many") (aa 0))))) [.pv (.nob "Board" [("long",.int c.length),("many",.int R.length),("scale",.int 1)] [("across",bS 0 c.length)]),.fr (lI c),.fr (gI R),.fr (lI L)]=some (.nx,[.pv (.nob "Board" [("long",.int c.length),("many",.int R.length),("scale",.int 1)] [("across",bS 0 c.length),("down",bS c.length R.length)]),.fr (lI c),.fr (gI R),.fr (lI L)]):=by have:=Ic (Z:=[.pv (.nob "Board" [("long",.int c.length),("many",.int R.length),("scale",.int 1)] [("across",bS 0 c.length)]),.fr (lI c),.fr (gI R),.fr (lI L)]) (i:=c.length) (j:=c.length+R.length) (ma:=aP (aO ["Board"] 0 "long") (aM (au ["Board"] "long") (aa 0))) (mb:=ay aK (aP (aO ["Board"] 0 "long") (aM (au ["Board"] "long") (aa 0))) (aP (aO ["Board"] 0 "many") (aM (au ["Board"] "many") (aa 0)))) (bQ rfl) (ah (bQ rfl) (bQ rfl) rfl) Q1 Q1;rw[show c.length+R.length-c.length=R.length by lia] at this;exact sk this rfl
  have t:=kc (i:=4) (e:=ay aK (cE da (aa 4)) (dj (cC (aa 5)))) (ts:=R.zip L) (S:=[.pv (.nob "Board" [("long",.int c.length),("many",.int R.length),("scale",.int 1)] [("across",bS 0 c.length),("down",bS c.length R.length)]),.fr (lI c),.fr (gI R),.fr (lI L)]) (λp=>lI p.1) (λp=>.int p.2) (λp=>lI (p.1++[p.2])) rfl (by simp;lia) λp hp=>by have V:=f.r p.1 (Ss hp).1;refine⟨_,ah (eW rfl (mj (r:=.nw (.lst (p.1.map A.int))) rfl rfl)) (gE (rs:=[.fr (.int p.2)]) rfl rfl) (kB (by simp;lia) _),?_⟩;show some (A.lst (p.1.map A.int++[.int p.2]),_)=_;unfold lI;rw[Rq];rfl
  have C:iQ ["Board"] 0 "grid" (aH 2 (gN (aa 2) (aa 3)) (G2 4 5) aF (ay aK (cE da (aa 4)) (dj (cC (aa 5))))) [.pv (.nob "Board" [("long",.int c.length),("many",.int R.length),("scale",.int 1)] [("across",bS 0 c.length),("down",bS c.length R.length)]),.fr (lI c),.fr (gI R),.fr (lI L)]=some (.nx,[.pv (.nob "Board" [("long",.int c.length),("many",.int R.length),("scale",.int 1)] [("across",bS 0 c.length),("down",bS c.length R.length),("grid",(R.zip L).map λp=>lI (p.1++[p.2]))]),.fr (lI c),.fr (gI R),.fr (lI L)]):=by refine sk (bE (as:=(R.zip L).map λp=>A.tup [lI p.1,.int p.2]) ?_ t) rfl;rw[<-eE];rfl
  refine Wp.df (Wp.st y (Wp.st T (Wp.st rfl (Wp.st B (Wp.st q (Wp.st C (Wp.en (f:=.nx) (U:=[.pv (.nob "Board" [("long",.int c.length),("many",.int R.length),("scale",.int 1),("grid",.lst (((R.zip L).map λp=>lI (p.1++[p.2]))++[lI (c.map (λx=>-x)++[0])]))] [("across",bS 0 c.length),("down",bS c.length R.length)]),.fr (lI c),.fr (gI R),.fr (lI L)]) (d9 (r:=.fr .non) ?_) ⟨rfl,[.fr (lI c),.fr (gI R),.fr (lI L)],?_⟩)))))))
  .have Q:=bJ (e:=aM a6 (aa 4)) (ts:=c) (k:=A.int) (S:=[.fr (.obj "Board" [("long",.int c.length),("many",.int R.length),("scale",.int 1),("across",.lst (bS 0 c.length)),("down",.lst (bS c.length R.length)),("grid",.lst ((R.zip L).map λp=>lI (p.1++[p.2])))]),.fr (lI c),.fr (gI R),.fr (lI L)]) (λx=>.int (-x)) rfl Q1 λx _=>⟨_,rfl,rfl⟩
   rw[show (c.map λx=>A.int (-x))=(c.map λx=>-x).map A.int by rw[Ry];rfl] at Q;have I:(c.map (λx=>-x)++[0]).map A.int=(c.map λx=>-x).map A.int++[A.int 0]:=by rw[Rq];rfl
   have lv:iV 0 (ay aK (aH 1 (cJ (aa 1)) (aL 4) aF (aM a6 (aa 4))) (dj (cC (aC 0)))) [.pv (.nob "Board" [("long",.int c.length),("many",.int R.length),("scale",.int 1)] [("across",bS 0 c.length),("down",bS c.length R.length),("grid",(R.zip L).map λp=>lI (p.1++[p.2]))]),.fr (lI c),.fr (gI R),.fr (lI L)]=some (.nw (.lst ((c.map (λx=>-x)++[0]).map A.int))):=by have h:=lQ (c.map (λx=>-x)++[0]);rw[I] at h ⊢;exact qX rfl (ah (bE rfl Q) (gE (rs:=[.fr (.int 0)]) rfl rfl) (kB (by simp;lia) _)) rfl h
   refine vZ rfl lv rfl ?_;show (if ((R.zip L).map λp=>lI (p.1++[p.2])).length<=100000 then _ else none)=_;rw[Za (by simp;lia)];rfl
  .rw[vJ];unfold gI;rw[NA f];have G:bS 0 c.length=(Sx.fO (bD c R L)).ac.map A.int:=by show _=((Q8 c.length).map Ti).map A.int;unfold bS;rw[Ry];exact RK λi _=>by show A.int (0+(i:Int))=A.int (i:Int);rw[Up]
   have o:bS c.length R.length=(Sx.fO (bD c R L)).dn.map A.int:=by show _=((Q8 R.length).map λi=>((c.length+i:Nat):Int)).map A.int;unfold bS;rw[Ry];rfl
   rw[G,o];rfl
 obtain⟨g,Z,e,rfl,Y,rfl⟩:=go;exact⟨Y,e⟩
theorem jg{t:Mi Bool}{b:Ms}(P:Nat->List Sl->Prop)(Q:Fl->List Sl->Prop)(hs:∀k Z,P k Z->(∃U,t Z=some (.ok false,U)/\Q .nx U)\/∃U,t Z=some (.ok true,U)/\Wp b U λf Z'=>(f=.nx/\∃v,v<k/\P v Z')\/X2 λ(s:Sl)(_:Unit)=>f=.rt s/\Q (.rt s) Z'):∀n k Z,P k Z->k<n->∃f O,dI t b n Z=some (f,O)/\Q f O
 |0,_,_,_,h=>absurd h (RZ _)
 |n+1,k,Z,p,h=>by
  rcases hs k Z p with ⟨U,e,q⟩|⟨U,e,f,Z',e2,z⟩
  .exact⟨.nx,U,by unfold dI;rw[e],q⟩
  .rcases z with ⟨rfl,v,hk,C⟩|⟨s,_,rfl,q⟩
   .obtain⟨f,O,N,q⟩:=jg P Q hs n v Z' C Q1;exact⟨f,O,by unfold dI;rw[e];dsimp only;rw[e2];exact N,q⟩
   .exact⟨.rt s,Z',by unfold dI;rw[e];dsimp only;rw[e2],q⟩
theorem q9{s:Sl}(A:rs.all Fi=true)(h:cU f o (rs.map vA) s o')(u:pM s=some r)(hl:aD Z i=some o):fL f [] (.rf i::rs) Z=some (.ok r,setAt Z i o'):=by
 simp only[<-cH h u hl];have O:((rs.map vA).map Rr.fr).all Fi=true:=by simp only[US];simp[Fi]
 have e:∀Z,cA (.rf i::rs) Z=cA (.rf i::(rs.map vA).map Rr.fr) Z:=λZ=>by
  unfold cA;cases take1 (.rf i) Z with
  |none=>rfl
  |some p=>dsimp only;rw[pD _ _ A,pD _ _ O];rw[show ((rs.map vA).map Rr.fr).map vA=rs.map vA by rw[Ry];exact WU _]
 have e2:∀S ss Z,putL S (.rf i::rs) ss Z=putL S (.rf i::(rs.map vA).map Rr.fr) ss Z:=λS ss Z=>by
  cases ss with
  |nil=>rfl
  |cons s ss=>
   unfold putL;have key:∀(rs ts:List Rr)(ss:List Sl),rs.length=ts.length->rs.all Fi=true->ts.all Fi=true->putL S rs ss Z=putL S ts ss Z:=by
    intro rs;induction rs with
    |nil=>intro ts ss hl _ _;cases ts with
     |nil=>rfl
     |cons t ts=>cases hl
    |cons r rs m=>intro ts ss hl h1 h2;cases ts with
     |nil=>cases hl
     |cons t ts=>
      simp only[Rg,QI] at h1 h2;cases ss with
      |nil=>rfl
      |cons s ss=>
       unfold putL;rw[m ts ss (Wg hl) h1.2 h2.2];cases putL S ts ss Z with
       |none=>rfl
       |some U=>
        cases r with
        |rf i=>cases h1.1
        |fr a=>cases t with
         |rf i=>cases h2.1
         |fr a=>rfl
         |nw a=>rfl
        |nw a=>cases t with
         |rf i=>cases h2.1
         |fr a=>rfl
         |nw a=>rfl
   rw[key rs ((rs.map vA).map Rr.fr) ss Z4 A O]
 unfold fL;simp only[Tu,RT,e,e2]
theorem iz:∀(n:Nat){Z:List Sl},Z.all np=true->aA n Z=QZ n .un
 |0,_,_=>rfl
 |n+1,[],_=>by rw[aA,iz n rfl];rfl
 |n+1,s::Z,h=>by
  simp only[Rg,QI] at h;cases s with
  |pv o=>cases h.1
  |un=>rw[aA,iz n h.2];rfl;intro o z;cases z
  |fr a=>rw[aA,iz n h.2];rfl;intro o z;cases z
  |lv a=>rw[aA,iz n h.2];rfl;intro o z;cases z
  |cf a=>rw[aA,iz n h.2];rfl;intro o z;cases z
theorem EB(n:Nat):(QZ n Sl.un).all ya=true:=by rw[R9];intro x hx;rw[TY hx];rfl
theorem mQ{c:Str}{fs:List (Str×A)}{ls:List (Str×List A)}{as:List A}{a:A}(h:eZ f ((LO.nob c fs ls).a::as) a)(hp:pl a=true):cU (bH 0 f) (.nob c fs ls) as (.fr a) (.nob c fs ls):=by
 obtain⟨Z,h1,h2⟩:=h;refine⟨(QZ as.length .un),?_⟩;show (match f (.fr (LO.nob c fs ls).a::as.map Sl.fr) with
  |some (.rt s,U)=>if AL (aA (as.map Sl.fr).length.succ U)[0]?&&(s::aA (as.map Sl.fr).length.succ U).all ya then some (Fl.rt s,(aA (as.map Sl.fr).length.succ U).set 0 (.pv (.nob c fs ls))) else none
  |some (.ex x,U)=>_
  | _=>none)=_
 rw[show f (.fr (LO.nob c fs ls).a::as.map Sl.fr)=some (.rt (.fr a),Z) from h1];dsimp only;rw[iz _ h2,QU];have e:(AL (QZ as.length.succ Sl.un)[0]?&&(Sl.fr a::QZ as.length.succ Sl.un).all ya)=true:=by rw[QI,Rg,EB];exact⟨rfl,by rw[SY];exact hp⟩
 rw[Za e];rfl
theorem A8{c:Str}{fs:List (Str×A)}{ls:List (Str×List A)}{as:List A}{s:Sl}(h:cU f (.nob c fs ls) as s o):cU f (.nob c fs ls) as s o:=h
theorem yE{I:List A}{ms:Mi (List Rr)}(h:ms Z=some (.ok rs,U))(c:fL f I rs U=none):ba f I ms Z=none:=bk h c
theorem yB(n:Nat)(s:Int)(v:Nat->Int):pl (nS n s v)=true:=by
 show Ef ((Q8 n).map λj=>nm (dz (v j) s))=true;generalize Q8 n=l;induction l with
 |nil=>rfl
 |cons x l m=>show (pl (nm (dz (v x) s))&&Ef _)=true;rw[m];rfl
theorem Hq:∀n,n<=6->Sx.Er (n+2)*(10^13)^(n+2)<2^400:=by decide +kernel
section
variable{c:List Int}{R:List (List Int)}{L:List Int}(fF:kR c R L){N:Nat}{b:Sx.Bo}
include fF
theorem MP:(bD c R L).Le (10^13):=⟨by decide,λj F=>fF.bc _ (cw F),λi j hi F=>by have m:=Sx.getD_mem hi;exact fF.br _ m _ (cw (by rw[fF.r _ m];exact F)),λi hi=>fF.bl _ (cw (by rw[fF.l];exact hi))⟩
theorem sy(h:Sx.Ok (bD c R L) N b):Gd (bD c R L) N b:=by
 have hN:N=c.length\/N=c.length+1:=h.hN;have hn:=fF.n;have hm:=fF.m;have Z:=Hq c.length hn;refine⟨h,h.sh,by lia,Rn hn Z2,hm,λr a x hx=>?_,RS (h.OW (MP fF)) Z,h.pos⟩;obtain⟨i,hi,rfl⟩:=R6 a;obtain⟨l,hl,rfl⟩:=R6 hx;have z:i<=R.length:=by have:=h.sh.g;show i<=(bD c R L).m;lia
 have X:l<=N:=by have:=h.sh.r _ a;lia
 have e:b.Gq i l=b.g[i][l]:=by simp[Sx.Bo.Gq,Rk,hi,hl]
 have:=h.Pm (MP fF) z X;simp only[e] at this;exact RS this Z
end
theorem zd{P:Sx.Pb}{b:Sx.Bo}(h:Gd P N b)(hc:c<=N)(u:Int):L2.Bd 900 (Sx.vl P b c u):=by
 have hm:=h.bb.hm;have z:L2.Bd 400 (0:Int):=To Z2;have h1:L2.Bd 410 (Sx.su P.m λi=>if b.Bq i=u then Sx.qs P.n c*b.Gq i c else 0):=BA (λi hi=>by
  by_cases e:b.Bq i=u
  .rw[Za e];have:=h.bb.gb (i:=i) (by exact Q4 ‹_›) hc;unfold Sx.qs;split
   .rw[Sd];exact this.neg
   .rw[R0];exact this
  .rw[Zb e];exact z) Z5
 refine(L2.Bd.add h1 (?_:L2.Bd 400 _)).mono (show max 410 400+1<=900 by decide);split
 .exact h.bb.bs
 .exact z
theorem F6{P:Sx.Pb}{b:Sx.Bo}(h:Gd P N b){r:Nat}(a:r<=P.m)(u:Int):L2.Bd 900 (Sx.Fc N b r u):=by
 have hN:=h.bb.hN;refine L2.Bd.mono (BA (b:=400) (λl hl=>?_) Z5) Z2;by_cases e:b.Aq l=u
 .rw[Za e];exact h.bb.gb a (by exact Q4 ‹_›)
 .rw[Zb e];exact To Z2
theorem m7:∀k,(Sx.allB k).length=2^k
 |0=>rfl
 |k+1=>by show ((Sx.allB k).map _++(Sx.allB k).map _).length=_;simp only[Q7,QU,QU,m7 k,W6];lia
theorem GH{P:Sx.Pb}(hn:P.n<=9)(hm:P.m<=9)(K:Sx.Bo->Prop)(ob:Sx.Bo->Nat->Int)(b:Sx.Bo):Sx.ms P K ob b<Af:=by refine RS VL ?_;rw[m7];exact Nat.pow_lt_pow_right Z2 Q1
abbrev Kd(n m:Nat)(b:Sx.Bo)(G J x3:Sl):List Sl:=[.pv (bO n m b),G,J,x3]
abbrev AZ:Mi Rr:=aP (aO ["Board"] 0 "grid") (aM (au ["Board"] "grid") (aa 0))
abbrev P0:Mi Rr:=aP (aO ["Board"] 0 "scale") (aM (au ["Board"] "scale") (aa 0))
abbrev NR:Mi Rr:=aP (aX bG (cC (aQ "Board" "point" 0))) (aP (ba (bH 0 bG) [] (cC (aQ "Board" "point" 0))) (aX bG (cC (bP "Board" "point" (aa 0)))))
abbrev L4(e:Mi Rr):Mi Rr:=aP (aX aZ (cq (aQ "Board" "prices" 0) e)) (aP (ba (bH 0 aZ) [] (cq (aQ "Board" "prices" 0) e)) (aX aZ (cq (bP "Board" "prices" (aa 0)) e)))
abbrev PZ:Mi Rr:=aP (aX cX (cq (aQ "Board" "way" 0) (ag 1))) (aP (ba (bH 0 cX) [] (cq (aQ "Board" "way" 0) (ag 1))) (aX cX (cq (bP "Board" "way" (aa 0)) (ag 1))))
section
variable{P:Sx.Pb}{N:Nat}{b:Sx.Bo}{xs:List Sl}
theorem GX(n m:Nat):AZ (.pv (bO n m b)::xs)=some (.ok (.fr (gI b.g)),.pv (bO n m b)::xs):=bQ rfl
theorem pE{n m:Nat}(h:Bb n m N b):mix AZ (aM a6 (aC 1)) (.pv (bO n m b)::xs)=some (.ok (.fr (lI (b.g.getD m []))),.pv (bO n m b)::xs):=ah (GX n m) rfl (bK (.inl rfl) (u4 h.sh.g))
theorem Od(h:Gd P P.n b):NR (.pv (bO P.n P.m b)::xs)=some (.ok (.fr (nS P.n b.s λj=>Sx.vl P b P.n j)),.pv (bO P.n P.m b)::xs):=
 lu rfl (bQ (az rfl (cH (mQ (as:=[]) (CW h) (yB _ _ _)) rfl rfl)))
theorem Ov(h:Gd P P.n b)(hc:c<P.n){ys:List Sl}:PZ (.pv (bO P.n P.m b)::.fr (.int c)::ys)=some (.ok (.fr (nS P.n b.s λj=>Sx.vl P b c j)),.pv (bO P.n P.m b)::.fr (.int c)::ys):=
 lu rfl (bQ (az rfl (cH (mQ (as:=[.int c]) (LU h hc) (yB _ _ _)) rfl rfl)))
theorem MK(h:Gd P N b)(y:N<=ts.length)(he:e (.pv (bO P.n P.m b)::xs)=some (.ok r,.pv (bO P.n P.m b)::xs))(u:Fi r=true)(A:vA r=lI ts):L4 e (.pv (bO P.n P.m b)::xs)=some (.ok (.fr (nS P.m b.s λk=>Sx.su N λl=>if b.Aq l=((P.n+k:Nat):Int) then ts.getD l 0 else 0)),.pv (bO P.n P.m b)::xs):=by
 have O:cU (bH 0 aZ) (bO P.n P.m b) [lI ts] (.fr (nS P.m b.s λk=>Sx.su N λl=>if b.Aq l=((P.n+k:Nat):Int) then ts.getD l 0 else 0)) (bO P.n P.m b):=mQ (Mn h y) (yB _ _ _);have hc:=q9 (i:=0) (Z:=.pv (bO P.n P.m b)::xs) (by simp only[Rg,u];rfl) (show cU _ _ ([r].map vA) _ _ by rw[RC,A];exact O) rfl rfl;refine lu (yE (ae rfl (ae he rfl)) ?_) (bQ (az (ae rfl (ae he rfl)) hc));cases r with
 |rf i=>cases u
 |fr a=>rfl
 |nw o=>rfl
end
theorem vU{n m:Nat}{b:Sx.Bo}(h:Bb n m N b)(J:gs.length<=N)(bg:∀x∈gs,L2.Bd 400 x){xs:List Sl}(he:e (.pv (bO n m b)::xs)=some (.ok r,.pv (bO n m b)::xs))(a:Fi r=true)(A:vA r=lI gs):
  ∃f,ba (bH 0 bN) [] (cq (aa 0) e) (.pv (bO n m b)::xs)=some (.ok (.fr f),.pv (bO n m b)::xs)/\((f=.non/\∀j,j<gs.length->gs.getD j 0<=0)\/∃k:Nat,f=.int k/\k<gs.length/\0<gs.getD k 0):=by
 obtain⟨f,v,z⟩:=G5 h J bg;have hp:pl f=true:=by rcases z with ⟨rfl,_⟩|⟨k,rfl,_⟩<;>rfl
 have O:cU (bH 0 bN) (bO n m b) [lI gs] (.fr f) (bO n m b):=A8 (mQ (as:=[lI gs]) v hp);exact⟨f,az (rs:=[.rf 0,r]) (ae rfl (ae he rfl)) (q9 (rs:=[r]) (by rw[Rg,a];rfl) (show cU _ _ ([r].map vA) _ _ by rw[RC,A];exact O) rfl rfl),z⟩
theorem vw{P:Sx.Pb}{b:Sx.Bo}(h:Gd P N b)(hc:c<N){xs:List Sl}(F:(.pv (bO P.n P.m b)::xs)[j]?=some (.fr (.int c))):
  ∃f:Option Nat,ba (bH 0 bh) [] (cq (aa 0) (ag j)) (.pv (bO P.n P.m b)::xs)=some (.ok (.fr (oA f)),.pv (bO P.n P.m b)::xs)/\Sx.pf P N b c P.m f:=by
 obtain⟨f,v,z⟩:=wL h hc;have hp:pl (oA f)=true:=by cases f<;>rfl
 have O:cU (bH 0 bh) (bO P.n P.m b) [.int c] (.fr (oA f)) (bO P.n P.m b):=A8 (mQ v hp);exact⟨f,az (ae rfl (ae (CJ F) rfl)) (cH (as:=[.int c]) O rfl rfl),z⟩
theorem Ab{r:List Int}(h:j<r.length):(Sx.fW r).getD j 0 =-r.getD j 0:=Sx.getD_map h
theorem zw{r:List Int}{k:Nat}(h:j<k):(r.take k).getD j 0=r.getD j 0:=by simp[Rk,h]
abbrev NP:Ms:=ao (aE 1 (ba (bH 0 bN) [] (cq (aa 0) (aX aS (cC (dS (bT (mix AZ (aM a6 (aC 1))) aB (aT (aM a6 (aC 1)))))))))) (ao (i7 (aj (ay (qx false) (aa 1) (mC .non))) (ao (aE 2 (aX cL (cq (mix (mix AZ (aM a6 (aC 1))) (aM a6 (aC 1))) P0))) (bZ (eJ (E5 (mC (.str "best")) (aa 2) NR (L4 (mix AZ (aM a6 (aC 1)))))))) cy) (ao (aE 3 (ba (bH 0 bh) [] (cq (aa 0) (ag 1)))) (ao (i7 (aj (ay (qx false) (aa 3) (mC .non))) (bZ (eJ (eQ (mC (.str "open")) NR PZ))) cy) (c9 (aP (aX aI (eQ (aQ "Board" "turn" 0) (ag 3) (ag 1))) (aP (ba (bH 0 aI) [] (eQ (aQ "Board" "turn" 0) (ag 3) (ag 1))) (aX aI (eQ (bP "Board" "turn" (aa 0)) (ag 3) (ag 1)))))))))
variable{x1 x2 x3:Sl}
section
variable{c:List Int}{R:List (List Int)}{L:List Int}(fF:kR c R L)
include fF
theorem EH{b:Sx.Bo}(K:Sx.K2 (bD c R L) b)(h1:np x1=true)(h2:np x2=true)(h3:np x3=true):Wp NP (Kd c.length R.length b x1 x2 x3) λg Z=>
  (g=.nx/\∃I x1 x2 x3,Z=Kd c.length R.length I x1 x2 x3/\(np x1=true/\np x2=true/\np x3=true)/\Sx.K2 (bD c R L) I/\Sx.ms (bD c R L) (Sx.K2 (bD c R L)) (Sx.MT (bD c R L)) I<Sx.ms (bD c R L) (Sx.K2 (bD c R L)) (Sx.MT (bD c R L)) b) \/
  ∃t I xs,g=.rt (.fr t)/\Told c R L t/\Z=.pv (bO c.length R.length I)::xs:=by
 have ok:=K.1;have gd:=sy fF ok;have bb:Bb c.length R.length c.length b:=gd.bb;have hn:=fF.n;have h:(b.g.getD R.length []).length=c.length+1:=bb.sh.row (QR _);have gs:∀xs:List Sl,aX aS (cC (dS (bT (mix AZ (aM a6 (aC 1))) aB (aT (aM a6 (aC 1)))))) (.pv (bO c.length R.length b)::xs)=some (.ok (.nw (.lst ((Sx.fW ((b.g.getD R.length []).take c.length)).map A.int))),.pv (bO c.length R.length b)::xs):=λxs=>by refine az (rs:=[.fr (lI ((b.g.getD R.length []).take c.length))]) (ae (gH (iE (pE bb) (n:=c.length) (by simpa using h)) ?_) rfl) (jq (Az (by rw[RN,h];lia)) _);rw[<-S0];rfl
 have gl:(Sx.fW ((b.g.getD R.length []).take c.length)).length=c.length:=by simp only[Sx.fW,QU,RN,h];simp
 have e:∀j,j<c.length->(Sx.fW ((b.g.getD R.length []).take c.length)).getD j 0 =-b.Gq R.length j:=λj F=>by rw[Ab (by rw[RN,h];lia),zw F];rfl
 obtain⟨v,E,B⟩:=vU bb (gs:=Sx.fW ((b.g.getD R.length []).take c.length)) Q1 (λx hx=>by obtain⟨y,hy,rfl⟩:=Rx.mp hx;exact(bb.bg _ (Sx.getD_mem (by rw[bb.sh.g];lia)) y (Sw hy)).neg) (gs [x1,x2,x3]) rfl rfl
 refine Wp.st (aW E rfl rfl h1 rfl) ?_;rw[gl] at B;have ne:b.s≠0:=by have:=bb.pos;lia
 have D:L2.Bd 900 b.s:=bb.bs.mono Z2;have kp:=ok.keeps K.2;have z:∀xs:List Sl,NR (.pv (bO c.length R.length b)::xs)=some (.ok (.fr (nS c.length b.s λj=>Sx.vl (bD c R L) b c.length j)),.pv (bO c.length R.length b)::xs):=λxs=>Od (P:=bD c R L) gd;have r:∀xs:List Sl,L4 (mix AZ (aM a6 (aC 1))) (.pv (bO c.length R.length b)::xs)=some (.ok (.fr (nS R.length b.s λk=>Sx.Fc c.length b R.length ((c.length+k:Nat):Int))),.pv (bO c.length R.length b)::xs):=λxs=>MK (P:=bD c R L) gd (ts:=b.g.getD R.length []) (by rw[h];show c.length<=_;lia) (pE bb) rfl rfl;rcases B with ⟨rfl,B⟩|⟨k,rfl,hk,B⟩
 .obtain⟨T,X,w,p⟩:=Sx.Bx ok λl hl=>by have hl:l<c.length:=hl;have:=B l hl;rw[e l hl] at this;show 0<=b.Gq R.length l;lia
  have s2:∀x2,np x2=true->aE 2 (aX cL (cq (mix (mix AZ (aM a6 (aC 1))) (aM a6 (aC 1))) P0)) (Kd c.length R.length b (.fr .non) x2 x3)=some (.nx,Kd c.length R.length b (.fr .non) (.fr (nm (dz (b.Gq R.length c.length) b.s))) x3):=λx2 h2=>aW (az (ae (ah (pE bb) rfl (bK (.inl rfl) (lH h))) (ae (bQ rfl) rfl)) (bj (Ap ne (bb.bs.mono Z2)) _)) rfl rfl h2 rfl
  refine Wp.sr (fD rfl (dD (s2 _ h2) (aV (fv (ae rfl (ae rfl (ae (z _) (ae (r _) rfl)))) rfl) rfl))) (.inr ⟨_,b,_,rfl,?_,rfl⟩);refine Told.best bb.pos D (λj F=>zd gd (QR _) _) (λk hk=>F6 gd (QR _) _) ((bb.gb (QR _) (QR _)).mono Z2) kp.nn (λk _=>X k) (λi hi=>by rw[Ri];exact kp.le i hi) (λj F=>?_) T ?_
  .rw[Ri];refine Tx (w j F) (Ur (Sx.aU λk _=>Ri _ _))
  .exact WT (Sx.aU λk _=>Ri _ _) p
 .rw[e k hk] at B;obtain⟨q,N,d⟩:=vw gd (c:=k) hk (xs:=[.fr (.int k),x2,x3]) (j:=1) rfl;refine Wp.st (dr rfl rfl) (Wp.st (aW N rfl rfl h3 rfl) ?_);cases q with
  |none=>obtain⟨u,o2⟩:=Sx.Bk ok hk (show b.Gq R.length k<0 by lia) d;refine Wp.sr (fD rfl (aV (fv (ae rfl (ae (z _) (ae (Ov (P:=bD c R L) gd hk) rfl))) rfl) rfl)) (.inr ⟨_,b,_,rfl,?_,rfl⟩);exact Told.opn bb.pos D (λj F=>zd gd (QR _) _) (λj F=>zd gd (Q4 hk) _) kp.nn u.nn (λi hi=>by rw[Ri];exact kp.le i hi) (λi hi=>by have:=u.le i hi;rwa[show ({ bD c R L with L:=λ_=>0 }:Sx.Pb).L i=0 from rfl,Rm] at this) o2
  |some a=>obtain⟨f,hp,hl⟩:=d;obtain⟨C,lt⟩:=Sx.Hy K f hk hp (show b.Gq R.length k<0 by lia) hl;have H:=cH (i:=0) (Z:=Kd c.length R.length b (.fr (.int k)) x2 (.fr (.int a))) (t9 bb (a:=a) (c:=k) f hk) rfl rfl;refine Wp.st (dr rfl rfl) (Wp.en (d9 (bQ (az (rs:=[.rf 0,.fr (.int a),.fr (.int k)]) rfl H))) (.inl ⟨rfl,b.turn a k,.fr (.int k),x2,.fr (.int a),rfl,⟨rfl,h2,rfl⟩,C,lt⟩))
theorem wK{b:Sx.Bo}(K:Sx.K2 (bD c R L) b):∃t I,cU ir (bO c.length R.length b) [] (.fr t) (bO c.length R.length I)/\Told c R L t:=by
 suffices ∃s o',cU ir (bO c.length R.length b) [] s o'/\∃t I,s=.fr t/\o'=bO c.length R.length I/\Told c R L t by obtain⟨s,o',v,t,I,rfl,rfl,h⟩:=this;exact⟨t,I,v,h⟩
 obtain⟨g,O,e,t,I,xs,rfl,l,rfl⟩:=jg (t:=aj (mC (.bl true)))
  (λk Z=>∃I x1 x2 x3,Z=Kd c.length R.length I x1 x2 x3/\(np x1=true/\np x2=true/\np x3=true)/\Sx.K2 (bD c R L) I/\k=Sx.ms (bD c R L) (Sx.K2 (bD c R L)) (Sx.MT (bD c R L)) I)
  (λg Z=>∃t I xs,g=.rt (.fr t)/\Told c R L t/\Z=.pv (bO c.length R.length I)::xs) (by
   rintro k Z ⟨b1,x1,x2,x3,rfl,⟨h1,h2,h3⟩,K1,rfl⟩;refine .inr ⟨_,rfl,Wp.mono (EH fF K1 h1 h2 h3) ?_⟩;rintro g Z' (⟨rfl,b2,x,H,z,rfl,hy,K2,lt⟩|⟨t,b2,ys,rfl,l,rfl⟩)
   .exact .inl ⟨rfl,_,lt,b2,x,H,z,rfl,hy,K2,rfl⟩
   .exact .inr ⟨_,(),rfl,t,b2,ys,rfl,l,rfl⟩) Af _ (Kd c.length R.length b .un .un .un) ⟨b,_,_,_,rfl,⟨rfl,rfl,rfl⟩,K,rfl⟩ (GH (Rn fF.n Z2) fF.m _ _ _)
 exact cU.of (Wp.df (Wp.en (sC e) ⟨_,_,xs,rfl,rfl,t,I,rfl,rfl,l⟩))
end
theorem Ad(P:Sx.Pb):xH P.n P.m (Sx.fO P)=Sx.cg P:=by
 delta xH Sx.fO Sx.cg
 have Q:((Q8 P.m).map λi=>((Q8 P.n).map λj=>P.R i j)++[P.L i]).length=P.m:=by simp
 congr 1
 rw[S2 Q,Sx.cT Z4,Q,Td,Ry]
 congr 1
 .refine RK λi _=>?_
  show XA P.n (_++_)++[-1]++Wi P.n (_++_)=_
  rw[S2 Z4,Wy Z4,QN];rfl
 .show [XA P.n (_++_)++[0]++Wi P.n (_++_)]=_
  rw[S2 Z4,Wy Z4,QN];rfl
abbrev nM(n m:Nat)(b:Sx.Bo)(x1 x2:Sl):List Sl:=[.pv (bO n m b),x1,x2]
abbrev Pn:Mi Bool:=aj (wZ false ["Board"] 0 "down" (AU (S4 0)))
theorem Lw{n m:Nat}{b:Sx.Bo}{t:Bool}(l:decide (-1∈b.dn)=t)(xs:List Sl):Pn (.pv (bO n m b)::xs)=some (.ok t,.pv (bO n m b)::xs):=by
 refine aG ?_;have h1:(fJ (.int (-1))&&(b.dn.map A.int).all fJ)=true:=by rw[US];simp[fJ]
 have e:=rF (-1) b.dn;unfold Gv at e;rw[Za h1,l] at e;refine WT (Za h1) ?_;exact Ze (λo:Option Rr=>o.map λq=>(RI q,Sl.pv (bO n m b)::xs)) e
abbrev P4:Mi Rr:=gy ["Board"] 0 "down" (AU (S4 0))
theorem Pe{n m:Nat}{b:Sx.Bo}(h:-1∈b.dn)(xs:List Sl):P4 (.pv (bO n m b)::xs)=some (.ok (.fr (.int (Sx.cx b))),.pv (bO n m b)::xs):=by show (match eO (b.dn.map A.int) with|some ns=>(match t4 ns (-1) with|some j=>some (RI (Rr.fr (.int j)),_)|none=>none)|none=>none)=_;rw[fZ];dsimp only;rw[o9 h];rfl
abbrev OI:Ms:=ao (aE 1 (mix AZ P4)) (ao (aE 2 (ba (bH 0 bN) [] (cq (aa 0) (dS (bT (aa 1) aB (aT (aM a6 (aC 1)))))))) (ao (i7 (aj (ay (qx false) (aa 2) (mC .non))) (bZ (L4 (aX aS (cC (ag 1))))) cy) (c9 (aP (aX aI (eQ (aQ "Board" "turn" 0) (ba (bH 0 bh) [] (cq (aa 0) (ag 2))) (ag 2))) (aP (ba (bH 0 aI) [] (eQ (aQ "Board" "turn" 0) (ba (bH 0 bh) [] (cq (aa 0) (ag 2))) (ag 2))) (aX aI (eQ (bP "Board" "turn" (aa 0)) (ba (bH 0 bh) [] (cq (aa 0) (ag 2))) (ag 2))))))))
def Kf(P:Sx.Pb)(b:Sx.Bo):Prop:=Sx.Ok P (P.n+1) b/\Sx.Lp P (P.n+1) b
section
variable{c:List Int}{R:List (List Int)}{L:List Int}(fF:kR c R L)
include fF
theorem EL{b:Sx.Bo}(K:Sx.K1 (bD c R L) b)(h1:np x1=true)(h2:np x2=true):Wp OI (nM c.length R.length b x1 x2) λg Z=>
  (g=.nx/\∃I x1 x2,Z=nM c.length R.length I x1 x2/\(np x1=true/\np x2=true)/\((Sx.K1 (bD c R L) I/\Sx.ms (bD c R L) (Sx.K1 (bD c R L)) (Sx.GO (bD c R L)) I<Sx.ms (bD c R L) (Sx.K1 (bD c R L)) (Sx.GO (bD c R L)) b)\/(Kf (bD c R L) I /\ -1∉I.dn))) \/
  ∃a I xs,g=.rt (.fr a)/\Told c R L (.tup [.str "none",a])/\a≠.non/\Z=.pv (bO c.length R.length I)::xs:=by
 have ok:=K.1;have gd:=sy fF ok;have bb:Bb c.length R.length (c.length+1) b:=gd.bb;have hn:=fF.n;have hl:Sx.cx b<R.length:=Sx.iA K;have X:=Sx.i9 K;have h:(b.g.getD (Sx.cx b) []).length=c.length+1+1:=bb.sh.row (Q4 hl);refine Wp.st (U:=nM c.length R.length b (.fr (lI (b.g.getD (Sx.cx b) []))) x2) (aW (ah (GX _ _) (Pe K.2.2 _) (bK (.inl rfl) (A9 (by rw[bb.sh.g];lia)))) rfl rfl h1 rfl) ?_;have gl:((b.g.getD (Sx.cx b) []).take (c.length+1)).length=c.length+1:=by simp only[RN,h];simp
 have C:dS (bT (aa 1) aB (aT (aM a6 (aC 1)))) (.pv (bO c.length R.length b)::[.fr (lI (b.g.getD (Sx.cx b) [])),x2])=some (.ok (.fr (lI ((b.g.getD (Sx.cx b) []).take (c.length+1)))),.pv (bO c.length R.length b)::[.fr (lI (b.g.getD (Sx.cx b) [])),x2]):=by refine gH (iE rfl (n:=c.length+1) (by simpa using h)) ?_;rw[<-S0];rfl
 obtain⟨v,y,t⟩:=vU bb (gs:=(b.g.getD (Sx.cx b) []).take (c.length+1)) Q1 (λx hx=>bb.bg _ (Sx.getD_mem (by rw[bb.sh.g];lia)) x (Sw hx)) C rfl rfl;rw[gl] at t;have p:∀j,j<c.length+1->((b.g.getD (Sx.cx b) []).take (c.length+1)).getD j 0=b.Gq (Sx.cx b) j:=λj F=>by rw[zw F];rfl
 refine Wp.st (aW y rfl rfl h2 rfl) ?_;rcases t with ⟨rfl,t⟩|⟨k,rfl,hk,t⟩
 .obtain⟨T,H,Q⟩:=Sx.yA ok K.2.1 (r:=Sx.cx b) hl X λl B=>by have:=t l B;rwa[p l B] at this
  have en:aX aS (cC (ag 1)) (.pv (bO c.length R.length b)::[.fr (lI (b.g.getD (Sx.cx b) [])),.fr .non])=some (.ok (.nw (.lst ((Sx.fW (b.g.getD (Sx.cx b) [])).map A.int))),.pv (bO c.length R.length b)::[.fr (lI (b.g.getD (Sx.cx b) [])),.fr .non]):=az (rs:=[.fr (lI (b.g.getD (Sx.cx b) []))]) rfl (jq (Az Q1) _);have q:L4 (aX aS (cC (ag 1))) (.pv (bO c.length R.length b)::[.fr (lI (b.g.getD (Sx.cx b) [])),.fr .non])=some (.ok (.fr (nS R.length b.s λk=>Sx.su (c.length+1) λl=>if b.Aq l=((c.length+k:Nat):Int) then (Sx.fW (b.g.getD (Sx.cx b) [])).getD l 0 else 0)),.pv (bO c.length R.length b)::[.fr (lI (b.g.getD (Sx.cx b) [])),.fr .non]):=MK (P:=bD c R L) gd (ts:=Sx.fW (b.g.getD (Sx.cx b) [])) (by show c.length+1<=_;rw[Sx.fW,QU,h];lia) en rfl rfl;have eq:∀k:Nat,(Sx.su (c.length+1) λl=>if b.Aq l=((c.length+k:Nat):Int) then (Sx.fW (b.g.getD (Sx.cx b) [])).getD l 0 else 0) =-Sx.Fc (c.length+1) b (Sx.cx b) ((c.length+k:Nat):Int):=λk=>by
   unfold Sx.Fc;rw[<-Sd,<-Sx.cN];refine Sx.aU λl hl=>?_;rw[Ab Q1];split
   .rw[Sd];rfl
   .rfl
  simp only[eq] at q;refine Wp.sr (fD rfl (aV q rfl)) (.inr ⟨_,b,_,rfl,?_,(λz=>nomatch z),rfl⟩);refine Told.non bb.pos (bb.bs.mono Z2) (λk hk=>(F6 gd (Q4 hl) _).neg) (λk _=>T k) (λj F=>?_) ?_
  .exact Tx (H j F) (Ur (Sx.aU λk _=>Ri _ _))
  .exact Int.lt_of_le_of_lt (Ur (Sx.aU λk _=>Ri _ _)) Q
 .rw[p k hk] at t;obtain⟨Y,N,d⟩:=vw gd (c:=k) hk (xs:=[.fr (lI (b.g.getD (Sx.cx b) [])),.fr (.int k)]) (j:=2) rfl;cases Y with
  |none=>have:=d (Sx.cx b) hl;lia
  |some a=>
   obtain⟨f,hp,w⟩:=d;have D:=cH (i:=0) (Z:=nM c.length R.length b (.fr (lI (b.g.getD (Sx.cx b) []))) (.fr (.int k))) (t9 bb (a:=a) (c:=k) f hk) rfl rfl;refine Wp.st (dr rfl rfl) (Wp.en (d9 (bQ (az (rs:=[.rf 0,.fr (.int a),.fr (.int k)]) (ae rfl (ae N rfl)) D))) (.inl ⟨rfl,b.turn a k,_,_,rfl,⟨rfl,rfl⟩,?_⟩));by_cases e:a=Sx.cx b
   .refine .inr ⟨⟨ok.turn f hk Q1,Sx.Lp.turn ok K.2.1 f hk hp w⟩,λz=>?_⟩;have E:=ok.turn f hk (show b.Gq a k≠0 by lia);have m:-1∈(b.turn a k).ac:=by
     have O:(b.turn a k).Aq k = -1:=by rw[Sx.Bo.qf ok.sh hk];unfold Sx.qz;rw[Za rfl,e,X]
     rw[<-O];exact E.Am hk
    exact(QV.mp E.nd).2.2 _ m _ z rfl
   .obtain⟨o,_,lt⟩:=Sx.IC K f e hk hp t w;exact .inl ⟨o,lt⟩
end
abbrev Px(a c:Mi Rr):Mi Rr:=aP (aX aI (eQ (aQ "Board" "turn" 0) a c)) (aP (ba (bH 0 aI) [] (eQ (aQ "Board" "turn" 0) a c)) (aX aI (eQ (bP "Board" "turn" (aa 0)) a c)))
abbrev NS(f:Ms)(n:Str):Ms:=c9 (aP (aX f (cC (aQ "Board" n 0))) (aP (ba (bH 0 f) [] (cC (aQ "Board" n 0))) (aX f (cC (bP "Board" n (aa 0))))))
abbrev Py:Mi Rr:=aX dO (cC (dS (aH 1 (cJ (bT AZ aB (aT (aM a6 (aC 1))))) (aL 3) aF (mix (aa 3) (aM a6 (aC 1))))))
theorem MN:dN=cG 2 (ao (NS bB "put_helper") (ao (c9 (Px Py (ay fE (jR ["Board"] 0 "across") (aC 1)))) (ao (gS Af Pn OI) (ao (NS bq "drop_helper") (bZ (mC .non)))))):=rfl
section
variable{c:List Int}{R:List (List Int)}{L:List Int}(fF:kR c R L)
include fF
theorem GQ(G:∃i,i<R.length/\L.getD i 0<0):∃s I,cU dN (bO c.length R.length (Sx.fO (bD c R L))) [] (.fr s) (bO c.length R.length I)/\((s=.non/\Sx.K2 (bD c R L) I)\/(s≠.non/\Told c R L (.tup [.str "none",s]))):=by
 have hn:=fF.n;have hm:=fF.m;have T:=sy fF (Sx.yW (bD c R L));have F:=sy fF (Sx.qk (bD c R L));have E:Bb c.length R.length (c.length+1) (Sx.cg (bD c R L)):=F.bb;have J:NS bB "put_helper" (nM c.length R.length (Sx.fO (bD c R L)) .un .un)=some (.nx,nM c.length R.length (Sx.cg (bD c R L)) .un .un):=by have e:=cH (as:=[]) (i:=0) (Z:=nM c.length R.length (Sx.fO (bD c R L)) .un .un) (Nk (n:=c.length) (m:=R.length) (N:=c.length) T.bb) rfl rfl;have u:=Ad (bD c R L);have e2:xH c.length R.length (Sx.fO (bD c R L))=Sx.cg (bD c R L):=u;rw[e2] at e;exact d9 (bQ (az (rs:=[.rf 0]) rfl e))
 have eG:∀i,i<R.length->(Sx.cg (bD c R L)).Gq i (c.length+1)=L.getD i 0:=λi hi=>by have:=Sx.ig (P:=bD c R L) (i:=i) (l:=c.length+1) (Q4 hi) (QR _);rw[Za (show i<(bD c R L).m from hi),Zb (show ¬ c.length+1<(bD c R L).n by show ¬ c.length+1<c.length;simp),Zb (show c.length+1≠(bD c R L).n by show c.length+1≠c.length;lia)] at this;exact this
 obtain⟨C,X,H⟩:=G;have hg:=E.sh.g;have ll:((((Sx.cg (bD c R L)).g.take R.length).map λ(r:List Int)=>r.getD (c.length+1) 0)).length=R.length:=by rw[QU,RN];lia
 obtain⟨a,va,f,j,w⟩:=Jc (ls:=((Sx.cg (bD c R L)).g.take R.length).map λ(r:List Int)=>r.getD (c.length+1) 0) Q1 Q1;rw[ll] at f j w;have lv:∀i,i<R.length->((((Sx.cg (bD c R L)).g.take R.length).map λ(r:List Int)=>r.getD (c.length+1) 0)).getD i 0=L.getD i 0:=λi hi=>by
  rw[Sx.getD_map (d:=[]) (by rw[RN];lia),<-eG i hi];unfold Sx.Bo.Gq
  congr 1
  simp only[Rk,TU hi]
 have ex:=bJ (e:=mix (aa 3) (aM a6 (aC 1))) (ts:=(Sx.cg (bD c R L)).g.take R.length) (k:=lI) (S:=nM c.length R.length (Sx.cg (bD c R L)) .un .un) (λr=>.int (r.getD (c.length+1) 0)) rfl (by rw[RN];lia) λr hr=>⟨_,ah rfl rfl (bK (.inl rfl) (lH (E.sh.r r (Sw hr)))),rfl⟩
 have ef:dS (aH 1 (cJ (bT AZ aB (aT (aM a6 (aC 1))))) (aL 3) aF (mix (aa 3) (aM a6 (aC 1)))) (nM c.length R.length (Sx.cg (bD c R L)) .un .un)=some (.ok (.fr (lI (((Sx.cg (bD c R L)).g.take R.length).map λ(r:List Int)=>r.getD (c.length+1) 0))),nM c.length R.length (Sx.cg (bD c R L)) .un .un):=by
  refine gH (bE (qD (iE (GX _ _) (n:=R.length) (by simpa using hg)) (as:=((Sx.cg (bD c R L)).g.take R.length).map lI) ?_) ex) ?_
  .rw[<-S0];rfl
  .unfold lI;rw[Ry];rfl
 have e2:ay fE (jR ["Board"] 0 "across") (aC 1) (nM c.length R.length (Sx.cg (bD c R L)) .un .un)=some (.ok (.fr (.int c.length)),nM c.length R.length (Sx.cg (bD c R L)) .un .un):=by
  refine ah (x:=.fr (.int (((Sx.cg (bD c R L)).ac.map A.int).length:Nat))) (y:=.fr (.int 1)) rfl rfl (fu (o:=none) rfl rfl ?_);show some (Rr.fr (.int ((((Sx.cg (bD c R L)).ac.map A.int).length:Int)-1)))=_;rw[QU,E.sh.ac]
  congr 3;lia
 have et:=cH (i:=0) (Z:=nM c.length R.length (Sx.cg (bD c R L)) .un .un) (t9 E (a:=a) (c:=c.length) f Q1) rfl rfl;have l2:c9 (Px Py (ay fE (jR ["Board"] 0 "across") (aC 1))) (nM c.length R.length (Sx.cg (bD c R L)) .un .un)=some (.nx,nM c.length R.length ((Sx.cg (bD c R L)).turn a c.length) .un .un):=
  d9 (bQ (az (rs:=[.rf 0,.fr (.int a),.fr (.int c.length)]) (ae rfl (ae (az (ae ef rfl) (bj va _)) (ae e2 rfl))) et))
 have p:L.getD a 0<0:=by have:=j C X;rw[lv a f,lv C X] at this;lia
 obtain⟨q,B⟩:=Sx.xj (P:=bD c R L) (a:=a) f p (λi hi=>by have:=j i hi;rwa[lv a f,lv i hi] at this) (λi hi h=>by have:=w i hi h;rwa[lv a f,lv i hi] at this);have m1:-1∈((Sx.cg (bD c R L)).turn a c.length).dn:=by
  have eB:((Sx.cg (bD c R L)).turn a c.length).Bq a = -1:=by rw[Sx.Bo.mS (Sx.qk (bD c R L)).sh f];unfold Sx.qz;rw[Za rfl,Sx.qt (show c.length<(bD c R L).n+1 from Ru _),Zb (show ¬ c.length<(bD c R L).n from Rf _)]
  rw[<-eB];exact q.Bm f
 suffices ∃s o',cU dN (bO c.length R.length (Sx.fO (bD c R L))) [] s o'/\∃t I,s=.fr t/\o'=bO c.length R.length I/\((t=.non/\Sx.K2 (bD c R L) I)\/(t≠.non/\Told c R L (.tup [.str "none",t]))) by obtain⟨s,o',v,t,I,rfl,rfl,z⟩:=this;exact⟨t,I,v,z⟩
 rw[MN];refine cU.of (Wp.df (Wp.st J (Wp.st l2 ?_)));obtain⟨g,O,e,z⟩:=jg (t:=Pn) (b:=OI)
  (λk Z=>∃I x1 x2,Z=nM c.length R.length I x1 x2/\(np x1=true/\np x2=true)/\((Sx.K1 (bD c R L) I/\k=Sx.ms (bD c R L) (Sx.K1 (bD c R L)) (Sx.GO (bD c R L)) I+1)\/(Kf (bD c R L) I /\ -1∉I.dn/\k=0)))
  (λg Z=>(g=.nx/\∃I x1 x2,Z=nM c.length R.length I x1 x2/\Kf (bD c R L) I /\ -1∉I.dn)\/∃a I xs,g=.rt (.fr a)/\Told c R L (.tup [.str "none",a])/\a≠.non/\Z=.pv (bO c.length R.length I)::xs) (by
   rintro k Z ⟨b1,x1,x2,rfl,⟨h1,h2⟩,z⟩;rcases z with ⟨K,rfl⟩|⟨K,nm,rfl⟩
   .refine .inr ⟨_,Lw (Zd K.2.2) _,Wp.mono (EL fF K h1 h2) ?_⟩;rintro g Z' (⟨rfl,b2,Q,Y,rfl,hy,z⟩|z)
    .rcases z with ⟨K2,lt⟩|⟨K2,nm⟩
     .exact .inl ⟨rfl,_,Nat.succ_lt_succ lt,b2,Q,Y,rfl,hy,.inl ⟨K2,rfl⟩⟩
     .exact .inl ⟨rfl,0,Uq _,b2,Q,Y,rfl,hy,.inr ⟨K2,nm,rfl⟩⟩
    .obtain⟨a,b2,ys,rfl,z⟩:=z;exact .inr ⟨_,(),rfl,.inr ⟨a,b2,ys,rfl,z⟩⟩
   .exact .inl ⟨_,Lw (Zc nm) _,.inl ⟨rfl,b1,x1,x2,rfl,K,nm⟩⟩) Af _ (nM c.length R.length ((Sx.cg (bD c R L)).turn a c.length) .un .un) ⟨_,_,_,rfl,⟨rfl,rfl⟩,.inl ⟨⟨q,B,m1⟩,rfl⟩⟩ (by refine tu ?_;unfold Sx.ms;refine RS (Ua VL) ?_;rw[m7];refine RS (Ua (SN Z2 (show (bD c R L).n+(bD c R L).m+1<=19 by show c.length+R.length+1<=19;lia))) ?_;decide +kernel)
 rcases z with ⟨rfl,b2,x1,x2,rfl,K,nm⟩|⟨t,b2,xs,rfl,ht,U,rfl⟩
 .have ok:=K.1;have gd:=sy fF ok;have V:-1∈b2.ac:=by
   have:=(ok.nm (-1)).mpr (by rw[Zb (show (bD c R L).n+1≠(bD c R L).n by lia)];lia);rcases QO.mp this with z|z
   .exact z
   .exact absurd z nm
  have hl:=R1 V;have D:b2.Aq (b2.ac.idxOf (-1)) = -1:=by simp only[Sx.Bo.Aq,Rk,Rb hl,Te];exact UJ hl
  rw[ok.sh.ac] at hl;have bb:Bb c.length R.length (c.length+1) b2:=gd.bb;have ed:=cH (as:=[]) (i:=0) (Z:=nM c.length R.length b2 x1 x2) (Jj bb V) rfl rfl;have l5:NS bq "drop_helper" (nM c.length R.length b2 x1 x2)=some (.nx,nM c.length R.length (b2.drop (b2.ac.idxOf (-1))) x1 x2):=d9 (bQ (az (rs:=[.rf 0]) rfl ed));exact Wp.st (sC e) (Wp.st l5 (Wp.en (aV rfl rfl) ⟨_,_,[x1,x2],rfl,rfl,.non,b2.drop (b2.ac.idxOf (-1)),rfl,rfl,.inl ⟨rfl,Sx.Ea ok hl D,Sx.Ds ok K.2 hl D⟩⟩))
 .exact Wp.sr (sC e) ⟨_,_,xs,rfl,rfl,t,b2,rfl,rfl,.inr ⟨U,ht⟩⟩
end
theorem oh:∀bs:List Bool,il (bs.map A.bl)=some bs
 |[]=>rfl
 |b::bs=>by simp only[RC,il,oh bs]
theorem Fn(ts:List T)(p:T->Bool):kP (λbs=>VO bs id) (.lst (ts.map λx=>.bl (p x)))=some (.fr (.bl (ts.any p))):=by
 have e:(ts.map λx=>A.bl (p x))=(ts.map p).map A.bl:=by rw[Ry];rfl
 unfold kP;dsimp only;rw[e,oh];dsimp only;rw[VB];rfl
theorem KY{s:A}(h:s≠.non)(Z:List Sl):kX (qx true) (.fr s) (.fr .non) Z=some (.ok (.fr (.bl true)),Z):=by cases s<;>first|exact absurd rfl h|rfl
section
variable{c:List Int}{R:List (List Int)}{L:List Int}(fF:kR c R L)
include fF
abbrev FV(c:List Int)(R:List (List Int))(L:List Int)(b:Sx.Bo)(x4:Sl):List Sl:=[.fr (lI c),.fr (gI R),.fr (lI L),.lv (bO c.length R.length b),x4]
theorem B5:∃t,Val rW [lI c,gI R,lI L] t/\Told c R L t:=by
 have hm:=fF.m;have hl:=fF.l;have Y:aE 3 (n0 "Board" dE [] (eQ (ag 0) (ag 1) (ag 2))) [.fr (lI c),.fr (gI R),.fr (lI L),.un,.un]=some (.nx,FV c R L (Sx.fO (bD c R L)) .un):=aW (Dc (ae rfl (ae rfl (ae rfl rfl))) (yG fF _)) rfl rfl rfl rfl;have ex:=bJ (e:=ay k9 (aa 5) (aC 0)) (ts:=L) (k:=A.int) (S:=FV c R L (Sx.fO (bD c R L)) .un) (λx=>.bl (decide (x<0))) rfl Q1 λx hx=>⟨_,ah rfl rfl (jB rfl _),rfl⟩
 have an:∀t,L.any (λx=>decide (x<0))=t->aj (cE (kP λbs=>VO bs id) (aH 1 (cJ (aa 2)) (aL 5) aF (ay k9 (aa 5) (aC 0)))) (FV c R L (Sx.fO (bD c R L)) .un)=some (.ok t,FV c R L (Sx.fO (bD c R L)) .un):=λt y=>by exact aG (eW (bE rfl ex) (mj rfl (by rw[Fn,y])))
 have fin:∀b x4,Sx.K2 (bD c R L) b->np x4=true->∃t,Wp (bZ (aX ir (cC (aa 3)))) (FV c R L b x4) (λg _=>g=.rt (.fr t))/\Told c R L t:=λb x4 K h4=>by obtain⟨t,P,v,y⟩:=wK fF K;exact⟨t,Wp.en (aV (az rfl (cH v rfl rfl)) rfl) rfl,y⟩
 by_cases r:∃i,i<R.length/\L.getD i 0<0
 .have I:L.any (λx=>decide (x<0))=true:=by obtain⟨i,hi,h⟩:=r;exact Wo.mpr ⟨_,cw (show i<L.length by lia),Zd h⟩
  obtain⟨s,P,v,z⟩:=GQ fF r;have j:=cH (i:=3) (Z:=FV c R L (Sx.fO (bD c R L)) .un) v rfl rfl;have B:aE 4 (aX dN (cC (aa 3))) (FV c R L (Sx.fO (bD c R L)) .un)=some (.nx,FV c R L P (.fr s)):=aW (az rfl j) rfl rfl rfl rfl;rcases z with ⟨rfl,K⟩|⟨U,y⟩
  .obtain⟨t,w,y⟩:=fin P (.fr .non) K rfl;exact⟨t,Val.of (Wp.df (Wp.st Y (Wp.st (fD (an true I) (dD B (dr rfl rfl))) (Wp.mono w λg _ e=>by rw[e])))),y⟩
  .exact⟨.tup [.str "none",s],Val.of (Wp.df (Wp.st Y (Wp.sr (fD (an true I) (dD B (fD (aG (ah rfl rfl (KY U _))) (aV (fv (ae rfl (ae rfl rfl)) rfl) rfl)))) rfl))),y⟩
 .have nn:=λi hi=>by
   by_cases z:0<=L.getD i 0
   .exact z
   .exact absurd ⟨i,hi,by lia⟩ r
  have I:L.any (λx=>decide (x<0))=false:=by rw[TJ];intro x hx;obtain⟨i,hi,rfl⟩:=R6 hx;have:=nn i Q1;simp only[Rk,Rb hi,Te] at this;simp;exact this
  obtain⟨t,w,y⟩:=fin _ .un ⟨Sx.yW (bD c R L),Sx.HG nn⟩ rfl;exact⟨t,Val.of (Wp.df (Wp.st Y (Wp.st (dr (an false I) rfl) (Wp.mono w λg _ e=>by rw[e])))),y⟩
theorem tH:∃t,Val cu [lI c,gI R,lI L] t/\Told c R L t:=by
 have hn:=fF.n;have hm:=fF.m;obtain⟨t,v,y⟩:=B5 fF;have lc:∀Z,cE dy (aa 0) (.fr (lI c)::Z)=some (.ok (.fr (.int c.length)),.fr (lI c)::Z):=λZ=>by show some (RI (Rr.fr (.int (c.map A.int).length)),_)=_;rw[QU]
 have h:cE dy (aa 1) [.fr (lI c),.fr (gI R),.fr (lI L)]=some (.ok (.fr (.int R.length)),[.fr (lI c),.fr (gI R),.fr (lI L)]):=by show some (RI (Rr.fr (.int (R.map lI).length)),_)=_;rw[QU]
 have z:cE dy (aa 2) [.fr (lI c),.fr (gI R),.fr (lI L)]=some (.ok (.fr (.int R.length)),[.fr (lI c),.fr (gI R),.fr (lI L)]):=by show some (RI (Rr.fr (.int (L.map A.int).length)),_)=_;rw[QU,fF.l]
 have ne:∀(i:Nat) Z,kX iX (.fr (.int i)) (.fr (.int i)) Z=some (.ok (.fr (.bl false)),Z):=λi Z=>by
  have e:iX (.int i) (.int i)=some (.fr (.bl false)):=by unfold iX;rw[pJ,Zd rfl];rfl
  exact fu (o:=none) rfl rfl e
 have ex:=bJ (e:=ay iX (cE dy (aa 3)) (cE dy (aa 0))) (ts:=R) (k:=lI) (S:=[.fr (lI c),.fr (gI R),.fr (lI L)]) (λx=>.bl false) rfl Z5 λr a=>by
  have Y:cE dy (aa 3) ([.fr (lI c),.fr (gI R),.fr (lI L)]++[.fr (lI r)])=some (.ok (.fr (.int c.length)),[.fr (lI c),.fr (gI R),.fr (lI L)]++[.fr (lI r)]):=by show some (RI (Rr.fr (.int (r.map A.int).length)),_)=_;rw[QU,fF.r r a]
  exact⟨_,ah Y (lc _) (ne _ _),rfl⟩
 refine⟨t,Val.of (Wp.df (Wp.st (dr (dM (aG (ah (lc _) rfl (kL (b:=false) (Zc Q1) _))) (aG (ah h rfl (kL (b:=false) (Zc Q1) _)))) rfl) (Wp.st (dr (aG (ah z h (ne _ _))) rfl) (Wp.st (dr (aG (eW (bE rfl ex) (mj (r:=.fr (.bl false)) rfl ?_))) rfl) (Wp.en (aV (az rfl (bj v _)) rfl) rfl))))),y⟩;rw[Fn R λ_=>false,TJ.mpr Z4]
end
structure Kn(c:List Int)(R:List (List Int))(L x y:List Int):Prop where
 x0:∀j,j<c.length->0<=x.getD j 0
 y0:∀k,k<R.length->0<=y.getD k 0
 hL:∀i,i<R.length->(Sx.su c.length λj=>(R.getD i []).getD j 0*x.getD j 0)<=L.getD i 0/\(y.getD i 0≠0->L.getD i 0=Sx.su c.length λj=>(R.getD i []).getD j 0*x.getD j 0)
 hc:∀j,j<c.length->c.getD j 0<=(Sx.su R.length λk=>(R.getD k []).getD j 0*y.getD k 0)/\(x.getD j 0≠0->c.getD j 0=Sx.su R.length λk=>(R.getD k []).getD j 0*y.getD k 0)
def fQ(c x:List Int):Int:=Sx.su c.length λj=>c.getD j 0*x.getD j 0
section
variable{c:List Int}{R:List (List Int)}{L x y:List Int}(K:Kn c R L x y)
include K
theorem Kn.val:(Sx.su R.length λk=>y.getD k 0*L.getD k 0)=fQ c x:=by
 have e:=Sx.ot (P:=bD c R L) (x:=λj=>x.getD j 0) (y:=λk=>y.getD k 0);have a:(Sx.su c.length λj=>(Sx.su R.length λk=>y.getD k 0*(R.getD k []).getD j 0)*x.getD j 0)=fQ c x:=Sx.aU λj F=>by
  have f:(Sx.su R.length λk=>y.getD k 0*(R.getD k []).getD j 0)=Sx.su R.length λk=>(R.getD k []).getD j 0*y.getD k 0:=Sx.aU λk _=>Ri _ _;rw[f];by_cases z:x.getD j 0=0
  .simp only[z,Rm,Rm]
  .simp only[(K.hc j F).2 z]
 have b:(Sx.su R.length λk=>y.getD k 0*Sx.su c.length λj=>(R.getD k []).getD j 0*x.getD j 0)=Sx.su R.length λk=>y.getD k 0*L.getD k 0:=Sx.aU λk hk=>by
  by_cases z:y.getD k 0=0
  .simp only[z,Ta,Ta]
  .simp only[(K.hL k hk).2 z]
 exact(b.symm.trans e.symm).trans a
theorem Kn.keeps:Sx.Keeps (bD c R L) 1 λj=>x.getD j 0:=⟨K.x0,λk hk=>by simp only[R0];exact(K.hL k hk).1⟩
theorem Kn.uM(j:Nat)(F:j<c.length):1*c.getD j 0<=Sx.su R.length λk=>y.getD k 0*(R.getD k []).getD j 0:=by rw[R0];exact Tx (K.hc j F).1 (Ur (Sx.aU λk _=>Ri _ _))
theorem Kn.most{z:Nat->Int}(k:Sx.Keeps (bD c R L) s z):(Sx.su c.length λj=>c.getD j 0*z j)<=fQ c x*s:=by have:=Sx.weak (P:=bD c R L) (t:=1) (y:=λk=>y.getD k 0) k K.y0 K.uM;have e:(Sx.su (bD c R L).m λk=>y.getD k 0*(bD c R L).L k)=fQ c x:=K.val;rw[e,R0,Ri] at this;exact this
theorem Kn.closed{z:Nat->Int}(hs:0<s)(k:Sx.Keeps { bD c R L with L:=λ_=>0 } s z)(J:0<Sx.su c.length λj=>c.getD j 0*z j):False:=
 Sx.DK k (R4 hs) J Z2 K.y0 K.uM
end
theorem KD{v w:Int}(hs:0<s)(h:w=v*s):dz w s=(v,1):=by have:=nY (Nz v) (show s≠0 by exact Rz ‹_›);rw[h];simpa using this
theorem Cg{c:List Int}{x y:List Int}(K:Kn c R L x y){t:A}(h:Told c R L t):X3 λ(s:Int)(B X:Nat->Int)=>N6 (t=.tup [.str "best",nm (fQ c x,1),nS c.length s B,nS R.length s X]) (0<s) (L2.Bd 900 s) (V9 c.length B/\V9 R.length X) (∀j,j<c.length->0<=B j) (∀k,k<R.length->0<=X k):=by
 cases h with
 |@non s X hs bs hy y0 uM less=>exact(Sx.uU K.keeps Z2 y0 (λj F=>by rw[show (Sx.su (bD c R L).m λk=>X k*(bD c R L).R k j)=Sx.su R.length λk=>(R.getD k []).getD j 0*X k from Sx.aU λk _=>Ri _ _];exact uM j F) (by rw[show (Sx.su (bD c R L).m λk=>X k*(bD c R L).L k)=Sx.su R.length λk=>L.getD k 0*X k from Sx.aU λk _=>Ri _ _];exact less)).elim
 |@opn s B z hs bs hx hz x0 z0 keep still tO=>exact(K.closed hs ⟨z0,λk hk=>by show _<=s*0;simp only[Rm];exact still k hk⟩ tO).elim
 |@best s w B X hs bs hx hy bw x0 y0 keep uM e1 e2=>have b:=K.most ⟨x0,λi hi=>by show _<=s*L.getD i 0;rw[Ri];exact keep i hi⟩;rw[e1] at b;have V:=Sx.weak K.keeps y0 (λj F=>by rw[show (Sx.su (bD c R L).m λk=>X k*(bD c R L).R k j)=Sx.su R.length λk=>(R.getD k []).getD j 0*X k from Sx.aU λk _=>Ri _ _,Ri];exact uM j F);simp only[show (Sx.su (bD c R L).m λk=>X k*(bD c R L).L k)=w from (Sx.aU λk _=>Ri _ _).trans e2,R0] at V;rw[Ri] at V;rw[KD hs (Int.le_antisymm b V)];exact⟨s,B,X,rfl,hs,bs,⟨hx,hy⟩,x0,y0⟩
theorem pO{xs:List α}{a d:α}(h:i<xs.length):(xs++[a]).getD i d=xs.getD i d:=Sx.cR h
theorem uB{xs:List α}{d:α}:(xs.drop 1).getD i d=xs.getD (i+1) d:=by simp only[Rk,List.getElem?_drop];rw[W4]
theorem D6{c:List Int}{x y r:List Int}{l:Int}(hl:L.length=R.length)(K:Kn c R L x y){t:A}(h:Told c (R++[r]) (L++[l]) t):(∃as,t=.tup (.str "none" :: as))\/X3 λ(s w:Int)(as:List A)=>N4 (t=.tup (.str "best" :: nm (dz w s)::as)) (0<s) (w<=fQ c x*s) (L2.Bd 900 s/\L2.Bd 900 w):=by
 have g:(R++[r]).length=R.length+1:=by simp
 cases h with
 |@non s X hs bs hy y0 uM less=>exact .inl ⟨_,rfl⟩
 |@opn s B z hs bs hx hz x0 z0 keep still tO=>
  exact(K.closed hs ⟨z0,λk hk=>by have hk:k<R.length:=hk;show (Sx.su c.length λj=>(R.getD k []).getD j 0*z j)<=s*0;have:=still k Q1;rw[pO hk] at this;rw[Rm];exact this⟩ tO).elim
 |@best s w B X hs bs hx hy bw x0 y0 keep uM e1 e2=>
  have b:=K.most (s:=s) (z:=B) ⟨x0,λi hi=>by have hi:i<R.length:=hi;show (Sx.su c.length λj=>(R.getD i []).getD j 0*B j)<=s*L.getD i 0;have:=keep i Q1;rw[pO hi,pO Q1] at this;rw[Ri];exact this⟩
  rw[e1] at b;exact .inr ⟨s,w,_,rfl,hs,b,bs,bw⟩
theorem DW{c:List Int}{x y:List Int}(hl:L.length=R.length)(K:Kn c R L x y){t:A}(h:Told c (R.drop 1) (L.drop 1) t):(∃as,t=.tup (.str "open" :: as))\/X3 λ(s w:Int)(as:List A)=>N4 (t=.tup (.str "best" :: nm (dz w s)::as)) (0<s) (fQ c x*s<=w) (L2.Bd 900 s/\L2.Bd 900 w):=by
 have ld:(R.drop 1).length=R.length-1:=by simp
 have kp:Sx.Keeps (bD c (R.drop 1) (L.drop 1)) 1 λj=>x.getD j 0:=⟨K.x0,λk hk=>by have hk:k<(R.drop 1).length:=hk;show (Sx.su c.length λj=>((R.drop 1).getD k []).getD j 0*x.getD j 0)<=1*(L.drop 1).getD k 0;rw[uB,uB,R0];exact(K.hL (k+1) Q1).1⟩
 cases h with
 |@non s X hs bs hy y0 uM less=>exact(Sx.uU (P:=bD c (R.drop 1) (L.drop 1)) kp Z2 (y:=X) y0 (λj F=>by rw[show (Sx.su (bD c (R.drop 1) (L.drop 1)).m λk=>X k*(bD c (R.drop 1) (L.drop 1)).R k j)=Sx.su (R.drop 1).length λk=>((R.drop 1).getD k []).getD j 0*X k from Sx.aU λk _=>Ri _ _];exact uM j F) (by rw[show (Sx.su (bD c (R.drop 1) (L.drop 1)).m λk=>X k*(bD c (R.drop 1) (L.drop 1)).L k)=Sx.su (R.drop 1).length λk=>(L.drop 1).getD k 0*X k from Sx.aU λk _=>Ri _ _];exact less)).elim
 |@opn s B z hs bs hx hz x0 z0 keep still tO=>exact .inl ⟨_,rfl⟩
 |@best s w B X hs bs hx hy bw x0 y0 keep uM e1 e2=>have V:=Sx.weak (P:=bD c (R.drop 1) (L.drop 1)) (t:=s) (s:=1) (x:=λj=>x.getD j 0) (y:=X) kp y0 (λj F=>by rw[show (Sx.su (bD c (R.drop 1) (L.drop 1)).m λk=>X k*(bD c (R.drop 1) (L.drop 1)).R k j)=Sx.su (R.drop 1).length λk=>((R.drop 1).getD k []).getD j 0*X k from Sx.aU λk _=>Ri _ _,Ri];exact uM j F);rw[show (Sx.su (bD c (R.drop 1) (L.drop 1)).m λk=>X k*(bD c (R.drop 1) (L.drop 1)).L k)=w from (Sx.aU λk _=>Ri _ _).trans e2,R0] at V;have V:s*fQ c x<=w:=V;rw[Ri] at V;exact .inr ⟨s,w,_,rfl,hs,V,bs,bw⟩
def EF(F:Ms)(Pr:Int->Prop):Prop:=∀(n:Int)(o:LO),Wl n o->n<2^36->X2 λ(r:Int)(o':LO)=>N3 (cU F o [] (.fr (.int r)) o') (Pr r) (Wl (n+10) o')
theorem lB:EF a8 λr=>0<=r/\r<=10^6:=λn o w hn=>by
 suffices ∃s o',cU a8 o [] s o'/\∃r:Int,N3 (s=.fr (.int r)) (0<=r/\r<=10^6) (Wl (n+10) o') by obtain⟨s,o',v,r,rfl,h1,h2⟩:=this;exact⟨r,o',v,h1,h2⟩
 obtain⟨e,u,e1,a1,b1,L⟩:=tk 4 w (by exact Mc) Z2 Z2
 obtain⟨k,o2,e2,H,b2,q⟩:=tk 1000000 L (by exact NO) Z2 Z2
 obtain⟨N,F,D,c,J,B⟩:=tk 3 q Q1 Z2 Z2
 have h:=pw 6 1000000 Z2 Z2
 obtain⟨r,hx,a⟩:∃r:Int,gL [A.int e,.int 0,.int k] N=some (.int r)/\0<=r/\r<=10^6:=by
  have:N=0\/N=1\/N=2:=by lia
  rcases this with rfl|rfl|rfl
  .exact⟨e,rfl,a1,by lia⟩
  .exact⟨0,rfl,by decide,by decide⟩
  .exact⟨k,rfl,H,by exact R4 ‹_›⟩
 exact cU.of (Wp.df (Wp.en (aV (ah (gE (ae (az (ae rfl (ae rfl rfl)) (e1 _)) (ae rfl (ae (az (ae rfl (ae (h _) rfl)) (e2 _)) rfl))) rfl) (az (ae rfl (ae rfl rfl)) (D _)) (bK (.inl rfl) hx)) rfl) ⟨_,F,_,rfl,rfl,r,rfl,a,B.mono Q1⟩))
theorem qH:EF ck λr=>r.natAbs<=10^6:=λn o w hn=>by
 suffices ∃s o',cU ck o [] s o'/\∃r:Int,N3 (s=.fr (.int r)) (r.natAbs<=10^6) (Wl (n+10) o') by obtain⟨s,o',v,r,rfl,h1,h2⟩:=this;exact⟨r,o',v,h1,h2⟩
 obtain⟨e,u,e1,a1,b1,L⟩:=tk 7 w Q1 Z2 Z2
 obtain⟨k,o2,e2,H,b2,q⟩:=tk 2000001 L Q1 Z2 Z2
 obtain⟨N,F,D,c,l,B⟩:=tk 4 q Q1 Z2 Z2
 have h:=pw 6 1000000 Z2 Z2
 obtain⟨r,hx,a⟩:∃r:Int,gL [A.int (e-3),.int 0,.int (k-1000000),.int 1] N=some (.int r)/\r.natAbs<=10^6:=by
  have:N=0\/N=1\/N=2\/N=3:=by lia
  rcases this with rfl|rfl|rfl|rfl
  .exact⟨e-3,rfl,by lia⟩
  .exact⟨0,rfl,by decide⟩
  .exact⟨k-1000000,rfl,by lia⟩
  .exact⟨1,rfl,by decide⟩
 have J:∀Z,dS (ay aK (ay bz (aC 2) (ay nF (aC 10) (aC 6))) (aC 1)) Z=some (.ok (.fr (.int 2000001)),Z):=λZ=>gH (ah (ah rfl (h _) (m8 (qQ Z2) (qQ Z2) _)) rfl rfl) rfl
 exact cU.of (Wp.df (Wp.en (aV (ah (gE (ae (ah (az (ae rfl (ae rfl rfl)) (e1 _)) rfl rfl) (ae rfl (ae (ah (az (ae rfl (ae (J _) rfl)) (e2 _)) (h _) rfl) (ae rfl rfl)))) rfl) (az (ae rfl (ae rfl rfl)) (D _)) (bK (.inl rfl) hx)) rfl) ⟨_,F,_,rfl,rfl,r,rfl,a,B.mono Q1⟩))
variable{mm:Mi Rr}
section
variable{a0 a1:Sl}{F:Ms}{Pr:Int->Prop}(hF:EF F Pr)
include hF
theorem jI{rest:List Sl}(hi:rest.length+3=i){n:Int}(w:Wl n o)(k:Nat)(hk:k<=20)(hn:n<2^34)(hm:mm (a0::a1::.lv o::rest)=some (.ok (.fr (.int k)),a0::a1::.lv o::rest)):
  X2 λ(ns:List Int)(o':LO)=>N4 (aH 1 (cD mm) (aL i) aF (aX F (cC (aa 2))) (a0::a1::.lv o::rest)=some (.ok (.nw (.lst (ns.map A.int))),a0::a1::.lv o'::rest)) (ns.length=k) (∀x∈ns,Pr x) (Wl (n+10*k) o'):=by
 obtain⟨ys,O,h1,o',x,ns,rfl,_,N,rfl,h4,h5⟩:=dU (G:=aL i) (t:=aF) (e:=aX F (cC (aa 2))) (as:=bS 0 k) (Z:=(a0::a1::.lv o::rest)++[.un])
  (λj acc Z=>X3 λ(o':LO)(x:Sl)(ns:List Int)=>N6 (Z=(a0::a1::.lv o'::rest)++[x]) (np x=true) (Wl (n+10*j) o') (acc=ns.map A.int) (ns.length=j) (∀x∈ns,Pr x)) ⟨o,.un,[],rfl,rfl,by simpa using w,rfl,rfl,λx hx=>by cases hx⟩ (by
   rintro j q acc Z R ⟨u,x,ns,rfl,hx,N,rfl,h4,h5⟩;obtain⟨c,rfl⟩:=pG R;obtain⟨r,o2,v,a,X⟩:=hF _ _ N Q1;have h:aL i (.int (j:Nat)) ((a0::a1::.lv u::rest)++[x])=some ((a0::a1::.lv u::rest)++[.fr (.int (j:Nat))]):=iN (i:=i) (S:=a0::a1::.lv u::rest) (tl:=[]) (by simp;lia) hx;have b:aX F (cC (aa 2)) ((a0::a1::.lv u::rest)++[.fr (.int (j:Nat))])=some (.ok (.fr (.int r)),(a0::a1::.lv o2::rest)++[.fr (.int (j:Nat))]):=az (rs:=[.rf 2]) rfl (cH (as:=[]) (i:=2) (Z:=(a0::a1::Sl.lv u::rest)++[Sl.fr (A.int (j:Nat))]) (r:=Rr.fr (A.int r)) v rfl rfl);refine⟨(a0::a1::.lv u::rest)++[.fr (.int (j:Nat))],h,.inl ⟨_,.fr (.int r),(a0::a1::.lv o2::rest)++[.fr (.int (j:Nat))],.int r,_,rfl,b,rfl,o2,_,ns++[r],rfl,rfl,X.mono Q1,by simp only[Rq];rfl,by simp[h4],λy hy=>?_⟩⟩;rcases QO.mp hy with z|z
   .exact h5 y z
   .rw[Rc.mp z];exact a)
 rw[gk] at N h4;have e:=mW (n:=1) (by rw[gk];lia) h1;refine⟨ns,o',bE (j4 hm Q1) (e.trans ?_),h4,h5,N⟩;rw[show (a0::a1::Sl.lv o::rest).length=(a0::a1::Sl.lv o'::rest).length from rfl,S2 rfl]
theorem By{rest:List Sl}(hi:rest.length+3=i){n:Int}(w:Wl n o)(k m:Nat)(hk:k<=20)(C:m<=20)(hn:n<2^30)(hm:mm (a0::a1::.lv o::rest)=some (.ok (.fr (.int m)),a0::a1::.lv o::rest))(h:∀o x,mk (a0::a1::.lv o::(rest++[x]))=some (.ok (.fr (.int k)),a0::a1::.lv o::(rest++[x]))):
  X2 λ(R:List (List Int))(o':LO)=>N4 (aH 1 (cD mm) (aL i) aF (aH 1 (cD mk) (aL (i+1)) aF (aX F (cC (aa 2)))) (a0::a1::.lv o::rest)=some (.ok (.nw (.lst (R.map lI))),a0::a1::.lv o'::rest)) (R.length=m) (∀r∈R,r.length=k/\∀x∈r,Pr x) (Wl (n+200*m) o'):=by
 obtain⟨ys,O,h1,o',x,R,rfl,_,N,rfl,h4,h5⟩:=dU (t:=aF) (as:=bS 0 m)
  (λj acc Z=>X3 λ(o':LO)(x:Sl)(R:List (List Int))=>N6 (Z=(a0::a1::.lv o'::rest)++[x]) (np x=true) (Wl (n+200*j) o') (acc=R.map lI) (R.length=j) (∀r∈R,r.length=k/\∀x∈r,Pr x)) ⟨o,.un,[],rfl,rfl,by simpa using w,rfl,rfl,λx hx=>by cases hx⟩ (by
   rintro j q acc Z b ⟨u,x,R,rfl,hx,N,rfl,h4,h5⟩;obtain⟨Q,rfl⟩:=pG b;obtain⟨ns,o2,v,hl,a,X⟩:=jI hF (a1:=a1) (rest:=rest++[.fr (.int (j:Nat))]) (i:=i+1) (by simp;lia) N k hk Q1 (h u _);have c:aL i (.int (j:Nat)) ((a0::a1::.lv u::rest)++[x])=some ((a0::a1::.lv u::rest)++[.fr (.int (j:Nat))]):=iN (i:=i) (S:=a0::a1::.lv u::rest) (tl:=[]) (by simp;lia) hx;refine⟨(a0::a1::.lv u::rest)++[.fr (.int (j:Nat))],c,.inl ⟨_,.nw (.lst (ns.map A.int)),(a0::a1::.lv o2::rest)++[.fr (.int (j:Nat))],lI ns,_,rfl,v,rfl,o2,_,R++[ns],rfl,rfl,X.mono Q1,by rw[Rq];rfl,by simp[h4],λy hy=>?_⟩⟩;rcases QO.mp hy with z|z
   .exact h5 y z
   .rw[Rc.mp z];exact⟨hl,a⟩)
 rw[gk] at N h4;have e:=mW (n:=1) (by rw[gk];lia) h1;refine⟨R,o',bE (j4 hm Q1) (e.trans ?_),h4,h5,N⟩;rw[show (a0::a1::Sl.lv o::rest).length=(a0::a1::Sl.lv o'::rest).length from rfl,S2 rfl]
end
noncomputable def rq(a b:List Int):Int:=((a.zip b).map λp=>p.1*p.2).sum
theorem vf(f:Nat->Int):∀n:Nat,((Q8 n).map f).sum=Sx.su n f
 |0=>rfl
 |n+1=>by simp only[List.range_succ,Rq,Wv,vf f n];show _+([f n].sum)=Sx.su n f+f n;simp
theorem vL{a b:List Int}{n:Nat}(f:a.length=n)(d:b.length=n):rq a b=Sx.su n λj=>a.getD j 0*b.getD j 0:=by
 unfold rq;rw[<-vf]
 congr 1
 refine U1 (by simp[f,d]) λi h1 h2=>?_;have s:i<a.length:=by simp at h1;lia
 have I:i<b.length:=by simp at h1;lia
 simp[Rk,s,I]
theorem oZ{a b:List Int}(hl:a.length<=20)(f:∀x∈a,x.natAbs<2^64)(d:∀x∈b,x.natAbs<2^64):eZ aR [lI a,lI b] (.int (rq a b)):=by
 have Q:=kc (e:=ay bz (aa 2) (aa 3)) (S:=[.fr (lI a),.fr (lI b)]) (λp=>.int p.1) (λp=>.int p.2) (λp=>.int (p.1*p.2)) rfl (by simp;lia) λp hp=>⟨_,ah rfl rfl (m8 (qQ (f _ (Ss hp).1)) (qQ (d _ (Ss hp).2)) _),rfl⟩
 refine eZ.of (Wp.df (Wp.en (aV (eW (bE ?_ Q) (mj (r:=.fr (.int (rq a b))) rfl ?_)) rfl) ⟨rfl,rfl⟩))
 .rw[<-eE];rfl
 .rw[show ((a.zip b).map λp=>A.int (p.1*p.2))=((a.zip b).map λp=>p.1*p.2).map A.int by simp only[Ry];rfl];unfold ud;dsimp only;rw[mE];rfl
theorem BB{n:Nat}{f:Nat->Int}(hn:n<=6)(h:∀j,j<n->(f j).natAbs<=10^12):(Sx.su n f).natAbs<=6*10^12:=Rn (Sx.BS h) (V2 _ hn)
theorem uh{i j:Int}(hi:i.natAbs<=10^6)(F:j.natAbs<=10^6):(i*j).natAbs<=10^12:=by rw[RU];exact Rn (Vh hi F) Z2
abbrev NT:Mi Rr:=ay aK (aX aR (cq (ag 16) (ag 5))) (ay bz (aX a8 (cC (aa 2))) (cE nj (ay gw (aa 17) (aC 0))))
abbrev xf(a0 a1:Sl)(o:LO)(x3 x4 q:Sl)(y:List Int)(R:List (List Int))(x8 x9 x10 x11 x12 x13 x14 x15:Sl):List Sl:=[a0,a1,.lv o,x3,x4,q,.fr (lI y),.fr (gI R),x8,x9,x10,x11,x12,x13,x14,x15]
theorem D4(b:Bool):(if b=true then (1:Int) else 0)=0\/(if b=true then (1:Int) else 0)=1:=by cases b<;>decide
variable{a0 a1 x8 x9 x10 x11 x12 x13 x14 x15:Sl}
theorem ze{s:Sl}{x y:List Int}{n:Nat}(hn:n<=6)(D:x.length=n)(P:∀r∈R,r.length=n/\∀x∈r,x.natAbs<=10^6)(hx:∀z∈x,0<=z/\z<=10^6)(ly:y.length=R.length)(hm:R.length<=9)(h5:s=.lv (.lst (x.map A.int))\/s=.fr (lI x))(w:Wl k o)(hk:k<2^30):
  ∃(L:List Int)(o':LO)(h:Sl),gG 2 (G2 16 17) aF NT (kC (R.map lI) (y.map A.int)) (xf a0 a1 o x3 x4 s y R x8 x9 x10 x11 x12 x13 x14 x15)=some (.ok (.nw (.lst (L.map A.int))),xf a0 a1 o' x3 x4 h y R x8 x9 x10 x11 x12 x13 x14 x15)/\L.length=R.length/\Wl (k+10*R.length) o'/\(h=.fr (lI x)\/(R.length=0/\h=s)) /\
   ∀i,i<R.length->((Sx.su n λj=>(R.getD i []).getD j 0*x.getD j 0)<=L.getD i 0/\(y.getD i 0≠0->L.getD i 0=Sx.su n λj=>(R.getD i []).getD j 0*x.getD j 0))/\(L.getD i 0).natAbs<=7*10^12:=by
 have K:(kC (R.map lI) (y.map A.int)).length=R.length:=by simp only[eE,QU,S1];lia
 have U:∀z∈x,z.natAbs<2^64:=λz hz=>by have:=hx z hz;lia
 obtain⟨ys,O,h1,o',h,u,v,L,rfl,⟨g,B⟩,N,rfl,hl,p,hL⟩:=dU (G:=G2 16 17) (t:=aF) (e:=NT) (as:=kC (R.map lI) (y.map A.int)) (Z:=xf a0 a1 o x3 x4 s y R x8 x9 x10 x11 x12 x13 x14 x15++[.un,.un])
  (λj acc Z=>∃(o':LO)(h u v:Sl)(L:List Int),Z=xf a0 a1 o' x3 x4 h y R x8 x9 x10 x11 x12 x13 x14 x15++[u,v]/\(np u=true/\np v=true)/\Wl (k+10*j) o'/\acc=L.map A.int/\L.length=j/\(h=.fr (lI x)\/(j=0/\h=s))/\∀i,i<j->((Sx.su n λj=>(R.getD i []).getD j 0*x.getD j 0)<=L.getD i 0/\(y.getD i 0≠0->L.getD i 0=Sx.su n λj=>(R.getD i []).getD j 0*x.getD j 0))/\(L.getD i 0).natAbs<=7*10^12) ⟨o,s,.un,.un,[],rfl,⟨rfl,rfl⟩,by simpa using w,rfl,rfl,.inr ⟨rfl,rfl⟩,λi hi=>absurd hi (RZ i)⟩ (by
   rintro j q acc Z T ⟨C,X,u,v,L,rfl,⟨g,B⟩,N,rfl,hl,m,hL⟩;obtain⟨V,j2,rfl⟩:=Dn T;have H:=P _ (Sx.getD_mem V);have l:X=.lv (.lst (x.map A.int))\/X=.fr (lI x):=by
    rcases m with z|⟨_,z⟩
    .exact .inr z
    .rw[z];exact h5
   obtain⟨r,o2,vs,I,J⟩:=lB _ _ N Q1;have F:=oZ (a:=R.getD j []) (b:=x) (by rw[H.1];lia) (λz hz=>by have:=H.2 z hz;lia) U;have f:∀(E:Sl),ag 5 (xf a0 a1 C x3 x4 X y R x8 x9 x10 x11 x12 x13 x14 x15++[.fr (lI (R.getD j [])),E])=some (.ok (.fr (lI x)),xf a0 a1 C x3 x4 (.fr (lI x)) y R x8 x9 x10 x11 x12 x13 x14 x15++[.fr (lI (R.getD j [])),E]):=λE=>by rcases l with rfl|rfl<;>rfl
   have bR:(Sx.su n λi=>(R.getD j []).getD i 0*x.getD i 0).natAbs<=6*10^12:=BB hn λi hi=>uh (H.2 _ (cw Q1)) (by have:=hx _ (cw (c:=i) Q1);lia);have ds:=vL (a:=R.getD j []) (b:=x) H.1 D;have Y:=D4 (decide (y.getD j 0=0));generalize Q:(if decide (y.getD j 0=0)=true then (1:Int) else 0)=bi at Y;have em:ay bz (aX a8 (cC (aa 2))) (cE nj (ay gw (aa 17) (aC 0))) (xf a0 a1 C x3 x4 (.fr (lI x)) y R x8 x9 x10 x11 x12 x13 x14 x15++[.fr (lI (R.getD j [])),.fr (.int (y.getD j 0))])=some (.ok (.fr (.int (r*bi))),xf a0 a1 o2 x3 x4 (.fr (lI x)) y R x8 x9 x10 x11 x12 x13 x14 x15++[.fr (lI (R.getD j [])),.fr (.int (y.getD j 0))]):=by rw[<-Q];exact ah (az (rs:=[.rf 2]) rfl (cH (as:=[]) (i:=2) (Z:=xf a0 a1 C x3 x4 (.fr (lI x)) y R x8 x9 x10 x11 x12 x13 x14 x15++[Sl.fr (lI (R.getD j [])),Sl.fr (A.int (y.getD j 0))]) (r:=Rr.fr (A.int r)) vs rfl rfl)) (eW (ah rfl rfl (iD rfl _)) rfl) (m8 (qQ Q1) (qQ (by rcases D4 (decide (y.getD j 0=0)) with z|z<;>rw[z]<;>decide)) _)
   refine⟨_,nX (S:=xf a0 a1 C x3 x4 X y R x8 x9 x10 x11 x12 x13 x14 x15) (tl:=[]) rfl g B,.inl ⟨_,.fr (.int (rq (R.getD j []) x+r*bi)),xf a0 a1 o2 x3 x4 (.fr (lI x)) y R x8 x9 x10 x11 x12 x13 x14 x15++[.fr (lI (R.getD j [])),.fr (.int (y.getD j 0))],.int (rq (R.getD j []) x+r*bi),_,rfl,ah (az (ae rfl (ae (f _) rfl)) (bj F.v _)) em rfl,rfl,o2,.fr (lI x),_,_,L++[rq (R.getD j []) x+r*bi],rfl,⟨rfl,rfl⟩,J.mono Q1,by rw[Rq];rfl,by simp[hl],.inl rfl,λi hi=>?_⟩⟩;by_cases e:i=j
   .rw[e,Sx.cT Q1,show j-L.length=0 by lia];show ((_<=rq (R.getD j []) x+r*bi)/\(_->rq (R.getD j []) x+r*bi=_))/\(rq (R.getD j []) x+r*bi).natAbs<=_;rw[ds];generalize (Sx.su n λi=>(R.getD j []).getD i 0*x.getD i 0)=d at bR;rcases Y with rfl|rfl
    .rw[Rm];exact⟨⟨by lia,λ_=>by lia⟩,by lia⟩
    .rw[Sg];refine⟨⟨by lia,λz=>?_⟩,by lia⟩;rw[Zc z] at Q;exact absurd Q Z2
   .rw[Sx.cR Q1];exact hL i Q1)
 rw[K] at N hl p hL;have e:=mW (n:=2) (by rw[K];lia) h1;refine⟨L,o',h,e.trans ?_,hl,N,p,hL⟩;rw[show (xf a0 a1 o x3 x4 s y R x8 x9 x10 x11 x12 x13 x14 x15).length=(xf a0 a1 o' x3 x4 h y R x8 x9 x10 x11 x12 x13 x14 x15).length from rfl,S2 rfl]
abbrev NU:Ms:=c9 (xU 9 (jr 9 (ay fE (aX aR (cq (dS (aH 1 (cJ (aa 7)) (aL 16) aF (mix (aa 16) (aa 10)))) (ag 6))) (ay bz (aX a8 (cC (aa 2))) (cE nj (ay gw (mix (aa 5) (aa 10)) (aC 0)))))))
abbrev yb(a0 a1:Sl)(o:LO)(x3 x4:Sl)(x y:List Int)(R:List (List Int))(x8:Sl)(c:List Int)(x10 x11 x12 x13 x14 x15:Sl):List Sl:=[a0,a1,.lv o,x3,x4,.fr (lI x),.fr (lI y),.fr (gI R),x8,.lv (.lst (c.map A.int)),x10,x11,x12,x13,x14,x15]
theorem CD{x y c:List Int}{n:Nat}(F:j<n)(hn:n<=6)(C:x.length=n)(P:∀r∈R,r.length=n/\∀x∈r,x.natAbs<=10^6)(hx:∀z∈x,0<=z/\z<=10^6)(hy:∀z∈y,0<=z/\z<=10^6)(s:y.length=R.length)(hm:R.length<=6)(lc:c.length<=10)(w:Wl k o)(hk:k<2^30):
  Wp NU (yb a0 a1 o x3 x4 x y R x8 c (.fr (.int j)) x11 x12 x13 x14 x15) λf Z=>f=.nx/\∃(o':LO)(d:Int),Z=yb a0 a1 o' x3 x4 x y R x8 (c++[d]) (.fr (.int j)) x11 x12 x13 x14 x15/\Wl (k+10) o'/\(d<=(Sx.su R.length λk=>(R.getD k []).getD j 0*y.getD k 0)/\(x.getD j 0≠0->d=Sx.su R.length λk=>(R.getD k []).getD j 0*y.getD k 0))/\d.natAbs<=7*10^12:=by
 obtain⟨r,o2,vs,I,X⟩:=lB _ _ w (by exact Mc);have H:dS (aH 1 (cJ (aa 7)) (aL 16) aF (mix (aa 16) (aa 10))) (yb a0 a1 o x3 x4 x y R x8 c (.fr (.int j)) x11 x12 x13 x14 x15)=some (.ok (.fr (lI (R.map λ(r:List Int)=>r.getD j 0))),yb a0 a1 o x3 x4 x y R x8 c (.fr (.int j)) x11 x12 x13 x14 x15):=by refine gH (bE rfl (bJ (k:=lI) (S:=yb a0 a1 o x3 x4 x y R x8 c (.fr (.int j)) x11 x12 x13 x14 x15) (λr=>.int (r.getD j 0)) rfl Z5 λr h=>⟨_,ah rfl rfl (bK (.inl rfl) (gf (by have:=(P r h).1;lia))),rfl⟩)) ?_;unfold lI;simp only[Ry];rfl
 have e:∀z∈R.map λ(r:List Int)=>r.getD j 0,z.natAbs<=10^6:=λz hz=>by obtain⟨q,T,rfl⟩:=Rx.mp hz;exact(P q T).2 _ (cw (by have:=(P q T).1;lia))
 have p:=oZ (a:=R.map λ(r:List Int)=>r.getD j 0) (b:=y) (by simp;lia) (λz hz=>by have:=e z hz;lia) (λz hz=>by have:=hy z hz;lia);have ds:=vL (a:=R.map λ(r:List Int)=>r.getD j 0) (b:=y) (n:=R.length) Z4 s;have es:(Sx.su R.length λi=>(R.map λ(r:List Int)=>r.getD j 0).getD i 0*y.getD i 0)=Sx.su R.length λk=>(R.getD k []).getD j 0*y.getD k 0:=Sx.aU λi hi=>by rw[Sx.getD_map (d:=[]) hi]
 rw[es] at ds;have bd:(Sx.su R.length λk=>(R.getD k []).getD j 0*y.getD k 0).natAbs<=6*10^12:=BB hm λi hi=>uh ((P _ (Sx.getD_mem hi)).2 _ (cw (by rw[(P _ (Sx.getD_mem hi)).1];exact F))) (by have:=hy _ (cw (c:=i) Q1);lia);have Y:=D4 (decide (x.getD j 0=0));generalize E:(if decide (x.getD j 0=0)=true then (1:Int) else 0)=bi at Y;have em:ay bz (aX a8 (cC (aa 2))) (cE nj (ay gw (mix (aa 5) (aa 10)) (aC 0))) (yb a0 a1 o x3 x4 x y R x8 c (.fr (.int j)) x11 x12 x13 x14 x15)=some (.ok (.fr (.int (r*bi))),yb a0 a1 o2 x3 x4 x y R x8 c (.fr (.int j)) x11 x12 x13 x14 x15):=by rw[<-E];exact ah (az (rs:=[.rf 2]) rfl (cH (as:=[]) (i:=2) (Z:=yb a0 a1 o x3 x4 x y R x8 c (.fr (.int j)) x11 x12 x13 x14 x15) (r:=Rr.fr (A.int r)) vs rfl rfl)) (eW (ah (ah rfl rfl (bK (.inl rfl) (gf Q1))) rfl (iD rfl _)) rfl) (m8 (qQ Q1) (qQ (by rcases D4 (decide (x.getD j 0=0)) with z|z<;>rw[z]<;>decide)) _)
 refine Wp.en (Kq rfl (ah (az (ae H (ae rfl rfl)) (bj p.v _)) em rfl) rfl rfl (by simp;lia) rfl) ⟨rfl,o2,rq (R.map λ(r:List Int)=>r.getD j 0) y-r*bi,?_,X,?_⟩
 .unfold yb;rw[Rq];rfl
 .rw[ds];rcases Y with rfl|rfl
  .rw[Rm];exact⟨⟨by lia,λ_=>by lia⟩,by lia⟩
  .rw[Sg];refine⟨⟨by lia,λz=>?_⟩,by lia⟩;rw[Zc z] at E;exact absurd E Z2
abbrev wG(sc:A)(x1 x2 x3 x4 x5 h Z x8 x9 x10 x11 x12 x13 x14 x15:Sl):List Sl:=[.fr sc,x1,x2,x3,x4,x5,h,Z,x8,x9,x10,x11,x12,x13,x14,x15]
def NW:Ms:=ao (aE 2 (aX fG (cq (ag 0) (ag 1)))) (ao (aE 3 (ay aK (aC 1) (aX a7 (cq (aa 2) (aC 5))))) (ao (aE 4 (ay aK (aC 1) (aX a7 (cq (aa 2) (aC 5))))) (ao (aE 5 (aH 1 (cD (aa 3)) (aL 16) aF (aX a8 (cC (aa 2))))) (ao (aE 6 (aH 1 (cD (aa 4)) (aL 16) aF (aX a8 (cC (aa 2))))) (ao (aE 7 (aH 1 (cD (aa 4)) (aL 16) aF (aH 1 (cD (aa 3)) (aL 17) aF (aX ck (cC (aa 2)))))) (ao (aE 8 (aH 2 (gN (aa 7) (aa 6)) (fN 2 (bL (aL 16) (bL (aL 17) fm))) aF NT)) (ao (aE 9 (dj kS)) (ao (gQ (cD (aa 3)) (aL 10) NU) (ao (aE 11 (aX aR (cq (ag 9) (ag 5)))) (ao (aE 12 (aX cu (eQ (dS (cE da (aa 9))) (dS (aH 1 (cJ (aa 7)) (aL 16) aF (cE da (aa 16)))) (dS (cE da (aa 8)))))) (ao (uW (j7 (fS (aj (cE (nG Ty.tuple) (aa 12)))) (j7 (aj (ay iX (cE dy (aa 12)) (aC 4))) (aj (ay iX (bT (aa 12) aB (aT (aC 2))) (eJ (cq (mC (.str "best")) (eJ (cq (aa 11) (aC 1)))))))))) (ao (uW (j7 (fS (aj (aX bf (eQ (mix (aa 12) (aC 2)) (ag 3) (mC (.bl false)))))) (fS (aj (aX bf (eQ (mix (aa 12) (aC 3)) (ag 4) (mC (.bl false)))))))) (ao (aE 13 (aH 1 (cD (aa 3)) (aL 16) aF (aX ck (cC (aa 2))))) (ao (aE 14 (aX cu (eQ (ag 9) (dS (ay aK (aa 7) (dj (cC (aa 13))))) (dS (ay aK (aa 8) (dj (cC (ay fE (aX aR (cq (ag 13) (ag 5))) (aC 1))))))))) (ao (uW (j7 (aj (ay gw (mix (aa 14) (aC 0)) (mC (.str "open")))) (iK (aj (ay gw (mix (aa 14) (aC 0)) (mC (.str "best")))) (aj (aX cO (cq (eJ (cq (aa 11) (aC 1))) (mix (aa 14) (aC 1)))))))) (ao (aE 15 (aX cu (eQ (ag 9) (dS (bT (aa 7) (aT (aC 1)) aB)) (dS (bT (aa 8) (aT (aC 1)) aB))))) (uW (j7 (aj (ay gw (mix (aa 15) (aC 0)) (mC (.str "none")))) (iK (aj (ay gw (mix (aa 15) (aC 0)) (mC (.str "best")))) (aj (aX cO (cq (mix (aa 15) (aC 1)) (eJ (cq (aa 11) (aC 1)))))))))))))))))))))))))
theorem Pt{n:Int}(m:Int)(w:Wl n o)(hn:n<2^40)(G:0<m)(K:m<2^64):X2 λ(r:Int)(o':LO)=>N4 (∀a0 a1 Z,fL a7 [] [.rf 2,.fr (.int m)] (a0::a1::.lv o::Z)=some (.ok (.fr (.int r)),a0::a1::.lv o'::Z)) (0<=r) (r<m) (Wl (n+1) o'):=by obtain⟨r,o',h,h1,h2,h3⟩:=Cb w hn G K;exact⟨r,o',λa0 a1 Z=>cH h rfl rfl,h1,h2,h3⟩
theorem nums{n:Nat}{v:Nat->Int}(hn:n<=9)(hs:0<s)(bs:L2.Bd 900 s)(A:V9 n v)(r:∀j,j<n->0<=v j)(Z:List Sl)(m L:Mi Rr)(e1:m Z=some (.ok (.fr (nS n s v)),Z))(e2:L Z=some (.ok (.fr (.int n)),Z)):fS (aj (aX bf (eQ m L (mC (.bl false))))) Z=some (.ok false,Z):=
 hV (aG (az (ae e1 (ae e2 (ae rfl rfl))) (bj (IL Z5 hs bs A r) _)))
theorem r9{w v:Str}{as:List A}{b:Bool}(h:Z[i]?=some (.fr (.tup (.str w::as))))(d:decide (w=v)=b):aj (ay gw (mix (aa i) (aC 0)) (mC (.str v))) Z=some (.ok b,Z):=by
 have e:aa i Z=some (.ok (.fr (.tup (.str w::as))),Z):=by unfold aa;simp only[h]
 exact aG (ah (ah e rfl (bK (.inr rfl) (jM rfl))) rfl (fu (o:=none) rfl rfl (by unfold gw;simp only[CF,d])))
theorem MA{w a:A}{as:List A}(h:Z[i]?=some (.fr (.tup (w::a::as)))):mix (aa i) (aC 1) Z=some (.ok (.fr a),Z):=by
 have e:aa i Z=some (.ok (.fr (.tup (w::a::as))),Z):=by unfold aa;simp only[h]
 exact ah e rfl (bK (.inr rfl) (jM rfl))
theorem DY{a:Int}{P:Int->Prop}(h:∀x∈xs,P x)(f:P a):∀x∈xs++[a],P x:=λx hx=>by
 rcases QO.mp hx with z|z
 .exact h x z
 .rw[Rc.mp z];exact f
theorem FC{P:Int->Prop}{m:Nat}(hl:xs.length=m)(h:∀i,i<m->P (xs.getD i 0)):∀x∈xs,P x:=λx hx=>by obtain⟨i,hi,rfl⟩:=R6 hx;have:=h i Q1;simpa[Rk,hi] using this
abbrev T1:Ms:=ao (aE 12 (aX cu (eQ (dS (cE da (aa 9))) (dS (aH 1 (cJ (aa 7)) (aL 16) aF (cE da (aa 16)))) (dS (cE da (aa 8)))))) (ao (uW (j7 (fS (aj (cE (nG Ty.tuple) (aa 12)))) (j7 (aj (ay iX (cE dy (aa 12)) (aC 4))) (aj (ay iX (bT (aa 12) aB (aT (aC 2))) (eJ (cq (mC (.str "best")) (eJ (cq (aa 11) (aC 1)))))))))) (uW (j7 (fS (aj (aX bf (eQ (mix (aa 12) (aC 2)) (ag 3) (mC (.bl false)))))) (fS (aj (aX bf (eQ (mix (aa 12) (aC 3)) (ag 4) (mC (.bl false)))))))))
abbrev kU(sc:A)(i:Int)(o:LO)(x y c:List Int)(R:List (List Int))(L:List Int)(n m:Nat)(x10 x11 x12 x13 x14 x15:Sl):List Sl:=wG sc (.fr (.int i)) (.lv o) (.fr (.int n)) (.fr (.int m)) (.fr (lI x)) (.fr (lI y)) (.fr (gI R)) (.lv (.lst (L.map A.int))) (.fr (lI c)) x10 x11 x12 x13 x14 x15
section
variable{x y c:List Int}{R:List (List Int)}{L:List Int}(fF:kR c R L)(K:Kn c R L x y){sc:A}{i:Int}{o:LO}
include fF K
theorem L7(z:np x12=true):∃t,T1 (kU sc i o x y c R L c.length R.length x10 (.fr (.int (fQ c x))) x12 x13 x14 x15)=some (.nx,kU sc i o x y c R L c.length R.length x10 (.fr (.int (fQ c x))) (.fr t) x13 x14 x15):=by
 have hm:=fF.m;have hn:=fF.n;obtain⟨t,v,l⟩:=tH fF;obtain⟨s,B,X,rfl,hs,bs,⟨hx,hy⟩,x0,y0⟩:=Cg K l;have f:=bJ (e:=cE da (aa 16)) (ts:=R) (k:=lI) (S:=kU sc i o x y c R L c.length R.length x10 (.fr (.int (fQ c x))) x12 x13 x14 x15) lI rfl Z5 λr a=>⟨.nw (.lst (r.map A.int)),rfl,rfl⟩
 have j:aE 12 (aX cu (eQ (dS (cE da (aa 9))) (dS (aH 1 (cJ (aa 7)) (aL 16) aF (cE da (aa 16)))) (dS (cE da (aa 8))))) (kU sc i o x y c R L c.length R.length x10 (.fr (.int (fQ c x))) x12 x13 x14 x15)=some (.nx,kU sc i o x y c R L c.length R.length x10 (.fr (.int (fQ c x))) (.fr (.tup [.str "best",nm (fQ c x,1),nS c.length s B,nS R.length s X])) x13 x14 x15):=
  aW (az (ae (gH (eW rfl (mj rfl rfl)) rfl) (ae (gH (bE rfl f) rfl) (ae (gH (eW rfl (mj rfl rfl)) rfl) rfl))) (bj v _)) rfl rfl z rfl
 have h:Dt 40 (.tup [.str "best",nm (fQ c x,1)]):=Dt.tup (.cons (.str _) (.cons (Dt.nm _) .nil));have ne:∀Z,kX iX (.fr (.tup [.str "best",nm (fQ c x,1)])) (.fr (.tup [.str "best",nm (fQ c x,1)])) Z=some (.ok (.fr (.bl false)),Z):=λZ=>fu (o:=none) rfl rfl (by unfold iX;rw[BN h];rfl);have w:∀x13 x14 x15,bT (aa 12) aB (aT (aC 2)) (kU sc i o x y c R L c.length R.length x10 (.fr (.int (fQ c x))) (.fr (.tup [.str "best",nm (fQ c x,1),nS c.length s B,nS R.length s X])) x13 x14 x15)=some (.ok (.fr (.tup [.str "best",nm (fQ c x,1)])),kU sc i o x y c R L c.length R.length x10 (.fr (.int (fQ c x))) (.fr (.tup [.str "best",nm (fQ c x,1),nS c.length s B,nS R.length s X])) x13 x14 x15):=λ_ _ _=>bk rfl (bk rfl (bk rfl (Zb (show ¬ (HT.c7 4 0 none=0/\HT.c7 4 4 (some 2)=4) by decide))));exact⟨_,dD j (dD (dr (dM (hV (b:=true) rfl) (dM (aG (ah rfl rfl (fw rfl _))) (aG (ah (w _ _ _) (fv (ae rfl (ae (fv (ae rfl (ae rfl rfl)) rfl) rfl)) rfl) (ne _))))) rfl) (dr (dM (nums Z5 hs bs hx x0 _ _ _ (ah rfl rfl (bK (.inr rfl) rfl)) rfl) (nums hm hs bs hy y0 _ _ _ (ah rfl rfl (bK (.inr rfl) rfl)) rfl)) rfl))⟩
end
abbrev T2:Ms:=ao (aE 14 (aX cu (eQ (ag 9) (dS (ay aK (aa 7) (dj (cC (aa 13))))) (dS (ay aK (aa 8) (dj (cC (ay fE (aX aR (cq (ag 13) (ag 5))) (aC 1))))))))) (uW (j7 (aj (ay gw (mix (aa 14) (aC 0)) (mC (.str "open")))) (iK (aj (ay gw (mix (aa 14) (aC 0)) (mC (.str "best")))) (aj (aX cO (cq (eJ (cq (aa 11) (aC 1))) (mix (aa 14) (aC 1))))))))
abbrev T3:Ms:=ao (aE 15 (aX cu (eQ (ag 9) (dS (bT (aa 7) (aT (aC 1)) aB)) (dS (bT (aa 8) (aT (aC 1)) aB))))) (uW (j7 (aj (ay gw (mix (aa 15) (aC 0)) (mC (.str "none")))) (iK (aj (ay gw (mix (aa 15) (aC 0)) (mC (.str "best")))) (aj (aX cO (cq (mix (aa 15) (aC 1)) (eJ (cq (aa 11) (aC 1)))))))))
theorem B9{xs ys:List A}(h:xs.length+ys.length<=100000)(Z:List Sl):kX aK (.fr (.lst xs)) (.nw (.lst ys)) Z=some (.ok (.nw (.lst (xs++ys))),Z):=fu (o:=none) rfl rfl (Za h)
theorem Aj{xs ys:List A}(e:res Z (.rf i)=some (.lst xs))(h:xs.length+ys.length<=100000):kX aK (.rf i) (.nw (.lst ys)) Z=some (.ok (.nw (.lst (xs++ys))),Z):=fu (o:=none) e rfl (Za h)
theorem A4(xs:List A)(h:1<=xs.length):gu xs (some 1) none=xs.drop 1:=yL h
section
variable{x y c:List Int}{R:List (List Int)}{L:List Int}(fF:kR c R L)(K:Kn c R L x y){sc:A}{i:Int}{o:LO}(lx:x.length=c.length)(bx:∀z∈x,0<=z/\z<=10^6)(bV:L2.Bd 900 (fQ c x))
include fF K lx bx bV
theorem ML{r:List Int}(V:r.length=c.length)(br:∀z∈r,z.natAbs<=10^6)(hm:R.length<=8)(Z:np x14=true):∃t,T2 (kU sc i o x y c R L c.length R.length x10 (.fr (.int (fQ c x))) x12 (.lv (.lst (r.map A.int))) x14 x15)=some (.nx,kU sc i o x y c R L c.length R.length x10 (.fr (.int (fQ c x))) x12 (.fr (lI r)) (.fr t) x15):=by
 have hn:=fF.n;have hl:=fF.l;have bd:(rq r x).natAbs<=6*10^12:=by rw[vL V lx];exact BB hn λj Q=>uh (br _ (cw Q1)) (by have:=bx _ (cw (c:=j) Q1);lia)
 have G:kR c (R++[r]) (L++[rq r x-1]):=⟨hn,by simp;lia,by simp[hl],λq T=>by
  rcases QO.mp T with z|z
  .exact fF.r q z
  .rw[Rc.mp z];exact V,fF.bc,λq T=>by
  rcases QO.mp T with z|z
  .exact fF.br q z
  .rw[Rc.mp z];exact λw O=>Rn (br w O) Z2,DY fF.bl Q1⟩
 obtain⟨t,v,p⟩:=tH G;have F:=oZ (a:=r) (b:=x) Q1 (λz hz=>by have:=br z hz;lia) (λz hz=>by have:=bx z hz;lia);have B:∀e,dS (ay aK (aa 7) (dj (cC (aa 13)))) (kU sc i o x y c R L c.length R.length x10 (.fr (.int (fQ c x))) x12 (.lv (.lst (r.map A.int))) e x15)=some (.ok (.fr (gI (R++[r]))),kU sc i o x y c R L c.length R.length x10 (.fr (.int (fQ c x))) x12 (.fr (lI r)) e x15):=λe=>by refine gH (ah rfl (gE (rs:=[.rf 13]) rfl rfl) (B9 (ys:=[lI r]) (by simp;lia) _)) ?_;show some (_,_)=some (RI (Rr.fr (.lst ((R++[r]).map lI))),_);rw[Rq];rfl
 have H:∀e,dS (ay aK (aa 8) (dj (cC (ay fE (aX aR (cq (ag 13) (ag 5))) (aC 1))))) (kU sc i o x y c R L c.length R.length x10 (.fr (.int (fQ c x))) x12 (.fr (lI r)) e x15)=some (.ok (.fr (lI (L++[rq r x-1]))),kU sc i o x y c R L c.length R.length x10 (.fr (.int (fQ c x))) x12 (.fr (lI r)) e x15):=λe=>by refine gH (ah rfl (gE (rs:=[.fr (.int (rq r x-1))]) (ae (ah (az (ae rfl (ae rfl rfl)) (bj F.v _)) rfl rfl) rfl) rfl) (Aj (ys:=[.int (rq r x-1)]) rfl (by simp;lia))) ?_;show some (_,_)=some (RI (Rr.fr (.lst ((L++[rq r x-1]).map A.int))),_);rw[Rq];rfl
 have h:aE 14 (aX cu (eQ (ag 9) (dS (ay aK (aa 7) (dj (cC (aa 13))))) (dS (ay aK (aa 8) (dj (cC (ay fE (aX aR (cq (ag 13) (ag 5))) (aC 1)))))))) (kU sc i o x y c R L c.length R.length x10 (.fr (.int (fQ c x))) x12 (.lv (.lst (r.map A.int))) x14 x15)=some (.nx,kU sc i o x y c R L c.length R.length x10 (.fr (.int (fQ c x))) x12 (.fr (lI r)) (.fr t) x15):=aW (i:=14) (az (ae rfl (ae (B x14) (ae (H x14) rfl))) (bj v _)) rfl rfl Z rfl;refine⟨t,dD h ?_⟩;rcases D6 hl K p with ⟨as,rfl⟩|⟨s,w,as,rfl,hs,le,bs,bw⟩
 .exact dr (dM (r9 rfl Z2) (qo (r9 rfl Z2))) rfl
 .have E:=qO (Fj bV) (NB.dz (show s≠0 by lia) bw bs) Z2 Z2;rw[Oo hs,Zc (Vk.mpr le)] at E;exact dr (dM (r9 rfl Z2) (jO (r9 rfl Z2) (aG (az (ae (fv (ae rfl (ae rfl rfl)) rfl) (ae (MA rfl) rfl)) (bj E _))))) rfl
theorem Eb(hm:1<=R.length)(e:np x15=true):∃t,T3 (kU sc i o x y c R L c.length R.length x10 (.fr (.int (fQ c x))) x12 x13 x14 x15)=some (.nx,kU sc i o x y c R L c.length R.length x10 (.fr (.int (fQ c x))) x12 x13 x14 (.fr t)):=by
 have hn:=fF.n;have hl:=fF.l;have G:kR c (R.drop 1) (L.drop 1):=⟨hn,by have:=fF.m;simp;exact qw,by simp[hl],λq T=>fF.r q (Uv T),fF.bc,λq T=>fF.br q (Uv T),λq T=>fF.bl q (Uv T)⟩
 obtain⟨t,v,p⟩:=tH G;have F:dS (bT (aa 7) (aT (aC 1)) aB) (kU sc i o x y c R L c.length R.length x10 (.fr (.int (fQ c x))) x12 x13 x14 x15)=some (.ok (.fr (gI (R.drop 1))),kU sc i o x y c R L c.length R.length x10 (.fr (.int (fQ c x))) x12 x13 x14 x15):=by show some (RI (Rr.fr (.lst (gu (R.map lI) (some 1) none))),_)=_;rw[A4 _ (by simpa using hm),<-UG]
 have H:dS (bT (aa 8) (aT (aC 1)) aB) (kU sc i o x y c R L c.length R.length x10 (.fr (.int (fQ c x))) x12 x13 x14 x15)=some (.ok (.fr (lI (L.drop 1))),kU sc i o x y c R L c.length R.length x10 (.fr (.int (fQ c x))) x12 x13 x14 x15):=by show some (RI (Rr.fr (.lst (gu (L.map A.int) (some 1) none))),_)=_;rw[A4 _ (by simp;lia),<-UG]
 have Z:aE 15 (aX cu (eQ (ag 9) (dS (bT (aa 7) (aT (aC 1)) aB)) (dS (bT (aa 8) (aT (aC 1)) aB)))) (kU sc i o x y c R L c.length R.length x10 (.fr (.int (fQ c x))) x12 x13 x14 x15)=some (.nx,kU sc i o x y c R L c.length R.length x10 (.fr (.int (fQ c x))) x12 x13 x14 (.fr t)):=aW (az (ae rfl (ae F (ae H rfl))) (bj v _)) rfl rfl e rfl;refine⟨t,dD Z ?_⟩;rcases DW hl K p with ⟨as,rfl⟩|⟨s,w,as,rfl,hs,le,bs,bw⟩
 .exact dr (dM (r9 rfl Z2) (qo (r9 rfl Z2))) rfl
 .have E:=qO (NB.dz (show s≠0 by lia) bw bs) (Fj bV) Z2 Z2;rw[Pc hs,Zc (Vk.mpr le)] at E;exact dr (dM (r9 rfl Z2) (jO (r9 rfl Z2) (aG (az (ae (MA rfl) (ae (fv (ae rfl (ae rfl rfl)) rfl) rfl)) (bj E _))))) rfl
end
theorem vF{a b c:Int}(h:a+b=c)(Z:List Sl):kX aK (.fr (.int a)) (.fr (.int b)) Z=some (.ok (.fr (.int c)),Z):=by rw[<-h];rfl
theorem NF(a b c:Ms):ao (ao a b) c=ao a (ao b c):=by
 funext Z
 unfold ao
 cases a Z with
 |none=>rfl
 |some p=>obtain⟨f,U⟩:=p;cases f<;>rfl
def PJ:Ms:=ao (aE 2 (aX fG (cq (ag 0) (ag 1)))) (ao (aE 3 (ay aK (aC 1) (aX a7 (cq (aa 2) (aC 5))))) (ao (aE 4 (ay aK (aC 1) (aX a7 (cq (aa 2) (aC 5))))) (ao (aE 5 (aH 1 (cD (aa 3)) (aL 16) aF (aX a8 (cC (aa 2))))) (ao (aE 6 (aH 1 (cD (aa 4)) (aL 16) aF (aX a8 (cC (aa 2))))) (ao (aE 7 (aH 1 (cD (aa 4)) (aL 16) aF (aH 1 (cD (aa 3)) (aL 17) aF (aX ck (cC (aa 2)))))) (ao (aE 8 (aH 2 (gN (aa 7) (aa 6)) (G2 16 17) aF NT)) (ao (aE 9 (dj kS)) (ao (gQ (cD (aa 3)) (aL 10) NU) (ao (aE 11 (aX aR (cq (ag 9) (ag 5)))) (ao T1 (ao (aE 13 (aH 1 (cD (aa 3)) (aL 16) aF (aX ck (cC (aa 2))))) (ao T2 T3))))))))))))
theorem Jq:NW=PJ:=by unfold PJ;simp only[T1,T2,NF];rfl
theorem DH{i:Int}(i0:0<=i)(i1:i<=1000){E h:Sl}(h2:np x2=true)(h3:np x3=true)(h4:np x4=true)(h5:np x5=true)(h6:np E=true)(h7:np h=true)(h8:np x8=true)(h9:np x9=true)(Y:np x10=true)(B:np x11=true)(H:np x12=true)(t:np x13=true)(G:np x14=true)(P:np x15=true):
  Wp NW (wG (.lst (ns.map A.int)) (.fr (.int i)) x2 x3 x4 x5 E h x8 x9 x10 x11 x12 x13 x14 x15) λf Z=>f=.nx/\∃x2 x3 x4 x5 E h x8 x9 x10 x11 x12 x13 x14 x15,Z=wG (.lst (ns.map A.int)) (.fr (.int i)) x2 x3 x4 x5 E h x8 x9 x10 x11 x12 x13 x14 x15/\(np x2=true/\np x3=true/\np x4=true/\np x5=true/\np E=true/\np h=true/\np x8=true/\np x9=true/\np x10=true/\np x11=true/\np x12=true/\np x13=true/\np x14=true/\np x15=true):=by
 rw[Jq];obtain⟨o,v1,w0⟩:=GK ns i i0 i1;generalize A.lst (ns.map A.int)=sc at v1 ⊢;obtain⟨r1,o1,e1,a1,b1,w1⟩:=Pt 5 w0 Z2 Z2 Z2;obtain⟨r2,o2,e2,a2,b2,V⟩:=Pt 5 w1 Z2 Z2 Z2;obtain⟨n,hn⟩:∃n:Nat,1+r1=n:=⟨(1+r1).toNat,by lia⟩
 obtain⟨m,hm⟩:∃m:Nat,1+r2=m:=⟨(1+r2).toNat,by lia⟩
 refine Wp.st (U:=wG sc (.fr (.int i)) (.lv o) x3 x4 x5 E h x8 x9 x10 x11 x12 x13 x14 x15) (aW (az (ae rfl (ae rfl rfl)) (jq v1 _)) rfl rfl h2 rfl) ?_;refine Wp.st (U:=wG sc (.fr (.int i)) (.lv o1) (.fr (.int n)) x4 x5 E h x8 x9 x10 x11 x12 x13 x14 x15) (aW (ah rfl (az (rs:=[.rf 2,.fr (.int 5)]) rfl (e1 _ _ _)) (vF hn _)) rfl rfl h3 rfl) ?_;refine Wp.st (U:=wG sc (.fr (.int i)) (.lv o2) (.fr (.int n)) (.fr (.int m)) x5 E h x8 x9 x10 x11 x12 x13 x14 x15) (aW (ah rfl (az (rs:=[.rf 2,.fr (.int 5)]) rfl (e2 _ _ _)) (vF hm _)) rfl rfl h4 rfl) ?_;obtain⟨x,o3,e3,D,p,w3⟩:=jI lB (a0:=.fr sc) (a1:=.fr (.int i)) (rest:=[.fr (.int n),.fr (.int m),x5,E,h,x8,x9,x10,x11,x12,x13,x14,x15]) (i:=16) rfl V n Q1 Z2 (mm:=aa 3) rfl;refine Wp.st (U:=wG sc (.fr (.int i)) (.lv o3) (.fr (.int n)) (.fr (.int m)) (.lv (.lst (x.map A.int))) E h x8 x9 x10 x11 x12 x13 x14 x15) (aW e3 rfl rfl h5 rfl) ?_;obtain⟨y,o4,e4,ly,Q,w4⟩:=jI lB (a0:=.fr sc) (a1:=.fr (.int i)) (rest:=[.fr (.int n),.fr (.int m),.lv (.lst (x.map A.int)),E,h,x8,x9,x10,x11,x12,x13,x14,x15]) (i:=16) rfl w3 m Q1 Q1 (mm:=aa 4) rfl;refine Wp.st (U:=wG sc (.fr (.int i)) (.lv o4) (.fr (.int n)) (.fr (.int m)) (.lv (.lst (x.map A.int))) (.lv (.lst (y.map A.int))) h x8 x9 x10 x11 x12 x13 x14 x15) (aW e4 rfl rfl h6 rfl) ?_;obtain⟨R,o5,e5,lR,X,w5⟩:=By qH (a0:=.fr sc) (a1:=.fr (.int i)) (rest:=[.fr (.int n),.fr (.int m),.lv (.lst (x.map A.int)),.lv (.lst (y.map A.int)),h,x8,x9,x10,x11,x12,x13,x14,x15]) (i:=16) rfl w4 n m Q1 Q1 Q1 (mm:=aa 4) (mk:=aa 3) rfl (λ_ _=>rfl);refine Wp.st (U:=wG sc (.fr (.int i)) (.lv o5) (.fr (.int n)) (.fr (.int m)) (.lv (.lst (x.map A.int))) (.lv (.lst (y.map A.int))) (.lv (.lst (R.map lI))) x8 x9 x10 x11 x12 x13 x14 x15) (aW e5 rfl rfl h7 rfl) ?_;obtain⟨L,g,s5,e6,lL,w6,N,hL⟩:=ze (a0:=.fr sc) (a1:=.fr (.int i)) (x3:=.fr (.int n)) (x4:=.fr (.int m)) (x8:=x8) (x9:=x9) (x10:=x10) (x11:=x11) (x12:=x12) (x13:=x13) (x14:=x14) (x15:=x15) (x:=x) (y:=y) (R:=R) (n:=n) Q1 D X p Q1 Q1 (.inl rfl) w5 Q1;obtain rfl:s5=.fr (lI x):=by
  rcases N with z|⟨z,_⟩
  .exact z
  .lia
 refine Wp.st (U:=wG sc (.fr (.int i)) (.lv g) (.fr (.int n)) (.fr (.int m)) (.fr (lI x)) (.fr (lI y)) (.fr (gI R)) (.lv (.lst (L.map A.int))) x9 x10 x11 x12 x13 x14 x15) (aW (bE (as:=kC (R.map lI) (y.map A.int)) rfl e6) rfl rfl h8 rfl) ?_;refine Wp.st (U:=yb (.fr sc) (.fr (.int i)) g (.fr (.int n)) (.fr (.int m)) x y R (.lv (.lst (L.map A.int))) [] x10 x11 x12 x13 x14 x15) (aW (gE (rs:=[]) rfl rfl) rfl rfl h9 rfl) ?_;refine Wp.sq (Wp.fr (b:=NU) (as:=bS 0 n) (λj Z=>∃(o':LO)(c:List Int)(x10:Sl),Z=yb (.fr sc) (.fr (.int i)) o' (.fr (.int n)) (.fr (.int m)) x y R (.lv (.lst (L.map A.int))) c x10 x11 x12 x13 x14 x15/\np x10=true/\Wl (17000+2000+10*j) o'/\c.length=j/\∀q,q<j->(c.getD q 0<=(Sx.su R.length λk=>(R.getD k []).getD q 0*y.getD k 0)/\(x.getD q 0≠0->c.getD q 0=Sx.su R.length λk=>(R.getD k []).getD q 0*y.getD k 0))/\(c.getD q 0).natAbs<=7*10^12) (j4 (n:=n) rfl Q1) ⟨g,[],x10,rfl,Y,w6.mono Q1,rfl,λq T=>absurd T (RZ q)⟩ ?_ ?_)
 .rintro j a Z ha ⟨o',c,s,rfl,hy,w,lc,hc⟩;obtain⟨F,rfl⟩:=pG ha;refine⟨yb (.fr sc) (.fr (.int i)) o' (.fr (.int n)) (.fr (.int m)) x y R (.lv (.lst (L.map A.int))) c (.fr (.int j)) x11 x12 x13 x14 x15,iN (S:=[.fr sc,.fr (.int i),.lv o',.fr (.int n),.fr (.int m),.fr (lI x),.fr (lI y),.fr (gI R),.lv (.lst (L.map A.int)),.lv (.lst (c.map A.int))]) (tl:=[x11,x12,x13,x14,x15]) rfl hy,Wp.mono (CD F Q1 D X p Q Q1 Q1 Q1 w Q1) ?_⟩;rintro f Z ⟨rfl,o2,d,rfl,V,hd,bd⟩;refine⟨.inl rfl,o2,c++[d],_,rfl,rfl,V.mono Q1,by simp[lc],λq T=>?_⟩;by_cases e:q=j
  .rw[e,Sx.cT Q1,show j-c.length=0 by lia];exact⟨hd,bd⟩
  .rw[Sx.cR Q1];exact hc q Q1
 .rintro O ⟨o7,c,s,rfl,hy,w7,lc,hc⟩;rw[gk] at lc hc w7;refine⟨rfl,?_⟩;subst lc;subst lR;have bc:∀z∈c,z.natAbs<=7*10^12:=FC rfl λq T=>(hc q T).2;have f:kR c R L:=⟨by lia,by lia,lL,λr u=>(X r u).1,λz hz=>Rn (bc z hz) Z2,λr u z hz=>Rn ((X r u).2 z hz) Z2,FC lL λq T=>Rn (hL q T).2 Z2⟩
  have K:Kn c R L x y:=⟨λj F=>(p _ (cw Q1)).1,λk hk=>(Q _ (cw Q1)).1,λq T=>(hL q T).1,λq T=>(hc q T).1⟩
  have bV:L2.Bd 900 (fQ c x):=L2.Bd.mono (BA (b:=128) (λj F=>by
   have p1:L2.Bd 64 (c.getD j 0):=by have:=bc _ (cw F);show _<2^64;lia
   have p2:L2.Bd 64 (x.getD j 0):=by have:=p _ (cw (c:=j) Q1);show _<2^64;lia
   exact p1.mul p2) Q1) Z2
  have vp:=oZ (a:=c) (b:=x) Q1 (λz hz=>by have:=bc z hz;lia) (λz hz=>by have:=p z hz;lia);rw[vL rfl D] at vp;refine Wp.st (U:=kU sc i o7 x y c R L c.length R.length s (.fr (.int (fQ c x))) x12 x13 x14 x15) (aW (az (ae rfl (ae rfl rfl)) (bj vp.v _)) rfl rfl B rfl) ?_;obtain⟨C,l⟩:=L7 f K (sc:=sc) (i:=i) (o:=o7) (x10:=s) (x13:=x13) (x14:=x14) (x15:=x15) H;refine Wp.st l ?_;obtain⟨r,I,e8,lr,br,w8⟩:=jI qH (a0:=.fr sc) (a1:=.fr (.int i)) (rest:=[.fr (.int c.length),.fr (.int R.length),.fr (lI x),.fr (lI y),.fr (gI R),.lv (.lst (L.map A.int)),.fr (lI c),s,.fr (.int (fQ c x)),.fr C,x13,x14,x15]) (i:=16) rfl w7 c.length Q1 Q1 (mm:=aa 3) rfl;refine Wp.st (U:=kU sc i I x y c R L c.length R.length s (.fr (.int (fQ c x))) (.fr C) (.lv (.lst (r.map A.int))) x14 x15) (aW e8 rfl rfl t rfl) ?_;obtain⟨J,z14⟩:=ML f K (sc:=sc) (i:=i) (o:=I) (x10:=s) (x12:=.fr C) (x14:=x14) (x15:=x15) D p bV lr br Q1 G;refine Wp.st z14 ?_;obtain⟨t15,z15⟩:=Eb f K (sc:=sc) (i:=i) (o:=I) (x10:=s) (x12:=.fr C) (x13:=.fr (lI r)) (x14:=.fr J) (x15:=x15) D p bV Q1 P;exact Wp.en z15 ⟨rfl,_,_,_,_,_,_,_,_,_,_,_,_,_,_,rfl,rfl,rfl,rfl,rfl,rfl,rfl,rfl,rfl,hy,rfl,rfl,rfl,rfl,rfl⟩
theorem DU:∀j,j<=61->He 0 ((j:Nat):Int) 15=true/\Au 0 ((j:Nat):Int) 15<=5:=by decide +kernel
theorem law_true:∀ns:List Int,ns.length<=63->∃Z,nk.M [.fr (.lst (ns.map A.int))]=some (.rt (.fr (.bl true)),Z):=by
 intro ns E;show ∃Z,M4 [.fr (.lst (ns.map A.int))]=some (.rt (.fr (.bl true)),Z);obtain⟨j,V,F⟩:∃j:Nat,(∀Z,ay aK (F9 wm (cE dy (aa 0)) (aC 60)) (aC 1) (.fr (.lst (ns.map A.int))::Z)=some (.ok (.fr (.int j)),.fr (.lst (ns.map A.int))::Z))/\j<=61:=by
  refine⟨min ns.length 60+1,λZ=>?_,by lia⟩;refine ah (x:=.fr (.int (if (60:Int)<((ns.map A.int).length:Int) then 60 else ((ns.map A.int).length:Int)))) (y:=.fr (.int 1)) rfl rfl (fu (o:=none) rfl rfl ?_);show some (Rr.fr (.int ((if (60:Int)<((ns.map A.int).length:Int) then 60 else ((ns.map A.int).length:Int))+1)))=_;rw[QU]
  congr 3
  split<;>lia
 obtain⟨s1,s2⟩:=DU j F;have C:sx (aC 0) (ay aK (F9 wm (cE dy (aa 0)) (aC 60)) (aC 1)) (aC 15) (wG (.lst (ns.map A.int)) .un .un .un .un .un .un .un .un .un .un .un .un .un .un .un)=some (.ok (si 0 15 (Au 0 j 15)),wG (.lst (ns.map A.int)) .un .un .un .un .un .un .un .un .un .un .un .un .un .un .un):=by refine bk (x:=.fr (.int 0)) rfl (bk (V _) (bk (x:=.fr (.int 15)) rfl ?_));show (if He 0 (j:Int) 15=true then some (RI (si 0 15 (Au 0 j 15)),_) else none)=_;rw[Za s1]
 suffices Wp (cG 15 (ao (gQ (sx (aC 0) (ay aK (F9 wm (cE dy (aa 0)) (aC 60)) (aC 1)) (aC 15)) (aL 1) NW) (bZ (mC (.bl true))))) [.fr (.lst (ns.map A.int))] λg _=>g=.rt (.fr (.bl true)) by obtain⟨f,Z,e,rfl⟩:=this;exact⟨Z,e⟩
 refine Wp.df (Wp.sq (Wp.Qi (b:=NW) (si 0 15 (Au 0 j 15)) (λZ=>∃x1 x2 x3 x4 x5 z r x8 x9 x10 x11 x12 x13 x14 x15,Z=wG (.lst (ns.map A.int)) x1 x2 x3 x4 x5 z r x8 x9 x10 x11 x12 x13 x14 x15/\np x1=true/\(np x2=true/\np x3=true/\np x4=true/\np x5=true/\np z=true/\np r=true/\np x8=true/\np x9=true/\np x10=true/\np x11=true/\np x12=true/\np x13=true/\np x14=true/\np x15=true)) C ⟨_,_,_,_,_,_,_,_,_,_,_,_,_,_,_,rfl,rfl,rfl,rfl,rfl,rfl,rfl,rfl,rfl,rfl,rfl,rfl,rfl,rfl,rfl,rfl⟩ ?_ ?_))
 .rintro a p Z ⟨x1,x2,x3,x4,x5,z,r,x8,x9,x10,x11,x12,x13,x14,x15,rfl,h1,h2,h3,h4,h5,R,D,m,K,Y,B,H,t,G,P⟩;obtain⟨i,hi,rfl⟩:=Rx.mp p;have hi:=RJ.mp hi;refine⟨_,iN (S:=[.fr (.lst (ns.map A.int))]) (tl:=[x2,x3,x4,x5,z,r,x8,x9,x10,x11,x12,x13,x14,x15]) rfl h1,Wp.mono (DH (i:=0+(i:Nat)*15) Q1 Q1 h2 h3 h4 h5 R D m K Y B H t G P) ?_⟩;rintro f Z' ⟨rfl,Q,X,U,T,L,n,N,l,s,c,v,w,k,q,rfl,hy⟩;exact⟨.inl rfl,_,Q,X,U,T,L,n,N,l,s,c,v,w,k,q,rfl,rfl,hy⟩
 .rintro O ⟨x1,x2,x3,x4,x5,z,r,x8,x9,x10,x11,x12,x13,x14,x15,rfl,h⟩;exact⟨rfl,Wp.en (aV rfl rfl) rfl⟩
end W
set_option maxHeartbeats 4000000
theorem PySem.Challenge.cw_fitwhatever_k34_bests_that_are_known_holds : PySem.Challenge.rw_fitwhatever_k34_bests_that_are_known.Holds :=
 W.fin W.law_true
#print axioms PySem.Challenge.cw_fitwhatever_k34_bests_that_are_known_holds
