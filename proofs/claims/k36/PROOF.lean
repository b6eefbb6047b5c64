import PyProof.Rows.All
import Wide.All
import OpenK.AllK
import Wide.FinOn
import Lean
import PyProof.EqAt
import PyProof.EqKinds
import PyProof.TupleCall
import PyProof.StrLaws
import PySem.Challenge.RW_fitwhatever_k36_no_program
set_option genSizeOf false
set_option genInjectivity false
set_option bootstrap.genMatcherCode false
set_option compiler.extract_closed false
open Bool renaming and_eq_true->QZ,not_eq_true'->Rz,false_ne_true->RZ,or_eq_true->SH,and_true->Ta,and_false->Ux,and_self->UN,false_and->Vl,and_eq_true_iff->V1,eq_false_iff->Wi,eq_iff_iff->WE
open PySem.W renaming Frag->Q0,findIn->RV,kitOne->RW,keepIn->Sa,emptyDict->Se,instObj->SD,kitAny->SM,plainGet->Tn,excIn->Tu,callWith_K->TM,hasDictIn->T3,hideAll->Uh,methodCall_KW->Ui,lookIn->Uo,codeIn->Uq,exmOne->Ur,plainGet_of->Uw,methodObj->UE,isFn->UG,plainOver->UH,fnOf->UI,kitx_list->UK,kitx_dict->UL,nsIn->UM,takerIn->U2,makesIn->U3,mroIn->Vh,cellsFrom_some->Vs,hideAll_get->VF,of_hideAll->VQ,kitx_tuple->VU,mg_none_of->VW,specialIn->VY,handedIn->V5,takesIn->Wd,OpenLaw->Wf,WalkO->Ww,Hook->WK,looks_findIn->Zd,SharedT->Zn
open List renaming mem_append_right->Q2,replicate->Q3,getElem?_eq_some_iff->Q4,mem_cons_of_mem->Q5,append_assoc->Q6,length_map->Q7,mem_append_left->Q8,length_cons->Rb,mem_cons->Rc,mem_append->Rf,mem_cons_self->Rg,size_toArray->Ri,nodup_append->Rj,lookup_cons->Rk,getElem?_set_self->Rl,length_append->Rn,range->Rp,all_cons->Rt,getElem?_set_ne->Rx,getElem?_eq_getElem->Ry,mem_singleton->RC,nodup_cons->RD,lookup_append->RI,map_map->RK,getD->RL,getElem?_map->RN,map_cons->RO,map_append->RP,getElem?_append_right->RT,append_nil->RX,mem_map->RY,not_mem_nil->R1,mem_of_getElem?->R4,isEmpty_iff->R6,all_eq_true->R8,getElem?_append_left->R9,map_congr_left->Sg,contains_iff_mem->Si,mem_range->Sm,length_take->So,perm_middle->Ss,getD_eq_getElem?_getD->Sy,getElem?_eq_none->Sz,ext_getElem?->SI,eraseIdx_eq_take_drop_succ->SN,filterMap_cons->SO,getElem?_range->SQ,mem_of_mem_take->SW,map_nil->SY,cons_append->S2,getElem?_eq_none_iff->S3,getElem?_zip_eq_some->S4,drop_eq_getElem_cons->S5,replicate_succ->S6,perm_iff_count->S7,getElem_of_mem->S8,eq_of_mem_replicate->Tc,of_mem_zip->Td,zip_cons_cons->Tf,count_append->Th,filter_eq_nil_iff->Ti,length_replicate->Tv,length_singleton->Tw,perm_append_comm->Tx,take_append_drop->Tz,drop_length->TB,lookup->TF,length_zip->TL,all_nil->TU,idxOf_lt_length_of_mem->TV,mem_filterMap->TZ,sublist_append_right->T4,any_eq_false->T5,flatten_cons->T6,reverse_cons->T7,map_take->Ub,map_set->Ul,nil_append->Ut,set_append_right->Uv,foldl->UO,getElem_range->UP,set_eq_take_append_cons_drop->UT,take_sublist->UW,take_add_one->UX,length_range->UY,mem_filter->Vb,length_set->Vc,getElem?_take_of_lt->Vx,map_drop->VA,getElem?_replicate->VC,getElem?_cons_zero->VE,range_succ_eq_map->VJ,all_map->VL,any_map->VM,getElem_cons_drop->VO,take_of_length_le->VP,any->V0,getElem_inj->Wo,length_drop->Wr,nil_sublist->Ws,map_reverse->Wt,take_length->Wv,countP_cons->Wy,nodup_range->Wz,any_eq_true->WA,ext_getElem->WB,getElem_map->WC,forIn_cons->WG,sum_append->WI,append_inj->WJ,map->WO,drop_zero->WS,any_cons->WU,drop_nil->WX,map_id'->W9,length->Xe
open Nat renaming le_refl->Q9,lt_of_lt_of_le->Rh,le_of_lt->Ru,lt_succ_of_lt->Rw,lt_irrefl->RB,le_trans->RG,ne_of_lt->RH,lt_succ_self->RM,lt_succ_of_le->RS,le_of_ble_eq_true->R0,zero_le->Sd,not_lt_zero->Sn,le_add_right->Sv,ble->SE,lt_trans->SJ,lt_of_le_of_lt->Tg,ne_of_gt->Tj,pow_pos->TH,mul_comm->TY,le_of_lt_succ->T9,add_sub_cancel_left->Uk,le_of_eq->Up,not_lt->Us,sub_self->Uu,le_succ->Uz,pow_le_pow_right->UA,zero_add->U6,succ_pos->U8,succ_ne_zero->Va,eq_of_mul_eq_mul_left->Vy,mul_assoc->VD,min_self->VT,sub_zero->VV,log2_lt->V7,pow_add->V8,one_mul->Wb,le_succ_of_le->Wu,lt_trichotomy->Wx,le_max_right->WD,le_max_left->WN,mul_le_mul->WW,succ_mul->Xi,pow_succ->Xl
open PySem.Heap renaming get?_push_of_some->Rm,lt_size->Rq,get?_push_size->RF,size_push->SV,SameBut->UU,get?_update_other->VH,FlyingW->VI,get?_none_of_le->VX,MadeExcOf->WM
open Option.some renaming inj->Rv,injEq->Vz
open PySem renaming mem_of_lookup->RE,Str->Vt,Within->VB,call->V6,starEach->XU,wpAny_bind->XW,bootBuiltins->XX,wpAny_pure->XY,model->XZ,wpAny->X0,World->X1,backTo->X4,mainGlobals->X6,attributeBase->X7,Around->X8,FuncData->X9,keywordEach->Yb,swapsWith->Yc,wpAny_mono->Yd,assignEach->Ye,foldedSetIterable->Yg,behindInMarks->Yh,compareOp->Yi,wpAny_passesOwn->Yj,wpAny_newObj_type->Yk,backToKw->Yl,Keyword->Ym,cellsFrom->Yn,sizeLine_eq->Yo,wpAny_Call_Name_kw->Yp,wpAny_execs_nil->Yr,swappedStores->Ys,wpAny_truthy_bool->Yt,binaryOp->Yu,methodCallForm->Yv,wpAny_holding->Yx,swapsWithSole->Yy,codeAny->Yz,letOwnedTupleGo->YA,CmpOp->YB,codeAny_mono->YC,standAt->YE,sliceBounds->YF,wpAny_pyIter_list->YG,wpAny_standAt->YH,wpAny_comprehension_free->YJ,Comprehension->YK,wpAny_execs_cons->YL,PassesOwn->YM,getMethod->YN,treeTable->YO,builtinsNs->YQ,wpAny_pyNext_range_end->YR,wpAny_pyIter_rangeiter->YS,BindsTo->YU,callerA->YW,codeAny_builtin->YX,wpAny_loadPart'->YY,wpAny_isTrue_Compare1->YZ,codeAny_call_builtin->Y0,newFunctionEnv->Y1,assignInOrder->Y2,sysModules->Y3,wpAny_pyIter_range->Y4,wpAny_call->Y5,IsPart->Y6,call_meets->Y7,wpAny_assign_Name->Y8,bindName->Za,callWith->Zb,seqIndex_neg->Zc,wpAny_pyIter_enum->Ze,FuncBody->Zf,isTrue->Zg,pushCells->Zh,IsRangeIter->Zi,wpAny_field->Zj,seqIndex_of->Zk,getItem->Zl,wpAny_Name->Zo,Operator->Zp,Result->Zq,bindL->Zr,bindC->Zs,typeIs_int->Zt,IntMulOk->Zu
open Int renaming mul_comm->RJ,mul_zero->RQ,ne_of_gt->R5,natAbs_mul->Sf,add_zero->Sk,one_mul->Su,eq_of_mul_eq_mul_right->SA,zero_mul->SK,le_of_lt->SR,le_refl->SX,mul_fdiv_cancel_left->Te,fmod_nonneg_of_pos->To,gcd->Tp,zero_add->Ts,le_of_eq->Tt,gcd_pos_of_ne_zero_right->TN,neg_one_mul->TQ,toNat_natCast->Ua,mul_assoc->Ue,le_trans->Um,mul_one->Uy,mul_ediv_cancel'->UB,ofNat->UD,lt_or_gt_of_ne->UR,fmod_lt_of_pos->US,gcd_comm->U4,gcd_dvd_right->U5,mul_add->Vf,mul_ne_zero->Vi,fdiv_eq_ediv_of_dvd->VN,natAbs_dvd_natAbs->VZ,mul_pos->Wa,gcd_zero_right->Wn,gcd_dvd_left->WH,mul_eq_zero->WR,natAbs_neg->WV,add_nonneg->WY,mul_nonneg->WZ,lt_or_le->Xk,neg_dvd->Xp,natAbs->XR,not_lt->XT
open Except renaming ok->RU
open Option renaming isNone_iff_eq_none->R3,getD_some->UZ,getD_none->We,map_some->Wm
open Ne renaming symm->R7
open PyProof.Rows renaming callWith_type1->Sb,slot_tuple_getitem->S9,callWith_builtin1->Xn,envOfC->Xq,list_addW->Xr,Call_->Xu,zipApart_new->Xv,AllBare->Yw,assignInOrder_cons->YD,envOfC->YI,boot_range->YT,subscriptTail_builtinR->YV,assignInOrder_nil->Y9,IntsAre->Zm
open List.Sublist renaming append->Sj,refl->Sr
open False renaming elim->Sw
open PySem.Builtin.Range renaming rangeSize->SF,small->Ug
open PySem.Value renaming ref->SG,int->Uc,builtin->UC,none->V2,bool->V3,str->Wg,bytes->W0,float->W2,type->Xa
open PySem.Builtin.Slice renaming slicePlaces->SS,sliceAdjust->TC,sliceApplied->UJ,slicePartIndex->Xf,sliceFields->Xg
open PySem.Builtin.Tuple renaming tupleExact->SU,tupleItemsOf->Xh
open ForInStep renaming yield->S0
open PySem.NameKind renaming free->S1,cell->Vd
open Array renaming length_toList->TJ,getElem?_eq_getElem->Vo,append_assoc->V4,toList->WT
open PySem.Builtin.List renaming listTooLong->TK,listFitsIndex->Xs
open PySem.MeetsSeq renaming plain_index_loop->TR,entry_index_loop->U9
open PySem.F renaming plainAttrs_list->T8,slot_list_append->Vj,type_list_append->Vk,slot_list_index->Vp,excAttr_ValueError->Wh,excBase_ValueError->Wj,slot_int_rmul->W8
open Rat renaming divInt_eq_divInt_iff->Ud,divInt->XO
open PySem.SeqAt renaming EqAt->Uj
open PySem.Obj renaming mapSeq->UQ
open Sum renaming inl->U0,inr->U1
open PySem.Builtin renaming divisionGoesByPylong->U7
open PySem.Calls renaming Name_function_global->Vg,evalArgs_plain->VS
open List.Pairwise renaming nil->Vm,map->Vr
open PySem.Builtin.Int renaming intBits->Vn
open Nat.succ renaming inj->Vq
open PySem.SeqAt.EqAt renaming int_str->Vu,str_int->Vv
open PySem.Around renaming under->Vw
open PySem.Code renaming isFrame->VG,frames->Xd
open True renaming intro->Wc
open PySem.IsRange renaming new->WL
open PySem.W.SharedT renaming abs->WQ
open PySem.CmpOp renaming NotIn->W3,In->XM
open PySem.Walks renaming range->W4,list->Xj
open PySem.Heap.IsSliceOf renaming new->W5
open PySem.W.WShape renaming has->W6
open Or renaming inr->W7
open PySem.W.Looks renaming here->Xb
open PySem.Within renaming cons->Xm
open PySem.W.WData renaming int->Xo
open PySem.W.Fast renaming tw11892475500146522536->Xw,tw14364793385576792824->Xx,tw6613529449190102663->Xy,tw10156331382660048174->Xz,tw10274390034422433532->XA,tw14289696077712309145->XB,tw4187177175401517315->XC,te11892475500146522536->XD,te14364793385576792824->XE,te6613529449190102663->XF,te10156331382660048174->XG,te10274390034422433532->XH,te14289696077712309145->XI,te4187177175401517315->XJ
open PySem.Flow renaming next->XN
open Nat.Coprime renaming dvd_of_dvd_mul_left->XQ
theorem Q1{p:Prop}(h:p:=by lia):p:=h
theorem Z1{p:Prop}(h:p:=by decide):p:=h
theorem Z2{p:Prop}(h:p:=by decide +kernel):p:=h
theorem Z3{p:Prop}(h:p:=by simp):p:=h
theorem Zv:type_of% @if_pos:=@if_pos
theorem Zw:type_of% @if_neg:=@if_neg
theorem Zx:type_of% @decide_eq_false:=@decide_eq_false
theorem Zy:type_of% @decide_eq_true:=@decide_eq_true
theorem Zz:type_of% @congrArg:=@congrArg
theorem ZA:type_of% @beq_iff_eq:=@beq_iff_eq
theorem ZC:type_of% @of_decide_eq_true:=@of_decide_eq_true
set_option linter.all false
variable{b:Int}
theorem Kf{n a:Int}(h:n<a:=by assumption)(d:decide (a<=b)=true:=by decide):n<b:=Int.lt_of_lt_of_le h (ZC d)
variable{k:Int}
theorem NR{n a:Int}(h:n<a:=by assumption)(d:decide (a+k<=b)=true:=by decide):n+k<b:=Kf (Int.add_lt_add_right h k) d
variable{l:Int}
theorem QL{n a:Int}(h:n<a:=by assumption)(d:decide (a+k+l<=b)=true:=by decide):n+k+l<b:=NR (NR h (Zy (SX _))) d
theorem QX{n a p:Int}(h:n<a:=by assumption)(d:decide (a+k+l+p<=b)=true:=by decide):n+k+l+p<b:=QL (NR h (Zy (SX _))) d
theorem QW{n a:Int}(h:n<=a:=by assumption)(d:decide (a<=b)=true:=by decide):n<=b:=Um h (ZC d)
variable{m:Int}
theorem Qq{n:Int}(d:decide (k<=m)=true:=by decide):n+k<=n+m:=Int.add_le_add_left (ZC d) n
theorem QY{n:Int}(d:decide (k+l<=m)=true:=by decide):n+k+l<=n+m:=Int.add_assoc n k l▸Qq d
variable{x y z:Nat}
theorem mK(h:x<=y:=by assumption)(d:decide (y<=z)=true:=by decide):x<=z:=RG h (ZC d)
theorem Z4{p:Prop}(h:p:=by exact mK):p:=h
theorem Oe{c:Nat}(h:x<=y:=by assumption)(d:decide (y+c<=z)=true:=by decide):x+c<=z:=mK (Nat.add_le_add_right h c) d
theorem Qj(h:x<=y:=by assumption)(d:decide (y<z)=true:=by decide):x<z:=Tg h (ZC d)
theorem Qv(h:x<y:=by assumption)(d:decide (y<=z)=true:=by decide):x<z:=Rh h (ZC d)
theorem Qk(d:decide (y<=z)=true:=by decide):x+y<=x+z:=Nat.add_le_add_left (ZC d) x
theorem QF(h:x<y:=by assumption)(d:decide (y<=z+1)=true:=by decide):x<=z:=T9 (Qv h d)
variable{P:Prop}
theorem cu{α:Type}{x:α}(h:none=some x):P:=nomatch h
theorem yW(h:false=true):P:=nomatch h
set_option Elab.async false
set_option maxRecDepth 100000
abbrev eV(x:Vt):Prop:=(x==("__debug__" : Vt))=false
abbrev pE(x:Vt):Prop:=(x==("__classdict__" : Vt))=false
noncomputable section
namespace L2
open PySem PySem.Spec PyProof.Rows
noncomputable abbrev Key:=Sum Int Str
noncomputable def E9:Key->Value->Bool
 | .inl k,v=>Value.isInt k v
 | .inr x,v=>Value.isStrOf x v
noncomputable def OP(w:X1):Key->Int
 | .inl k=>hashInt k
 | .inr x=>hashStr w x
theorem bQ:∀{k:Key}{v:Value},E9 k v=true->(∃i t,k=U0 i/\v=Uc i t)\/(∃x t,k=U1 x/\v=Wg x t)
 | .inl i,v,h=>by obtain⟨t,e⟩:=Value.isInt_shape (k:=i) (v:=v) h;exact .inl ⟨i,t,rfl,e⟩
 | .inr x,v,h=>by obtain⟨t,e⟩:=Value.isStrOf_shape (x:=x) (v:=v) h;exact .inr ⟨x,t,rfl,e⟩
theorem G7(a b:Int):decide ((U0 a:Key)=U0 b)=(a==b):=by
 by_cases e:a=b
 .subst e;simp
 .have h:¬ (U0 a:Key)=U0 b:=λq=>e (U0.inj q);rw[Zx h];exact(beq_eq_false_iff_ne.mpr e).symm
theorem FE(a b:Str):decide ((U1 a:Key)=U1 b)=decide (a=b):=by
 by_cases e:a=b
 .subst e;simp
 .have h:¬ (U1 a:Key)=U1 b:=λq=>e (U1.inj q);simp only[Zx h,Zx e]
theorem Jl(a:Int)(b:Str):decide ((U0 a:Key)=U1 b)=false:=Zx (λq=>nomatch q)
theorem GO(a:Str)(b:Int):decide ((U1 a:Key)=U0 b)=false:=Zx (λq=>nomatch q)
def hJ(prog:Program)(w:X1):PySem.KeyKind prog w Key where
 is:=E9
 hash:=OP w
 inj:=λv a b ha d=>by
  rcases bQ ha with ⟨i,t,rfl,rfl⟩|⟨x,t,rfl,rfl⟩
  .rcases bQ d with ⟨j,u,rfl,e⟩|⟨y,u,rfl,e⟩
   .injection e with e1 _;rw[e1]
   .exact nomatch e
  .rcases bQ d with ⟨j,u,rfl,e⟩|⟨y,u,rfl,e⟩
   .exact nomatch e
   .injection e with e1 _;rw[e1]
 byValue:=λk v h=>by rcases bQ h with ⟨i,t,rfl,rfl⟩|⟨x,t,rfl,rfl⟩<;>rfl
 pyHash:=λc h=>by
  rcases bQ c with ⟨i,t,rfl,rfl⟩|⟨x,t,rfl,rfl⟩
  .exact wpAny_pyHash_int h
  .exact wpAny_pyHash_str h
 eqBool:=λf c h=>by
  rcases bQ f with ⟨i,t,rfl,rfl⟩|⟨x,t,rfl,rfl⟩
  .rcases bQ c with ⟨j,u,rfl,rfl⟩|⟨y,u,rfl,rfl⟩
   .rw[G7] at h;exact wpAny_eqBool_int h
   .rw[Jl] at h;exact Vu i t y u _ _ _ _ h
  .rcases bQ c with ⟨j,u,rfl,rfl⟩|⟨y,u,rfl,rfl⟩
   .rw[GO] at h;exact Vv x t j u _ _ _ _ h
   .rw[FE] at h;exact wpAny_eqBool_str h
 «strs»:=λk x t v h=>by
  rcases bQ h with ⟨i,u,rfl,e⟩|⟨y,u,rfl,e⟩
  .exact nomatch e
  .injection e with e1 _;subst e1;cases v<;>rfl
inductive V where
 |non|bl(b:Bool)|int(i:Int)|str(x:Str)|byt(b:Array UInt8)|flt(b:UInt64)|ref(a:Addr)|ty(n:String)
 deriving DecidableEq
def RelV:V->Value->Prop
 | .non,u=>u=V2
 | .bl b,u=>u=V3 b
 | .int i,u=>∃t,u=Uc i t
 | .str x,u=>∃t,u=Wg x t
 | .byt b,u=>∃t,u=W0 b t
 | .flt b,u=>∃t,u=W2 b t
 | .ref a,u=>u=SG a
 | .ty n,u=>u=Xa n
abbrev Vals:List V->List Value->Prop:=Paired RelV
theorem Vals.length{xs:List V}{us:List Value}(r:Vals xs us):xs.length=us.length:=Paired.length r
theorem Vals.get:∀{xs:List V}{us:List Value}{i:Nat}{x:V},Vals xs us->xs[i]?=some x->∃u,us[i]?=some u/\RelV x u
 |_,_,_,_,.nil,e=>by simp at e
 |_,_,0,_,.cons r _,e=>by simp at e;subst e;exact⟨_,rfl,r⟩
 |_,_,i+1,x,.cons _ t,e=>by obtain⟨u,h1,h2⟩:=Vals.get (i:=i) (x:=x) t (by simpa using e);exact⟨u,by simpa using h1,h2⟩
theorem Vals.set{x:V}{u:Value}(r:RelV x u):∀{xs:List V}{us:List Value}(i:Nat),Vals xs us->Vals (xs.set i x) (us.set i u)
 |_,_,_,.nil=>.nil
 |_,_,0,.cons _ t=>.cons r t
 |_,_,i+1,.cons q t=>.cons q (Vals.set r i t)
theorem Vals.append:∀{xs ys:List V}{us ws:List Value},Vals xs us->Vals ys ws->Vals (xs++ys) (us++ws)
 |_,_,_,_,.nil,s=>s
 |_,_,_,_,.cons r t,s=>.cons r (Vals.append t s)
theorem Vals.take:∀{xs:List V}{us:List Value}(n:Nat),Vals xs us->Vals (xs.take n) (us.take n)
 |_,_,0,_=>.nil
 |_,_,_+1,.nil=>.nil
 |_,_,n+1,.cons r t=>.cons r (Vals.take n t)
theorem Vals.drop:∀{xs:List V}{us:List Value}(n:Nat),Vals xs us->Vals (xs.drop n) (us.drop n)
 |_,_,0,r=>r
 |_,_,_+1,.nil=>.nil
 |_,_,n+1,.cons _ t=>Vals.drop n t
theorem Vals.none_of:∀{xs:List V}{us:List Value}{i:Nat},Vals xs us->xs[i]?=none->us[i]?=none:=λ{xs us i} r e=>by have h1:=r.length;have h2:xs.length<=i:=S3.mp e;exact S3.mpr Q1
def mT:Option V->Option Value->Prop
 |some v,some u=>RelV v u
 |none,none=>True
 |_,_=>False
def KV{a:Type}:List (a×V)->List (a×Value)->Prop:=Paired λ(p:a×V)(q:a×Value)=>p.1=q.1/\RelV p.2 q.2
noncomputable def kV:Key->V
 | .inl i=>.int i
 | .inr x=>.str x
inductive HO where
  |lst(xs:List V)
  |tup(xs:List V)
  |dK(kvs:List (Key×V))|dT(kvs:List (List Key×V))
  |set(S:Int->Bool)(n:Nat)
  |ins(C dx:Addr)(fs:List (Str×V))
  |own(x:Addr)
  |xd(fs:List (Str×V))
  |met(f x:Addr)
  |v7(lo hi:Int)
  |frz(o:Obj)(u:HO)
  |tbl(ps:Array Value)
  |ext(Z:Heap->Prop)
 |exd(Z:Heap->Prop)
noncomputable abbrev Hp:=Addr->Option HO
noncomputable def upd(H:Hp)(a:Addr)(o:HO):Hp:=λb=>if b=a then some o else H b
variable{H:Hp}
theorem aF{a:Addr}{o:HO}:upd H a o a=some o:=by unfold upd;rw[Zv rfl]
theorem aj{a b:Addr}{o:HO}(h:b≠a):upd H a o b=H b:=by unfold upd;rw[Zw h]
theorem uG{a:Addr}{o u:HO}:upd (upd H a o) a u=upd H a u:=by funext b;unfold upd;split<;>rfl
theorem aH{a b:Addr}{o:HO}(h:H a=some o)(h':H b=none):a≠b:=by intro e;subst e;rw[h] at h';cases h'
variable{h:Heap}
section
variable(P:Program)(w:X1)
def iO(h:Heap)(a:Addr)(items:Array Value):Prop:=∃o,h.get? a=some o/\o.cls=.type "tuple" /\ ∃n,o.data=.seq items n/\o.dict=none
theorem iO.t{a:Addr}{items:Array Value}(x:iO h a items):IsTup h a items:=let ⟨o,e,c,n,d,_⟩:=x;⟨o,e,c,n,d⟩
theorem iO.new(h:Heap)(items:Array Value):iO (h.push { cls:=.type "tuple",data:=.seq items }) h.objs.size items:=⟨_,RF _ rfl,rfl,_,rfl,rfl⟩
def cy(H:Hp)(h:Heap)(a:Addr):HO->Prop
 | .lst xs=>xs.length<=sizeLine/\∃(b:List Value)(n:Nat),Vals xs b/\h.get? a=some { cls:=.type "list",data:=.seq b.toArray n }
 | .tup xs=>xs.length<=sizeLine/\∃b:List Value,Vals xs b/\iO h a b.toArray
 | .dK kvs=>kvs.length<=sizeLine/\(a==Y3)=false/\∃vs,KV kvs vs/\h.DictOf (hJ P w) a vs
 | .dT kvs=>kvs.length<=sizeLine/\(a==Y3)=false/\∃xs:List (List Key×Addr×Value),
   Paired (λ(p:List Key×V)(q:List Key×Addr×Value)=>p.1=q.1/\H q.2.1=some (.tup (p.1.map kV))/\RelV p.2 q.2.2) kvs xs /\
   ∃o es e,h.get? a=some o/\o.ExactDict/\o.data=.dict es e/\es.toList=xs.map (entryOfKey (tupleKind (hJ P w)))/\(xs.map (·.1)).Nodup
 | .set S n=>h.SetOf (intKind P w) a S n
 | .ins C dx fs=>H dx=some (.own a)/\fs.length<=1000/\dx≠a/\h.get? a=some (SD C dx) /\
   ∃mA,h.Ns1 dx mA/\(∀f,mT (fs.lookup f) (mA f))/\VB mA (fs.map (·.1))
 | .own _=>∃o,h.get? a=some o
 | .xd fs=>∃mA,h.Ns1 a mA/\∀f,mT (fs.lookup f) (mA f)
 | .v7 lo hi=>∃t u v,h.get? a=some { cls:=.type "range",data:=.fields #[.int lo t,.int hi u,.int 1 v] }
 | .frz o u=>h.get? a=some o/\cy H h a u
 | .tbl ps=>h.get? a=some { cls:=.none,data:=.fields ps }
 | .met f x=>h.get? a=some (UE (.ref f) (.ref x))
 | .ext Z=>Z h/\(∃o,h.get? a=some o)/\∀h1 h2:Heap,Z h1->(∀o,h1.get? a=some o->h2.get? a=some o)->Z h2
 | .exd Z=>Z h/\(∃o,h.get? a=some o)/\∀h1 h2:Heap,Z h1->(∀o,h1.get? a=some o->h2.get? a=some o)->Z h2
def iZ(H:Hp)(h:Heap):Prop:=∀a o,H a=some o->cy P w H h a o
end
section
variable{P:Program}{w:X1}{H H':Hp}{h h':Heap}{a:Addr}{o:HO}
theorem cy.lt(x:cy P w H h a o):a<h.objs.size:=by
 cases o with
 |lst xs=>obtain⟨_,_,_,_,e⟩:=x;exact Rq e
 |tup xs=>obtain⟨_,_,_,p⟩:=x;exact p.t.lt
 |dK kvs=>obtain⟨_,_,_,_,o,_,_,e,_⟩:=x;exact Rq e
 |dT kvs=>obtain⟨_,_,_,_,o,_,_,e,_⟩:=x;exact Rq e
 |set S n=>obtain⟨o,_,_,_,e,_⟩:=x;exact Rq e
 |ins C dx fs=>obtain⟨_,_,_,e,_⟩:=x;exact Rq e
 |own y=>obtain⟨_,e⟩:=x;exact Rq e
 |xd fs=>obtain⟨_,⟨_,_,_,e,_⟩,_⟩:=x;exact Rq e
 |v7 lo hi=>obtain⟨_,_,_,e⟩:=x;exact Rq e
 |frz ob u=>obtain⟨e,_⟩:=x;exact Rq e
 |tbl ps=>exact Rq (show h.get? a=some _ from x)
 |met f y=>exact Rq (show h.get? a=some _ from x)
 |ext Z=>obtain⟨_,⟨_,e⟩,_⟩:=x;exact Rq e
 |exd Z=>obtain⟨_,⟨_,e⟩,_⟩:=x;exact Rq e
theorem Paired.MV{α D:Type}{F G:α->D->Prop}:∀{l₁:List α}{l₂:List D},Paired F l₁ l₂->(∀a b,F a b->G a b)->Paired G l₁ l₂
 |_,_,.nil,_=>.nil
 |_,_,.cons r t,f=>.cons (f _ _ r) (Paired.MV t f)
theorem cy.gD(x:cy P w H h a o)(k:∀b u,(b=a\/H b=some (.own a))->h.get? b=some u->h'.get? b=some u)
  (ho:∀b,H b=some (.own a)->H' b=some (.own a))(j:∀b xs,H b=some (.tup xs)->H' b=some (.tup xs)):cy P w H' h' a o:=by
 induction o with
 |lst xs=>obtain⟨z,i,n,r,e⟩:=x;exact⟨z,i,n,r,k _ _ (.inl rfl) e⟩
 |tup xs=>obtain⟨z,i,r,ob,e,c⟩:=x;exact⟨z,i,r,ob,k _ _ (.inl rfl) e,c⟩
 |dK kvs=>obtain⟨z,y,vs,r,ob,es,g,e,c⟩:=x;exact⟨z,y,vs,r,ob,es,g,k _ _ (.inl rfl) e,c⟩
 |dT kvs=>obtain⟨z,y,xs,r,ob,es,g,e,c⟩:=x;exact⟨z,y,xs,Paired.MV r λp q z=>⟨z.1,j _ _ z.2.1,z.2.2⟩,ob,es,g,k _ _ (.inl rfl) e,c⟩
 |set S n=>obtain⟨ob,es,g,t,e,c⟩:=x;exact⟨ob,es,g,t,k _ _ (.inl rfl) e,c⟩
 |ins C dx fs=>obtain⟨d,z,ne,e,mA,⟨od,es,g,e2,c⟩,r⟩:=x;exact⟨ho _ d,z,ne,k _ _ (.inl rfl) e,mA,⟨od,es,g,k _ _ (.inr d) e2,c⟩,r⟩
 |own y=>obtain⟨ob,e⟩:=x;exact⟨ob,k _ _ (.inl rfl) e⟩
 |xd fs=>obtain⟨mA,⟨od,es,g,e,c⟩,r⟩:=x;exact⟨mA,⟨od,es,g,k _ _ (.inl rfl) e,c⟩,r⟩
 |v7 lo hi=>obtain⟨t,u,v,e⟩:=x;exact⟨t,u,v,k _ _ (.inl rfl) e⟩
 |frz ob u l=>obtain⟨e,q⟩:=x;exact⟨k _ _ (.inl rfl) e,l q⟩
 |tbl ps=>have e:h.get? a=some { cls:=.none,data:=.fields ps }:=x;show h'.get? a=some { cls:=.none,data:=.fields ps };exact k a _ (.inl rfl) e
 |met f y=>have e:h.get? a=some (UE (.ref f) (.ref y)):=x;show h'.get? a=some (UE (.ref f) (.ref y));exact k a _ (.inl rfl) e
 |ext Z=>obtain⟨p,⟨o,e⟩,st⟩:=x;exact⟨st _ _ p λo q=>k _ _ (.inl rfl) q,⟨o,k _ _ (.inl rfl) e⟩,st⟩
 |exd Z=>obtain⟨p,⟨o,e⟩,st⟩:=x;exact⟨st _ _ p λo q=>k _ _ (.inl rfl) q,⟨o,k _ _ (.inl rfl) e⟩,st⟩
theorem iZ.lt(x:iZ P w H h)(e:H a=some o):a<h.objs.size:=(x a o e).lt
theorem iZ.fresh(x:iZ P w H h)(e:h.objs.size<=a):H a=none:=by
 cases q:H a with
 |none=>rfl
 |some u=>exact absurd (Rh (x.lt q) e) (RB _)
theorem iZ.kept(x:iZ P w H h)(k:∀b u,h.get? b=some u->h'.get? b=some u):iZ P w H h':=λa o e=>(x a o e).gD (λb u _ q=>k b u q) (λ_ q=>q) λ_ _ q=>q
theorem iZ.laid(x:iZ P w H h)(k:∀b u,h.get? b=some u->h'.get? b=some u)(hp:h.objs.size<=a)(new:cy P w (upd H a o) h' a o):iZ P w (upd H a o) h':=λb u e=>by
 have hn:=x.fresh hp;by_cases d:b=a
 .subst d;rw[aF] at e;cases e;exact new
 .rw[aj d] at e;exact(x b u e).gD (λc v _ q=>k c v q) (λc q=>by rw[aj (aH q hn)];exact q) λc xs q=>by rw[aj (aH q hn)];exact q
end
def Rd(H:Hp)(a:Addr)(u:HO):Prop:=H a=some u\/∃o,H a=some (.frz o u)
variable{w:X1}
theorem Rd.ok{P:Program}{a:Addr}{u:HO}(r:Rd H a u)(x:iZ P w H h):cy P w H h a u:=by
 rcases r with r|⟨o,r⟩
 .exact x a u r
 .obtain⟨_,q⟩:=x a _ r;exact q
def NP:Option HO->Prop
 |some (.lst _)=>True
 |some (.dK _)=>True
 |some (.dT _)=>True
 |some (.set _ _)=>True
 |some (.ins _ _ _)=>True
 |some (.ext _)=>True
 |some (.exd _)=>True
 |_=>False
section
variable{P:Program}{w:X1}{H:Hp}{h h':Heap}{x e:Addr}{o':HO}
theorem iZ.write(ok:iZ P w H h)(mu:NP (H x))(he:e=x\/H e=some (.own x))(k:∀b u,b≠e->h.get? b=some u->h'.get? b=some u)(p:∃u,h'.get? e=some u)
  (new:cy P w (upd H x o') h' x o'):iZ P w (upd H x o') h':=λb u q=>by
 have n:∀c y,H c=some (.own y)->c≠x:=λc y r z=>by subst z;rw[r] at mu;exact mu
 have o:∀c xs,H c=some (.tup xs)->c≠x:=λc xs r z=>by subst z;rw[r] at mu;exact mu
 by_cases d:b=x
 .subst d;rw[aF] at q;cases q;exact new
 .rw[aj d] at q;by_cases m:b=e
  .have s:H b=some (.own x):=by
    rcases he with z|z
    .exact absurd (m.trans z) d
    .rw[m];exact z
   rw[q] at s;cases s;obtain⟨v,t⟩:=p;exact⟨v,by rw[m];exact t⟩
  .refine(ok b u q).gD (λc v hc r=>k c v ?_ r) (λc r=>by rw[aj (n c b r)];exact r) λc xs r=>by rw[aj (o c xs r)];exact r
   rcases hc with rfl|hc
   .exact m
   .rintro rfl;rcases he with z|z
    .exact n c b hc z
    .rw[hc] at z;cases z;exact d rfl
end
structure Un(fs ex:List Addr)(H H':Hp)(h h':Heap):Prop where
 keep:∀b o,h.get? b=some o->H b=none->b∉fs->b∉ex->h'.get? b=some o
 slot:∀b o,h.get? b=some o->H b=none->b∈fs->b∉ex->∃sl,h'.get? b=some { o with slots:=sl }
 free:∀b o,h.get? b=some o->H b=none->b∉ex->H' b=none
 there:∀b o,h.get? b=some o->b∉ex->∃o',h'.get? b=some o'
 tups:∀b xs,H b=some (.tup xs)->H' b=some (.tup xs)
 frzs:∀b o u,H b=some (.frz o u)->H' b=some (.frz o u)
 tbls:∀b ps,H b=some (.tbl ps)->∃more,H' b=some (.tbl (ps++more))
section
variable{fs Z0 ex ex':List Addr}{H H1 H2:Hp}{h h1 h2 h':Heap}{a x e:Addr}{o:HO}
theorem Un.any(u:Un fs ex H H1 h h1){b:Addr}{ob:Obj}(q:h.get? b=some ob)(n:H b=none)(hx:b∉ex):∃sl,h1.get? b=some { ob with slots:=sl }:=by
 by_cases d:b∈fs
 .exact u.slot b ob q n d hx
 .exact⟨ob.slots,u.keep b ob q n d hx⟩
theorem Un.kept(k:∀b u,h.get? b=some u->h'.get? b=some u):Un fs ex H H h h':=
 ⟨λb ob q _ _ _=>k b ob q,λb ob q _ _ _=>⟨ob.slots,k b ob q⟩,λ_ _ _ n _=>n,λb ob q _=>⟨ob,k b ob q⟩,λ_ _ q=>q,λ_ _ _ q=>q,λ_ ps q=>⟨#[],by rw[q];rfl⟩⟩
theorem Un.refl:Un fs ex H H h h:=Un.kept λ_ _ q=>q
theorem Un.laid(k:∀b u,h.get? b=some u->h'.get? b=some u)(hp:h.objs.size<=a)(hn:H a=none):Un fs ex H (upd H a o) h h' where
 keep:=λb u q _ _ _=>k b u q
 slot:=λb u q _ _ _=>⟨u.slots,k b u q⟩
 free:=λb u q n _=>by rw[aj (RH (Rh (Rq q) hp))];exact n
 there:=λb u q _=>⟨u,k b u q⟩
 tups:=λb xs q=>by rw[aj (aH q hn)];exact q
 frzs:=λb u xs q=>by rw[aj (aH q hn)];exact q
 tbls:=λb ps q=>⟨#[],by rw[aj (aH q hn),q];simp⟩
theorem Un.write(mu:NP (H x))(he:e=x\/H e=some (.own x))(k:∀b u,b≠e->h.get? b=some u->h'.get? b=some u)(p:∃u,h'.get? e=some u):Un fs ex H (upd H x o) h h':=by
 have hx:∀b,H b=none->b≠x:=λb n z=>by subst z;rw[n] at mu;exact mu
 have d:∀b,H b=none->b≠e:=λb n z=>by
  subst z;rcases he with r|r
  .exact hx b n r
  .rw[n] at r;cases r
 have hm:∀b u,H b=some u->¬ NP (some u)->b≠x:=λb u q nm z=>by subst z;rw[q] at mu;exact nm mu
 refine⟨λb u q n _ _=>k b u (d b n) q,λb u q n _ _=>⟨u.slots,k b u (d b n) q⟩,λb u q n _=>by rw[aj (hx b n)];exact n,λb u q _=>?_,
  λb xs q=>by rw[aj (hm b _ q λz=>z)];exact q,λb u xs q=>by rw[aj (hm b _ q λz=>z)];exact q,λb ps q=>⟨#[],by rw[aj (hm b _ q λz=>z),q];simp⟩⟩
 by_cases m:b=e
 .subst m;exact p
 .exact⟨u,k b u m q⟩
end
noncomputable def Ja(h:Heap)(H:Hp):List Addr:=(Rp h.objs.size).filter λa=>(H a).isSome
def oS(h:Heap)(H:Hp):Heap:=Uh h (Ja h H)
theorem vV(h:Heap)(H:Hp):(oS h H).objs.size=h.objs.size:=PySem.W.hideAll_size _ _
variable{o:Obj}
theorem xM{b:Addr}(e:h.get? b=some o)(n:H b=none):(oS h H).get? b=some o:=
 VF _ e λhm=>by have q:(H b).isSome=true:=(Vb.mp hm).2;rw[n] at q;simp at q
theorem Dz{b:Addr}(e:(oS h H).get? b=some o):h.get? b=some o/\H b=none:=by
 have k:h.get? b=some o:=VQ (Ja h H) e;refine⟨k,?_⟩;cases q:H b with
 |none=>rfl
 |some x=>have hm:b∈Ja h H:=Vb.mpr ⟨Sm.mpr (Rq k),by simp[q]⟩;have z:(oS h H).get? b=none:=PySem.W.hideAll_none (Ja h H) hm;rw[z] at e;cases e
noncomputable def DG(g h:Heap)(L:Addr):List (Addr×Obj):=(Rp h.objs.size).filterMap λa=>if a=L\/(g.get? a).isSome=true then none else (h.get? a).map λo=>(a,o)
def rest(g h:Heap)(L d:Addr):List (Addr×Obj):=(DG g h L).filter λp=>decide (p.1≠d)
structure Mod(K:Q0)(mg:Str->Option Value)(base:Heap):Prop where
 kin:K.In base
 glob:base.Ns X6 mg
 blt:∃mb,base.Ns YQ mb/\∀x:Str,x ≠ "__name__" -> mb x=XX x
 nolimit:base.NoLimit
structure Cx where
 prog:Program
 w:X1
 K:Q0
 mg:Str->Option Value
 base:Heap
 A:X8
 N:List Str
 s₀:Shared
 H₀:Hp
 env:Env
 outer:List Env
 stack:List Env
 ex:List Addr
 fn:Str->Bool
 calm:Bool
 pn:List (Addr×Obj)
 xe:Value->Shared->Prop
noncomputable def dG(l:List Env):List Addr:=l.filterMap (·.frame)
abbrev Cx.fs(X:Cx):List Addr:=dG X.outer
def mL(sc:Scope)(x:Str):Prop:=sc.names.lookup x=some .local\/sc.names.lookup x=some .cell\/sc.names.lookup x=some .free
def Loc(sc:Scope)(x:Str):Prop:=sc.names.lookup x=some .local\/sc.names.lookup x=some .cell
def Look(env:Env)(h:Heap)(m:Str->Option Value)(x:Str)(u:Value):Prop:=
 (env.kindOf x=some .local/\m x=some u)\/((env.kindOf x=some .cell\/env.kindOf x=some .free)/\∃c,env.cells.lookup x=some c/\h.IsCell c (some u))
structure Cx.Ok(X:Cx):Prop where
 mod:Mod X.K X.mg X.base
 kind:X.env.scope.kind=.function
 glob:X.env.globals=X6
 blt:X.env.builtins=YQ
 above:X.s₀.heap.objs.size<=X.env.locals
 inj:∀x y c,X.env.cells.lookup x=some c->X.env.cells.lookup y=some c->x=y
 has:∀x,(X.env.kindOf x=some .cell\/X.env.kindOf x=some .free)->∃c,X.env.cells.lookup x=some c
 cab:∀x c,X.fn x=true->X.env.cells.lookup x=some c->X.s₀.heap.objs.size<=c
 hd:X.calm=true->X.A.handled=none
 frames:X.A.frames=some X.stack
 stk:X.stack=X.outer\/(X.stack=X.env::X.outer/\X.env.frame=some X.env.locals)
 exf:∀b∈X.ex,b≠X.env.locals/\∀x c,X.env.cells.lookup x=some c->c≠b
 bs:∀b o,X.base.get? b=some o->X.s₀.heap.get? b=some o/\X.H₀ b=none
 bsz:X.base.objs.size<=X.s₀.heap.objs.size
 noex:∀b o,X.base.get? b=some o->b∉X.ex
 exfs:∀b∈X.ex,b∉X.fs
 jz:X.s₀.heap.FunFrames X.base X.outer
 frf:∀b∈X.fs,X.H₀ b=none
structure Inv(X:Cx)(pins:List (Addr×Obj))(Y:List (Option V))(H:Hp)(s:Shared):Prop where
 ok:X.Ok
 os:s.os=X.s₀.os
 bare:Yw s.gens
 base:Un X.fs X.ex X.H₀ H X.s₀.heap s.heap
 loc:∃m,s.heap.Ns X.env.locals m/\∀(i:Nat)(x:Str)(v:V),X.N[i]?=some x->Y[i]?=some (some v)->mL X.env.scope x->∃u,RelV v u/\Look X.env s.heap m x u
 cell:∀x c,X.env.cells.lookup x=some c->∃v,s.heap.IsCell c v
 free:H X.env.locals=none
 freeC:∀x c,X.env.cells.lookup x=some c->H c=none
 pin:∀p∈X.pn++pins,s.heap.get? p.1=some p.2/\H p.1=none/\p.1≠X.env.locals/\p.1∉X.fs/\∀v,p.2.data≠.cell v
 hok:iZ X.prog X.w H s.heap
 len:Y.length=X.N.length
variable{g':Array GenState}{t' i j:Nat}{d':Drawn}{ch:List Addr}{it:Addr}{N:List Str}{E:Value->Shared->Prop}{u:Value}
section
variable{X:Cx}{pins:List (Addr×Obj)}{Y:List (Option V)}{H H':Hp}{s:Shared}{h':Heap}
theorem Cx.Ok.Pn(ok:X.Ok){b:Addr}(e:X.base.get? b=some o):b∉X.fs:=λd=>by have:=(ok.jz.mem d).1;rw[e] at this;cases this
theorem Inv.bs(I:Inv X pins Y H s):∀b o,X.base.get? b=some o->s.heap.get? b=some o/\H b=none:=λb o e=>⟨I.base.keep b o (I.ok.bs b o e).1 (I.ok.bs b o e).2 (I.ok.Pn e) (I.ok.noex b o e),I.base.free b o (I.ok.bs b o e).1 (I.ok.bs b o e).2 (I.ok.noex b o e)⟩
theorem Inv.bk(I:Inv X pins Y H s):∀b o,X.base.get? b=some o->s.heap.get? b=some o:=λb o e=>(I.bs b o e).1
theorem Inv.mod(I:Inv X pins Y H s):Mod X.K X.mg X.base:=I.ok.mod
theorem Inv.ph(I:Inv X pins Y H s):X.K.In s.heap:=I.ok.mod.kin.keeps I.bk
theorem Inv.lt(I:Inv X pins Y H s):X.env.locals<s.heap.objs.size:=let ⟨_,hn,_⟩:=I.loc;hn.lt
theorem Inv.sz(I:Inv X pins Y H s):X.s₀.heap.objs.size<=s.heap.objs.size:=RG I.ok.above (Ru I.lt)
theorem Inv.NI(I:Inv X pins Y H s){a:Addr}(h:s.heap.objs.size<=a):a∉X.fs:=λd=>by obtain⟨_,o,ho,_⟩:=I.ok.jz.mem d;exact absurd (Rh (Rq ho) (RG I.sz h)) (RB _)
theorem Inv.DK(I:Inv X pins Y H s):∀x c,X.env.cells.lookup x=some c->c≠X.env.locals:=λx c e z=>by obtain⟨v,o,ho,hd⟩:=I.cell x c e;obtain⟨m,⟨o',es,g,h,q,_⟩,_⟩:=I.loc;simp only[z,h] at ho;cases ho;rw[q] at hd;cases hd
theorem Inv.jz(I:Inv X pins Y H s):s.heap.FunFrames X.base X.outer:=by
 have all:∀(l:List Env),(∀b∈dG l,b∈X.fs)->X.s₀.heap.FunFrames X.base l->s.heap.FunFrames X.base l:=by
  intro l;induction l with
  |nil=>intro _ _;trivial
  |cons env r u=>intro hs hl;obtain⟨hk,⟨L,o,hf,hn,ho,hd⟩,hr⟩:=hl;have hL:L∈X.fs:=hs L (by unfold dG;simp only[SO,hf];exact Rg);obtain⟨sl,e⟩:=I.base.slot L o ho (I.ok.frf L hL) hL λz=>I.ok.exfs L z hL;exact⟨hk,⟨L,_,hf,hn,e,hd⟩,u (λb d=>hs b (by unfold dG;simp only[SO,hf];exact Q5 _ d)) hr⟩
 exact all X.outer (λ_ d=>d) I.ok.jz
theorem Inv.stack(I:Inv X pins Y H s):s.heap.FunFrames X.base X.stack:=by
 rcases I.ok.stk with e|⟨e,hf⟩
 .rw[e];exact I.jz
 .rw[e];obtain⟨m,hn,_⟩:=I.loc;refine .cons (by rw[I.ok.kind];decide) hf hn ?_ I.jz;exact VX (RG I.ok.bsz I.ok.above)
theorem Inv.j4(I:Inv X pins Y H s):∀b∈dG X.stack,b∈X.env.locals::X.fs:=λb d=>by
 rcases I.ok.stk with e|⟨e,hf⟩
 .rw[e] at d;exact Q5 _ d
 .rw[e] at d;unfold dG at d;simp only[SO,hf] at d;exact d
theorem Inv.pP(I:Inv X pins Y H s):∀b∈dG X.stack,H b=none:=λb d=>by
 rcases Rc.mp (I.j4 b d) with e|d
 .rw[e];exact I.free
 .obtain⟨_,o,ho,_⟩:=I.ok.jz.mem d;exact I.base.free b o ho (I.ok.frf b d) λz=>I.ok.exfs b z d
theorem Inv.step(I:Inv X pins Y H s)
  (y:∀b∈ch,(b∈X.ex\/X.s₀.heap.objs.size<=b)/\b≠X.env.locals/\(∀x c,X.env.cells.lookup x=some c->c≠b)/\∀p∈X.pn++pins,p.1≠b)
  (keep:∀b o,b≠X.env.locals->b∉X.fs->b∉ch->s.heap.get? b=some o->H b=none->h'.get? b=some o)
  (slot:∀b o,b≠X.env.locals->b∈X.fs->b∉ch->s.heap.get? b=some o->H b=none->∃sl,h'.get? b=some { o with slots:=sl })(free:∀b o,b∉ch->s.heap.get? b=some o->H b=none->H' b=none)
  (there:∀b o,b∉ch->s.heap.get? b=some o->∃o',h'.get? b=some o')
  (tups:∀b xs,H b=some (.tup xs)->H' b=some (.tup xs))(frzs:∀b o u,H b=some (.frz o u)->H' b=some (.frz o u))(tbls:∀b ps,H b=some (.tbl ps)->∃more,H' b=some (.tbl (ps++more)))
  (ns:∀m,s.heap.Ns X.env.locals m->h'.Ns X.env.locals m)(hok:iZ X.prog X.w H' h')(G:Yw g'):
  Inv X pins Y H' { s with heap:=h',gens:=g',drawn:=d',toks:=t' }:=by
 have E:∀b o,X.s₀.heap.get? b=some o->b≠X.env.locals:=λb o e=>RH (Rh (Rq e) I.ok.above);have C:∀b o,X.s₀.heap.get? b=some o->b∉X.ex->b∉ch:=λb o e hx D=>by
  rcases(y b D).1 with z|z
  .exact hx z
  .exact absurd (Rh (Rq e) z) (RB _)
 have A:∀x c,X.env.cells.lookup x=some c->∀v,s.heap.IsCell c v->h'.IsCell c v:=λx c e v ⟨o,ho,hd⟩=>by
  have B:c∉ch:=λz=>(y c z).2.2.1 x c e rfl;by_cases hc:c∈X.fs
  .obtain⟨sl,q⟩:=slot c o (I.DK x c e) hc B ho (I.freeC x c e);exact⟨_,q,hd⟩
  .exact⟨o,keep c o (I.DK x c e) hc B ho (I.freeC x c e),hd⟩
 refine⟨I.ok,I.os,G,⟨λb o e n D hx=>?_,λb o e n D hx=>?_,λb o e n hx=>?_,λb o e hx=>?_,λb xs e=>tups b xs (I.base.tups b xs e),λb o xs e=>frzs b o xs (I.base.frzs b o xs e),λb ps e=>?_⟩,?_,λx c e=>?_,?_,λx c e=>?_,λp hp=>?_,hok,I.len⟩
 .exact keep b o (E b o e) D (C b o e hx) (I.base.keep b o e n D hx) (I.base.free b o e n hx)
 .obtain⟨sl,e1⟩:=I.base.slot b o e n D hx;obtain⟨F,e2⟩:=slot b _ (E b o e) D (C b o e hx) e1 (I.base.free b o e n hx);exact⟨F,e2⟩
 .obtain⟨o',e1⟩:=I.base.there b o e hx;exact free b o' (C b o e hx) e1 (I.base.free b o e n hx)
 .obtain⟨o',e1⟩:=I.base.there b o e hx;exact there b o' (C b o e hx) e1
 .obtain⟨J,e1⟩:=I.base.tbls b ps e;obtain⟨K,e2⟩:=tbls b _ e1;exact⟨J++K,by rw[e2,V4]⟩
 .obtain⟨m,hn,hl⟩:=I.loc;refine⟨m,ns m hn,λi x v e1 e2 L=>?_⟩;obtain⟨u,r,l⟩:=hl i x v e1 e2 L;refine⟨u,r,?_⟩;rcases l with l|⟨k,c,e,z⟩
  .exact .inl l
  .exact .inr ⟨k,c,e,A x c e _ z⟩
 .obtain⟨v,z⟩:=I.cell x c e;exact⟨v,A x c e v z⟩
 .obtain⟨m,⟨o,_,_,ho,_⟩,_⟩:=I.loc;exact free _ o (λz=>(y _ z).2.1 rfl) ho I.free
 .obtain⟨v,o,ho,hd⟩:=I.cell x c e;exact free c o (λz=>(y c z).2.2.1 x c e rfl) ho (I.freeC x c e)
 .obtain⟨e,n,ne,nf,d⟩:=I.pin p hp;have B:p.1∉ch:=λz=>(y p.1 z).2.2.2 p hp rfl;exact⟨keep p.1 p.2 ne nf B e n,free p.1 p.2 B e n,ne,nf,d⟩
theorem Inv.un(I:Inv X pins Y H s)(u:Un X.fs [] H H' s.heap h')(hok:iZ X.prog X.w H' h'):Inv X pins Y H' { s with heap:=h',toks:=t' }:=by
 obtain⟨m,⟨o,es,g,ho,r⟩,_⟩:=id I.loc;obtain⟨sl,hL⟩:=u.any ho I.free Z3;exact I.step (g':=s.gens) (d':=s.drawn) (ch:=[]) (λ_ z=>nomatch z) (λb o _ d _ e n=>u.keep b o e n d Z3) (λb o _ d _ e n=>u.slot b o e n d Z3) (λb o _ e n=>u.free b o e n Z3) (λb o _ e=>u.there b o e Z3) u.tups u.frzs u.tbls (λN hm=>by obtain⟨o',v,x,h,r'⟩:=hm;rw[ho] at h;cases h;exact⟨_,v,x,hL,r'⟩) hok I.bare
theorem Inv.call(I:Inv X pins Y H s)(u:Un (dG X.stack) ch H H' s.heap h')(hok:iZ X.prog X.w H' h')(G:Yw g')
  (y:∀b∈ch,(b∈X.ex\/X.s₀.heap.objs.size<=b)/\b≠X.env.locals/\(∀x c,X.env.cells.lookup x=some c->c≠b)/\∀p∈X.pn++pins,p.1≠b):
  Inv X pins Y H' { s with heap:=h',gens:=g',drawn:=d',toks:=t' }:=by
 obtain⟨m,⟨o,es,g,ho,r⟩,_⟩:=id I.loc;obtain⟨sl,hL⟩:=u.any ho I.free λz=>(y _ z).2.1 rfl;exact I.step (ch:=ch) y (λb o hL d hc e n=>u.keep b o e n (λz=>(Rc.mp (I.j4 b z)).elim hL d) hc) (λb o _ _ hc e n=>u.any e n hc) (λb o hc e n=>u.free b o e n hc) (λb o hc e=>u.there b o e hc) u.tups u.frzs u.tbls (λN hm=>by obtain⟨o',v,O,h,r'⟩:=hm;rw[ho] at h;cases h;exact⟨_,v,O,hL,r'⟩) hok G
theorem Inv.turned(I:Inv X pins Y H s)(k:∀b o,b≠it->s.heap.get? b=some o->h'.get? b=some o)(hn:H it=none)(hL:it≠X.env.locals)
  (h1:it∈X.ex\/X.s₀.heap.objs.size<=it)(h2:∀x c,X.env.cells.lookup x=some c->c≠it)(h3:∀p∈X.pn++pins,p.1≠it):Inv X pins Y H { s with heap:=h',toks:=t' }:=by
 have w:∀b u,H b=some u->b≠it:=λb u e z=>by rw[z,hn] at e;cases e
 refine I.step (g':=s.gens) (d':=s.drawn) (ch:=[it]) (λb d=>?_) (λb o _ _ hc e _=>k b o (λz=>hc (by simp[z])) e) (λb o _ _ hc e _=>⟨o.slots,k b o (λz=>hc (by simp[z])) e⟩) (λ_ _ _ _ n=>n)
  (λb o hc e=>⟨o,k b o (λz=>hc (by simp[z])) e⟩) (λ_ _ e=>e) (λ_ _ _ e=>e) (λb ps e=>⟨#[],by rw[e];simp⟩) (λm hm=>?_) (λb u e=>?_) I.bare
 .have e:b=it:=by simpa using d
  subst e;exact⟨h1,hL,h2,h3⟩
 .obtain⟨o,es,g,ho,r⟩:=hm;exact⟨o,es,g,k _ o (R7 hL) ho,r⟩
 .refine(I.hok b u e).gD (λc v hc q=>k c v ?_ q) (λ_ q=>q) λ_ _ q=>q;rcases hc with z|z
  .rw[z];exact w b u e
  .exact w c _ z
theorem Inv.tok(I:Inv X pins Y H s)(t:Nat):Inv X pins Y H { s with toks:=t }:=I.un (h':=s.heap) (t':=t) Un.refl I.hok
theorem Inv.kept{t':Nat}(I:Inv X pins Y H s)(k:∀b u,s.heap.get? b=some u->h'.get? b=some u):Inv X pins Y H { s with heap:=h',toks:=t' }:=I.un (Un.kept k) (I.hok.kept k)
theorem Inv.laid{a:Addr}{o:HO}{t':Nat}(I:Inv X pins Y H s)(k:∀b u,s.heap.get? b=some u->h'.get? b=some u)(hp:s.heap.objs.size<=a)(new:cy X.prog X.w (upd H a o) h' a o):
  Inv X pins Y (upd H a o) { s with heap:=h',toks:=t' }:=I.un (Un.laid k hp (I.hok.fresh hp)) (I.hok.laid k hp new)
theorem Inv.write{x e:Addr}{o:HO}{t':Nat}(I:Inv X pins Y H s)(mu:NP (H x))(he:e=x\/H e=some (.own x))(k:∀b u,b≠e->s.heap.get? b=some u->h'.get? b=some u)(p:∃u,h'.get? e=some u)
  (new:cy X.prog X.w (upd H x o) h' x o):Inv X pins Y (upd H x o) { s with heap:=h',toks:=t' }:=I.un (Un.write mu he k p) (I.hok.write mu he k p new)
theorem Inv.oJ{r:List (Addr×Obj)}(I:Inv X pins Y H s)(h:∀p∈r,s.heap.get? p.1=some p.2/\H p.1=none/\p.1≠X.env.locals/\p.1∉X.fs/\∀v,p.2.data≠.cell v):Inv X r Y H s:=
 ⟨I.ok,I.os,I.bare,I.base,I.loc,I.cell,I.free,I.freeC,λp hp=>(Rf.mp hp).elim (λz=>I.pin p (Q8 _ z)) (h p),I.hok,I.len⟩
theorem mI(hN:N.Nodup){x:Str}(a:N[i]?=some x)(b:N[j]?=some x):i=j:=by obtain⟨h1,e1⟩:=Q4.mp a;obtain⟨h2,e2⟩:=Q4.mp b;exact(Wo hN).mp (e1.trans e2.symm)
theorem nQ{M:Model}{A:X8}{x:Str}{v:V}{Q:Unit->Shared->Prop}(I:Inv X pins Y H s)(hN:X.N.Nodup)(hi:X.N[i]?=some x)(hx:Loc X.env.scope x)(r:RelV v u)
  (h:∀s',Inv X pins (Y.set i (some v)) H s'->(∃a,UU a s.heap s'.heap/\(a=X.env.locals\/X.env.cells.lookup x=some a))->Q () s')(hf:X.fn x=true\/X.env.scope.names.lookup x=some .local:=by first|exact .inl rfl|exact .inr rfl|assumption):X0 M A (storeName X.env x u) Q E s:=by
 obtain⟨m,hn,hl⟩:=id I.loc;have hcls:(X.env.scope.kind==.class || (X.env.scope.kind==.module&&X.env.locals != X.env.globals))=false:=by rw[I.ok.kind];rfl
 have hiσ:i<Y.length:=by rw[I.len];exact(Q4.mp hi).1
 have DK:=I.DK;have tracked:∀{a:Addr}{h':Heap},(∃o,s.heap.get? a=some o/\H a=none)->UU a s.heap h'->iZ X.prog X.w H h':=λ{a h'} ha hs b ob e=>by
  obtain⟨_,_,hfree⟩:=ha;refine(I.hok b ob e).gD (λc w' hc q=>(hs.2 c ?_).trans q) (λ_ q=>q) λ_ _ q=>q;rintro rfl;rcases hc with rfl|hc
  .rw[hfree] at e;cases e
  .rw[hfree] at hc;cases hc
 rcases hx with hk|hk
 .refine wpAny_storeName_local hk hn (λh' hn' hs=>?_) hcls;obtain⟨oL,_,_,hoL,_⟩:=id hn;refine h _ ⟨I.ok,I.os,I.bare,⟨λb o e n hb hx=>?_,λb o e n hb hx=>?_,I.base.free,λb o e hx=>?_,I.base.tups,I.base.frzs,I.base.tbls⟩,⟨_,hn',λj y v' e1 e2 e3=>?_⟩,λy c e=>?_,I.free,I.freeC,λp hp=>?_,tracked ⟨oL,hoL,I.free⟩ hs,by simpa using I.len⟩ ⟨_,hs,.inl rfl⟩
  .exact(hs.2 b (RH (Rh (Rq e) I.ok.above))).trans (I.base.keep b o e n hb hx)
  .obtain⟨sl,e1⟩:=I.base.slot b o e n hb hx;exact⟨sl,(hs.2 b (RH (Rh (Rq e) I.ok.above))).trans e1⟩
  .obtain⟨o',e1⟩:=I.base.there b o e hx;exact⟨o',(hs.2 b (RH (Rh (Rq e) I.ok.above))).trans e1⟩
  .by_cases hj:j=i
   .subst hj;rw[hi] at e1;cases e1;rw[Rl hiσ] at e2;cases e2;exact⟨u,r,.inl ⟨hk,by simp⟩⟩
   .rw[Rx (R7 hj)] at e2;obtain⟨u',r',q⟩:=hl j y v' e1 e2 e3;refine⟨u',r',?_⟩;rcases q with ⟨k,e⟩|⟨k,c,e,z⟩
    .refine .inl ⟨k,?_⟩;have:y≠x:=λe=>hj (mI hN e1 (e▸hi));simp[this,e]
    .exact .inr ⟨k,c,e,z.sameBut hs (DK y c e)⟩
  .obtain⟨w',z⟩:=I.cell y c e;exact⟨w',z.sameBut hs (DK y c e)⟩
  .obtain⟨e,n,ne,nf,d⟩:=I.pin p hp;exact⟨(hs.2 p.1 ne).trans e,n,ne,nf,d⟩
 .have hfn:X.fn x=true:=by
   rcases hf with z|z
   .exact z
   .rw[z] at hk;cases hk
  obtain⟨c,hc⟩:=I.ok.has x (.inl hk);obtain⟨w',z⟩:=I.cell x c hc;refine wpAny_storeName_cell I.ok.kind hk hc z (λh' hc' hs=>?_);obtain⟨oc,hoc,hocd⟩:=id z;refine h { s with heap:=h' } ⟨I.ok,I.os,I.bare,⟨λb o e n hb hx=>?_,λb o e n hb hx=>?_,I.base.free,λb o e hx=>?_,I.base.tups,I.base.frzs,I.base.tbls⟩,⟨m,hn.sameBut hs (R7 (DK x c hc)),λj y v' e1 e2 e3=>?_⟩,λy c' e=>?_,I.free,I.freeC,λp hp=>?_,tracked ⟨oc,hoc,I.freeC x c hc⟩ hs,by simpa using I.len⟩ ⟨c,hs,.inr hc⟩
  .exact(hs.2 b (RH (Rh (Rq e) (I.ok.cab x c hfn hc)))).trans (I.base.keep b o e n hb hx)
  .obtain⟨sl,e1⟩:=I.base.slot b o e n hb hx;exact⟨sl,(hs.2 b (RH (Rh (Rq e) (I.ok.cab x c hfn hc)))).trans e1⟩
  .obtain⟨o',e1⟩:=I.base.there b o e hx;exact⟨o',(hs.2 b (RH (Rh (Rq e) (I.ok.cab x c hfn hc)))).trans e1⟩
  .by_cases hj:j=i
   .subst hj;rw[hi] at e1;cases e1;rw[Rl hiσ] at e2;cases e2;exact⟨u,r,.inr ⟨.inl hk,c,hc,hc'⟩⟩
   .rw[Rx (R7 hj)] at e2;obtain⟨u',r',q⟩:=hl j y v' e1 e2 e3;refine⟨u',r',?_⟩;rcases q with q|⟨k,c',e,z'⟩
    .exact .inl q
    .refine .inr ⟨k,c',e,z'.sameBut hs ?_⟩;rintro rfl;exact hj (mI hN e1 (I.ok.inj _ _ _ e hc▸hi))
  .by_cases hcc:c'=c
   .subst hcc;exact⟨_,hc'⟩
   .obtain⟨w2,z2⟩:=I.cell y c' e;exact⟨w2,z2.sameBut hs hcc⟩
  .obtain⟨e,n,ne,nf,d⟩:=I.pin p hp;refine⟨(hs.2 p.1 ?_).trans e,n,ne,nf,d⟩;intro q;rw[q,hoc] at e;have q':oc=p.2:=Rv e;exact d w' (by rw[<-q'];exact hocd)
theorem f9{M:Model}{A:X8}{x:Str}{v:V}{Q:Unit->Shared->Prop}(I:Inv X pins Y H s)(hN:X.N.Nodup)(hi:X.N[i]?=some x)(hx:Loc X.env.scope x)(r:RelV v u)
  (h:∀s',Inv X pins (Y.set i (some v)) H s'->Q () s')(hf:X.fn x=true\/X.env.scope.names.lookup x=some .local:=by first|exact .inl rfl|exact .inr rfl|assumption):X0 M A (storeName X.env x u) Q E s:=
 nQ I hN hi hx r (λs' I' _=>h s' I') hf
theorem Inv.EH{s':Shared}(I:Inv X pins Y H s)(ho:s'.os=s.os)(u:Un (dG X.stack) ch H H' s.heap s'.heap)(hok:iZ X.prog X.w H' s'.heap)(G:Yw s'.gens)
  (y:∀b∈ch,(b∈X.ex\/X.s₀.heap.objs.size<=b)/\b≠X.env.locals/\(∀x c,X.env.cells.lookup x=some c->c≠b)/\∀p∈X.pn++pins,p.1≠b):Inv X pins Y H' s':=by
 obtain⟨h',g',d',t',o'⟩:=s';have e:o'=s.os:=ho;subst e;exact I.call (g':=g') (t':=t') (d':=d') u hok G y
end
abbrev XK:=Value->Option Addr->Hp->Prop
noncomputable abbrev St:=List (Option V)
abbrev VK:=V->Hp->Prop
abbrev TE:=St->Hp->VK->Prop
abbrev TT:=St->Hp->(Bool->Hp->Prop)->Prop
abbrev TA:=St->Hp->(List V->Hp->Prop)->Prop
structure Ends where
 nx:St->Hp->Prop
 rt:VK
 bk:St->Hp->Prop:=λ_ _=>False
 ct:St->Hp->Prop:=λ_ _=>False
abbrev TS:=Ends->St->Hp->Prop
inductive EP(X:Cx)(pins:List (Addr×Obj))(Y:St)(Q:VK)(u:Value)(s':Shared):Prop
 |mk(v:V)(H':Hp)(i:Inv X pins Y H' s')(r:RelV v u)(q:Q v H')
inductive TP(X:Cx)(pins:List (Addr×Obj))(Y:St)(Q:Bool->Hp->Prop)(b:Bool)(s':Shared):Prop
 |mk(H':Hp)(i:Inv X pins Y H' s')(q:Q b H')
inductive AP(X:Cx)(pins:List (Addr×Obj))(Y:St)(Q:List V->Hp->Prop)(us:List Value)(s':Shared):Prop
 |mk(vs:List V)(H':Hp)(i:Inv X pins Y H' s')(r:Vals vs us)(q:Q vs H')
def SP(X:Cx)(pins:List (Addr×Obj))(D:Ends)(f:Flow)(s':Shared):Prop:=
 match f with
 | .next=>∃j H',Inv X pins j H' s'/\D.nx j H'
 | .brk=>∃j H',Inv X pins j H' s'/\D.bk j H'
 | .cont=>∃j H',Inv X pins j H' s'/\D.ct j H'
 | .ret u=>∃v j H',Inv X pins j H' s'/\RelV v u/\D.rt v H'
def PE(X:Cx)(e:Expr)(t:TE):Prop:=
 ∀(pins:List (Addr×Obj))(s:Shared)(Y:St)(H:Hp)(Q:VK),Inv X pins Y H s->t Y H Q->X0 (XZ X.prog X.w) X.A (eval e X.env) (EP X pins Y Q) X.xe s
def PT(X:Cx)(e:Expr)(t:TT):Prop:=
 ∀(pins:List (Addr×Obj))(s:Shared)(Y:St)(H:Hp)(Q:Bool->Hp->Prop),Inv X pins Y H s->t Y H Q->X0 (XZ X.prog X.w) X.A (Zg e X.env (eval e X.env)) (TP X pins Y Q) X.xe s
def PW(X:Cx)(e:Expr)(t:TT):Prop:=
 ∀(z:Sem Value)(pins:List (Addr×Obj))(s:Shared)(Y:St)(H:Hp)(Q:Bool->Hp->Prop),Inv X pins Y H s->t Y H Q->X0 (XZ X.prog X.w) X.A (Zg e X.env z) (TP X pins Y Q) X.xe s
variable{X:Cx}{e:Expr}
theorem PW.pt{t:TT}(h:PW X e t):PT X e t:=h _
def PA(X:Cx)(es:List Expr)(t:TA):Prop:=
 ∀(pos:Pos)(pins:List (Addr×Obj))(s:Shared)(Y:St)(H:Hp)(Q:List V->Hp->Prop),Inv X pins Y H s->t Y H Q->X0 (XZ X.prog X.w) X.A (spliced (X4 pos (XU es X.env))) (AP X pins Y Q) X.xe s
def PS(X:Cx)(st:Stmt)(t:TS):Prop:=
 ∀(pins:List (Addr×Obj))(s:Shared)(Y:St)(H:Hp)(D:Ends),Inv X pins Y H s->t D Y H->X0 (XZ X.prog X.w) X.A (exec st X.env) (SP X pins D) X.xe s
def pZ(X:Cx)(st:List Stmt)(t:TS):Prop:=
 ∀(pins:List (Addr×Obj))(s:Shared)(Y:St)(H:Hp)(D:Ends),Inv X pins Y H s->t D Y H->X0 (XZ X.prog X.w) X.A (execs st X.env) (SP X pins D) X.xe s
variable{α:Type}{s:Shared}
theorem cx{t:Sem α}{Q H:α->Shared->Prop}{M:Model}{A:X8}(h:X0 M A t Q E s)(I:∀a s,Q a s->H a s):X0 M A t H E s:=Yd h I λ_ _ x=>x
variable{pins:List (Addr×Obj)}{Y:St}{R:V->V->Hp->Prop}{pos:Pos}{Q:Value->Shared->Prop}{op:YB}{c:Expr}
section
variable{X:Cx}
theorem bin{a b:Expr}{ta tb:TE}(ha:PE X a ta)(d:PE X b tb)(I:Inv X pins Y H s)(h:ta Y H λx S=>tb Y S λy P=>R x y P)
  {Q:α->Shared->Prop}{f:Value->Value->Sem α}
  (hf:∀v u s2 x y P,Inv X pins Y P s2->RelV x v->RelV y u->R x y P->X0 (XZ X.prog X.w) X.A (f v u) Q X.xe s2):
  X0 (XZ X.prog X.w) X.A (eval a X.env) (λv Z=>X0 (XZ X.prog X.w) X.A (eval b X.env) (λu T=>X0 (XZ X.prog X.w) X.A (f v u) Q X.xe T) X.xe Z) X.xe s:=by
 refine cx (ha pins s Y H _ I h) λv s1 ⟨x,S,U,V,c⟩=>?_;refine cx (d pins s1 Y S _ U c) λu s2 ⟨y,P,e,i,j⟩=>?_;exact hf v u s2 x y P e V i j
noncomputable def mW(i:Nat):TE:=λY H Q=>∃v,Y[i]?=some (some v)/\Q v H
noncomputable def tC(v:V):TE:=λ_ H Q=>Q v H
theorem bW{x:Str}(hN:X.N[i]?=some x)(hv:mL X.env.scope x)(hd:eV x:=by decide)(hcd:pE x:=by decide):PE X (.Name x pos) (mW i):=by
 intro pins s Y H Q I h;obtain⟨v,e,h⟩:=h;obtain⟨m,hn,hl⟩:=I.loc;obtain⟨u,r,l⟩:=hl i x v hN e hv;have fin:EP X pins Y Q u s:=⟨v,H,I,r,h⟩
 rcases l with ⟨hk,hm⟩|⟨hk,c,hc,hcell⟩
 .exact Zo (wpAny_loadName_local I.ok.kind hk hn hm fin) hd
 .rcases hk with hk|hk
  .exact Zo (wpAny_loadName_cell I.ok.kind hk hc hcell fin) hd
  .exact Zo (wpAny_loadName_free I.ok.kind hk hc hcell fin hcd) hd
theorem IZ{i j pos}:PE X (.Constant (.int i) j pos) (tC (.int i)):=λ_ _ _ H _ I h=>wpAny_Constant_int ⟨.int i,H,I.tok _,⟨_,rfl⟩,h⟩
theorem KI{b j pos}:PE X (.Constant (.bool b) j pos) (tC (.bl b)):=λ_ _ _ H _ I h=>Constant_bool ⟨.bl b,H,I,rfl,h⟩
theorem FL{j pos}:PE X (.Constant .none j pos) (tC .non):=λ_ _ _ H _ I h=>Constant_none ⟨.non,H,I,rfl,h⟩
theorem Ia{x j pos}:PE X (.Constant (.str x) j pos) (tC (.str x)):=λ_ _ _ H _ I h=>Calls.Constant_str ⟨.str x,H,I.tok _,⟨_,rfl⟩,h⟩
def Gl(X:Cx)(x:Str):Prop:=X.env.kindOf x=some .globalImplicit
theorem g8{x:Str}(I:Inv X pins Y H s)(hg:Gl X x)(hm:X.mg x=some u)(h:Q u s)
  (hd:eV x:=by decide):X0 (XZ X.prog X.w) X.A (eval (.Name x pos) X.env) Q E s:=
 Vg I.ok.kind hg (Calls.loadGlobal_global (by rw[I.ok.glob];exact I.mod.glob.keeps I.bk) hm h) hd
theorem gm{x:Str}(I:Inv X pins Y H s)(hg:Gl X x)(hm:X.mg x=none)(hv:XX x=some u)(h:Q u s)
  (hn:x ≠ "__name__" := by decide)(hd:eV x:=by decide):X0 (XZ X.prog X.w) X.A (eval (.Name x pos) X.env) Q E s:=by
 obtain⟨mb,h1,h2⟩:=I.mod.blt;exact Vg I.ok.kind hg (Calls.loadGlobal_builtin (by rw[I.ok.glob];exact I.mod.glob.keeps I.bk) hm (by rw[I.ok.blt];exact h1.keeps I.bk) ((h2 x hn).trans hv) h) hd
theorem oK{x:Str}{v:V}(hg:Gl X x)(hm:X.mg x=some u)(r:RelV v u)(hd:eV x:=by decide):PE X (.Name x pos) (tC v):=
 λ_ _ _ H _ I h=>g8 I hg hm ⟨v,H,I,r,h⟩ hd
theorem oR{x:Str}{v:V}(hg:Gl X x)(hm:X.mg x=none)(hv:XX x=some u)(r:RelV v u)(hn:x ≠ "__name__" := by decide)(hd:eV x:=by decide):PE X (.Name x pos) (tC v):=
 λ_ _ _ H _ I h=>gm I hg hm hv ⟨v,H,I,r,h⟩ hn hd
variable{a b:Expr}{ta tb:TE}{pos:Pos}
def PC(X:Cx)(op:YB)(a b:Expr)(t:TE):Prop:=
 ∀(pins:List (Addr×Obj))(s:Shared)(Y:St)(H:Hp)(Q:VK),Inv X pins Y H s->t Y H Q->
  X0 (XZ X.prog X.w) X.A (eval a X.env) (λv Z=>X0 (XZ X.prog X.w) X.A (eval b X.env) (λu T=>X0 (XZ X.prog X.w) X.A (Yi op v u) (EP X pins Y Q) X.xe T) X.xe Z) X.xe s
theorem zP(b:Expr)(h:op≠.In)(h2:op≠.NotIn):Yh op b=false:=by
 have e1:(op==XM)=false:=by cases op<;>first|rfl|exact absurd rfl h
 have e2:(op==W3)=false:=by cases op<;>first|rfl|exact absurd rfl h2
 cases b<;>simp[Yh,e1,e2]
noncomputable def tB(t:TE):TT:=λY H Q=>t Y H λx S=>∃c,x=.bl c/\Q c S
theorem O9{t:TE}(h:PC X op a b t)(h1:Yh op b=false:=by first|exact zP _ Z1 Z1|rfl):PT X (.Compare a [op] [b] pos) (tB t):=by intro pins s Y H Q I hw;refine YZ (cx (h pins s Y H _ I hw) λv s1 h1=>cx h1 λu s2 h2=>cx h2 λc s3 ⟨x,H1,I1,r1,q1⟩=>?_) h1;obtain⟨d,rfl,q⟩:=q1;cases r1;exact Yt ⟨H1,I1,q⟩
theorem JY{t:TE}(h:PE X e t)(he:∀whole,Zg e X.env whole=(do let v <- whole;YE e.pos;holding [v] (truthy v)):=by intro _;rfl):PT X e (tB t):=by intro pins s Y H Q I hw;refine isTrue_plain (cx (h pins s Y H _ I hw) λv s1 ⟨x,H1,I1,r1,q1⟩=>?_) (he _);obtain⟨d,rfl,q⟩:=q1;cases r1;exact Yt ⟨H1,I1,q⟩
variable{tA tB':TT}{rest:List Expr}
noncomputable def OR(t u:TT):TT:=λY H Q=>t Y H λc S=>if c=true then u Y S Q else Q false S
noncomputable def QD(t u:TT):TT:=λY H Q=>t Y H λc S=>if c=true then Q true S else u Y S Q
noncomputable def N7(t:TT):TT:=λY H Q=>t Y H λc S=>Q (!c) S
theorem Ck(ha:PT X a tA):PW X (.BoolOp .And [a] pos) tA:=by
 intro R pins s Y H Q I h;refine isTrue_and (cx (ha pins s Y H Q I h) λc s1 e=>?_);cases c with
 |true=>exact isTrue_and_nil e
 |false=>exact e
theorem Jw(ha:PT X a tA):PW X (.BoolOp .Or [a] pos) tA:=by
 intro R pins s Y H Q I h;refine isTrue_or (cx (ha pins s Y H Q I h) λc s1 e=>?_);cases c with
 |false=>exact isTrue_or_nil e
 |true=>exact e
theorem J0(ha:PT X a tA)(d:PW X (.BoolOp .And (b::rest) pos) tB'):PW X (.BoolOp .And (a::b::rest) pos) (OR tA tB'):=by
 intro R pins s Y H Q I h;refine isTrue_and (cx (ha pins s Y H _ I h) λc s1 ⟨S,U,T⟩=>?_);cases c with
 |true=>exact d R pins s1 Y S Q U T
 |false=>exact⟨S,U,T⟩
theorem L4(ha:PT X a tA)(d:PW X (.BoolOp .Or (b::rest) pos) tB'):PW X (.BoolOp .Or (a::b::rest) pos) (QD tA tB'):=by
 intro R pins s Y H Q I h;refine isTrue_or (cx (ha pins s Y H _ I h) λc s1 ⟨S,U,T⟩=>?_);cases c with
 |true=>exact⟨S,U,T⟩
 |false=>exact d R pins s1 Y S Q U T
theorem IC(ha:PT X a tA):PT X (.UnaryOp .Not a pos) (N7 tA):=by intro pins s Y H Q I h;exact isTrue_not (cx (ha pins s Y H (λc S=>Q (!c) S) I h) λc s' ⟨H',i,q⟩=>⟨H',i,q⟩)
noncomputable def MY(ta tb:TE):TE:=λY H Q=>ta Y H λx S=>∃c,x=.bl c/\if c=true then tb Y S Q else Q (.bl false) S
noncomputable def Kv(ta:TE):TE:=λY H Q=>ta Y H λx S=>∃c,x=.bl c/\Q (.bl (!c)) S
theorem J5{op}{t:TE}(h:PE X a t):PE X (.BoolOp op [a] pos) t:=λpins s Y H Q I Z=>BoolOp_one (h pins s Y H Q I Z)
theorem FK(ha:PE X a ta)(d:PE X (.BoolOp .And (b::rest) pos) tb):PE X (.BoolOp .And (a::b::rest) pos) (MY ta tb):=by
 intro pins s Y H Q I h;refine BoolOp_and (cx (ha pins s Y H _ I h) λv s1 ⟨x,S,U,V,T⟩=>?_);obtain⟨c,rfl,T⟩:=T;cases V;refine Yt ?_;cases c with
 |true=>exact d pins s1 Y S Q U T
 |false=>exact⟨.bl false,S,U,rfl,T⟩
theorem Ho(ha:PE X a ta):PE X (.UnaryOp .Not a pos) (Kv ta):=by intro pins s Y H Q I h;refine UnaryOp_ (cx (ha pins s Y H _ I h) λv s1 ⟨x,S,U,V,T⟩=>?_);obtain⟨c,rfl,T⟩:=T;cases V;exact not_of (Yt ⟨.bl (!c),S,U,rfl,T⟩)
noncomputable def QU(t:TT)(ta tb:TE):TE:=λY H Q=>t Y H λc S=>if c=true then ta Y S Q else tb Y S Q
theorem xC(hc:PT X c tA)(ha:PE X a ta)(D:PE X b tb):PE X (.IfExp c a b pos) (QU tA ta tb):=by
 intro pins s Y H Q I h;refine wpAny_IfExp (cx (hc pins s Y H _ I h) λd s1 ⟨S,U,T⟩=>?_);cases d with
 |true=>exact ha pins s1 Y S Q U T
 |false=>exact D pins s1 Y S Q U T
end
def dI(K:Q0)(H:Hp)(a:Addr)(xs:List V):Prop:=
 Rd H a (.lst xs) \/
  ∃(o:Obj)(b:Array Value)(n:Nat),K.lookup a=some o/\o.cls=.type "list" /\ o.dict=none/\o.data=.seq b n/\b.size<=sizeLine/\Vals xs b.toList
def i4(K:Q0)(H:Hp)(a:Addr)(xs:List V):Prop:=
 Rd H a (.tup xs) \/
  ∃(o:Obj)(b:Array Value)(n:Nat),K.lookup a=some o/\(o.cls=.type "tuple" /\ o.dict=none)/\o.data=.seq b n/\b.size<=sizeLine/\Vals xs b.toList
noncomputable def NZ:Value->Option V
 | .none=>some .non
 | .bool b=>some (.bl b)
 | .int i _=>some (.int i)
 | .str x _=>some (.str x)
 | .bytes b _=>some (.byt b)
 | .float b _=>some (.flt b)
 | .ref a=>some (.ref a)
 | .type n=>some (.ty n)
 |_=>none
theorem RelV.abs{x:V}(r:RelV x u):NZ u=some x:=by
 cases x with
 |non=>cases r;rfl
 |bl _=>cases r;rfl
 |int _=>obtain⟨t,rfl⟩:=r;rfl
 |str _=>obtain⟨t,rfl⟩:=r;rfl
 |byt _=>obtain⟨t,rfl⟩:=r;rfl
 |flt _=>obtain⟨t,rfl⟩:=r;rfl
 |ref _=>cases r;rfl
 |ty _=>cases r;rfl
theorem RelV.inj{x y:V}(r:RelV x u)(q:RelV y u):x=y:=Rv (r.abs.symm.trans q.abs)
theorem Vals.inj:∀{xs ys:List V}{us:List Value},Vals xs us->Vals ys us->xs=ys
 |_,_,_,.nil,.nil=>rfl
 |_,_,_,.cons r t,.cons r' t'=>by simp only[r.inj r',Vals.inj t t']
variable{K:Q0}
section
variable{X:Cx}{pins:List (Addr×Obj)}{Y:St}{H:Hp}{s:Shared}{a:Addr}{xs ys:List V}
theorem dI.of(h:H a=some (.lst xs)):dI K H a xs:=.inl (.inl h)
theorem Inv.list(I:Inv X pins Y H s)(h:dI X.K H a xs):∃b:List Value,Vals xs b/\PlainL s.heap a b.toArray/\xs.length<=sizeLine:=by
 rcases h with h|⟨o,b,n,hk,hc,hd,hs,hz,r⟩
 .obtain⟨z,b,n,r,e⟩:=h.ok I.hok;exact⟨b,r,⟨_,n,e,rfl,rfl,rfl⟩,z⟩
 .refine⟨b.toList,r,⟨o,n,I.ph a o hk,hc,hd,by simpa using hs⟩,?_⟩;have e:=r.length;simp only[TJ] at e
  lia
theorem Inv.tuple(I:Inv X pins Y H s)(h:i4 X.K H a xs):∃b:List Value,Vals xs b/\IsTup s.heap a b.toArray/\xs.length<=sizeLine:=by
 rcases h with h|⟨o,b,n,hk,hc,hs,hz,r⟩
 .obtain⟨z,b,r,p⟩:=h.ok I.hok;exact⟨b,r,p.t,z⟩
 .refine⟨b.toList,r,⟨o,I.ph a o hk,hc.1,n,by simpa using hs⟩,?_⟩;have e:=r.length;simp only[TJ] at e;lia
theorem Inv.gy(I:Inv X pins Y H s)(h:dI X.K H a xs)(h':dI X.K H a ys):xs=ys:=by
 obtain⟨b,r,⟨o,n,e,_,_,d⟩,_⟩:=I.list h;obtain⟨its',r',⟨o',Q,k,_,_,d'⟩,_⟩:=I.list h';rw[e] at k;cases k;rw[d] at d';injection d' with d1 _;have:b=its':=by simpa using Zz WT d1
 subst this;exact r.inj r'
theorem Inv.m8(I:Inv X pins Y H s)(h:i4 X.K H a xs)(h':i4 X.K H a ys):xs=ys:=by
 obtain⟨b,r,⟨o,e,_,n,d⟩,_⟩:=I.tuple h;obtain⟨its',r',⟨o',k,_,Q,d'⟩,_⟩:=I.tuple h';rw[e] at k;cases k;rw[d] at d';injection d' with d1 _;have:b=its':=by simpa using Zz WT d1
 subst this;exact r.inj r'
end
noncomputable abbrev Cx.kX(X:Cx)(E:Value->Shared->Prop):Cx:={ X with xe:=E }
abbrev Cx.Bz(X:Cx):Cx:=X.kX λ_ _=>False
theorem Cx.Ok.kX{X:Cx}(ok:X.Ok)(E:Value->Shared->Prop):(X.kX E).Ok:=
 ⟨ok.mod,ok.kind,ok.glob,ok.blt,ok.above,ok.inj,ok.has,ok.cab,ok.hd,ok.frames,ok.stk,ok.exf,ok.bs,ok.bsz,ok.noex,ok.exfs,ok.jz,ok.frf⟩
theorem Cx.Ok.iL(ok:(X.kX E).Ok):X.Ok:=
 ⟨ok.mod,ok.kind,ok.glob,ok.blt,ok.above,ok.inj,ok.has,ok.cab,ok.hd,ok.frames,ok.stk,ok.exf,ok.bs,ok.bsz,ok.noex,ok.exfs,ok.jz,ok.frf⟩
section
variable{X:Cx}{pins:List (Addr×Obj)}{Y:St}{H:Hp}{s:Shared}{E:Value->Shared->Prop}
theorem Inv.kX(I:Inv X pins Y H s)(E:Value->Shared->Prop):Inv (X.kX E) pins Y H s:=⟨I.ok.kX E,I.os,I.bare,I.base,I.loc,I.cell,I.free,I.freeC,I.pin,I.hok,I.len⟩
theorem Inv.iL(I:Inv (X.kX E) pins Y H s):Inv X pins Y H s:=⟨I.ok.iL,I.os,I.bare,I.base,I.loc,I.cell,I.free,I.freeC,I.pin,I.hok,I.len⟩
end
variable{tc:TT}
section
variable{X:Cx}{st:Stmt}{rest:List Stmt}{t u:TS}{e:Expr}{te:TE}{pos:Pos}
noncomputable def LU:TS:=λD Y H=>D.nx Y H
noncomputable def yX(t u:TS):TS:=λD Y H=>t { D with nx:=u D } Y H
theorem Eb:pZ X [] LU:=λ_ _ Y H _ I h=>Yr ⟨Y,H,I,h⟩
theorem md(h1:PS X st t)(h2:pZ X rest u):pZ X (st::rest) (yX t u):=by
 intro pins s Y H D I h;refine YL (cx (h1 pins s Y H { D with nx:=u D } I h) λf s1 q=>?_);cases f with
 |next=>obtain⟨j,H',a,q⟩:=q;exact h2 pins s1 j H' D a q
 |ret v=>exact q
 |brk=>exact q
 |cont=>exact q
theorem DU(h1:PS X st t):pZ X [st] t:=by
 intro pins s Y H D I h;refine YL (cx (h1 pins s Y H D I h) λf s1 q=>?_);cases f with
 |next=>exact Yr q
 |ret v=>exact q
 |brk=>exact q
 |cont=>exact q
theorem Inv.quiet(I:Inv X pins Y H s):interactive X.env=false:=by simp[interactive,I.ok.kind]
noncomputable def Kg(te:TE):TS:=λD Y H=>te Y H λ_ S=>D.nx Y S
theorem Cd(he:PE X e te)(hs:Yc e none pos.line X.env=pure false:=by rfl):PS X (.Expr e pos) (Kg te):=by intro pins s Y H D I h;exact wpAny_Expr_any (cx (he pins s Y H _ I h) λv s1 ⟨x,H1,I1,r1,q1⟩=>⟨Y,H1,I1,q1⟩) I.quiet hs
noncomputable def O7(te:TE):TS:=λD Y H=>te Y H D.rt
theorem GJ(he:PE X e te):PS X (.Return (some e) pos) (O7 te):=by intro pins s Y H D I h;exact wpAny_Return_some (cx (he pins s Y H _ I h) λv s1 ⟨x,S,U,V,T⟩=>⟨x,Y,S,U,V,T⟩)
noncomputable def MF:TS:=λD _ H=>D.rt .non H
theorem C7:PS X (.Return none pos) MF:=λ_ _ Y H _ I h=>wpAny_Return_none ⟨.non,Y,H,I,rfl,h⟩
noncomputable def Oo(c:TT)(t u:TS):TS:=λD Y H=>c Y H λb S=>if b=true then t D Y S else u D Y S
theorem Nn{a b:List Stmt}(hc:PT X c tc)(ha:pZ X a t)(f:pZ X b u):PS X (.If c a b pos) (Oo tc t u):=by
 intro pins s Y H D I h;refine wpAny_If (cx (hc pins s Y H _ I h) λd s1 ⟨S,U,T⟩=>?_);cases d with
 |true=>exact ha pins s1 Y S D U T
 |false=>exact f pins s1 Y S D U T
end
abbrev TG:=V->St->Hp->(St->Hp->Prop)->Prop
abbrev Fz:=List V->St->Hp->(St->Hp->Prop)->Prop
def PG(X:Cx)(l:Expr)(t:TG):Prop:=
 ∀(pins:List (Addr×Obj))(s:Shared)(Y:St)(H:Hp)(v:V)(u:Value)(Q:St->Hp->Prop),Inv X pins Y H s->RelV v u->t v Y H Q->
  X0 (XZ X.prog X.w) X.A (assign l X.env u) (λ_ s'=>∃j H',Inv X pins j H' s'/\Q j H') X.xe s
def F0(X:Cx)(ts:List Expr)(t:Fz):Prop:=
 ∀(pins:List (Addr×Obj))(s:Shared)(Y:St)(H:Hp)(vs:List V)(us:List Value)(Q:St->Hp->Prop),Inv X pins Y H s->Vals vs us->t vs Y H Q->
  X0 (XZ X.prog X.w) X.A (Y2 ((Ye ts X.env).map (·.2)) us) (λ_ s'=>∃j H',Inv X pins j H' s'/\Q j H') X.xe s
abbrev Jo:=V->V->V->Hp->(Hp->Prop)->Prop
def MC(X:Cx)(t:Jo):Prop:=
 ∀(pins:List (Addr×Obj))(s:Shared)(Y:St)(H:Hp)(o i v:V)(n q u:Value)(Q:Hp->Prop),Inv X pins Y H s->RelV o n->RelV i q->RelV v u->t o i v H Q->
  X0 (XZ X.prog X.w) X.A (setItem n q u) (λ_ s'=>∃H',Inv X pins Y H' s'/\Q H') X.xe s
variable{es:List Expr}{tg:Expr}{te:TE}
section
variable{X:Cx}{pos:Pos}
noncomputable def AG(i:Nat):TG:=λv Y H Q=>Q (Y.set i (some v)) H
theorem BV{x:Str}(hN:X.N.Nodup)(hi:X.N[i]?=some x)(hx:Loc X.env.scope x)(hf:X.fn x=true\/X.env.scope.names.lookup x=some .local:=by first|exact .inl rfl|exact .inr rfl|assumption):PG X (.Name x pos) (AG i):=by intro pins s Y H v u Q I r h;exact Y8 (f9 I hN hi hx r (λs' I'=>⟨_,H,I',h⟩) hf)
noncomputable def Pl:Fz:=λvs Y H Q=>vs=[]/\Q Y H
noncomputable def ED(t:TG)(u:Fz):Fz:=λvs Y H Q=>∃v r,vs=v::r/\t v Y H λj H'=>u r j H' Q
theorem Cz:F0 X [] Pl:=by intro pins s Y H vs us Q I r h;obtain⟨e,h⟩:=h;subst e;cases r;exact Y9 ⟨Y,H,I,h⟩
theorem xD{t:TG}{u:Fz}(h1:PG X e t)(h2:F0 X es u)
  (hs:(Ye (e::es) X.env).map (·.2)=assign e X.env::(Ye es X.env).map (·.2):=by rfl):F0 X (e::es) (ED t u):=by
 intro pins s Y H vs us Q I r h;obtain⟨v,vr,e1,h⟩:=h;subst e1;cases r with
 |cons r rr=>rw[hs];refine YD (cx (h1 pins s Y H _ _ _ I r h) λ_ s1 ⟨σ1,H1,I1,q1⟩=>?_);exact h2 pins s1 σ1 H1 _ _ Q I1 rr q1
noncomputable def Om(K:Q0)(n:Nat)(t:Fz):TG:=λv Y H Q=>∃a xs,v=.ref a/\i4 K H a xs/\xs.length=n/\t xs Y H Q
theorem Ga{k:Nat}{t:Fz}{n:Nat}(hc:X.calm=true)(h:F0 X es t)
  (hn:(Ye es X.env).length=n:=by rfl)(hst:(Ye es X.env).findIdx? (·.1)=none:=by rfl):PG X (.Tuple es k pos) (Om X.K n t):=by
 intro pins s Y H v u Q I r hw;obtain⟨a,xs,e1,hq,hl,hw⟩:=hw;subst e1;cases r;obtain⟨its,rv,ht,hz⟩:=I.tuple hq;refine assign_Tuple_tuple (I.ok.hd hc) ht (by simp[hn,<-hl,rv.length]) hst λh' hx=>?_;have I1:Inv X pins Y H { s with heap:=h' }:=I.kept (t':=s.toks) λb o e=>hx b o (RH (Rq e)) e;exact h pins _ Y H xs _ Q I1 (by simpa using rv) hw
noncomputable def yM(X r:TE)(t:Jo):TG:=λv Y H Q=>X Y H λo S=>r Y S λi P=>t o i v P λs=>Q Y s
theorem pB{o i:Expr}{to ti:TE}{t:Jo}(ho:PE X o to)(hi:PE X i ti)(hs:MC X t)
  (ha:∀v,assign (.Subscript o i pos) X.env v=(do
   let ov <- holding [v] (eval o X.env)
   let iv <- holding [v,ov] (eval i X.env)
   YE pos
   holding [v,ov,iv] (setItem ov iv v)
   release [v,ov,iv] []):=by intro _;rfl):PG X (.Subscript o i pos) (yM to ti t):=by
 intro pins s Y H v u Q I r h;rw[ha];refine XW (Yx (cx (ho pins s Y H _ I h) λov s1 ⟨x,H1,I1,r1,q1⟩=>?_));refine XW (Yx (cx (hi pins s1 Y H1 _ I1 q1) λiv s2 ⟨y,H2,I2,r2,q2⟩=>?_));refine XW (YH (XW (Yx (cx (hs pins s2 Y H2 x y v ov iv u _ I2 r1 r2 r q2) λ_ s3 ⟨H3,I3,q3⟩=>?_))));exact wpAny_release ⟨Y,H3,I3,q3⟩
noncomputable def qx(te:TE)(g:TG):TS:=λD Y H=>te Y H λx S=>g x Y S D.nx
theorem lg{g:TG}(he:PE X e te)(hg:PG X tg g)(hs:Yy [tg] e pos.line X.env=pure false:=by rfl)(hw:Ys [tg] e X.env=pure none:=by rfl)
  (h1:(Ye [tg] X.env).map (·.2)=[assign tg X.env]:=by rfl):PS X (.Assign [tg] e pos) (qx te g):=by
 intro pins s Y H D I h;refine wpAny_Assign_stores (cx (he pins s Y H _ I h) λv s1 ⟨x,H1,I1,r1,q1⟩=>?_) hs hw;rw[h1];exact cx (hg pins s1 Y H1 x v _ I1 r1 q1) λ_ s2 q=>q
theorem Jc{x:Str}{pos':Pos}(hN:X.N.Nodup)(hi:X.N[i]?=some x)(hx:Loc X.env.scope x)(he:PE X e te)(hs:Yc e (some (.Name x pos')) pos.line X.env=pure false:=by rfl)(hf:X.fn x=true\/X.env.scope.names.lookup x=some .local:=by first|exact .inl rfl|exact .inr rfl|assumption):
  PS X (.Assign [.Name x pos'] e pos) (qx te (AG i)):=by
 intro pins s Y H D I h;refine wpAny_Assign_Name (cx (he pins s Y H _ I h) λv s1 ⟨y,H1,I1,r1,q1⟩=>?_) hs;exact f9 I1 hN hi hx r1 (λs2 I2=>⟨_,H1,I2,q1⟩) hf
noncomputable def NK(i j:Nat)(ta:TA):TS:=λD Y H=>ta Y H λvs S=>∃v w,vs=[v,w]/\D.nx ((Y.set i (some v)).set j (some w)) S
theorem Hv{x y:Str}{a b:Expr}{ta:TA}{px py pt:Pos}{kt k2 pt2}(hc:X.calm=true)(hN:X.N.Nodup)(hi:X.N[i]?=some x)(hj:X.N[j]?=some y)(hij:i≠j)
  (hx:X.env.scope.names.lookup x=some .local)(hy:X.env.scope.names.lookup y=some .local)(ha:PA X [a,b] ta)
  (hw:Ys [.Tuple [.Name x px,.Name y py] kt pt] (.Tuple [a,b] k2 pt2) X.env=pure (some [x,y]))
  (hs:Yy [.Tuple [.Name x px,.Name y py] kt pt] (.Tuple [a,b] k2 pt2) pos.line X.env=pure false:=by rfl):
  PS X (.Assign [.Tuple [.Name x px,.Name y py] kt pt] (.Tuple [a,b] k2 pt2) pos) (NK i j ta):=by
 intro pins s Y H D I h;simp only[exec_Assign_arm];refine XW (YH ?_);rw[hs];refine XW (XY ?_);rw[Zw Z1];refine XW (Tuple_ (cx (ha _ pins s Y H _ I h) λus s1 ⟨vs,H1,I1,r1,q1⟩=>?_));obtain⟨v,w,e1,q1⟩:=q1;subst e1;obtain⟨u1,u2,rfl,rv,rw'⟩:∃u1 u2,us=[u1,u2]/\RelV v u1/\RelV w u2:=by
  cases r1 with
  |cons p q=>
   cases q with
   |cons p' q'=>cases q';exact⟨_,_,rfl,p,p'⟩
 refine Yk ?_ (by show 2<=sizeLine;decide);have I2:Inv X pins Y H1 { s1 with heap:=s1.heap.push { cls:=.type "tuple",data:=.seq [u1,u2].toArray } }:=I1.kept (t':=s1.toks) λb o e=>Rm _ e;rw[hw];refine XW (XY ?_);show X0 (XZ X.prog X.w) X.A (do rule "assign.swapped-stores";let items <- unpackItems (.ref s1.heap.objs.size) 2 none;Y2 [λv=>Za X.env y v,λv=>Za X.env x v] items.reverse;pure XN) _ _ _;refine XW (wpAny_rule (XW (unpackItems_tuple (items:=#[u1,u2]) (I.ok.hd hc) (IsTup.new s1.heap _) λh' hx'=>?_)));have I3:=I2.kept (h':=h') (t':=s1.toks) λb o e=>hx' b o (RH (Rq e)) e;show X0 _ _ (Y2 [λv=>Za X.env y v,λv=>Za X.env x v] [u2,u1] >>= λ_=>pure XN) _ _ _;refine XW (YD (wpAny_bindName (f9 I3 hN hj (.inl hy) rw' (λs2 I4=>?_) (.inr hy))));refine YD (wpAny_bindName (f9 I4 hN hi (.inl hx) rv (λs3 I5=>Y9 (XY ?_)) (.inr hx)));rw[List.set_comm _ _ (R7 hij)] at I5;exact⟨_,H1,I5,q1⟩
end
variable{body:List Stmt}{tb:TS}
section
variable {X:Cx} {pos:Pos}
def Js (c:TT) (tb:TS):TS:=fun D Y H=>∃ W:Nat → St → Hp → Prop,(∃ m,W m Y H) ∧ ∀ m Y H,W m Y H →
 c Y H fun b H1=>if b = true then ∃ N:St → Hp → Prop,(∀ j H',N j H' → ∃ o,o < m ∧ W o j H') ∧ tb { D with nx:=N,ct:=N,bk:=D.nx } Y H1 else D.nx Y H1
theorem Ah     (hp:YM (XZ X.prog X.w) X.A X.env X.xe) (hc:PT X c tc) (d:pZ X body tb):PS X (.While c body [] pos) (Js tc tb):=by
 intro pins s Y H D I h;obtain ⟨W,⟨m0,F⟩,turn⟩:=h;refine wpAny_While (codeAny_whileLoop (fun n s'=>∃ j H',Inv X pins j H' s' ∧ W n j H') ?_ m0 ⟨Y,H,I,F⟩);rintro n s1 ⟨t,S,U,J⟩;refine Yj hp (cx (hc pins s1 t S _ U (turn n t S J)) fun b s2 ⟨H2,I2,x⟩=>?_);cases b with
 |true=>
  obtain⟨N,hN,x⟩:=x;dsimp only [Zv rfl];refine Yj hp (cx (d pins s2 t H2 _ I2 x) λf K z=>?_);cases f with
  |next=>obtain⟨V,u,B,C⟩:=z;obtain⟨o,hm,E⟩:=hN V u C;exact⟨o,hm,V,u,B,E⟩
  |cont=>obtain⟨V,u,B,C⟩:=z;obtain⟨o,hm,E⟩:=hN V u C;exact⟨o,hm,V,u,B,E⟩
  |brk=>exact z
  |ret v=>exact z
 |false=>dsimp only [Zw RZ];exact Yr ⟨t,H2,I2,x⟩
end
structure It where
 go:Nat->Hp->Prop
 yld:Nat->Hp->V->Hp->Prop
 stop:Nat->Hp->Prop
def mP(X:Cx)(pins:List (Addr×Obj))(H:Hp)(b:Addr):Prop:=
 H b=none/\b≠X.env.locals/\b∉X.fs/\(b∈X.ex\/X.s₀.heap.objs.size<=b)/\(∀x c,X.env.cells.lookup x=some c->c≠b)/\∀p∈X.pn++pins,p.1≠b
theorem Inv.vX{H':Hp}{b:Addr}(I:Inv X pins Y H s)(d:s.heap.objs.size<=b)(hn:H' b=none):mP X pins H' b:=by
 refine⟨hn,Tj (Rh I.lt d),I.NI d,.inr (RG I.sz d),λx c e z=>?_,λp hp z=>?_⟩
 .obtain⟨v,q⟩:=I.cell x c e;exact absurd (Rh q.lt (by simp only[z];exact d)) (RB _)
 .exact absurd (Rh (Rq (I.pin p hp).1) (by simp only[z];exact d)) (RB _)
structure Turn(P:Program)(w:X1)(K:Q0)(tg:Expr)(J:It)(fp:List Addr)(it:Addr)(tn:Nat->Heap->Prop):Prop where
 mem:it∈fp
 obj:∀i h,tn i h->∀b∈fp,∃o,h.get? b=some o/\∀v,o.data≠.cell v
 keep:∀i h h',tn i h->(∀b∈fp,∀o,h.get? b=some o->h'.get? b=some o)->tn i h'
 item:∀(X:Cx),X.prog=P->X.w=w->X.K=K->X.calm=true->∀(i:Nat)(pins:List (Addr×Obj))(s:Shared)(Y:St)(H:Hp)(E:Value->Shared->Prop),Inv X pins Y H s->(∀b∈fp,mP X pins H b)->tn i s.heap->J.go i H->
  X0 (XZ P w) X.A (pyNext (.ref it)) (λr s1=>∃u,r=some u /\
   X0 (XZ P w) X.A (YA tg (.ref it) u) (λ_ s2=>∃x H',Inv X pins Y H' s2/\RelV x u/\J.yld i H x H'/\tn (i+1) s2.heap/\∀b∈fp,H' b=none) E s1) E s
 done:∀(X:Cx),X.prog=P->X.w=w->X.K=K->X.calm=true->∀(i:Nat)(pins:List (Addr×Obj))(s:Shared)(Y:St)(H:Hp)(E:Value->Shared->Prop),Inv X pins Y H s->(∀b∈fp,mP X pins H b)->tn i s.heap->J.stop i H->
  X0 (XZ P w) X.A (pyNext (.ref it)) (λr s1=>r=none/\Inv X pins Y H s1) E s
 self:∀(A:X8)(i:Nat)(s:Shared)(Q:Value->Shared->Prop)(E:Value->Shared->Prop),tn i s.heap->Q (.ref it) s->X0 (XZ P w) A (pyIter (.ref it)) Q E s
abbrev TI:=St->Hp->(It->Hp->Prop)->Prop
def NS(X:Cx)(pins:List (Addr×Obj))(Y:St)(tg:Expr)(R:It->Hp->Prop)(A:Value)(s2:Shared):Prop:=
 ∃(it:Addr)(fp:List Addr)(tn:Nat->Heap->Prop)(J:It)(H':Hp),A=.ref it/\Inv X pins Y H' s2/\Turn X.prog X.w X.K tg J fp it tn/\tn 0 s2.heap/\(∀b∈fp,mP X pins H' b)/\R J H'
def PI(X:Cx)(tg iter:Expr)(I:TI):Prop:=
 ∀(pins:List (Addr×Obj))(s:Shared)(Y:St)(H:Hp)(R:It->Hp->Prop),Inv X pins Y H s->I Y H R->
  X0 (XZ X.prog X.w) X.A (eval iter X.env) (λv s1=>X0 (XZ X.prog X.w) X.A (pyIter v) (NS X pins Y tg R) X.xe s1) X.xe s
theorem uq{M:Model}{A:X8}{n:String}{vs:Array Value}{Q:Unit->Shared->Prop}(ho:s.heap.get? it=some o)(hc:o.cls=.type n)(hd:o.data=.fields vs)
    (hn:["enumerate", "zip", "dict_itemiterator", "dict_reverseitemiterator", "odict_iterator", "itertools.zip_longest", "itertools.pairwise"].contains n=false)(I:Q () s):X0 M A (YA tg (.ref it) u) Q E s:=by
  unfold YA;cases tg<;>first
    |exact XY I
    | (cases u<;>first
        |exact XY I
        | (refine XW (wpAny_load ho ?_)
           rw[hc,hd]
           show X0 M A (if (["enumerate", "zip", "dict_itemiterator", "dict_reverseitemiterator", "odict_iterator", "itertools.zip_longest", "itertools.pairwise"].contains n&&vs[0]?==some (rawInt _))=true then _ else _) Q E s
           rw[Zw (by intro h;rw[hn,Vl] at h;cases h)]
           exact XY I))
noncomputable def P2(K:Q0)(a:Addr):It:=
 ⟨λi H=>∃xs x,dI K H a xs/\xs[i]?=some x,λi H x H'=>H'=H/\∀xs,dI K H a xs->xs[i]?=some x,λi H=>∃xs,dI K H a xs/\xs.length<=i⟩
noncomputable def Qc(K:Q0)(a:Addr):It:=
 ⟨λi H=>∃xs x,i4 K H a xs/\xs[i]?=some x,λi H x H'=>H'=H/\∀xs,i4 K H a xs->xs[i]?=some x,λi H=>∃xs,i4 K H a xs/\xs.length<=i⟩
noncomputable def Mq(lo:Int)(n:Nat):It:=⟨λi _=>i<n,λi H x H'=>H'=H/\x=.int (lo+i),λi _=>n<=i⟩
theorem wg{P:Program}(a it:Addr):Turn P w K tg (P2 K a) [it] it (λi h=>h.IsListIter it a i) where
 mem:=by simp
 obj:=λi h st b D=>by
  have e:b=it:=by simpa using D
  subst e;obtain⟨o,e,c,d⟩:=st;exact⟨o,e,λv z=>by rw[d] at z;cases z⟩
 keep:=λi h h' st k=>st.at λo e=>k it Z3 o e
 item:=by intro X Z f j hc i pins s Y H E I hf st G;subst Z f j;obtain⟨xs,x,O,hx⟩:=G;obtain⟨l,m,p,hz⟩:=I.list O;obtain⟨u,B,C⟩:=m.get hx;obtain⟨n,q,F,r,t,A⟩:=hf it Z3;refine wpAny_pyNext_list_item st p.isList (x:=u) (by simpa using B) λh' L sb=>?_;have U:Inv X pins Y H { s with heap:=h' }:=I.turned (t':=s.toks) (λb o D e=>(sb.2 b D).trans e) n q r t A;obtain⟨o,e,c,d⟩:=id L;exact⟨u,rfl,uq (s:={ s with heap:=h' }) e c d Z1 ⟨x,H,U,C,⟨rfl,λys hy=>by rw[I.gy hy O];exact hx⟩,L,λb D=>(hf b D).1⟩⟩
 done:=by intro X Z f j hc i pins s Y H E I hf st G;subst Z f j;obtain⟨xs,O,hx⟩:=G;obtain⟨l,m,p,hz⟩:=I.list O;obtain⟨n,q,F,r,t,A⟩:=hf it Z3;have hl:=m.length;exact wpAny_pyNext_list_end (I.ok.hd hc) st p.isList (by simp;lia) λh' J=>⟨rfl,I.turned (t':=s.toks) (λb o D e=>J b o D e) n q r t A⟩
 self:=λ_ _ _ _ _ st h=>wpAny_pyIter_listiter st h
theorem sG{P:Program}(a it:Addr):Turn P w K tg (Qc K a) [it] it (λi h=>h.IsTupleIter it a i) where
 mem:=by simp
 obj:=λi h st b D=>by
  have e:b=it:=by simpa using D
  subst e;obtain⟨o,e,c,d⟩:=st;exact⟨o,e,λv z=>by rw[d] at z;cases z⟩
 keep:=λi h h' st k=>st.at λo e=>k it Z3 o e
 item:=by intro X Z f j hc i pins s Y H E I hf st G;subst Z f j;obtain⟨xs,x,O,hx⟩:=G;obtain⟨l,m,p,hz⟩:=I.tuple O;obtain⟨u,B,C⟩:=m.get hx;obtain⟨n,q,F,r,t,A⟩:=hf it Z3;refine wpAny_pyNext_tuple_item st (show s.heap.IsTuple a l.toArray from p) (x:=u) (by simpa using B) λh' L sb=>?_;have U:Inv X pins Y H { s with heap:=h' }:=I.turned (t':=s.toks) (λb o D e=>(sb.2 b D).trans e) n q r t A;obtain⟨o,e,c,d⟩:=id L;exact⟨u,rfl,uq (s:={ s with heap:=h' }) e c d Z1 ⟨x,H,U,C,⟨rfl,λys hy=>by rw[I.m8 hy O];exact hx⟩,L,λb D=>(hf b D).1⟩⟩
 done:=by intro X Z f j hc i pins s Y H E I hf st G;subst Z f j;obtain⟨xs,O,hx⟩:=G;obtain⟨l,m,p,hz⟩:=I.tuple O;obtain⟨n,q,F,r,t,A⟩:=hf it Z3;have hl:=m.length;exact wpAny_pyNext_tuple_end (I.ok.hd hc) st (show s.heap.IsTuple a l.toArray from p) (by simp;lia) λh' J=>⟨rfl,I.turned (t':=s.toks) (λb o D e=>J b o D e) n q r t A⟩
 self:=λ_ _ _ _ _ st h=>wpAny_pyIter_tupleiter st h
theorem tP{P:Program}(it:Addr)(lo:Int)(n:Nat):Turn P w K tg (Mq lo n) [it] it (λi h=>Zi h it (lo+(i:Nat)*1) ((n:Int)-(i:Nat)) 1) where
 mem:=by simp
 obj:=λi h st b d=>by
  have e:b=it:=by simpa using d
  subst e;exact⟨_,st,λv z=>by have u:Data.fields _=Data.cell v:=z;cases u⟩
 keep:=λi h h' st k=>k it Z3 _ st
 item:=by intro X Z f j hc i pins s Y H E I hf st G;subst Z f j;obtain⟨a,q,F,r,c,A⟩:=hf it Z3;have W:=W4 (prog:=X.prog) (w:=X.w) (I.ok.hd hc) it lo 1 n;refine W.item i s _ _ G st λv h' tk x L N=>?_;obtain⟨t,rfl⟩:=x;have U:Inv X pins Y H { s with heap:=h',toks:=tk }:=I.turned (λb o d e=>N b o (by simpa using d) e) a q r c A;refine⟨_,rfl,uq (s:={ s with heap:=h',toks:=tk }) (n:= "range_iterator") L rfl rfl Z1 ⟨.int (lo+i),H,U,⟨t,?_⟩,⟨rfl,rfl⟩,L,λb d=>(hf b d).1⟩⟩;rw[Uy]
 done:=by intro X Z f j hc i pins s Y H E I hf st G;subst Z f j;obtain⟨a,q,F,r,c,A⟩:=hf it Z3;exact YR (I.ok.hd hc) st (by have:n<=i:=G;lia) λh' J=>⟨rfl,I.turned (t':=s.toks) (λb o d e=>J b o d e) a q r c A⟩
 self:=λ_ _ _ _ _ st h=>YS st h
variable{p:Pos}{fp:List Addr}
section
variable{X:Cx}{tg:Expr}
theorem qX{R:It->Hp->Prop}{lo hi:Int}{t u v:Tok}{tk:Nat}(I:Inv X pins Y H s)(h1:-(2^62)<=lo)(h2:lo<2^62)(h3:-(2^62)<=hi)(h4:hi<2^62)
  (q:R (Mq lo (hi-lo).toNat) H):X0 (XZ X.prog X.w) X.A (pyIter (.ref s.heap.objs.size)) (NS X pins Y tg R) E { s with heap:=s.heap.push { cls:=.type "range",data:=.fields #[.int lo t,.int hi u,.int 1 v] },toks:=tk }:=by
 refine Y4 (WL ..) (small_one h1 h2 h3 h4) ?_;have U:Inv X pins Y H { s with heap:=s.heap.push { cls:=.type "range",data:=.fields #[.int lo t,.int hi u,.int 1 v] },toks:=tk }:=I.kept λb o e=>Rm _ e;refine⟨(s.heap.push { cls:=.type "range",data:=.fields #[.int lo t,.int hi u,.int 1 v] }).objs.size,[(s.heap.push { cls:=.type "range",data:=.fields #[.int lo t,.int hi u,.int 1 v] }).objs.size],_,_,H,rfl,
  U.kept (t':=tk) λb o e=>Rm _ e,tP _ lo (hi-lo).toNat,?_,λb d=>?_,q⟩
 .have e1:lo+((0:Nat):Int)*1=lo:=by simp
  have e2:(((hi-lo).toNat:Nat):Int)-((0:Nat):Int)=SF lo hi 1:=by rw[rangeSize_one];split<;>lia
  show Zi _ _ (lo+((0:Nat):Int)*1) ((((hi-lo).toNat:Nat):Int)-((0:Nat):Int)) 1;rw[e1,e2];exact RF _ rfl
 .have e:b=(s.heap.push { cls:=.type "range",data:=.fields #[.int lo t,.int hi u,.int 1 v] }).objs.size:=by simpa using d
  subst e;exact U.vX (Q9 _) (U.hok.fresh (Q9 _))
def MZ(ta:TA):TI:=λY H R=>ta Y H λvs S=>∃j:Int,vs=[.int j] /\ -(2^62)<=j/\j<2^62/\R (Mq 0 j.toNat) S
def KL(ta:TA):TI:=λY H R=>ta Y H λvs S=>∃i j:Int,vs=[.int i,.int j]/\(-(2^62)<=i/\i<2^62 /\ -(2^62)<=j/\j<2^62)/\R (Mq i (j-i).toNat) S
theorem wD{a:Expr}{ta:TA}(hg:Gl X "range")(hm:X.mg "range" = none)(ha:PA X [a] ta)(hs:XU [a] X.env=[(false,eval a X.env)]:=by rfl):PI X tg (.Call (.Name "range" p) [a] [] pos) (MZ ta):=by
 intro pins s Y H R I h;refine Call_ (gm I hg hm YT (Sb (cx (ha pos pins s Y H _ I h) λus s1 ⟨vs,H1,I1,r1,q1⟩=>?_) hs rfl));obtain⟨j,e,q1,q2,q⟩:=q1;subst e;cases r1 with
 |cons r rr=>cases rr;obtain⟨t,rfl⟩:=r;exact call_range_1 (qX I1 Z1 Z1 q1 q2 (by simpa using q))
theorem vL{a b:Expr}{ta:TA}(hg:Gl X "range")(hm:X.mg "range" = none)(ha:PA X [a,b] ta)(hs:XU [a,b] X.env=[(false,eval a X.env),(false,eval b X.env)]:=by rfl)(hs2:XU [b] X.env=[(false,eval b X.env)]:=by rfl):
  PI X tg (.Call (.Name "range" p) [a,b] [] pos) (KL ta):=by
 intro pins s Y H R I h;refine Call_ (gm I hg hm YT (Sb (cx (ha pos pins s Y H _ I h) λus s1 ⟨vs,H1,I1,r1,q1⟩=>?_) (by simp only[hs,hs2]) (by rw[hs2];rfl)));obtain⟨i,j,e,⟨q1,q2,q3,q4⟩,q⟩:=q1;subst e;cases r1 with
 |cons r rr=>
  cases rr with
  |cons r' rr=>cases rr;obtain⟨t,rfl⟩:=r;obtain⟨t',rfl⟩:=r';exact call_range_2 (qX I1 q1 q2 q3 q4 q)
def Ph(I:TI)(g:TG)(tb:TS):TS:=λD Y H=>I Y H λJ S=>∃W:Nat->Nat->St->Hp->Prop,(∃m,W 0 m Y S)/\∀i m Y H,W i m Y H->
 (J.stop i H/\D.nx Y H)\/(J.go i H/\∃N:St->Hp->Prop,(∀j H',N j H'->∃o,o<m/\W (i+1) o j H')/\∀x H',J.yld i H x H'->g x Y H' λL P=>tb { D with nx:=N,ct:=N,bk:=D.nx } L P)
noncomputable def lj(fp:List Addr)(h:Heap):List (Addr×Obj):=fp.filterMap λb=>(h.get? b).map λo=>(b,o)
theorem fG{b:Addr}(d:b∈fp)(e:h.get? b=some o):(b,o)∈lj fp h:=TZ.mpr ⟨b,d,by rw[e];rfl⟩
theorem wN{p:Addr×Obj}(hp:p∈lj fp h):p.1∈fp/\h.get? p.1=some p.2:=by
 obtain⟨b,d,e⟩:=TZ.mp hp;cases q:h.get? b with
 |none=>rw[q] at e;cases e
 |some o=>rw[q] at e;have k:(b,o)=p:=Rv e;subst k;exact⟨d,q⟩
theorem Inv.pinned(I:Inv X pins Y H s)(hf:∀b∈fp,mP X pins H b)(ho:∀b∈fp,∃o,s.heap.get? b=some o/\∀v,o.data≠.cell v):Inv X (pins++lj fp s.heap) Y H s:=
 I.oJ λp hp=>(Rf.mp hp).elim (λz=>I.pin p (Q2 _ z)) λz=>by obtain⟨D,e⟩:=wN z;obtain⟨n,q,F,_⟩:=hf p.1 D;obtain⟨o,k,d⟩:=ho p.1 D;rw[e] at k;cases k;exact⟨e,n,q,F,d⟩
theorem Inv.dY{pl:List (Addr×Obj)}(I:Inv X (pins++pl) Y H s):Inv X pins Y H s:=I.oJ λp hp=>I.pin p (Q2 _ (Q8 _ hp))
theorem Im{iter:Expr}{wi:TI}{g:TG}(hp:YM (XZ X.prog X.w) X.A X.env X.xe)(hc:X.calm=true)(hi:PI X tg iter wi)(hg:PG X tg g)(hb:pZ X body tb)
  (hs:∀x,Yg iter X.env x=pure x:=by intro _;rfl):PS X (.For tg iter body [] pos) (Ph wi g tb):=by
 intro pins s Y H D I h;refine wpAny_For (cx (hi pins s Y H _ I h) λv s1 h1=>cx h1 λitv s2 h2=>?_) hs;obtain⟨it,fp,tn,J,H2,e,I2,T,st2,f2,W,⟨m0,w0⟩,turn⟩:=h2;subst e;have stat:∀{H':Hp},(∀b∈fp,H' b=none)->∀b∈fp,mP X pins H' b:=λhn b hb=>⟨hn b hb,(f2 b hb).2⟩
 refine codeAny_forLoop_any (λn s'=>∃i j H',Inv X pins j H' s'/\tn i s'.heap/\(∀b∈fp,H' b=none)/\W i n j H') ?_ m0 ⟨0,Y,H2,I2,st2,λb hb=>(f2 b hb).1,w0⟩;rintro n s3 ⟨i,V,H3,I3,st3,fr3,w3⟩;rcases turn i n V H3 w3 with ⟨stop,qn⟩|⟨go,N,hN,step⟩
 .refine Yj hp (cx (T.done X rfl rfl rfl hc i pins s3 V H3 X.xe I3 (stat fr3) st3 stop) λr s4 ⟨hr,I4⟩=>?_);subst hr;exact Yr ⟨V,H3,I4,qn⟩
 .refine Yj hp (cx (T.item X rfl rfl rfl hc i pins s3 V H3 X.xe I3 (stat fr3) st3 go) λr s4 ⟨u,hr,h4⟩=>?_);subst hr;refine Yj hp (cx h4 λ_ s5 ⟨x,H5,I5,r5,y5,st5,fr5⟩=>?_);have I5':=I5.pinned (stat fr5) (T.obj _ _ st5);refine Yj hp (cx (hg _ s5 V H5 x u _ I5' r5 (step x H5 y5)) λ_ s6 ⟨Z,H6,I6,q6⟩=>?_);refine Yj hp (cx (hb _ s6 Z H6 _ I6 q6) λf s7 q7=>?_);have again:∀{U:St}{H7:Hp},Inv X (pins++lj fp s5.heap) U H7 s7->N U H7->∃m,m<n/\∃i j H',Inv X pins j H' s7/\tn i s7.heap/\(∀b∈fp,H' b=none)/\W i m j H':=λ{U H7} I7 n7=>by obtain⟨m',hm,w7⟩:=hN U H7 n7;refine⟨m',hm,i+1,U,H7,I7.dY,T.keep _ _ _ st5 λb hb o e=>(I7.pin (b,o) (Q2 _ (Q2 _ (fG hb e)))).1,λb hb=>?_,w7⟩;obtain⟨o,e,d⟩:=T.obj _ _ st5 b hb;exact(I7.pin (b,o) (Q2 _ (Q2 _ (fG hb e)))).2.1
  cases f with
  |next=>obtain⟨U,H7,I7,n7⟩:=q7;exact again I7 n7
  |cont=>obtain⟨U,H7,I7,n7⟩:=q7;exact again I7 n7
  |brk=>obtain⟨U,H7,I7,q7⟩:=q7;exact⟨U,H7,I7.dY,q7⟩
  |ret v=>obtain⟨x7,U,H7,I7,r7,q7⟩:=q7;exact⟨x7,U,H7,I7.dY,r7,q7⟩
end
abbrev R2:=V->V->Hp->VK->Prop
def iC(X:Cx)(f:Value->Value->Sem Value)(r:R2):Prop:=
 ∀(pins:List (Addr×Obj))(s:Shared)(Y:St)(H:Hp)(x y:V)(v u:Value)(Q:VK),Inv X pins Y H s->RelV x v->RelV y u->r x y H Q->
  X0 (XZ X.prog X.w) X.A (f v u) (EP X pins Y Q) X.xe s
def N5(X:Cx)(f:Value->Sem Value)(r:V->Hp->VK->Prop):Prop:=
 ∀(pins:List (Addr×Obj))(s:Shared)(Y:St)(H:Hp)(x:V)(v:Value)(Q:VK),Inv X pins Y H s->RelV x v->r x H Q->
  X0 (XZ X.prog X.w) X.A (f v) (EP X pins Y Q) X.xe s
def dE(X:Cx)(f:Value)(r:List V->Hp->VK->Prop):Prop:=
 ∀(pins:List (Addr×Obj))(s:Shared)(Y:St)(H:Hp)(xs:List V)(us:List Value)(Q:VK),Inv X pins Y H s->Vals xs us->r xs H Q->
  X0 (XZ X.prog X.w) X.A (call f us) (EP X pins Y Q) X.xe s
noncomputable def Kb(r:R2)(ta tb:TE):TE:=λY H Q=>ta Y H λx S=>tb Y S λy P=>r x y P Q
noncomputable def QK(r:V->Hp->VK->Prop)(ta:TE):TE:=λY H Q=>ta Y H λx S=>r x S Q
noncomputable def rI(C:Int->Int->Prop)(g:Int->Int->V):R2:=λx y H Q=>∃i j,x=.int i/\y=.int j/\C i j/\Q (g i j) H
noncomputable def xi(g:Int->Int->V):R2:=λx y H Q=>∃i j,x=.int i/\y=.int j/\Q (g i j) H
def rU(g:Int->V):V->Hp->VK->Prop:=λx H Q=>∃i,x=.int i/\Q (g i) H
variable{f:Value->Value->Sem Value}{r:R2}
section
variable{X:Cx}{a b c:Expr}{ta tb tc:TE}{pos:Pos}
theorem GC(ha:PE X a ta)(d:PE X b tb)(I:Inv X pins Y H s)
  (h:ta Y H λx S=>tb Y S λy P=>R x y P)
  (hf:∀v u s2 x y P,Inv X pins Y P s2->RelV x v->RelV y u->R x y P->X0 (XZ X.prog X.w) X.A (f v u) Q X.xe s2):
  X0 (XZ X.prog X.w) X.A (eval a X.env) (λv Z=>X0 (XZ X.prog X.w) X.A (eval b X.env) (λu T=>X0 (XZ X.prog X.w) X.A (f v u) Q X.xe T) X.xe Z) X.xe s:=by
 refine cx (ha pins s Y H _ I h) λv s1 ⟨x,S,U,V,c⟩=>?_;refine cx (d pins s1 Y S _ U c) λu s2 ⟨y,P,e,i,j⟩=>?_;exact hf v u s2 x y P e V i j
theorem Ma{op:Zp}(ho:iC X (Yu op) r)(ha:PE X a ta)(d:PE X b tb):PE X (.BinOp a op b pos) (Kb r ta tb):=by intro pins s Y H Q I h;exact wpAny_BinOp (GC ha d I h λv u s2 x y P e w z q=>ho pins s2 Y P x y v u Q e w z q)
theorem Nb{op:UnaryOp}{r:V->Hp->VK->Prop}(ho:N5 X (unaryOp op) r)(ha:PE X a ta):PE X (.UnaryOp op a pos) (QK r ta):=by intro pins s Y H Q I h;exact UnaryOp_ (cx (ha pins s Y H _ I h) λv s1 ⟨x,S,U,w,T⟩=>ho pins s1 Y S x v Q U w T)
theorem oU{C:Int->Int->Prop}{g:Int->Int->Int}
  (rule:∀(i j:Int)(t u:Tok)(s:Shared)(Q:Value->Shared->Prop)(E:Value->Shared->Prop),C i j->Q (.int (g i j) s.toks) { s with toks:=s.toks+1 }->X0 (XZ X.prog X.w) X.A (f (.int i t) (.int j u)) Q E s):
  iC X f (rI C λi j=>.int (g i j)):=by
 intro pins s Y H x y v u Q I K z h;obtain⟨i,j,rfl,rfl,hc,q⟩:=h;obtain⟨t,rfl⟩:=K;obtain⟨t',rfl⟩:=z;exact rule i j t t' s _ _ hc ⟨.int (g i j),H,I.tok _,⟨_,rfl⟩,q⟩
theorem KH{g:Int->Int->Int}
  (rule:∀(i j:Int)(t u:Tok)(s:Shared)(Q:Value->Shared->Prop)(E:Value->Shared->Prop),Q (.int (g i j) s.toks) { s with toks:=s.toks+1 }->X0 (XZ X.prog X.w) X.A (f (.int i t) (.int j u)) Q E s):
  iC X f (xi λi j=>.int (g i j)):=by
 intro pins s Y H x y v u Q I K z h;obtain⟨i,j,rfl,rfl,q⟩:=h;obtain⟨t,rfl⟩:=K;obtain⟨t',rfl⟩:=z;exact rule i j t t' s _ _ ⟨.int (g i j),H,I.tok _,⟨_,rfl⟩,q⟩
theorem Hz{g:Int->Int->Bool}
  (rule:∀(i j:Int)(t u:Tok)(s:Shared)(Q:Value->Shared->Prop)(E:Value->Shared->Prop),Q (.bool (g i j)) s->X0 (XZ X.prog X.w) X.A (f (.int i t) (.int j u)) Q E s):
  iC X f (xi λi j=>.bl (g i j)):=by
 intro pins s Y H x y v u Q I K z h;obtain⟨i,j,rfl,rfl,q⟩:=h;obtain⟨t,rfl⟩:=K;obtain⟨t',rfl⟩:=z;exact rule i j t t' s _ _ ⟨.bl (g i j),H,I,rfl,q⟩
def Ln(i j:Int):Prop:=0<=j/\j<=1000000/\i.natAbs<2^64
theorem Hw:iC X (Yu .Add) (xi λi j=>.int (i+j)):=KH λ_ _ _ _ _ _ _ q=>add_int q
theorem JJ:iC X (Yu .Sub) (xi λi j=>.int (i-j)):=KH λ_ _ _ _ _ _ _ q=>sub_int q
theorem D3:iC X (Yu .Mod) (rI (λ_ j=>j≠0) λi j=>.int (i.fmod j)):=oU λ_ _ _ _ _ _ _ hc q=>mod_int' hc q
theorem FR:iC X (Yu .Pow) (rI Ln λi j=>.int (i^j.toNat)):=oU λ_ _ _ _ _ _ _ hc q=>pow_int_small hc.1 hc.2.1 hc.2.2 q
theorem QB{f:Value->Sem Value}{g:Int->Int}
  (rule:∀(i:Int)(t:Tok)(s:Shared)(Q:Value->Shared->Prop)(E:Value->Shared->Prop),Q (.int (g i) s.toks) { s with toks:=s.toks+1 }->X0 (XZ X.prog X.w) X.A (f (.int i t)) Q E s):
  N5 X f (rU λi=>.int (g i)):=by
 intro pins s Y H x v Q I K h;obtain⟨i,rfl,q⟩:=h;obtain⟨t,rfl⟩:=K;exact rule i t s _ _ ⟨.int (g i),H,I.tok _,⟨_,rfl⟩,q⟩
theorem Jg:N5 X (unaryOp .USub) (rU λi=>.int (-i)):=QB λ_ _ _ _ _ q=>neg_int q
end
variable{us:List Value}
section
variable{X:Cx}{a b c:Expr}{ta tb tc:TE}{pos:Pos}
theorem xA{Q:VK}{k v:Bool}(I:Inv X pins Y H s)(q:Q (.bl k) H)(e:k=v):EP X pins Y Q (.bool v) s:=by subst e;exact⟨.bl k,H,I,rfl,q⟩
theorem jD:iC X (Yi .Lt) (xi λi j=>.bl (decide (i<j))):=Hz λ_ _ _ _ _ _ _ q=>lt_int q
theorem iB:iC X (Yi .Gt) (xi λi j=>.bl (decide (j<i))):=Hz λ_ _ _ _ _ _ _ q=>gt_int q
theorem EG:iC X (Yi .GtE) (xi λi j=>.bl (decide (j<=i))):=Hz λ_ _ _ _ _ _ _ q=>ge_int q
theorem yt:iC X (Yi .Is) (λx y H Q=>y=.non/\Q (.bl (decide (x=.non))) H):=by
 intro pins s Y H x y v u Q I K z h;obtain⟨rfl,q⟩:=h;cases z;refine is_none_gen (xA I q ?_);cases x<;>first
  |(cases K;rfl)
  |(obtain⟨t,rfl⟩:=K;rfl)
theorem uk:iC X (Yi .IsNot) (λx y H Q=>y=.non/\Q (.bl (!decide (x=.non))) H):=by
 intro pins s Y H x y v u Q I K z h;obtain⟨rfl,q⟩:=h;cases z;refine isnot_none_gen (xA I q ?_);cases x<;>first
  |(cases K;rfl)
  |(obtain⟨t,rfl⟩:=K;rfl)
theorem dB(b:Expr)(h:op≠.In:=by decide)(h2:op≠.NotIn:=by decide):Yh op b=false:=by
 have e1:(op==XM)=false:=by cases op<;>first|rfl|exact absurd rfl h
 have e2:(op==W3)=false:=by cases op<;>first|rfl|exact absurd rfl h2
 cases b<;>simp[Yh,e1,e2]
theorem De(ho:iC X (Yi op) r)(ha:PE X a ta)(d:PE X b tb)(hm:Yh op b=false):PE X (.Compare a [op] [b] pos) (Kb r ta tb):=by intro pins s Y H Q I h;exact wpAny_Compare1 (GC ha d I h λv u s2 x y P e K z q=>ho pins s2 Y P x y v u Q e K z q) hm
noncomputable def LD(t:TE):TT:=λY H Q=>t Y H λx H'=>∃k,x=.bl k/\Q k H'
theorem DM(ho:iC X (Yi op) r)(ha:PE X a ta)(d:PE X b tb)(hm:Yh op b=false):PT X (.Compare a [op] [b] pos) (LD (Kb r ta tb)):=by
 intro pins s Y H Q I h;refine YZ (cx (ha pins s Y H _ I h) λv s1 ⟨x,S,U,V,T⟩=>cx (d pins s1 Y S _ U T) λu s2 ⟨y,P,E,i,j⟩=>cx (ho pins s2 Y P x y v u _ E V i j) λc K ⟨z,p,B,w,k,e,N⟩=>?_) hm
 subst e;cases w;exact Yt ⟨p,B,N⟩
theorem lX:(sizeLine:Nat)<2^63:=by rw[Yo];decide
theorem vals1{x:V}(r:Vals [x] us):∃u,us=[u]/\RelV x u:=by
 cases r with
 |cons w i=>cases i;exact⟨_,rfl,w⟩
theorem vals2{x y:V}(r:Vals [x,y] us):∃u Y,us=[u,Y]/\RelV x u/\RelV y Y:=by
 cases r with
 |cons w i=>
  cases i with
  |cons H X=>cases X;exact⟨_,_,rfl,w,H⟩
theorem yE:dE X (.builtin "abs") (λxs H Q=>∃i,xs=[.int i]/\Q (.int (if i<0 then -i else i)) H):=by intro pins s Y H xs us Q I r h;obtain⟨i,rfl,q⟩:=h;obtain⟨u,rfl,t,rfl⟩:=vals1 r;exact call_abs_int λu tk=>⟨.int (if i<0 then -i else i),H,I.tok _,⟨_,rfl⟩,q⟩
theorem wH(hc:X.calm=true):dE X (.builtin "max") (λxs H Q=>∃i j,xs=[.int i,.int j]/\Q (.int (if j > i then j else i)) H):=by
 intro pins s Y H xs us Q I r h;obtain⟨i,j,rfl,q⟩:=h;obtain⟨u,v,rfl,⟨t,rfl⟩,⟨t',rfl⟩⟩:=vals2 r;refine max_two_ints (I.ok.hd hc) λh' tk k=>⟨_,H,I.kept k,?_,q⟩
 by_cases a:j > i
 .rw[Zv a,Zv a];exact⟨_,rfl⟩
 .rw[Zw a,Zw a];exact⟨_,rfl⟩
theorem wG(hc:X.calm=true):dE X (.builtin "min") (λxs H Q=>∃i j,xs=[.int i,.int j]/\Q (.int (if j<i then j else i)) H):=by
 intro pins s Y H xs us Q I r h;obtain⟨i,j,rfl,q⟩:=h;obtain⟨u,v,rfl,⟨t,rfl⟩,⟨t',rfl⟩⟩:=vals2 r;refine min_two_ints (I.ok.hd hc) λh' tk k=>⟨_,H,I.kept k,?_,q⟩
 by_cases a:j<i
 .rw[Zv a,Zv a];exact⟨_,rfl⟩
 .rw[Zw a,Zw a];exact⟨_,rfl⟩
theorem wF:dE X (.type "int") (λxs H Q=>(∃i,xs=[.int i]/\Q (.int i) H)\/∃k,xs=[.bl k]/\Q (.int (if k then 1 else 0)) H):=by
 intro pins s Y H xs us Q I r h;rcases h with ⟨i,rfl,q⟩|⟨k,rfl,q⟩
 .obtain⟨u,rfl,t,rfl⟩:=vals1 r;exact call_int_int ⟨.int i,H,I,⟨_,rfl⟩,q⟩
 .obtain⟨u,rfl,V⟩:=vals1 r;cases V;exact call_int_bool ⟨.int (if k then 1 else 0),H,I.tok _,⟨_,rfl⟩,q⟩
def M9(K:Q0)(x:V)(H:Hp)(n:Nat):Prop:=
 match x with
 | .str y=>y.length<=sizeLine/\n=y.length
 | .byt y=>y.size<=sizeLine/\n=y.size
 | .ref p=>(∃xs,dI K H p xs/\n=xs.length)\/∃xs,i4 K H p xs/\n=xs.length
 |_=>False
theorem xT:dE X (.builtin "len") (λxs H Q=>∃x n,xs=[x]/\M9 X.K x H n/\Q (.int n) H):=by
 intro pins s Y H xs us Q I r h;obtain⟨x,n,rfl,e,q⟩:=h;obtain⟨u,rfl,w⟩:=vals1 r;have hl:=lX;have hs:sizeLine=16777216:=Yo;cases x with
 |str y=>obtain⟨t,rfl⟩:=w;obtain⟨hy,k⟩:y.length<=sizeLine/\n=y.length:=e;subst k;exact len_str Q1 ⟨.int _,H,I.tok _,⟨_,rfl⟩,q⟩
 |byt y=>obtain⟨t,rfl⟩:=w;obtain⟨hy,k⟩:y.size<=sizeLine/\n=y.size:=e;subst k;exact PySem.W.len_bytes Q1 ⟨.int _,H,I.tok _,⟨_,rfl⟩,q⟩
 |ref p=>
  cases w;have k:(∃xs,dI X.K H p xs/\n=xs.length)\/∃xs,i4 X.K H p xs/\n=xs.length:=e;rcases k with ⟨xs,hx,k⟩|⟨xs,hx,k⟩
  .subst k;obtain⟨b,r',pl,hz⟩:=I.list hx;have E:=r'.length;exact Calls.call_len_list pl.isList (by simp only[Ri];lia) ⟨.int xs.length,H,I.tok _,⟨_,by simp only[Ri];rw[E]⟩,q⟩
  .subst k;obtain⟨b,r',pl,hz⟩:=I.tuple hx;have E:=r'.length;exact len_tuple pl (by simp only[Ri];lia) ⟨.int xs.length,H,I.tok _,⟨_,by simp only[Ri];rw[E]⟩,q⟩
 |_=>exact(show False from e).elim
end
structure rY(h:Heap)(x dx C:Addr)(mA:Str->Option Value):Prop where
 obj:h.get? x=some (SD C dx)
 ns:h.Ns1 dx mA
 ne:dx≠x
variable{dx:Addr}{mA:Str->Option Value}
theorem vQ(n:h.Ns1 dx mA):∃od,h.get? dx=some od/\∀name,Uo name od=some (mA name):=by
 obtain⟨o,es,g,ho,hd,hk,_,hm⟩:=n;refine⟨o,ho,λname=>?_⟩;have e:=hm name;unfold nsFind findBy at e;rw[<-Array.find?_toList] at e;unfold Uo;rw[hd];dsimp only;split
 .rename_i y q;rw[q] at e;exact Zz some e
 .rename_i q;rw[q] at e;have a:es.toList.any (·.refKey)=false:=by rw[T5];intro y hy;obtain⟨z,t,Y⟩:=hk y (Array.mem_toList_iff.mp hy);simp[DictEntry.refKey,Y]
  have a':¬ es.toList.any (·.refKey)=true:=by rw[a];exact RZ
  rw[Zw a'];exact Zz some e
variable{C:Addr}
theorem rY.look{x:Addr}(I:rY h x dx C mA):∃od,PySem.W.InstAt h x (SD C dx) C (some od)/\∀name,Uo name od=some (mA name):=
 let ⟨od,ho,hl⟩:=vQ I.ns
 ⟨od,⟨I.obj,rfl,rfl,ho⟩,hl⟩
variable{kw:List (Str×Value)}
section
variable{prog:Program}{w:X1}{A:X8}{E:Value->Shared->Prop}{s:Shared}{K:Q0}{x dx C f:Addr}{mA:Str->Option Value}{name:Str}{v:Value}
theorem get_map{expr:Bool}(X:K.In s.heap)(I:rY s.heap x dx C mA)(G:Tn K C name=true)(Y:T3 K C=true)
  (ha:RV K (.ref C) name=some none)(c:mA name=some v)(H:V5 v=true)(h:Q v { s with toks:=s.toks+1 }):
  X0 (XZ prog w) A (getAttr (.ref x) name expr) Q E s:=by
 obtain⟨od,J,hl⟩:=I.look;exact PySem.W.get_value X J (Uw G).1 (PySem.W.findObj_own Y ha rfl (by simp only[hl,c])) H h
theorem A2{pl:Sem Bool}{Q:Value×List Value->Shared->Prop}(X:K.In s.heap)(I:rY s.heap x dx C mA)(G:Tn K C name=true)
  (hf:RV K (.ref C) name=some (some (.ref f)))(j:UG K (.ref f)=true)(c:mA name=none)(h:Q (.ref f,[.ref x]) s):
  X0 (XZ prog w) A (YN (.ref x) name pl) Q E s:=by
 obtain⟨od,J,hl⟩:=I.look;exact PySem.W.method_fn X J (Uw G).1 (Uw G).2 hf (ZA.mp j) (by show (Uo name od).map (·.isSome)=some false;rw[hl,c];rfl) h
theorem DD{ns:List Str}{Q:Unit->Shared->Prop}(X:K.In s.heap)(I:rY s.heap x dx C mA)
  (hs:RV K (.ref C) "__setattr__" = some (some (.builtin "object.__setattr__")))(hp:UH K C=true)(j:U2 K C name=some none)(m:T3 K C=true)
  (f:VB mA ns)(hsz:ns.length<=sizeLine)
  (h:∀h',rY h' x dx C (λy=>if y=name then some v else mA y)->UU dx s.heap h'->Q () { s with heap:=h',toks:=s.toks+2 }):
  X0 (XZ prog w) A (setAttr (.ref x) name v) Q E s:=by
 obtain⟨od,J,hl⟩:=I.look;refine PySem.W.set_plain X J hs (PySem.W.osa_open (s:={ s with toks:=s.toks+1 }) (r:=none) X J hp j λb=>?_);obtain⟨cd,hc,q⟩:=PySem.W.any_some m;have hx:s.heap.get? x=some ⟨.ref C,some dx,.plain,#[]⟩:=I.obj;refine XW (XY (XW (XW (wpAny_loadPart hx (XW (Xb (s:={ s with toks:=s.toks+1 }) (PySem.W.looks_clsIn X hc) ?_))))));rw[q];refine XY (a:=some dx) (XW (XY (XW ?_)));refine wpAny_nsSet1 (s:={ s with toks:=s.toks+1 }) I.ns λh' u H=>?_;obtain⟨t,o,p,O,Y,l⟩:=u.count (Xm name v f);refine XW (wpAny_lookBehind O (by rw[Y];exact pastItsLine_dict (RG l (by simp only[Rb];exact Oe))) ?_);exact XY (h _ ⟨(H.2 _ (R7 I.ne)).trans I.obj,u,I.ne⟩ H)
theorem xK{R:Zq->Shared->Prop}{vs:List Value}(X:K.In s.heap)(hm:U3 K C=true)
  (hi:RV K (.ref C) "__init__" = some (some (.ref f)))(hf:PySem.W.typeIn K (.ref f)=some (.type "function"))
  (h:Yz (XZ prog w) (A.under (.builtin "type.__call__" ⟨.ref C::vs,kw⟩)) (.call (.ref f) ⟨.ref (s.heap.objs.size+1)::vs,kw⟩) (PySem.W.InitBack (s.heap.objs.size+1) R)
   { s with heap:=(s.heap.push Se).push (SD C s.heap.objs.size) }):
  Yz (XZ prog w) A (.call (.ref C) ⟨vs,kw⟩) R s:=by
 obtain⟨Y,g,d,t,os⟩:=s;exact PySem.W.make_core (PySem.W.makes_of X hm) (PySem.W.looks_findIn X hi) (λself=>PySem.W.bind_fn X self hf) (.inl rfl) h
end
noncomputable def dP(f:Str)(v:V):List (Str×V)->List (Str×V)
 |[]=>[(f,v)]
 |(g,x)::r=>if g=f then (g,v)::r else (g,x)::dP f v r
theorem dO(f g:Str)(v:V):∀fs:List (Str×V),(dP f v fs).lookup g=if g=f then some v else fs.lookup g
 |[]=>by
  show TF g [(f,v)]=_;by_cases h:g=f
  .have d:(g==f)=true:=ZA.mpr h;simp only[TF,d,Zv h]
  .have d:(g==f)=false:=beq_eq_false_iff_ne.mpr h;simp only[TF,d,Zw h]
 |(k,x)::r=>by
  have u:=dO f g v r;rw[show dP f v ((k,x)::r)=(if k=f then (k,v)::r else (k,x)::dP f v r) from rfl];by_cases hk:k=f
  .rw[Zv hk];by_cases h:g=k
   .have d:(g==k)=true:=ZA.mpr h;simp only[TF,d,Zv (h.trans hk)]
   .have d:(g==k)=false:=beq_eq_false_iff_ne.mpr h;simp only[TF,d,Zw (λe:g=f=>h (e.trans hk.symm))]
  .rw[Zw hk];by_cases h:g=k
   .have d:(g==k)=true:=ZA.mpr h;simp only[TF,d,Zw (λe:g=f=>hk (h.symm.trans e))]
   .have d:(g==k)=false:=beq_eq_false_iff_ne.mpr h;simp only[TF,d];exact u
theorem jX(f:Str)(v:V):∀fs:List (Str×V),f∈(dP f v fs).map (·.1)/\∀g,g∈fs.map (·.1)->g∈(dP f v fs).map (·.1)
 |[]=>⟨by simp[dP],λg h=>by simp at h⟩
 |(k,x)::r=>by
  obtain⟨s,Q⟩:=jX f v r;rw[show dP f v ((k,x)::r)=(if k=f then (k,v)::r else (k,x)::dP f v r) from rfl];by_cases hk:k=f
  .rw[Zv hk];subst hk;exact⟨by simp,λg h=>by simpa using h⟩
  .rw[Zw hk];refine⟨?_,λg h=>?_⟩
   .rw[RO];exact Q5 _ s
   .rw[RO] at h ⊢;rcases Rc.mp h with e|e
    .exact Rc.mpr (.inl e)
    .exact Q5 _ (Q g e)
theorem eW(f:Str)(v:V):∀fs:List (Str×V),(dP f v fs).length<=fs.length+1
 |[]=>by exact Qk
 |(k,x)::r=>by
  have u:=eW f v r;rw[show dP f v ((k,x)::r)=(if k=f then (k,v)::r else (k,x)::dP f v r) from rfl];by_cases hk:k=f
  .rw[Zv hk,Rb,Rb];exact Sv _ _
  .rw[Zw hk,Rb,Rb];exact RS ‹_›
theorem mT.some_of{v:V}{o:Option Value}(r:mT (some v) o):∃u,o=some u/\RelV v u:=by
 cases o with
 |none=>exact(show False from r).elim
 |some u=>exact⟨u,rfl,r⟩
theorem mT.none_of{o:Option Value}(r:mT none o):o=none:=by
 cases o with
 |none=>rfl
 |some u=>exact(show False from r).elim
theorem wM{v:V}(r:RelV v u):V5 u=true:=by
 cases v with
 |non=>cases (show u=V2 from r);rfl
 |bl b=>cases (show u=V3 b from r);rfl
 |int i=>obtain⟨t,e⟩:=(show ∃t,u=Uc i t from r);cases e;rfl
 |str x=>obtain⟨t,e⟩:=(show ∃t,u=Wg x t from r);cases e;rfl
 |byt b=>obtain⟨t,e⟩:=(show ∃t,u=W0 b t from r);cases e;rfl
 |flt b=>obtain⟨t,e⟩:=(show ∃t,u=W2 b t from r);cases e;rfl
 |ref a=>cases (show u=SG a from r);rfl
 |ty n=>cases (show u=Xa n from r);rfl
section
variable{P:Program}{w:X1}{H H':Hp}{h h':Heap}{a C dx:Addr}{fs Z0:List (Str×V)}
theorem kJ(hok:iZ P w H h)(e:H a=some (.ins C dx fs)):∃mA,rY h a dx C mA/\(∀f,mT (fs.lookup f) (mA f))/\VB mA (fs.map (·.1))/\fs.length<=1000/\H dx=some (.own a):=by
 obtain⟨d,z,ne,ob,mA,n,r,q⟩:=(show cy P w H h a (.ins C dx fs) from hok a _ e)
 exact⟨mA,⟨ob,n,ne⟩,r,q,z,d⟩
end
structure i5(K:Q0)(C:Addr):Prop where
 pg:Tn K C Str.empty=true
 hd:T3 K C=true
 po:UH K C=true
 sa:RV K (.ref C) "__setattr__" = some (some (.builtin "object.__setattr__"))
theorem i5.get(c:i5 K C)(f:Str):Tn K C f=true:=c.pg
def cG(K:Q0)(C:Addr)(f:Str):Prop:=RV K (.ref C) f=some none
theorem cG.Lm{f:Str}(n:cG K C f):U2 K C f=some none:=by unfold U2;rw[show RV K (.ref C) f=some none from n];rfl
structure Meth(K:Q0)(C:Addr)(m:Str)(f:Addr):Prop where
 at_:RV K (.ref C) m=some (some (.ref f))
 fn:UG K (.ref f)=true
 kp:Sa K (.ref f)=true
section
variable{X:Cx}{pins:List (Addr×Obj)}{Y:St}{H:Hp}{s:Shared}{a C dx:Addr}{fs:List (Str×V)}{f:Str}{v:V}{A:X8}{E:Value->Shared->Prop}
theorem tR{b:Bool}(I:Inv X pins Y H s)(e:H a=some (.ins C dx fs))(c:i5 X.K C)(n:cG X.K C f)(l:fs.lookup f=some v)
  (h:∀u s',Inv X pins Y H s'->RelV v u->Q u s'):X0 (XZ X.prog X.w) A (getAttr (.ref a) f b) Q E s:=by
 obtain⟨mA,O,r,_,_,_⟩:=kJ I.hok e;obtain⟨u,B,x⟩:=mT.some_of (v:=v) (o:=mA f) (by rw[<-l];exact r f);exact get_map I.ph O (c.get f) c.hd n B (wM x) (h u _ (I.tok _) x)
theorem iP{m:Str}{g:Addr}{pl:Sem Bool}{Q:Value×List Value->Shared->Prop}(I:Inv X pins Y H s)(e:H a=some (.ins C dx fs))(c:i5 X.K C)(k:Meth X.K C m g)(l:fs.lookup m=none)
  (h:Q (.ref g,[.ref a]) s):X0 (XZ X.prog X.w) A (YN (.ref a) m pl) Q E s:=by
 obtain⟨mA,O,r,_,_,_⟩:=kJ I.hok e;have hn:mA m=none:=mT.none_of (by rw[<-l];exact r m);exact A2 I.ph O (c.get m) k.at_ k.fn hn h
theorem tI{y:V}{Q:Unit->Shared->Prop}(I:Inv X pins Y H s)(e:H a=some (.ins C dx fs))(c:i5 X.K C)(n:cG X.K C f)(hl:fs.length<1000)(R:RelV y u)
  (h:∀s',Inv X pins Y (upd H a (.ins C dx (dP f y fs))) s'->Q () s'):X0 (XZ X.prog X.w) A (setAttr (.ref a) f u) Q E s:=by
 obtain⟨mA,O,r,N,_,ho⟩:=kJ I.hok e;have hz:(fs.map (·.1)).length<=sizeLine:=by simp only[Q7,Yo];exact mK
 refine DD I.ph O c.sa c.po n.Lm c.hd N hz λh' L sb=>h _ ?_;have hd:∃o,h'.get? dx=some o:=let ⟨o,_,_,e',_⟩:=L.ns;⟨o,e'⟩
 refine I.write (x:=a) (e:=dx) (by rw[e];exact Wc) (.inr ho) (λb q d z=>(sb.2 b d).trans z) hd ?_;refine⟨by rw[aj O.ne];exact ho,?_,O.ne,L.obj,_,L.ns,λg=>?_,λg G=>?_⟩
 .have:=eW f y fs;exact RG ‹_› ‹_›
 .show mT ((dP f y fs).lookup g) (if g=f then some u else mA g);rw[dO];by_cases q:g=f
  .rw[Zv q,Zv q];exact R
  .rw[Zw q,Zw q];exact r g
 .by_cases q:g=f
  .simp only[q];exact(jX f y fs).1
  .refine(jX f y fs).2 g (N g λz=>G ?_);show (if g=f then some u else mA g)=none;rw[Zw q];exact z
theorem Inv.made(I:Inv X pins Y H s):Inv X pins Y (upd (upd H s.heap.objs.size (.own (s.heap.objs.size+1))) (s.heap.objs.size+1) (.ins C s.heap.objs.size []))
  { s with heap:=(s.heap.push Se).push (SD C s.heap.objs.size) }:=by
 have e1:(s.heap.push Se).get? s.heap.objs.size=some Se:=RF s.heap rfl;have e2:((s.heap.push Se).push (SD C s.heap.objs.size)).get? (s.heap.objs.size+1)=some (SD C s.heap.objs.size):=by have:=RF (s.heap.push Se) (o:=SD C s.heap.objs.size) rfl;rwa[SV] at this
 have L:(s.heap.push Se).Ns s.heap.objs.size (λ_=>none):=⟨Se,#[],_,e1,rfl,(λe he=>absurd he Z3),λ_=>rfl⟩
 have U:=I.laid (a:=s.heap.objs.size) (o:=.own (s.heap.objs.size+1)) (h':=s.heap.push Se) (t':=s.toks) (λb u q=>Rm _ q) (Q9 _) ⟨_,e1⟩;refine U.laid (a:=s.heap.objs.size+1) (o:=.ins C s.heap.objs.size []) (t':=s.toks) (λb u q=>Rm _ q) (Up (SV _ _)) ?_;have ne:s.heap.objs.size≠s.heap.objs.size+1:=RH (RM _);refine⟨by rw[aj ne,aF],Sd _,ne,e2,λ_=>none,(Heap.Ns1.of_empty L).at λo q=>Rm _ q,λ_=>Wc,λy hy=>absurd rfl hy⟩
theorem DH{prog:Program}{env:Env}{f:Str}(d:X7 e f env (eval e env)=eval e env)
  (h:X0 (XZ prog w) A (eval e env) (λo Z=>X0 (XZ prog w) A (getAttr o f true) Q E Z) E s):X0 (XZ prog w) A (eval (.Attribute e f pos) env) Q E s:=
 Attribute_any_ h (by rw[arm_eval_Attribute,d])
end
def Jq(K:Q0)(ta:TE)(f:Str):TE:=λY H Q=>ta Y H λx S=>∃a C dx fs v,x=.ref a/\S a=some (.ins C dx fs)/\i5 K C/\cG K C f/\fs.lookup f=some v/\Q v S
section
variable{X:Cx}{o e value:Expr}{f:Str}{pos pos' tpos:Pos}{ta tv:TE}
theorem jV(he:PE X e ta)(d:X7 e f X.env (eval e X.env)=eval e X.env):PE X (.Attribute e f pos) (Jq X.K ta f):=by intro pins s Y H Q I h;refine DH d (cx (he pins s Y H _ I h) λu s1 ⟨x,S,U,w,a,C,dx,fs,v,ex,y,c,n,l,q⟩=>?_);subst ex;obtain rfl:u=SG a:=w;exact tR U y c n l λZ s2 E O=>⟨v,S,E,O,q⟩
theorem Fs{pl:Sem Bool}{m:Str}{apos:Pos}{args:List Expr}(he:PE X e te)(I:Inv X pins Y H s)
  (h:te Y H λx S=>∃a C dx fs g,x=.ref a/\S a=some (.ins C dx fs)/\i5 X.K C/\Meth X.K C m g/\fs.lookup m=none /\
   ∀s1,Inv X pins Y S s1->X0 (XZ X.prog X.w) X.A (Zb pos (.ref g) [.ref a] (X4 pos (XU args X.env)) (Yl pos (Yb [] X.env))) Q X.xe s1)
  (j:eval (.Call (.Attribute e m apos) args [] pos) X.env=(do
   let ov <- eval e X.env
   YE apos.atName
   let (f,first) <- holding [ov] (YN ov m pl)
   Zb pos f first (X4 pos (XU args X.env)) (Yl pos (Yb [] X.env)))):
  X0 (XZ X.prog X.w) X.A (eval (.Call (.Attribute e m apos) args [] pos) X.env) Q X.xe s:=by
 refine Ui (pl:=pl) (cx (he pins s Y H _ I h) λu s1 ⟨x,S,U,y,a,C,dx,fs,g,ex,n,c,k,l,q⟩=>?_) j;subst ex;obtain rfl:u=SG a:=y;exact iP U n c k l (q s1 U)
end
section
variable{X:Cx}{pins:List (Addr×Obj)}{Y:St}{H:Hp}{s:Shared}{A:X8}{E:Value->Shared->Prop}{Q:Value->Shared->Prop}{c:Value}{b:Bool}
inductive kC(K:Q0)(H:Hp):V->Value->Prop where
 |non:kC K H .non (.type "NoneType")
 |bl(x:Bool):kC K H (.bl x) (.type "bool")
 |int(i:Int):kC K H (.int i) (.type "int")
 |str(x:Str):kC K H (.str x) (.type "str")
 |flt(x:UInt64):kC K H (.flt x) (.type "float")
 |lst{a:Addr}{xs:List V}(e:H a=some (.lst xs)):kC K H (.ref a) (.type "list")
 |frz{a:Addr}{o:Obj}{xs:List V}(e:H a=some (.frz o (.lst xs))):kC K H (.ref a) (.type "list")
 |tup{a:Addr}{xs:List V}(e:H a=some (.tup xs)):kC K H (.ref a) (.type "tuple")
 |dK{a:Addr}{kvs:List (Key×V)}(e:H a=some (.dK kvs)):kC K H (.ref a) (.type "dict")
 |dT{a:Addr}{kvs:List (List Key×V)}(e:H a=some (.dT kvs)):kC K H (.ref a) (.type "dict")
 | ins {a C dx:Addr} {fs:List (Str×V)} (e:H a=some (.ins C dx fs)) (cl:i5 K C) (ha:RV K (.ref C) "__class__" = some (some (.builtin "object.__class__")))
   (hn:VY K (.builtin "object.__class__") "__get__" = some (some (.builtin "getset_descriptor.__get__"))) (htk:Wd K (.builtin "object.__class__")=some true)
   (hm:Vh K C (.type "object")=some true):kC K H (.ref a) (.ref C)
end
structure cF(k:Nat)(A:X8):Prop where
 hd:A.handled=none
 dp:A.depth+3*k+5<recursionLimit
 un:A.units+16*k+200<cLine
theorem cF.mono{k:Nat}{A:X8}(r:cF k A)(h:j<=k):cF j A:=⟨r.hd,by have:=r.dp;lia,by have:=r.un;lia⟩
theorem cF.deeper{k:Nat}{A:X8}(r:cF (k+1) A)(env:Env):cF k (A.deeper env):=
 ⟨r.hd,by have:=r.dp;show A.depth+1+3*k+5<_;lia,by have:=r.un;show A.units+3+16*k+200<_;lia⟩
theorem sC{A:X8}:(A.under (.builtin "type.__call__" ⟨.ref C::us,kw⟩)).depth=A.depth+1:=by first|rfl|simp[Vw,Code.weight,Code.isCreation,Code.isGuard,Code.isCaller,Xd,VG,guardIds]
theorem tK{A:X8}:(A.under (.builtin "type.__call__" ⟨.ref C::us,kw⟩)).units=A.units+1:=by first|rfl|simp[Vw,Code.cUnits,Xd,VG]
theorem cF.make{k:Nat}{A:X8}(r:cF (k+1) A)(C:Addr)(us:List Value)(kw:List (Str×Value)):cF k (A.under (.builtin "type.__call__" ⟨.ref C::us,kw⟩)):=
 ⟨r.hd,by have:=r.dp;rw[sC];lia,by have:=r.un;rw[tK];lia⟩
theorem cF.depth{k:Nat}{A:X8}(r:cF k A):A.depth<recursionLimit:=by have:=r.dp;lia
theorem cF.units{k:Nat}{A:X8}(r:cF k A):A.units+64<cLine:=by have:=r.un;lia
noncomputable def NB:TA:=λ_ H Q=>Q [] H
noncomputable def Kk(ta:TE)(tr:TA):TA:=λY H Q=>ta Y H λx S=>tr Y S λxs P=>Q (x::xs) P
section
variable{X:Cx}{e:Expr}{es:List Expr}{te:TE}{t:TA}{pos:Pos}
theorem cc:PA X [] NB:=λ_ _ _ _ H Q I h=>Calls.spliced_nil ⟨[],H,I,.nil,h⟩
theorem aR(ha:PE X e te)(hr:PA X es t)(hs:XU (e::es) X.env=(false,eval e X.env)::XU es X.env:=by rfl):PA X (e::es) (Kk te t):=by intro pos pins s Y H Q I h;rw[hs];show X0 _ _ (spliced ((false,eval e X.env)::X4 pos (XU es X.env))) _ _ s;refine Calls.spliced_cons (cx (ha pins s Y H _ I h) λu s1 ⟨x,H1,I1,r1,q1⟩=>?_);exact cx (hr pos pins s1 Y H1 _ I1 q1) λus s2 ⟨xs,H2,I2,r2,q2⟩=>⟨x::xs,H2,I2,.cons r1 r2,q2⟩
def Od(t:TA):TE:=λY H Q=>t Y H λxs S=>xs.length<=sizeLine/\∀p,S p=none->Q (.ref p) (upd S p (.tup xs))
def O6(t:TA):TE:=λY H Q=>t Y H λxs S=>xs.length<=sizeLine/\∀p,S p=none->Q (.ref p) (upd S p (.lst xs))
theorem zf{x1}(h:PA X es t):PE X (.Tuple es x1 pos) (Od t):=by intro pins s Y H Q I O;refine wpAny_Tuple_spliced (cx (h pos pins s Y H _ I O) λus s1 ⟨xs,S,U,r,z,q⟩=>⟨by rw[<-r.length];exact z,?_⟩);have hf:S s1.heap.objs.size=none:=U.hok.fresh (Q9 _);refine⟨.ref s1.heap.objs.size,upd S s1.heap.objs.size (.tup xs),U.laid (t':=s1.toks) (λb u e=>Rm _ e) (Q9 _) ?_,rfl,q _ hf⟩;exact⟨z,us,r,⟨_,RF _ rfl,rfl,_,rfl,rfl⟩⟩
theorem IV(h:PA X es t):PE X (.List es pos) (O6 t):=by intro pins s Y H Q I O;refine wpAny_List_spliced (cx (h pos pins s Y H _ I O) λus s1 ⟨xs,S,U,r,z,q⟩=>⟨by rw[<-r.length];exact z,?_⟩);have hf:S s1.heap.objs.size=none:=U.hok.fresh (Q9 _);refine⟨.ref s1.heap.objs.size,upd S s1.heap.objs.size (.lst xs),U.laid (t':=s1.toks) (λb u e=>Rm _ e) (Q9 _) ?_,rfl,q _ hf⟩;exact⟨z,us,0,r,RF _ rfl⟩
end
abbrev Sp:=List V->Hp->VK->XK->Prop
abbrev rO:=List Env->Hp->Shared->XK->Value->Shared->Prop
structure sj(P:Program)(w:X1)(K:Q0)(mg:Str->Option Value)(base:Heap)(A:X8)(outer:List Env)(s:Shared)(H:Hp):Prop where
 frames:A.frames=some outer
 mod:Mod K mg base
 bs:∀b o,base.get? b=some o->s.heap.get? b=some o/\H b=none
 bsz:base.objs.size<=s.heap.objs.size
 jz:s.heap.FunFrames base outer
 frf:∀b∈dG outer,H b=none
 hok:iZ P w H s.heap
 bare:Yw s.gens
def CE(outer:List Env)(P:Program)(w:X1)(H:Hp)(s:Shared)(Q:VK)(u:Value)(s':Shared):Prop:=
 ∃v H',s'.os=s.os/\Yw s'.gens/\Un (dG outer) [] H H' s.heap s'.heap/\iZ P w H' s'.heap/\RelV v u/\Q v H'
def CR(CX:rO)(outer:List Env)(P:Program)(w:X1)(H:Hp)(s:Shared)(Q:VK)(E:XK)(r:Zq)(s':Shared):Prop:=
 match r with
 | .ok (.ret u)=>CE outer P w H s Q u s'
 | .ok _=>False
 | .error e=>CX outer H s E e s'
structure c9(P:Program)(w:X1)(K:Q0)(mg:Str->Option Value)(base:Heap)(CX:rO)(k:Nat)(f:Addr)(fd:X9)(ps:List Str)(sp:Sp):Prop where
 len:∀vs H Q E,sp vs H Q E->vs.length=ps.length
 run:∀(A:X8)(outer:List Env)(s:Shared)(H:Hp)(args:Args)(us:List Value)(vs:List V)(Q:VK)(E:XK),cF k A->sj P w K mg base A outer s H->YU s fd args (ps.zip us)->Vals vs us->sp vs H Q E->
  Yz (XZ P w) A (.call (.ref f) args) (CR CX outer P w H s Q E) s
theorem c9.mono{P:Program}{w:X1}{K:Q0}{mg:Str->Option Value}{base:Heap}{CX:rO}{j k:Nat}{f:Addr}{fd:X9}{ps:List Str}{sp:Sp}(F:c9 P w K mg base CX j f fd ps sp)(h:j<=k):
  c9 P w K mg base CX k f fd ps sp:=⟨F.len,λA outer s H args us vs Q E hr=>F.run A outer s H args us vs Q E (hr.mono h)⟩
variable{mg:Str->Option Value}{base:Heap}{CX:rO}{fd:X9}{ps:List Str}
theorem c9.imp{P:Program}{k:Nat}{f:Addr}{sp X:Sp}(F:c9 P w K mg base CX k f fd ps sp)
  (h:∀vs H Q E,X vs H Q E->sp vs H Q E):c9 P w K mg base CX k f fd ps X:=
 ⟨λvs H Q E q=>F.len vs H Q E (h _ _ _ _ q),λA outer s H args us vs Q E hr he d c hs=>F.run A outer s H args us vs Q E hr he d c (h _ _ _ _ hs)⟩
variable{outer:List Env}
theorem sj.make{P:Program}{A:X8}(e:sj P w K mg base A outer s H)(C:Addr)(us:List Value)(kw:List (Str×Value)):
  sj P w K mg base (A.under (.builtin "type.__call__" ⟨.ref C::us,kw⟩)) outer s H:=⟨by first|exact e.frames|(simpa[Vw,Code.envs,VG,pushEnvs] using e.frames),e.mod,e.bs,e.bsz,e.jz,e.frf,e.hok,e.bare⟩
section
variable{X:Cx}{pins:List (Addr×Obj)}{Y:St}{H:Hp}{s s':Shared}
theorem Inv.GL(I:Inv X pins Y H s):sj X.prog X.w X.K X.mg X.base X.A X.stack s H:=
 ⟨I.ok.frames,I.ok.mod,I.bs,RG I.ok.bsz I.sz,I.stack,I.pP,I.hok,I.bare⟩
theorem Inv.after{Q:VK}(I:Inv X pins Y H s)(h:CE X.stack X.prog X.w H s Q u s'):EP X pins Y Q u s':=by obtain⟨v,H',os,bare,un,hok,r,q⟩:=h;obtain⟨m,g,d,t,x⟩:=s';obtain rfl:x=s.os:=os;exact⟨v,H',I.call (h':=m) (g':=g) (d':=d) (t':=t) (ch:=[]) un hok bare (λb z=>absurd z Z3),r,q⟩
end
noncomputable def K6(sp:Sp)(dvs:List V)(E:XK)(t:TA):TE:=λY H Q=>t Y H λvs S=>sp (vs++dvs) S Q E
def u4(C:Addr)(m:Str)(sp:Sp)(dvs:List V)(E:XK)(ta:TE)(t:TA):TE:=λY H Q=>ta Y H λx S=>∃a dx fs,x=.ref a/\S a=some (.ins C dx fs)/\fs.lookup m=none /\
 t Y S λvs P=>sp (x::(vs++dvs)) P Q E
def Fx(C:Addr)(sp:Sp)(dvs:List V)(E:XK)(t:TA):TE:=λY H Q=>t Y H λvs S=>∀x dx,S x=none->S dx=none->dx≠x->
 sp (.ref x::(vs++dvs)) (upd (upd S dx (.own x)) x (.ins C dx [])) (λv P=>v=.non/\Q (.ref x) P) E
def Binds(K:Q0)(fd:X9)(ps:List Str)(ds:List Value):Prop:=
 ∀(s:Shared)(us:List Value),K.In s.heap->(us++ds).length=ps.length->YU s fd ⟨us,[]⟩ (ps.zip (us++ds))
theorem Binds.all(h:∀us:List Value,us.length=ps.length->bindArgs fd ⟨us,[]⟩=pure (ps.zip us)):Binds K fd ps []:=λs us _ hl=>by rw[RX] at hl ⊢;exact .of_eq (h us hl)
def Passes(CX:rO)(X:Cx)(E:XK):Prop:=∀(pins:List (Addr×Obj))(Y:St)(H:Hp)(s:Shared)(e:Value)(s':Shared),Inv X pins Y H s->CX X.stack H s E e s'->X.xe e s'
variable{vs:List V}
section
variable{X:Cx}{CX:rO}{k:Nat}{f C:Addr}{fd:X9}{ps:List Str}{sp:Sp}{dvs:List V}{ds:List Value}{E:XK}{x m:Str}{p pos apos:Pos}{e o:Expr}{es:List Expr}{ta:TE}{t:TA}
theorem tW{Q:VK}(F:c9 X.prog X.w X.K X.mg X.base CX k f fd ps sp)(hr:cF k X.A)(d:Binds X.K fd ps ds)(hd:Vals dvs ds)(hx:Passes CX X E)
  (I:Inv X pins Y H s)(r:Vals vs us)(h:sp (vs++dvs) H Q E):X0 (XZ X.prog X.w) X.A (call (.ref f) us) (EP X pins Y Q) X.xe s:=by
 have i:Vals (vs++dvs) (us++ds):=r.append hd;have hl:(us++ds).length=ps.length:=by rw[<-i.length];exact F.len _ _ _ _ h
 refine Y5 (YC (F.run X.A X.stack s H ⟨us,[]⟩ (us++ds) (vs++dvs) Q E hr I.GL (d s us I.ph hl) i h) λr s' O=>?_);cases r with
 |error e=>exact hx pins Y H s e s' I O
 |ok fl=>
  cases fl with
  |ret u=>exact I.after O
  |next=>exact Sw O
  |brk=>exact Sw O
  |cont=>exact Sw O
theorem uC(F:c9 X.prog X.w X.K X.mg X.base CX k f fd ps sp)(hr:cF k X.A)(hg:Gl X x)(hm:X.mg x=some (.ref f))(hk:Sa X.K (.ref f)=true)(hb:Binds X.K fd ps ds)(hd:Vals dvs ds)(hx:Passes CX X E)
  (ha:PA X (e::es) t)(hdb:eV x:=by decide)(he:XU (e::es) X.env=(false,eval e X.env)::XU es X.env:=by rfl)(hpl:(X4 pos (XU es X.env)).any (·.1)=false:=by rfl):
  PE X (.Call (.Name x p) (e::es) [] pos) (K6 sp dvs E t):=by
 intro pins s Y H Q I h;refine Yp (g8 I hg hm ?_ hdb);refine TM (h₀:=X.base) I.ok.mod.kin hk (cx (ha pos pins s Y H _ I h) λus s1 ⟨vs,H1,I1,r,q⟩=>⟨I1.ph,?_⟩) he hpl;exact tW F hr hb hd hx I1 r q
theorem vx{pl:Sem Bool}(he:PE X o ta)(c:i5 X.K C)(hm:Meth X.K C m f)(F:c9 X.prog X.w X.K X.mg X.base CX k f fd ps sp)(hr:cF k X.A)(hb:Binds X.K fd ps ds)(hd:Vals dvs ds)(hx:Passes CX X E)(ha:PA X (e::es) t)
  (hst:XU (e::es) X.env=(false,eval e X.env)::XU es X.env:=by rfl)(hpl:(X4 pos (XU es X.env)).any (·.1)=false:=by rfl)
  (ht:eval (.Call (.Attribute o m apos) (e::es) [] pos) X.env=(do
   let ov <- eval o X.env
   YE apos.atName
   let (f,first) <- holding [ov] (YN ov m pl)
   Zb pos f first (X4 pos (XU (e::es) X.env)) (Yl pos (Yb [] X.env))):=by rfl):
  PE X (.Call (.Attribute o m apos) (e::es) [] pos) (u4 C m sp dvs E ta t):=by
 intro pins s Y H Q I h;refine Ui (pl:=pl) (cx (he pins s Y H _ I h) λu s1 ⟨x,H1,I1,rx,a,dx,fs,ex,ea,l,q⟩=>?_) ht;subst ex;obtain rfl:u=SG a:=rx;refine iP I1 ea c hm l ?_;refine TM (first:=[.ref a]) (h₀:=X.base) I.ok.mod.kin hm.kp (cx (ha pos pins s1 Y H1 _ I1 q) λus s2 ⟨vs,H2,I2,r,q2⟩=>⟨I2.ph,?_⟩) hst hpl;exact tW (us:=.ref a::us) (vs:=.ref a::vs) F hr hb hd hx I2 (.cons rfl r) q2
theorem rj{pl:Sem Bool}(he:PE X o ta)(c:i5 X.K C)(hm:Meth X.K C m f)(F:c9 X.prog X.w X.K X.mg X.base CX k f fd ps sp)(hr:cF k X.A)(hb:Binds X.K fd ps ds)(hd:Vals dvs ds)(hx:Passes CX X E)
  (ht:eval (.Call (.Attribute o m apos) [] [] pos) X.env=(do
   let ov <- eval o X.env
   YE apos.atName
   let (f,first) <- holding [ov] (YN ov m pl)
   Zb pos f first (X4 pos (XU [] X.env)) (Yl pos (Yb [] X.env))):=by rfl):
  PE X (.Call (.Attribute o m apos) [] [] pos) (u4 C m sp dvs E ta NB):=by
 intro pins s Y H Q I h;refine Ui (pl:=pl) (cx (he pins s Y H _ I h) λu s1 ⟨x,H1,I1,rx,a,dx,fs,ex,ea,l,q⟩=>?_) ht;subst ex;obtain rfl:u=SG a:=rx;refine iP I1 ea c hm l ?_;exact PySem.W.callWith_K0 (first:=[.ref a]) I1.ph hm.kp (tW (us:=[.ref a]) (vs:=[.ref a]) F hr hb hd hx I1 (.cons rfl .nil) q)
structure Mk(K:Q0)(C f:Addr):Prop where
 makes:U3 K C=true
 init:RV K (.ref C) "__init__" = some (some (.ref f))
 fn:UG K (.ref f)=true
 kp:Sa K (.ref C)=true
theorem Aw{Q:VK}(M:Mk X.K C f)(F:c9 X.prog X.w X.K X.mg X.base CX k f fd ps sp)(hr:cF (k+1) X.A)(d:Binds X.K fd ps ds)(hd:Vals dvs ds)
  (hx:Passes CX X E)(I:Inv X pins Y H s)(r:Vals vs us)
  (h:∀x dx,H x=none->H dx=none->dx≠x->sp (.ref x::(vs++dvs)) (upd (upd H dx (.own x)) x (.ins C dx [])) (λv P=>v=.non/\Q (.ref x) P) E):
  X0 (XZ X.prog X.w) X.A (call (.ref C) us) (EP X pins Y Q) X.xe s:=by
 have O:=h (s.heap.objs.size+1) s.heap.objs.size (I.hok.fresh (Uz _)) (I.hok.fresh (Q9 _)) (RH (RM _));have l:=Inv.made (C:=C) I;have i:Vals (V.ref (s.heap.objs.size+1)::(vs++dvs)) (SG (s.heap.objs.size+1)::(us++ds)):=.cons rfl (r.append hd);have hl:(SG (s.heap.objs.size+1)::us++ds).length=ps.length:=by have e:=i.length;simp only[F.len _ _ _ _ O] at e;exact e.symm
 refine Y5 (xK (f:=f) I.ph M.makes M.init (ZA.mp M.fn) (YC (F.run _ X.stack _ _ ⟨SG (s.heap.objs.size+1)::us,[]⟩ (SG (s.heap.objs.size+1)::(us++ds)) _ _ E (hr.make C us [])
  (l.GL.make C us []) (d _ (SG (s.heap.objs.size+1)::us) l.ph hl) i O) λr s' a=>?_))
 cases r with
 |error e=>exact hx pins Y _ _ e s' l a
 |ok fl=>
  cases fl with
  |ret u=>obtain⟨v,H',B,m,o,N⟩:=l.after a;subst o;exact⟨m,⟨V.ref (s.heap.objs.size+1),H',B,rfl,N⟩⟩
  |next=>exact Sw a
  |brk=>exact Sw a
  |cont=>exact Sw a
theorem DF(M:Mk X.K C f)(F:c9 X.prog X.w X.K X.mg X.base CX k f fd ps sp)(hr:cF (k+1) X.A)(hg:Gl X x)(hm:X.mg x=some (.ref C))(hb:Binds X.K fd ps ds)(hd:Vals dvs ds)(hx:Passes CX X E)
  (ha:PA X (e::es) t)(hdb:eV x:=by decide)(he:XU (e::es) X.env=(false,eval e X.env)::XU es X.env:=by rfl)(hpl:(X4 pos (XU es X.env)).any (·.1)=false:=by rfl):
  PE X (.Call (.Name x p) (e::es) [] pos) (Fx C sp dvs E t):=by
 intro pins s Y H Q I h;refine Yp (g8 I hg hm ?_ hdb);refine TM (h₀:=X.base) I.ok.mod.kin M.kp (cx (ha pos pins s Y H _ I h) λus s1 ⟨vs,H1,I1,r,q⟩=>⟨I1.ph,?_⟩) he hpl;exact Aw M F hr hb hd hx I1 r q
end
structure jB(N P:List Str)(sc:Scope):Prop where
 kind:sc.kind=.function
 co:sc.isCoroutine=false
 gen:sc.isGenerator=false
 nd:N.Nodup
 pre:N.take P.length=P
 par:∀x∈P,sc.names.lookup x=some .local\/sc.names.lookup x=some .cell
 nofree:∀y∈sc.names,y.2≠.free
theorem oE{kindOf:Str->Option NameKind}{x:Str}:∀{s:List (Str×Value)}{m:Str->Option Value},(∀v,(x,v)∉s)->Zr kindOf s m x=m x
 |[],_,_=>rfl
 |(n,v)::r,m,h=>by
  unfold Zr;rw[oE λw f=>h w (Q5 _ f)];split
  .have:x≠n:=by rintro rfl;exact h v Rg
   simp[this]
  .rfl
theorem om{kindOf:Str->Option NameKind}{x:Str}:∀{s:List (Str×Value)}{m:Str->Option Value},(∀v,(x,v)∉s)->Zs kindOf s m x=m x
 |[],_,_=>rfl
 |(n,v)::r,m,h=>by
  unfold Zs;rw[om λw f=>h w (Q5 _ f)];split
  .rfl
  .have:x≠n:=by rintro rfl;exact h v Rg
   simp[this]
theorem mZ{kindOf:Str->Option NameKind}{x:Str}{v:Value}:∀{P:List Str}{vs:List Value}{i:Nat}{m:Str->Option Value},P.Nodup->P[i]?=some x->vs[i]?=some v->kindOf x=some .local->
  Zr kindOf (P.zip vs) m x=some v
 |[],_,_,_,_,h,_,_=>by simp at h
 |_::_,[],_,_,_,_,h,_=>by simp at h
 |p::P,w::vs,0,m,nd,h1,h2,hk=>by simp at h1 h2;subst h1;subst h2;show Zr kindOf ((p,w)::P.zip vs) m p=_;unfold Zr;rw[oE λv c=>(RD.mp nd).1 (Td c).1,Zv hk];simp
 |p::P,w::vs,i+1,m,nd,h1,h2,hk=>by show Zr kindOf ((p,w)::P.zip vs) m x=_;unfold Zr;exact mZ (i:=i) (RD.mp nd).2 (by simpa using h1) (by simpa using h2) hk
theorem nY{kindOf:Str->Option NameKind}{x:Str}{v:Value}:∀{P:List Str}{vs:List Value}{i:Nat}{m:Str->Option Value},P.Nodup->P[i]?=some x->vs[i]?=some v->kindOf x≠some .local->
  Zs kindOf (P.zip vs) m x=some v
 |[],_,_,_,_,h,_,_=>by simp at h
 |_::_,[],_,_,_,_,h,_=>by simp at h
 |p::P,w::vs,0,m,nd,h1,h2,hk=>by simp at h1 h2;subst h1;subst h2;show Zs kindOf ((p,w)::P.zip vs) m p=_;unfold Zs;rw[om λv c=>(RD.mp nd).1 (Td c).1,Zw hk];simp
 |p::P,w::vs,i+1,m,nd,h1,h2,hk=>by show Zs kindOf ((p,w)::P.zip vs) m x=_;unfold Zs;exact nY (i:=i) (RD.mp nd).2 (by simpa using h1) (by simpa using h2) hk
noncomputable def start(N:List Str)(vs:List V):St:=vs.map some++Q3 (N.length-vs.length) none
noncomputable def qM(CX:rO)(P:Program)(w:X1)(K:Q0)(mg:Str->Option Value)(base:Heap)(N:List Str)(qual:Str)(scope:Scope)(f:Addr)(cd:Value)(A:X8)(outer:List Env)(s:Shared)(H:Hp)(E:XK):Cx where
 prog:=P
 w:=w
 K:=K
 mg:=mg
 base:=base
 A:=A.deeper (YI qual scope s.heap.objs.size f cd)
 N:=N
 s₀:=s
 H₀:=H
 env:=YI qual scope s.heap.objs.size f cd
 outer:=outer
 stack:=YI qual scope s.heap.objs.size f cd::outer
 ex:=[]
 calm:=true
 fn:=λ_=>true
 pn:=[]
 xe:=λe s'=>X0 (XZ P w) (A.deeper (YI qual scope s.heap.objs.size f cd)) (leaving (YI qual scope s.heap.objs.size f cd) e) (λ_ h=>CX outer H s E e h) (λk h=>CX outer H s E k h) s'
theorem qt{sc:Scope}{n:Nat}{x:Str}(h:sc.names.lookup x=some .cell):∃c,(Yn n sc.names []).lookup x=some c:=by have q:=Vs sc.names n [] (.inl h);exact Option.isSome_iff_exists.mp q
variable{scope:Scope}
theorem wa{P:Program}{qual:Str}{f:Addr}{cd:Value}{A:X8}{s1:Shared}{E:XK}
  (S:jB N ps scope)(hd:A.handled=none)(Q:sj P w K mg base A outer s H)(hl:vs.length=ps.length)(r:Vals vs us)
  (x:InCallC s s.heap.objs.size (Zr (YI qual scope s.heap.objs.size f cd).kindOf (ps.zip us) λ_=>none) (Yn (s.heap.objs.size+1) scope.names []) (Zs (YI qual scope s.heap.objs.size f cd).kindOf (ps.zip us) λ_=>none) s1):
  Inv (qM CX P w K mg base N qual scope f cd A outer s H E) [] (start N vs) H s1:=by
 have I:ps.length<=N.length:=by have:=Zz Xe S.pre;rw[So] at this;lia
 obtain⟨h1,tk,rfl,hk⟩:=x.done;have X:∀b:Addr,b∉(qM CX P w K mg base N qual scope f cd A outer s H E).ex:=λb z=>absurd (show b∈([]:List Addr) from z) Z3;refine⟨⟨Q.mod,S.kind,rfl,rfl,Q9 _,λy z c h1 h2=>?_,λy hy=>?_,λy c _ h=>?_,λ_=>hd,X8.frames_deeper Q.frames,.inr ⟨rfl,rfl⟩,λb z=>absurd z (X b),Q.bs,Q.bsz,λb _ _=>X b,λb z=>absurd z (X b),Q.jz,Q.frf⟩,
  rfl,Q.bare,Un.kept hk,⟨_,x.toInCall.ns,λi y v h1 h2 h3=>?_⟩,λy c h=>⟨_,x.cell y c h⟩,Q.hok.fresh (Q9 _),λy c h=>?_,λp hp=>absurd (show p∈([]:List (Addr×Obj)) from hp) Z3,Q.hok.kept hk,?_⟩
 .exact name_of_addr x.apart (RE h1) (RE h2)
 .have hy:scope.names.lookup y=some .cell\/scope.names.lookup y=some .free:=hy;rcases hy with hy|hy
  .exact qt hy
  .exact absurd rfl (S.nofree _ (RE hy))
 .exact Ru (x.above y c (RE h))
 .have hi:i<vs.length:=by
   unfold start at h2;by_cases hi:i<vs.length
   .exact hi
   .rw[RT (by simpa using hi)] at h2;rw[VC] at h2;split at h2<;>cases h2
  have ha:vs[i]?=some v:=by
   unfold start at h2;rw[R9 (by simpa using hi),RN] at h2;cases e:vs[i]? with
   |none=>rw[e] at h2;cases h2
   |some a=>rw[e] at h2;cases h2;rfl
  obtain⟨u,B,m⟩:=r.get ha;have hp:ps[i]?=some y:=by rw[<-S.pre,Vx Q1];exact h1
  have C:ps.Nodup:=by rw[<-S.pre];exact S.nd.sublist (UW _ _)
  refine⟨u,m,?_⟩;rcases S.par y (R4 hp) with k|k
  .exact .inl ⟨k,mZ C hp B k⟩
  .obtain⟨c,e⟩:=qt (n:=s.heap.objs.size+1) k;refine .inr ⟨.inl k,c,e,?_⟩;have q:=x.cell y c e;rw[nY C hp B (by show scope.names.lookup y≠_;rw[k];decide)] at q;exact q
 .exact Q.hok.fresh (Ru (x.above y c (RE h)))
 .unfold start;show _=N.length;rw[Rn,Q7,Tv];lia
theorem Ll{P:Program}{k:Nat}{f:Addr}{name qual:Str}{h:Arguments}{dV kV doc pm cdv ct oc:Value}{an od:Option Addr}
  {osl:Array (Option Value)}{sp:Sp}(Z:K.lookup f=some ⟨oc,od,.func (UI name qual h body scope dV kV doc pm an cdv ct),osl⟩)(R:Uq K cdv qual=true)(S:jB N ps scope)
  (len:∀vs H Q E,sp vs H Q E->vs.length=ps.length)
  (X:∀(A:X8)(outer:List Env)(s:Shared)(H:Hp)(vs:List V)(Q:VK)(E:XK),cF k (A.deeper (YI qual scope s.heap.objs.size f cdv))->sp vs H Q E->
   ∃t,pZ (qM CX P w K mg base N qual scope f cdv A outer s H E) body t/\t { nx:=λ_ H'=>Q .non H',rt:=Q } (start N vs) H):
  c9 P w K mg base CX (k+1) f (UI name qual h body scope dV kV doc pm an cdv ct) ps sp:=by
 refine⟨len,λA outer s H args us vs Q E hr C d r D=>?_⟩;have hl:=len _ _ _ _ D;have Y:K.In s.heap:=C.mod.kin.keeps λb o e=>(C.bs b o e).1;have lim:s.heap.NoLimit:=C.mod.nolimit.keeps λb o e=>(C.bs b o e).1;have p:∀y∈ps.zip us,scope.names.lookup y.1=some .local\/(scope.names.lookup y.1=some .cell/\((Yn (s.heap.objs.size+1) scope.names []).lookup y.1).isSome=true):=λ⟨n,v⟩ hy=>by
  rcases S.par n (Td hy).1 with q|q
  .exact .inl q
  .exact .inr ⟨q,Vs _ _ _ (.inl q)⟩
 refine codeAny_call_function hr.depth (Y _ _ Z) rfl S.co S.gen rfl (PySem.W.codeRec_of Y R) (d _ _ _ _ ?_);refine wpAny_newFunctionEnv_cells S.kind p λenv he s1 x=>?_;subst he;refine⟨lim.keeps x.toInCall.keep,codeAny_func ?_⟩;obtain⟨t,a,O⟩:=X A outer s H vs Q E (hr.deeper _) D;have I:Inv (qM CX P w K mg base N qual scope f cdv A outer s H E) [] (start N vs) H s1:=wa S hr.hd C hl r x;refine Yd (a [] s1 (start N vs) H _ I O) (λfl s' hs=>?_) λe s' hs=>hs;have fin:∀{j:St}{H':Hp}{v:V}{u:Value},Inv (qM CX P w K mg base N qual scope f cdv A outer s H E) [] j H' s'->RelV v u->Q v H'->CE outer P w H s Q u s':=
  λ{j H' v u} J m q=>⟨v,H',J.os,J.bare,J.base,J.hok,m,q⟩
 cases fl with
 |ret u=>obtain⟨v,j,H',J,m,q⟩:=hs;exact fin J m q
 |next=>obtain⟨j,H',J,q⟩:=hs;exact fin (v:=V.non) (u:=V2) J rfl q
 |brk=>obtain⟨_,_,_,q⟩:=hs;exact Sw q
 |cont=>obtain⟨_,_,_,q⟩:=hs;exact Sw q
section
variable{X:Cx}{x:Str}{p pos:Pos}{e:Expr}{es:List Expr}{t:TA}{id T:String}{r:List V->Hp->VK->Prop}
noncomputable def P7(r:List V->Hp->VK->Prop)(t:TA):TE:=λY H Q=>t Y H λvs S=>r vs S Q
theorem gH(hc:dE X (.builtin id) r)(hg:Gl X x)(hm:X.mg x=none)(hv:XX x=some (.builtin id))(ha:PA X (e::es) t)(hn:x ≠ "__name__" := by decide)(hdb:eV x:=by decide)
  (he:XU (e::es) X.env=(false,eval e X.env)::XU es X.env:=by rfl)(hpl:(X4 pos (XU es X.env)).any (·.1)=false:=by rfl):PE X (.Call (.Name x p) (e::es) [] pos) (P7 r t):=by
 intro pins s Y H Q I h;refine Yp (gm I hg hm hv ?_ hn hdb);exact Xn (cx (ha pos pins s Y H _ I h) λus s1 ⟨vs,H1,I1,r1,q1⟩=>hc pins s1 Y H1 vs us Q I1 r1 q1) he hpl
theorem fv(hc:dE X (.type T) r)(hg:Gl X x)(hm:X.mg x=none)(hv:XX x=some (.type T))(ha:PA X (e::es) t)(hn:x ≠ "__name__" := by decide)(hdb:eV x:=by decide)
  (he:XU (e::es) X.env=(false,eval e X.env)::XU es X.env:=by rfl)(hpl:(X4 pos (XU es X.env)).any (·.1)=false:=by rfl):PE X (.Call (.Name x p) (e::es) [] pos) (P7 r t):=by
 intro pins s Y H Q I h;refine Yp (gm I hg hm hv ?_ hn hdb);exact Sb (cx (ha pos pins s Y H _ I h) λus s1 ⟨vs,H1,I1,r1,q1⟩=>hc pins s1 Y H1 vs us Q I1 r1 q1) he hpl
end
end L2
namespace HT
open PySem PyProof.Rows
variable{sl:Addr}{vu:Value}{lo hi:Option Int}
section
variable{prog:Program}{w:X1}{A:X8}{E:Value->Shared->Prop}{s:Shared}
noncomputable def dk(n d:Nat):Option Int->Nat
 |none=>d
 |some v=>if v<0 then (v+(n:Int)).toNat else min v.toNat n
theorem uy(n d k:Nat):dk n d (some (k:Int))=min k n:=by show (if (k:Int)<0 then ((k:Int)+(n:Int)).toNat else min (k:Int).toNat n)=min k n;rw[Zw Z3,Ua]
theorem F6(n d:Nat)(hd:d<=n)(o:Option Int):dk n d o<=n:=by
 cases o with
 |none=>exact hd
 |some v=>
  show (if v<0 then (v+(n:Int)).toNat else min v.toNat n)<=n;by_cases c:v<0
  .rw[Zv c];lia
  .rw[Zw c];exact Nat.min_le_right _ _
theorem uD(v:Int)(n d:Nat):(if v<0 then max (v+(n:Int)) 0 else min v (n:Int))=((dk n d (some v):Nat):Int):=by
 show (if v<0 then max (v+(n:Int)) 0 else min v (n:Int))=(((if v<0 then (v+(n:Int)).toNat else min v.toNat n):Nat):Int);by_cases c:v<0
 .simp only[Zv c];simp
 .simp only[Zw c];lia
theorem sU(lo hi:Option Int)(n:Nat):TC lo hi 1 (n:Int)=(((dk n 0 lo:Nat):Int),((dk n n hi:Nat):Int)):=by
 have h1:¬ ((1:Int)<0):=by decide
 unfold TC;dsimp only [h1,if_false];refine Prod.ext ?_ ?_
 .cases lo with
  |none=>rfl
  |some v=>exact uD v n 0
 .cases hi with
  |none=>rfl
  |some v=>exact uD v n n
theorem ub(i j:Nat):SS (i:Int) (j:Int) 1=j-i:=by
 unfold SS;have h1:(1:Int) > 0:=by decide
 simp only[h1,if_true,Int.ediv_one];split<;>lia
theorem lA{v:Value}{o:Option Int}{Q:Option Int->Shared->Prop}(p:Y6 v o)(h:Q o s):X0 (XZ prog w) A (Xf v) Q E s:=by
 cases p with
 |none=>exact slicePart_none h
 |int i t=>exact slicePart_int h
theorem j5{vl:Value}{n:Nat}{Q:Int×Int×Nat->Shared->Prop}(hs:s.heap.IsSliceOf sl vl vu .none)(pl:Y6 vl lo)(r:Y6 vu hi)
  (h:Q (((dk n 0 lo:Nat):Int),1,dk n n hi-dk n 0 lo) s):X0 (XZ prog w) A (UJ (.ref sl) (pure (n:Int))) Q E s:=by
 obtain⟨os,H,t,e⟩:=id hs
 delta UJ Xg
 refine XW (XW (Zj H e (x:=vl) rfl (XW (Zj H e (x:=vu) rfl (XW (Zj H e (x:=.none) rfl (XY ?_)))))));refine XW (slicePart_none ?_);show X0 _ _ (if ((1:Int)==0)=true then _ else _) _ _ s;rw[Zw Z1];refine XW (lA pl (XW (lA r (XW (XY ?_)))));show X0 _ _ (match TC lo hi 1 (n:Int) with|(lo,hi)=>pure (lo,(1:Int),SS lo hi 1)) _ _ s;rw[sU lo hi n];show X0 _ _ (pure (((dk n 0 lo:Nat):Int),(1:Int),SS ((dk n 0 lo:Nat):Int) ((dk n n hi:Nat):Int) 1)) _ _ s;rw[ub];exact XY h
theorem Az(xs:Array Value)(i k:Nat):((Rp k).filterMap λ(m:Nat)=>xs[((i:Int)+(m:Int)*1).toNat]?).toArray=((xs.toList.drop i).take k).toArray:=by
 have e:(λ(m:Nat)=>xs[((i:Int)+(m:Int)*1).toNat]?)=λm=>xs[i+m]?:=by
  funext m
  have:((i:Int)+(m:Int)*1).toNat=i+m:=by lia
  rw[this]
 rw[e];have:=pick_run xs i k;rw[List.filterMap_map] at this;have e2:((λx=>xs[x]?)∘λx=>i+x)=λm=>xs[i+m]?:=rfl;rw[e2] at this;rw[this]
theorem jg{t:Addr}{items:Array Value}{vl:Value}{Q:Value->Shared->Prop}(j:IsTup s.heap t items)(hs:s.heap.IsSliceOf sl vl vu .none)(pl:Y6 vl lo)(r:Y6 vu hi)
  (f:¬ (dk items.size 0 lo=0/\dk items.size items.size hi=items.size))
  (h:Q (.ref s.heap.objs.size) { s with heap:=s.heap.push { cls:=.type "tuple",data:=.seq ((items.toList.drop (dk items.size 0 lo)).take (dk items.size items.size hi-dk items.size 0 lo)).toArray } })
  (hsz:items.size<=sizeLine):X0 (XZ prog w) A (Zl (.ref t) (.ref sl)) Q E s:=by
 have v:sizeOk (.seq ((items.toList.drop (dk items.size 0 lo)).take (dk items.size items.size hi-dk items.size 0 lo)).toArray):=by show ((items.toList.drop (dk items.size 0 lo)).take (dk items.size items.size hi-dk items.size 0 lo)).toArray.size<=sizeLine;simp only[Ri,So,Wr,TJ];lia
 have a:dk items.size items.size hi<=items.size:=F6 _ _ (Q9 _) hi;obtain⟨os,H,x,e⟩:=id hs;have y:s.TypeIs (.ref sl) "slice" := ⟨os,H,x⟩
 unfold Zl
 try with_reducible refine Yx ?_
 first|refine XW (XY ?_)|skip
 refine XW (wpAny_sequenceKey j.typeIs Z1 ?_);refine XW (wpAny_callSpecial?_slot (name:=Str.ofString "__getitem__") j.typeIs S9
  (wpAny_call_entry S9 j.typeIs entry_tuple_getitem ?_ (args_tuple_getitem _ _)))
 show X0 _ _ (Xh (.ref t) >>= _) _ _ s;refine XW (tupleItemsOf_ j ?_);refine XW (wpAny_typeOf y ?_);rw[Zv Z1];refine XW (j5 hs pl r ?_);have I:¬ ((((dk items.size 0 lo:Nat):Int)==0&&(1:Int)==1&&(dk items.size items.size hi-dk items.size 0 lo)==items.size)=true):=by intro q;simp only[QZ,QZ] at q;have T:((dk items.size 0 lo:Nat):Int)=0:=eq_of_beq q.1.1;have J:dk items.size items.size hi-dk items.size 0 lo=items.size:=eq_of_beq q.2;exact f ⟨by lia,by lia⟩
 show X0 _ _ (if (((dk items.size 0 lo:Nat):Int)==0&&(1:Int)==1&&(dk items.size items.size hi-dk items.size 0 lo)==items.size)=true then _ else _) _ _ s;rw[Zw I,Az]
 first
  |exact XW (m:=SU _) (Yk (XY ⟨_,rfl,XY h⟩) v)
  |exact XW (m:=SU _) (Yk (XW (XY (XY ⟨_,rfl,XY h⟩))) v)
  |exact XW (XW (m:=SU _) (Yk (XY (XY ⟨_,rfl,XY h⟩)) v))
  |exact XW (XW (m:=SU _) (Yk (XY ⟨_,rfl,XY h⟩) v))
end
end HT
namespace L2
open PySem PySem.Spec PyProof.Rows
abbrev TO:=St->Hp->(Option Int->Hp->Prop)->Prop
def PO(X:Cx)(e:Option Expr)(t:TO):Prop:=
 ∀(pins:List (Addr×Obj))(s:Shared)(Y:St)(H:Hp)(Q:Option Int->Hp->Prop),Inv X pins Y H s->t Y H Q->
  X0 (XZ X.prog X.w) X.A (evalPart e X.env) (λu s'=>∃o H',Inv X pins Y H' s'/\Y6 u o/\Q o H') X.xe s
noncomputable def CT:TO:=λ_ H Q=>Q none H
noncomputable def Kj(t:TE):TO:=λY H Q=>t Y H λx S=>∃i,x=.int i/\Q (some i) S
variable{r:V->Option Int->Option Int->Hp->VK->Prop}
section
variable{X:Cx}{e:Expr}{te:TE}{lo hi:Option Expr}{tl th:TO}{pos p2:Pos}
theorem Ds:PO X none CT:=by intro pins s Y H Q I h;simp only[evalPart_none];exact XY ⟨none,H,I,.none,h⟩
theorem BM(h:PE X e te):PO X (some e) (Kj te):=by intro pins s Y H Q I f;simp only[evalPart_some];refine cx (h pins s Y H _ I f) λu s1 ⟨x,S,U,V,T⟩=>?_;obtain⟨i,rfl,q⟩:=T;obtain⟨t,rfl⟩:=V;exact⟨some i,S,U,.int i t,q⟩
def d9(X:Cx)(r:V->Option Int->Option Int->Hp->VK->Prop):Prop:=
 ∀(pins:List (Addr×Obj))(s:Shared)(Y:St)(H:Hp)(x:V)(v vl h:Value)(lo hi:Option Int)(sl:Addr)(Q:VK),Inv X pins Y H s->RelV x v->s.heap.IsSliceOf sl vl h .none->Y6 vl lo->Y6 h hi->r x lo hi H Q->
  ∃T id,typeLookup (.type T) "__getitem__" = pure (some (.builtin id))/\s.TypeIs v T/\X0 (XZ X.prog X.w) X.A (Zl v (.ref sl)) (EP X pins Y Q) X.xe s
theorem d9.or{r':V->Option Int->Option Int->Hp->VK->Prop}(h:d9 X r)(h':d9 X r'):d9 X (λx lo hi H Q=>r x lo hi H Q\/r' x lo hi H Q):=by
 intro pins s Y H x v vl A lo hi sl Q I K hs pl E q;rcases q with q|q
 .exact h pins s Y H x v vl A lo hi sl Q I K hs pl E q
 .exact h' pins s Y H x v vl A lo hi sl Q I K hs pl E q
noncomputable def Qi(r:V->Option Int->Option Int->Hp->VK->Prop)(te:TE)(tl th:TO):TE:=λY H Q=>te Y H λx S=>tl Y S λl P=>th Y P λu s=>r x l u s Q
theorem yF(hr:d9 X r)(he:PE X e te)(hl:PO X lo tl)(B:PO X hi th):PE X (.Subscript e (.Slice lo hi none p2) pos) (Qi r te tl th):=by intro pins s Y H Q I h;refine Subscript_ (cx (he pins s Y H _ I h) λv s1 ⟨x,S,U,V,c⟩=>?_);refine wpAny_Slice (cx (hl pins s1 Y S _ U c) λvl s2 ⟨l,P,E,pl,j⟩=>cx (B pins s2 Y P _ E j) λg K ⟨u,p,n,o,N⟩=>?_);rw[evalPart_none];refine XY ?_;have t:Inv X pins Y p { K with heap:=K.heap.push { cls:=.type "slice",data:=.fields #[vl,g,.none] } }:=n.kept (t':=K.toks) λb ob q=>Rm _ q;obtain⟨T,id,y,a,G⟩:=hr pins { K with heap:=K.heap.push { cls:=.type "slice",data:=.fields #[vl,g,.none] } } Y p x v vl g l u K.heap.objs.size Q t V (W5 ..) pl o N;show X0 (XZ X.prog X.w) X.A (subscriptTail e (.Slice lo hi none p2) v (.ref K.heap.objs.size)) (EP X pins Y Q) X.xe { K with heap:=K.heap.push { cls:=.type "slice",data:=.fields #[vl,g,.none] } };exact tail_any (ops:=[.ref K.heap.objs.size,v]) a y G (by with_unfolding_all rfl)
def pC(xs:List V)(lo hi:Option Int):List V:=(xs.drop (HT.dk xs.length 0 lo)).take (HT.dk xs.length xs.length hi-HT.dk xs.length 0 lo)
theorem kj(xs:List V)(lo hi:Option Int):(pC xs lo hi).length<=xs.length:=by unfold pC;simp only[So,Wr];lia
def Pd(K:Q0):V->Option Int->Option Int->Hp->VK->Prop:=λx lo hi H Q=>∃a xs,x=.ref a/\i4 K H a xs /\
 ¬ (HT.dk xs.length 0 lo=0/\HT.dk xs.length xs.length hi=xs.length)/\∀p,H p=none->Q (.ref p) (upd H p (.tup (pC xs lo hi)))
theorem Jh:d9 X (Pd X.K):=by
 intro pins s Y H x v vl A lo hi sl Q I w hs pl u h;obtain⟨a,xs,rfl,hx,f,q⟩:=h;cases w;obtain⟨l,r,j,hz⟩:=I.tuple hx;have E:l.toArray.size=xs.length:=by rw[Ri];exact r.length.symm
 refine⟨"tuple",_,S9.lookup,j.typeIs,?_⟩;refine HT.jg j hs pl u (by rw[E];exact f) ?_ (by rw[E];exact hz);rw[E];refine⟨.ref s.heap.objs.size,_,I.laid (t':=s.toks) (o:=.tup (pC xs lo hi)) (λb ob q=>Rm _ q) (Q9 _) ?_,rfl,q _ (I.hok.fresh (Q9 _))⟩;exact⟨RG (kj xs lo hi) hz,_,(r.drop (HT.dk xs.length 0 lo)).take (HT.dk xs.length xs.length hi-HT.dk xs.length 0 lo),iO.new _ _⟩
end
noncomputable def fV(n:Nat)(i:Int):Option Nat:=if 0<=i then (if i<n then some i.toNat else none) else if -(n:Int)<=i then some (i+n).toNat else none
def gU{α:Type}(xs:List α)(i:Int):Option α:=(fV xs.length i).bind λj=>xs[j]?
variable{i:Int}{j:Nat}
theorem pO{n:Nat}(h:fV n i=some j):seqIndex? i n=some j/\j<n /\ -(n:Int)<=i/\i<n:=by
 unfold fV at h;by_cases h0:0<=i
 .rw[Zv h0] at h;by_cases h1:i<n
  .rw[Zv h1] at h;have e:i.toNat=j:=Rv h;exact⟨by rw[Zk h0 h1,e],by lia,by lia,h1⟩
  .rw[Zw h1] at h;cases h
 .rw[Zw h0] at h;by_cases h1:-(n:Int)<=i
  .rw[Zv h1] at h;have e:(i+n).toNat=j:=Rv h;exact⟨by rw[Zc Q1 h1,e],by lia,h1,by lia⟩
  .rw[Zw h1] at h;cases h
variable{α:Type}
theorem oV{xs:List α}{v:α}(h:gU xs i=some v):∃j,seqIndex? i xs.length=some j/\xs[j]?=some v/\j<xs.length /\ -(xs.length:Int)<=i/\i<xs.length:=by
 unfold gU at h;cases e:fV xs.length i with
 |none=>rw[e] at h;cases h
 |some j=>rw[e] at h;obtain⟨h1,h2,h3,h4⟩:=pO e;exact⟨j,h1,h,h2,h3,h4⟩
theorem eE{xs:List α}{v:α}(h:xs[j]?=some v):gU xs (j:Int)=some v:=by
 have a:j<xs.length:=(Q4.mp h).1;have e:fV xs.length (j:Int)=some j:=by unfold fV;rw[Zv Z3,Zv Q1];rfl
 unfold gU;rw[e];exact h
def je(b:Expr):Prop:=∀o i,subscripted b false o i=operate [o,i] (Zl o i)
def DT(X:Cx)(r:R2):Prop:=
 ∀(value h:Expr)(pins:List (Addr×Obj))(s:Shared)(Y:St)(H:Hp)(x y:V)(v u:Value)(Q:VK),Inv X pins Y H s->RelV x v->RelV y u->r x y H Q->
  subscripted h false v u=operate [v,u] (Zl v u)->X0 (XZ X.prog X.w) X.A (subscriptTail value h v u) (EP X pins Y Q) X.xe s
def QR(X:Cx)(id:String)(r:V->List V->Hp->VK->Prop):Prop:=
 ∀(pins:List (Addr×Obj))(s:Shared)(Y:St)(H:Hp)(x:V)(xs:List V)(v:Value)(us:List Value)(Q:VK),Inv X pins Y H s->RelV x v->Vals xs us->r x xs H Q->
  X0 (XZ X.prog X.w) X.A (call (.builtin id) (v::us)) (EP X pins Y Q) X.xe s
variable{pins:List (Addr×Obj)}{Y:St}{H:Hp}{s:Shared}{p:Addr}{xs:List V}{its its':List Value}{u:Value}
section
variable{X:Cx}{a b:Expr}{ta tb:TE}{pos:Pos}
theorem DT.or{r r':R2}(h:DT X r)(h':DT X r'):DT X (λx y H Q=>r x y H Q\/r' x y H Q):=by
 intro value C pins s Y H x y v u Q I K z q hs;rcases q with q|q
 .exact h value C pins s Y H x y v u Q I K z q hs
 .exact h' value C pins s Y H x y v u Q I K z q hs
theorem zL{r:R2}(hr:DT X r)(ha:PE X a ta)(d:PE X b tb)(hs:je b):PE X (.Subscript a b pos) (Kb r ta tb):=by intro pins s Y H Q I h;exact Subscript_ (GC ha d I h λv u s2 x y P e K z q=>hr a b pins s2 Y P x y v u Q e K z q (hs _ _))
def Jf(K:Q0):R2:=λx y H Q=>∃p xs i v,x=.ref p/\y=.int i/\dI K H p xs/\gU xs i=some v/\Q v H
def Kl(K:Q0):R2:=λx y H Q=>∃p xs i v,x=.ref p/\y=.int i/\i4 K H p xs/\gU xs i=some v/\Q v H
def NG:R2:=λx y H Q=>∃z i c,x=.str z/\y=.int i/\z.length<=sizeLine/\gU z.cps.toList i=some c/\Q (.str ⟨#[c]⟩) H
theorem oG:DT X (Jf X.K):=by
 intro value C pins s Y H x y v u Q I J R h hs;obtain⟨p,xs,i,z,rfl,rfl,O,he,q⟩:=h;cases J;obtain⟨t,rfl⟩:=R;obtain⟨its,r,pl,hz⟩:=I.list O;obtain⟨j,h1,h2,h3,h4,h5⟩:=oV he;obtain⟨w,F,D⟩:=r.get h2;have hl:=r.length;have hn:=lX;have fin:EP X pins Y Q w s:=⟨z,H,I,D,q⟩
 by_cases h0:0<=i
 .have a:i.toNat=j:=by rw[Zk h0 h5] at h1;exact Rv h1
  exact item_listR pl.isList h0 Q1 (by rw[a];simpa using F) fin hs
 .have a:(i+(its.toArray.size:Int)).toNat=j:=by rw[Zc Q1 h4] at h1;rw[Ri,<-hl];exact Rv h1
  exact YV (x:=w) pl.isList.typeIs slot_list_getitem.lookup
   (wpAny_getItem_list_neg (Q:=λr s'=>r=w/\EP X pins Y Q r s') pl.isList Q1 (by rw[Ri]<;>lia) Q1 (by rw[a];simpa using F) ⟨rfl,fin⟩) hs
theorem Gi:DT X (Kl X.K):=by
 intro value C pins s Y H x y v u Q I J R h hs;obtain⟨p,xs,i,z,rfl,rfl,O,he,q⟩:=h;cases J;obtain⟨t,rfl⟩:=R;obtain⟨its,r,pl,hz⟩:=I.tuple O;obtain⟨j,h1,h2,h3,h4,h5⟩:=oV he;obtain⟨w,F,D⟩:=r.get h2;have hl:=r.length;have hn:=lX;have fin:EP X pins Y Q w s:=⟨z,H,I,D,q⟩
 exact YV (x:=w) pl.typeIs slot_tuple_getitem.lookup
  (getItem_tuple (j:=j) (Q:=λr s'=>r=w/\EP X pins Y Q r s') pl Q1 Q1 (by rw[Ri,<-hl];exact h1) (by simpa using F) ⟨rfl,fin⟩) hs
theorem F2:DT X NG:=by
 intro value C pins s Y H x y v u Q I K R h hs;obtain⟨z,i,c,rfl,rfl,hz,he,q⟩:=h;obtain⟨t,rfl⟩:=K;obtain⟨t',rfl⟩:=R;obtain⟨j,h1,h2,h3,h4,h5⟩:=oV he;have hl:z.cps.toList.length=z.length:=by rfl
 rw[hl] at h1 h4 h5;have hn:=lX;exact tail_any (typeIs_str s z t) slot_str_getitem.lookup (getItem_str (c:=c) (by have e1:decide (i < -(2^63:Int))=false:=Zx Q1;have e2:decide (i≥2^63)=false:=Zx Q1;rw[e1,e2,Bool.or_false]) (by rw[h1];simpa using h2) ⟨.str ⟨#[c]⟩,H,I.tok _,⟨_,rfl⟩,q⟩) hs
def PU(K:Q0):R2:=λx y H Q=>Jf K x y H Q\/Kl K x y H Q\/NG x y H Q
theorem GW:DT X (PU X.K):=oG.or (Gi.or F2)
theorem tj(its:List Value)(n j:Nat)(u:Value):UQ (·.setIfInBounds j u) { cls:=.type "list",data:=.seq its.toArray n }={ cls:=.type "list",data:=.seq (its.set j u).toArray n }:=by simp[UQ]
theorem Inv.lst(I:Inv X pins Y H s)(h:H p=some (.lst xs)):
  ∃(its:List Value)(n:Nat),Vals xs its/\s.heap.get? p=some { cls:=.type "list",data:=.seq its.toArray n }/\xs.length<=sizeLine:=by
 obtain⟨z,its,n,r,e⟩:=I.hok p _ h;exact⟨its,n,r,e,z⟩
theorem Inv.GG{ys:List V}{n Q:Nat}{f:Obj->Obj}(I:Inv X pins Y H s)(h:H p=some (.lst xs))
  (ho:s.heap.get? p=some { cls:=.type "list",data:=.seq its.toArray n })(hf:f { cls:=.type "list",data:=.seq its.toArray n }={ cls:=.type "list",data:=.seq its'.toArray Q })(r:Vals ys its')(hz:ys.length<=sizeLine)(t:Nat):
  Inv X pins Y (upd H p (.lst ys)) { s with heap:=s.heap.update p f,toks:=t }:=by
 have e:(s.heap.update p f).get? p=some { cls:=.type "list",data:=.seq its'.toArray Q }:=by rw[Heap.get?_update_self f ho (by rw[hf]<;>rfl),hf]
 refine I.write (x:=p) (e:=p) (by rw[h];trivial) (.inl rfl) (λb u d q=>(VH _ _ (R7 d)).trans q) ⟨_,e⟩ ?_;exact⟨hz,its',Q,r,e⟩
def qH:V->V->V->Hp->(Hp->Prop)->Prop:=λo i v H Q=>∃p xs k j,o=.ref p/\i=.int k/\H p=some (.lst xs)/\fV xs.length k=some j/\Q (upd H p (.lst (xs.set j v)))
theorem set_list:MC X qH:=by
 intro pins s Y H o i v g l u Q I x L m h;obtain⟨p,xs,k,j,rfl,rfl,hp,Z,q⟩:=h;cases x;obtain⟨t,rfl⟩:=L;obtain⟨its,n,r,ho,hz⟩:=I.lst hp;obtain⟨h1,h2,h3,h4⟩:=pO Z;have hl:=r.length;have hn:=lX;have a:Inv X pins Y (upd H p (.lst (xs.set j v))) { s with heap:=s.heap.update p (UQ (·.setIfInBounds j u)) }:=
  I.GG hp ho (tj its n j u) (r.set m j) (by rw[Vc];exact hz) s.toks
 by_cases h0:0<=k
 .have hk:k.toNat=j:=by rw[Zk h0 h4] at h1;exact Rv h1
  exact PySem.W.ki_setAt ho h0 Q1 (by rw[Ri,<-hl];exact h4) (by rw[hk];exact⟨_,a,q⟩)
 .have hk:(k+(its.toArray.size:Int)).toNat=j:=by rw[Zc Q1 h3] at h1;rw[Ri,<-hl];exact Rv h1
  exact PySem.W.ki_setBack ho Q1 (by rw[Ri,<-hl];exact h3) Q1 (by rw[hk];exact⟨_,a,q⟩)
theorem oI(lo hi:Option Int)(n:Nat):(YF lo hi none n).1=((HT.dk n 0 lo:Nat):Int)/\(YF lo hi none n).2.1=((HT.dk n n hi:Nat):Int)/\(YF lo hi none n).2.2=1:=by
 refine⟨?_,?_,rfl⟩
 .cases lo with
  |none=>rfl
  |some i=>
   simp only[YF,HT.dk,We,show (1:Int) > 0 by decide,if_true];by_cases h:i<0
   .simp only[h,if_true]<;>lia
   .simp only[h,if_false]<;>lia
 .cases hi with
  |none=>rfl
  |some i=>
   simp only[YF,HT.dk,We,show (1:Int) > 0 by decide,if_true];by_cases h:i<0
   .simp only[h,if_true]<;>lia
   .simp only[h,if_false]<;>lia
theorem mR(its:List Value)(lo hi:Option Int):slicePick its.toArray lo hi none=((its.drop (HT.dk its.length 0 lo)).take (HT.dk its.length its.length hi-HT.dk its.length 0 lo)).toArray:=by obtain⟨h1,h2,h3⟩:=oI lo hi its.toArray.size;unfold slicePick;simp only[h1,h2,h3];rw[sliceRange_one,pick_run,Ri]<;>rfl
def OF(K:Q0):V->Option Int->Option Int->Hp->VK->Prop:=λx lo hi H Q=>∃a xs,x=.ref a/\dI K H a xs/\∀p,H p=none->Q (.ref p) (upd H p (.lst (pC xs lo hi)))
theorem CI:d9 X (OF X.K):=by intro pins s Y H x v vl A lo hi sl Q I w hs pl u h;obtain⟨a,xs,rfl,hx,q⟩:=h;cases w;obtain⟨its,r,j,hz⟩:=I.list hx;have E:=r.length;refine⟨"list",_,slot_list_getitem.lookup,j.isList.typeIs,?_⟩;refine wpAny_getItem_list_slice j.isList hs pl u .none Z1 ?_ (by rw[Ri]<;>lia);rw[mR,<-E];refine⟨.ref s.heap.objs.size,_,I.laid (t':=s.toks) (o:=.lst (pC xs lo hi)) (λb ob q=>Rm _ q) (Q9 _) ?_,rfl,q _ (I.hok.fresh (Q9 _))⟩;exact⟨RG (kj xs lo hi) hz,_,0,(r.drop (HT.dk xs.length 0 lo)).take (HT.dk xs.length xs.length hi-HT.dk xs.length 0 lo),RF _ rfl⟩
noncomputable def gK:V->Bool
 | .non=>true
 | .bl _=>true
 | .int _=>true
 | .str _=>true
 |_=>false
noncomputable def Eu:V->V->Bool
 | .non,.non=>true
 | .bl a,.bl b=>a==b
 | .bl a,.int b=>(if a then 1 else 0)==b
 | .int a,.bl b=>a==(if b then 1 else 0)
 | .int a,.int b=>a==b
 | .str a,.str b=>a==b
 |_,_=>false
theorem cN{A:X8}{y x:V}{v:Value}(z:RelV y u)(K:RelV x v)(Q:gK y=true)(fx:gK x=true):Uj A s u v (Eu y x):=by
 cases y with
 |non=>
  cases z;cases x with
  |non=>cases K;exact Uj.same _
  |bl b=>cases K;exact Uj.none_bool b
  |int b=>obtain⟨t,rfl⟩:=K;exact Uj.none_int b t
  |str b=>obtain⟨t,rfl⟩:=K;exact Uj.none_str b t
  |_=>exact absurd (show false=true from fx) RZ
 |bl a=>
  cases z;cases x with
  |non=>cases K;exact Uj.bool_none a
  |bl b=>cases K;exact Uj.bool_bool a b
  |int b=>obtain⟨t,rfl⟩:=K;exact Uj.bool_int a b t
  |str b=>obtain⟨t,rfl⟩:=K;exact Uj.bool_str a b t
  |_=>exact absurd (show false=true from fx) RZ
 |int a=>
  obtain⟨t',rfl⟩:=z;cases x with
  |non=>cases K;exact Uj.int_none a t'
  |bl b=>cases K;exact Uj.int_bool a t' b
  |int b=>obtain⟨t,rfl⟩:=K;exact Uj.int_int a t' b t
  |str b=>obtain⟨t,rfl⟩:=K;exact Vu a t' b t
  |_=>exact absurd (show false=true from fx) RZ
 |str a=>
  obtain⟨t',rfl⟩:=z;cases x with
  |non=>cases K;exact Uj.str_none a t'
  |bl b=>cases K;exact Uj.str_bool a t' b
  |int b=>obtain⟨t,rfl⟩:=K;exact Vv a t' b t
  |str b=>obtain⟨t,rfl⟩:=K;exact Uj.str_str a t' b t
  |_=>exact absurd (show false=true from fx) RZ
 |_=>exact absurd (show false=true from Q) RZ
def t6(x:V)(u:Value):Bool:=match u with
 | .none=>Eu .non x
 | .bool b=>Eu (.bl b) x
 | .int i _=>Eu (.int i) x
 | .str z _=>Eu (.str z) x
 |_=>false
theorem Bc{x y:V}(r:RelV y u)(f:gK y=true):t6 x u=Eu y x:=by
 cases y with
 |non=>cases r;rfl
 |bl b=>cases r;rfl
 |int i=>obtain⟨t,rfl⟩:=r;rfl
 |str z=>obtain⟨t,rfl⟩:=r;rfl
 |_=>exact absurd (show false=true from f) RZ
theorem ji{x:V}:∀{xs:List V}{us:List Value},Vals xs us->xs.all gK=true->us.any (t6 x)=xs.any λy=>Eu y x
 |_,_,.nil,_=>rfl
 |y::xs,u::us,.cons r t,f=>by simp only[Rt,QZ] at f;simp only[WU,WU,Bc r f.1,ji t f.2]
theorem gQ{A:X8}{s:Shared}{x:V}{v:Value}(K:RelV x v)(fx:gK x=true):∀{xs:List V}{us:List Value},Vals xs us->xs.all gK=true->∀u∈us,Uj A s u v (t6 x u)
 |_,_,.nil,_=>λu B=>by cases B
 |y::xs,u::us,.cons r t,f=>λZ B=>by
  simp only[Rt,QZ] at f;rcases Rc.mp B with rfl|B
  .rw[Bc r f.1];exact cN r K f.1 fx
  .exact gQ K fx t f.2 Z B
def E4(x:V)(xs:List V):Bool:=xs.any λy=>Eu y x
def NX(K:Q0)(neg:Bool):R2:=λx y H Q=>∃p xs,y=.ref p/\(dI K H p xs\/i4 K H p xs)/\gK x=true/\xs.all gK=true/\Q (.bl (if neg then !E4 x xs else E4 x xs)) H
theorem nj:iC X (Yi .In) (NX X.K false):=by
 intro pins s Y H x y v u Q I J z h;obtain⟨p,xs,rfl,O,fx,fs,q⟩:=h;cases z;rcases O with O|O
 .obtain⟨its,r,pl,hz⟩:=I.list O;refine SeqAt.in_listAt (t6 x) pl.isList (λw f=>gQ J fx r fs w (by simpa using f)) ⟨.bl _,H,I,rfl,?_⟩;rw[show its.toArray.any (t6 x)=its.any (t6 x) by simp,ji r fs];exact q
 .obtain⟨its,r,pl,hz⟩:=I.tuple O;refine SeqAt.in_tupleAt (t6 x) pl (λw f=>gQ J fx r fs w (by simpa using f)) ⟨.bl _,H,I,rfl,?_⟩;rw[show its.toArray.any (t6 x)=its.any (t6 x) by simp,ji r fs];exact q
theorem jL:iC X (Yi .NotIn) (NX X.K true):=by
 intro pins s Y H x y v u Q I J z h;obtain⟨p,xs,rfl,O,fx,fs,q⟩:=h;cases z;rcases O with O|O
 .obtain⟨its,r,pl,hz⟩:=I.list O;refine SeqAt.notIn_listAt (t6 x) pl.isList (λw f=>gQ J fx r fs w (by simpa using f)) ⟨.bl _,H,I,rfl,?_⟩;rw[show its.toArray.any (t6 x)=its.any (t6 x) by simp,ji r fs];exact q
 .obtain⟨its,r,pl,hz⟩:=I.tuple O;refine SeqAt.notIn_tupleAt (t6 x) pl (λw f=>gQ J fx r fs w (by simpa using f)) ⟨.bl _,H,I,rfl,?_⟩;rw[show its.toArray.any (t6 x)=its.any (t6 x) by simp,ji r fs];exact q
theorem oP:dE X (.type "list") (λxs H Q=>∃p ys,xs=[.ref p]/\(dI X.K H p ys\/i4 X.K H p ys)/\∀l,H l=none->Q (.ref l) (upd H l (.lst ys))):=by
 intro pins s Y H xs us Q I r h;obtain⟨p,ys,rfl,O,q⟩:=h;obtain⟨u,rfl,J⟩:=vals1 r;cases J;have fin:∀(its:List Value),Vals ys its->ys.length<=sizeLine->∀(h':Heap)(v:Nat),(∀b o',s.heap.get? b=some o'->h'.get? b=some o')->
   h'.get? s.heap.objs.size=some { cls:=.type "list",dict:=none,data:=.seq its.toArray v,slots:=#[] }->EP X pins Y Q (.ref s.heap.objs.size) { s with heap:=h' }:=λits r' hz h' v kp e=>
  ⟨.ref s.heap.objs.size,_,I.laid (t':=s.toks) kp (Q9 _) (show cy X.prog X.w _ h' _ (.lst ys) from ⟨hz,its,v,r',e⟩),rfl,q _ (I.hok.fresh (Q9 _))⟩
 rcases O with O|O
 .obtain⟨its,r',pl,hz⟩:=I.list O;have E:=r'.length;obtain⟨o,ho,hc,n,hd⟩:=pl.isList;exact call_list_seq p (.inl rfl) ho hc hd (λh' v kp e=>fin its r' hz h' v kp e) (by simp only[Ri]<;>lia)
 .obtain⟨its,r',pl,hz⟩:=I.tuple O;have E:=r'.length;obtain⟨o,ho,hc,n,hd⟩:=pl;exact call_list_seq p (.inr rfl) ho hc hd (λh' v kp e=>fin its r' hz h' v kp e) (by simp only[Ri]<;>lia)
theorem mO:dE X (.type "tuple") (λxs H Q=>∃p ys,xs=[.ref p]/\((dI X.K H p ys/\∀l,H l=none->Q (.ref l) (upd H l (.tup ys)))\/(i4 X.K H p ys/\Q (.ref p) H))):=by
 intro pins s Y H xs us Q I r h;obtain⟨p,ys,rfl,h⟩:=h;obtain⟨u,rfl,J⟩:=vals1 r;cases J;rcases h with ⟨O,q⟩|⟨O,q⟩
 .obtain⟨its,r',pl,hz⟩:=I.list O;have E:=r'.length;refine call_tuple_list pl.isList (λh' kp=>?_) (by rw[Ri]<;>lia);have U:Inv X pins Y H { s with heap:=h' }:=I.kept (t':=s.toks) kp;have k:Inv X pins Y (upd H h'.objs.size (.tup ys)) { s with heap:=h'.push { cls:=.type "tuple",data:=.seq its.toArray } }:=
   U.laid (t':=s.toks) (λb o e=>Rm _ e) (Q9 _) (show cy X.prog X.w _ _ _ (.tup ys) from ⟨hz,its,r',iO.new _ _⟩)
  exact⟨.ref h'.objs.size,_,k,rfl,q _ (U.hok.fresh (Q9 _))⟩
 .obtain⟨its,r',pl,hz⟩:=I.tuple O;exact call_tuple_same pl ⟨.ref p,H,I,rfl,q⟩
def PK(K:Q0)(T:String)(x:V)(H:Hp):Prop:=match x with
 | .str _=>T = "str"
 | .int _=>T = "int"
 | .ref p=>(T = "list" /\ ∃xs,dI K H p xs)\/(T = "tuple" /\ ∃o,K.lookup p=some o/\o.cls=.type "tuple" /\ o.dict=none) \/
   (T = "dict" /\ ((∃kvs,H p=some (.dK kvs))\/∃kvs,H p=some (.dT kvs)))\/(T = "set" /\ ∃S n,H p=some (.set S n))
 |_=>False
theorem Hr{T:String}{x:V}{v:Value}(I:Inv X pins Y H s)(r:RelV x v)(ty:PK X.K T x H):
  s.TypeIs v T/\∀a,v=.ref a->∃ob,s.heap.get? a=some ob/\ob.dict=none:=by
 cases x with
 |str z=>obtain⟨t,rfl⟩:=r;cases (show T = "str" from ty);exact⟨typeIs_str s z t,λ_ e=>nomatch e⟩
 |int i=>obtain⟨t,rfl⟩:=r;cases (show T = "int" from ty);exact⟨Zt s i t,λ_ e=>nomatch e⟩
 |ref p=>
  cases r;rcases ty with ⟨rfl,xs,O⟩|⟨rfl,o,hk,hc,hd⟩|⟨rfl,hk⟩|⟨rfl,S,n,hk⟩
  .obtain⟨its,_,pl,_⟩:=I.list O;refine⟨pl.isList.typeIs,λa e=>?_⟩;cases e;obtain⟨o,n,e,c,hd,_⟩:=pl;exact⟨o,e,hd⟩
  .refine⟨⟨o,I.ph p o hk,hc⟩,λa e=>?_⟩;cases e;exact⟨o,I.ph _ o hk,hd⟩
  .have z:∃o,s.heap.get? p=some o/\o.ExactDict:=by
    rcases hk with ⟨kvs,hk⟩|⟨kvs,hk⟩
    .obtain⟨_,_,_,_,o,_,_,e,ex,_⟩:=I.hok p _ hk;exact⟨o,e,ex⟩
    .obtain⟨_,_,_,_,o,_,_,e,ex,_⟩:=I.hok p _ hk;exact⟨o,e,ex⟩
   obtain⟨o,e,ex⟩:=z;refine⟨⟨o,e,ex.1⟩,λa e2=>?_⟩;cases e2;exact⟨o,e,ex.2.1⟩
  .obtain⟨o,_,_,_,e,ex,_⟩:=I.hok p _ hk;refine⟨⟨o,e,ex.1⟩,λa e2=>?_⟩;cases e2;exact⟨o,e,ex.2.1⟩
 |_=>exact Sw ty
noncomputable def QG(K:Q0)(T:String)(r:V->List V->Hp->VK->Prop)(X:TE)(t:TA):TE:=λY H Q=>X Y H λx S=>PK K T x S/\t Y S λxs P=>r x xs P Q
variable{o e:Expr}{es:List Expr}{to:TE}{t:TA}{name:Str}{apos cpos:Pos}{T id:String}{r:V->List V->Hp->VK->Prop}
theorem xG(pa:PlainAttrs T)(slot:Slot T name id)(hty:typeOf (.builtin id)=pure (.type "method_descriptor"))(hm:QR X id r)(ho:PE X o to)(ha:PA X (e::es) t)
  (hbase:X7 o name X.env (eval o X.env)=eval o X.env:=by rfl)
  (hfew:((X4 cpos (XU (e::es) X.env)).all (λx=>!x.1)&&(Yl cpos (Yb [] X.env)).all (λx=>x.1.isSome)
   && decide ((e::es).length+([]:List Ym).length+(if ([]:List Ym).isEmpty then 0 else 1)<30))=true:=by rfl)
  (hline:(apos.endLine==cpos.line)=true:=by rfl) (hs:XU (e::es) X.env=(false,eval e X.env)::XU es X.env:=by rfl) (hplain:(X4 cpos (XU es X.env)).any (·.1)=false:=by rfl):
  PE X (.Call (.Attribute o name apos) (e::es) [] cpos) (QG X.K T r to t):=by
 intro pins s Y H Q I h;refine wpAny_Call_method_late hbase hfew hline rfl (cx (ho pins s Y H _ I h) λv s1 ⟨x,H1,I1,r1,ty,q1⟩=>?_);obtain⟨h1,h2⟩:=Hr I1 r1 ty;refine⟨T,id,pa,slot,hty,h1,h2,?_⟩;have hA:=ha cpos pins s1 Y H1 _ I1 q1;rw[hs] at hA ⊢;refine Calls.callWith_builtin (by show (false || (X4 cpos (XU es X.env)).any (·.1))=false;rw[hplain]<;>rfl) (VS ?_);exact cx hA λus s2 ⟨vs,H2,I2,r2,q2⟩=>hm pins s2 Y H2 x vs v us Q I2 r1 r2 q2
end
def Pz(X:Cx)(id:String)(r:V->List V->Hp->VK->Prop):Prop:=
 ∀(pins:List (Addr×Obj))(s:Shared)(Y:St)(H:Hp)(x:V)(xs:List V)(v:Value)(us:List Value)(Q:VK),Inv X pins Y H s->RelV x v->Vals xs us->r x xs H Q->
  X0 (XZ X.prog X.w) X.A (call (.builtin id) (v::us)) (EP X pins Y Q) X.xe s
theorem Vals.one:∀{x:V}{us:List Value},Vals [x] us->∃u,us=[u]/\RelV x u
 |_,_,.cons r .nil=>⟨_,rfl,r⟩
theorem Vals.two:∀{x y:V}{us:List Value},Vals [x,y] us->∃u v,us=[u,v]/\RelV x u/\RelV y v
 |_,_,_,.cons r (.cons q .nil)=>⟨_,_,rfl,r,q⟩
theorem Vals.rep{xs:List V}{us:List Value}(h:Vals xs us):∀k:Nat,Vals (Q3 k xs).flatten (Q3 k us).flatten
 |0=>.nil
 |k+1=>by simp only[S6,S6,T6,T6];exact Vals.append h (Vals.rep h k)
theorem foldl_rep(its:List Value):∀(k:Nat)(acc:List Value),
  UO (λx1 x2=>x1++x2) acc.toArray (Q3 k its.toArray)=(acc++(Q3 k its).flatten).toArray
 |0,acc=>by simp
 |k+1,acc=>by
  have e:acc.toArray++its.toArray=(acc++its).toArray:=by simp
  have e2:(acc++its)++(Q3 k its).flatten=acc++(Q3 (k+1) its).flatten:=by simp only[S6,T6,Q6]
  rw[<-e2,<-foldl_rep its k (acc++its),<-e,S6,List.foldl_cons]
variable{t':Nat}
section
variable{X:Cx}{pins:List (Addr×Obj)}{Y:St}{H:Hp}{s:Shared}{l b:Addr}{xs ys zs:List V}
theorem Inv.Pp{n:Nat}{f:Array Value->Array Value}(I:Inv X pins Y H s)(Q:H l=some (.lst xs))
  (e:s.heap.get? l=some { cls:=.type "list",data:=.seq its.toArray n })(hf:f its.toArray=its'.toArray)(c:Vals ys its')(hz:ys.length<=sizeLine):
  Inv X pins Y (upd H l (.lst ys)) { s with heap:=s.heap.update l (UQ f),toks:=t' }:=by
 have q:=PySem.IsL.update e f;rw[hf] at q;refine I.write (x:=l) (e:=l) (by rw[Q];exact trivial) (.inl rfl) (λh u d B=>(VH s.heap (UQ f) (R7 d)).trans B) ⟨_,q⟩ ?_;exact⟨hz,its',_,c,q⟩
theorem Inv.IK(I:Inv X pins Y H s)(c:Vals ys its)(hz:ys.length<=sizeLine):
  Inv X pins Y (upd H s.heap.objs.size (.lst ys)) { s with heap:=s.heap.push { cls:=.type "list",data:=.seq its.toArray },toks:=t' }:=
 I.laid (λ_ _ q=>Rm _ q) (Q9 _) ⟨hz,its,0,c,RF _ rfl⟩
theorem Inv.fresh(I:Inv X pins Y H s):H s.heap.objs.size=none:=I.hok.fresh (Q9 _)
theorem Inv.II(I:Inv X pins Y H s)(Q:H l=some (.lst xs)):xs.length<=sizeLine/\∃(its:List Value)(n:Nat),Vals xs its/\xs.length=its.length/\s.heap.get? l=some { cls:=.type "list",data:=.seq its.toArray n }:=by obtain⟨z,its,n,r,e⟩:=I.hok l _ Q;exact⟨z,its,n,r,r.length,e⟩
theorem Av{n:Nat}(h:n<=sizeLine):TK n=false:=by unfold TK;exact Zx Q1
end
section
variable{X:Cx}
def CF:V->List V->Hp->VK->Prop:=λx vs H Q=>∃l xs y,x=.ref l/\vs=[y]/\H l=some (.lst xs)/\xs.length<sizeLine/\Q .non (upd H l (.lst (xs++[y])))
theorem oz:Pz X "list.append" CF:=by intro pins s Y H x vs v us Q I K m h;obtain⟨l,xs,y,rfl,rfl,o,hz,q⟩:=h;cases K;obtain⟨u,rfl,C⟩:=m.one;obtain⟨z,its,n,r,hl,e⟩:=I.II o;refine Y7 F.slot_list_append ⟨_,e,rfl⟩ F.entry_list_append (F.args_list_append_2 _ _) (PySem.list_append l its.toArray n u (by rw[Ri];lia)) ⟨e,?_⟩;refine⟨.non,_,I.Pp (its':=its++[u]) o e Z3 (r.append (.cons C .nil)) ?_,rfl,q⟩;simp only[Rn,Tw];assumption
def OE:R2:=λx y H Q=>∃l b xs s,x=.ref l/\y=.ref b/\H l=some (.lst xs)/\H b=some (.lst s)/\xs.length+s.length<=sizeLine/\∀p,H p=none->Q (.ref p) (upd H p (.lst (xs++s)))
theorem j8:iC X (Yu .Add) OE:=by
 intro pins s Y H x y v u Q I K R h;obtain⟨l,b,xs,g,rfl,rfl,o,t,hz,q⟩:=h;cases K;cases R;obtain⟨z,its,n,r,hl,e⟩:=I.II o;obtain⟨k,p,A,i,L,e2⟩:=I.II t;refine PySem.P.add_list e e2 ?_ (by rw[Ri,Ri];lia);have N:its.toArray++p.toArray=(its++p).toArray:=by simp
 rw[N];exact⟨.ref _,_,I.IK (t':=s.toks) (r.append i) (by rw[Rn];lia),rfl,q _ I.fresh⟩
theorem len_rep(xs:List α)(k:Nat):(Q3 k xs).flatten.length=k*xs.length:=by
 induction k with
 |zero=>simp
 |succ k u=>simp only[S6,T6,Rn,u,Xi,Nat.add_comm]
end
section
variable{prog:Program}{w:X1}{A:X8}{E:Value->Shared->Prop}{s:Shared}
set_option maxRecDepth 100000 in
end
section
variable{P:Program}{w:X1}{H:Hp}{h:Heap}{a:Addr}
theorem LY{u:HO}(ok:iZ P w H h)(e:Rd H a u):cy P w H h a u:=e.ok ok
theorem vD{kvs:List (Key×V)}(ok:iZ P w H h)(e:Rd H a (.dK kvs)):kvs.length<=sizeLine/\(a==Y3)=false/\∃vs,KV kvs vs/\h.DictOf (hJ P w) a vs:=
 show cy P w H h a (.dK kvs) from LY ok e
end
structure M1(X:Cx)(o:Expr)(m:Str)(apos:Pos)(e:Expr)(cpos:Pos):Prop where
 base:X7 o m X.env (eval o X.env)=eval o X.env
 few:((X4 cpos (XU [e] X.env)).all (λx=>!x.1)&&(Yl cpos (Yb [] X.env)).all (λx=>x.1.isSome)
  && decide (([e]:List Expr).length+([]:List Ym).length+(if ([]:List Ym).isEmpty then 0 else 1)<30))=true
 line:(apos.endLine==cpos.line)=true
 trees:X4 cpos (XU [e] X.env)=[(false,eval e X.env)]
end L2
namespace Att
open PySem PySem.W PySem.Calls PyProof.Rows
variable{h:Heap}
theorem kG{P:Params}:∀(ns:List Int)(vs:List Value),WellAll P h vs (ns.map Xo)->Zm vs ns:=by
 intro ns;induction ns with
 |nil=>intro vs w;simp only[SY] at w;cases w;exact .nil
 |cons n ns u=>
  intro vs w;simp only[RO] at w;cases w with
  |cons a b=>cases a;exact .cons _ _ (u _ b)
theorem wC{l:OpenLaw}{n:Nat}(hn:l.most=some n){P:Params}{args:List WData}{H:List Value}
  (I:l.row.toRowW.claim.pre args=true)(Y:WellAll P h H args):
  ∃a vs ns,H=[SG a]/\args=[WData.list (ns.map Xo)]/\h.get? a=some { cls:=.type "list",data:=.seq vs.toArray }/\Zm vs ns/\ns.length<=n:=by
 have s:WShape.hasAll [] args [.list .int]=true:=(pre_splitW I).1;have hc:l.pre.holds [] { args:=args }=true:=(pre_splitW I).2;obtain⟨d,r,rfl,h1,h2⟩:=hasAllW_cons s;obtain rfl:=hasAllW_nil h2;obtain⟨xs,rfl,h3⟩:=hasW_list h1;obtain⟨ns,rfl⟩:=items_int h3;have E:ns.length<=n:=by
  unfold OpenLaw.pre at hc;have h4:(WTm.not (.lt (.lit (.int (n:Int))) (.len (.arg 0)))).holds [] { args:=[.list (ns.map .int)] }=true:=by have h4:=(holds_andW hc).1;rw[hn] at h4;exact h4
  have h5:=condW_of h4 (w_not (w_lt w_lit (w_len_list (w_arg rfl))));rw[Q7] at h5;refine Nat.le_of_not_lt λq=>?_;have v:(n:Int)<((ns.length:Nat):Int):=by lia
  first
   |(rw[Zy v] at h5;exact absurd h5 Z1)
   |(simp at h5;lia)
 cases Y with
 |cons J x=>
  cases x;cases J with
  |list ho X=>exact⟨_,_,ns,rfl,rfl,ho,kG ns _ X,E⟩
theorem xf(l:OpenLaw)(args:List WData):l.row.toRowW.claim.post args (.bool true) args=true:=
 postW_of (r:=l.row.toRowW) (X:=(true==true))
  (show W6 [] (.bool true) .bool=true by first|rfl|decide|simp[W6,WShape.arms,WShape.armsAll])
  (show (WTm.eq .res (.lit (.bool true))).value [] { args:=args,res:=some (.bool true),after:=args }=some (.bool (true==true)) from w_eq_bool (w_res rfl) w_lit) rfl
theorem qJ{l:OpenLaw}{n:Nat}{q:Program}{loose:List Str}{XP:(Str->Option Value)->Heap->Prop}{YP:X1->Heap->Prop}{d:DefRec}
  (hn:l.most=some n)(b:d.params.defaults=[])
  (call:∀(w:X1)(s₀ Z:Shared)(mg mb:Str->Option Value)(H:Addr)(o:Obj)(pm cd doc:Value)(a:Addr)(vs:List Value)(ns:List Int),
   Ground q loose [] XP w s₀ mg mb Z.heap->YP w Z.heap->
   Z.heap.get? H=some o->o.data=.func (docDef d.name d.params d.body d.scope pm cd doc)->Z.heap.CodeRec cd d.name->mg d.name=some (.ref H)->
   Z.heap.get? a=some { cls:=.type "list",data:=.seq vs.toArray }->Zm vs ns->ns.length<=n->Z.gens=#[]->
   Yz (XZ l.prog w) YW (.call (.ref H) ⟨[.ref a],[]⟩) (λr s'=>r=.ok (.ret (.bool true))/\OldK Z.heap s'.heap/\s'.os=Z.os/\Yw s'.gens) Z):
  WalkO q loose XP YP l.row.toRowW d [] (λf vs=>V6 f vs):=by
 intro w s₀ Z mg mb G Y H o pm cd doc dV kV ho hd R p e v args s as I t x h D;obtain rfl:dV=.none:=Dflts.none p b;obtain rfl:kV=.none:=Dflts.noKw p;obtain⟨a,vs,ns,rfl,rfl,X,y,E⟩:=wC hn I h;refine enter_call (YC (call w s₀ Z mg mb H o pm cd doc a vs ns G Y ho (fd_plain hd) R e X y E v) λr s' O=>?_);obtain⟨rfl,h2,h3,h4⟩:=O;exact⟨.inl ⟨.bool true,.bool true,[],rfl,λ_=>rfl,.bool true,xf l _,λ_=>⟨Vm,λ_ hm=>(nomatch hm)⟩⟩,h2,h3,h4⟩
end Att
namespace L2
open PySem PySem.Spec PyProof.Rows
theorem nc:∀{vs:List Value}{ns:List Int},Zm vs ns->Vals (ns.map V.int) vs
 |_,_,.nil=>.nil
 |_,_,.cons n t h=>.cons ⟨t,rfl⟩ (nc h)
def J1(H:Hp):Prop:=∀b,H b=none\/∃o xs,H b=some (.frz o (.lst xs))
theorem yg{P:Program}{w:X1}{K:Q0}{mg mb:Str->Option Value}{CX:rO}{k:Nat}{p a:Addr}{fd:X9}{x:Str}{sp:Sp}{Z:Shared}{vs:List Value}{ns:List Int}
  (R:K.In Z.heap)(I:Z.heap.Ns X6 mg)(D:Z.heap.Ns YQ mb)(t:∀x:Str,x ≠ "__name__" -> mb x=XX x)(L:Z.heap.NoLimit)(J:Z.gens=#[])
  (ha:Z.heap.get? a=some { cls:=.type "list",data:=.seq vs.toArray })(hi:Zm vs ns)(hl:ns.length<=sizeLine)(hr:cF k YW)
  (F:∀base:Heap,K.In base->base.Ns X6 mg->c9 P w K mg base CX k p fd [x] sp)(y:∀(s:Shared)(u:Value),YU s fd ⟨[u],[]⟩ [(x,u)])
  (A:∀H:Hp,J1 H->dI K H a (ns.map V.int)->sp [.ref a] H (λv _=>v=.bl true) λ_ _ _=>False)
  (G:∀H e s',CX [] H Z (λ_ _ _=>False) e s'->False):
  Yz (XZ P w) YW (.call (.ref p) ⟨[.ref a],[]⟩) (λr s'=>r=.ok (.ret (.bool true))/\OldK Z.heap s'.heap/\s'.os=Z.os/\Yw s'.gens) Z:=by
 have T:=nc hi;have N:=hi.length;have l:∀H:Hp,J1 H->dI K H a (ns.map V.int)->iZ P w H Z.heap->(∀b,H b≠none->b=a)->(H a≠none->K.lookup a=none)->
   Yz (XZ P w) YW (.call (.ref p) ⟨[.ref a],[]⟩) (λr s'=>r=.ok (.ret (.bool true))/\OldK Z.heap s'.heap/\s'.os=Z.os/\Yw s'.gens) Z:=by
  intro H f c hok E j;have bM:∀{b:Addr}{o:Obj},Z.heap.get? b=some o->H b=none->(oS Z.heap H).get? b=some o:=λe n=>xM e n;have B:∀{b:Addr}{o:Obj}{es:Array DictEntry}{g:Nat},Z.heap.get? b=some o->o.data=.dict es g->H b=none:=λ{b o es g} e d=>by
   cases q:H b with
   |none=>rfl
   |some u=>have C:b=a:=E b (by rw[q];simp);subst C;rw[ha] at e;cases e;have d':Data.seq vs.toArray _=Data.dict es g:=d;cases d'
  have Y:∀{b:Addr}{m:Str->Option Value},Z.heap.Ns b m->(oS Z.heap H).Ns b m:=λ{b m} ⟨o,es,g,e,d,r⟩=>⟨o,es,g,bM e (B e d),d,r⟩
  have Q:K.In (oS Z.heap H):=λb o e=>bM (R b o e) (by
   cases q:H b with
   |none=>rfl
   | some u=>have C:b=a:=E b (by rw[q];simp);subst C;rw[j (by rw[q];simp)] at e;cases e)
  have O:Mod K mg (oS Z.heap H):=⟨Q,Y I,⟨mb,Y D,t⟩,let ⟨mc,h1,h2⟩:=L;⟨mc,Y h1,h2⟩⟩
  have U:sj P w K mg (oS Z.heap H) YW [] Z H:=⟨rfl,O,λb o e=>Dz e,Up (vV _ _),trivial,λb D=>absurd (show b∈([]:List Addr) from D) Z3,hok,.of_eq J⟩
  refine YC ((F _ Q (Y I)).run YW [] Z H ⟨[.ref a],[]⟩ [.ref a] [.ref a] _ _ hr U (y Z (.ref a)) (.cons rfl .nil) (A H f c)) λr s' h=>?_;cases r with
  |error e=>exact(G H e s' h).elim
  |ok fl=>
   cases fl with
   |next=>exact Sw h
   |brk=>exact Sw h
   |cont=>exact Sw h
   |ret u=>
    obtain⟨v,H',os,bare,un,X,r',q⟩:=h;have S:v=.bl true:=q;subst S;obtain rfl:u=V3 true:=r';refine⟨rfl,OldK.of_keep λb o e=>?_,os,bare⟩;cases q:H b with
    |none=>exact un.keep b o e q (by intro z;exact absurd (show b∈([]:List Addr) from z) Z3) Z3
    |some u=>
     rcases f b with z|⟨ob,xs,z⟩
     .rw[q] at z;cases z
     .have z2:=un.frzs b ob _ z;obtain⟨e1,_⟩:=hok b _ z;obtain⟨e2,_⟩:=X b _ z2;rw[e] at e1;cases e1;exact e2
 cases hk:K.lookup a with
 |some o=>have e:=R a o hk;rw[ha] at e;cases e;refine l (λ_=>none) (λ_=>.inl rfl) (.inr ⟨_,vs.toArray,_,hk,rfl,rfl,rfl,by rw[Ri,N];exact hl,by simpa using T⟩) (λb u z=>by have i:(none:Option HO)=some u:=z;cases i) (λb z=>absurd rfl z) λz=>absurd rfl z
 |none=>
  refine l (λb=>if b=a then some (.frz { cls:=.type "list",data:=.seq vs.toArray } (.lst (ns.map V.int))) else none) (λb=>?_) (.inl (.inr ⟨{ cls:=.type "list",data:=.seq vs.toArray },Zv rfl⟩)) (λb u z=>?_) (λb z=>?_) λ_=>hk
  .by_cases D:b=a
   .exact .inr ⟨_,_,Zv D⟩
   .exact .inl (Zw D)
  .by_cases D:b=a
   .have i:=(Zv D).symm.trans z;cases i;subst D;exact⟨ha,by rw[Q7];exact hl,vs,_,T,ha⟩
   .have i:=(Zw D).symm.trans z;cases i
  .by_cases D:b=a
   .exact D
   .exact absurd (Zw D) z
noncomputable def dM(s:Stmt):Arguments:=match s with
 | .FunctionDef _ a _ _ _ _ _ _ _ _=>a
 |_=>{ posonlyargs:=[],args:=[],vararg:=none,kwonlyargs:=[],kw_defaults:=[],kwarg:=none,defaults:=[] }
noncomputable def eZ(s:Stmt):List Stmt:=match s with
 | .FunctionDef _ _ b _ _ _ _ _ _ _=>b
 |_=>[]
noncomputable def aX(s:Stmt):Scope:=match s with
 | .FunctionDef _ _ _ _ _ _ sc _ _ _=>sc
 |_=>{ kind:=.function,names:=[],isGenerator:=false,isCoroutine:=false }
noncomputable abbrev E0:XK:=λ_ _ _=>False
section
variable{X:Cx}
theorem pv(i:Nat){x:Str}{pos:Pos}(hN:X.N[i]?=some x:=by rfl)(hv:mL X.env.scope x:=by first|exact Or.inl rfl|exact W7 (Or.inl rfl)|exact W7 (W7 rfl))(hd:eV x:=by decide)
  (hcd:pE x:=by decide):PE X (.Name x pos) (mW i):=bW hN hv hd hcd
end
def OO(H H':Hp):Prop:=∀b o,H b=some o->H' b=some o
end L2
set_option maxHeartbeats 4000000
namespace L2
open PySem PySem.Spec PyProof.Rows PySem.W
open PySem.Builtin.ObjectAttr (find dataDescriptor? getOf)
open PySem.Builtin.Getset_descriptor (descrGet descrGetter descrCheckInstance descrNameAndClass)
variable{Q:Unit->Shared->Prop}{R:Zq->Shared->Prop}
section
variable{prog:Program}{w:X1}{A:X8}{E:Value->Shared->Prop}{h:Heap}{g:Array GenState}{d:Drawn}{t:Nat}{os:OsState}{K:Frag}{x C:Addr}
structure fL(K:Frag)(C:Addr):Prop where
 ga:findIn K (.ref C) "__getattribute__" = some (some (.builtin "BaseException.__getattribute__"))
 gt:findIn K (.ref C) "__getattr__" = some none
 cl:findIn K (.ref C) "__class__" = some (some (.builtin "object.__class__"))
 gg:specialIn K (.builtin "object.__class__") "__get__" = some (some (.builtin "getset_descriptor.__get__"))
 tk:takesIn K (.builtin "object.__class__")=some true
 ob:mroIn K C (.type "object")=some true
 be:mroIn K C (.type "BaseException")=some true
def ExcAt(a C:Addr)(h:Heap):Prop:=∃n,h.get? a=some n/\n.cls=.ref C
theorem ExcAt.type{M:Model}(I:ExcAt x C h):Looks M h (typeOf (.ref x)) (.ref C):=by obtain⟨n,e1,e2⟩:=I;exact e2▸(Looks.ld e1).andThen .now
theorem FG{M:Model}{q:Value}(X:K.In h)(T:fL K C)(I:ExcAt x C h)(O:Q () ⟨h,g,d,t,os⟩):
  X0 M A (checkBuiltinCall "BaseException.__getattribute__" ⟨[.ref x,q],[]⟩) Q E ⟨h,g,d,t,os⟩:=by
 have k1:builtinKind "BaseException.__getattribute__" = some .slot:=by decide +kernel
 have k2:splitId "BaseException.__getattribute__" = some ("BaseException", "__getattribute__"):=by decide +kernel
 have L2:Looks M h (isInstance (.ref x) (.type "BaseException")) true:=I.type.andThen (looks_mroIn X T.be);refine XW (L2.at ?_)
 repeat (first|exact O|wp_step)
theorem Ml{M:Model}(X:K.In h)(T:fL K C):Looks M h (find (.ref x) (.ref C) "__class__") (.bind (.builtin "getset_descriptor.__get__") (.builtin "object.__class__")):=by have r:=Zd (M:=M) X T.cl;have q:Looks M h (getOf (some (.builtin "object.__class__"))) (some (.builtin "getset_descriptor.__get__")):=looks_specialIn X T.gg;have F:Looks M h (dataDescriptor? (some (.builtin "object.__class__")) (some (.builtin "getset_descriptor.__get__"))) (some (.builtin "getset_descriptor.__get__",.builtin "object.__class__")):=(looks_takesIn X T.tk).andThen .now;exact r.andThen (q.andThen (F.andThen (Looks.tag .now)))
theorem Ob{tp:Value}(X:K.In h)(T:fL K C)(I:ExcAt x C h)(q:R (.ok (.ret (.ref C))) ⟨h,g,d,t,os⟩):
  Yz (XZ prog w) A (.call (.builtin "getset_descriptor.__get__") ⟨[.builtin "object.__class__",.ref x,tp],[]⟩) R ⟨h,g,d,t,os⟩:=by
 have r:=I.type (M:=XZ prog w);have H:=looks_mroIn (M:=XZ prog w) X T.ob;refine Y0 (KF.slot_gs).plain (KF.entry_gs) ((KF.slot_gs).check _ _ _ _ _ _ _ _ (KF.type_class) (KF.args_gs _ _ _) ?_)
 delta Builtin.«getset_descriptor.__get__»
 delta descrGet
 refine XW (XY ?_)
 delta descrGetter descrCheckInstance
 delta descrNameAndClass isInstance
 simp only[KF.owner_class,id]
 repeat (first|lk)
 refine⟨Code.quiet_builtin _ Z2,YX (KF.entry_class) ?_⟩
 delta Builtin.«object.__class__»
 repeat (first|lk)
 exact q
theorem FZ{tk:Tok}{Q:Fin->Shared->Prop}(X:K.In h)(T:fL K C)(I:ExcAt x C h)(O:Q (.done (.ret (.ref C))) ⟨h,g,d,t,os⟩):
  X0 (XZ prog w) A (Builtin.«object.__getattribute__» ⟨[.ref x,.str "__class__" tk],[]⟩) Q E ⟨h,g,d,t,os⟩:=by
 have Y:=I.type (M:=XZ prog w);have Z:=Ml (x:=x) (M:=XZ prog w) X T;refine XW (XY ?_);refine XW (XY ?_);refine XW (Y.at ?_);refine XW (Z.at ?_);refine XW (Y5 ?_);refine Ob X T I ?_;exact XY O
theorem NH{tk:Tok}(X:K.In h)(T:fL K C)(I:ExcAt x C h)(O:R (.ok (.ret (.ref C))) ⟨h,g,d,t,os⟩):
  Yz (XZ prog w) A (.call (.builtin "BaseException.__getattribute__") ⟨[.ref x,.str "__class__" tk],[]⟩) R ⟨h,g,d,t,os⟩:=
 Y0 Wh.ga.plain F.entry_bexc_ga (FG X T I (FZ X T I O))
theorem Qz{tk:Tok}{Q:Value->Shared->Prop}(X:K.In h)(T:fL K C)(I:ExcAt x C h)(O:Q (.ref C) ⟨h,g,d,t,os⟩):
  X0 (XZ prog w) A (getAttrBy (.ref x) (.str "__class__" tk) false) Q E ⟨h,g,d,t,os⟩:=by
 have r:=Wh.ga.bind (.ref x);have k:(UC "BaseException.__getattribute__" == UC "object.__getattribute__")=false:=by decide +kernel
 have b:(onTheHeap (SG C)&&UC "BaseException.__getattribute__" == UC "object.__getattribute__")=false:=by rw[k];rfl
 have Y:=I.type (M:=XZ prog w);have Z:=Zd (M:=XZ prog w) X T.ga;have L2:=Zd (M:=XZ prog w) X T.gt;refine Yx (XW (Y.at (XW (Z.at ?_))));dsimp only
 repeat (any_goals (first|assumption|with_reducible refine XW (L2.at ?_)|with_reducible refine XW (Z.at ?_)|wp_step))
 refine NH X T I ?_
 repeat (any_goals (first|assumption|wp_step))
theorem M5{Q:Option Value->Shared->Prop}(X:K.In h)(T:fL K C)(I:ExcAt x C h)(O:Q (some (.ref C)) ⟨h,g,d,t+1,os⟩):
  X0 (XZ prog w) A (getAttr? (.ref x) "__class__") Q E ⟨h,g,d,t,os⟩:=by
 repeat (any_goals (first|assumption|with_reducible apply Qz X T I|wp_step))
end
variable{K:Frag}{C:Addr}
theorem fL.there(T:fL K C):∃oc od cd sl,K.lookup C=some ⟨oc,od,.cls cd,sl⟩:=by
 have q:=T.ob;unfold mroIn clsIn at q;split at q
 .rename_i a b c e f;exact⟨a,b,c,e,f⟩
 .cases q
theorem zi{a:Addr}(T:fL K C):KitX K (.ref a) (.ref C) (ExcAt a C) where
 ty:=λ_ _ _ I=>I.type
 it:=λ_ _ X _=>by obtain⟨_,_,_,_,Z⟩:=T.there;intro l o v s1 k1 c;exact XW (wpAny_loadPart (k1 _ _ (X _ _ Z)) (XY c))
 ne:=λh tp dd b n sl X e=>by obtain⟨_,_,_,_,Z⟩:=T.there;refine Wi.mpr λq=>?_;cases SG.inj (ZA.mp q);cases (X _ _ Z).symm.trans e
 ca:=λ{_ _ _ _ _ s} X I k=>by exact M5 X T I k
open PySem PySem.Spec PyProof.Rows
noncomputable abbrev vC:List Value:=[.type "ValueError",.type "Exception",.type "BaseException",.type "object"]
variable{h:Heap}
theorem CN{K:Q0}{x:List Value}{s:String}(X:K.In h)(q:Tu K C x s=true):
  ∃bm N nm y bs hdct sn sub ab col dd k0 k1 k2 k3 k5 mN,h.get? C=some (excClassObj nm y C N bs bm hdct sn sub ab col dd k0 k1 k2 k3 k5 s)/\h.Ns N mN/\mN "__init__" = none/\OwnTail h x bm:=by
 unfold Tu at q;split at q
 case h_2=>cases q
 rename_i dd cd sl Z;split at q
 case h_2=>cases q
 rename_i H bm k0 k1 k2 k3 n k5 em es;rw[QZ,QZ,QZ,QZ,QZ,ZA,ZA,ZA,Rz] at q;obtain⟨⟨⟨⟨⟨rfl,rfl⟩,nd⟩,tl⟩,ok⟩,I⟩:=q;obtain⟨nm,bs,mro,ns,y,hd,sn,sub,ab,col,del⟩:=cd;have em:mro=.ref H::bm:=em;have nd:del=false:=nd;subst em nd;have F:sl=#[k0,k1,k2,k3,some (.builtin n),k5]:=by obtain⟨l⟩:=sl;have es:l=[k0,k1,k2,k3,some (.builtin n),k5]:=es;rw[es]
 subst F;exact⟨bm,ns,nm,y,bs,hd,sn,sub,ab,col,dd,k0,k1,k2,k3,k5,_,X _ _ Z,.of_isNs (PySem.W.isNs_of_in X ok),PySem.W.nsMap_none_of_in X ok I,PySem.W.tail_of_in X tl⟩
variable{w:X1}{H:Hp}{o:HO}
theorem cy.is{P:Program}{a:Addr}(x:cy P w H h a o):∃ob,h.get? a=some ob:=by
 cases o with
 |lst xs=>obtain⟨_,_,_,_,e⟩:=x;exact⟨_,e⟩
 |tup xs=>obtain⟨_,_,_,ob,e,_⟩:=x;exact⟨_,e⟩
 |dK kvs=>obtain⟨_,_,_,_,ob,_,_,e,_⟩:=x;exact⟨_,e⟩
 |dT kvs=>obtain⟨_,_,_,_,ob,_,_,e,_⟩:=x;exact⟨_,e⟩
 |set S n=>obtain⟨ob,_,_,_,e,_⟩:=x;exact⟨_,e⟩
 |ins C dx fs=>obtain⟨_,_,_,e,_⟩:=x;exact⟨_,e⟩
 |own y=>obtain⟨_,e⟩:=x;exact⟨_,e⟩
 |xd fs=>obtain⟨_,⟨_,_,_,e,_⟩,_⟩:=x;exact⟨_,e⟩
 |v7 lo hi=>obtain⟨_,_,_,e⟩:=x;exact⟨_,e⟩
 |frz ob u=>obtain⟨e,_⟩:=x;exact⟨_,e⟩
 |tbl ps=>exact⟨_,x⟩
 |met f y=>exact⟨_,x⟩
 |ext Z=>obtain⟨_,⟨_,e⟩,_⟩:=x;exact⟨_,e⟩
 |exd Z=>obtain⟨_,⟨_,e⟩,_⟩:=x;exact⟨_,e⟩
theorem cy.kQ{P:Program}{a:Addr}{A:Prop}(x:cy P w H h a o)(g:h.get? a=none):A:=by obtain⟨ob,e⟩:=x.is;rw[g] at e;cases e
structure Bf(P:Program)(w:X1)(outer:List Env)(H:Hp)(s:Shared)(a C:Addr)(H':Hp)(s':Shared):Prop where
 os:s'.os=s.os
 bare:Yw s'.gens
 un:Un (dG outer) [] H H' s.heap s'.heap
 hok:iZ P w H' s'.heap
 new:s.heap.get? a=none
 free:H' a=none
 fl:∃(base:Heap)(a0:Value),VI base outer a (.ref C) a0 s'.heap /\
  ∀b o,s'.heap.get? b=some o->(H' b≠none\/((∃ob,s.heap.get? b=some ob)/\b∉dG outer))->base.get? b=some o
def oT(P:Program)(w:X1):rO:=λouter H s E o s'=>∃(a C:Addr)(H':Hp),o=.ref a/\Bf P w outer H s a C H' s'/\E (.ref C) none H'
variable{h' base:Heap}{E:Value->Shared->Prop}{env:Env}{L:Addr}{Hc:Hp}{vs:List Value}
section
variable{P:Program}{w:X1}{outer:List Env}{H H':Hp}{s s':Shared}{a C:Addr}
theorem lW(x:iZ P w H h)(d:∀b o,h.get? b=some o->H b≠none->base.get? b=some o)(st:base.StaysIn h'):iZ P w H h':=λb u e=>by
 refine(x b u e).gD (λc v hc q=>st c v (d c v q ?_)) (λ_ q=>q) λ_ _ q=>q;rcases hc with z|z
 .rw[z,e];intro k;cases k
 .rw[z];intro k;cases k
theorem pH{l:List Env}(f:h.FunFrames base l){b:Addr}(d:b∈dG l):base.get? b=none/\∃o,h.get? b=some o/\∀vs,o.data≠.fields vs:=f.mem d
theorem wt{M:Model}{A:X8}{sc:Shared}
  (y:A.frames=some (env::outer))(hf:env.frame=some L)(hL:s.heap.get? L=none)(G:∀b∈dG outer,H b=none)(B:∀b∈dG outer,∃o,s.heap.get? b=some o)
  (u:Un (dG outer) [] H Hc s.heap sc.heap)(ho:sc.os=s.os)(x:Bf P w (env::outer) Hc sc a C H' s')
  (q:∀k,Bf P w outer H s a C H' k->Q () k):X0 M A (leaving env (.ref a)) Q E s':=by
 obtain⟨base,a0,fl,d⟩:=x.fl;have p:dG (env::outer)=L::dG outer:=by unfold dG;rw[SO,hf]
 refine wpAny_leaves_onW y hf fl λh' h up=>q _ ?_;have old:∀b ob,s.heap.get? b=some ob->b≠L:=λb ob e z=>by rw[z,hL] at e;cases e
 have V:∀b ob o,s.heap.get? b=some ob->b∉dG outer->s'.heap.get? b=some o->base.get? b=some o:=λb ob o e n D=>by obtain⟨oc,X⟩:=u.there b ob e (λz=>nomatch z);refine d b o D (.inr ⟨⟨oc,X⟩,?_⟩);rw[p];exact λz=>(Rc.mp z).elim (old b ob e) n
 have N:∀b o,b∈dG outer->s'.heap.get? b=some o->∀vs,o.data≠.fields vs:=λb o m e=>by obtain⟨_,o2,e2,nf⟩:=pH fl.2.2.1 (show b∈dG (env::outer) by rw[p];exact Q5 _ m);rw[e2] at e;cases e;exact nf
 refine⟨x.os.trans ho,x.bare,⟨λb o e n l nx=>?_,λb o e n mb nx=>?_,λb o e n nx=>?_,λb o e nx=>?_,λb xs e=>x.un.tups b xs (u.tups b xs e),λb o v e=>x.un.frzs b o v (u.frzs b o v e),λb ps e=>?_⟩,lW x.hok (λb o e n=>d b o e (.inl n)) h.1,?_,x.free,base,a0,h,λb o e r=>?_⟩
 .have e1:=x.un.keep b o (u.keep b o e n l nx) (u.free b o e n nx) (by rw[p];exact λz=>(Rc.mp z).elim (old b o e) l) nx;exact h.1 b o (V b o o e l e1)
 .obtain⟨sl,e1⟩:=u.slot b o e n mb nx;obtain⟨F,e2⟩:=x.un.slot b _ e1 (u.free b o e n nx) (by rw[p];exact Q5 _ mb) nx;obtain⟨t,i⟩:=up b _ e2 (N b _ mb e2);exact⟨t,i⟩
 .obtain⟨oc,X⟩:=u.there b o e nx;exact x.un.free b oc X (u.free b o e n nx) nx
 .obtain⟨oc,X⟩:=u.there b o e nx;obtain⟨o2,e2⟩:=x.un.there b oc X nx;by_cases mb:b∈dG outer
  .obtain⟨sl,i⟩:=up b o2 e2 (N b o2 mb e2);exact⟨_,i⟩
  .exact⟨o2,h.1 b o2 (V b o o2 e mb e2)⟩
 .obtain⟨I,e1⟩:=u.tbls b ps e;obtain⟨K,e2⟩:=x.un.tbls b _ e1;exact⟨I++K,by rw[e2,V4]⟩
 .cases z:s.heap.get? a with
  |none=>rfl
  |some Y=>obtain⟨R,e1⟩:=u.there a Y z (λz=>nomatch z);rw[x.new] at e1;cases e1
 .have e:h'.get? b=some o:=e;have key:∀o2,s'.heap.get? b=some o2->base.get? b=some o2->base.get? b=some o:=λo2 e2 i=>by have:=h.1 b o2 i;rw[e] at this;cases this;exact i
  rcases r with r|⟨⟨ob,J⟩,l⟩
  .cases z:H' b with
   |none=>exact absurd z r
   |some v=>
    have lt:=x.hok.lt z;obtain⟨o2,e2⟩:∃o2,s'.heap.get? b=some o2:=by
     cases g:s'.heap.get? b with
     |some o2=>exact⟨o2,rfl⟩
     |none=>exact(x.hok b v z).kQ g
    exact key o2 e2 (d b o2 e2 (.inl r))
  .obtain⟨oc,X⟩:=u.there b ob J (λz=>nomatch z);obtain⟨o2,e2⟩:=x.un.there b oc X (λz=>nomatch z);exact key o2 e2 (V b ob o2 J l e2)
theorem zc{M:Model}{A:X8}{sc:Shared}{h1 h:Heap}
  (y:A.frames=some (env::outer))(hf:env.frame=some L)(hL:s.heap.get? L=none)(u:Un (dG outer) [] H Hc s.heap sc.heap)(ho:sc.os=s.os)(bare:Yw sc.gens)(hok:iZ P w Hc sc.heap)
  (fr:sc.heap.FunFrames h (env::outer))(X:∀b∈dG (env::outer),Hc b=none)(hx:WM sc.heap h1 a (.ref C) vs)
  (q:∀k,Bf P w outer H s a C Hc k->Q () k):X0 M A (leaving env (.ref a)) Q E { sc with heap:=h1 }:=by
 have p:dG (env::outer)=L::dG outer:=by unfold dG;rw[SO,hf]
 have old:∀b ob,s.heap.get? b=some ob->b≠L:=λb ob e z=>by rw[z,hL] at e;cases e
 have V:∀b o,sc.heap.get? b=some o->b∉dG (env::outer)->(Uh sc.heap (dG (env::outer))).get? b=some o:=λb o e n=>VF _ e n;have Ja:∀b,Hc b≠none->b∉dG (env::outer):=λb n m=>n (X b m);have N:∀b o,b∈dG (env::outer)->sc.heap.get? b=some o->∀vs,o.data≠.fields vs:=λb o m e=>by obtain⟨_,o2,e2,nf⟩:=pH fr m;rw[e2] at e;cases e;exact nf
 refine wpAny_leaves_madeW (base:=Uh sc.heap (dG (env::outer))) y hf (λb o z=>VQ _ z) (PySem.W.funFrames_hide fr λen he b d=>TZ.mpr ⟨en,he,d⟩) hx λh' t fl _ _ up=>q _ ?_;have g:∀b ob,s.heap.get? b=some ob->b∉dG outer->b∉dG (env::outer):=λb ob e n=>by rw[p];exact λz=>(Rc.mp z).elim (old b ob e) n
 refine⟨ho,bare,⟨λb o e n l nx=>?_,λb o e n mb nx=>?_,λb o e n nx=>u.free b o e n nx,λb o e nx=>?_,u.tups,u.frzs,u.tbls⟩,lW hok (λb o e n=>V b o e (Ja b n)) fl.1,?_,?_,_,_,fl,λb o e r=>?_⟩
 .exact fl.1 b o (V b o (u.keep b o e n l nx) (g b o e l))
 .obtain⟨sl,e1⟩:=u.slot b o e n mb nx;obtain⟨x,i⟩:=up b _ (hx.keeps _ _ e1) (N b _ (by rw[p];exact Q5 _ mb) e1);exact⟨x,i⟩
 .obtain⟨o2,e2⟩:=u.there b o e nx;by_cases mb:b∈dG (env::outer)
  .obtain⟨sl,i⟩:=up b o2 (hx.keeps _ _ e2) (N b o2 mb e2);exact⟨_,i⟩
  .exact⟨o2,fl.1 b o2 (V b o2 e2 mb)⟩
 .cases z:s.heap.get? a with
  |none=>rfl
  |some Y=>obtain⟨R,e1⟩:=u.there a Y z (λz=>nomatch z);rw[hx.new] at e1;cases e1
 .cases z:Hc a with
  |none=>rfl
  |some v=>exact(hok a v z).kQ hx.new
 .have e:h'.get? b=some o:=e;have key:∀o2,sc.heap.get? b=some o2->b∉dG (env::outer)->(Uh sc.heap (dG (env::outer))).get? b=some o:=λo2 e2 n=>by have i:=V b o2 e2 n;have:=fl.1 b o2 i;rw[e] at this;cases this;exact i
  rcases r with r|⟨⟨ob,J⟩,l⟩
  .cases z:Hc b with
   |none=>exact absurd z r
   |some v=>obtain⟨o2,e2⟩:=(hok b v z).is;exact key o2 e2 (Ja b r)
  .obtain⟨o2,e2⟩:=u.there b ob J (λz=>nomatch z);exact key o2 e2 (g b ob J l)
end
structure Xc(X:Cx)(E:XK):Prop where
 pass:Passes (oT X.prog X.w) X E
 made:∀(pins:List (Addr×Obj))(Y:St)(H:Hp)(s:Shared)(h':Heap)(e C:Addr)(vs:List Value),Inv X pins Y H s->WM s.heap h' e (.ref C) vs->E (.ref C) none H->X.xe (.ref e) { s with heap:=h' }
variable{X:Cx}{pins:List (Addr×Obj)}{Y:St}{s:Shared}
theorem Inv.Bj(I:Inv X pins Y H s):X.s₀.heap.get? X.env.locals=none:=VX I.ok.above
variable{N:List Str}{scope:Scope}{f:Addr}
theorem EL{P:Program}{K:Q0}{mg:Str->Option Value}{qual:Str}{cd:Value}{A:X8}{outer:List Env}{E:XK}:
  Xc (qM (oT P w) P w K mg base N qual scope f cd A outer s H E) E:=by
 refine⟨λpins Y Hc sc e s' I x=>?_,λpins Y Hc sc h' e C vs I hx q=>?_⟩
 .obtain⟨a,C,H',rfl,fl,q⟩:=x;exact wt (L:=(YI qual scope s.heap.objs.size f cd).locals) I.ok.frames rfl I.Bj I.ok.frf (λb d=>let ⟨_,o,ho,_⟩:=I.ok.jz.mem d;⟨o,ho⟩) I.base I.os fl λk h=>⟨a,C,H',rfl,h,q⟩
 .exact zc (L:=(YI qual scope s.heap.objs.size f cd).locals) I.ok.frames rfl I.Bj I.base I.os I.bare I.hok I.stack I.pP hx λk h=>⟨e,C,Hc,rfl,h,q⟩
noncomputable def Hm(C:Addr)(E:XK)(t:TA):TS:=λ_ Y H=>t Y H λvs S=>vs.length<=sizeLine/\E (.ref C) none S
variable{pos:Pos}
theorem As{E:XK}{x:Str}{e:Expr}{es:List Expr}{t:TA}{np cpos:Pos}(xc:Xc X E)(hc:X.calm=true)(hg:Gl X x)(hm:X.mg x=some (.ref C))(hex:Tu X.K C vC "ValueError.__new__" = true)
  (ha:PA X (e::es) t)(hd:eV x:=by decide)(he:XU (e::es) X.env=(false,eval e X.env)::XU es X.env:=by rfl)(hpl:(X4 cpos (XU es X.env)).any (·.1)=false:=by rfl):
  PS X (.Raise (some (.Call (.Name x np) (e::es) [] cpos)) none pos) (Hm C E t):=by
 intro pins s Y H D I h;obtain⟨tl,N,nm,q,bs,hdct,sn,sub,ab,col,dd,k0,k1,k2,k3,k5,mN,hC,hN,hni,T⟩:=CN I.ok.mod.kin hex;refine wpAny_Raise_call_subT (nm:=nm) (q:=q) (N:=N) (bs:=bs) (hdct:=hdct) (sn:=sn) (sub:=sub) (ab:=ab) (col:=col) (dd:=dd) (k0:=k0) (k1:=k1) (k2:=k2) (k3:=k3) (k5:=k5) (bm:=tl) (mN:=mN) Wj (T.hasType Wj.hasBase) (I.ok.hd hc) (by rw[he];show (false || (X4 cpos (XU es X.env)).any (·.1))=false;rw[hpl];rfl) hni (g8 I hg hm ⟨rfl,?_⟩ hd);have h1:=ha cpos pins s Y H _ I h;rw[he] at h1 ⊢;refine VS (Yd h1 (λus s2 h2=>?_) λ_ _ y=>y);obtain⟨vs,H2,I2,r2,hl,q2⟩:=h2;exact⟨rfl,by rw[<-r2.length];exact hl,I2.bk _ _ hC,hN.keeps I2.bk,T.keeps I2.bk,λh' ex hx=>xc.made pins Y H2 s2 h' ex C us I2 hx q2⟩
variable{H':Hp}{s':Shared}
theorem rM{P:Program}{l:List Env}{sc:Shared}{a:Addr}{a0:Value}(x:Bf P w l Hc sc a C H' s')(fl:VI base l a (.ref C) a0 s'.heap)
  (d:∀b o,s'.heap.get? b=some o->(H' b≠none\/((∃ob,sc.heap.get? b=some ob)/\b∉dG l))->base.get? b=some o)
  (h:VI base l a (.ref C) a0 h')(up:s'.heap.UpToSlots h'):Bf P w l Hc sc a C H' { s' with heap:=h' }:=by
 have N:∀b o,b∈dG l->s'.heap.get? b=some o->∀vs,o.data≠.fields vs:=λb o m e=>by obtain⟨_,o2,e2,nf⟩:=pH fl.2.2.1 m;rw[e2] at e;cases e;exact nf
 refine⟨x.os,x.bare,⟨λb o e n Q nx=>?_,λb o e n mb nx=>?_,x.un.free,λb o e nx=>?_,x.un.tups,x.un.frzs,x.un.tbls⟩,lW x.hok (λb o e n=>d b o e (.inl n)) h.1,x.new,x.free,base,a0,h,λb o e r=>?_⟩
 .exact h.1 b o (d b o (x.un.keep b o e n Q nx) (.inr ⟨⟨o,e⟩,Q⟩))
 .obtain⟨F,e2⟩:=x.un.slot b o e n mb nx;obtain⟨t,L⟩:=up b _ e2 (N b _ mb e2);exact⟨t,L⟩
 .obtain⟨o2,e2⟩:=x.un.there b o e nx;by_cases mb:b∈dG l
  .obtain⟨sl,L⟩:=up b o2 e2 (N b o2 mb e2);exact⟨_,L⟩
  .exact⟨o2,h.1 b o2 (d b o2 e2 (.inr ⟨⟨o,e⟩,mb⟩))⟩
 .have e:h'.get? b=some o:=e;have key:∀o2,base.get? b=some o2->base.get? b=some o:=λo2 L=>by have:=h.1 b o2 L;rw[e] at this;cases this;exact L
  rcases id r with q|⟨⟨ob,J⟩,Q⟩
  .cases z:H' b with
   |none=>exact absurd z q
   |some v=>obtain⟨o2,e2⟩:=(x.hok b v z).is;exact key o2 (d b o2 e2 r)
  .obtain⟨o2,e2⟩:=x.un.there b ob J (λz=>nomatch z);exact key o2 (d b o2 e2 r)
theorem Bf.at{P:Program}{l:List Env}{sc:Shared}{a:Addr}(x:Bf P w l Hc sc a C H' s'):ExcAt a C s'.heap:=by obtain⟨base,a0,fl,_⟩:=x.fl;exact fl.there
abbrev XS:=Value->St->Hp->Prop
def XP(X:Cx)(pins:List (Addr×Obj))(E:XS)(o:Value)(s':Shared):Prop:=
 ∃(a C:Addr)(Y:St)(Hc:Hp)(sc:Shared)(H':Hp),o=.ref a/\Inv X pins Y Hc sc/\Bf X.prog X.w X.stack Hc sc a C H' s'/\E (.ref C) Y H'
def Qa(X:Cx)(e:Expr)(t:St->Hp->VK->XK->Prop):Prop:=
 ∀(pins:List (Addr×Obj))(s:Shared)(Y:St)(H:Hp)(Q:VK)(E:XK),Inv X pins Y H s->t Y H Q E->
  X0 (XZ X.prog X.w) X.A (eval e X.env) (EP X pins Y Q) (XP X pins λc j H'=>j=Y/\E c none H') s
abbrev TX:=Ends->XS->St->Hp->Prop
def PX(X:Cx)(st:Stmt)(t:TX):Prop:=
 ∀(pins:List (Addr×Obj))(s:Shared)(Y:St)(H:Hp)(D:Ends)(E:XS),Inv X pins Y H s->t D E Y H->X0 (XZ X.prog X.w) X.A (exec st X.env) (SP X pins D) (XP X pins E) s
def NA(X:Cx)(st:List Stmt)(t:TX):Prop:=
 ∀(pins:List (Addr×Obj))(s:Shared)(Y:St)(H:Hp)(D:Ends)(E:XS),Inv X pins Y H s->t D E Y H->X0 (XZ X.prog X.w) X.A (execs st X.env) (SP X pins D) (XP X pins E) s
variable{us:List Value}{i:Nat}
section
variable{X:Cx}
theorem XP.mono{E n:XS}{o:Value}(h:XP X pins E o s')(k:∀c Y H,E c Y H->n c Y H):XP X pins n o s':=by obtain⟨a,C,Y,Hc,sc,H',e1,e2,L,q⟩:=h;exact⟨a,C,Y,Hc,sc,H',e1,e2,L,k _ _ _ q⟩
theorem TP.iL{pins:List (Addr×Obj)}{Y:St}{Q:Bool->Hp->Prop}{u:Bool}{s:Shared}{E:Value->Shared->Prop}(h:TP (X.kX E) pins Y Q u s):TP X pins Y Q u s:=by obtain⟨H',I,q⟩:=h;exact⟨H',I.iL,q⟩
variable{k:Nat}{f C:Addr}{fd:X9}{ps:List Str}{sp:Sp}{dvs:List V}{ds:List Value}{x m:Str}{p pos apos:Pos}{e o:Expr}{es:List Expr}{ta:TE}{t:TA}
theorem B8{Q:VK}{E:XK}{vs:List V}(F:c9 X.prog X.w X.K X.mg X.base (oT X.prog X.w) k f fd ps sp)(hr:cF k X.A)(d:Binds X.K fd ps ds)(hd:Vals dvs ds)
  (I:Inv X pins Y H s)(r:Vals vs us)(h:sp (vs++dvs) H Q E):X0 (XZ X.prog X.w) X.A (call (.ref f) us) (EP X pins Y Q) (XP X pins λc j H'=>j=Y/\E c none H') s:=by
 have i:Vals (vs++dvs) (us++ds):=r.append hd;have hl:(us++ds).length=ps.length:=by rw[<-i.length];exact F.len _ _ _ _ h
 refine Y5 (YC (F.run X.A X.stack s H ⟨us,[]⟩ (us++ds) (vs++dvs) Q E hr I.GL (d s us I.ph hl) i h) λres s' O=>?_);cases res with
 |error o=>obtain⟨a,C,H',rfl,fl,q⟩:=O;exact⟨a,C,Y,H,s,H',rfl,I,fl,rfl,q⟩
 |ok fl=>
  cases fl with
  |ret u=>exact I.after O
  |_=>exact Sw O
def IJ(sp:Sp)(dvs:List V)(t:TA):St->Hp->VK->XK->Prop:=λY H Q E=>t Y H λvs S=>sp (vs++dvs) S Q E
theorem Be(F:c9 X.prog X.w X.K X.mg X.base (oT X.prog X.w) k f fd ps sp)(hr:cF k X.A)(hg:Gl X x)(hm:X.mg x=some (.ref f))(hk:Sa X.K (.ref f)=true)(hb:Binds X.K fd ps ds)(hd:Vals dvs ds)
  (ha:PA X.Bz (e::es) t)(hdb:eV x:=by decide)(he:XU (e::es) X.env=(false,eval e X.env)::XU es X.env:=by rfl)(hpl:(X4 pos (XU es X.env)).any (·.1)=false:=by rfl):
  Qa X (.Call (.Name x p) (e::es) [] pos) (IJ sp dvs t):=by
 intro pins s Y H Q E I h;refine Yp (g8 I hg hm ?_ hdb);refine TM (h₀:=X.base) I.ok.mod.kin hk (Yd (ha pos pins s Y H _ (I.kX _) h) (λus s1 z=>?_) (λ_ _ z=>z.elim)) he hpl;obtain⟨vs,H1,I1,r,q⟩:=z;exact⟨I1.iL.ph,B8 F hr hb hd I1.iL r q⟩
theorem BQ{t:St->Hp->VK->XK->Prop}(he:Qa X e t)(hs:Yc e none pos.line X.env=pure false:=by rfl):
  PX X (.Expr e pos) (λD E Y H=>t Y H (λ_ H1=>D.nx Y H1) (λc _ H1=>E c Y H1)):=by
 intro pins s Y H D E I h;refine wpAny_Expr_any (Yd (he pins s Y H _ _ I h) (λu s1 z=>?_) λev s1 z=>z.mono λc j H' q=>?_) I.quiet hs
 .obtain⟨v,H',I',_,q⟩:=z;exact⟨Y,H',I',q⟩
 .obtain⟨rfl,q⟩:=q;exact q
theorem vJ{st:Stmt}{t:TX}(h:PX X st t):NA X [st] t:=by
 intro pins s Y H D E I q;refine YL (Yd (h pins s Y H D E I q) (λfl s1 z=>?_) λ_ _ z=>z);cases fl with
 |next=>exact Yr z
 |_=>exact z
noncomputable abbrev Cx.marked(X:Cx)(a:Addr):Cx:={ X with A:=X.A.mark (some (.ref a)),calm:=false,xe:=λ_ _=>False }
theorem Inv.mark(I:Inv X pins Y H s)(a:Addr):Inv (X.marked a) pins Y H s:=
 have k:=I.ok
 ⟨⟨k.mod,k.kind,k.glob,k.blt,k.above,k.inj,k.has,k.cab,(λz=>nomatch z),k.frames,k.stk,k.exf,k.bs,k.bsz,k.noex,k.exfs,k.jz,k.frf⟩,I.os,I.bare,I.base,I.loc,I.cell,I.free,I.freeC,I.pin,I.hok,I.len⟩
theorem Inv.unmark{a:Addr}(I:Inv (X.marked a) pins Y H s)(k0:X.Ok):Inv X pins Y H s:=
 ⟨k0,I.os,I.bare,I.base,I.loc,I.cell,I.free,I.freeC,I.pin,I.hok,I.len⟩
theorem Inv.MS{a:Addr}{ho:HO}(I:Inv X pins Y H s)(r:X.s₀.heap.get? a=none)(A:a≠X.env.locals)(Q:∀x c,X.env.cells.lookup x=some c->c≠a)(g:∀p∈X.pn++pins,p.1≠a)
  (hn:H a=none)(ok:cy X.prog X.w (upd H a ho) s.heap a ho):Inv X pins Y (upd H a ho) s:=by
 have ne:∀b u,H b=some u->b≠a:=λb u e z=>by rw[z,hn] at e;cases e
 refine⟨I.ok,I.os,I.bare,⟨I.base.keep,I.base.slot,λb o e n nx=>?_,I.base.there,λb xs e=>?_,λb o v e=>?_,λb ps e=>?_⟩,I.loc,I.cell,by rw[aj (R7 A)];exact I.free,λx c e=>by rw[aj (Q x c e)];exact I.freeC x c e,λp hp=>?_,λb u e=>?_,I.len⟩
 .rw[aj (λz=>by rw[z,r] at e;cases e)];exact I.base.free b o e n nx
 .have q:=I.base.tups b xs e;rw[aj (ne b _ q)];exact q
 .have q:=I.base.frzs b o v e;rw[aj (ne b _ q)];exact q
 .obtain⟨more,q⟩:=I.base.tbls b ps e;exact⟨more,by rw[aj (ne b _ q)];exact q⟩
 .obtain⟨e1,e2,L⟩:=I.pin p hp;exact⟨e1,by rw[aj (g p hp)];exact e2,L⟩
 .by_cases z:b=a
  .subst z;rw[aF] at e;cases e;exact ok
  .rw[aj z] at e;exact(I.hok b u e).gD (λ_ _ _ q=>q) (λc q=>by rw[aj (ne c _ q)];exact q) λc xs q=>by rw[aj (ne c _ q)];exact q
theorem g0{M:Model}{A:X8}{n:Str}(I:Inv X pins Y H s)(hN:X.N.Nodup)(hi:X.N[i]?=some n)
  (hn:X.env.scope.names.lookup n=some .local)(q:∀s',Inv X pins (Y.set i none) H s'->Q () s'):X0 M A (do Za X.env n .none;unbindBehindTheSuite X.env n pos) Q E s:=by
 obtain⟨m,w,hl⟩:=id I.loc;refine wpAny_nameGoes_keeps hn w (by rw[I.ok.kind];rfl) λh' v x hs=>q _ ?_;obtain⟨l,_,_,V,_⟩:=id w;have fl:∀b o,X.s₀.heap.get? b=some o->b≠X.env.locals:=λb o e=>RH (Rh (Rq e) I.ok.above);refine⟨I.ok,I.os,I.bare,⟨λb o e n d hx=>(hs.2 b (fl b o e)).trans (I.base.keep b o e n d hx),λb o e n d hx=>?_,I.base.free,λb o e hx=>?_,I.base.tups,I.base.frzs,I.base.tbls⟩,⟨_,x,λj y g e1 e2 L=>?_⟩,λy c e=>?_,I.free,I.freeC,λp hp=>?_,λb u e=>?_,by simpa using I.len⟩
 .obtain⟨sl,e1⟩:=I.base.slot b o e n d hx;exact⟨sl,(hs.2 b (fl b o e)).trans e1⟩
 .obtain⟨R,e1⟩:=I.base.there b o e hx;exact⟨R,(hs.2 b (fl b o e)).trans e1⟩
 .by_cases a:j=i
  .subst a;have:j<Y.length:=by rw[I.len];exact(Q4.mp hi).1
   rw[Rl this] at e2;cases e2
  .rw[Rx (R7 a)] at e2;obtain⟨u,r,z⟩:=hl j y g e1 e2 L;refine⟨u,r,?_⟩;rcases z with ⟨k,e⟩|⟨k,c,e,z⟩
   .refine .inl ⟨k,?_⟩;have:y≠n:=λe=>a (mI hN e1 (e▸hi));simp[this,e]
   .exact .inr ⟨k,c,e,z.sameBut hs (I.DK y c e)⟩
 .obtain⟨J,z⟩:=I.cell y c e;exact⟨J,z.sameBut hs (I.DK y c e)⟩
 .obtain⟨e,nn,ne,r⟩:=I.pin p hp;exact⟨(hs.2 p.1 ne).trans e,nn,ne,r⟩
 .refine(I.hok b u e).gD (λc J hc z=>(hs.2 c ?_).trans z) (λ_ z=>z) λ_ _ z=>z;intro D;rcases hc with hc|hc
  .rw[<-hc,D,I.free] at e;cases e
  .rw[D,I.free] at hc;cases hc
noncomputable def ua(a C:Addr):HO:=.ext (ExcAt a C)
theorem D1{P:Program}{a:Addr}(x:ExcAt a C h):cy P w H h a (ua a C):=
 ⟨x,let ⟨o,e,_⟩:=x;⟨o,e⟩,λh1 h2 ⟨o,e,c⟩ k=>⟨o,k o e,c⟩⟩
noncomputable def Ends.un(D:Ends)(i:Nat):Ends:={ nx:=λY H=>D.nx (Y.set i none) H,rt:=D.rt,bk:=λY H=>D.bk (Y.set i none) H,ct:=λY H=>D.ct (Y.set i none) H }
def OZ(K:Q0)(T:Addr)(i:Nat)(tb:TX)(ts:TS):TS:=λD Y H=>tb D (λc j H'=>∃C,c=.ref C/\Ur K (.ref C) (.ref T)=some true/\∀a,H' a=none->ts (D.un i) (j.set i (some (.ref a))) (upd H' a (ua a C))) Y H
theorem Hy{T:Addr}{n:Str}{body suite:List Stmt}{b0:Stmt}{tb:TX}{ts:TS}{np hp:Pos}(hst:X.stack=X.env::X.outer)(hfr:X.env.frame=some X.env.locals)(hex:X.ex=[])(hN:X.N.Nodup)(hi:X.N[i]?=some n)(hn:X.env.scope.names.lookup n=some .local)
  (hg:Gl X x)(hm:X.mg x=some (.ref T))(hb:NA X body tb)(hs:∀a,pZ (X.marked a) (b0::suite) ts)(hd:eV x:=by decide)(hf:X.fn n=true\/X.env.scope.names.lookup n=some .local:=by first|exact .inl rfl|exact .inr rfl|assumption):
  PS X (.Try body [.ExceptHandler (some (.Name x np)) (some n) (b0::suite) hp] [] [] pos) (OZ X.K T i tb ts):=by
 intro pins s Y H D I h;refine wpAny_Try_except (Yd (hb pins s Y H D _ I h) (λf s1 z=>?_) λev s1 z=>?_)
 .cases f with
  |next=>exact Yr z
  |_=>exact z
 obtain⟨a,C,j,Hc,sc,H',rfl,Ic,fl,C',e',hx,q⟩:=z;cases e';obtain⟨base,a0,f0,hb0⟩:=fl.fl;have hA:X.A.frames=some (X.env::X.outer):=hst▸I.ok.frames;rw[hst] at f0;refine wpAny_looks_onW hA hfr f0 λh1 held up1=>?_;refine wpAny_landsW held λh2 fl2 up2=>?_;have fly2:Bf X.prog X.w X.stack Hc sc a C H' { s1 with heap:=h2 }:=rM fl (hst▸f0) hb0 (hst▸fl2) (up1.trans up2);have back:∀{s2:Shared},Bf X.prog X.w X.stack Hc sc a C H' s2->Inv X pins j H' s2:=λy=>Ic.EH (ch:=[]) y.os y.un y.hok y.bare (λb hb=>nomatch hb);have I2:=back fly2;refine wpAny_handleBy_cons (codeAny_handlers_test ?_) (by intro q;cases q);refine g8 (X:=X.marked a) (I2.mark a) hg hm ?_ hd;refine(PySem.W.exm_one (M:=XZ X.prog X.w) I2.ph fly2.at.type hx) _ _ _ _ (λ_ _ k=>k) ?_;refine codeAny_handlers_suite_as ?_;obtain⟨base2,a2,f2,hb2⟩:=fly2.fl;refine lands_againW f2 λh3 fl3 up3=>?_;have fly3:=rM fly2 f2 hb2 fl3 up3;have I3:=back fly3;have n1:∀b ob,sc.heap.get? b=some ob->b≠a:=λb ob e z=>by rw[z,fl.new] at e;cases e
 have I4:Inv X pins j (upd H' a (ua a C)) { s1 with heap:=h3 }:=by
  refine I3.MS ?_ ?_ ?_ ?_ fly3.free (D1 fly3.at)
  .cases z:X.s₀.heap.get? a with
   |none=>rfl
   |some oa=>obtain⟨o1,e1⟩:=Ic.base.there a oa z (by rw[hex];exact λz=>nomatch z);rw[fl.new] at e1;cases e1
  .obtain⟨m,⟨oL,_,_,eL,_⟩,_⟩:=Ic.loc;exact(n1 _ _ eL).symm
  .intro y c e;obtain⟨v,oc,ec,_⟩:=Ic.cell y c e;exact n1 c oc ec
  .intro p hp;exact n1 _ _ (Ic.pin p hp).1
 refine f9 I4 hN hi (.inl hn) (v:=.ref a) rfl (λs5 I5=>?_) hf;refine Yd (hs a pins s5 _ _ (D.un i) (I5.mark a) (q a fly3.free)) (λf s6 z=>?_) λ_ _ z=>z.elim;cases f with
 |next=>obtain⟨Z,H6,I6,q6⟩:=z;exact g0 (I6.unmark I.ok) hN hi hn λs7 I7=>⟨_,_,I7,q6⟩
 |ret u=>obtain⟨v,Z,H6,I6,r6,q6⟩:=z;exact g0 (I6.unmark I.ok) hN hi hn λs7 I7=>⟨v,_,_,I7,r6,q6⟩
 |brk=>obtain⟨Z,H6,I6,q6⟩:=z;exact g0 (I6.unmark I.ok) hN hi hn λs7 I7=>⟨_,_,I7,q6⟩
 |cont=>obtain⟨Z,H6,I6,q6⟩:=z;exact g0 (I6.unmark I.ok) hN hi hn λs7 I7=>⟨_,_,I7,q6⟩
end
def Bd(n:Nat)(x:Int):Prop:=x.natAbs<2^n
theorem Bd.mono{m n:Nat}{x:Int}(h:Bd m x)(k:m<=n):Bd n x:=Rh h (UA Z1 k)
theorem Bd.bits{n:Nat}{x:Int}(h:Bd n x):Vn x<=n:=by
 delta Vn
 split
 .exact Sd _
 .rename_i z
  have h0:x.natAbs≠0:=λq=>z (by simp[Int.natAbs_eq_zero.mp q])
  exact(V7 h0).mpr h
theorem Bd.Nd{m n:Nat}{x y:Int}(h:Bd m x)(k:Bd n y)(hs:m+n<=134217728):Zu x y:=Zu.of_le h.bits k.bits hs
theorem Bd.mul{m n:Nat}{x y:Int}(h:Bd m x)(k:Bd n y):Bd (m+n) (x*y):=by
 delta Bd at *
 simp only[Sf,V8]
 exact Nat.mul_lt_mul'' h k
theorem Bd.add{m n:Nat}{x y:Int}(h:Bd m x)(k:Bd n y):Bd (max m n+1) (x+y):=by have h1:=h.mono (WN m n);have k1:=k.mono (WD m n);unfold Bd at *;lia
theorem Bd.neg{n:Nat}{x:Int}(h:Bd n x):Bd n (-x):=by delta Bd at *;rwa[WV]
theorem Bd.log{n:Nat}{x:Int}(h:Bd n x)(hn:n<=9000):x.natAbs.log2<9000:=by
 by_cases z:x.natAbs=0
 .rw[z];decide
 .exact Rh ((V7 z).mpr h) hn
section
variable{X:Cx}
def PV(_ j:Int):Prop:=j≠0/\Bd 9000 j
theorem Ea:iC X (Yu .Mult) (rI Zu λi j=>.int (i*j)):=oU λ_ _ _ _ _ _ _ hc q=>mul_int q hc
theorem yr:iC X (Yu .FloorDiv) (rI PV λi j=>.int (i.fdiv j)):=oU λ_ _ _ _ _ _ _ hc q=>floordiv_int hc.1 q (.inl (PyProof.noPylong_of_log2 (hc.2.log (Q9 _))))
end
inductive D where
 |non|bl(b:Bool)|int(i:Int)|str(x:Str)|tup(ds:List D)|lst(ds:List D)
mutual
noncomputable def D.eq:D->D->Bool
 | .non,.non=>true
 | .bl a,.bl b=>a==b
 | .bl a,.int b=>(if a then 1 else 0)==b
 | .int a,.bl b=>a==(if b then 1 else 0)
 | .int a,.int b=>a==b
 | .str a,.str b=>a==b
 | .tup xs,.tup ys=>D.eqs xs ys
 | .lst xs,.lst ys=>D.eqs xs ys
 |_,_=>false
noncomputable def D.eqs:List D->List D->Bool
 |[],[]=>true
 |x::xs,y::ys=>D.eq x y&&D.eqs xs ys
 |_,_=>false
end
mutual
noncomputable def D.depth:D->Nat
 | .tup xs=>D.gq xs+1
 | .lst xs=>D.gq xs+1
 |_=>0
noncomputable def D.gq:List D->Nat
 |[]=>0
 |x::xs=>max (D.depth x) (D.gq xs)
end
mutual
theorem D.kP:∀d:D,D.eq d d=true
 | .non=>rfl
 | .bl b=>beq_self_eq_true b
 | .int i=>beq_self_eq_true i
 | .str x=>beq_self_eq_true x
 | .tup xs=>D.mB xs
 | .lst xs=>D.mB xs
theorem D.mB:∀ds:List D,D.eqs ds ds=true
 |[]=>rfl
 |x::xs=>by show (D.eq x x&&D.eqs xs xs)=true;rw[D.kP x,D.mB xs];rfl
end
mutual
inductive Den(K:Q0)(H:Hp):V->D->Prop
 |non:Den K H .non .non
 |bl(b:Bool):Den K H (.bl b) (.bl b)
 |int(i:Int):Den K H (.int i) (.int i)
 |str(x:Str):Den K H (.str x) (.str x)
 |tup{a:Addr}{xs:List V}{ds:List D}(e:i4 K H a xs)(r:fA K H xs ds):Den K H (.ref a) (.tup ds)
 |lst{a:Addr}{xs:List V}{ds:List D}(e:dI K H a xs)(r:fA K H xs ds):Den K H (.ref a) (.lst ds)
inductive fA(K:Q0)(H:Hp):List V->List D->Prop
 |nil:fA K H [] []
 |cons{x:V}{d:D}{xs:List V}{ds:List D}(h:Den K H x d)(r:fA K H xs ds):fA K H (x::xs) (d::ds)
end
theorem fA.len{K:Q0}{H:Hp}:∀{xs:List V}{ds:List D},fA K H xs ds->xs.length=ds.length
 |_,_,.nil=>rfl
 |_,_,.cons _ r=>by simp only[Rb,Rb,r.len]
theorem fA.at{K:Q0}{H:Hp}:∀{xs:List V}{ds:List D}(j:Nat){x:V}{d:D},fA K H xs ds->xs[j]?=some x->ds[j]?=some d->Den K H x d
 |_,_,0,_,_,.cons h _,e1,e2=>by cases e1;cases e2;exact h
 |_,_,j+1,_,_,.cons _ r,e1,e2=>r.at j e1 e2
theorem D.nO:∀{ds:List D}(j:Nat){d:D},ds[j]?=some d->D.depth d<=D.gq ds
 |x::xs,0,_,e=>by cases e;exact WN _ _
 |x::xs,j+1,_,e=>RG (D.nO j e) (WD _ _)
theorem D.fH:∀(xs ys:List D),D.eqs xs ys=((Rp (min xs.length ys.length)).all (λj=>D.eq (xs.getD j .non) (ys.getD j .non))&&xs.length==ys.length)
 |[],[]=>rfl
 |[],_::_=>rfl
 |_::_,[]=>rfl
 |x::xs,y::ys=>by
  simp only[show D.eqs (x::xs) (y::ys)=(D.eq x y&&D.eqs xs ys) from rfl,D.fH xs ys,Rb,Rb,Nat.succ_min_succ,VJ,Rt,VL];have e:(xs.length+1==ys.length+1)=(xs.length==ys.length):=by rw[WE];simp
  simp only[e,Bool.and_assoc];rfl
variable{xs ys:List V}{u:Value}
section
variable{X:Cx}{pins:List (Addr×Obj)}{Y:St}{H:Hp}{s:Shared}
theorem ug{a:Addr}(I:Inv X pins Y H s)(h1:i4 X.K H a xs)(h2:dI X.K H a ys):False:=by obtain⟨_,_,⟨o,e,c,_⟩,_⟩:=I.tuple h1;obtain⟨_,_,⟨o',Q,k,v,_,d'⟩,_⟩:=I.list h2;rw[e] at k;cases k;rw[c] at v;injection v with q;exact absurd q Z1
mutual
theorem Den.inj(I:Inv X pins Y H s):∀{v:V}{d e:D},Den X.K H v d->Den X.K H v e->d=e
 |_,_,_,.non,h=>by cases h;rfl
 |_,_,_,.bl b,h=>by cases h;rfl
 |_,_,_,.int i,h=>by cases h;rfl
 |_,_,_,.str x,h=>by cases h;rfl
 |_,_,_,.tup e r,h=>by
  cases h with
  |tup k r'=>cases I.m8 e k;rw[fA.inj I r r']
  |lst k r'=>exact(ug I e k).elim
 |_,_,_,.lst e r,h=>by
  cases h with
  |lst k r'=>cases I.gy e k;rw[fA.inj I r r']
  |tup k r'=>exact(ug I k e).elim
theorem fA.inj(I:Inv X pins Y H s):∀{v:List V}{d e:List D},fA X.K H v d->fA X.K H v e->d=e
 |_,_,_,.nil,h=>by cases h;rfl
 |_,_,_,.cons a r,h=>by
  cases h with
  |cons a' r'=>rw[Den.inj I a a',fA.inj I r r']
end
theorem nG(I:Inv X pins Y H s){A:X8}{x y:V}{d e:D}{v:Value}(B:A.units<cLine)(hf:gK x=true)(hd:Den X.K H x d)(he:Den X.K H y e)(C:RelV x u)(m:RelV y v):Uj A s u v (D.eq d e):=by
 cases hd with
 |tup=>cases hf
 |lst=>cases hf
 |non =>
  cases he with
  |tup q r=>cases C;cases m;obtain⟨_,_,p,_⟩:=I.tuple q;exact .none_tuple p B
  |lst q r=>cases C;cases m;obtain⟨_,_,p,_⟩:=I.list q;exact .none_list p.isList B
  |non => exact cN C m rfl rfl
  |bl n=>exact cN C m rfl rfl
  |int b=>exact cN C m rfl rfl
  |str x1=>exact cN C m rfl rfl
 |bl w=>
  cases he with
  |tup q r=>cases C;cases m;obtain⟨_,_,p,_⟩:=I.tuple q;exact .bool_tuple _ p B
  |lst q r=>cases C;cases m;obtain⟨_,_,p,_⟩:=I.list q;exact .bool_list _ p.isList B
  |non => exact cN C m rfl rfl
  |bl n=>exact cN C m rfl rfl
  |int b=>exact cN C m rfl rfl
  |str x1=>exact cN C m rfl rfl
 |int t=>
  cases he with
  |tup q r=>obtain⟨_,rfl⟩:=C;cases m;obtain⟨_,_,p,_⟩:=I.tuple q;exact .int_tuple _ _ p B
  |lst q r=>obtain⟨_,rfl⟩:=C;cases m;obtain⟨_,_,p,_⟩:=I.list q;exact .int_list _ _ p.isList B
  |non => exact cN C m rfl rfl
  |bl n=>exact cN C m rfl rfl
  |int b=>exact cN C m rfl rfl
  |str x1=>exact cN C m rfl rfl
 |str x0=>
  cases he with
  |tup q r=>obtain⟨_,rfl⟩:=C;cases m;obtain⟨_,_,p,_⟩:=I.tuple q;exact .str_tuple _ _ p B
  |lst q r=>obtain⟨_,rfl⟩:=C;cases m;obtain⟨_,_,p,_⟩:=I.list q;exact .str_list _ _ p.isList B
  |non => exact cN C m rfl rfl
  |bl n=>exact cN C m rfl rfl
  |int b=>exact cN C m rfl rfl
  |str x1=>exact cN C m rfl rfl
theorem Vals.L6(r:Vals xs us){j:Nat}(a:j<us.toArray.size):∃x,xs[j]?=some x/\RelV x us.toArray[j]:=by
 have hl:=r.length;have q:j<us.length:=by simpa using a
 have hx:j<xs.length:=by lia
 obtain⟨u,e,C⟩:=r.get (Ry hx);rw[Ry q] at e;cases e;exact⟨xs[j],Ry hx,by simpa using C⟩
theorem fA.getD{K:Q0}{H:Hp}{xs:List V}{ds:List D}(r:fA K H xs ds){j:Nat}{x:V}(e:xs[j]?=some x):Den K H x (ds.getD j .non)/\D.depth (ds.getD j .non)<=D.gq ds:=by
 have a:j<ds.length:=by rw[<-r.len];exact(Q4.mp e).1
 have e2:=Ry a;have L:ds.getD j .non=ds[j]:=by rw[Sy,e2];rfl
 rw[L];exact⟨r.at j e e2,D.nO j e2⟩
theorem j0(I:Inv X pins Y H s){n:Nat}(l:∀{A:X8}{x y:V}{d e:D}{u v:Value},A.units+n<cLine->D.depth d<=n->Den X.K H x d->Den X.K H y e->RelV x u->RelV y v->Uj A s u v (D.eq d e))
  {A:X8}(B:A.units+(n+1)<cLine){ds es:List D}(hn:D.gq ds<=n)(r:fA X.K H xs ds)(q:fA X.K H ys es)(C:Vals xs us)(m:Vals ys vs):
  ∀j (h1:j<us.toArray.size) (h2:j<vs.toArray.size),Uj A.in1 s us.toArray[j] vs.toArray[j] (D.eq (ds.getD j .non) (es.getD j .non)):=λj h1 h2=>by
 obtain⟨x,ex,J⟩:=C.L6 h1;obtain⟨y,b,z⟩:=m.L6 h2;obtain⟨p,w⟩:=r.getD ex;exact l (by show A.units+1+n<cLine;lia) (RG w hn) p (q.getD b).1 J z
theorem ja(I:Inv X pins Y H s):∀(n:Nat){A:X8}{x y:V}{d e:D}{u v:Value},A.units+n<cLine->D.depth d<=n->Den X.K H x d->Den X.K H y e->RelV x u->RelV y v->Uj A s u v (D.eq d e):=by
 intro n;induction n with
 |zero=>
  intro A x y d e u v B hn hd he C m;cases id hd with
  |tup=>simp[D.depth] at hn
  |lst=>simp[D.depth] at hn
  |_=>exact nG I B rfl hd he C m
 |succ n l=>
  intro A x y d e u v B hn hd he C m;have q:A.units<cLine:=by lia
  cases id hd with
  |@tup a xs ds T r=>
   cases C;obtain⟨us,G,p,_⟩:=I.tuple T;cases id he with
   |@tup b ys es J i=>
    cases m;obtain⟨vs,F,Q,_⟩:=I.tuple J;by_cases N:a=b
    .subst N;rw[hd.inj I he,D.kP];exact .same _
    .refine .of_refs N ?_;rw[show D.eq (.tup _) (.tup _)=_ from D.fH _ _];have Z:us.toArray.size=ds.length:=by rw[Ri,<-G.length,r.len]
     have g:vs.toArray.size=es.length:=by rw[Ri,<-F.length,i.len]
     rw[<-Z,<-g];exact .tuples p Q q (j0 I l B (by simp only[D.depth] at hn;exact T9 ‹_›) r i G F)
   |@lst b ys es J i=>cases m;obtain⟨vs,F,Q,_⟩:=I.list J;exact .tuple_list p Q.isList q
   |non => cases m;exact .tuple_none p q
   |bl w=>cases m;exact .tuple_bool _ p q
   |int t=>obtain⟨_,rfl⟩:=m;exact .tuple_int _ _ p q
   |str x0=>obtain⟨_,rfl⟩:=m;exact .tuple_str _ _ p q
  |@lst a xs ds T r=>
   cases C;obtain⟨us,G,p,_⟩:=I.list T;cases id he with
   |@lst b ys es J i=>
    cases m;obtain⟨vs,F,Q,_⟩:=I.list J;by_cases N:a=b
    .subst N;rw[hd.inj I he,D.kP];exact .same _
    .refine .of_refs N ?_;rw[show D.eq (.lst _) (.lst _)=_ from D.fH _ _];have Z:us.toArray.size=ds.length:=by rw[Ri,<-G.length,r.len]
     have g:vs.toArray.size=es.length:=by rw[Ri,<-F.length,i.len]
     rw[<-Z,<-g];by_cases hl:us.toArray.size=vs.toArray.size
     .have e1:(us.toArray.size==vs.toArray.size)=true:=ZA.mpr hl;rw[e1,Ta,<-hl,VT];exact .lists p.isList Q.isList hl q (j0 I l B (by rw[D.depth] at hn;lia) r i G F)
     .have e1:(us.toArray.size==vs.toArray.size)=false:=beq_eq_false_iff_ne.mpr hl;rw[e1,Ux];exact .lists_lengths p.isList Q.isList (by simpa using hl) q
   |@tup b ys es J i=>cases m;obtain⟨vs,F,Q,_⟩:=I.tuple J;exact .list_tuple p.isList Q q
   |non => cases m;exact .list_none p.isList q
   |bl w=>cases m;exact .list_bool _ p.isList q
   |int t=>obtain⟨_,rfl⟩:=m;exact .list_int _ _ p.isList q
   |str x0=>obtain⟨_,rfl⟩:=m;exact .list_str _ _ p.isList q
  |_=>exact nG I q rfl hd he C m
end
section
variable{X:Cx}{pins:List (Addr×Obj)}{Y:St}{H:Hp}{s:Shared}
theorem Ad(I:Inv X pins Y H s){n:Nat}{A:X8}{x y:V}{d e:D}{v:Value}(B:A.units+n<cLine)(hn:D.depth d<=n)(hd:Den X.K H x d)(he:Den X.K H y e)(C:RelV x u)(T:RelV y v):SeqAt.RcAt A s u v (D.eq d e):=by
 have q:A.units<cLine:=by lia
 cases id hd with
 |non =>
  cases C;cases id he with
  |non => cases T;exact .none_none
  |bl h=>cases T;exact .none_bool _
  |int h=>obtain⟨_,rfl⟩:=T;exact .none_int _ _
  |str h=>obtain⟨_,rfl⟩:=T;exact .none_str _ _
  |@tup b ys es J i=>cases T;obtain⟨_,_,Q,_⟩:=I.tuple J;exact .none_tuple Q q
  |@lst b ys es J i=>cases T;obtain⟨_,_,Q,_⟩:=I.list J;exact .none_list Q.isList q
 |bl x1=>
  cases C;cases id he with
  |non => cases T;exact .bool_none _
  |bl h=>cases T;exact .bool_bool _ _
  |int h=>obtain⟨_,rfl⟩:=T;exact .bool_int _ _ _
  |str h=>obtain⟨_,rfl⟩:=T;exact .bool_str _ _ _
  |@tup b ys es J i=>cases T;obtain⟨_,_,Q,_⟩:=I.tuple J;exact .bool_tuple _ Q q
  |@lst b ys es J i=>cases T;obtain⟨_,_,Q,_⟩:=I.list J;exact .bool_list _ Q.isList q
 |int x1=>
  obtain⟨_,rfl⟩:=C;cases id he with
  |non => cases T;exact .int_none _ _
  |bl h=>cases T;exact .int_bool _ _ _
  |int h=>obtain⟨_,rfl⟩:=T;exact .int_int _ _ _ _
  |str h=>obtain⟨_,rfl⟩:=T;exact .int_str _ _ _ _
  |@tup b ys es J i=>cases T;obtain⟨_,_,Q,_⟩:=I.tuple J;exact .int_tuple _ _ Q q
  |@lst b ys es J i=>cases T;obtain⟨_,_,Q,_⟩:=I.list J;exact .int_list _ _ Q.isList q
 |str x1=>
  obtain⟨_,rfl⟩:=C;cases id he with
  |non => cases T;exact .str_none _ _
  |bl h=>cases T;exact .str_bool _ _ _
  |int h=>obtain⟨_,rfl⟩:=T;exact .str_int _ _ _ _
  |str h=>obtain⟨_,rfl⟩:=T;exact .str_str _ _ _ _
  |@tup b ys es J i=>cases T;obtain⟨_,_,Q,_⟩:=I.tuple J;exact .str_tuple _ _ Q q
  |@lst b ys es J i=>cases T;obtain⟨_,_,Q,_⟩:=I.list J;exact .str_list _ _ Q.isList q
 |@tup a xs ds N r=>
  cases C;obtain⟨us,G,p,_⟩:=I.tuple N;cases id he with
  |non => cases T;exact .tuple_none p q
  |bl h=>cases T;exact .tuple_bool _ p q
  |int h=>obtain⟨_,rfl⟩:=T;exact .tuple_int _ _ p q
  |str h=>obtain⟨_,rfl⟩:=T;exact .tuple_str _ _ p q
  |@tup b ys es J i=>
   cases T;obtain⟨vs,F,Q,_⟩:=I.tuple J;simp only[D.depth] at hn;obtain⟨n,rfl⟩:∃m,n=m+1:=⟨n-1,by lia⟩
   rw[show D.eq (.tup _) (.tup _)=_ from D.fH _ _];have Z:us.toArray.size=ds.length:=by rw[Ri,<-G.length,r.len]
   have g:vs.toArray.size=es.length:=by rw[Ri,<-F.length,i.len]
   rw[<-Z,<-g];exact .tuples p Q q (j0 I (ja I n) B Q1 r i G F)
  |@lst b ys es J i=>cases T;obtain⟨_,_,Q,_⟩:=I.list J;exact .tuple_list p Q.isList q
 |@lst a xs ds N r=>
  cases C;obtain⟨us,G,p,_⟩:=I.list N;cases id he with
  |non => cases T;exact .list_none p.isList q
  |bl h=>cases T;exact .list_bool _ p.isList q
  |int h=>obtain⟨_,rfl⟩:=T;exact .list_int _ _ p.isList q
  |str h=>obtain⟨_,rfl⟩:=T;exact .list_str _ _ p.isList q
  |@tup b ys es J i=>cases T;obtain⟨_,_,Q,_⟩:=I.tuple J;exact .list_tuple p.isList Q q
  |@lst b ys es J i=>
   cases T;obtain⟨vs,F,Q,_⟩:=I.list J;rw[D.depth] at hn;obtain⟨n,rfl⟩:∃m,n=m+1:=⟨n-1,by lia⟩
   rw[show D.eq (.lst _) (.lst _)=_ from D.fH _ _];have Z:us.toArray.size=ds.length:=by rw[Ri,<-G.length,r.len]
   have g:vs.toArray.size=es.length:=by rw[Ri,<-F.length,i.len]
   rw[<-Z,<-g];by_cases hl:us.toArray.size=vs.toArray.size
   .have e1:(us.toArray.size==vs.toArray.size)=true:=ZA.mpr hl;rw[e1,Ta,<-hl,VT];exact .lists p.isList Q.isList hl q (j0 I (ja I n) B Q1 r i G F)
   .have e1:(us.toArray.size==vs.toArray.size)=false:=beq_eq_false_iff_ne.mpr hl;rw[e1,Ux];exact .lists_lengths p.isList Q.isList (by simpa using hl) q
theorem tY(I:Inv X pins Y H s){n:Nat}{A:X8}{x y:V}{d e:D}{v:Value}(B:A.units+n<cLine)(hn:D.depth d<=n)(hd:Den X.K H x d)(he:Den X.K H y e)(C:RelV x u)(T:RelV y v):SeqAt.RcNeAt A s u v (!D.eq d e):=by
 have q:A.units<cLine:=by lia
 cases id hd with
 |non =>
  cases C;cases id he with
  |non => cases T;exact .none_none
  |bl h=>cases T;exact .none_bool _
  |int h=>obtain⟨_,rfl⟩:=T;exact .none_int _ _
  |str h=>obtain⟨_,rfl⟩:=T;exact .none_str _ _
  |@tup b ys es J i=>cases T;obtain⟨_,_,Q,_⟩:=I.tuple J;exact .none_tuple Q q
  |@lst b ys es J i=>cases T;obtain⟨_,_,Q,_⟩:=I.list J;exact .none_list Q.isList q
 |bl x1=>
  cases C;cases id he with
  |non => cases T;exact .bool_none _
  |bl h=>cases T;exact .bool_bool _ _
  |int h=>obtain⟨_,rfl⟩:=T;exact .bool_int _ _ _
  |str h=>obtain⟨_,rfl⟩:=T;exact .bool_str _ _ _
  |@tup b ys es J i=>cases T;obtain⟨_,_,Q,_⟩:=I.tuple J;exact .bool_tuple _ Q q
  |@lst b ys es J i=>cases T;obtain⟨_,_,Q,_⟩:=I.list J;exact .bool_list _ Q.isList q
 |int x1=>
  obtain⟨_,rfl⟩:=C;cases id he with
  |non => cases T;exact .int_none _ _
  |bl h=>cases T;exact .int_bool _ _ _
  |int h=>obtain⟨_,rfl⟩:=T;exact .int_int _ _ _ _
  |str h=>obtain⟨_,rfl⟩:=T;exact .int_str _ _ _ _
  |@tup b ys es J i=>cases T;obtain⟨_,_,Q,_⟩:=I.tuple J;exact .int_tuple _ _ Q q
  |@lst b ys es J i=>cases T;obtain⟨_,_,Q,_⟩:=I.list J;exact .int_list _ _ Q.isList q
 |str x1=>
  obtain⟨_,rfl⟩:=C;cases id he with
  |non => cases T;exact .str_none _ _
  |bl h=>cases T;exact .str_bool _ _ _
  |int h=>obtain⟨_,rfl⟩:=T;exact .str_int _ _ _ _
  |str h=>obtain⟨_,rfl⟩:=T;exact .str_str _ _ _ _
  |@tup b ys es J i=>cases T;obtain⟨_,_,Q,_⟩:=I.tuple J;exact .str_tuple _ _ Q q
  |@lst b ys es J i=>cases T;obtain⟨_,_,Q,_⟩:=I.list J;exact .str_list _ _ Q.isList q
 |@tup a xs ds N r=>
  cases C;obtain⟨us,G,p,_⟩:=I.tuple N;cases id he with
  |non => cases T;exact .tuple_none p q
  |bl h=>cases T;exact .tuple_bool _ p q
  |int h=>obtain⟨_,rfl⟩:=T;exact .tuple_int _ _ p q
  |str h=>obtain⟨_,rfl⟩:=T;exact .tuple_str _ _ p q
  |@tup b ys es J i=>
   cases T;obtain⟨vs,F,Q,_⟩:=I.tuple J;simp only[D.depth] at hn;obtain⟨n,rfl⟩:∃m,n=m+1:=⟨n-1,by lia⟩
   rw[show D.eq (.tup _) (.tup _)=_ from D.fH _ _];have Z:us.toArray.size=ds.length:=by rw[Ri,<-G.length,r.len]
   have g:vs.toArray.size=es.length:=by rw[Ri,<-F.length,i.len]
   rw[<-Z,<-g];exact .tuples p Q q (j0 I (ja I n) B Q1 r i G F)
  |@lst b ys es J i=>cases T;obtain⟨_,_,Q,_⟩:=I.list J;exact .tuple_list p Q.isList q
 |@lst a xs ds N r=>
  cases C;obtain⟨us,G,p,_⟩:=I.list N;cases id he with
  |non => cases T;exact .list_none p.isList q
  |bl h=>cases T;exact .list_bool _ p.isList q
  |int h=>obtain⟨_,rfl⟩:=T;exact .list_int _ _ p.isList q
  |str h=>obtain⟨_,rfl⟩:=T;exact .list_str _ _ p.isList q
  |@tup b ys es J i=>cases T;obtain⟨_,_,Q,_⟩:=I.tuple J;exact .list_tuple p.isList Q q
  |@lst b ys es J i=>
   cases T;obtain⟨vs,F,Q,_⟩:=I.list J;rw[D.depth] at hn;obtain⟨n,rfl⟩:∃m,n=m+1:=⟨n-1,by lia⟩
   rw[show D.eq (.lst _) (.lst _)=_ from D.fH _ _];have Z:us.toArray.size=ds.length:=by rw[Ri,<-G.length,r.len]
   have g:vs.toArray.size=es.length:=by rw[Ri,<-F.length,i.len]
   rw[<-Z,<-g];by_cases hl:us.toArray.size=vs.toArray.size
   .have e1:(us.toArray.size==vs.toArray.size)=true:=ZA.mpr hl;rw[e1,Ta,<-hl,VT];exact .lists p.isList Q.isList hl q (j0 I (ja I n) B Q1 r i G F)
   .have e1:(us.toArray.size==vs.toArray.size)=false:=beq_eq_false_iff_ne.mpr hl;rw[e1,Ux];exact .lists_lengths p.isList Q.isList (by simpa using hl) q
def KG(K:Q0):R2:=λx y H Q=>∃d e,Den K H x d/\Den K H y e/\D.depth d<=40/\Q (.bl (D.eq d e)) H
def L5(K:Q0):R2:=λx y H Q=>∃d e,Den K H x d/\Den K H y e/\D.depth d<=40/\Q (.bl (!D.eq d e)) H
theorem zK(B:X.A.units+64<cLine):iC X (Yi .Eq) (KG X.K):=by intro pins s Y H x y v u Q I J z h;obtain⟨d,e,hd,he,dp,q⟩:=h;exact Ad I B Z4 hd he J z _ _ _ _ ⟨.bl _,H,I,rfl,q⟩
theorem zk(B:X.A.units+64<cLine):iC X (Yi .NotEq) (L5 X.K):=by intro pins s Y H x y v u Q I J z h;obtain⟨d,e,hd,he,dp,q⟩:=h;exact tY I B Z4 hd he J z _ _ _ _ ⟨.bl _,H,I,rfl,q⟩
inductive vN(K:Q0)(H:Hp):V->Value->Prop where
 |of{v:V}{t:Value}(h:kC K H v t):vN K H v t
 |tup{a:Addr}{xs:List V}(e:i4 K H a xs):vN K H (.ref a) (.type "tuple")
 |lst{a:Addr}{xs:List V}(e:dI K H a xs):vN K H (.ref a) (.type "list")
 |exc{a C:Addr}(e:H a=some (ua a C))(c:fL K C):vN K H (.ref a) (.ref C)
 |dic{a:Addr}{kvs:List (Key×V)}(e:Rd H a (.dK kvs)):vN K H (.ref a) (.type "dict")
noncomputable def gn:V->Value
 | .ref a=>.ref a
 | .ty n=>.type n
 |_=>.none
noncomputable def eP:V->Bool
 | .ref _=>true
 | .ty _=>true
 |_=>false
theorem vk{x:V}(h:eP x=true)(r:RelV x u):u=gn x:=by cases x<;>first|exact r|cases h
theorem qj:∀{xs:List V}{us:List Value},xs.all eP=true->Vals xs us->us=xs.map gn
 |_,_,_,.nil=>rfl
 |_,_,h,.cons r t=>by rw[Rt,QZ] at h;rw[RO,vk h.1 r,qj h.2 t]
theorem lS{pins:List (Addr×Obj)}{x:V}{t:Value}(I:Inv X pins Y H s)(w:RelV x u)(ty:vN X.K H x t):∃P,PySem.W.KitX X.K u t P/\P s.heap/\u≠.builtin "__main__.__loader__#opaque" := by
 cases ty with
 |tup e=>cases w;obtain⟨_,_,⟨o,h1,h2,_⟩,_⟩:=I.tuple e;exact⟨_,VU,⟨o,h1,h2⟩,λz=>nomatch z⟩
 |lst e=>cases w;obtain⟨_,_,⟨o,_,h1,h2,_⟩,_⟩:=I.list e;exact⟨_,UK,⟨o,h1,h2⟩,λz=>nomatch z⟩
 |dic e=>cases w;obtain⟨_,_,vs,_,o,es,g,h1,h2,_⟩:=vD I.hok e;exact⟨_,UL,⟨o,h1,h2.1⟩,λz=>nomatch z⟩
 |exc e c=>
  cases w;obtain⟨p,_⟩:=(I.hok _ _ e)
  exact⟨_,zi c,p,λz=>nomatch z⟩
 |of h=>
  cases h with
  |non=>cases w;exact⟨_,PySem.W.kitx_none,trivial,λz=>nomatch z⟩
  |bl y=>cases w;exact⟨_,PySem.W.kitx_bool,trivial,λz=>nomatch z⟩
  |int i=>obtain⟨_,rfl⟩:=w;exact⟨_,PySem.W.kitx_int,trivial,λz=>nomatch z⟩
  |str i=>obtain⟨_,rfl⟩:=w;exact⟨_,PySem.W.kitx_str,trivial,λz=>nomatch z⟩
  |flt i=>obtain⟨_,rfl⟩:=w;exact⟨_,PySem.W.kitx_float,trivial,λz=>nomatch z⟩
  |@lst a xs N=>
   cases w;obtain⟨_,_,n,_,h1⟩:=(I.hok a _ N)
   exact⟨_,UK,⟨_,h1,rfl⟩,λz=>nomatch z⟩
  |@frz a ob xs N=>
   cases w;obtain⟨_,_,_,n,_,h1⟩:=(I.hok a _ N)
   exact⟨_,UK,⟨_,h1,rfl⟩,λz=>nomatch z⟩
  |@tup a xs N=>
   cases w;obtain⟨_,_,_,o,h1,h2,_⟩:=(I.hok a _ N)
   exact⟨_,VU,⟨o,h1,h2⟩,λz=>nomatch z⟩
  |@dK a kvs N=>
   cases w;obtain⟨_,_,vs,_,o,es,g,h1,h2,_⟩:=(I.hok a _ N)
   exact⟨_,UL,⟨o,h1,h2.1⟩,λz=>nomatch z⟩
  |@dT a kvs N=>
   cases w;obtain⟨_,_,xs,_,o,es,g,h1,h2,_⟩:=(I.hok a _ N)
   exact⟨_,UL,⟨o,h1,h2.1⟩,λz=>nomatch z⟩
  |@ins a C dx fs N cl ha hn htk hm=>cases w;obtain⟨mA,O,_⟩:=kJ I.hok N;obtain⟨od,J,_⟩:=O.look;exact⟨_,PySem.W.kitx_own (cl.get _) cl.hd ha hn htk hm,J,λz=>nomatch z⟩
theorem rz:dE X (.builtin "isinstance") (λxs H Q=>∃x c t b,xs=[x,c]/\vN X.K H x t/\eP c=true/\RW X.K t (gn c)=some b/\Q (.bl b) H):=by intro pins s Y H xs us Q I r h;obtain⟨x,c,t,b,rfl,ty,hc,hk,q⟩:=h;obtain⟨u,v,rfl,C,D⟩:=vals2 r;rw[vk hc D];obtain⟨P,Z,p,l⟩:=lS I C ty;exact PySem.W.kia_one Z I.ph p hk l λtk=>⟨.bl b,H,I.tok tk,rfl,q⟩
theorem wo:dE X (.builtin "isinstance") (λxs H Q=>∃x a cs t b,xs=[x,.ref a]/\H a=some (.tup cs)/\cs.all eP=true/\vN X.K H x t/\SM X.K t (cs.map gn)=some b/\Q (.bl b) H):=by
 intro pins s Y H xs us Q I r h;obtain⟨x,a,cs,t,b,rfl,ha,hc,ty,hk,q⟩:=h;obtain⟨u,v,rfl,C,D⟩:=vals2 r;cases D;obtain⟨P,Z,p,l⟩:=lS I C ty;obtain⟨_,i,m,o,e,c,n,dd,_⟩:=(show cy X.prog X.w H s.heap a (.tup cs) from I.hok a _ ha)
 obtain⟨oc,od,A,osl⟩:=o;simp only at c dd;subst c dd;rw[qj hc m] at e;exact PySem.W.kia_tup Z I.ph p e hk l λtk=>⟨.bl b,H,I.tok tk,rfl,q⟩
end
theorem Iw:XX "len" = some (.builtin "len"):=by decide +kernel
theorem fj:XX "isinstance" = some (.builtin "isinstance"):=by decide +kernel
theorem JR:XX "abs" = some (.builtin "abs"):=by decide +kernel
theorem Jv:XX "max" = some (.builtin "max"):=by decide +kernel
theorem Hs:XX "min" = some (.builtin "min"):=by decide +kernel
theorem AZ:XX "any" = some (.builtin "any"):=by decide +kernel
theorem zv:XX "int" = some (.type "int"):=by decide +kernel
theorem BW:XX "bool" = some (.type "bool"):=by decide +kernel
theorem Jn:XX "str" = some (.type "str"):=by decide +kernel
theorem rD:XX "tuple" = some (.type "tuple"):=by decide +kernel
theorem kR:XX "list" = some (.type "list"):=by decide +kernel
theorem D2:XX "dict" = some (.type "dict"):=by decide +kernel
theorem Hl:XX "zip" = some (.type "zip"):=by decide +kernel
theorem pI:XX "enumerate" = some (.type "enumerate"):=by decide +kernel
theorem Ak{P:Program}:Passes (oT P w) X E0:=λ_ _ _ _ _ _ _ ⟨_,_,_,_,_,z⟩=>z.elim
structure oF(K:Q0)(x qual:Str)(st:Stmt)(f:Addr)(fd:X9)(dV:Value):Prop where
 ex:∃(oc:Value)(od:Option Addr)(kV doc pm:Value)(an:Option Addr)(cdv ct:Value)(osl:Array (Option Value)),
  fd=UI x qual (dM st) (eZ st) (aX st) dV kV doc pm an cdv ct/\K.lookup f=some ⟨oc,od,.func fd,osl⟩/\Uq K cdv qual=true
 kp:Sa K (.ref f)=true
section
variable{P:Program}{w:X1}{K:Q0}{mg:Str->Option Value}{base:Heap}{dV:Value}
theorem oF.ok{x qual:Str}{st:Stmt}{fd:X9}{ps:List Str}{k:Nat}{sp:Sp}(F:oF K x qual st f fd dV)(S:jB N ps (aX st))(len:∀vs H Q E,sp vs H Q E->vs.length=ps.length)
  (X:∀(cdv:Value)(A:X8)(outer:List Env)(s:Shared)(H:Hp)(vs:List V)(Q:VK)(E:XK),cF k (A.deeper (YI qual (aX st) s.heap.objs.size f cdv))->sp vs H Q E->
   ∃t,pZ (qM (oT P w) P w K mg base N qual (aX st) f cdv A outer s H E) (eZ st) t/\t { nx:=λ_ H'=>Q .non H',rt:=Q } (start N vs) H):c9 P w K mg base (oT P w) (k+1) f fd ps sp:=by
 obtain⟨oc,od,kV,doc,pm,an,cdv,ct,osl,rfl,Z,R⟩:=F.ex;exact Ll Z R S len λA outer s H vs Q E hr D=>X cdv A outer s H vs Q E hr D
end
@[irreducible] def QS (X:Cx) (s:Stmt) (t:TS):Prop:=PS X s t
@[irreducible] def QT (X:Cx) (s:Expr) (t:TT):Prop:=PT X s t
@[irreducible] def QA (X:Cx) (s:List Expr) (t:TA):Prop:=PA X s t
set_option autoImplicit true
set_option relaxedAutoImplicit true
variable{elt:Expr}
section
variable{prog:Program}{w:X1}{A:X8}{R:Zq->Shared->Prop}{s:Shared}
theorem pW{l iter:Expr}{ifs:List Expr}{it acc:Value}(I:Nat->Shared->Prop)
  (turn:∀n s,I n s->X0 (XZ prog w) A (pyNext it) (λr Z=>match r with
   |none=>R (.ok .next) Z
   | some v=>X0 (XZ prog w) A (YA l it v) (λ_ e=>X0 (XZ prog w) A (assign l env v) (λ_ T=>
     X0 (XZ prog w) A (forIn ifs true λc r=>if r=true then do let ok <- Zg c env (eval c env);pure (S0 ok) else pure (S0 r)) (λok U=>
      if ok=true then X0 (XZ prog w) A (eval elt env) (λx u=>X0 (XZ prog w) A (call (.builtin "list.append") [acc,x]) (λ_ H=>∃m,m<n/\I m H) (λ_ _=>False) u) (λ_ _=>False) U
      else ∃m,m<n/\I m U) (λ_ _=>False) T) (λ_ _=>False) e) (λ_ _=>False) Z) (λ_ _=>False) s)
  (n:Nat) (h:I n s):Yz (XZ prog w) A (.compLoop (.ListComp elt [⟨l,iter,ifs,0⟩] scope pos) 0 it acc env) R s:=by
 refine codeAny_loop rfl I (λn s p=>?_) n h;show X0 _ A ((compTurn (.ListComp elt [⟨l,iter,ifs,0⟩] scope pos) 0 it acc env).onRaise (λx=>do noteFrame x env;theTreesLotGoes x)) _ _ s;refine wpAny_noted ?_;rw[compTurn_list];refine XW (YH (XW (Yd (turn n s p) (λr Z P=>?_) λ_ _ h'=>h'.elim)));cases r with
 |none=>exact XY P
 |some v=>
  refine XW (Yd P (λ_ e V=>?_) λ_ _ h'=>h'.elim);refine XW (Yd V (λ_ T X=>XW (Yd X (λok U y=>?_) λ_ _ h'=>h'.elim)) λ_ _ h'=>h'.elim);cases ok with
  |false=>exact XY ⟨rfl,y⟩
  |true=>exact XW (XW (Yd y (λx u Y=>XW (Yd Y (λ_ H b=>XY (XY ⟨rfl,b⟩)) λ_ _ h'=>h'.elim)) λ_ _ h'=>h'.elim))
end
theorem my{env:Env}{f:Str×NameKind->List (Str×Addr)->Sem (ForInStep (List (Str×Addr)))}
  (hf:∀x cs,f x cs=if (x.2==S1)=true then (do let c <- cellOf env x.1;pure (S0 ((x.1,c)::cs))) else pure (S0 cs)):
  ∀(l:List (Str×NameKind))(cs:List (Str×Addr)),(∀x∈l,x.2=.free->∃c,env.cells.lookup x.1=some c)->
   ∃cl,forIn l cs f=(pure cl:Sem _)/\(∀x c,cl.lookup x=some c->cs.lookup x=some c\/env.cells.lookup x=some c) /\
    (∀x,(∃c,cs.lookup x=some c)\/(x,S1)∈l->∃c,cl.lookup x=some c)
 |[],cs,_=>⟨cs,rfl,λ_ _ h=>.inl h,λx h=>h.elim id (λz=>by cases z)⟩
 |(n,k)::l,cs,h=>by
  simp only[WG,hf];by_cases hk:k=.free
  .subst hk;obtain⟨c,hc⟩:=h (n,.free) Rg rfl;obtain⟨cl,e,h1,h2⟩:=my hf l ((n,c)::cs) λx hx=>h x (Q5 _ hx);refine⟨cl,?_,λx v q=>?_,λx q=>h2 x ?_⟩
   .have e1:cellOf env n=pure c:=by unfold cellOf;rw[hc]
    simp only[beq_self_eq_true,if_true,e1,pure_bind];exact e
   .rcases h1 x v q with z|z
    .dsimp only [Rk] at z;by_cases hx:(x==n)=true
     .rw[hx] at z;have:x=n:=eq_of_beq hx;subst this;exact .inr (by rw[hc];exact z)
     .rw[Wi.mpr hx] at z;exact .inl z
    .exact .inr z
   .rcases q with ⟨v,z⟩|z
    .left;dsimp only [Rk];cases x==n with
     |true=>exact⟨c,rfl⟩
     |false=>exact⟨v,z⟩
    .rcases Rc.mp z with z|z
     .left;cases z;simp only[Rk,beq_self_eq_true];exact⟨c,rfl⟩
     .exact .inr z
  .obtain⟨cl,e,h1,h2⟩:=my hf l cs λx hx=>h x (Q5 _ hx);refine⟨cl,?_,h1,λx q=>h2 x ?_⟩
   .have e1:((n,k).2==S1)=false:=by cases k<;>first|rfl|exact absurd rfl hk
    rw[e1];exact e
   .rcases q with z|z
    .exact .inl z
    .rcases Rc.mp z with z|z
     .cases z;exact absurd rfl hk
     .exact .inr z
theorem rX(h:∀x∈scope.names,x.2=.free->∃c,env.cells.lookup x.1=some c):
  ∃cl,closureFor scope env=pure cl/\(∀x c,cl.lookup x=some c->env.cells.lookup x=some c)/\(∀x,(x,S1)∈scope.names->∃c,cl.lookup x=some c):=by
 obtain⟨cl,e,h1,h2⟩:=my (λ_ _=>rfl) scope.names [] h;refine⟨cl,?_,λx c q=>(h1 x c q).elim (λz=>by cases z) id,λx q=>h2 x (.inr q)⟩;exact(Zz (λz:Sem (List (Str×Addr))=>z >>= λr=>pure r) e).trans (by rw[pure_bind])
section
variable{env:Env}
noncomputable def rH(env:Env):Str×NameKind->Str×NameKind:=λ(n,k)=>if (k==.free&&env.scope.kind==.function&&env.kindOf n==some .cell) then (n,.cell) else (n,k)
theorem qS(p:Str×NameKind):(rH env p).1=p.1:=by obtain⟨n,k⟩:=p;show (if _ then _ else _:Str×NameKind).1=n;split<;>rfl
theorem qP(p:Str×NameKind):(rH env p).2=p.2\/(p.2=.free/\(rH env p).2=.cell):=by
 obtain⟨n,k⟩:=p;show (if _ then _ else _:Str×NameKind).2=k\/_;split
 .rename_i h;right;rw[QZ,QZ] at h;refine⟨eq_of_beq h.1.1,?_⟩;show (if _ then _ else _:Str×NameKind).2=_;rw[Zv (by rw[QZ,QZ];exact h)]
 .left;rfl
theorem du:∀{names:List (Str×NameKind)}{x:Str}{k:NameKind},names.lookup x=some k->(names.map (rH env)).lookup x=some k\/(k=.free/\(names.map (rH env)).lookup x=some .cell)
 |[],_,_,h=>by cases h
 |p::r,x,k,h=>by
  rw[RO];obtain⟨n,k0⟩:=p;have e1:=qS (env:=env) (n,k0);have e2:=qP (env:=env) (n,k0);generalize rH env (n,k0)=q at e1 e2 ⊢;obtain⟨Q,v⟩:=q;subst e1;simp only[Rk] at h ⊢;cases hx:x==Q with
  |true=>
   rw[hx] at h;cases h;rcases e2 with e2|⟨e2,L⟩
   .left;exact Zz some e2
   .right;exact⟨e2,Zz some L⟩
  |false=>rw[hx] at h;exact du h
theorem cR:∀{names:List (Str×NameKind)}{x:Str}{k:NameKind},(names.map (rH env)).lookup x=some k->names.lookup x=some k\/(k=.cell/\names.lookup x=some .free)
 |[],_,_,h=>by cases h
 |p::r,x,k,h=>by
  rw[RO] at h;obtain⟨n,k0⟩:=p;have e1:=qS (env:=env) (n,k0);have e2:=qP (env:=env) (n,k0);generalize rH env (n,k0)=q at e1 e2 h;obtain⟨Q,v⟩:=q;subst e1;simp only[Rk] at h ⊢;cases hx:x==Q with
  |true=>
   rw[hx] at h;cases h;rcases e2 with e2|⟨e2,L⟩
   .left;exact Zz some e2.symm
   .right;exact⟨L,Zz some e2⟩
  |false=>rw[hx] at h;exact cR h
theorem ib{sc:Scope}{x:Str}(h:sc.names.lookup x=some .local):(relabel sc env).names.lookup x=some .local:=by
 rcases du h with z|⟨z,_⟩
 .exact z
 .cases z
theorem Aa{sc:Scope}{x:Str}(h:sc.names.lookup x=some .globalImplicit):(relabel sc env).names.lookup x=some .globalImplicit:=by
 rcases du h with z|⟨z,_⟩
 .exact z
 .cases z
theorem rN{sc:Scope}{x:Str}(h:sc.names.lookup x=some .free):mL (relabel sc env) x:=by
 rcases du h with z|⟨_,z⟩
 .exact .inr (.inr z)
 .exact .inr (.inl z)
end
structure fN(N0 N:List Str)(k:Nat)(sc de:Scope):Prop where
 kind:sc.kind=.function
 cell:∀y∈sc.names,y.2=.cell->sc.names.lookup y.1=some .cell
 names:∀y∈sc.names,y.2=.local->sc.names.lookup y.1=some .local
 len:N.length=N0.length+k
 nd:N.Nodup
 old:∀p∈(N.take N0.length).zip N0,p.1=p.2\/sc.names.lookup p.1=none
 nl:∀n∈N.take N0.length,sc.names.lookup n≠some .local/\sc.names.lookup n≠some .cell
 fr:∀y∈sc.names,y.2=.free->de.names.lookup y.1=some .cell\/de.names.lookup y.1=some .free
noncomputable def iV(X:Cx)(N:List Str)(sc:Scope)(cl:List (Str×Addr))(C:Addr)(s:Shared)(H:Hp)(ex:List Addr):Cx where
 prog:=X.prog
 w:=X.w
 K:=X.K
 mg:=X.mg
 base:=X.base
 A:=X.A
 N:=N
 s₀:=s
 H₀:=H
 env:=compEnvC sc cl C X.env
 outer:=X.stack
 stack:=X.stack
 ex:=ex
 fn:=λx=>sc.names.lookup x==some .cell
 calm:=X.calm
 pn:=[]
 xe:=λ_ _=>False
theorem mem_of_lookupK{names:List (Str×NameKind)}{x:Str}{k:NameKind}(h:names.lookup x=some k):(x,k)∈names:=RE h
theorem fw:∀(ns:List (Str×NameKind))(n:Nat)(acc:List (Str×Addr)),Yn n ns acc=Yn n ns []++acc
 |[],_,_=>rfl
 |(x,k)::r,n,acc=>by
  unfold Yn;split
  .simp only[fw r (n+1) ((x,n)::acc),fw r (n+1) [(x,n)],Q6];rfl
  .exact fw r n acc
theorem ip:∀(ns:List (Str×NameKind))(n:Nat)(x:Str),(∃c,(x,c)∈Yn n ns [])↔(x,Vd)∈ns
 |[],_,_=>⟨λ⟨_,h⟩=>(by cases h),λh=>(by cases h)⟩
 |(y,k)::r,n,x=>by
  unfold Yn;split
  .rename_i hk;rw[eq_of_beq hk,fw];refine⟨λ⟨c,h⟩=>?_,λh=>?_⟩
   .rcases Rf.mp h with h|h
    .exact Q5 _ ((ip r (n+1) x).mp ⟨c,h⟩)
    .cases RC.mp h;exact Rg
   .rcases Rc.mp h with h|h
    .cases h;exact⟨n,Q2 _ (RC.mpr rfl)⟩
    .obtain⟨c,h⟩:=(ip r (n+1) x).mpr h;exact⟨c,Q8 _ h⟩
  .rename_i hk;refine(ip r n x).trans ⟨λh=>Q5 _ h,λh=>?_⟩;rcases Rc.mp h with h|h
   .cases h;exact absurd rfl hk
   .exact h
theorem iN{α:Type}:∀{l:List (Str×α)}{x:Str}{c:α},(x,c)∈l->∃d,l.lookup x=some d
 |(k,v)::r,x,c,h=>by
  simp only[Rk];cases D:x==k with
  |true=>exact⟨v,rfl⟩
  |false=>
   rcases Rc.mp h with h|h
   .cases h;rw[beq_self_eq_true] at D;cases D
   .exact iN h
structure DP(X:Cx)(sc:Scope)(cl:List (Str×Addr))(C:Addr)(h1:Heap):Prop where
 a:∀x c,cl.lookup x=some c->(sc.names.lookup x≠some .cell/\X.env.cells.lookup x=some c)\/(sc.names.lookup x=some .cell/\C<c/\h1.IsCell c none)
 b:∀x,sc.names.lookup x=some .free->∃c,cl.lookup x=some c
 c:∀x,sc.names.lookup x=some .cell->∃c,cl.lookup x=some c
 d:∀x y c,cl.lookup x=some c->cl.lookup y=some c->x=y
theorem DP.of{sc:Scope}{cl:List (Str×Addr)}{h0:Heap}(hc:∀y∈sc.names,y.2=.cell->sc.names.lookup y.1=some .cell)(inj:∀x y c,X.env.cells.lookup x=some c->X.env.cells.lookup y=some c->x=y)
  (lt:∀x c,X.env.cells.lookup x=some c->c<C)(h1:∀x c,cl.lookup x=some c->X.env.cells.lookup x=some c)(h2:∀x,(x,S1)∈sc.names->∃c,cl.lookup x=some c)(hs:h0.objs.size=C+1):
  DP X sc (Yn (C+1) sc.names cl) C (Zh h0 sc.names):=by
 have ok:=cellsFrom_ok sc.names h0 (C+1) [] ⟨λ_ _ hm=>(nomatch hm),Vm⟩ (by rw[hs];exact Q9 _);rw[hs] at ok;rw[fw];have mem:=ip sc.names (C+1);generalize Yn (C+1) sc.names []=ns at ok mem;have key:∀x c,(ns++cl).lookup x=some c->(ns.lookup x=some c/\sc.names.lookup x=some .cell)\/(sc.names.lookup x≠some .cell/\cl.lookup x=some c):=λx c e=>by
  rw[RI] at e;cases z:ns.lookup x with
  |some d=>rw[z] at e;cases e;exact .inl ⟨rfl,hc _ ((mem x).mp ⟨_,RE z⟩) rfl⟩
  |none=>rw[z] at e;refine .inr ⟨λk=>?_,e⟩;obtain⟨d,hd⟩:=(mem x).mpr (RE k);obtain⟨d',q⟩:=iN hd;rw[z] at q;cases q
 refine⟨λx c e=>?_,λx e=>?_,λx e=>?_,λx y c e f=>?_⟩
 .rcases key x c e with ⟨z,k⟩|⟨k,z⟩
  .exact .inr ⟨k,(ok.empty _ _ (RE z)).2,(ok.empty _ _ (RE z)).1⟩
  .exact .inl ⟨k,h1 _ _ z⟩
 .obtain⟨c,z⟩:=h2 x (RE e);rw[RI];cases ns.lookup x with
  |some d=>exact⟨d,rfl⟩
  |none=>exact⟨c,z⟩
 .obtain⟨d,hd⟩:=(mem x).mpr (RE e);obtain⟨d',q⟩:=iN hd;rw[RI,q];exact⟨d',rfl⟩
 .rcases key x c e with ⟨z,k⟩|⟨k,z⟩<;>rcases key y c f with ⟨w,l⟩|⟨l,w⟩
  .exact PySem.name_of_addr ok.apart (RE z) (RE w)
  .have:=(ok.empty _ _ (RE z)).2;exact absurd (SJ (lt _ _ (h1 _ _ w)) this) (RB _)
  .have:=(ok.empty _ _ (RE w)).2;exact absurd (SJ (lt _ _ (h1 _ _ z)) this) (RB _)
  .exact inj _ _ _ (h1 _ _ z) (h1 _ _ w)
theorem v9{M:Model}{A:X8}{globals:Addr}{e:List (Str×Addr)}{qual:Str}{func:Option Addr}{code:Value}{outer:Env}{builtins:Addr}{Q:Env->Shared->Prop}
  (I:Q (newEnv scope s.heap.objs.size globals (Yn (s.heap.objs.size+1) scope.names e) qual func code (some outer) builtins) { s with heap:=Zh (s.heap.push { cls:=.type "dict",data:=.dict #[] }) scope.names }):
  X0 M A (Y1 scope globals e [] qual func code (some outer) builtins) Q E s:=by
 simp only[Y1,Option.isSome_some,if_true];refine XW (wpAny_alloc ?_);refine XW (wpAny_layCells _ (λname kind cells=>by cases n:kind==Vd<;>simp[n]) _ _ _ _ ?_);rw[show ({ s with heap:=s.heap.push { cls:=.type "dict",data:=.dict #[] } }:Shared).heap.objs.size=s.heap.objs.size+1 from SV ..];refine XW ?_;rw[List.forIn_nil];exact XY (XY I)
variable{j:St}
section
variable{X:Cx}{pins:List (Addr×Obj)}{Y:St}{H:Hp}{s:Shared}{N:List Str}{k:Nat}{sc:Scope}{cl:List (Str×Addr)}{C:Addr}{fp:List Addr}{h1:Heap}{tk:Nat}
theorem xY(I:Inv X pins Y H s)(S:fN X.N N k sc X.env.scope)(y:DP X sc cl C h1)(t:s.heap.objs.size<=C)(hf:∀b∈fp,mP X pins H b)(j:∀b∈fp,b<s.heap.objs.size)
  (hk:∀b o,s.heap.get? b=some o->h1.get? b=some o)(hn:∃m,h1.Ns C m):
  Inv (iV X N sc cl C s H fp) (X.pn++pins) (Y++Q3 k none) H { s with heap:=h1,toks:=tk }:=by
 have E:∀b o,s.heap.get? b=some o->b≠C:=λb o e=>RH (Rh (Rq e) t);have kind:∀x,((iV X N sc cl C s H fp).env.kindOf x=some .cell\/(iV X N sc cl C s H fp).env.kindOf x=some .free)->sc.names.lookup x=some .free\/sc.names.lookup x=some .cell:=λx hx=>by
  rcases hx with hx|hx
  .rcases cR hx with z|⟨_,z⟩
   .exact .inr z
   .exact .inl z
  .rcases cR hx with z|⟨z,_⟩
   .exact .inl z
   .cases z
 have above:∀x c,cl.lookup x=some c->(X.env.cells.lookup x=some c)\/(C<c/\h1.IsCell c none):=λx c e=>by
  rcases y.a x c e with ⟨_,z⟩|⟨_,z⟩
  .exact .inl z
  .exact .inr z
 refine⟨⟨I.ok.mod,S.kind,I.ok.glob,I.ok.blt,t,y.d,λx hx=>(kind x hx).elim (y.b x) (y.c x),λx c z e=>?_,
  I.ok.hd,I.ok.frames,.inl rfl,λb D=>⟨RH (Rh (j b D) t),λx c e=>(above x c e).elim (λz=>(hf b D).2.2.2.2.1 x c z) λz=>Tj (SJ (Rh (j b D) t) z.1)⟩,I.bs,RG I.ok.bsz I.sz,λb o e D=>?_,λb D F=>?_,I.stack,I.pP⟩,
  rfl,I.bare,Un.kept hk,?_,λx c e=>?_,I.hok.fresh t,λx c e=>(above x c e).elim (λz=>I.freeC x c z) λz=>I.hok.fresh (RG t (Ru z.1)),λp hp=>?_,I.hok.kept hk,?_⟩
 .rcases y.a x c e with ⟨k,_⟩|⟨_,k,_⟩
  .exact absurd (eq_of_beq z) k
  .exact RG t (Ru k)
 .rcases(hf b D).2.2.2.1 with z|z
  .exact I.ok.noex b o e z
  .exact absurd (Rh (Rq e) (RG I.ok.bsz z)) (RB _)
 .rcases Rc.mp (I.j4 b F) with z|z
  .exact(hf b D).2.1 z
  .exact(hf b D).2.2.1 z
 .obtain⟨m,hn⟩:=hn;refine⟨m,hn,λi x v e1 e2 L=>?_⟩;have hi:i<Y.length:=by
   by_cases hi:i<Y.length
   .exact hi
   .rw[RT (by exact Us.mp ‹_›),VC] at e2;split at e2<;>cases e2
  rw[R9 hi] at e2;have h:i<X.N.length:=by rw[<-I.len];exact hi
  have q:(N.take X.N.length)[i]?=some x:=by rw[Vx h];exact e1
  have V:=S.nl x (R4 q);have A:sc.names.lookup x=some .free:=by
   rcases L with z|z|z
   .rcases cR z with z|⟨z,_⟩
    .exact absurd z V.1
    .cases z
   .exact(kind x (.inl z)).elim id λk=>absurd k V.2
   .exact(kind x (.inr z)).elim id λk=>absurd k V.2
  have P:X.N[i]?=some x:=by
   have hz:((N.take X.N.length).zip X.N)[i]?=some (x,X.N[i]):=by rw[S4];exact⟨q,Ry h⟩
   rcases S.old _ (R4 hz) with z|z
   .have z:x=X.N[i]:=z;simp only[Ry h,<-z]
   .have z:=z;rw[A] at z;cases z
  obtain⟨m0,R,G⟩:=I.loc;have T:mL X.env.scope x:=by
   rcases S.fr _ (mem_of_lookupK A) rfl with z|z
   .exact .inr (.inl z)
   .exact .inr (.inr z)
  obtain⟨u,r,l⟩:=G i x v P e2 T;refine⟨u,r,.inr ⟨?_,?_⟩⟩
  .rcases rN A with z|z|z
   .rcases cR z with z|⟨z,_⟩
    .rw[A] at z;cases z
    .cases z
   .exact .inl z
   .exact .inr z
  .rcases l with ⟨z,_⟩|⟨_,c,Z,g⟩
   .have z:X.env.scope.names.lookup x=some .local:=z;rcases S.fr _ (mem_of_lookupK A) rfl with f|f
    .have f:=f;rw [z] at f; cases f
    .have f:=f;rw [z] at f; cases f
   .obtain ⟨Q,w⟩:=y.b x A;have:X.env.cells.lookup x=some Q:=by
     rcases y.a _ _ w with ⟨_,k⟩|⟨k,_⟩
     .exact k
     .rw[A] at k;cases k
    rw[Z] at this;cases this;obtain⟨o,ho,hd⟩:=g;exact⟨c,w,o,hk _ _ ho,hd⟩
 .rcases above x c e with z|z
  .obtain⟨v,o,ho,hd⟩:=I.cell x c z;exact⟨v,o,hk _ _ ho,hd⟩
  .exact⟨none,z.2⟩
 .have hp:=hp;obtain⟨e,n,ne,nf,d⟩:=I.pin p hp;refine⟨hk _ _ e,n,E _ _ e,λD=>?_,d⟩;rcases Rc.mp (I.j4 _ D) with z|z
  .exact ne z
  .exact nf z
 .show (Y++Q3 k none).length=N.length;simp only[Rn,Tv,I.len,S.len]
theorem zW{D:Addr}{l:List Value}(I:Inv X pins Y H s)(a:Inv (iV X N sc cl C s H fp) (X.pn++pins) j H' s')(p:s.heap.objs.size<=D)(x:H' D=none)
  (pl:s'.heap.PlainList D l.toArray)(m:Vals ys l)(hl:ys.length<=sizeLine)(hf:∀b∈fp,mP X pins H b):Inv X pins Y (upd H' D (.lst ys)) s':=by
 obtain⟨n,A⟩:=pl;have u:=a.base;have ne:∀b o,s.heap.get? b=some o->b≠D:=λb o e=>RH (Rh (Rq e) p);have r:∀b o,H' b=some o->b≠D:=λb o e=>aH e x;refine I.EH a.os ⟨u.keep,u.slot,λb o e n nx=>?_,u.there,λb xs e=>?_,λb o v e=>?_,λb ps e=>?_⟩ (λb o e=>?_) a.bare (ch:=fp) λb d=>?_
 .rw[aj (ne b o e)];exact u.free b o e n nx
 .have:=u.tups b xs e;rw[aj (r _ _ this)];exact this
 .have:=u.frzs b o v e;rw[aj (r _ _ this)];exact this
 .obtain⟨more,this⟩:=u.tbls b ps e;exact⟨more,by rw[aj (r _ _ this)];exact this⟩
 .by_cases d:b=D
  .subst d;rw[aF] at e;cases e;exact⟨hl,l,n,m,A⟩
  .rw[aj d] at e;exact(a.hok b o e).gD (λ_ _ _ q=>q) (λc q=>by rw[aj (r _ _ q)];exact q) λc xs q=>by rw[aj (r _ _ q)];exact q
 .obtain⟨k,y,F,V,t,f⟩:=hf b d;exact⟨V,y,t,f⟩
end
theorem Inv.tU(I:Inv X pins Y H s){a:Addr}(h:s.heap.objs.size<=a):a∉dG X.stack:=λd=>by
 rcases Rc.mp (I.j4 a d) with z|z
 .exact absurd (Rh I.lt (by simp only[<-z];exact h)) (RB _)
 .exact I.NI h z
def PF(X:Cx)(ifs:List Expr)(t:TT):Prop:=∀(pins:List (Addr×Obj))(s:Shared)(Y:St)(H:Hp)(Q:Bool->Hp->Prop),Inv X pins Y H s->t Y H Q->
 X0 (XZ X.prog X.w) X.A (forIn ifs true λc r=>if r=true then do let ok <- Zg c X.env (eval c X.env);pure (S0 ok) else pure (S0 r)) (TP X pins Y Q) X.xe s
noncomputable def Kz:TT:=λ_ H Q=>Q true H
theorem Hg:PF X [] Kz:=λ_ _ _ H _ I h=>wpAny_tests_nil ⟨H,I,h⟩
theorem IQ{c:Expr}{t:TT}(hc:PT X c t):PF X [c] t:=λpins s Y H Q I h=>wpAny_tests_one (hc pins s Y H Q I h)
def yR(J:It)(g:TG)(u:TT)(e:TE)(Q:VK)(Y:St)(H:Hp):Prop:=∃W:Nat->Nat->St->List V->Hp->Prop,(∃m,W 0 m Y [] H)/\∀i m Y ys H,W i m Y ys H->ys.length<=sizeLine /\
  ((J.stop i H/\∀r,H r=none->Q (.ref r) (upd H r (.lst ys))) \/
   (J.go i H/\∃N:St->List V->Hp->Prop,(∀j s H',N j s H'->∃o,o<m/\W (i+1) o j s H') /\
     ∀x H',J.yld i H x H'->g x Y H' λL P=>u L P λb p=>if b=true then e L p λy n=>N L (ys++[y]) n else N L ys p))
noncomputable def zm(n:Nat)(I:TI)(g:TG)(u:TT)(e:TE):TE:=λY H Q=>I Y H λJ S=>yR J g u e Q (Y++Q3 n none) S
section
variable{X:Cx}{pins:List (Addr×Obj)}{Y:St}{H:Hp}{s:Shared}{N:List Str}{k:Nat}{sc:Scope}{cl:List (Str×Addr)}{C:Addr}{fp:List Addr}{J:It}{it:Addr}{tn:Nat->Heap->Prop}
 {tg elt iter:Expr} {ifs:List Expr} {pos:Pos} {g:TG} {tt:TT} {te:TE} {Q:VK} {E:Value->Shared->Prop} {RR:Value->Addr->Zq->Shared->Prop}
theorem mD(hc:X.calm=true)(S:fN X.N N k sc X.env.scope)(hcl1:∀x c,cl.lookup x=some c->X.env.cells.lookup x=some c)
  (hcl2:∀x,(x,S1)∈sc.names->∃c,cl.lookup x=some c)(I:Inv X pins Y H s)(T:Turn X.prog X.w X.K tg J fp it tn)(st:tn 0 s.heap)(hf:∀b∈fp,mP X pins H b)
  (B:yR J g tt te Q (Y++Q3 k none) H)
  (hg:∀cl C,PG (iV X N sc cl C s H fp) tg g)(ht:∀cl C,PF (iV X N sc cl C s H fp) ifs tt)(he:∀cl C,PE (iV X N sc cl C s H fp) elt te)
  (hRR:∀D C s' H' ys,Inv X pins Y (upd H' D (.lst ys)) s'->s.heap.objs.size<=C->upd H' D (.lst ys) C=none->(∃m,s'.heap.Ns C m)->Q (.ref D) (upd H' D (.lst ys))->RR (.ref D) C (.ok .next) s'):
  X0 (XZ X.prog X.w) X.A (newList []) (λacc U=>X0 (XZ X.prog X.w) X.A (Y1 sc X.env.globals cl [] X.env.qual none .none (some X.env)) (λcenv s₄=>Yz (XZ X.prog X.w) X.A (.compStart (.ListComp elt [⟨tg,iter,ifs,0⟩] sc pos) 0 (.ref it) acc { cenv with scope:=relabel sc X.env }) (RR acc cenv.locals) s₄) E U) E s:=by
 refine Yk (v9 ?_);generalize hH2:s.heap.push { cls:=.type "list",dict:=none,data:=.seq ([]:List Value).toArray }=H2;have hC:H2.objs.size=s.heap.objs.size+1:=by rw[<-hH2,SV]
 have L:s.heap.objs.size≠H2.objs.size:=by rw[hC];exact RH (RM _)
 have t:s.heap.objs.size<=H2.objs.size:=by simp only[hC];exact Uz _
 have below:∀b,b<s.heap.objs.size->b≠H2.objs.size/\b≠s.heap.objs.size:=λb f=>⟨by rw[hC];exact RH (Rw f),RH f⟩
 have G:=DP.of (X:=X) (cl:=cl) (C:=H2.objs.size) (h0:=H2.push { cls:=.type "dict",data:=.dict #[] }) S.cell I.ok.inj (λx c e=>let ⟨v,q⟩:=I.cell x c e;Rh q.lt t) hcl1 hcl2 (SV ..);have O:∀b o,H2.get? b=some o->(Zh (H2.push { cls:=.type "dict",data:=.dict #[] }) sc.names).get? b=some o:=λb o e=>pushCells_keeps _ _ b o (Rm _ e);have R:=(Heap.Ns.new H2 (.type "dict")).keeps (pushCells_keeps sc.names _);generalize Zh (H2.push { cls:=.type "dict",data:=.dict #[] }) sc.names=P at G O R ⊢;generalize Yn (H2.objs.size+1) sc.names cl=clv at G ⊢;have old:∀b o,s.heap.get? b=some o->P.get? b=some o:=λb o e=>O b o (hH2▸Rm _ e);have hacc:P.PlainList s.heap.objs.size #[]:=⟨_,O _ _ (hH2▸RF _ rfl)⟩
 have F:∀b∈fp,b<s.heap.objs.size:=λb f=>let ⟨o,e,_⟩:=T.obj 0 _ st b f;Rq e
 have st1:tn 0 P:=T.keep _ _ _ st λb f o e=>old b o e;have I0:=xY (tk:=s.toks) I S G t hf F old ⟨_,R⟩;generalize H2.objs.size=C at R G hC L t below I0 ⊢;generalize hD:s.heap.objs.size=D at hC L t below hacc F ⊢;have h:s.heap.objs.size<=D:=by rw[hD];exact Q9 _
 have fpok:∀{H':Hp}{o:Obj},(∀b∈fp,H' b=none)->∀b∈fp,mP (iV X N sc clv C s H fp) ((X.pn++pins)++[(D,o)]) H' b:=λ{H' o} hn b f=>by
  obtain⟨f0,f1,f2,f3,f4,f5⟩:=hf b f;refine⟨hn b f,(below b (F b f)).1,λz=>?_,.inl f,λx c e=>(G.a x c e).elim (λz=>f4 x c z.2) λz=>Tj (SJ (by rw[hC];exact Rw (F b f)) z.2.1),λp hp=>?_⟩
  .rcases Rc.mp (I.j4 b z) with z|z
   .exact f1 z
   .exact f2 z
  .have hp:p∈(X.pn++pins)++[(D,o)]:=hp;rcases Rf.mp hp with z|z
   .exact f5 p z
   .have:p=(D,o):=by simpa using z
    rw[this];exact R7 (below b (F b f)).2
 have loop:∀U:Shared,U={ s with heap:=P }->
   Yz (XZ X.prog X.w) X.A (.compLoop (.ListComp elt [⟨tg,iter,ifs,0⟩] sc pos) 0 (.ref it) (.ref D) (compEnvC sc clv C X.env)) (RR (.ref D) C) U:=by
  rintro U rfl;obtain⟨W,⟨m0,w0⟩,step⟩:=B;refine pW (λn s'=>∃i j H' ys l,Inv (iV X N sc clv C s H fp) (X.pn++pins) j H' s'/\tn i s'.heap/\(∀b∈fp,H' b=none)/\H' D=none/\s'.heap.PlainList D (l:List Value).toArray/\Vals ys l/\W i n j ys H') ?_ m0
   ⟨0,_,H,[],[],I0,st1,λb f=>(hf b f).1,I.hok.fresh h,hacc,.nil,w0⟩
  rintro n s3 ⟨i,V,H3,ys,l,I3,st3,fr3,hD3,⟨nn,pl3⟩,rv3,w3⟩;obtain⟨hl,cs⟩:=step i n V ys H3 w3;have pinD:∀{j:St}{H':Hp}{s':Shared}{o:Obj},Inv (iV X N sc clv C s H fp) (X.pn++pins) j H' s'->H' D=none->s'.heap.get? D=some o->(∀v,o.data≠.cell v)->Inv (iV X N sc clv C s H fp) ((X.pn++pins)++[(D,o)]) j H' s':=λ{j H' s' o} I' hn e d=>
   I'.oJ λp hp=>(Rf.mp hp).elim (λz=>I'.pin p (Q2 _ z)) λz=>by
    have:p=(D,o):=by simpa using z
    subst this;exact⟨e,hn,L,λz=>I.tU h z,d⟩
  have I3p:=pinD I3 hD3 pl3 λv z=>by cases z
  rcases cs with ⟨stop,q⟩|⟨go,NN,hN,nx⟩
  .refine cx (T.done (iV X N sc clv C s H fp) rfl rfl rfl hc i _ s3 V H3 _ I3p (fpok fr3) st3 stop) λr s4 ⟨hr,I4⟩=>?_;subst hr;have d4:=I4.pin (D,_) (Q2 _ (Q2 _ (RC.mpr rfl)));have I5:=zW I I4.dY h d4.2.1 ⟨nn,d4.1⟩ rv3 hl hf;refine hRR D C s4 H3 ys I5 (by rw[hD];exact t) ?_ (let ⟨m,hm,_⟩:=I4.loc;⟨m,hm⟩) (q D d4.2.1);rw[aj (R7 L)];exact I4.free
  .refine cx (T.item (iV X N sc clv C s H fp) rfl rfl rfl hc i _ s3 V H3 _ I3p (fpok fr3) st3 go) λr s4 ⟨u,hr,h4⟩=>?_;subst hr;refine cx h4 λ_ s5 ⟨x,H5,I5,r5,y5,st5,fr5⟩=>?_;have I5':=I5.pinned (fpok fr5) (T.obj _ _ st5);refine cx (hg clv C _ s5 V H5 x u _ I5' r5 (nx x H5 y5)) λ_ s6 ⟨Z,H6,I6,q6⟩=>?_;refine cx (ht clv C _ s6 Z H6 _ I6 q6) λb s7 ⟨H7,I7,q7⟩=>?_;have itK:∀{s8:Shared}{H8:Hp},Inv (iV X N sc clv C s H fp) (((X.pn++pins)++[(D,({ cls:=.type "list",data:=.seq l.toArray nn }:Obj))])++lj fp s5.heap) Z H8 s8->tn (i+1) s8.heap/\∀b∈fp,H8 b=none:=λ{s8 H8} I8=>by refine⟨T.keep _ _ _ st5 λb f o e=>(I8.pin (b,o) (Q2 _ (Q2 _ (fG f e)))).1,λb f=>?_⟩;obtain⟨o,e,d⟩:=T.obj _ _ st5 b f;exact(I8.pin (b,o) (Q2 _ (Q2 _ (fG f e)))).2.1
   cases b with
   |false=>
    have q7:NN Z ys H7:=by simpa using q7
    obtain⟨m',hm,w7⟩:=hN _ _ _ q7;obtain⟨t7,f7⟩:=itK I7;have d7:=I7.pin (D,_) (Q2 _ (Q8 _ (Q2 _ (RC.mpr rfl))));show ∃m,m<n/\_;exact⟨m',hm,i+1,Z,H7,ys,l,I7.dY.dY,t7,f7,d7.2.1,⟨nn,d7.1⟩,rv3,w7⟩
   |true=>
    have q7:te Z H7 λy H4=>NN Z (ys++[y]) H4:=by simpa using q7
    show X0 _ _ _ _ _ _;refine cx (he clv C _ s7 Z H7 _ I7 q7) λyv s8 ⟨y,H8,I8,r8,q8⟩=>?_;obtain⟨m',hm,w9⟩:=hN _ _ _ q8;obtain⟨t8,f8⟩:=itK I8;have d8:=I8.pin (D,_) (Q2 _ (Q8 _ (Q2 _ (RC.mpr rfl))));refine wpAny_list_append_plain (hsz:=by simp only[Ri,<-rv3.length];exact hl) ⟨nn,d8.1⟩ λh9 pl9 sb9=>?_;have I9:Inv (iV X N sc clv C s H fp) (X.pn++pins) Z H8 { s8 with heap:=h9 }:=I8.dY.dY.turned (t':=s8.toks) (it:=D) (λb o f e=>(sb9.2 b f).trans e) d8.2.1 L (.inr h) (λx c e z=>?_) (λp hp z=>?_)
    .refine⟨m',hm,i+1,Z,H8,ys++[y],l++[yv],I9,T.keep _ _ _ t8 λb f o e=>(sb9.2 b (below b (F b f)).2).trans e,f8,d8.2.1,?_,rv3.append (.cons r8 .nil),w9⟩;rw[<-List.push_toArray];exact pl9
    .rcases G.a x c e with ⟨_,k⟩|⟨_,k,_⟩
     .obtain⟨v,q⟩:=I.cell x c k;exact absurd (Rh q.lt (by rw[z];exact h)) (RB _)
     .simp only[z,hC] at k;exact absurd k (Us.mpr (Uz _))
    .have hp:p∈X.pn++pins:=hp;exact absurd (Rh (Rq (I.pin p hp).1) (by rw[z];exact h)) (RB _)
 exact codeAny_compStart_list (loop _ rfl) (T.self _ _ _ _ _ st1 (loop _ rfl))
end
variable{px:Pos}
section
variable{X:Cx}{N:List Str}{k:Nat}{sc:Scope}{tg elt iter:Expr}{ifs:List Expr}{pos:Pos}{g:TG}{tt:TT}{te:TE}{wi:TI}
theorem lD(I:Inv X pins Y H s)(S:fN X.N N k sc X.env.scope):
  ∃cl,closureFor sc X.env=pure cl/\(∀x c,cl.lookup x=some c->X.env.cells.lookup x=some c)/\(∀x,(x,S1)∈sc.names->∃c,cl.lookup x=some c):=
 rX λx hx e=>I.ok.has x.1 (S.fr x hx e)
theorem Inv.letGo{H0:Hp}{n:Shared}(r:Inv X pins Y H0 n)(I:Inv X pins j H s)(t:n.heap.objs.size<=C)(hn:H C=none)(sb:UU C s.heap h'):Inv X pins j H { s with heap:=h' }:=
 I.turned (t':=s.toks) (it:=C) (λb o d e=>(sb.2 b d).trans e) hn (Tj (Rh r.lt t)) (.inr (RG r.sz t))
  (λx c e z=>by obtain⟨v,q⟩:=r.cell x c e;exact absurd (Rh q.lt (by rw[z];exact t)) (RB _))
  (λp hp z=>absurd (Rh (Rq (r.pin p hp).1) (by rw[z];exact t)) (RB _))
theorem BP(hc:X.calm=true)(S:fN X.N N k sc X.env.scope)(hi:PI X tg iter wi)(hg:∀cl C s H fp,PG (iV X N sc cl C s H fp) tg g)(ht:∀cl C s H fp,PF (iV X N sc cl C s H fp) ifs tt)
  (he:∀cl C s H fp,PE (iV X N sc cl C s H fp) elt te)(hs:∀x,Yg iter X.env x=pure x:=by intro _;rfl):PE X (.ListComp elt [⟨tg,iter,ifs,0⟩] sc pos) (zm k wi g tt te):=by
 intro pins s Y H Q I h;obtain⟨cl,hclos,h1,h2⟩:=lD I S;rw[eval_ListComp];refine YJ (use:=none) rfl hs hclos S.kind S.names (cx (hi pins s Y H _ I h) λv s1 q1=>cx q1 λitv s2 q2=>?_);obtain⟨it,fp,tn,J,H2,rfl,I2,T,st2,f2,B⟩:=q2;refine mD (RR:=λacc C=>compPost (XZ X.prog X.w) X.A X.xe none (EP X pins Y Q) acc C) hc S h1 h2 I2 T st2 f2 B (λcl C=>hg cl C s2 H2 fp) (λcl C=>ht cl C s2 H2 fp) (λcl C=>he cl C s2 H2 fp) ?_;intro D C s' H' ys I' hC hn hm q;obtain⟨m,hm⟩:=hm;exact⟨m,hm,λh' sb=>⟨.ref D,_,I2.letGo I' hC hn sb,rfl,q⟩⟩
theorem B4{x:Str}{spos:Pos}(hc:X.calm=true)(S:fN X.N N k sc X.env.scope)(hN:X.N.Nodup)(hx:X.N[i]?=some x)(hl:X.env.scope.names.lookup x=some .local)
  (hsw:Yc (.ListComp elt [⟨tg,iter,ifs,0⟩] sc pos) (some (.Name x px)) spos.line X.env=pure true)(hi:PI X tg iter wi)(hg:∀cl C s H fp,PG (iV X N sc cl C s H fp) tg g)(ht:∀cl C s H fp,PF (iV X N sc cl C s H fp) ifs tt)
  (he:∀cl C s H fp,PE (iV X N sc cl C s H fp) elt te)(hs:∀x,Yg iter X.env x=pure x:=by intro _;rfl):PS X (.Assign [.Name x px] (.ListComp elt [⟨tg,iter,ifs,0⟩] sc pos) spos) (qx (zm k wi g tt te) (AG i)):=by
 intro pins s Y H D0 I h;obtain⟨cl,hclos,h1,h2⟩:=lD I S;rw[exec_Assign_Name_used _ _ _ _ hsw];refine XW (YH (XW ?_));show X0 _ X.A (do let _ <- comprehension (.ListComp elt [⟨tg,iter,ifs,0⟩] sc pos) sc X.env _ (newList []) false (eval iter X.env) (some (assign (.Name x px) X.env))) _ _ s;refine XW (cx (YJ (use:=some (assign (.Name x px) X.env)) (Q:=λ_ s'=>SP X pins D0 .next s') rfl hs hclos S.kind S.names
  (cx (hi pins s Y H _ I h) λv s1 q1=>cx q1 λitv s2 q2=>?_)) λ_ s' hq=>XY (XY hq))
 obtain⟨it,fp,tn,J,H2,rfl,I2,T,st2,f2,B⟩:=q2;refine mD (RR:=λacc C=>compPost (XZ X.prog X.w) X.A X.xe (some (assign (.Name x px) X.env)) (λ_ s'=>SP X pins D0 .next s') acc C) hc S h1 h2 I2 T st2 f2 B (λcl C=>hg cl C s2 H2 fp) (λcl C=>ht cl C s2 H2 fp) (λcl C=>he cl C s2 H2 fp) ?_;intro D C s' H' ys I' hC hn hm q;obtain⟨m,hm⟩:=hm;show X0 _ X.A (assign (.Name x px) X.env (.ref D)) _ _ _;refine Y8 (nQ I' hN hx (.inl hl) (v:=.ref D) rfl (λs'' I'' ch=>?_) (.inr hl));obtain⟨a,sb,ha⟩:=ch;refine⟨m,hm.sameBut sb ?_,λh' sb'=>⟨_,_,I2.letGo I'' hC hn sb',q⟩⟩;rintro rfl;rcases ha with z|z
 .exact absurd (Rh I2.lt (by rw[<-z];exact hC)) (RB _)
 .obtain⟨v,q⟩:=I2.cell x _ z;exact absurd (Rh q.lt hC) (RB _)
end
theorem tm{gs:List YK}{sc:Scope}{x:Str}{line:Nat}(h1:env.blockKind=.function)(h2:env.kindOf x=some .local)(h3:(px.line==pos.line)=true)
  (h4:(sc.names.any λp=>p.1==x&&(p.2==.local || p.2==.cell))=false):Yc (.ListComp elt gs sc pos) (some (.Name x px)) line env=pure true:=by
 unfold Yc;show (pure (env.blockKind==.function&&env.kindOf x==some .local&&px.line==pos.line&&!(sc.names.any λp=>p.1==x&&(p.2==.local || p.2==.cell))):Sem Bool)=pure true;rw[h1,h2,h3,h4];rfl
section
variable{X:Cx}{tg:Expr}
def Nt(K:Q0)(tl:TE):TI:=λY H R=>tl Y H λx S=>∃a,x=.ref a/\(((∃xs,dI K S a xs)/\R (P2 K a) S)\/((∃xs,i4 K S a xs)/\R (Qc K a) S))
theorem DB{l:Expr}{tl:TE}(hl:PE X l tl):PI X tg l (Nt X.K tl):=by
 intro pins s Y H R I h;refine cx (hl pins s Y H _ I h) λv s1 ⟨x,S,U,V,T⟩=>?_;rcases T with ⟨a,e,⟨⟨xs,O⟩,q⟩|⟨⟨xs,O⟩,q⟩⟩
 .subst e;cases V;obtain⟨i,m,p,hz⟩:=U.list O;refine YG p.isList ?_;refine⟨s1.heap.objs.size,[s1.heap.objs.size],_,_,S,rfl,U.kept λb o e=>Rm _ e,wg a _,⟨_,RF _ rfl,rfl,rfl⟩,λb d=>?_,q⟩;have e:b=s1.heap.objs.size:=by simpa using d
  subst e;exact U.vX (Q9 _) (U.hok.fresh (Q9 _))
 .subst e;cases V;obtain⟨i,m,p,hz⟩:=U.tuple O;refine wpAny_pyIter_tuple (p) ?_;refine⟨s1.heap.objs.size,[s1.heap.objs.size],_,_,S,rfl,U.kept λb o e=>Rm _ e,sG a _,⟨_,RF _ rfl,rfl,rfl⟩,λb d=>?_,q⟩;have e:b=s1.heap.objs.size:=by simpa using d
  subst e;exact U.vX (Q9 _) (U.hok.fresh (Q9 _))
def Nc(K:Q0)(g:List Bool->Bool):List V->Hp->VK->Prop:=λxs H Q=>∃p ys bs,xs=[.ref p]/\dI K H p ys/\ys=bs.map V.bl/\Q (.bl (g bs)) H
theorem range_any{bs:List Bool}{tr:Nat->Bool}(h:∀i b,bs[i]?=some b->tr i=b):(Rp bs.length).any tr=bs.any id:=by
 have:(Rp bs.length).map tr=bs:=by
  apply SI;intro i;rw[RN];by_cases hi:i<bs.length
  .rw[SQ hi,Ry hi,Wm,h i _ (Ry hi)]
  .rw[Sz (by simpa using hi),Sz (by simpa using hi)];rfl
 calc (Rp bs.length).any tr=((Rp bs.length).map tr).any id:=by simp only[VM];rfl
  _=bs.any id:=by rw[this]
theorem A6(hc:X.calm=true):dE X (.builtin "any") (Nc X.K λbs=>bs.any id):=by
 intro pins s Y H xs us Q I r h;obtain⟨p,ys,bs,rfl,O,rfl,q⟩:=h;obtain⟨u,rfl,w⟩:=vals1 r;cases w;obtain⟨l,r',pl,hz⟩:=I.list O;have E:=r'.length;refine call_any_walk (YG pl.isList ?_);refine⟨s.heap.objs.size,_,_,_,_,_,(λi=>bs.getD i false),rfl,Xj (A:=X.A.in1) (I.ok.hd hc) _ p (by obtain⟨o,ho,_⟩:=pl.isList;exact RH (Rq ho)) l.toArray,⟨⟨_,RF _ rfl,rfl,rfl⟩,pl.isList.at λo e=>Rm _ e⟩,λi v s1 y a Z n=>?_,λh' tk hk=>?_⟩
 .have c:l[i]?=some v:=by simpa using Z
  cases J:bs[i]? with
  |none=>have h1:=S3.mp J;have h2:=(Q4.mp c).1;rw[Q7] at E;lia
  |some b=>
   obtain⟨u,B,C⟩:=r'.get (i:=i) (x:=.bl b) (by rw[RN,J];rfl);rw[c] at B;cases B;cases C;have:bs.getD i false=b:=by rw[Sy,J];rfl
   replace n:y (bs.getD i false) s1:=n
   rw[this] at n;exact XY n
 .have e1:l.toArray.size=bs.length:=by simp at E ⊢;lia
  rw[e1,range_any (bs:=bs) λi b e=>by show bs.getD i false=b;rw[Sy,e];rfl];exact⟨.bl _,H,I.kept (t':=tk) λb o e=>hk b o (λz=>by have:=RC.mp z;subst this;exact absurd (Rq e) (RB _)) (Rm _ e),rfl,q⟩
end
end L2
namespace W
variable{q:Int}
theorem fZ(p:Int)(h:q<0):q<p.fmod q/\p.fmod q<=0:=by
 rw[Int.fmod_eq_emod];have h2:=Int.emod_lt_of_neg p h;by_cases d:q ∣ p
 .rw[Zv (W7 d),Int.emod_eq_zero_of_dvd d];lia
 .rw[Zw (by intro z;rcases z with z|z;lia;exact d z)];omega
theorem Bg(p:Int)(h:q≠0):(p.fmod q).natAbs<q.natAbs:=by
 rcases UR h with z|z
 .have:=fZ p z;lia
 .have h1:=US p z;have h2:=To p z;lia
theorem qK(p q:Int):Tp q (p.fmod q)=Tp p q:=by
 have h:p.fmod q=p-p.fdiv q*q:=by rw[Int.fmod_def,RJ]
 simp only[h,Int.gcd_sub_mul_right_right,U4]
noncomputable def cd(x y:Int):Int:=if y<0 then -(Tp x y:Int) else (Tp x y:Int)
variable{p:Int}
theorem DR(h:q≠0)(z:p.fmod q=0):q=cd p q:=by
 have e:=qK p q;simp only[z,Wn] at e
 delta cd
 split<;>lia
theorem CK(h:q≠0)(z:p.fmod q≠0):cd q (p.fmod q)=cd p q:=by
 delta cd
 rw[qK]
 rcases UR h with g|g
 .have:=fZ p g
  rw[Zv Q1,Zv g]
 .have h2:=To p g
  rw[Zw Q1,Zw Q1]
theorem rn(x y:Int):cd x y ∣ x:=by
 delta cd;split
 .exact(Xp).mpr (WH x y)
 .exact WH x y
theorem pz(x y:Int):cd x y ∣ y:=by
 delta cd;split
 .exact(Xp).mpr (U5 x y)
 .exact U5 x y
theorem EA{x y:Int}(h:y≠0):cd x y≠0:=by
 have:=TN x h
 delta cd;split<;>lia
theorem yc(x y:Int):(cd x y).natAbs=Tp x y:=by delta cd;split<;>simp
theorem Km{x y:Int}(h:y≠0):(cd x y).natAbs<=y.natAbs:=by rw[yc];have h1:=Int.natCast_dvd_natCast.mp (Int.dvd_natAbs.mpr (U5 x y));exact Nat.le_of_dvd Q1 h1
noncomputable abbrev Num:=Int×Int
def iw(t b:Int):Num:=(t.fdiv (cd t b),b.fdiv (cd t b))
theorem xQ(h:b≠0):iw 0 b=(0,1):=by
 have e:cd 0 b=b:=by unfold cd;rw[U4,Wn];split<;>lia
 unfold iw;rw[e];have h1:(b*0).fdiv b=0:=Te 0 h;have h2:(b*1).fdiv b=1:=Te 1 h;rw[RQ] at h1;rw[Uy] at h2;simp only[h1,h2]
open L2
def Ok(q:Num):Prop:=0<q.2/\Tp q.1 q.2=1
theorem oH{t:Int}(h:b≠0):cd t b*(iw t b).1=t/\cd t b*(iw t b).2=b:=by
 have h0:=EA (x:=t) h;obtain⟨k,hk⟩:=rn t b;obtain⟨m,hm⟩:=pz t b;have e1:t.fdiv (cd t b)=k:=by have:=Te k h0;rwa[<-hk] at this
 have e2:b.fdiv (cd t b)=m:=by have:=Te m h0;rwa[<-hm] at this
 exact⟨by show cd t b*t.fdiv (cd t b)=t;rw[e1];exact hk.symm,by show cd t b*b.fdiv (cd t b)=b;rw[e2];exact hm.symm⟩
theorem B9{t:Int}(h:b≠0):(0<b->0<cd t b)/\(b<0->cd t b<0):=by
 have:=TN t h
 delta cd
 constructor
 .intro z;rw[Zw Q1];lia
 .intro z;rw[Zv z];lia
theorem uL{t:Int}(h:b≠0):0<(iw t b).2:=by
 obtain⟨_,e⟩:=oH (t:=t) h;obtain⟨s1,s2⟩:=B9 (t:=t) h;rcases UR h with z|z
 .have c:=s2 z;rcases Xk 0 (iw t b).2 with q|q
  .exact q
  .have:=Int.mul_nonneg_of_nonpos_of_nonpos (SR c) q;lia
 .have c:=s1 z;rcases Xk 0 (iw t b).2 with q|q
  .exact q
  .have:=Int.mul_nonpos_of_nonneg_of_nonpos (SR c) q;lia
theorem F8{t:Int}(h:b≠0):Ok (iw t b):=by
 refine⟨uL h,?_⟩;obtain⟨e1,e2⟩:=oH h;have g:Tp (cd t b*(iw t b).1) (cd t b*(iw t b).2)=(cd t b).natAbs*Tp (iw t b).1 (iw t b).2:=Int.gcd_mul_left _ _ _;rw[e1,e2,yc] at g;have p:=TN t h;have:Tp t b*1=Tp t b*Tp (iw t b).1 (iw t b).2:=by rw[Nat.mul_one];exact g
 exact(Vy p this).symm
def OG(x y:Num):Num:=iw (x.1*y.2+y.1*x.2) (x.2*y.2)
noncomputable def nv(x:Num):Rat:=XO x.1 x.2
theorem HL{t:Int}(h:b≠0):nv (iw t b)=XO t b:=by
 obtain⟨e1,e2⟩:=oH h;have p:=uL (t:=t) h
 delta nv
 rw[Ud (by exact R5 ‹_›) h];generalize (iw t b).1=k at e1 ⊢;generalize (iw t b).2=m at e2 p ⊢;rw[<-e1];rw[show k*b=k*(cd t b*m) from by rw[e2]];simp only[Int.mul_left_comm,Ue]
theorem L9{a c:Int}(h:a ∣ b*c)(g:Tp a b=1):a ∣ c:=by
 have h1:a.natAbs ∣ b.natAbs*c.natAbs:=by rw[<-Sf];exact VZ.mpr h
 exact VZ.mp (XQ (g) h1)
theorem MK{x y:Num}(h:Ok x)(k:Ok y)(e:nv x=nv y):x=y:=by
 have h1:=h.1;have k1:=k.1
 delta nv at e
 rw[Ud (by exact R5 ‹_›) (by exact R5 ‹_›)] at e;have p:=L9 (⟨y.1,by rw[e,RJ]⟩) (by rw[U4];exact h.2);have w:=L9 (⟨x.1,by rw[<-e,RJ]⟩) (by rw[U4];exact k.2);have e2:=Int.dvd_antisymm (by exact SR ‹_›) (by exact SR ‹_›) p w;rw[e2] at e;have e1:=SA (by exact R5 ‹_›) e;exact Prod.ext e1 e2
theorem ox{q:Num}(h:Ok q)(n:b≠0):iw (q.1*b) (q.2*b)=q:=by have h1:=h.1;refine MK (F8 (Vi Q1 n)) h ?_;rw[HL (Vi Q1 n)];unfold nv;rw[Ud (Vi Q1 n) Q1,Ue,RJ b]
end W
set_option maxHeartbeats 1000000
namespace W
open L2 PySem
abbrev Pr:=Str×Num
def HA(ps:List Pr)(n:Str):Num:=ps.foldl (λacc p=>if p.1=n then OG acc p.2 else acc) (0,1)
end W
namespace M
open PySem L2
inductive A where
 |non|bl(b:Bool)|int(i:Int)|str(x:Str)|tup(xs:List A)|lst(xs:List A)|dic(kvs:List (Key×A))|exc(c:Str)|obj(c:Str)(fs:List (Str×A))|dit(kvs:List (List Key×A))|opq
structure Kx where
 K:Q0
 mg:Str->Option Value
 P:Program
 w:X1
def QO:List (List Key×Addr×V)->List (List Key×Addr×Value)->Prop:=Paired λx y=>x.1=y.1/\x.2.1=y.2.1/\RelV x.2.2 y.2.2
def dX(P:Program)(w:X1)(p:Addr)(xs:List (List Key×Addr×V)):HO:=.exd λh=>xs.length<=sizeLine/\(p==Y3)=false/\∃ys,QO xs ys /\
 ∃o es g,h.get? p=some o/\o.ExactDict/\o.data=.dict es g/\es.toList=ys.map (entryOfKey (tupleKind (hJ P w)))/\(ys.map (·.1)).Nodup
mutual
inductive RA(k:Kx)(G:Hp):V->A->Prop
 |non:RA k G .non .non
 |bl(b:Bool):RA k G (.bl b) (.bl b)
 |int(i:Int):RA k G (.int i) (.int i)
 |str(x:Str):RA k G (.str x) (.str x)
 |tup{p:Addr}{vs:List V}{as:List A}(e:i4 k.K G p vs)(r:bF k G vs as):RA k G (.ref p) (.tup as)
 |lst{p:Addr}{vs:List V}{as:List A}(e:dI k.K G p vs)(r:bF k G vs as):RA k G (.ref p) (.lst as)
 |dic{p:Addr}{vs:List (Key×V)}{as:List (Key×A)}(e:Rd G p (.dK vs))(r:vS k G vs as):RA k G (.ref p) (.dic as)
 |exc{p C:Addr}{c:Str}(e:G p=some (ua p C))(m:k.mg c=some (.ref C)):RA k G (.ref p) (.exc c)
 |obj{p C dx:Addr}{c:Str}{vs:List (Str×V)}{fs:List (Str×A)}(e:G p=some (.ins C dx vs))(m:k.mg c=some (.ref C))(r:gw k G vs fs):RA k G (.ref p) (.obj c fs)
 |dit{p:Addr}{vs:List (List Key×Addr×V)}{as:List (List Key×A)}(e:Rd G p (dX k.P k.w p vs))(r:By k G vs as):RA k G (.ref p) (.dit as)
 |opq{p:Addr}:RA k G (.ref p) .opq
inductive bF(k:Kx)(G:Hp):List V->List A->Prop
 |nil:bF k G [] []
 |cons{v:V}{a:A}{vs:List V}{as:List A}(h:RA k G v a)(r:bF k G vs as):bF k G (v::vs) (a::as)
inductive gw(k:Kx)(G:Hp):List (Str×V)->List (Str×A)->Prop
 |nil:gw k G [] []
 |cons{y:Str}{v:V}{a:A}{vs:List (Str×V)}{as:List (Str×A)}(h:RA k G v a)(r:gw k G vs as):gw k G ((y,v)::vs) ((y,a)::as)
inductive By(k:Kx)(G:Hp):List (List Key×Addr×V)->List (List Key×A)->Prop
 |nil:By k G [] []
 |cons{y:List Key}{b:Addr}{v:V}{a:A}{vs:List (List Key×Addr×V)}{as:List (List Key×A)}(e:i4 k.K G b (y.map kV))(h:RA k G v a)(r:By k G vs as):By k G ((y,b,v)::vs) ((y,a)::as)
inductive vS(k:Kx)(G:Hp):List (Key×V)->List (Key×A)->Prop
 |nil:vS k G [] []
 |cons{y:Key}{v:V}{a:A}{vs:List (Key×V)}{as:List (Key×A)}(h:RA k G v a)(r:vS k G vs as):vS k G ((y,v)::vs) ((y,a)::as)
end
noncomputable def tF:HO->Option HO
 | .dK kvs=>some (.dK kvs)
 | .frz _ (.dK kvs)=>some (.dK kvs)
 | .exd Z=>some (.exd Z)
 | .frz _ (.exd Z)=>some (.exd Z)
 |_=>none
def Oq(o o':HO):Prop:=o'=o\/∃d,tF o=some d/\tF o'=some d
variable{G:Hp}{d:HO}
theorem vD{b:Addr}{o:HO}(h:G b=some o)(e:tF o=some d):Rd G b d:=by
 cases o with
 |dK=>cases e;exact .inl h
 |exd=>cases e;exact .inl h
 |frz b o=>
  cases o with
  |dK=>cases e;exact .inr ⟨_,h⟩
  |exd=>cases e;exact .inr ⟨_,h⟩
  |_=>exact cu e
 |_=>exact cu e
variable{kvs:List (Key×V)}
theorem NC{b:Addr}(h:Rd G b (.dK kvs)):∃o,G b=some o/\tF o=some (.dK kvs):=by
 rcases h with h|⟨o,h⟩
 .exact⟨_,h,rfl⟩
 .exact⟨_,h,rfl⟩
theorem MH{b:Addr}{Z:Heap->Prop}(h:Rd G b (.exd Z)):∃o,G b=some o/\tF o=some (.exd Z):=by
 rcases h with h|⟨o,h⟩
 .exact⟨_,h,rfl⟩
 .exact⟨_,h,rfl⟩
def Sq(G G':Hp):Prop:=∀b o,G b=some o->∃o',G' b=some o'/\Oq o o'
variable{G':Hp}
theorem Sq.of(h:OO G G'):Sq G G':=λb o e=>⟨o,h b o e,.inl rfl⟩
theorem Sq.refl(G:Hp):Sq G G:=λb o e=>⟨o,e,.inl rfl⟩
theorem Sq.keep(h:Sq G G'){b:Addr}{o:HO}(e:G b=some o)(n:tF o=none):G' b=some o:=by
 obtain⟨o',h1,h2⟩:=h b o e;rcases h2 with rfl|⟨kvs,h3,_⟩
 .exact h1
 .rw[n] at h3;cases h3
theorem Sq.PY(h:Sq G G'){b:Addr}{o:HO}(e:G b=some o)(k:tF o=some d):Rd G' b d:=by
 obtain⟨o',h1,h2⟩:=h b o e;rcases h2 with rfl|⟨s,h3,h4⟩
 .exact vD h1 k
 .rw[k] at h3;cases h3;exact vD h1 h4
theorem Sq.Pc(h:Sq G G'){b:Addr}(r:Rd G b (.dK kvs)):Rd G' b (.dK kvs):=by obtain⟨o,e,d⟩:=NC r;exact h.PY e d
theorem Sq.QP(h:Sq G G'){b:Addr}{Z:Heap->Prop}(r:Rd G b (.exd Z)):Rd G' b (.exd Z):=by obtain⟨o,e,d⟩:=MH r;exact h.PY e d
variable{p:Addr}{vs:List V}
theorem fK{K:Q0}(h:Sq G G')(q:i4 K G p vs):i4 K G' p vs:=q.imp (λr=>by
 rcases r with r|⟨o,r⟩
 .exact .inl (h.keep r rfl)
 .exact .inr ⟨o,h.keep r rfl⟩) id
theorem eU{K:Q0}(h:Sq G G')(q:dI K G p vs):dI K G' p vs:=q.imp (λr=>by
 rcases r with r|⟨o,r⟩
 .exact .inl (h.keep r rfl)
 .exact .inr ⟨o,h.keep r rfl⟩) id
section
variable{k:Kx}{G G':Hp}
mutual
theorem RA.sm(s:Sq G G'):∀{v:V}{a:A},RA k G v a->RA k G' v a
 |_,_,.non=>.non
 |_,_,.bl b=>.bl b
 |_,_,.int i=>.int i
 |_,_,.str x=>.str x
 |_,_,.tup e r=>.tup (fK s e) (bF.sm s r)
 |_,_,.lst e r=>.lst (eU s e) (bF.sm s r)
 |_,_,.dic e r=>.dic (s.Pc e) (vS.sm s r)
 |_,_,.exc e m=>.exc (s.keep e rfl) m
 |_,_,.obj e m r=>.obj (s.keep e rfl) m (gw.sm s r)
 |_,_,.dit e r=>.dit (s.QP e) (By.sm s r)
 |_,_,.opq=>.opq
theorem gw.sm(s:Sq G G'):∀{vs:List (Str×V)}{as:List (Str×A)},gw k G vs as->gw k G' vs as
 |_,_,.nil=>.nil
 |_,_,.cons h r=>.cons (RA.sm s h) (gw.sm s r)
theorem bF.sm(s:Sq G G'):∀{vs:List V}{as:List A},bF k G vs as->bF k G' vs as
 |_,_,.nil=>.nil
 |_,_,.cons h r=>.cons (RA.sm s h) (bF.sm s r)
theorem By.sm(s:Sq G G'):∀{vs:List (List Key×Addr×V)}{as:List (List Key×A)},By k G vs as->By k G' vs as
 |_,_,.nil=>.nil
 |_,_,.cons e h r=>.cons (fK s e) (RA.sm s h) (By.sm s r)
theorem vS.sm(s:Sq G G'):∀{vs:List (Key×V)}{as:List (Key×A)},vS k G vs as->vS k G' vs as
 |_,_,.nil=>.nil
 |_,_,.cons h r=>.cons (RA.sm s h) (vS.sm s r)
end
theorem bF.len:∀{vs:List V}{as:List A},bF k G vs as->vs.length=as.length
 |_,_,.nil=>rfl
 |_,_,.cons _ r=>by simp only[Rb,Rb,r.len]
theorem bF.ta:∀{vs:List V}{as:List A}{i:Nat}{a:A},bF k G vs as->as[i]?=some a->∃v,vs[i]?=some v/\RA k G v a
 |_,_,_,_,.nil,e=>by simp at e
 |_,_,0,_,.cons h _,e=>by cases e;exact⟨_,rfl,h⟩
 |_,_,i+1,_,.cons _ r,e=>r.ta e
theorem bF.app:∀{vs us:List V}{as bs:List A},bF k G vs as->bF k G us bs->bF k G (vs++us) (as++bs)
 |_,_,_,_,.nil,s=>s
 |_,_,_,_,.cons h r,s=>.cons h (r.app s)
theorem bF.snoc{as:List A}{v:V}{a:A}(r:bF k G vs as)(h:RA k G v a):bF k G (vs++[v]) (as++[a]):=r.app (.cons h .nil)
theorem bF.rev:∀{vs:List V}{as:List A},bF k G vs as->bF k G vs.reverse as.reverse
 |_,_,.nil=>.nil
 |_,_,.cons h r=>by simp only[T7,T7];exact r.rev.snoc h
theorem bF.take:∀{vs:List V}{as:List A}(n:Nat),bF k G vs as->bF k G (vs.take n) (as.take n)
 |_,_,0,_=>.nil
 |_,_,_+1,.nil=>.nil
 |_,_,n+1,.cons h r=>.cons h (r.take n)
theorem bF.drop:∀{vs:List V}{as:List A}(n:Nat),bF k G vs as->bF k G (vs.drop n) (as.drop n)
 |_,_,0,r=>r
 |_,_,_+1,.nil=>.nil
 |_,_,n+1,.cons _ r=>r.drop n
theorem bF.set{v:V}{a:A}(h:RA k G v a):∀{vs:List V}{as:List A}(i:Nat),bF k G vs as->bF k G (vs.set i v) (as.set i a)
 |_,_,_,.nil=>.nil
 |_,_,0,.cons _ r=>.cons h r
 |_,_,i+1,.cons q r=>.cons q (r.set h i)
theorem gw.len:∀{vs:List (Str×V)}{as:List (Str×A)},gw k G vs as->vs.length=as.length
 |_,_,.nil=>rfl
 |_,_,.cons _ r=>by simp only[Rb,Rb,r.len]
theorem gw.get:∀{vs:List (Str×V)}{as:List (Str×A)}(y:Str),gw k G vs as->(∃v a,vs.lookup y=some v/\as.lookup y=some a/\RA k G v a)\/(vs.lookup y=none/\as.lookup y=none)
 |_,_,y,.nil=>.inr ⟨rfl,rfl⟩
 |_,_,y,.cons (y:=z) (v:=v) (a:=a) h r=>by
  simp only[Rk,Rk];cases c:y==z with
  |true=>exact .inl ⟨v,a,rfl,rfl,h⟩
  |false=>exact r.get y
def kq(f:Str)(a:A):List (Str×A)->List (Str×A)
 |[]=>[(f,a)]
 |(g,b)::fs=>if g=f then (g,a)::fs else (g,b)::kq f a fs
theorem gw.put{f:Str}{v:V}{a:A}(h:RA k G v a):∀{vs:List (Str×V)}{as:List (Str×A)},gw k G vs as->gw k G (dP f v vs) (kq f a as)
 |_,_,.nil=>.cons h .nil
 |_,_,.cons (y:=z) q r=>by
  unfold dP kq;split
  .exact .cons h r
  .exact .cons q (gw.put h r)
end
noncomputable def cut(H:Hp)(L:List Addr):Hp:=λa=>if a∈L then none else H a
variable{H:Hp}{L:List Addr}
theorem Bh{a:Addr}(h:a∈L):cut H L a=none:=Zv h
theorem oQ{a:Addr}(h:a∉L):cut H L a=H a:=Zw h
theorem Af(H:Hp)(L:List Addr):Sq (cut H L) H:=Sq.of λb o e=>by
 delta cut at e
 split at e
 .cases e
 .exact e
variable{L':List Addr}
theorem yA(h:∀a,a∈L'->a∈L):Sq (cut H L) (cut H L'):=Sq.of λb o e=>by
 by_cases c:b∈L
 .rw[Bh c] at e;cases e
 .rw[oQ c] at e;rw[oQ λz=>c (h b z)];exact e
inductive LO where
 |lst(xs:List A)|dic(kvs:List (Key×A))|obj(c:Str)(fs:List (Str×A))|dit(kvs:List (List Key×A))|nob(c:Str)(fs:List (Str×A))(ls:List (Str×List A))
def LO.a:LO->A
 | .lst xs=>.lst xs
 | .dic kvs=>.dic kvs
 | .obj c fs=>.obj c fs
 | .dit kvs=>.dit kvs
 | .nob c fs ls=>.obj c (fs++ls.map λp=>(p.1,.lst p.2))
def LO.rd:LO->Option A
 | .lst xs=>some (.lst xs)
 | .dic kvs=>some (.dic kvs)
 | .obj c fs=>some (.obj c fs)
 | .dit kvs=>some (.dit kvs)
 | .nob _ _ _=>none
inductive Sl where
 |un|fr(a:A)|lv(o:LO)|pv(o:LO)|cf(a:A)
inductive eF(k:Kx)(G H:Hp):List (Str×V)->List (Str×List A)->List Addr->Prop
 |nil:eF k G H [] [] []
 |cons{y:Str}{a:Addr}{us:List V}{xs:List A}{ws:List (Str×V)}{ls:List (Str×List A)}{q:List Addr}(e:H a=some (.lst us))(r:bF k G us xs)(t:eF k G H ws ls q):eF k G H ((y,.ref a)::ws) ((y,xs)::ls) (a::q)
inductive LR(k:Kx)(G H:Hp)(p:Addr):LO->List Addr->Prop
 |lst{vs:List V}{as:List A}(e:H p=some (.lst vs))(r:bF k G vs as):LR k G H p (.lst as) []
 |dic{vs:List (Key×V)}{as:List (Key×A)}(e:H p=some (.dK vs))(r:vS k G vs as):LR k G H p (.dic as) []
 |obj{C dx:Addr}{c:Str}{vs:List (Str×V)}{fs:List (Str×A)}(e:H p=some (.ins C dx vs))(m:k.mg c=some (.ref C))(r:gw k G vs fs):LR k G H p (.obj c fs) []
 |dit{vs:List (List Key×Addr×V)}{as:List (List Key×A)}(e:H p=some (dX k.P k.w p vs))(r:By k G vs as):LR k G H p (.dit as) []
 |nob{C dx:Addr}{c:Str}{vs ws:List (Str×V)}{fs:List (Str×A)}{ls:List (Str×List A)}{q:List Addr}(e:H p=some (.ins C dx (vs++ws)))(m:k.mg c=some (.ref C))(r:gw k G vs fs)(l:eF k G H ws ls q):LR k G H p (.nob c fs ls) q
inductive d9(k:Kx)(G H:Hp):Option V->Sl->List Addr->Prop
 |un(x:Option V):d9 k G H x .un []
 |fr{v:V}{a:A}(h:RA k G v a):d9 k G H (some v) (.fr a) []
 |lv{p:Addr}{o:LO}{q:List Addr}(h:LR k G H p o q):d9 k G H (some (.ref p)) (.lv o) (p::q)
 |pv{p:Addr}{o:LO}{q:List Addr}(h:LR k G H p o q):d9 k G H (some (.ref p)) (.pv o) (p::q)
 |cf{v:V}{a:A}(h:RA k G v a):d9 k G H (some v) (.cf a) []
inductive av(k:Kx)(G H:Hp):St->List Sl->List Addr->Prop
 |nil:av k G H [] [] []
 |cons{x:Option V}{s:Sl}{Y:St}{Z:List Sl}{L L':List Addr}(h:d9 k G H x s L)(r:av k G H Y Z L'):av k G H (x::Y) (s::Z) (L++L')
variable{ws:List (Str×V)}{q:List Addr}
section
variable{k:Kx}{G G' H H':Hp}{L:List Addr}
theorem eF.is{ls:List (Str×List A)}(h:eF k G H ws ls q):∀a∈q,∃u,H a=some u:=by
 induction h with
 |nil=>intro a ha;cases ha
 |cons e r t l=>intro b d;rcases Rc.mp d with rfl|d;exact⟨_,e⟩;exact l b d
theorem eF.sm(s:Sq G G'){ws:List (Str×V)}{ls:List (Str×List A)}{q:List Addr}(h:eF k G H ws ls q):(∀a∈q,∀u,H a=some u->H' a=some u)->eF k G' H' ws ls q:=by
 induction h with
 |nil=>intro _;exact .nil
 |cons e r t l=>intro k;exact .cons (k _ Rg _ e) (r.sm s) (l λb d=>k b (Q5 _ d))
theorem eF.a(s:Sq G G'){ws:List (Str×V)}{ls:List (Str×List A)}{q:List Addr}(h:eF k G H ws ls q):(∀a∈q,∀u,H a=some u->G' a=some u)->gw k G' ws (ls.map λp=>(p.1,A.lst p.2)):=by
 induction h with
 |nil=>intro _;exact .nil
 |cons e r t l=>intro k;exact .cons (.lst (.inl (.inl (k _ Rg _ e))) (r.sm s)) (l λb d=>k b (Q5 _ d))
theorem gw.app{vs:List (Str×V)}{as bs:List (Str×A)}(h:gw k G vs as)(h':gw k G ws bs):gw k G (vs++ws) (as++bs):=by
 induction vs generalizing as with
 |nil=>cases h;exact h'
 |cons v vs l=>cases h with|cons q r=>exact .cons q (l r)
theorem LR.is{p:Addr}{o:LO}{q:List Addr}(h:LR k G H p o q):∀a∈p::q,∃u,H a=some u:=by
 intro a ha;rcases Rc.mp ha with rfl|ha
 .cases h with|lst e _=>exact⟨_,e⟩|dic e _=>exact⟨_,e⟩|obj e _ _=>exact⟨_,e⟩|dit e _=>exact⟨_,e⟩|nob e _ _ _=>exact⟨_,e⟩
 .cases h with|lst e _=>cases ha|dic e _=>cases ha|obj e _ _=>cases ha|dit e _=>cases ha|nob _ _ _ l=>exact l.is a ha
theorem LR.sm(s:Sq G G'){p:Addr}{o:LO}{q:List Addr}(e:∀a∈p::q,∀u,H a=some u->H' a=some u)(h:LR k G H p o q):LR k G' H' p o q:=by
 have Q:=e p Rg;cases h with
 |lst q r=>exact .lst (Q _ q) (r.sm s)
 |dic q r=>exact .dic (Q _ q) (r.sm s)
 |obj q m r=>exact .obj (Q _ q) m (r.sm s)
 |dit q r=>exact .dit (Q _ q) (r.sm s)
 |nob q m r l=>exact .nob (Q _ q) m (r.sm s) (l.sm s λa ha=>e a (Q5 _ ha))
theorem d9.is{x:Option V}{t:Sl}(h:d9 k G H x t L):∀p∈L,∃u,H p=some u:=by
 cases h with
 |un=>intro p hp;cases hp
 |fr=>intro p hp;cases hp
 |lv h=>exact h.is
 |pv h=>exact h.is
 |cf=>intro p hp;cases hp
theorem d9.sm(s:Sq G G'){x:Option V}{t:Sl}(e:∀p∈L,∀u,H p=some u->H' p=some u)(h:d9 k G H x t L):d9 k G' H' x t L:=by
 cases h with
 |un=>exact .un _
 |fr h=>exact .fr (h.sm s)
 |lv h=>exact .lv (h.sm s e)
 |pv h=>exact .pv (h.sm s e)
 |cf h=>exact .cf (h.sm s)
theorem av.is:∀{Y:St}{Z:List Sl}{L:List Addr},av k G H Y Z L->∀p∈L,∃u,H p=some u
 |_,_,_,.nil,p,hp=>by cases hp
 |_,_,_,.cons h r,p,hp=>(Rf.mp hp).elim (h.is p) (r.is p)
theorem av.sm(s:Sq G G'):∀{Y:St}{Z:List Sl}{L:List Addr},(∀p∈L,∀u,H p=some u->H' p=some u)->av k G H Y Z L->av k G' H' Y Z L
 |_,_,_,_,.nil=>.nil
 |_,_,_,e,.cons h r=>.cons (h.sm s λp hp=>e p (Q8 _ hp)) (r.sm s λp hp=>e p (Q2 _ hp))
theorem av.len:∀{Y:St}{Z:List Sl}{L:List Addr},av k G H Y Z L->Y.length=Z.length
 |_,_,_,.nil=>rfl
 |_,_,_,.cons _ r=>by simp only[Rb,Rb,r.len]
theorem av.at:∀{Y:St}{Z:List Sl}{L:List Addr}{i:Nat}{s:Sl},av k G H Y Z L->Z[i]?=some s->
  ∃x I L2 X,Y[i]?=some x/\d9 k G H x s L2/\L=I++L2++X/\∀{G' H':Hp}{y:Option V}{t:Sl}{L':List Addr},Sq G G'->(∀p∈I++X,∀u,H p=some u->H' p=some u)->d9 k G' H' y t L'->av k G' H' (Y.set i y) (Z.set i t) (I++L'++X)
 |_,_,_,_,_,.nil,e=>by simp at e
 |_,_,_,0,_,.cons (x:=x) (L:=L) (L':=L') h r,e=>by cases e;refine⟨x,[],L,L',rfl,h,by simp,λsm e q=>?_⟩;simp only[List.set_cons_zero,Ut];exact .cons q (r.sm sm (by simpa using e))
 |_,_,_,i+1,_,.cons (L:=L) h r,e=>by obtain⟨x,I,L2,X,e1,e2,b,A⟩:=av.at (i:=i) r e;refine⟨x,L++I,L2,X,e1,e2,by rw[b];simp,λsm e q=>?_⟩;simp only[List.set_cons_succ];have:=av.cons (h.sm sm λp hp=>e p (by simp[hp])) (A sm (λp hp=>e p (by rcases Rf.mp hp with z|z<;>simp[z])) q);simpa[Q6] using this
theorem av.app:∀{Y B:St}{Z θ:List Sl}{L L':List Addr},av k G H Y Z L->av k G H B θ L'->av k G H (Y++B) (Z++θ) (L++L')
 |_,_,_,_,_,_,.nil,s=>s
 |_,_,_,_,_,_,.cons h r,s=>by have:=av.cons h (r.app s);simpa[Q6] using this
theorem av.split:∀{Y B:St}{Z θ:List Sl}{L:List Addr},Y.length=Z.length->av k G H (Y++B) (Z++θ) L->∃I L2,L=I++L2/\av k G H Y Z I/\av k G H B θ L2
 |[],_,[],_,L,_,h=>⟨[],L,rfl,.nil,h⟩
 |x::Y,B,s::Z,θ,_,e,.cons (L:=L) h r=>by obtain⟨I,L2,e1,V,i⟩:=av.split (by simpa using e) r;exact⟨L++I,L2,by rw[e1];simp,.cons h V,i⟩
 |_::_,_,[],_,_,e,_=>by simp at e
 |[],_,_::_,_,_,e,_=>by simp at e
theorem av.dG:∀{vs:List V}{as:List A},bF k G vs as->av k G H (vs.map some) (as.map Sl.fr) []
 |_,_,.nil=>.nil
 |_,_,.cons h r=>av.cons (.fr h) (av.dG r)
theorem av.EB:∀{vs:List V}{as:List A}{L:List Addr},av k G H (vs.map some) (as.map Sl.fr) L->L=[]/\bF k G vs as
 |[],[],_,.nil=>⟨rfl,.nil⟩
 |v::vs,a::as,_,.cons h r=>by
  cases h with
  |fr h=>obtain⟨e,q⟩:=av.EB r;exact⟨by rw[e];rfl,.cons h q⟩
end
structure Cn extends Kx where
 σ0:St
 H0:Hp
 Lp:List Addr
 Hd:List Addr
 Wk:List (Addr×HO)
def Cn.g(c:Cn)(H:Hp)(L:List Addr):Hp:=cut H (L++c.Hd)
structure Fr(c:Cn)(H:Hp):Prop where
 st:∀b o,c.H0 b=some o->∃u,H b=some u/\(b∉c.Lp->(∀w,(b,w)∉c.Wk)->u=o)
 pk:∀p∈c.Wk,H p.1=some p.2/\(∃ob d,p.2=.frz ob d)/\p.1∉c.Hd
variable{c:Cn}
theorem Fr.new{o:HO}(f:Fr c H)(h:H p=none):Fr c (upd H p o):=⟨λb u e=>by
 obtain⟨w,h1,h2⟩:=f.st b u e;exact⟨w,by rw[aj (aH h1 h)];exact h1,h2⟩,λq O=>by
 obtain⟨h1,h2⟩:=f.pk q O;exact⟨by rw[aj (aH h1 h)];exact h1,h2⟩⟩
theorem Fr.fresh(f:Fr c H)(h:H p=none):c.H0 p=none:=by
 cases e:c.H0 p with
 |none=>rfl
 |some o=>obtain⟨u,h1,_⟩:=f.st p o e;rw[h] at h1;cases h1
noncomputable def cst:Sl->Bool
 | .pv _=>true
 | .cf _=>true
 |_=>false
def eu(σ0 Y:St)(Z:List Sl):Prop:=∀(i:Nat)(s:Sl),Z[i]?=some s->cst s=true->Y[i]?=σ0[i]?
structure dQ(c:Cn)(Y:St)(H:Hp)(Z:List Sl)(B:St)(θ:List Sl)(L:List Addr):Prop where
 nd:L.Nodup
 rel:av c.toKx (c.g H L) H (B++Y) (θ++Z) L
 own:∀p∈L,p∈c.Lp\/c.H0 p=none
 fr:Fr c H
 kp:eu c.σ0 Y Z
 lt:B.length=θ.length
 hd:∀p∈c.Hd,(∃u,c.H0 p=some u)/\p∉c.Lp
theorem g_same(c:Cn)(H:Hp)(L:List Addr):Sq (c.g H L) H:=Af _ _
theorem dq(h:∀a,a∈L'->a∈L):Sq (c.g H L) (c.g H L'):=yA λa ha=>by
 rcases Rf.mp ha with z|z
 .exact Q8 _ (h a z)
 .exact Q2 _ z
theorem gf{a:Addr}(h:a∈L\/a∈c.Hd):c.g H L a=none:=Bh (by simpa using h)
theorem bf{a:Addr}(h:a∉L)(h':a∉c.Hd):c.g H L a=H a:=oQ (by simp[h,h'])
variable{Y B:St}{Z θ:List Sl}
theorem dQ.xg(b:dQ c Y H Z B θ L)(h:p∈L):p∉c.Hd:=λz=>by
 obtain⟨⟨u,e⟩,n⟩:=b.hd p z;rcases b.own p h with y|y
 .exact n y
 .rw[y] at e;cases e
theorem dQ.Kc(b:dQ c Y H Z B θ L)(h:H p=none):p∉c.Hd:=λz=>by obtain⟨⟨u,e⟩,n⟩:=b.hd p z;rw[b.fr.fresh h] at e;cases e
def Bd(c:Cn)(Y:St)(H:Hp)(Z:List Sl)(B:St)(θ:List Sl):Prop:=∃L,dQ c Y H Z B θ L
variable{s:Sl}{u:HO}{o o':LO}{i:Nat}{α:Type}
section
variable{c:Cn}{Y:St}{H:Hp}{Z:List Sl}{B:St}{θ:List Sl}
theorem Bd.qy(b:Bd c Y H Z B θ):Y.length=Z.length:=by
 obtain⟨L,b⟩:=b;have:=b.rel.len;simp only[Rn,Rn,b.lt] at this
 lia
theorem Bd.push{v:V}{a:A}(b:Bd c Y H Z B θ)(h:∀G,RA c.toKx G v a):Bd c Y H Z (some v::B) (.fr a::θ):=by obtain⟨L,b⟩:=b;exact⟨L,b.nd,av.cons (L:=[]) (.fr (h _)) b.rel,b.own,b.fr,b.kp,by simp[b.lt],b.hd⟩
theorem Bd.pop{x:Option V}(b:Bd c Y H Z (x::B) (s::θ)):Bd c Y H Z B θ:=by
 obtain⟨L,b⟩:=b;obtain⟨nd,rel,own,fr,kp,lt,u⟩:=b;cases rel with
 |cons h r=>rename_i I L2;exact⟨L2,(Rj.mp nd).2.1,r.sm (dq λa ha=>Q2 _ ha) (λ_ _ _ e=>e),λp hp=>own p (Q2 _ hp),fr,kp,by simpa using lt,u⟩
theorem Bd.CA:∀{xs:St}{ss:List Sl},xs.length=ss.length->Bd c Y H Z (xs++B) (ss++θ)->Bd c Y H Z B θ
 |[],[],_,b=>b
 |x::xs,s::ss,e,b=>Bd.CA (by simpa using e) (Bd.pop b)
 |[],_::_,e,_=>by simp at e
 |_::_,[],e,_=>by simp at e
theorem Bd.new{p:Addr}{o:HO}(b:Bd c Y H Z B θ)(h:H p=none):Bd c Y (upd H p o) Z B θ:=by
 obtain⟨L,b⟩:=b;have hp:p∉L:=λz=>by obtain⟨u,e⟩:=b.rel.is p z;rw[h] at e;cases e
 refine⟨L,b.nd,b.rel.sm (Sq.of λa u e=>?_) (λq O u e=>by rw[aj (aH e h)];exact e),b.own,b.fr.new h,b.kp,b.lt,b.hd⟩;by_cases z:a∈L\/a∈c.Hd
 .rw[gf z] at e;cases e
 .rw[bf (λy=>z (.inl y)) (λy=>z (.inr y))] at e;rw[bf (λy=>z (.inl y)) (λy=>z (.inr y)),aj (aH e h)];exact e
theorem Bd.dG{as:List A}(b:Bd c Y H Z (vs.map some++B) (as.map Sl.fr++θ))(e:vs.length=as.length):∃L,dQ c Y H Z B θ L/\bF c.toKx (c.g H L) vs as:=by obtain⟨L,b⟩:=b;have r:=b.rel;rw[Q6,Q6] at r;obtain⟨I,L2,e1,V,i⟩:=av.split (by simp[e]) r;obtain⟨z,s⟩:=av.EB V;subst z;have e1:L=L2:=e1;subst e1;exact⟨L,⟨b.nd,i,b.own,b.fr,b.kp,by have:=b.lt;simp at this;lia,b.hd⟩,s⟩
theorem dQ.push{v:V}{a:A}(b:dQ c Y H Z B θ L)(h:RA c.toKx (c.g H L) v a):Bd c Y H Z (some v::B) (.fr a::θ):=
 ⟨L,b.nd,av.cons (.fr h) b.rel,b.own,b.fr,b.kp,by simp[b.lt],b.hd⟩
theorem dQ.new{L:List Addr}{p:Addr}{o:HO}(b:dQ c Y H Z B θ L)(h:H p=none):dQ c Y (upd H p o) Z B θ L/\Sq (c.g H L) (c.g (upd H p o) L)/\p∉L:=by
 have hp:p∉L:=λz=>by obtain⟨u,e⟩:=b.rel.is p z;rw[h] at e;cases e
 have sm:Sq (c.g H L) (c.g (upd H p o) L):=Sq.of λa u e=>by
  by_cases z:a∈L\/a∈c.Hd
  .rw[gf z] at e;cases e
  .rw[bf (λy=>z (.inl y)) (λy=>z (.inr y))] at e;rw[bf (λy=>z (.inl y)) (λy=>z (.inr y)),aj (aH e h)];exact e
 exact⟨⟨b.nd,b.rel.sm sm (λq O u e=>by rw[aj (aH e h)];exact e),b.own,b.fr.new h,b.kp,b.lt,b.hd⟩,sm,hp⟩
theorem Bd.G4{as:List A}(b:Bd c Y H Z (vs.map some++B) (as.map Sl.fr++θ))(e:vs.length=as.length)(h:H p=none)(ws:List V)(bs:List A)(f:∀G,bF c.toKx G vs as->bF c.toKx G ws bs):
  Bd c Y (upd H p (.tup ws)) Z (some (.ref p)::B) (.fr (.tup bs)::θ):=by
 obtain⟨L,bl,s⟩:=b.dG e;obtain⟨r,sm,hp⟩:=bl.new (o:=.tup ws) h;exact r.push (.tup (.inl (.inl (by rw[bf hp (bl.Kc h)];exact aF))) (f _ (s.sm sm)))
theorem dQ.kr(b:dQ c Y H Z B θ L)(h:H p=none)(hr:∀G H',Sq (c.g H L) G->H' p=some u->LR c.toKx G H' p o []):Bd c Y (upd H p u) Z (some (.ref p)::B) (.lv o::θ):=by
 have hp:p∉L:=λz=>by obtain⟨u,e⟩:=b.rel.is p z;rw[h] at e;cases e
 have sm:Sq (c.g H L) (c.g (upd H p u) (p::L)):=Sq.of λa w e=>by
  by_cases z:a∈L\/a∈c.Hd
  .rw[gf z] at e;cases e
  .rw[bf (λy=>z (.inl y)) (λy=>z (.inr y))] at e;have x:=aH e h;rw[bf (λy=>by rcases Rc.mp y with y|y;exact x y;exact z (.inl y)) (λy=>z (.inr y)),aj x];exact e
 refine⟨p::L,RD.mpr ⟨hp,b.nd⟩,av.cons (L:=[p]) (.lv (hr _ _ sm aF)) (b.rel.sm sm (λq O w e=>by rw[aj (aH e h)];exact e)),λq O=>?_,b.fr.new h,b.kp,by simp[b.lt],b.hd⟩;rcases Rc.mp O with z|z
 .subst z;exact .inr (b.fr.fresh h)
 .exact b.own q z
theorem Bd.Bk{as:List A}(b:Bd c Y H Z (vs.map some++B) (as.map Sl.fr++θ))(e:vs.length=as.length)(h:H p=none)(ws:List V)(bs:List A)(f:∀G,bF c.toKx G vs as->bF c.toKx G ws bs):
  Bd c Y (upd H p (.lst ws)) Z (some (.ref p)::B) (.lv (.lst bs)::θ):=by
 obtain⟨L,bl,s⟩:=b.dG e;exact bl.kr h λG H' sm q=>.lst q (f _ (s.sm sm))
theorem LR.a{k:Kx}{G H:Hp}{p:Addr}{o:LO}{q:List Addr}{a:A}(h:LR k G H p o q)(sm:Sq G H)(N:o.rd=some a):RA k H (.ref p) a:=by
 cases h with
 |lst e r=>cases N;exact .lst (.inl (.inl e)) (r.sm sm)
 |dic e r=>cases N;exact .dic (.inl e) (r.sm sm)
 |obj e m r=>cases N;exact .obj e m (r.sm sm)
 |dit e r=>cases N;exact .dit (.inl e) (r.sm sm)
 |nob=>cases N
theorem LR.a'{k:Kx}(h:LR k G H p o q)(sm:Sq G G')(e:∀a∈p::q,∀u,H a=some u->G' a=some u):RA k G' (.ref p) o.a:=by
 have Q:=e p Rg;cases h with
 |lst q r=>exact .lst (.inl (.inl (Q _ q))) (r.sm sm)
 |dic q r=>exact .dic (.inl (Q _ q)) (r.sm sm)
 |obj q m r=>exact .obj (Q _ q) m (r.sm sm)
 |dit q r=>exact .dit (.inl (Q _ q)) (r.sm sm)
 |nob q m r l=>exact .obj (Q _ q) m ((r.sm sm).app (l.a sm λa ha=>e a (Q5 _ ha)))
def Sl.a:Sl->Option A
 | .fr a=>some a
 | .lv o=>o.rd
 | .pv o=>o.rd
 | .cf a=>some a
 | .un=>none
theorem d9.read{k:Kx}{x:Option V}{a:A}(h:d9 k G H x s L)(sm:Sq G H)(e:s.a=some a):∃v,x=some v/\RA k H v a:=by
 cases h with
 |un=>cases e
 |fr h=>cases e;exact⟨_,rfl,h.sm sm⟩
 |lv h=>exact⟨_,rfl,h.a sm e⟩
 |pv h=>exact⟨_,rfl,h.a sm e⟩
 |cf h=>cases e;exact⟨_,rfl,h.sm sm⟩
theorem eu.set{σ0 Y:St}{Z:List Sl}{i:Nat}{t:Sl}{y:Option V}(k:eu σ0 Y Z)(hi:i<Z.length)(e:cst t=false):eu σ0 (Y.set i y) (Z.set i t):=λj o q w=>by
 by_cases z:j=i
 .subst z;rw[Rl hi] at q;cases q;rw[e] at w;cases w
 .rw[Rx (R7 z)] at q ⊢;exact k j o q w
theorem eu.CQ{σ0:St}{t:Sl}(k:eu σ0 Y Z)(h:cst t=true->∃s,Z[i]?=some s/\cst s=true):eu σ0 Y (Z.set i t):=λj o q w=>by
 by_cases z:j=i
 .subst z;by_cases hi:j<Z.length
  .rw[Rl hi] at q;cases q;obtain⟨o',e,v⟩:=h w;exact k j o' e v
  .rw[Sz (by simp;exact Us.mp ‹_›)] at q;cases q
 .rw[Rx (R7 z)] at q;exact k j o q w
theorem Bd.slot{a:A}(b:Bd c Y H Z B θ)(e:Z[i]?=some s)(N:s.a=some a):∃v,Y[i]?=some (some v)/\RA c.toKx H v a:=by obtain⟨L,b⟩:=b;obtain⟨I,L2,e1,V,r⟩:=av.split b.lt b.rel;obtain⟨x,_,_,_,hx,hs,_⟩:=r.at e;obtain⟨v,rfl,h⟩:=hs.read (g_same _ _ _) N;exact⟨v,hx,h⟩
theorem Bd.Et(b:Bd c Y H Z B θ)(e:Z[i]?=some (.lv o)\/Z[i]?=some (.pv o)):∃p,Y[i]?=some (some (.ref p)):=by
 obtain⟨L,b⟩:=b;obtain⟨I,L2,e1,V,r⟩:=av.split b.lt b.rel;rcases e with e|e
 .obtain⟨x,_,_,_,hx,hs,_⟩:=r.at e;cases hs;exact⟨_,hx⟩
 .obtain⟨x,_,_,_,hx,hs,_⟩:=r.at e;cases hs;exact⟨_,hx⟩
theorem Bd.load{a:A}(b:Bd c Y H Z B θ)(e:Z[i]?=some (.fr a)):∃v,Y[i]?=some (some v)/\Bd c Y H Z (some v::B) (.fr a::θ):=by
 obtain⟨L,b⟩:=b;obtain⟨I,L2,e1,V,r⟩:=av.split b.lt b.rel;obtain⟨x,_,_,_,hx,hs,_⟩:=r.at e;cases hs with
 |fr h=>exact⟨_,hx,b.push h⟩
theorem Bd.Fd{a:A}(b:Bd c Y H Z B θ)(e:Z[i]?=some (.cf a)):∃v,Y[i]?=some (some v)/\Bd c Y H Z (some v::B) (.fr a::θ):=by
 obtain⟨L,b⟩:=b;obtain⟨I,L2,e1,V,r⟩:=av.split b.lt b.rel;obtain⟨x,_,_,_,hx,hs,_⟩:=r.at e;cases hs with
 |cf h=>exact⟨_,hx,b.push h⟩
theorem eF.nf{k:Kx}{ls:List (Str×List A)}(h:eF k G H ws ls q):∀a∈q,∀ob w,H a≠some (.frz ob w):=by
 induction h with
 |nil=>intro a ha;cases ha
 |cons e r t l=>intro b d ob w z;rcases Rc.mp d with rfl|d;rw[e] at z;cases z;exact l b d ob w z
theorem LR.nf{k:Kx}{G H:Hp}{p:Addr}{o:LO}{q:List Addr}(h:LR k G H p o q):∀a∈p::q,∀ob w,H a≠some (.frz ob w):=by
 intro a ha ob w z;rcases Rc.mp ha with rfl|ha
 .cases h with|lst e _=>rw[e] at z;cases z|dic e _=>rw[e] at z;cases z|obj e _ _=>rw[e] at z;cases z|dit e _=>rw[e] at z;cases z|nob e _ _ _=>rw[e] at z;cases z
 .cases h with|lst e _=>cases ha|dic e _=>cases ha|obj e _ _=>cases ha|dit e _=>cases ha|nob _ _ _ l=>exact l.nf a ha ob w z
theorem iT{A B C:List α}(n:(A++B++C).Nodup):(A++C).Nodup/\∀a∈B,a∉A++C:=by
 obtain⟨Y,e,H⟩:=Rj.mp n;obtain⟨I,K,u⟩:=Rj.mp Y;refine⟨Rj.mpr ⟨I,e,λa ha b d=>H a (Q8 _ ha) b d⟩,λa ha z=>?_⟩;rcases Rf.mp z with z|z
 .exact u a z a ha rfl
 .exact H a (Q2 _ ha) a z rfl
theorem set_same{v:Option V}(hx:Y[i]?=some v):Y.set i v=Y:=by
 apply SI;intro j;by_cases z:j=i
 .subst z;rw[Rl (Q4.mp hx).1,hx]
 .rw[Rx (R7 z)]
theorem Bd.uN(b:Bd c Y H Z B θ)(e:Z[i]?=some (.lv o)):Bd c Y H (Z.set i (.fr o.a)) B θ:=by
 obtain⟨L,b⟩:=b;obtain⟨I,L2,e1,V,r⟩:=av.split b.lt b.rel;obtain⟨x,M1,s,X,hx,hs,e2,ins⟩:=r.at e;cases hs with
 |lv h=>
  rename_i p q;have nd:=b.nd;have hL:L=(I++M1)++(p::q)++X:=by rw[e1,e2];simp
  rw[hL] at nd;obtain⟨n,hp⟩:=iT nd;have sub:∀a,a∈I++M1++X->a∈L:=λa ha=>by rw[hL];simp only[Rf,Rc] at ha ⊢;rcases ha with (z|z)|z<;>simp[z]
  have sm:Sq (c.g H L) (c.g H (I++M1++X)):=dq sub;have w:=ins (y:=some (.ref p)) (t:=.fr o.a) (L':=[]) sm (λ_ _ _ e=>e) (.fr (h.a' sm λa ha u e=>by rw[bf (hp a ha) (b.xg (by rw[hL];exact Q8 _ (Q2 _ ha)))];exact e));rw[set_same hx] at w;refine⟨I++M1++X,n,?_,λq O=>b.own q (sub q O),b.fr,b.kp.CQ (λz=>by cases z),b.lt,b.hd⟩;have:=(V.sm sm (λ_ _ _ e=>e)).app w;simpa[Q6] using this
theorem dQ.Ko{t:Sl}(b:dQ c Y H Z B θ L)(e:Z[i]?=some s)(es:s=.lv o/\t=.lv o'\/s=.pv o/\t=.pv o')
  : ∃p q,Y[i]?=some (some (.ref p))/\LR c.toKx (c.g H L) H p o q/\(p::q).Nodup/\∀a∈p::q,(∀H',H' a=some u->(∀b∈p::q,b≠a->H' b=H b)->LR c.toKx (c.g H L) H' p o' q)->Bd c Y (upd H a u) (Z.set i t) B θ:=by
 obtain⟨I,L2,e1,V,r⟩:=av.split b.lt b.rel;obtain⟨x,M1,v,j,hx,hs,e2,ins⟩:=r.at e;have key:∀p q,x=some (.ref p)->v=p::q->LR c.toKx (c.g H L) H p o q->(∀G H',LR c.toKx G H' p o' q->d9 c.toKx G H' (some (.ref p)) t (p::q))->(cst t=true->∃s,Z[i]?=some s/\cst s=true)->
   ∃p q,Y[i]?=some (some (.ref p))/\LR c.toKx (c.g H L) H p o q/\(p::q).Nodup/\∀a∈p::q,(∀H',H' a=some u->(∀b∈p::q,b≠a->H' b=H b)->LR c.toKx (c.g H L) H' p o' q)->Bd c Y (upd H a u) (Z.set i t) B θ:=by
  intro p q ex em hr mk pk;subst ex em;have nd:=b.nd;have hL:L=(I++M1)++(p::q)++j:=by rw[e1,e2];simp
  rw[hL] at nd;have k:(p::q).Nodup:=(Rj.mp (Rj.mp nd).1).2.1;refine⟨p,q,hx,hr,k,λa ha hn=>?_⟩;obtain⟨_,n⟩:=iT nd;have A:a∈L:=by rw[hL];exact Q8 _ (Q2 _ ha)
  have D:c.g (upd H a u) L=c.g H L:=by
   funext E
   by_cases z:E∈L\/E∈c.Hd
   .rw[gf z,gf z]
   .rw[bf (λy=>z (.inl y)) (λy=>z (.inr y)),bf (λy=>z (.inl y)) (λy=>z (.inr y)),aj λy=>z (.inl (by rw[y];exact A))]
  have X:∀q,q∈I++M1++j->∀w,H q=some w->upd H a u q=some w:=λq O w e=>by rw[aj λy=>n a ha (by rw[<-y];exact O)];exact e
  have m:=ins (G':=c.g (upd H a u) L) (H':=upd H a u) (y:=some (.ref p)) (t:=t) (L':=p::q) (by rw[D];exact Sq.refl _) (λq O=>X q (by rcases Rf.mp O with z|z<;>simp[z])) (mk _ _ (by rw[D];exact hn _ aF λE _ l=>aj l));rw[set_same hx] at m;refine⟨L,b.nd,?_,b.own,⟨λq w e=>?_,λq O=>?_⟩,b.kp.CQ pk,b.lt,b.hd⟩
  .have:=(V.sm (G':=c.g (upd H a u) L) (H':=upd H a u) (by rw[D];exact Sq.refl _) (λq O=>X q (by simp[O]))).app m;have z:I++(M1++(p::q)++j)=L:=by rw[hL];simp
   rw[z] at this;exact this
  .obtain⟨R,h1,h2⟩:=b.fr.st q w e;by_cases z:q=a
   .subst z;refine⟨u,aF,λT=>?_⟩;rcases b.own q A with y|y
    .exact absurd y T
    .rw[y] at e;cases e
   .exact⟨R,by rw[aj z];exact h1,h2⟩
  .obtain⟨h1,⟨ob,vs,h2⟩,h3⟩:=b.fr.pk q O;refine⟨?_,⟨ob,vs,h2⟩,h3⟩;rw[aj λy=>?_]
   .exact h1
   .rw[y,h2] at h1;exact hr.nf a ha _ _ h1
 rcases es with ⟨rfl,rfl⟩|⟨rfl,rfl⟩
 .cases hs with
  |lv h=>exact key _ _ rfl rfl h (λ_ _ h=>.lv h) (λz=>by cases z)
 .cases hs with
  |pv h=>exact key _ _ rfl rfl h (λ_ _ h=>.pv h) (λ_=>⟨_,e,rfl⟩)
theorem dQ.change{t:Sl}(b:dQ c Y H Z B θ L)(e:Z[i]?=some s)(es:s=.lv o/\t=.lv o'\/s=.pv o/\t=.pv o')
  : ∃p q,Y[i]?=some (some (.ref p))/\LR c.toKx (c.g H L) H p o q/\((∀H',H' p=some u->(∀b∈q,H' b=H b)->LR c.toKx (c.g H L) H' p o' q)->Bd c Y (upd H p u) (Z.set i t) B θ):=by
 obtain⟨p,q,h1,h2,nd,h3⟩:=b.Ko (u:=u) e es;exact⟨p,q,h1,h2,λk=>h3 p Rg λH' D sm=>k H' D λb d=>sm b (Q5 _ d) λz=>(RD.mp nd).1 (z▸d)⟩
theorem Bd.store{t:Sl}{v:V}(b:Bd c Y H Z (some v::B) (t::θ))(e:Z[i]?=some s)(hs:∀o,s≠.pv o)(j:cst t=false):Bd c (Y.set i (some v)) H (Z.set i t) B θ:=by
 obtain⟨L,nd,rel,own,fr,kp,lt,A⟩:=b;have rel:av c.toKx (c.g H L) H (some v::(B++Y)) (t::(θ++Z)) L:=rel;cases rel with
 |cons h r=>
  rename_i u L';obtain⟨I,L2,e1,w,k⟩:=av.split (by simpa using lt) r;obtain⟨x,M1,y,X,hx,n,e2,ins⟩:=k.at e;subst e1 e2;have sub:∀a,a∈I++(M1++u++X)->a∈u++(I++(M1++y++X)):=λa ha=>by simp at ha ⊢;rcases ha with z|z|z|z<;>simp[z]
  have sm:Sq (c.g H (u++(I++(M1++y++X)))) (c.g H (I++(M1++u++X))):=dq sub;have hi:i<Z.length:=(Q4.mp e).1;refine⟨I++(M1++u++X),?_,?_,λq O=>own q (sub q O),fr,kp.set hi j,by simpa using lt,A⟩
  .have p:(u++(I++(M1++y++X))).Perm (y++(I++(M1++u++X))):=by rw[S7];intro a;simp only[Th];lia
   exact(Rj.mp ((p.nodup_iff).mp nd)).2.1
  .exact(w.sm sm (λ_ _ _ e=>e)).app (ins sm (λ_ _ _ e=>e) (h.sm sm (λ_ _ _ e=>e)))
end
inductive Rr where
 |rf(i:Nat)|fr(a:A)|nw(o:LO)
noncomputable abbrev Mi(α:Type):=List Sl->Option (Except Str α×List Sl)
noncomputable def aO{α D:Type}(m:Mi α)(f:α->Mi D):Mi D:=λZ=>match m Z with
 |some (.ok x,U)=>f x U
 |some (.error e,U)=>some (.error e,U)
 |none=>none
noncomputable def lG{α:Type}(x:α):Mi α:=λZ=>some (.ok x,Z)
noncomputable def cq:Rr->V->St->St
 | .rf _,_,B=>B
 | .fr _,v,B=>some v::B
 | .nw _,v,B=>some v::B
noncomputable def cp:Rr->List Sl->List Sl
 | .rf _,θ=>θ
 | .fr a,θ=>.fr a::θ
 | .nw o,θ=>.lv o::θ
def VR(Y:St):Rr->V->Prop
 | .rf i,v=>Y[i]?=some (some v)
 |_,_=>True
def res(Z:List Sl):Rr->Option A
 | .rf i=>match Z[i]? with
  |some s=>s.a
  |none=>none
 | .fr a=>some a
 | .nw o=>o.rd
def OH(K:Kx)(E:XK)(c:Cn)(Y:St)(Z:List Sl)(B:St)(θ:List Sl)(Q:VK):Except Str Rr->Prop
 | .ok r=>∀v H,VR Y r v->Bd c Y H Z (cq r v B) (cp r θ)->Q v H
 | .error x=>∀C H,K.mg x=some (.ref C)->Bd c Y H Z B θ->E (.ref C) none H
inductive kF(K:Kx)(E:XK)(m:Mi Rr)(Y:St)(H:Hp)(Q:VK):Prop
 |mk(c:Cn)(Z:List Sl)(B:St)(θ:List Sl)(o:Except Str Rr)(O:List Sl)(h1:c.toKx=K)(h2:Bd c Y H Z B θ)(h3:m Z=some (o,O))(h4:OH K E c Y O B θ Q o)
def K5(K:Kx)(E:XK)(c:Cn)(Y:St)(Z:List Sl)(B:St)(θ:List Sl)(Q:Bool->Hp->Prop):Except Str Bool->Prop
 | .ok b=>∀H,Bd c Y H Z B θ->Q b H
 | .error x=>∀C H,K.mg x=some (.ref C)->Bd c Y H Z B θ->E (.ref C) none H
inductive CP(K:Kx)(E:XK)(m:Mi Bool)(Y:St)(H:Hp)(Q:Bool->Hp->Prop):Prop
 |mk(c:Cn)(Z:List Sl)(B:St)(θ:List Sl)(o:Except Str Bool)(O:List Sl)(h1:c.toKx=K)(h2:Bd c Y H Z B θ)(h3:m Z=some (o,O))(h4:K5 K E c Y O B θ Q o)
def cz:List Rr->List V->St->St
 |r::rs,v::vs,B=>cz rs vs (cq r v B)
 |_,_,B=>B
def cB:List Rr->List Sl->List Sl
 |r::rs,θ=>cB rs (cp r θ)
 |[],θ=>θ
def kz(Y:St):List Rr->List V->Prop
 |[],[]=>True
 |r::rs,v::vs=>VR Y r v/\kz Y rs vs
 |_,_=>False
def LG(K:Kx)(E:XK)(c:Cn)(Y:St)(Z:List Sl)(B:St)(θ:List Sl)(Q:List V->Hp->Prop):Except Str (List Rr)->Prop
 | .ok rs=>∀vs H,kz Y rs vs->Bd c Y H Z (cz rs vs B) (cB rs θ)->Q vs H
 | .error x=>∀C H,K.mg x=some (.ref C)->Bd c Y H Z B θ->E (.ref C) none H
inductive Kd(K:Kx)(E:XK)(m:Mi (List Rr))(Y:St)(H:Hp)(Q:List V->Hp->Prop):Prop
 |mk(c:Cn)(Z:List Sl)(B:St)(θ:List Sl)(o:Except Str (List Rr))(O:List Sl)(h1:c.toKx=K)(h2:Bd c Y H Z B θ)(h3:m Z=some (o,O))(h4:LG K E c Y O B θ Q o)
noncomputable abbrev kx(X:Cx):Kx:=⟨X.K,X.mg,X.prog,X.w⟩
structure JE(X:Cx)(E:XK)(e:Expr)(m:Mi Rr):Prop where
 p:PE X e (kF (kx X) E m)
structure JT(X:Cx)(E:XK)(e:Expr)(m:Mi Bool):Prop where
 p:PT X e (CP (kx X) E m)
structure JW(X:Cx)(E:XK)(e:Expr)(m:Mi Bool):Prop where
 p:PW X e (CP (kx X) E m)
structure JA(X:Cx)(E:XK)(es:List Expr)(m:Mi (List Rr)):Prop where
 p:PA X es (Kd (kx X) E m)
variable{X:Cx}{e:Expr}
theorem PE.weaken{t t':TE}(h:PE X e t)(f:∀Y H Q,t' Y H Q->t Y H Q):PE X e t':=λpins s Y H Q I q=>h pins s Y H Q I (f Y H Q q)
variable{t':TT}
theorem PT.weaken{t:TT}(h:PT X e t)(f:∀Y H Q,t' Y H Q->t Y H Q):PT X e t':=λpins s Y H Q I q=>h pins s Y H Q I (f Y H Q q)
theorem PW.weaken{t:TT}(h:PW X e t)(f:∀Y H Q,t' Y H Q->t Y H Q):PW X e t':=λR pins s Y H Q I q=>h R pins s Y H Q I (f Y H Q q)
theorem PA.weaken{e:List Expr}{t t':TA}(h:PA X e t)(f:∀Y H Q,t' Y H Q->t Y H Q):PA X e t':=λpos pins s Y H Q I q=>h pos pins s Y H Q I (f Y H Q q)
section
variable{c:Cn}{Y:St}{H:Hp}{Z:List Sl}{B:St}{θ:List Sl}
theorem Bd.drop{r:Rr}{v:V}(b:Bd c Y H Z (cq r v B) (cp r θ)):Bd c Y H Z B θ:=by
 cases r with
 |rf i=>exact b
 |fr a=>exact Bd.pop b
 |nw o=>exact Bd.pop b
theorem Bd.drops:∀{rs:List Rr}{vs:List V}{B:St}{θ:List Sl},rs.length=vs.length->Bd c Y H Z (cz rs vs B) (cB rs θ)->Bd c Y H Z B θ
 |[],[],_,_,_,b=>b
 |r::rs,v::vs,_,_,e,b=>Bd.drop (r:=r) (v:=v) (Bd.drops (by simpa using e) b)
 |[],_::_,_,_,e,_=>by simp at e
 |_::_,[],_,_,e,_=>by simp at e
theorem Bd.top{v:V}{a:A}(b:Bd c Y H Z (some v::B) (s::θ))(e:s.a=some a):RA c.toKx H v a:=by
 obtain⟨L,nd,rel,_⟩:=b;cases rel with
 |cons h r=>obtain⟨u,z,q⟩:=h.read (g_same _ _ _) e;cases z;exact q
theorem Bd.rd{r:Rr}{v:V}{a:A}(b:Bd c Y H Z (cq r v B) (cp r θ))(x:VR Y r v)(e:res Z r=some a):RA c.toKx H v a:=by
 cases r with
 |rf i=>
  delta res at e
  cases es:Z[i]? with
  |none=>simp only[es] at e;cases e
  |some s=>simp only[es] at e;obtain⟨u,h1,h2⟩:=Bd.slot b es e;rw[x] at h1;cases h1;exact h2
 |fr a'=>cases e;exact Bd.top b rfl
 |nw o=>exact Bd.top b e
theorem d9.items{k:Kx}{x:Option V}(h:d9 k G H x s L)(sm:Sq G H):
  (∀as,s.a=some (.lst as)->∃p vs,x=some (.ref p)/\dI k.K H p vs/\bF k G vs as)/\(∀as,s.a=some (.tup as)->∃p vs,x=some (.ref p)/\i4 k.K G p vs/\bF k G vs as) /\
  (∀as,s.a=some (.dic as)->∃p vs,x=some (.ref p)/\Rd H p (.dK vs)/\vS k G vs as):=by
 have lo:∀p o q,LR k G H p o q->(∀as,o.rd=some (A.lst as)->∃vs,dI k.K H p vs/\bF k G vs as)/\(∀as,o.rd≠some (A.tup as))/\(∀as,o.rd=some (A.dic as)->∃vs,Rd H p (.dK vs)/\vS k G vs as):=by
  intro p o q h;cases h with
  |lst e r=>exact⟨λas z=>by cases z;exact⟨_,.inl (.inl e),r⟩,λas z=>(by cases z),λas z=>(by cases z)⟩
  |dic e r=>exact⟨λas z=>(by cases z),λas z=>(by cases z),λas z=>by cases z;exact⟨_,.inl e,r⟩⟩
  |obj e m r=>exact⟨λas z=>(by cases z),λas z=>(by cases z),λas z=>(by cases z)⟩
  |dit e r=>exact⟨λas z=>(by cases z),λas z=>(by cases z),λas z=>(by cases z)⟩
  |nob e m r l=>exact⟨λas z=>(by cases z),λas z=>(by cases z),λas z=>(by cases z)⟩
 cases h with
 |un=>exact⟨λ_ z=>(by cases z),λ_ z=>(by cases z),λ_ z=>(by cases z)⟩
 |fr h=>
  refine⟨λas z=>?_,λas z=>?_,λas z=>?_⟩
  .cases z;cases h with|lst e r=>exact⟨_,_,rfl,eU sm e,r⟩
  .cases z;cases h with|tup e r=>exact⟨_,_,rfl,e,r⟩
  .cases z;cases h with|dic e r=>exact⟨_,_,rfl,sm.Pc e,r⟩
 |cf h=>
  refine⟨λas z=>?_,λas z=>?_,λas z=>?_⟩
  .cases z;cases h with|lst e r=>exact⟨_,_,rfl,eU sm e,r⟩
  .cases z;cases h with|tup e r=>exact⟨_,_,rfl,e,r⟩
  .cases z;cases h with|dic e r=>exact⟨_,_,rfl,sm.Pc e,r⟩
 |lv h=>
  rename_i p o q;obtain⟨Z,g,F⟩:=lo p o q h;refine⟨λas z=>?_,λas z=>absurd z (g as),λas z=>?_⟩
  .obtain⟨vs,h1,h2⟩:=Z as z;exact⟨p,vs,rfl,h1,h2⟩
  .obtain⟨vs,h1,h2⟩:=F as z;exact⟨p,vs,rfl,h1,h2⟩
 |pv h=>
  rename_i p o q;obtain⟨Z,g,F⟩:=lo p o q h;refine⟨λas z=>?_,λas z=>absurd z (g as),λas z=>?_⟩
  .obtain⟨vs,h1,h2⟩:=Z as z;exact⟨p,vs,rfl,h1,h2⟩
  .obtain⟨vs,h1,h2⟩:=F as z;exact⟨p,vs,rfl,h1,h2⟩
def xm(c:Cn)(H:Hp)(L:List Addr)(v:V)(a:A):Prop:=
  (∀as,a=.lst as->∃p vs,v=.ref p/\dI c.K H p vs/\bF c.toKx (c.g H L) vs as)/\(∀as,a=.tup as->∃p vs,v=.ref p/\i4 c.K (c.g H L) p vs/\bF c.toKx (c.g H L) vs as) /\
  (∀as,a=.dic as->∃p vs,v=.ref p/\Rd H p (.dK vs)/\vS c.toKx (c.g H L) vs as)
theorem xm.mono{v:V}{a:A}(h:xm c H L v a)(s:∀a,a∈L'->a∈L):xm c H L' v a:=by
 obtain⟨h1,h2,h3⟩:=h;refine⟨λas e=>?_,λas e=>?_,λas e=>?_⟩
 .obtain⟨p,vs,T,j,N⟩:=h1 as e;exact⟨p,vs,T,j,N.sm (dq s)⟩
 .obtain⟨p,vs,T,j,N⟩:=h2 as e;exact⟨p,vs,T,fK (dq s) j,N.sm (dq s)⟩
 .obtain⟨p,vs,T,j,N⟩:=h3 as e;exact⟨p,vs,T,j,N.sm (dq s)⟩
theorem xm.of{L2:List Addr}{x:Option V}{v:V}{a:A}(ex:x=some v)(h:d9 c.toKx (c.g H L) H x s L2)(N:s.a=some a):xm c H L v a:=by
 subst ex;obtain⟨Z,Y,F⟩:=h.items (g_same _ _ _);refine⟨λas z=>?_,λas z=>?_,λas z=>?_⟩<;>subst z
 .obtain⟨p,vs,q,h1,h2⟩:=Z as N;exact⟨p,vs,Rv q,h1,h2⟩
 .obtain⟨p,vs,q,h1,h2⟩:=Y as N;exact⟨p,vs,Rv q,h1,h2⟩
 .obtain⟨p,vs,q,h1,h2⟩:=F as N;exact⟨p,vs,Rv q,h1,h2⟩
theorem dQ.open{r:Rr}{v:V}{a:A}{u:List Addr}(b:dQ c Y H Z (cq r v B) (cp r θ) u)(t:VR Y r v)(e:res Z r=some a):∃L,(∀a,a∈L->a∈u)/\dQ c Y H Z B θ L/\xm c H L v a:=by
 have q:∀s,dQ c Y H Z (some v::B) (s::θ) u->s.a=some a->∃L,(∀a,a∈L->a∈u)/\dQ c Y H Z B θ L/\xm c H L v a:=by
  intro s b N;obtain⟨nd,rel,own,fr,kp,lt,y⟩:=b;have rel:av c.toKx (c.g H u) H (some v::(B++Y)) (s::(θ++Z)) u:=rel;cases rel with
  |cons h r=>rename_i I L2;have sm:Sq (c.g H (I++L2)) (c.g H L2):=dq λa ha=>Q2 _ ha;exact⟨L2,λa ha=>Q2 _ ha,⟨(Rj.mp nd).2.1,r.sm sm (λ_ _ _ e=>e),λp hp=>own p (Q2 _ hp),fr,kp,by simpa using lt,y⟩,xm.of rfl (h.sm sm (λ_ _ _ e=>e)) N⟩
 cases r with
 |rf i=>
  unfold res at e;cases es:Z[i]? with
  |none=>simp only[es] at e;cases e
  |some s=>simp only[es] at e;obtain⟨I,L2,e1,w,k⟩:=av.split b.lt b.rel;obtain⟨x,_,_,_,hx,hs,_⟩:=k.at es;have t:Y[i]?=some (some v):=t;rw[t] at hx;exact⟨u,λ_ h=>h,b,xm.of (Rv hx).symm hs e⟩
 |fr a'=>exact q _ b e
 |nw o=>exact q _ b e
theorem Bd.open{r:Rr}{v:V}{a:A}(b:Bd c Y H Z (cq r v B) (cp r θ))(x:VR Y r v)(e:res Z r=some a):∃L,dQ c Y H Z B θ L/\xm c H L v a:=by obtain⟨L,b⟩:=b;obtain⟨L',_,h⟩:=b.open x e;exact⟨L',h⟩
theorem Bd.zd{r r':Rr}{v o:V}{a a':A}(b:Bd c Y H Z (cq r' o (cq r v B)) (cp r' (cp r θ)))(x:VR Y r v)(s:VR Y r' o)(e:res Z r=some a)(k:res Z r'=some a'):∃L,dQ c Y H Z B θ L/\xm c H L v a/\xm c H L o a':=by obtain⟨L,b⟩:=b;obtain⟨I,s1,n,h⟩:=b.open s k;obtain⟨L2,s2,q,Q⟩:=n.open x e;exact⟨L2,q,Q,h.mono s2⟩
end
variable{pos:Pos}{O:List Sl}{ma mb:Mi Rr}{Q:VK}{r:R2}{op:YB}{mt:Mi Bool}{es:List Expr}
section
variable{X:Cx}{E:XK}
noncomputable def ae(i:Nat):Mi Rr:=λZ=>match Z[i]? with
 |some (.fr a)=>some (.ok (.fr a),Z)
 |some (.cf a)=>some (.ok (.fr a),Z)
 |some (.lv _)=>some (.ok (.rf i),Z)
 |some (.pv _)=>some (.ok (.rf i),Z)
 |_=>none
noncomputable def ai(i:Nat):Mi Rr:=λZ=>match Z[i]? with
 |some (.fr a)=>some (.ok (.fr a),Z)
 |some (.cf a)=>some (.ok (.fr a),Z)
 |some (.lv o)=>some (.ok (.fr o.a),Z.set i (.fr o.a))
 |_=>none
noncomputable def mC(a:A):Mi Rr:=λZ=>some (.ok (.fr a),Z)
theorem IT{x:Str}(hN:X.N[i]?=some x)(t:mL X.env.scope x)(hd:eV x)(R:pE x):JE X E (.Name x pos) (ae i):=
 ⟨PE.weaken (bW hN t hd R) λY H Q h=>by
  obtain⟨c,Z,B,θ,o,O,e,b,em,q⟩:=h
  delta ae at em
  cases es:Z[i]? with
  |none=>rw[es] at em;cases em
  |some s=>
   cases s with
   |un=>rw[es] at em;cases em
   |fr a=>rw[es] at em;cases em;obtain⟨v,h1,h2⟩:=b.load es;exact⟨v,h1,q v H trivial h2⟩
   |cf a=>rw[es] at em;cases em;obtain⟨v,h1,h2⟩:=b.Fd es;exact⟨v,h1,q v H trivial h2⟩
   |lv o=>simp only[es] at em;cases em;obtain⟨p,h1⟩:=b.Et (.inl es);exact⟨_,h1,q _ H h1 b⟩
   | pv o=>simp only[es] at em;cases em;obtain⟨p,h1⟩:=b.Et (.inr es);exact⟨_,h1,q _ H h1 b⟩⟩
theorem BY{x:Str}(hN:X.N[i]?=some x)(t:mL X.env.scope x)(hd:eV x)(R:pE x):JE X E (.Name x pos) (ai i):=
 ⟨PE.weaken (bW hN t hd R) λY H Q h=>by
  obtain⟨c,Z,B,θ,o,O,e,b,em,q⟩:=h
  delta ai at em
  cases es:Z[i]? with
  |none=>rw[es] at em;cases em
  |some s=>
   cases s with
   |un=>rw[es] at em;cases em
   |fr a=>rw[es] at em;cases em;obtain⟨v,h1,h2⟩:=b.load es;exact⟨v,h1,q v H trivial h2⟩
   |cf a=>rw[es] at em;cases em;obtain⟨v,h1,h2⟩:=b.Fd es;exact⟨v,h1,q v H trivial h2⟩
   |lv o=>rw[es] at em;cases em;have r:=b.uN es;have hi:=(Q4.mp es).1;obtain⟨v,h1,h2⟩:=r.load (Rl hi);exact⟨v,h1,q v H trivial h2⟩
   | pv o=>rw[es] at em;cases em⟩
theorem Au{v:V}{a:A}(h:PE X e (tC v))(r:∀G,RA (kx X) G v a):JE X E e (mC a):=⟨PE.weaken h λY H Q h=>by obtain⟨c,Z,B,θ,o,O,s,b,em,q⟩:=h;cases em;exact q v H trivial (b.push (by rw[s];exact r))⟩
theorem HD{i j pos}:JE X E (.Constant (.int i) j pos) (mC (.int i)):=Au IZ λ_=>.int _
theorem Mz{b j pos}:JE X E (.Constant (.bool b) j pos) (mC (.bl b)):=Au KI λ_=>.bl _
theorem Hb{j pos}:JE X E (.Constant .none j pos) (mC .non):=Au FL λ_=>.non
theorem Ge{x j pos}:JE X E (.Constant (.str x) j pos) (mC (.str x)):=Au Ia λ_=>.str _
theorem Ee{x:Str}{v:V}{u:Value}{a:A}(J:Gl X x)(hm:X.mg x=some u)(r:RelV v u)(s:∀G,RA (kx X) G v a)(hd:eV x):JE X E (.Name x pos) (mC a):=Au (oK J hm r hd) s
def aA(f:A->A->Option Rr)(ma mb:Mi Rr):Mi Rr:=aO ma λx=>aO mb λy=>λZ=>match res Z x,res Z y with
 |some a,some b=>match f a b with
  |some r=>some (.ok r,Z)
  |none=>none
 |_,_=>none
def iY(K:Kx)(r:R2)(f:A->A->Option Rr):Prop:=∀(c:Cn)(Y:St)(H:Hp)(Z:List Sl)(B:St)(θ:List Sl)(x y:Rr)(v w:V)(a b:A)(q:Rr)(Q:VK),c.toKx=K->VR Y x v->VR Y y w->
 Bd c Y H Z (cq y w (cq x v B)) (cp y (cp x θ))->res Z x=some a->res Z y=some b->f a b=some q->(∀u H',VR Y q u->Bd c Y H' Z (cq q u B) (cp q θ)->Q u H')->r v w H Q
theorem bind_some{D:Type}{m:Mi α}{f:α->Mi D}{o:Except Str D}(h:aO m f Z=some (o,O)):(∃x U,m Z=some (.ok x,U)/\f x U=some (o,O))\/∃e,m Z=some (.error e,O)/\o=.error e:=by
 delta aO at h
 cases e:m Z with
 |none=>rw[e] at h;cases h
 |some p=>
  obtain⟨r,U⟩:=p;cases r with
  |ok x=>rw[e] at h;exact .inl ⟨x,U,rfl,h⟩
  |error x=>simp only[e] at h;cases h;exact .inr ⟨x,rfl,rfl⟩
theorem aZ{D:Type}{f:Rr->Mi D}{o:Except Str D}(s:c.toKx=kx X)(b:Bd c Y H Z B θ)(em:aO ma f Z=some (o,O))
  (h1:∀x v U S,VR Y x v->Bd c Y S U (cq x v B) (cp x θ)->f x U=some (o,O)->Q v S)
  (h2:∀e,o=.error e->∀C H,X.mg e=some (.ref C)->Bd c Y H O B θ->E (.ref C) none H):kF (kx X) E ma Y H Q:=by
 rcases bind_some em with ⟨x,U,e1,e2⟩|⟨e,e1,e2⟩
 .exact⟨c,Z,B,θ,_,U,s,b,e1,λv S t n=>h1 x v U S t n e2⟩
 .exact⟨c,Z,B,θ,_,O,s,b,e1,λC S hm n=>h2 e e2 C S hm n⟩
theorem dj{x:Rr}{v:V}{D:Type}{o:Except Str D}(h:∀e,o=.error e->∀C H,X.mg e=some (.ref C)->Bd c Y H O B θ->E (.ref C) none H):
  ∀e,o=.error e->∀C H,X.mg e=some (.ref C)->Bd c Y H O (cq x v B) (cp x θ)->E (.ref C) none H:=λe a C H hm b=>h e a C H hm b.drop
theorem bB{o:Except Str Rr}(q:OH (kx X) E c Y O B θ Q o):∀e,o=.error e->∀C H,X.mg e=some (.ref C)->Bd c Y H O B θ->E (.ref C) none H:=λe a=>by subst a;exact q
theorem i7{o:Except Str Bool}{Q:Bool->Hp->Prop}(q:K5 (kx X) E c Y O B θ Q o):∀e,o=.error e->∀C H,X.mg e=some (.ref C)->Bd c Y H O B θ->E (.ref C) none H:=λe a=>by subst a;exact q
theorem xU{o:Except Str (List Rr)}{Q:List V->Hp->Prop}(q:LG (kx X) E c Y O B θ Q o):∀e,o=.error e->∀C H,X.mg e=some (.ref C)->Bd c Y H O B θ->E (.ref C) none H:=λe a=>by subst a;exact q
theorem uc{f:A->A->Option Rr}{x y:Rr}{o:Except Str Rr}(h:(match res Z x,res Z y with|some a,some b=>(match f a b with|some r=>some ((.ok r:Except Str Rr),Z)|none=>none)|_,_=>none)=some (o,O)):
  ∃a b r,res Z x=some a/\res Z y=some b/\f a b=some r/\o=.ok r/\O=Z:=by
 cases e1:res Z x with
 |none=>rw[e1] at h;cases h
 |some a=>
  cases e2:res Z y with
  |none=>rw[e1,e2] at h;cases h
  |some b=>
   rw[e1,e2] at h;cases L:f a b with
   |none=>simp only[L] at h;cases h
   |some r=>simp only[L] at h;cases h;exact⟨a,b,r,rfl,rfl,L,rfl,rfl⟩
theorem jc{f:A->A->Option Rr}(hf:iY (kx X) r f)(Y:St)(H:Hp)(Q:VK)(h:kF (kx X) E (aA f ma mb) Y H Q):Kb r (kF (kx X) E ma) (kF (kx X) E mb) Y H Q:=by obtain⟨c,Z,B,θ,o,O,e,b,em,q⟩:=h;refine aZ e b em (λx v U S t n u=>?_) (bB q);refine aZ e n u (λy w Z' P G m z=>?_) (dj (bB q));obtain⟨a,d,r,e1,e2,L,rfl,rfl⟩:=uc z;exact hf c Y P _ B θ x y v w a d r Q e t G m e1 e2 L q
theorem lM{op:Zp}{f:A->A->Option Rr}{a b:Expr}(ho:iC X (Yu op) r)(hf:iY (kx X) r f)(ha:JE X E a ma)(d:JE X E b mb):JE X E (.BinOp a op b pos) (aA f ma mb):=
 ⟨PE.weaken (Ma ho ha.p d.p) (jc hf)⟩
theorem fM{f:A->A->Option Rr}{a b:Expr}(ho:iC X (Yi op) r)(hf:iY (kx X) r f)(ha:JE X E a ma)(d:JE X E b mb)(hm:Yh op b=false):JE X E (.Compare a [op] [b] pos) (aA f ma mb):=
 ⟨PE.weaken (De ho ha.p d.p hm) (jc hf)⟩
noncomputable def Qn:Rr->Option Bool
 | .fr (.bl b)=>some b
 |_=>none
def aq(m:Mi Rr):Mi Bool:=aO m λr Z=>match Qn r with
 |some b=>some (.ok b,Z)
 |none=>none
theorem jY{m:Mi Rr}(Y:St)(H:Hp)(Q:Bool->Hp->Prop)(h:CP (kx X) E (aq m) Y H Q):kF (kx X) E m Y H λx H'=>∃k,x=.bl k/\Q k H':=by
 obtain⟨c,Z,B,θ,o,O,e,b,em,q⟩:=h;refine aZ e b em (λx v U S t n u=>?_) (i7 q);cases x with
 |rf i=>cases u
 |nw o=>cases u
 |fr a=>
  cases a with
  |bl k=>cases u;have r:=Bd.top n rfl;cases r;exact⟨k,rfl,q S n.pop⟩
  |_=>exact cu u
theorem fP{f:A->A->Option Rr}{a b:Expr}(ho:iC X (Yi op) r)(hf:iY (kx X) r f)(ha:JE X E a ma)(d:JE X E b mb)(hm:Yh op b=false):JT X E (.Compare a [op] [b] pos) (aq (aA f ma mb)):=
 ⟨PT.weaken (DM ho ha.p d.p hm) λY H Q h=>jc hf Y H _ (jY Y H Q h)⟩
theorem FQ{m:Mi Rr}(h:JE X E e m)(he:∀whole,Zg e X.env whole=(do let v <- whole;YE e.pos;holding [v] (truthy v)):=by intro _;rfl):JT X E e (aq m):=
 ⟨PT.weaken (JY h.p he) λY H Q h=>jY Y H Q h⟩
def jG(m n:Mi Bool):Mi Bool:=aO m λb=>if b then n else lG false
def xl(m n:Mi Bool):Mi Bool:=aO m λb=>if b then lG true else n
def mx(m:Mi Bool):Mi Bool:=aO m λb=>lG (!b)
theorem jy{D:Type}{m:Mi Bool}{f:Bool->Mi D}{o:Except Str D}{Q:Bool->Hp->Prop}(s:c.toKx=kx X)(b:Bd c Y H Z B θ)(em:aO m f Z=some (o,O))
  (h1:∀k U S,Bd c Y S U B θ->f k U=some (o,O)->Q k S)
  (h2:∀e,o=.error e->∀C H,X.mg e=some (.ref C)->Bd c Y H O B θ->E (.ref C) none H):CP (kx X) E m Y H Q:=by
 rcases bind_some em with ⟨x,U,e1,e2⟩|⟨e,e1,e2⟩
 .exact⟨c,Z,B,θ,_,U,s,b,e1,λS n=>h1 x U S n e2⟩
 .exact⟨c,Z,B,θ,_,O,s,b,e1,λC S hm n=>h2 e e2 C S hm n⟩
theorem Jd{a:Expr}{m:Mi Bool}(h:JT X E a m):JT X E (.UnaryOp .Not a pos) (mx m):=⟨PT.weaken (IC h.p) λY H Q h=>by obtain⟨c,Z,B,θ,o,O,e,b,em,q⟩:=h;refine jy e b em (λk U S n u=>?_) (i7 q);cases u;exact q S n⟩
theorem Ec{a:Expr}{m:Mi Bool}(h:JT X E a m):JW X E (.BoolOp .And [a] pos) m:=⟨Ck h.p⟩
theorem G5{a:Expr}{m:Mi Bool}(h:JT X E a m):JW X E (.BoolOp .Or [a] pos) m:=⟨Jw h.p⟩
theorem F9{a b:Expr}{rest:List Expr}{m n:Mi Bool}(h:JT X E a m)(h':JW X E (.BoolOp .And (b::rest) pos) n):JW X E (.BoolOp .And (a::b::rest) pos) (jG m n):=⟨PW.weaken (J0 h.p h'.p) λY H Q h=>by
 obtain⟨c,Z,B,θ,o,O,e,b,em,q⟩:=h;refine jy e b em (λk U S x u=>?_) (i7 q);cases k with
 |true=>rw[Zv rfl];exact⟨c,U,B,θ,o,O,e,x,u,q⟩
 | false=>rw[Zw Z1];cases u;exact q S x⟩
theorem Nh{a b:Expr}{rest:List Expr}{m n:Mi Bool}(h:JT X E a m)(h':JW X E (.BoolOp .Or (b::rest) pos) n):JW X E (.BoolOp .Or (a::b::rest) pos) (xl m n):=⟨PW.weaken (L4 h.p h'.p) λY H Q h=>by
 obtain⟨c,Z,B,θ,o,O,e,b,em,q⟩:=h;refine jy e b em (λk U S x u=>?_) (i7 q);cases k with
 |true=>rw[Zv rfl];cases u;exact q S x
 | false=>rw[Zw Z1];exact⟨c,U,B,θ,o,O,e,x,u,q⟩⟩
theorem KY{m:Mi Bool}(h:JW X E e m):JT X E e m:=⟨h.p.pt⟩
def kh(m n:Mi Rr):Mi Rr:=aO (aq m) λb=>if b then n else mC (.bl false)
def E5(m:Mi Rr):Mi Rr:=aO (aq m) λb=>mC (.bl (!b))
theorem u5{D:Type}{m:Mi Rr}{f:Bool->Mi D}{o:Except Str D}{Q:Bool->Hp->Prop}(s:c.toKx=kx X)(b:Bd c Y H Z B θ)(em:aO (aq m) f Z=some (o,O))
  (h1:∀k U S,Bd c Y S U B θ->f k U=some (o,O)->Q k S)
  (h2:∀e,o=.error e->∀C H,X.mg e=some (.ref C)->Bd c Y H O B θ->E (.ref C) none H):kF (kx X) E m Y H λx H'=>∃k,x=.bl k/\Q k H':=
 jY Y H Q (jy s b em h1 h2)
theorem Gr{op}{a:Expr}{m:Mi Rr}(h:JE X E a m):JE X E (.BoolOp op [a] pos) m:=⟨J5 h.p⟩
theorem G6{a b:Expr}{rest:List Expr}{m n:Mi Rr}(h:JE X E a m)(h':JE X E (.BoolOp .And (b::rest) pos) n):JE X E (.BoolOp .And (a::b::rest) pos) (kh m n):=⟨PE.weaken (FK h.p h'.p) λY H Q h=>by
 obtain⟨c,Z,B,θ,o,O,e,b,em,q⟩:=h;refine u5 e b em (λk U S x u=>?_) (bB q);cases k with
 |true=>rw[Zv rfl];exact⟨c,U,B,θ,o,O,e,x,u,q⟩
 | false=>rw[Zw Z1];cases u;exact q (.bl false) S trivial (x.push λ_=>.bl _)⟩
theorem FU{a:Expr}{m:Mi Rr}(h:JE X E a m):JE X E (.UnaryOp .Not a pos) (E5 m):=⟨PE.weaken (Ho h.p) λY H Q h=>by obtain⟨c,Z,B,θ,o,O,e,b,em,q⟩:=h;refine u5 e b em (λk U S n u=>?_) (bB q);cases u;exact q (.bl (!k)) S trivial (n.push λ_=>.bl _)⟩
def K7(t:Mi Bool)(m n:Mi Rr):Mi Rr:=aO t λb=>if b then m else n
theorem Mx{t a b:Expr}{m n:Mi Rr}(j:JT X E t mt)(ha:JE X E a m)(d:JE X E b n):JE X E (.IfExp t a b pos) (K7 mt m n):=⟨PE.weaken (xC j.p ha.p d.p) λY H Q h=>by
 obtain⟨c,Z,B,θ,o,O,e,b,em,q⟩:=h;refine jy e b em (λk U S x u=>?_) (bB q);cases k with
 |true=>rw[Zv rfl];exact⟨c,U,B,θ,o,O,e,x,u,q⟩
 | false=>rw[Zw Z1];exact⟨c,U,B,θ,o,O,e,x,u,q⟩⟩
def dy:Mi (List Rr):=lG []
def cA(m:Mi Rr)(n:Mi (List Rr)):Mi (List Rr):=aO m λr=>aO n λrs=>lG (r::rs)
theorem sF:JA X E [] dy:=⟨PA.weaken cc λY H Q h=>by obtain⟨c,Z,B,θ,o,O,e,b,em,q⟩:=h;cases em;exact q [] H trivial b⟩
theorem kL{m:Mi Rr}{n:Mi (List Rr)}(h:JE X E e m)(h':JA X E es n)(hs:XU (e::es) X.env=(false,eval e X.env)::XU es X.env:=by rfl):JA X E (e::es) (cA m n):=⟨PA.weaken (aR h.p h'.p hs) λY H Q h=>by
 obtain⟨c,Z,B,θ,o,O,ek,b,em,q⟩:=h;refine aZ ek b em (λx v U H1 hv b1 em1=>?_) (xU q);rcases bind_some em1 with ⟨rs,Z',e1,e2⟩|⟨e,e1,e2⟩
 .cases e2;exact⟨c,U,_,_,_,O,ek,b1,e1,λvs H2 hvs b2=>q (v::vs) H2 ⟨hv,hvs⟩ b2⟩
 .subst e2;exact⟨c,U,_,_,_,O,ek,b1,e1,λC H2 hm b2=>q C H2 hm b2.drop⟩⟩
end
variable{xs:St}{ss:List Sl}{rs:List Rr}
section
variable{c:Cn}{Y:St}{H:Hp}{Z:List Sl}{B:St}{θ:List Sl}
theorem zD{l:List α}{x:α}(h:l[i]?=some x):l.set i x=l:=by
 apply SI;intro j;by_cases z:j=i
 .subst z;rw[Rl (Q4.mp h).1,h]
 .rw[Rx (R7 z)]
theorem D5(h:∀a,a∈L↔a∈L'):c.g H L=c.g H L':=by
 funext a
 by_cases z:a∈L\/a∈c.Hd
 .rw[gf z,gf (by rwa[<-h a])]
 .rw[bf (λy=>z (.inl y)) (λy=>z (.inr y)),bf (λy=>z (.inl ((h a).mpr y))) (λy=>z (.inr y))]
theorem dQ.perm(b:dQ c Y H Z B θ L){J:St}{T:List Sl}(pm:L'.Perm L)(lt:J.length=T.length)(r:av c.toKx (c.g H L) H (J++Y) (T++O) L')(kp:eu c.σ0 Y O):dQ c Y H O J T L':=
 ⟨(pm.nodup_iff).mpr b.nd,by rw[D5 (L':=L) λa=>pm.mem_iff];exact r,λp hp=>b.own p (pm.mem_iff.mp hp),b.fr,kp,lt,b.hd⟩
theorem Bd.Mr{v:V}(e:xs.length=ss.length)(b:Bd c Y H Z (xs++some v::B) (ss++.lv o::θ)):Bd c Y H Z (xs++some v::B) (ss++.fr o.a::θ):=by
 obtain⟨L,b⟩:=b;have r:av c.toKx (c.g H L) H (xs++(some v::(B++Y))) (ss++(.lv o::(θ++Z))) L:=by have:=b.rel;simpa[Q6] using this
 obtain⟨I,L2,e1,w,i⟩:=av.split e r;cases i with
 |cons h m=>
  rename_i E A;cases h with
  |lv h=>
   rename_i p q;have nd:=b.nd;rw[e1,<-Q6] at nd;obtain⟨n,hp⟩:=iT nd;have sub:∀a,a∈I++A->a∈L:=λa ha=>by rw[e1];simp at ha ⊢;rcases ha with z|z<;>simp[z]
   have sm:Sq (c.g H L) (c.g H (I++A)):=dq sub;refine⟨I++A,n,?_,λq O=>b.own q (sub q O),b.fr,b.kp,by have:=b.lt;simp at this ⊢;exact id ‹_›,b.hd⟩;have:=(w.sm sm (λ_ _ _ e=>e)).app (av.cons (L:=[]) (.fr (h.a' sm λa ha u e=>by rw[bf (hp a ha) (b.xg (by rw[e1];exact Q2 _ (Q8 _ ha)))];exact e)) (m.sm sm (λ_ _ _ e=>e)));simpa[Q6] using this
theorem Bd.D6{v:V}{a:A}(e:xs.length=ss.length)(b:Bd c Y H Z (xs++B) (ss++θ))(t:Y[i]?=some (some v))(hs:Z[i]?=some (.fr a)):Bd c Y H Z (xs++some v::B) (ss++.fr a::θ):=by
 obtain⟨L,b⟩:=b;obtain⟨M1,y,_,_,k⟩:=av.split b.lt b.rel;obtain⟨x,_,_,_,hx,o,_⟩:=k.at hs;rw[t] at hx;cases hx;cases o with
 |fr h=>
  have r:av c.toKx (c.g H L) H (xs++(B++Y)) (ss++(θ++Z)) L:=by have:=b.rel;simpa[Q6] using this
  obtain⟨I,L2,e1,w,k⟩:=av.split e r;refine⟨L,b.nd,?_,b.own,b.fr,b.kp,by have:=b.lt;simp at this ⊢;lia,b.hd⟩;have:=w.app (av.cons (L:=[]) (.fr h) k);rw[e1] at this ⊢;simpa[Q6] using this
theorem ya(I L2 M1 X q:List Addr):(I++(q++(L2++(M1++X)))).Perm (I++(L2++(M1++(q++X)))):=by rw[S7];intro a;simp only[Th];lia
theorem Bd.zX{v:V}(e:xs.length=ss.length)(b:Bd c Y H Z (xs++B) (ss++θ))(E:Y[i]?=some (some v))(hs:Z[i]?=some s)(hk:s=.lv o\/s=.pv o):
  Bd c Y H (Z.set i .un) (xs++some v::B) (ss++.lv o::θ):=by
 obtain⟨L,b⟩:=b;have r:av c.toKx (c.g H L) H (xs++(B++Y)) (ss++(θ++Z)) L:=by have:=b.rel;simpa[Q6] using this
 obtain⟨I,L2,e1,w,k⟩:=av.split e r;obtain⟨G,a,e2,m,D⟩:=av.split (by have:=b.lt;simp at this;lia) k;obtain⟨x,M1,P,X,hx,A,T,ins⟩:=D.at hs;rw[E] at hx;cases hx;have fin:∀p q,v=.ref p->P=p::q->LR c.toKx (c.g H L) H p o q->Bd c Y H (Z.set i .un) (xs++some v::B) (ss++.lv o::θ):=by
  intro p q j em h;subst j em;have f:=ins (y:=some (.ref p)) (t:=.un) (L':=[]) (Sq.refl _) (λ_ _ _ e=>e) (.un _);rw[zD E] at f;have F:=w.app (av.cons (d9.lv h) (m.app f));have pm:(I++((p::q)++(G++(M1++[]++X)))).Perm L:=by rw[e1,e2,T];simpa using ya I G M1 X (p::q)
  exact⟨_,b.perm pm (by have:=b.lt;simp at this ⊢;lia) (by simpa[Q6] using F) (b.kp.CQ (λz=>by cases z))⟩
 rcases hk with rfl|rfl
 .cases A with|lv h=>exact fin _ _ rfl rfl h
 .cases A with|pv h=>exact fin _ _ rfl rfl h
theorem Bd.putBack{v:V}{t:Sl}(b:Bd c Y H Z (some v::B) (.lv o::θ))(E:Y[i]?=some (some v))(hs:Z[i]?=some .un)(hk:t=.lv o\/(t=.pv o/\Y[i]?=c.σ0[i]?)):Bd c Y H (Z.set i t) B θ:=by
 obtain⟨L,b⟩:=b;have r:av c.toKx (c.g H L) H (some v::(B++Y)) (.lv o::(θ++Z)) L:=b.rel;cases r with
 |cons h r=>
  rename_i u L';obtain⟨I,L2,e1,y,k⟩:=av.split (by have:=b.lt;simpa using this) r;obtain⟨x,M1,P,X,hx,A,T,ins⟩:=k.at hs;cases A with
  |un=>
   cases h with
   |lv h=>
    rename_i p q;have fin:d9 c.toKx (c.g H ((p::q)++L')) H (some (.ref p)) t (p::q)->eu c.σ0 Y (Z.set i t)->Bd c Y H (Z.set i t) B θ:=λh kp=>by
     have f:=ins (Sq.refl _) (λ_ _ _ e=>e) h;rw[zD E] at f;have pm:(I++(M1++(p::q)++X)).Perm ((p::q)++L'):=by rw[e1,T];rw[S7];intro a;simp only[Th,List.count_cons,List.count_nil];lia
     exact⟨_,b.perm pm (by have:=b.lt;simpa using this) (y.app f) kp⟩
    rcases hk with rfl|⟨rfl,hk⟩
    .exact fin (.lv h) (b.kp.CQ (λz=>by cases z))
    .refine fin (.pv h) λj o' q w=>?_;by_cases z:j=i
     .subst z;exact hk
     .rw[Rx (R7 z)] at q;exact b.kp j o' q w
theorem cV:∀(rs:List Rr)(vs:List V)(B:St),cz rs vs B=cz rs vs []++B
 |[],_,B=>rfl
 |r::rs,[],B=>rfl
 |r::rs,v::vs,B=>by show cz rs vs (cq r v B)=cz rs vs (cq r v [])++B;simp only[cV rs vs (cq r v B),cV rs vs (cq r v []),Q6];cases r<;>rfl
theorem cW:∀(rs:List Rr)(θ:List Sl),cB rs θ=cB rs []++θ
 |[],θ=>rfl
 |r::rs,θ=>by show cB rs (cp r θ)=cB rs (cp r [])++θ;simp only[cW rs (cp r θ),cW rs (cp r []),Q6];cases r<;>rfl
theorem kz.len:∀{rs:List Rr}{vs:List V},kz Y rs vs->rs.length=vs.length
 |[],[],_=>rfl
 |_::rs,_::vs,h=>by simp only[Rb,Rb,kz.len h.2]
 |[],_::_,h=>h.elim
 |_::_,[],h=>h.elim
theorem kT:∀(rs:List Rr)(vs:List V),rs.length=vs.length->(cz rs vs []).length=(cB rs []).length
 |[],[],_=>rfl
 |r::rs,v::vs,h=>by show (cz rs vs (cq r v [])).length=(cB rs (cp r [])).length;rw[cV,cW,Rn,Rn,kT rs vs (by simpa using h)];cases r<;>rfl
 |[],_::_,h=>by simp at h
 |_::_,[],h=>by simp at h
noncomputable def bE:Rr->List Sl->Option (A×List Sl)
 | .fr a,Z=>some (a,Z)
 | .nw o,Z=>some (o.a,Z)
 | .rf i,Z=>match Z[i]? with
  |some (.lv o)=>some (o.a,Z.set i (.fr o.a))
  |some (.fr a)=>some (a,Z)
  |_=>none
def dH:List Rr->List Sl->Option (List A×List Sl)
 |[],Z=>some ([],Z)
 |r::rs,Z=>match bE r Z with
  |some (a,U)=>match dH rs U with
   |some (as,Z')=>some (a::as,Z')
   |none=>none
  |none=>none
theorem Bd.bE{r:Rr}{v:V}{a:A}{O:List Sl}{xs:St}{ss:List Sl}(e:xs.length=ss.length)(b:Bd c Y H Z (xs++cq r v B) (ss++cp r θ))(t:VR Y r v)(h:bE r Z=some (a,O)):Bd c Y H O (xs++some v::B) (ss++.fr a::θ):=by
 cases r with
 |fr a'=>cases h;exact b
 |nw o=>cases h;exact Bd.Mr e b
 |rf i=>
  delta M.bE at h
  cases es:Z[i]? with
  |none=>simp only[es] at h;cases h
  |some s=>
   cases s with
   |un=>simp only[es] at h;cases h
   |pv o=>simp only[es] at h;cases h
   |cf o=>simp only[es] at h;cases h
   |fr a'=>simp only[es] at h;cases h;exact Bd.D6 e b t es
   |lv o=>simp only[es] at h;cases h;have q:=Bd.uN b es;exact Bd.D6 e q t (Rl (Q4.mp es).1)
theorem vR{r:Rr}{as:List A}(h:dH (r::rs) Z=some (as,O)):∃a H U,bE r Z=some (a,U)/\dH rs U=some (H,O)/\as=a::H:=by
 unfold dH at h;cases e1:bE r Z with
 |none=>rw[e1] at h;cases h
 |some p=>
  obtain⟨a,U⟩:=p;rw[e1] at h;cases e2:dH rs U with
  |none=>simp only[e2] at h;cases h
  |some q=>obtain⟨H,Z'⟩:=q;simp only[e2] at h;cases h;exact⟨a,H,U,rfl,e2,rfl⟩
theorem Bd.dH:∀{rs:List Rr}{vs:List V}{as:List A}{Z O:List Sl}{B:St}{θ:List Sl},kz Y rs vs->Bd c Y H Z (cz rs vs B) (cB rs θ)->dH rs Z=some (as,O)->Bd c Y H O (vs.reverse.map some++B) (as.reverse.map Sl.fr++θ)/\vs.length=as.length
 |[],[],_,_,_,_,_,_,b,h=>by cases h;exact⟨b,rfl⟩
 |r::rs,v::vs,_,Z,O,B,θ,hv,b,h=>by obtain⟨a,as,U,e1,e2,rfl⟩:=vR h;have b:Bd c Y H Z (cz rs vs (cq r v B)) (cB rs (cp r θ)):=b;rw[cV,cW] at b;have n:=Bd.bE (kT rs vs (kz.len hv.2)) b hv.1 e1;simp only[<-cV rs vs (some v::B),<-cW rs (.fr a::θ)] at n;obtain⟨q,L⟩:=Bd.dH hv.2 n e2;exact⟨by simpa using q,by simp[L]⟩
 |[],_::_,_,_,_,_,_,h,_,_=>h.elim
 |_::_,[],_,_,_,_,_,h,_,_=>h.elim
end
section
variable {X:Cx} {E:XK}
theorem uU       {D:Type} {m:Mi (List Rr)} {f:List Rr → Mi D} {o:Except Str D} {Q:List V → Hp → Prop} (s:c.toKx = kx X) (b:Bd c Y H Z B θ) (em:aO m f Z = some (o,O))
  (h1:∀ rs vs U S,kz Y rs vs → Bd c Y S U (cz rs vs B) (cB rs θ) → f rs U = some (o,O) → Q vs S)
  (h2:∀e,o=.error e->∀C H,X.mg e=some (.ref C)->Bd c Y H O B θ->E (.ref C) none H):Kd (kx X) E m Y H Q:=by
 rcases bind_some em with ⟨x,U,e1,e2⟩|⟨e,e1,e2⟩
 .exact⟨c,Z,B,θ,_,U,s,b,e1,λvs S t n=>h1 x vs U S t n e2⟩
 .exact⟨c,Z,B,θ,_,O,s,b,e1,λC S hm n=>h2 e e2 C S hm n⟩
def cL(m:Mi (List Rr)):Mi Rr:=aO m λrs Z=>match dH rs Z with
 |some (as,O)=>if as.length<=1000 then some (.ok (.fr (.tup as)),O) else none
 |none=>none
def aP(m:Mi (List Rr)):Mi Rr:=aO m λrs Z=>match dH rs Z with
 |some (as,O)=>if as.length<=1000 then some (.ok (.nw (.lst as)),O) else none
 |none=>none
theorem tM{k:Kx}{as:List A}:∀G,bF k G vs.reverse as.reverse->bF k G vs as:=λG h=>by have:=h.rev;simpa using this
theorem rA:1000<=sizeLine:=by rw[Yo];decide
theorem Gb{m:Mi (List Rr)}{x1 pos}(h:JA X E es m):JE X E (.Tuple es x1 pos) (cL m):=⟨PE.weaken (zf h.p) λY H Q h=>by
 obtain⟨c,Z,B,θ,o,O,e,b,em,q⟩:=h;refine uU e b em (λrs vs U S t n u=>?_) (bB q);cases e1:dH rs U with
 |none=>rw[e1] at u;cases u
 |some p=>
  obtain⟨as,Z'⟩:=p;simp only[e1] at u;obtain⟨r,e2⟩:=Bd.dH t n e1;split at u
  .rename_i hl;cases u;exact⟨by have:=rA;lia,λp hp=>q (.ref p) _ trivial (Bd.G4 r (by simp[e2]) hp vs as tM)⟩
  .cases u⟩
theorem HP{m:Mi (List Rr)}{pos}(h:JA X E es m):JE X E (.List es pos) (aP m):=⟨PE.weaken (IV h.p) λY H Q h=>by
 obtain⟨c,Z,B,θ,o,O,e,b,em,q⟩:=h;refine uU e b em (λrs vs U S t n u=>?_) (bB q);cases e1:dH rs U with
 |none=>rw[e1] at u;cases u
 |some p=>
  obtain⟨as,Z'⟩:=p;simp only[e1] at u;obtain⟨r,e2⟩:=Bd.dH t n e1;split at u
  .rename_i hl;cases u;exact⟨by have:=rA;lia,λp hp=>q (.ref p) _ trivial (Bd.Bk r (by simp[e2]) hp vs as tM)⟩
  .cases u⟩
end
inductive Fl where
 |nx|rt(s:Sl)|bk|ct|ex(c:Str)
noncomputable abbrev Ms:=List Sl->Option (Fl×List Sl)
def ax:Nat->List Sl->List Sl
 |0,_=>[]
 |n+1,[]=>.un::ax n []
 |n+1,.pv o::Z=>.pv o::ax n Z
 |n+1,_::Z=>.un::ax n Z
def fY(K:Kx)(n:Nat)(m:Ms):Sp:=λvs H Q E=>vs.length=n/\∃(c:Cn)(Z:List Sl)(f:Fl)(O:List Sl),c.toKx=K/\c.σ0=vs.map some/\c.H0=H/\dQ c (vs.map some) H Z [] [] c.Lp/\m Z=some (f,O) /\
  (match f with
   | .rt s=>∀v H',(∀o,s≠.pv o)->Bd c (vs.map some) H' (ax vs.length O) [some v] [s]->Q v H'
   | .ex x=>∀C H',K.mg x=some (.ref C)->Bd c (vs.map some) H' (ax vs.length O) [] []->E (.ref C) none H'
   | _=>False)
section
variable{k:Kx}{G H:Hp}
theorem av.back:∀{σ0 Y:St}{Z:List Sl}{L:List Addr},av k G H Y Z L->(∀(i:Nat)(o:LO),Z[i]?=some (.pv o)->i<σ0.length->Y[i]?=σ0[i]?)->∃L',L'.Sublist L/\av k G H σ0 (ax σ0.length Z) L'
 |[],_,_,_,_,_=>⟨[],Ws _,.nil⟩
 |x::σ0,_,_,_,.nil,h=>by obtain⟨L',s,r⟩:=av.back .nil (λi o e=>by simp at e);exact⟨L',s,av.cons (.un x) r⟩
 |x::σ0,_,_,_,.cons (x:=y) (s:=s) (Z:=U) (L:=L1) (L':=L2) hs r,h=>by
  obtain⟨L',sl,r'⟩:=av.back r (λi o e hi=>by have:=h (i+1) o e (by simpa using hi);simpa using this);have fin:ax (x::σ0).length (s::U)=.un::ax σ0.length U->∃L',L'.Sublist (L1++L2)/\av k G H (x::σ0) (ax (x::σ0).length (s::U)) L':=λe=>by rw[e];exact⟨L',sl.trans (T4 _ _),av.cons (.un x) r'⟩
  cases s with
  |un=>exact fin rfl
  |fr a=>exact fin rfl
  |lv o=>exact fin rfl
  |cf o=>exact fin rfl
  |pv o=>
   have e:=h 0 o rfl Z3;have e:y=x:=by simpa using e
   subst e;exact⟨L1++L',Sj (Sr _) sl,av.cons hs r'⟩
end
variable{as:List Sl}
section
variable{c:Cn}{Y:St}{H:Hp}{Z:List Sl}{B:St}{θ:List Sl}
theorem Bd.back(b:Bd c Y H Z B θ):Bd c c.σ0 H (ax c.σ0.length Z) B θ:=by
 obtain⟨L,b⟩:=b;obtain⟨I,L2,e1,V,k⟩:=av.split b.lt b.rel;obtain⟨L',sl,r⟩:=k.back (σ0:=c.σ0) (λi o e _=>b.kp i _ e rfl);have F:(I++L').Sublist L:=by rw[e1];exact Sj (Sr _) sl
 have sm:Sq (c.g H L) (c.g H (I++L')):=dq λa ha=>F.subset ha;exact⟨I++L',b.nd.sublist F,(V.app r).sm sm (λ_ _ _ e=>e),λp hp=>b.own p (F.subset hp),b.fr,λi o _ _=>rfl,b.lt,b.hd⟩
def take1:Rr->List Sl->Option (Sl×List Sl)
 | .fr a,Z=>some (.fr a,Z)
 | .nw o,Z=>some (.fr o.a,Z)
 | .rf i,Z=>match Z[i]? with
  |some (.lv o)=>some (.lv o,Z.set i .un)
  |some (.pv o)=>some (.lv o,Z.set i .un)
  |some (.fr a)=>some (.fr a,Z)
  |_=>none
def bU:List Rr->List Sl->Option (List Sl×List Sl)
 |[],Z=>some ([],Z)
 |r::rs,Z=>match take1 r Z with
  |some (a,U)=>match bU rs U with
   |some (as,Z')=>some (a::as,Z')
   |none=>none
  |none=>none
noncomputable def mX:Sl->Sl
 | .lv o=>.pv o
 |s=>s
theorem tO{r:Rr}(h:bU (r::rs) Z=some (as,O)):∃a H U,take1 r Z=some (a,U)/\bU rs U=some (H,O)/\as=a::H:=by
 unfold bU at h;cases e1:take1 r Z with
 |none=>rw[e1] at h;cases h
 |some p=>
  obtain⟨a,U⟩:=p;rw[e1] at h;cases e2:bU rs U with
  |none=>simp only[e2] at h;cases h
  |some q=>obtain⟨H,Z'⟩:=q;simp only[e2] at h;cases h;exact⟨a,H,U,rfl,e2,rfl⟩
theorem Bd.take1{r:Rr}{v:V}{a:Sl}{O:List Sl}{xs:St}{ss:List Sl}(e:xs.length=ss.length)(b:Bd c Y H Z (xs++cq r v B) (ss++cp r θ))(t:VR Y r v)(h:take1 r Z=some (a,O)):Bd c Y H O (xs++some v::B) (ss++a::θ):=by
 cases r with
 |fr a'=>cases h;exact b
 |nw o=>cases h;exact Bd.Mr e b
 |rf i=>
  delta M.take1 at h
  cases es:Z[i]? with
  |none=>simp only[es] at h;cases h
  |some s=>
   cases s with
   |un=>simp only[es] at h;cases h
   |fr a'=>simp only[es] at h;cases h;exact Bd.D6 e b t es
   |lv o=>simp only[es] at h;cases h;exact Bd.zX e b t es (.inl rfl)
   |pv o=>simp only[es] at h;cases h;exact Bd.zX e b t es (.inr rfl)
   |cf o=>simp only[es] at h;cases h
theorem Bd.bU:∀{rs:List Rr}{vs:List V}{as:List Sl}{Z O:List Sl}{B:St}{θ:List Sl},kz Y rs vs->Bd c Y H Z (cz rs vs B) (cB rs θ)->bU rs Z=some (as,O)->Bd c Y H O (vs.reverse.map some++B) (as.reverse++θ)/\vs.length=as.length
 |[],[],_,_,_,_,_,_,b,h=>by cases h;exact⟨b,rfl⟩
 |r::rs,v::vs,_,Z,O,B,θ,hv,b,h=>by obtain⟨a,as,U,e1,e2,rfl⟩:=tO h;have b:Bd c Y H Z (cz rs vs (cq r v B)) (cB rs (cp r θ)):=b;rw[cV,cW] at b;have n:=Bd.take1 (kT rs vs (kz.len hv.2)) b hv.1 e1;simp only[<-cV rs vs (some v::B),<-cW rs (a::θ)] at n;obtain⟨q,L⟩:=Bd.bU hv.2 n e2;exact⟨by simpa using q,by simp[L]⟩
 |[],_::_,_,_,_,_,_,h,_,_=>h.elim
 |_::_,[],_,_,_,_,_,h,_,_=>h.elim
def qd(S:List Sl):Rr->Sl->List Sl->Option (List Sl)
 | .rf i,s,Z=>match S[i]?,s,Z[i]? with
  |some (.lv _),.pv o,some .un=>some (Z.set i (.lv o))
  |some (.pv _),.pv o,some .un=>some (Z.set i (.pv o))
  |some (.fr _),_,_=>some Z
  |_,_,_=>none
 |_,_,Z=>some Z
def putL(S:List Sl):List Rr->List Sl->List Sl->Option (List Sl)
 |r::rs,s::ss,Z=>match putL S rs ss Z with
  |some U=>qd S r s U
  |none=>none
 |[],[],Z=>some Z
 |_,_,_=>none
end
section
variable{k:Kx}{G H:Hp}
theorem av.Gp:∀{Y:St}{Z:List Sl}{L:List Addr},av k G H Y Z L->∃L',L'.Perm L/\av k G H Y.reverse Z.reverse L'
 |_,_,_,.nil=>⟨[],.refl _,.nil⟩
 |_,_,_,.cons (L:=L1) h r=>by obtain⟨L',pm,r'⟩:=av.Gp r;refine⟨L'++(L1++[]),?_,by simp only[T7,T7];exact r'.app (av.cons h .nil)⟩;rw[RX];exact(pm.append_right L1).trans Tx
theorem av.zR:∀{Y:St}{Z:List Sl}{L:List Addr},av k G H Y Z L->∀p∈L,∀ob vs,H p=some (.frz ob vs)->False
 |_,_,_,.nil,p,hp,_,_,_=>by cases hp
 |_,_,_,.cons h r,p,hp,ob,vs,e=>by
  rcases Rf.mp hp with z|z
  .cases h with
   |un=>cases z
   |fr=>cases z
   |cf=>cases z
   |lv h=>exact h.nf p z _ _ e
   |pv h=>exact h.nf p z _ _ e
  .exact r.zR p z ob vs e
theorem av.mX:∀{Y:St}{Z:List Sl}{L:List Addr},av k G H Y Z L->av k G H Y (Z.map mX) L
 |_,_,_,.nil=>.nil
 |_,_,_,.cons h r=>by
  refine av.cons ?_ (av.mX r);cases h with
  |un=>exact .un _
  |fr h=>exact .fr h
  |cf h=>exact .cf h
  |lv h=>exact .pv h
  |pv h=>exact .pv h
noncomputable def zI:Sl->Sl
 | .pv o=>.lv o
 |s=>s
theorem av.zI:∀{Y:St}{Z:List Sl}{L:List Addr},av k G H Y Z L->av k G H Y (Z.map zI) L
 |_,_,_,.nil=>.nil
 |_,_,_,.cons h r=>by
  refine av.cons ?_ (av.zI r);cases h with
  |un=>exact .un _
  |fr h=>exact .fr h
  |cf h=>exact .cf h
  |lv h=>exact .lv h
  |pv h=>exact .lv h
end
section
variable{c:Cn}{Y:St}{H:Hp}{Z:List Sl}{B:St}{θ:List Sl}
theorem Bd.enter(e:vs.length=as.length)(b:Bd c Y H Z (vs.reverse.map some++B) (as.reverse++θ)):
  ∃Q:Cn,Q.toKx=c.toKx/\Q.σ0=vs.map some/\Q.H0=H/\dQ Q (vs.map some) H (as.map mX) [] [] Q.Lp /\
   ∀(H':Hp)(O:List Sl)(J:St)(T:List Sl),(∀s∈T,∀o,s≠.pv o)->O.length=vs.length->Bd Q (vs.map some) H' O J T->Bd c Y H' Z (vs.reverse.map some++(J++B)) ((O.map zI).reverse++(T++θ)):=by
 obtain⟨L,b⟩:=b;have r:av c.toKx (c.g H L) H (vs.reverse.map some++(B++Y)) (as.reverse++(θ++Z)) L:=by have:=b.rel;simpa[Q6] using this
 obtain⟨La,v,e1,n,k⟩:=av.split (by simp[e]) r;obtain⟨Lp,pm,x⟩:=n.Gp;have x:av c.toKx (c.g H L) H (vs.map some) as Lp:=by simpa[<-Wt] using x
 have j:∀a,a∈Lp++(v++c.Hd)↔a∈L++c.Hd:=λa=>by
  rw[e1,Rf,Rf,Rf,Rf,pm.mem_iff];constructor
  .rintro(h|h|h)
   .exact .inl (.inl h)
   .exact .inl (.inr h)
   .exact .inr h
  .rintro((h|h)|h)
   .exact .inl h
   .exact .inr (.inl h)
   .exact .inr (.inr h)
 have nd:=b.nd;rw[e1] at nd;obtain⟨d,n2,K⟩:=Rj.mp nd
 let Q:Cn:={ toKx:=c.toKx,σ0:=vs.map some,H0:=H,Lp:=Lp,Hd:=v++c.Hd,Wk:=[] }
 have V:∀S I L2,(∀a,a∈I++(v++c.Hd)↔a∈L2++c.Hd)->Q.g S I=c.g S L2:=λS I L2 hm=>by
  funext a
  show (if a∈I++(v++c.Hd) then none else S a)=(if a∈L2++c.Hd then none else S a)
  by_cases z:a∈I++(v++c.Hd)
  .rw[Zv z,Zv ((hm a).mp z)]
  .rw[Zw z,Zw λy=>z ((hm a).mpr y)]
 refine⟨Q,rfl,rfl,rfl,⟨(pm.nodup_iff).mpr d,?_,λp hp=>.inl hp,⟨λq o h=>⟨o,h,λ_ _=>rfl⟩,λq N=>by cases N⟩,λi o _ _=>rfl,rfl,λp hp=>?_⟩,?_⟩
 .show av c.toKx (Q.g H Lp) H (vs.map some) (as.map mX) Lp;rw[V H Lp L j];exact x.mX
 .rcases Rf.mp hp with z|z
  .exact⟨k.is p z,λy=>K p (pm.mem_iff.mp y) p z rfl⟩
  .refine⟨?_,λy=>b.xg (by rw[e1];exact Q8 _ (pm.mem_iff.mp y)) z⟩;obtain⟨⟨u,h1⟩,h2⟩:=b.hd p z;obtain⟨C,h3,_⟩:=b.fr.st p u h1;exact⟨C,h3⟩
 .intro H' O J T hθ hl E;obtain⟨L',E⟩:=E;obtain⟨Lt,Ls,e2,q1,q2⟩:=av.split E.lt E.rel;obtain⟨A,P,q3⟩:=q2.zI.Gp;have lt':B.length=θ.length:=by have:=b.lt;simp[e] at this;exact id ‹_›
  obtain⟨Lτ,Lσ,e3,s1,s2⟩:=av.split lt' k;have G:∀p∈L',p∈Lp\/H p=none:=E.own;have R:∀p,p∈v->∀u,H p=some u->H' p=some u:=λp hp u h=>by obtain⟨C,h1,h2⟩:=E.fr.st p u h;have:p∉Lp:=λy=>K p (pm.mem_iff.mp y) p hp rfl;rw[h1,h2 this (λw f=>by cases f)]
  have m:∀p,p∈L'->p∉v:=λp hp y=>by
   rcases G p hp with z|z
   .exact K p (pm.mem_iff.mp z) p y rfl
   .obtain⟨u,h⟩:=k.is p y;rw[z] at h;cases h
  have D:Sq (c.g H L) (Q.g H' L'):=λa u h=>by
   by_cases z:a∈L\/a∈c.Hd
   .rw[gf z] at h;cases h
   .rw[bf (λy=>z (.inl y)) (λy=>z (.inr y))] at h;have U:a∉Lp:=λy=>z (.inl (by rw[e1];exact Q8 _ (pm.mem_iff.mp y)));have nr:a∉v:=λy=>z (.inl (by rw[e1];exact Q2 _ y));obtain⟨C,h1,h2⟩:=E.fr.st a u h;refine⟨C,?_,.inl (h2 U (λw f=>by cases f))⟩;rw[bf (c:=Q) (λy=>?_) (λy=>?_)]
    .exact h1
    .rcases G a y with w|w
     .exact U w
     .rw[w] at h;cases h
    .rcases Rf.mp y with w|w
     .exact nr w
     .exact z (.inr w)
  have F:Q.g H' L'=c.g H' (L'++v):=V H' L' (L'++v) λa=>by simp[Rf,or_assoc]
  have s3:av c.toKx (Q.g H' L') H' (B++Y) (θ++Z) v:=k.sm D R;have HA:av c.toKx (Q.g H' L') H' (vs.reverse.map some++(J++B)++Y) ((O.map zI).reverse++(T++θ)++Z) (A++(Lt++v)):=by have:=q3.app (q1.app s3);simpa[Q6,<-Wt] using this
  have X:(A++(Lt++v)).Perm (L'++v):=by rw[e2];have:=P.append_right (Lt++v);refine this.trans ?_;rw[<-Q6];exact Tx.append_right v
  refine⟨A++(Lt++v),(X.nodup_iff).mpr (Rj.mpr ⟨E.nd,n2,λa ha b2 hb z=>m a ha (by rw[z];exact hb)⟩),?_,λp hp=>?_,⟨λq u h=>?_,λq N=>?_⟩,b.kp,?_,b.hd⟩
  .rw[D5 (c:=c) (H:=H') (L':=L'++v) λa=>X.mem_iff,<-F];exact HA
  .rcases Rf.mp (X.mem_iff.mp hp) with z|z
   .rcases G p z with y|y
    .exact b.own p (by rw[e1];exact Q8 _ (pm.mem_iff.mp y))
    .exact .inr (b.fr.fresh y)
   .exact b.own p (by rw[e1];exact Q2 _ z)
  .obtain⟨u1,h1,h2⟩:=b.fr.st q u h;obtain⟨l,h3,h4⟩:=E.fr.st q u1 h1;refine⟨l,h3,λt nw=>?_⟩;rw[h4 (λy=>?_) (λw f=>by cases f),h2 t nw];rcases b.own q (by rw[e1];exact Q8 _ (pm.mem_iff.mp y)) with w|w
   .exact t w
   .rw[w] at h;cases h
  .obtain⟨h1,⟨ob,ws,h2⟩,h3⟩:=b.fr.pk q N;refine⟨?_,⟨ob,ws,h2⟩,h3⟩;obtain⟨l,h4,h5⟩:=E.fr.st q.1 q.2 h1;rw[h4,h5 (λy=>?_) (λw f=>by cases f)];exact x.zR q.1 y ob ws (by rw[h1,h2])
  .have:=E.lt;simp[hl];lia
end
section
variable{c:Cn}{Y:St}{H:Hp}{Z:List Sl}{B:St}{θ:List Sl}
theorem Bd.qd{S O:List Sl}{r:Rr}{s:Sl}{v:V}(kp:eu c.σ0 Y S)(t:VR Y r v)(b:Bd c Y H Z (some v::B) (zI s::θ))(h:qd S r s Z=some O):Bd c Y H O B θ:=by
 cases r with
 |fr a=>cases h;exact b.pop
 |nw o=>cases h;exact b.pop
 |rf i=>
  delta M.qd at h
  dsimp only at h
  cases Q:S[i]? with
  |none=>rw[Q] at h;cases h
  |some n=>
   rw[Q] at h;cases n with
   |un=>cases h
   |fr a=>cases h;exact b.pop
   |cf a=>cases h
   |lv p=>
    cases s with
    |pv o=>
     cases e1:Z[i]? with
     |none=>rw[e1] at h;cases h
     |some s1=>
      rw[e1] at h;cases s1 with
      |un=>cases h;exact Bd.putBack b t e1 (.inl rfl)
      |_=>exact cu h
    |_=>exact cu h
   |pv p=>
    cases s with
    |pv o=>
     cases e1:Z[i]? with
     |none=>rw[e1] at h;cases h
     |some s1=>
      rw[e1] at h;cases s1 with
      |un=>cases h;exact Bd.putBack b t e1 (.inr ⟨rfl,kp i _ Q rfl⟩)
      |_=>exact cu h
    |_=>exact cu h
theorem Bd.putL{S:List Sl}(kp:eu c.σ0 Y S):∀{rs:List Rr}{vs:List V}{ss:List Sl}{Z O:List Sl}{B:St}{θ:List Sl},kz Y rs vs->Bd c Y H Z (vs.reverse.map some++B) ((ss.map zI).reverse++θ)->M.putL S rs ss Z=some O->Bd c Y H O B θ
 |[],[],[],_,_,_,_,_,b,h=>by cases h;exact b
 |r::rs,v::vs,s::ss,Z,O,B,θ,hv,b,h=>by
  unfold M.putL at h;cases e:M.putL S rs ss Z with
  |none=>rw[e] at h;cases h
  |some U=>
   rw[e] at h;have n:Bd c Y H Z (vs.reverse.map some++(some v::B)) ((ss.map zI).reverse++(zI s::θ)):=by simpa[Q6] using b
   exact Bd.qd kp hv.1 (Bd.putL kp hv.2 n e) h
 |[],_::_,_,_,_,_,_,h,_,_=>h.elim
 |_::_,[],_,_,_,_,_,h,_,_=>h.elim
 |[],[],_::_,_,_,_,_,_,_,h=>by cases h
 |_::_,_::_,[],_,_,_,_,_,_,h=>by cases h
theorem bC:∀(n:Nat)(Z:List Sl),(ax n Z).length=n
 |0,_=>rfl
 |n+1,[]=>by show (Sl.un::ax n []).length=_;rw[Rb,bC n []]
 |n+1,s::Z=>by cases s<;>(show (_::ax n Z).length=_;simp only[Rb,bC n Z])
theorem kz.app:∀{rs qs:List Rr}{vs us:List V},kz Y rs vs->kz Y qs us->kz Y (rs++qs) (vs++us)
 |[],_,[],_,_,h=>h
 |_::rs,_,_::vs,_,h1,h2=>⟨h1.1,kz.app h1.2 h2⟩
 |[],_,_::_,_,h,_=>h.elim
 |_::_,_,[],_,h,_=>h.elim
theorem kz.dG:∀{I:List A}{dvs:List V},I.length=dvs.length->kz Y (I.map Rr.fr) dvs
 |[],[],_=>trivial
 |_::I,_::dvs,h=>⟨trivial,kz.dG (by simpa using h)⟩
 |[],_::_,h=>by simp at h
 |_::_,[],h=>by simp at h
theorem jt:∀{rs:List Rr}{vs:List V}(qs:List Rr)(us:List V)(B:St),rs.length=vs.length->cz (rs++qs) (vs++us) B=cz qs us (cz rs vs B)
 |[],[],_,_,_,_=>rfl
 |r::rs,v::vs,qs,us,B,h=>jt qs us (cq r v B) (by simpa using h)
 |[],_::_,_,_,_,h=>by simp at h
 |_::_,[],_,_,_,h=>by simp at h
theorem gX:∀(rs qs:List Rr)(θ:List Sl),cB (rs++qs) θ=cB qs (cB rs θ)
 |[],_,_=>rfl
 |r::rs,qs,θ=>gX rs qs (cp r θ)
theorem Bd.pT:∀{I:List A}{dvs:List V}{B:St}{θ:List Sl},(∀G,bF c.toKx G dvs I)->Bd c Y H Z B θ->Bd c Y H Z (cz (I.map Rr.fr) dvs B) (cB (I.map Rr.fr) θ)
 |[],[],_,_,_,b=>b
 |a::I,v::dvs,_,_,h,b=>Bd.pT (dvs:=dvs) (λG=>by cases h G;assumption) (Bd.push b λG=>by cases h G;assumption)
 |[],_::_,_,_,h,_=>by cases h (λ_=>none)
 |_::_,[],_,_,h,_=>by cases h (λ_=>none)
end
noncomputable def jm:Sl->Option Rr
 | .fr a=>some (.fr a)
 | .lv o=>some (.nw o)
 |_=>none
def bj(f:Ms)(I:List A)(ma:Mi (List Rr)):Mi Rr:=aO ma λrs Z=>match bU (rs++I.map Rr.fr) Z with
 |some (as,S)=>match f (as.map mX) with
  |some (.rt s,T)=>match jm s,putL Z (rs++I.map Rr.fr) (ax as.length T) S with
   |some r,some O=>some (.ok r,O)
   |_,_=>none
  |some (.ex x,T)=>match putL Z (rs++I.map Rr.fr) (ax as.length T) S with
   |some O=>some (.error x,O)
   |none=>none
  |_=>none
 |none=>none
variable{dvs:List V}{CX:rO}{f:Addr}{fd:X9}{ps N:List Str}{mg:Str->Option Value}{base:Heap}
section
variable{X:Cx}{E:XK}
theorem ir{m:Ms}{n:Nat}{I:List A}(hd:∀G,bF (kx X) G dvs I){o:Except Str Rr}(e:c.toKx=kx X)(hn:(vs++dvs).length=n)
  (t:kz Y rs vs)(b:Bd c Y H Z (cz rs vs B) (cB rs θ)) (em:(match bU (rs++I.map Rr.fr) Z with
 |some (as,S)=>match m (as.map mX) with
  |some (.rt s,T)=>match jm s,putL Z (rs++I.map Rr.fr) (ax as.length T) S with
   |some r,some O=>some (.ok r,O)
   |_,_=>none
  |some (.ex x,T)=>match putL Z (rs++I.map Rr.fr) (ax as.length T) S with
   |some O=>some (.error x,O)
   |none=>none
  |_=>none
 | none=>none)=some (o,O)) (N:∀r,o=.ok r->∀v H',VR Y r v->Bd c Y H' O (cq r v B) (cp r θ)->Q v H') (J:∀x,o=.error x->∀C H',X.mg x=some (.ref C)->Bd c Y H' O B θ->E (.ref C) none H'):fY (kx X) n m (vs++dvs) H Q E:=by
 refine⟨hn,?_⟩;cases e1:bU (rs++I.map Rr.fr) Z with
 |none=>rw[e1] at em;cases em
 |some p=>
  obtain⟨as,S⟩:=p;rw[e1] at em;have ld:=(hd λ_=>none).len.symm;have h:=t.app (kz.dG ld);have R:Bd c Y H Z (cz (rs++I.map Rr.fr) (vs++dvs) B) (cB (rs++I.map Rr.fr) θ):=by simp only[jt _ _ _ t.len,gX];exact Bd.pT (by rw[e];exact hd) b
  obtain⟨F,D⟩:=Bd.bU h R e1;obtain⟨w,k1,k2,k3,k,k5⟩:=Bd.enter D F;have kp:eu c.σ0 Y Z:=by obtain⟨L,b⟩:=b;exact b.kp
  cases j:m (as.map mX) with
  |none=>simp only[j] at em;cases em
  |some p=>
   obtain⟨f,T⟩:=p;simp only[j] at em;refine⟨w,_,f,T,k1.trans e,k2,k3,k,j,?_⟩;cases f with
   |nx=>cases em
   |bk=>cases em
   |ct=>cases em
   |rt s=>
    cases i:jm s with
    |none=>simp only[i] at em;cases em
    |some r=>
     cases g:putL Z (rs++I.map Rr.fr) (ax as.length T) S with
     |none=>simp only[i,g] at em;cases em
     |some Z'=>
      simp only[i,g] at em;cases em;intro v H' hs K;have q:=k5 H' _ _ _ (λs' y o z=>by rw[RC.mp y] at z;exact hs o z) (bC _ _) K;rw[D] at q;have P:=Bd.putL kp h q g;cases s with
      |fr a=>cases i;exact N _ rfl v H' trivial P
      |lv o=>cases i;exact N _ rfl v H' trivial P
      |_=>exact cu i
   |ex x=>
    cases g:putL Z (rs++I.map Rr.fr) (ax as.length T) S with
    |none=>simp only[g] at em;cases em
    |some Z'=>simp only[g] at em;cases em;intro C H' hm K;have q:=k5 H' _ _ _ (λs' y=>by cases y) (bC _ _) K;rw[D] at q;exact J x rfl C H' hm (Bd.putL kp h q g)
theorem Ci{k n:Nat}{m:Ms}{I:List A}{ds:List Value}{x:Str}{p:Pos}{ma:Mi (List Rr)}(F:c9 X.prog X.w X.K X.mg X.base CX k f fd ps (fY (kx X) n m))(hr:cF k X.A)(hg:Gl X x)
  (hm:X.mg x=some (.ref f))(hk:Sa X.K (.ref f)=true)(hb:Binds X.K fd ps ds)(hd:Vals dvs ds)(hda:∀G,bF (kx X) G dvs I)(hx:Passes CX X E)(ha:JA X E (e::es) ma)(hn:∀Z rs O,ma Z=some (.ok rs,O)->rs.length+I.length=n)(hdb:eV x)
  (he:XU (e::es) X.env=(false,eval e X.env)::XU es X.env:=by rfl)(hpl:(X4 pos (XU es X.env)).any (·.1)=false:=by rfl):JE X E (.Call (.Name x p) (e::es) [] pos) (bj m I ma):=
 ⟨PE.weaken (uC F hr hg hm hk hb hd hx ha.p hdb he hpl) λY H Q h=>by
  obtain⟨c,Z,B,θ,o,O,ek,b,em,q⟩:=h;rcases bind_some em with ⟨rs,U,e1,e2⟩|⟨e,e1,e2⟩
  .refine⟨c,Z,B,θ,_,U,ek,b,e1,λvs H1 hv b1=>?_⟩;refine ir hda ek ?_ hv b1 e2 (λr hr v H' hv b=>by subst hr;exact q v H' hv b) (λx hx=>by subst hx;exact q);rw[Rn,<-hv.len,<-hn Z rs U e1,(hda λ_=>none).len]
  .subst e2;exact⟨c,Z,B,θ,_,O,ek,b,e1,λC H1 hm b1=>q C H1 hm b1⟩⟩
theorem sI:∀Z rs O,dy Z=some (.ok rs,O)->rs.length=0:=λZ rs O h=>by cases h;rfl
theorem kO{m:Mi Rr}{ma:Mi (List Rr)}{n:Nat}(h:∀Z rs O,ma Z=some (.ok rs,O)->rs.length=n):∀Z rs O,cA m ma Z=some (.ok rs,O)->rs.length=n+1:=λZ rs O e=>by
 rcases bind_some e with ⟨r,U,e1,e2⟩|⟨_,_,e2⟩
 .rcases bind_some e2 with ⟨rs',Z',L,A⟩|⟨_,_,A⟩
  .cases A;simp only[Rb,h _ _ _ L]
  .cases A
 .cases e2
theorem sN{ma:Mi (List Rr)}{n d N:Nat}(h:∀Z rs O,ma Z=some (.ok rs,O)->rs.length=n)(e:n+d=N):∀Z rs O,ma Z=some (.ok rs,O)->rs.length+d=N:=λZ rs O q=>by rw[h Z rs O q];exact e
def DJ(K:Kx)(E:XK)(c:Cn)(Z:List Sl)(B:St)(θ:List A)(D:Ends):Fl->Prop
 | .nx=>∀Y H,Bd c Y H Z B (θ.map Sl.fr)->D.nx Y H
 | .rt s=>∀v Y H,(∀o,s≠.pv o)->Bd c Y H Z (some v::B) (s::θ.map Sl.fr)->D.rt v H
 | .bk=>∀Y H,Bd c Y H Z B (θ.map Sl.fr)->D.bk Y H
 | .ct=>∀Y H,Bd c Y H Z B (θ.map Sl.fr)->D.ct Y H
 | .ex x=>∀C Y H,K.mg x=some (.ref C)->Bd c Y H Z B (θ.map Sl.fr)->E (.ref C) none H
inductive Ey(K:Kx)(E:XK)(m:Ms)(D:Ends)(Y:St)(H:Hp):Prop
 |mk(c:Cn)(Z:List Sl)(B:St)(θ:List A)(f:Fl)(O:List Sl)(h1:c.toKx=K)(h2:Bd c Y H Z B (θ.map Sl.fr))(h3:m Z=some (f,O))(h4:DJ K E c O B θ D f)
structure JS(X:Cx)(E:XK)(s:Stmt)(m:Ms):Prop where
 p:PS X s (Ey (kx X) E m)
structure pY(X:Cx)(E:XK)(s:List Stmt)(m:Ms):Prop where
 p:pZ X s (Ey (kx X) E m)
theorem PS.weaken{e:Stmt}{t t':TS}(h:PS X e t)(f:∀D Y H,t' D Y H->t D Y H):PS X e t':=λpins s Y H D I q=>h pins s Y H D I (f D Y H q)
theorem pZ.weaken{e:List Stmt}{t t':TS}(h:pZ X e t)(f:∀D Y H,t' D Y H->t D Y H):pZ X e t':=λpins s Y H D I q=>h pins s Y H D I (f D Y H q)
noncomputable def bJ:Ms:=λZ=>some (.nx,Z)
noncomputable def aC(m n:Ms):Ms:=λZ=>match m Z with
 |some (.nx,U)=>n U
 |r=>r
theorem vI:pY X E [] bJ:=⟨pZ.weaken Eb λD Y H h=>by obtain⟨c,Z,B,θ,f,O,e,b,em,q⟩:=h;cases em;exact q Y H b⟩
theorem vH{s:Stmt}{m:Ms}(h:JS X E s m):pY X E [s] m:=⟨DU h.p⟩
theorem q9{s:Stmt}{r:List Stmt}{m n:Ms}(h:JS X E s m)(h':pY X E r n):pY X E (s::r) (aC m n):=⟨pZ.weaken (md h.p h'.p) λD Y H h=>by
 obtain⟨c,Z,B,θ,f,O,o,b,em,q⟩:=h
 delta aC at em
 cases e:m Z with
 |none=>rw[e] at em;cases em
 |some p=>
  obtain⟨y,U⟩:=p;rw[e] at em;refine⟨c,Z,B,θ,y,U,o,b,e,?_⟩;cases y with
  |nx=>exact λj H' z=>⟨c,U,B,θ,f,O,o,z,em,q⟩
  |rt s=>cases em;exact q
  |bk=>cases em;exact q
  |ct=>cases em;exact q
  | ex x=>cases em;exact q⟩
noncomputable def cT{α:Type}(m:Mi α)(f:α->Ms):Ms:=λZ=>match m Z with
 |some (.ok x,U)=>f x U
 |some (.error e,U)=>some (.ex e,U)
 |none=>none
theorem cP{m:Mi α}{f:α->Ms}{o:Fl}(h:cT m f Z=some (o,O)):(∃x U,m Z=some (.ok x,U)/\f x U=some (o,O))\/∃e,m Z=some (.error e,O)/\o=.ex e:=by
 delta cT at h
 cases e:m Z with
 |none=>rw[e] at h;cases h
 |some p=>
  obtain⟨r,U⟩:=p;cases r with
  |ok x=>rw[e] at h;exact .inl ⟨x,U,rfl,h⟩
  |error x=>simp only[e] at h;cases h;exact .inr ⟨x,rfl,rfl⟩
theorem dN{θ:List A}{m:Mi Rr}{f:Rr->Ms}{o:Fl}{D:Ends}(s:c.toKx=kx X)(b:Bd c Y H Z B (θ.map Sl.fr))(em:cT m f Z=some (o,O))(q:DJ (kx X) E c O B θ D o)
  (h1:∀x v U S,VR Y x v->Bd c Y S U (cq x v B) (cp x (θ.map Sl.fr))->f x U=some (o,O)->Q v S):kF (kx X) E m Y H Q:=by
 rcases cP em with ⟨x,U,e1,e2⟩|⟨e,e1,e2⟩
 .exact⟨c,Z,B,_,_,U,s,b,e1,λv S t n=>h1 x v U S t n e2⟩
 .subst e2;exact⟨c,Z,B,_,_,O,s,b,e1,λC S hm n=>q C Y S hm n⟩
theorem DS{θ:List A}{m:Mi Bool}{f:Bool->Ms}{o:Fl}{Q:Bool->Hp->Prop}{D:Ends}(s:c.toKx=kx X)(b:Bd c Y H Z B (θ.map Sl.fr))(em:cT m f Z=some (o,O))(q:DJ (kx X) E c O B θ D o)
  (h1:∀k U S,Bd c Y S U B (θ.map Sl.fr)->f k U=some (o,O)->Q k S):CP (kx X) E m Y H Q:=by
 rcases cP em with ⟨x,U,e1,e2⟩|⟨e,e1,e2⟩
 .exact⟨c,Z,B,_,_,U,s,b,e1,λS n=>h1 x U S n e2⟩
 .subst e2;exact⟨c,Z,B,_,_,O,s,b,e1,λC S hm n=>q C Y S hm n⟩
def dU(m:Mi Rr):Ms:=cT m λ_ Z=>some (.nx,Z)
theorem CB{m:Mi Rr}(h:JE X E e m)(hs:Yc e none pos.line X.env=pure false:=by rfl):JS X E (.Expr e pos) (dU m):=⟨PS.weaken (Cd h.p hs) λD Y H h=>by obtain⟨c,Z,B,θ,f,O,ek,b,em,q⟩:=h;refine dN ek b em q λx v U H1 hv b1 em1=>?_;cases em1;exact q Y H1 b1.drop⟩
def iq(t:Mi Bool)(m n:Ms):Ms:=cT t λb=>if b then m else n
theorem M6{t:Expr}{a b:List Stmt}{m n:Ms}(j:JT X E t mt)(ha:pY X E a m)(d:pY X E b n):JS X E (.If t a b pos) (iq mt m n):=⟨PS.weaken (Nn j.p ha.p d.p) λD Y H h=>by
 obtain⟨c,Z,B,θ,f,O,e,b,em,q⟩:=h;refine DS e b em q λk U S x u=>?_;cases k with
 |true=>rw[Zv rfl];exact⟨c,U,B,θ,f,O,e,x,u,q⟩
 | false=>rw[Zw Z1];exact⟨c,U,B,θ,f,O,e,x,u,q⟩⟩
def FV:Rr->List Sl->Option (Sl×List Sl)
 | .fr a,Z=>some (.fr a,Z)
 | .nw o,Z=>some (.lv o,Z)
 | .rf i,Z=>match Z[i]? with
  |some (.lv o)=>some (.lv o,Z.set i .un)
  |_=>none
def bV(m:Mi Rr):Ms:=cT m λr Z=>match FV r Z with
 |some (s,O)=>some (.rt s,O)
 |none=>none
theorem HH{m:Mi Rr}(h:JE X E e m):JS X E (.Return (some e) pos) (bV m):=⟨PS.weaken (GJ h.p) λD Y H h=>by
 obtain⟨c,Z,B,θ,f,O,G,b,em,q⟩:=h;refine dN G b em q λx v U S t n u=>?_;cases x with
 |fr a=>cases u;exact q v Y S (λo z=>by cases z) n
 |nw o=>cases u;exact q v Y S (λo z=>by cases z) n
 |rf i=>
  delta FV at u
  cases es:U[i]? with
  |none=>simp only[es] at u;cases u
  |some s=>
   cases s with
   |lv o=>simp only[es] at u;cases u;exact q v Y S (λo z=>by cases z) (Bd.zX (xs:=[]) (ss:=[]) rfl n t es (.inl rfl))
   | _=>simp only[es] at u;cases u⟩
noncomputable def EY:Ms:=λZ=>some (.rt (.fr .non),Z)
theorem Dd:JS X E (.Return none pos) EY:=⟨PS.weaken C7 λD Y H h=>by obtain⟨c,Z,B,θ,f,O,e,b,em,q⟩:=h;cases em;exact q .non Y H (λo z=>by cases z) (b.push λ_=>.non)⟩
def xj:Rr->List Sl->Option (Sl×List Sl)
 | .fr a,Z=>some (.fr a,Z)
 | .nw o,Z=>some (.lv o,Z)
 | .rf i,Z=>match bE (.rf i) Z with
  |some (a,O)=>some (.fr a,O)
  |none=>none
noncomputable def put(i:Nat)(s:Sl)(Z:List Sl):Option (List Sl):=match Z[i]? with
 |some (.pv _)=>none
 |some _=>some (Z.set i s)
 |none=>none
theorem Bd.put{c:Cn}{Y:St}{H:Hp}{Z O:List Sl}{B:St}{θ:List Sl}{i:Nat}{v:V}{t:Sl}(b:Bd c Y H Z (some v::B) (t::θ))(j:cst t=false)(h:put i t Z=some O):Bd c (Y.set i (some v)) H O B θ:=by
 delta M.put at h
 cases es:Z[i]? with
 |none=>rw[es] at h;cases h
 |some s=>
  cases s with
  |pv o=>rw[es] at h;cases h
  |un=>rw[es] at h;cases h;exact b.store es (λo z=>by cases z) j
  |fr a=>rw[es] at h;cases h;exact b.store es (λo z=>by cases z) j
  |lv o=>rw[es] at h;cases h;exact b.store es (λo z=>by cases z) j
  |cf o=>rw[es] at h;cases h;exact b.store es (λo z=>by cases z) j
theorem Bd.xj{c:Cn}{Y:St}{H:Hp}{Z O:List Sl}{B:St}{θ:List Sl}{r:Rr}{v:V}{t:Sl}(x:VR Y r v)(b:Bd c Y H Z (cq r v B) (cp r θ))(h:xj r Z=some (t,O)):Bd c Y H O (some v::B) (t::θ)/\cst t=false:=by
 cases r with
 |fr a=>cases h;exact⟨b,rfl⟩
 |nw o=>cases h;exact⟨b,rfl⟩
 |rf i=>
  delta M.xj at h
  cases e:M.bE (.rf i) Z with
  |none=>simp only[e] at h;cases h
  |some p=>simp only[e] at h;cases h;exact⟨Bd.bE (xs:=[]) (ss:=[]) rfl b x e,rfl⟩
def aM(i:Nat)(m:Mi Rr):Ms:=cT m λr Z=>match xj r Z with
 |some (t,U)=>match put i t U with
  |some Z'=>some (.nx,Z')
  |none=>none
 |none=>none
theorem xr{x:Str}{m:Mi Rr}{pos':Pos}(hN:X.N.Nodup)(hi:X.N[i]?=some x)(hx:Loc X.env.scope x)(he:JE X E e m)(hs:Yc e (some (.Name x pos')) pos.line X.env=pure false:=by rfl)
  (hf:X.fn x=true\/X.env.scope.names.lookup x=some .local:=by first|exact .inl rfl|exact .inr rfl|assumption):JS X E (.Assign [.Name x pos'] e pos) (aM i m):=⟨PS.weaken (Jc hN hi hx he.p hs hf) λD Y H h=>by
 obtain⟨c,Z,B,θ,f,O,ek,b,em,q⟩:=h;refine dN ek b em q λr v U H1 hv b1 em1=>?_;cases e1:xj r U with
 |none=>rw[e1] at em1;cases em1
 |some p=>
  obtain⟨t,Z'⟩:=p;rw[e1] at em1;obtain⟨b2,ht⟩:=Bd.xj hv b1 e1;cases e2:put i t Z' with
  |none=>simp only[e2] at em1;cases em1
  | some F=>simp only[e2] at em1;cases em1;exact q _ H1 (Bd.put b2 ht e2)⟩
def dm(loc:Nat)(m:Ms):Ms:=λZ=>match m (Z++Q3 loc .un) with
 |some (.nx,O)=>some (.rt (.fr .non),O)
 |some (.rt s,O)=>some (.rt s,O)
 |some (.ex x,O)=>some (.ex x,O)
 |_=>none
theorem lY{k:Kx}{G H:Hp}:∀n,av k G H (Q3 n none) (Q3 n Sl.un) []
 |0=>.nil
 |n+1=>av.cons (.un _) (lY n)
theorem dQ.start{c:Cn}{vs:List V}{H:Hp}{Z:List Sl}(N:List Str)(b:dQ c (vs.map some) H Z [] [] c.Lp)(e:c.σ0=vs.map some):Bd c (start N vs) H (Z++Q3 (N.length-vs.length) .un) [] []:=by
 have hl:vs.length=Z.length:=by have:=b.rel.len;simpa using this
 refine⟨c.Lp,b.nd,?_,b.own,b.fr,λi o h w=>?_,rfl,b.hd⟩
 .have:=b.rel.app (lY (N.length-vs.length));simpa[L2.start] using this
 .have hi:i<Z.length:=by
   by_cases z:i<Z.length
   .exact z
   .rw[RT (by exact Us.mp ‹_›)] at h;have:=R4 h;have:=Tc this;subst this;cases w
  delta L2.start
  rw[R9 (by simp;lia),e]
theorem H9{P:Program}{w:X1}{K:Q0}{dV:Value}{x qual:Str}{st:Stmt}{k:Nat}{m:Ms}(F:oF K x qual st f fd dV)(S:jB N ps (aX st))
  (d:∀(cdv:Value)(A:X8)(outer:List Env)(s:Shared)(H:Hp)(E:XK),cF k (A.deeper (Xq qual (aX st) s.heap.objs.size f cdv))->
   pY (qM (oT P w) P w K mg base N qual (aX st) f cdv A outer s H E) E (eZ st) m):c9 P w K mg base (oT P w) (k+1) f fd ps (fY ⟨K,mg,P,w⟩ ps.length (dm (N.length-ps.length) m)):=
 F.ok S (λvs H Q E h=>h.1) λcdv A outer s H vs Q E hr h=>by
  obtain⟨hn,c,Z,f,O,G,g,e1,b,em,q⟩:=h;refine⟨_,(d cdv A outer s H E hr).p,?_⟩;have bs:=b.start N g;rw[hn] at bs;unfold dm at em;cases e:m (Z++Q3 (N.length-ps.length) .un) with
  |none=>simp only[e] at em;cases em
  |some p=>
   obtain⟨y,U⟩:=p;simp only[e] at em;refine⟨c,_,[],[],y,U,G,bs,e,?_⟩;have bk:∀{j:St}{H':Hp}{J:St}{T:List Sl},Bd c j H' U J T->Bd c (vs.map some) H' (ax vs.length U) J T:=λY=>by have:=Y.back;rw[g,Q7] at this;exact this
   cases y with
   |nx=>cases em;exact λj H' Y=>q .non H' (λo z=>by cases z) ((bk Y).push λ_=>.non)
   |rt s=>cases em;exact λv j H' hs Y=>q v H' hs (bk Y)
   |ex x=>cases em;exact λC j H' hm Y=>q C H' hm (bk Y)
   |bk=>cases em
   |ct=>cases em
end
variable{r':R2}{K:Kx}
section
variable{X:Cx}{E:XK}
theorem iC.or'{f:Value->Value->Sem Value}(h:iC X f r)(h':iC X f r'):iC X f (λx y H Q=>r x y H Q\/r' x y H Q):=by
 intro pins s Y H x y v u Q I K z q;rcases q with q|q
 .exact h pins s Y H x y v u Q I K z q
 .exact h' pins s Y H x y v u Q I K z q
noncomputable def OI(f g:A->A->Option Rr):A->A->Option Rr:=λa b=>match f a b with
 |some r=>some r
 |none=>g a b
theorem iY.or{f g:A->A->Option Rr}(h:iY K r f)(h':iY K r' g):iY K (λx y H Q=>r x y H Q\/r' x y H Q) (OI f g):=by
 intro c Y H Z B θ x y v w a b q Q s t G bd e1 e2 L k
 delta OI at L
 cases e:f a b with
 |some z=>rw[e] at L;cases L;exact .inl (h c Y H Z B θ x y v w a b _ Q s t G bd e1 e2 e k)
 |none=>rw[e] at L;exact .inr (h' c Y H Z B θ x y v w a b _ Q s t G bd e1 e2 L k)
theorem iY.scalar{f:A->A->Option Rr}(h:∀H v w a b q,RA K H v a->RA K H w b->f a b=some q->∃u d,q=.fr d/\(∀G,RA K G u d)/\∀Q:VK,Q u H->r v w H Q):iY K r f:=by intro c Y H Z B θ x y v w a b q Q e t o bd e1 e2 L k;have i:=Bd.rd bd o e2;have V:=Bd.rd bd.drop t e1;rw[e] at V i;obtain⟨u,d,rfl,p,O⟩:=h H v w a b q V i L;exact O Q (k u H trivial (Bd.push bd.drop.drop (by rw[e];exact p)))
noncomputable def fits(n:Nat)(i:Int):Bool:=decide (i.natAbs<2^n)
theorem oY{n:Nat}{i:Int}(h:fits n i=true):L2.Bd n i:=show i.natAbs<2^n from ZC h
theorem jv{n m:Nat}{i:Int}(h:L2.Bd m i)(k:m<=n):fits n i=true:=Zy (h.mono k)
noncomputable def oU(f:Int->Int->Option Rr):A->A->Option Rr
 | .int i,.int j=>f i j
 |_,_=>none
theorem cU{f:Int->Int->Option Rr}{a b:A}{q:Rr}(h:oU f a b=some q):∃i j,a=.int i/\b=.int j/\f i j=some q:=by
 cases a with
 |int=>cases b with
  |int=>exact⟨_,_,rfl,rfl,h⟩
  |_=>exact cu h
 |_=>exact cu h
def Em:A->A->Option Rr:=oU λi j=>some (.fr (.int (i+j)))
def iR:A->A->Option Rr:=oU λi j=>some (.fr (.int (i-j)))
def bG:A->A->Option Rr:=oU λi j=>if fits 20000 i&&fits 20000 j then some (.fr (.int (i*j))) else none
def kB:A->A->Option Rr:=oU λi j=>if j != 0&&fits 9000 j then some (.fr (.int (i.fdiv j))) else none
def mU:A->A->Option Rr:=oU λi j=>if j != 0 then some (.fr (.int (i.fmod j))) else none
def mS:A->A->Option Rr:=oU λi j=>if 0<=j/\j<=1000000/\i.natAbs<2^64 then some (.fr (.int (i^j.toNat))) else none
def pj:A->A->Option Rr:=oU λi j=>some (.fr (.bl (decide (i<j))))
def rQ:A->A->Option Rr:=oU λi j=>some (.fr (.bl (decide (j<i))))
def Fv:A->A->Option Rr:=oU λi j=>some (.fr (.bl (decide (j<=i))))
theorem Ce:iY K (xi λi j=>.int (i+j)) Em:=.scalar λH v w a b q V r h=>by
 replace h:=cU h
 obtain⟨i,j,rfl,rfl,h⟩:=h
 cases V;cases r;cases h
 exact⟨_,_,rfl,λ_=>.int _,λQ k=>⟨_,_,rfl,rfl,k⟩⟩
theorem Ha:iY K (xi λi j=>.int (i-j)) iR:=.scalar λH v w a b q V r h=>by
 replace h:=cU h
 obtain⟨i,j,rfl,rfl,h⟩:=h
 cases V;cases r;cases h
 exact⟨_,_,rfl,λ_=>.int _,λQ k=>⟨_,_,rfl,rfl,k⟩⟩
theorem D4:iY K (rI Zu λi j=>.int (i*j)) bG:=.scalar λH v w a b q V r h=>by
 replace h:=cU h
 obtain⟨i,j,rfl,rfl,h⟩:=h
 cases V;cases r
 split at h
 .rename_i hc
  simp only[QZ] at hc
  cases h
  exact⟨_,_,rfl,λ_=>.int _,λQ k=>⟨_,_,rfl,rfl,(oY hc.1).Nd (oY hc.2) Z1,k⟩⟩
 .cases h
theorem Jk:iY K (rI PV λi j=>.int (i.fdiv j)) kB:=.scalar λH v w a b q V r h=>by
 replace h:=cU h
 obtain⟨i,j,rfl,rfl,h⟩:=h
 cases V;cases r
 split at h
 .rename_i hc
  simp only[QZ] at hc
  cases h
  exact⟨_,_,rfl,λ_=>.int _,λQ k=>⟨_,_,rfl,rfl,⟨by simpa using hc.1,oY hc.2⟩,k⟩⟩
 .cases h
theorem JB:iY K (rI (λ_ j=>j≠0) λi j=>.int (i.fmod j)) mU:=.scalar λH v w a b q V r h=>by
 replace h:=cU h
 obtain⟨i,j,rfl,rfl,h⟩:=h
 cases V;cases r
 split at h
 .rename_i hc
  cases h
  exact⟨_,_,rfl,λ_=>.int _,λQ k=>⟨_,_,rfl,rfl,by simpa using hc,k⟩⟩
 .cases h
theorem Hq:iY K (rI Ln λi j=>.int (i^j.toNat)) mS:=.scalar λH v w a b q V r h=>by
 replace h:=cU h
 obtain⟨i,j,rfl,rfl,h⟩:=h
 cases V;cases r
 split at h
 .rename_i hc
  cases h
  exact⟨_,_,rfl,λ_=>.int _,λQ k=>⟨_,_,rfl,rfl,hc,k⟩⟩
 .cases h
theorem Er:iY K (xi λi j=>.bl (decide (i<j))) pj:=.scalar λH v w a b q V r h=>by
 replace h:=cU h
 obtain⟨i,j,rfl,rfl,h⟩:=h
 cases V;cases r;cases h
 exact⟨_,_,rfl,λ_=>.bl _,λQ k=>⟨_,_,rfl,rfl,k⟩⟩
theorem E2:iY K (xi λi j=>.bl (decide (j<i))) rQ:=.scalar λH v w a b q V r h=>by
 replace h:=cU h
 obtain⟨i,j,rfl,rfl,h⟩:=h
 cases V;cases r;cases h
 exact⟨_,_,rfl,λ_=>.bl _,λQ k=>⟨_,_,rfl,rfl,k⟩⟩
theorem ET:iY K (xi λi j=>.bl (decide (j<=i))) Fv:=.scalar λH v w a b q V r h=>by
 replace h:=cU h
 obtain⟨i,j,rfl,rfl,h⟩:=h
 cases V;cases r;cases h
 exact⟨_,_,rfl,λ_=>.bl _,λQ k=>⟨_,_,rfl,rfl,k⟩⟩
mutual
noncomputable def toD:A->Option D
 | .non=>some .non
 | .bl b=>some (.bl b)
 | .int i=>some (.int i)
 | .str x=>some (.str x)
 | .tup xs=>match iy xs with
  |some ds=>some (.tup ds)
  |none=>none
 | .lst xs=>match iy xs with
  |some ds=>some (.lst ds)
  |none=>none
 | .dic _=>none
 | .exc _=>none
 | .obj _ _=>none
 | .dit _=>none
 | .opq=>none
noncomputable def iy:List A->Option (List D)
 |[]=>some []
 |a::as=>match toD a,iy as with
  |some d,some ds=>some (d::ds)
  |_,_=>none
end
mutual
theorem ly{K:Kx}{H:Hp}:∀{v:V}{a:A}{d:D},RA K H v a->toD a=some d->Den K.K H v d
 |_,_,_,.non,h=>by rw[toD] at h;cases h;exact .non
 |_,_,_,.bl b,h=>by rw[toD] at h;cases h;exact .bl _
 |_,_,_,.int i,h=>by rw[toD] at h;cases h;exact .int _
 |_,_,_,.str x,h=>by rw[toD] at h;cases h;exact .str _
 |_,_,_,.tup (as:=as) e r,h=>by
  rw[toD] at h;cases q:iy as with
  |none=>simp only[q] at h;cases h
  |some ds=>simp only[q] at h;cases h;exact .tup e (pX r q)
 |_,_,_,.lst (as:=as) e r,h=>by
  rw[toD] at h;cases q:iy as with
  |none=>simp only[q] at h;cases h
  |some ds=>simp only[q] at h;cases h;exact .lst e (pX r q)
 |_,_,_,.dic e r,h=>by rw[toD] at h;cases h
 |_,_,_,.exc e m,h=>by rw[toD] at h;cases h
 |_,_,_,.obj e m r,h=>by rw[toD] at h;cases h
 |_,_,_,.dit e r,h=>by rw[toD] at h;cases h
 |_,_,_,.opq,h=>by rw[toD] at h;cases h
theorem pX{K:Kx}{H:Hp}:∀{vs:List V}{as:List A}{ds:List D},bF K H vs as->iy as=some ds->fA K.K H vs ds
 |_,_,_,.nil,h=>by rw[iy] at h;cases h;exact .nil
 |_,_,_,.cons (a:=a) (as:=as) q r,h=>by
  rw[iy] at h;cases e1:toD a with
  |none=>simp only[e1] at h;cases h
  |some d=>
   cases e2:iy as with
   |none=>simp only[e1,e2] at h;cases h
   |some ds=>simp only[e1,e2] at h;cases h;exact .cons (ly q e1) (pX r e2)
end
def qc(a b:A):Option Bool:=match toD a,toD b with
 |some d,some e=>if D.depth d<=40 then some (D.eq d e) else none
 |_,_=>none
def dR(a b:A):Option Rr:=match qc a b with
 |some k=>some (.fr (.bl k))
 |none=>none
def fS(a b:A):Option Rr:=match qc a b with
 |some k=>some (.fr (.bl (!k)))
 |none=>none
theorem qY{a b:A}{k:Bool}(h:qc a b=some k):∃d e,toD a=some d/\toD b=some e/\D.depth d<=40/\k=D.eq d e:=by
 delta qc at h
 cases e1:toD a with
 |none=>rw[e1] at h;cases h
 |some d=>
  cases e2:toD b with
  |none=>simp only[e1,e2] at h;cases h
  |some e=>
   simp only[e1,e2] at h;split at h
   .rename_i hd;cases h;exact⟨d,e,rfl,rfl,hd,rfl⟩
   .cases h
theorem os_eq:iY K (KG K.K) dR:=.scalar λH v w a b q V i h=>by
 delta dR at h
 cases e:qc a b with
 |none=>rw[e] at h;cases h
 |some k=>rw[e] at h;cases h;obtain⟨d,d',h1,h2,h3,rfl⟩:=qY e;exact⟨_,_,rfl,λ_=>.bl _,λQ k=>⟨d,d',ly V h1,ly i h2,h3,k⟩⟩
theorem FD:iY K (L5 K.K) fS:=.scalar λH v w a b q V i h=>by
 delta fS at h
 cases e:qc a b with
 |none=>rw[e] at h;cases h
 |some k=>rw[e] at h;cases h;obtain⟨d,d',h1,h2,h3,rfl⟩:=qY e;exact⟨_,_,rfl,λ_=>.bl _,λQ k=>⟨d,d',ly V h1,ly i h2,h3,k⟩⟩
theorem kl:100000<=sizeLine:=by rw[Yo];decide
end
variable{w:V}{id:String}{e2:Expr}
section
variable{X:Cx}{E:XK}
def BS:A->A->Option Rr
 | .lst xs,.int i=>match gU xs i with
  |some a=>some (.fr a)
  |none=>none
 | .tup xs,.int i=>match gU xs i with
  |some a=>some (.fr a)
  |none=>none
 | .str z,.int i=>if z.length<=100000 then match gU z.cps.toList i with
  |some c=>some (.fr (.str ⟨#[c]⟩))
  |none=>none else none
 |_,_=>none
theorem bF.gU{k:Kx}{G:Hp}{vs:List V}{as:List A}{i:Int}{a:A}(r:bF k G vs as)(h:gU as i=some a):∃v,gU vs i=some v/\RA k G v a:=by
 delta L2.gU at h ⊢
 rw[r.len]
 cases e:fV as.length i with
 |none=>rw[e] at h;cases h
 |some j=>rw[e] at h;obtain⟨v,h1,h2⟩:=r.ta h;exact⟨v,h1,h2⟩
theorem M7:iY K (PU K.K) BS:=by
 intro c Y H Z B θ x y v w a b q Q G t f bd e1 e2 T k;subst G;have r:=Bd.rd bd f e2;obtain⟨L,bl,s,o⟩:=Bd.zd bd t f e1 e2;have V:=Bd.rd bd.drop t e1;cases a<;>first|exact cu T|(cases b<;>first|exact cu T|skip)
 .rename_i z i;cases V;cases r
  delta BS at T
  simp only at T;split at T
  .rename_i hz;cases e:gU z.cps.toList i with
   |none=>rw[e] at T;cases T
   |some ch=>rw[e] at T;cases T;exact .inr (.inr ⟨z,i,ch,rfl,rfl,RG hz kl,e,k _ H trivial (Bd.push ⟨L,bl⟩ λ_=>.str _)⟩)
  .cases T
 .rename_i xs i;cases r
  delta BS at T
  cases e:gU xs i with
  |none=>simp only[e] at T;cases T
  |some d=>simp only[e] at T;cases T;obtain⟨p,vs,rfl,s1,h⟩:=s.2.1 xs rfl;obtain⟨u,h1,h2⟩:=h.gU e;exact .inr (.inl ⟨p,vs,i,u,rfl,rfl,fK (g_same _ _ _) s1,h1,k u H trivial (bl.push h2)⟩)
 .rename_i xs i;cases r
  delta BS at T
  cases e:gU xs i with
  |none=>simp only[e] at T;cases T
  |some d=>simp only[e] at T;cases T;obtain⟨p,vs,rfl,s1,h⟩:=s.1 xs rfl;obtain⟨u,h1,h2⟩:=h.gU e;exact .inl ⟨p,vs,i,u,rfl,rfl,s1,h1,k u H trivial (bl.push h2)⟩
theorem IL{a b:Expr}(ha:JE X E a ma)(d:JE X E b mb)(hs:je b):JE X E (.Subscript a b pos) (aA BS ma mb):=
 ⟨PE.weaken (zL GW ha.p d.p hs) (jc M7)⟩
noncomputable def jF:A->Bool
 | .non=>true
 | .bl _=>true
 | .int _=>true
 | .str _=>true
 |_=>false
noncomputable def kD:A->V
 | .non=>.non
 | .bl b=>.bl b
 | .int i=>.int i
 | .str x=>.str x
 |_=>.non
theorem zV{b:A}(r:RA K H w b)(h:jF b=true):w=kD b/\gK w=true:=by cases r<;>first|exact⟨rfl,rfl⟩|exact yW h
theorem uJ{K:Kx}{H:Hp}:∀{vs:List V}{as:List A},bF K H vs as->as.all jF=true->vs=as.map kD/\vs.all gK=true
 |_,_,.nil,_=>⟨rfl,rfl⟩
 |_,_,.cons h r,e=>by simp only[Rt,QZ] at e;obtain⟨h1,h2⟩:=zV h e.1;obtain⟨h3,h4⟩:=uJ r e.2;exact⟨by simp only[h1,h3];rfl,by simp only[Rt,h2,h4];rfl⟩
def J8(neg:Bool)(x:A)(xs:List A):Option Rr:=if jF x&&xs.all jF then some (.fr (.bl (if neg then !E4 (kD x) (xs.map kD) else E4 (kD x) (xs.map kD)))) else none
def pK(neg:Bool):A->A->Option Rr
 |x,.lst xs=>J8 neg x xs
 |x,.tup xs=>J8 neg x xs
 |_,_=>none
theorem pU{neg:Bool}:iY K (NX K.K neg) (pK neg):=.scalar λH v w a b q y i h=>by
 have key:∀(xs:List A)(vs:List V)(p:Addr),bF K H vs xs->(dI K.K H p vs\/i4 K.K H p vs)->J8 neg a xs=some q->∃u d,q=.fr d/\(∀G,RA K G u d)/\∀Q:VK,Q u H->NX K.K neg v (.ref p) H Q:=by
  intro xs vs p Y sq h
  delta J8 at h
  split at h
  .rename_i hc;simp only[QZ] at hc;cases h;obtain⟨rfl,h2⟩:=zV y hc.1;obtain⟨rfl,h4⟩:=uJ Y hc.2;exact⟨_,_,rfl,λ_=>.bl _,λQ k=>⟨p,_,rfl,sq,h2,h4,k⟩⟩
  .cases h
 cases b<;>first|exact cu h|skip
 .cases i with|tup e r=>exact key _ _ _ r (.inr e) h
 .cases i with|lst e r=>exact key _ _ _ r (.inl e) h
noncomputable def sX:A->Bool
 | .non=>true
 |_=>false
def rZ(neg:Bool):A->A->Option Rr
 |a,.non=>some (.fr (.bl (if neg then !sX a else sX a)))
 |_,_=>none
theorem um{v:V}{a:A}(r:RA K H v a):decide (v=.non)=sX a:=by cases r<;>rfl
theorem EF:iY K (λx y H Q=>y=.non/\Q (.bl (decide (x=.non))) H) (rZ false):=.scalar λH v w a b q V i h=>by
 cases b<;>first|exact cu h|skip
 cases i;cases h;exact⟨_,_,rfl,λ_=>.bl _,λQ k=>⟨rfl,by rw[um V];exact k⟩⟩
theorem u7:iY K (λx y H Q=>y=.non/\Q (.bl (!decide (x=.non))) H) (rZ true):=.scalar λH v w a b q V i h=>by
 cases b<;>first|(exact cu h)|skip
 cases i;cases h;exact⟨_,_,rfl,λ_=>.bl _,λQ k=>⟨rfl,by rw[um V];exact k⟩⟩
def aT(f:A->Option Rr)(m:Mi Rr):Mi Rr:=aO m λx Z=>match res Z x with
 |some a=>match f a with
  |some r=>some (.ok r,Z)
  |none=>none
 |none=>none
def rP(K:Kx)(r:V->Hp->VK->Prop)(f:A->Option Rr):Prop:=∀(c:Cn)(Y:St)(H:Hp)(Z:List Sl)(B:St)(θ:List Sl)(x:Rr)(v:V)(a:A)(q:Rr)(Q:VK),c.toKx=K->VR Y x v->
 Bd c Y H Z (cq x v B) (cp x θ)->res Z x=some a->f a=some q->(∀u H',VR Y q u->Bd c Y H' Z (cq q u B) (cp q θ)->Q u H')->r v H Q
theorem B1{f:A->Option Rr}{x:Rr}{o:Except Str Rr}(h:(match res Z x with|some a=>(match f a with|some r=>some ((.ok r:Except Str Rr),Z)|none=>none)|none=>none)=some (o,O)):∃a r,res Z x=some a/\f a=some r/\o=.ok r/\O=Z:=by
 cases e1:res Z x with
 |none=>rw[e1] at h;cases h
 |some a=>
  rw[e1] at h;cases L:f a with
  |none=>simp only[L] at h;cases h
  |some r=>simp only[L] at h;cases h;exact⟨a,r,rfl,L,rfl,rfl⟩
theorem fJ{r:V->Hp->VK->Prop}{f:A->Option Rr}{m:Mi Rr}(hf:rP (kx X) r f)(Y:St)(H:Hp)(Q:VK)(h:kF (kx X) E (aT f m) Y H Q):kF (kx X) E m Y H λv H'=>r v H' Q:=by obtain⟨c,Z,B,θ,o,O,e,b,em,q⟩:=h;refine aZ e b em (λx v U S t n u=>?_) (bB q);obtain⟨a,r,e1,L,rfl,rfl⟩:=B1 u;exact hf c Y S _ B θ x v a r Q e t n e1 L q
theorem rP.scalar{r:V->Hp->VK->Prop}{f:A->Option Rr}(h:∀H v a q,RA K H v a->f a=some q->∃u d,q=.fr d/\(∀G,RA K G u d)/\∀Q:VK,Q u H->r v H Q):rP K r f:=by intro c Y H Z B θ x v a q Q e t bd e1 L k;have w:=Bd.rd bd t e1;rw[e] at w;obtain⟨u,d,rfl,p,O⟩:=h H v a q w L;exact O Q (k u H trivial (Bd.push bd.drop (by rw[e];exact p)))
noncomputable def bY:A->Option Rr
 | .int i=>some (.fr (.int (-i)))
 |_=>none
theorem Ik{a:Expr}{m:Mi Rr}(h:JE X E a m):JE X E (.UnaryOp .USub a pos) (aT bY m):=⟨PE.weaken (Nb Jg h.p) (fJ (.scalar λH v a q V h=>by
 cases a<;>first|exact cu h|skip
 cases V;cases h;exact⟨_,_,rfl,λ_=>.int _,λQ k=>⟨_,rfl,k⟩⟩))⟩
noncomputable def one(f:A->Option Rr):List A->Option Rr
 |[a]=>f a
 |_=>none
def bK(f:A->Option Rr)(m:Mi Rr):Mi Rr:=aT f m
def Fi(f:A->A->Option Rr)(m n:Mi Rr):Mi Rr:=aA f m n
theorem uS{r:List V->Hp->VK->Prop}{f:A->Option Rr}{x:Str}{p:Pos}{m:Mi Rr}(hc:dE X (.builtin id) r)(hf:rP (kx X) (λv=>r [v]) f)(hg:Gl X x)(hm:X.mg x=none)(hv:XX x=some (.builtin id))(ha:JE X E e m)(hn:x ≠ "__name__")
  (hdb:eV x)(hs:XU [e] X.env=(false,eval e X.env)::XU [] X.env:=by rfl)(hp:(X4 pos (XU [] X.env)).any (·.1)=false:=by rfl):JE X E (.Call (.Name x p) [e] [] pos) (bK f m):=
 ⟨PE.weaken (gH hc hg hm hv (aR ha.p cc hs) hn hdb hs hp) λY H Q h=>fJ hf Y H Q h⟩
theorem zT{T:String}{r:List V->Hp->VK->Prop}{f:A->Option Rr}{x:Str}{p:Pos}{m:Mi Rr}(hc:dE X (.type T) r)(hf:rP (kx X) (λv=>r [v]) f)(hg:Gl X x)(hm:X.mg x=none)(hv:XX x=some (.type T))(ha:JE X E e m)(hn:x ≠ "__name__")
  (hdb:eV x)(hs:XU [e] X.env=(false,eval e X.env)::XU [] X.env:=by rfl)(hp:(X4 pos (XU [] X.env)).any (·.1)=false:=by rfl):JE X E (.Call (.Name x p) [e] [] pos) (bK f m):=
 ⟨PE.weaken (fv hc hg hm hv (aR ha.p cc hs) hn hdb hs hp) λY H Q h=>fJ hf Y H Q h⟩
theorem EX{r:List V->Hp->VK->Prop}{f:A->A->Option Rr}{x:Str}{p:Pos}{e1:Expr}{m n:Mi Rr}(hc:dE X (.builtin id) r)(hf:iY (kx X) (λv w=>r [v,w]) f)(hg:Gl X x)(hm:X.mg x=none)(hv:XX x=some (.builtin id))(h1:JE X E e1 m)(h2:JE X E e2 n)(hn:x ≠ "__name__")
  (hdb:eV x)(hs:XU [e1,e2] X.env=(false,eval e1 X.env)::XU [e2] X.env:=by rfl)(hs2:XU [e2] X.env=(false,eval e2 X.env)::XU [] X.env:=by rfl)(hp:(X4 pos (XU [e2] X.env)).any (·.1)=false:=by rfl):JE X E (.Call (.Name x p) [e1,e2] [] pos) (Fi f m n):=
 ⟨PE.weaken (gH hc hg hm hv (aR h1.p (aR h2.p cc hs2) hs) hn hdb hs hp) λY H Q h=>jc hf Y H Q h⟩
noncomputable def cM:A->Option Rr
 | .str z=>if z.length<=100000 then some (.fr (.int z.length)) else none
 | .lst xs=>some (.fr (.int xs.length))
 | .tup xs=>some (.fr (.int xs.length))
 |_=>none
theorem JD:rP K (λv H Q=>∃x n,[v]=[x]/\M9 K.K x H n/\Q (.int n) H) cM:=.scalar λH v a q V h=>by
 cases a<;>first|exact cu h|skip
 .cases V
  delta cM at h
  simp only at h;split at h
  .rename_i hz;cases h;exact⟨_,_,rfl,λ_=>.int _,λQ k=>⟨_,_,rfl,⟨RG hz kl,rfl⟩,k⟩⟩
  .cases h
 .cases V with
  |tup e r=>cases h;exact⟨_,_,rfl,λ_=>.int _,λQ k=>⟨_,_,rfl,.inr ⟨_,e,rfl⟩,by rw[r.len];exact k⟩⟩
 .cases V with
  |lst e r=>cases h;exact⟨_,_,rfl,λ_=>.int _,λQ k=>⟨_,_,rfl,.inl ⟨_,e,rfl⟩,by rw[r.len];exact k⟩⟩
noncomputable def Cg:A->Option Rr
 | .int i=>some (.fr (.int (if i<0 then -i else i)))
 |_=>none
theorem GN:rP K (λv H Q=>∃i,[v]=[V.int i]/\Q (.int (if i<0 then -i else i)) H) Cg:=.scalar λH v a q w h=>by
 cases a<;>first|exact cu h|skip
 cases w;cases h;exact⟨_,_,rfl,λ_=>.int _,λQ k=>⟨_,rfl,k⟩⟩
def MQ:A->A->Option Rr:=oU λi j=>some (.fr (.int (if j > i then j else i)))
def vZ:A->A->Option Rr:=oU λi j=>some (.fr (.int (if j<i then j else i)))
theorem HR:iY K (λv w H Q=>∃i j,[v,w]=[V.int i,V.int j]/\Q (.int (if j > i then j else i)) H) MQ:=.scalar λH v w a b q y r h=>by
 replace h:=cU h
 obtain⟨i,j,rfl,rfl,h⟩:=h
 cases y;cases r;cases h
 exact⟨_,_,rfl,λ_=>.int _,λQ k=>⟨_,_,rfl,k⟩⟩
theorem Hf:iY K (λv w H Q=>∃i j,[v,w]=[V.int i,V.int j]/\Q (.int (if j<i then j else i)) H) vZ:=.scalar λH v w a b q y r h=>by
 replace h:=cU h
 obtain⟨i,j,rfl,rfl,h⟩:=h
 cases y;cases r;cases h
 exact⟨_,_,rfl,λ_=>.int _,λQ k=>⟨_,_,rfl,k⟩⟩
noncomputable def fO:A->Option Rr
 | .int i=>some (.fr (.int i))
 | .bl k=>some (.fr (.int (if k then 1 else 0)))
 |_=>none
theorem Jm:rP K (λv H Q=>(∃i,[v]=[V.int i]/\Q (.int i) H)\/∃k,[v]=[V.bl k]/\Q (.int (if k then 1 else 0)) H) fO:=.scalar λH v a q w h=>by
 cases a<;>first|exact cu h|skip
 .cases w;cases h;exact⟨_,_,rfl,λ_=>.int _,λQ k=>.inr ⟨_,rfl,k⟩⟩
 .cases w;cases h;exact⟨_,_,rfl,λ_=>.int _,λQ k=>.inl ⟨_,rfl,k⟩⟩
noncomputable def JU:A->Option (List A)
 | .lst xs=>some xs
 | .tup xs=>some xs
 |_=>none
def eD(a:A):Option Rr:=match JU a with
 |some xs=>some (.nw (.lst xs))
 |none=>none
def lF(a:A):Option Rr:=match JU a with
 |some xs=>some (.fr (.tup xs))
 |none=>none
theorem Cu:rP K (λv H Q=>∃p ys,[v]=[V.ref p]/\(dI K.K H p ys\/i4 K.K H p ys)/\∀l,H l=none->Q (.ref l) (upd H l (.lst ys))) eD:=by
 intro c Y H Z B θ x v a q Q e t bd e1 T k;subst e;obtain⟨L,bl,s⟩:=Bd.open bd t e1;cases a<;>first|exact cu T|skip
 .rename_i xs;cases T;obtain⟨p,vs,rfl,s1,h⟩:=s.2.1 xs rfl;exact⟨p,vs,rfl,.inr (fK (g_same _ _ _) s1),λl hl=>k _ _ trivial (bl.kr hl λG H' sm q=>.lst q (h.sm sm))⟩
 .rename_i xs;cases T;obtain⟨p,vs,rfl,s1,h⟩:=s.1 xs rfl;exact⟨p,vs,rfl,.inl s1,λl hl=>k _ _ trivial (bl.kr hl λG H' sm q=>.lst q (h.sm sm))⟩
theorem xH:rP K (λv H Q=>∃p ys,[v]=[V.ref p]/\((dI K.K H p ys/\∀l,H l=none->Q (.ref l) (upd H l (.tup ys)))\/(i4 K.K H p ys/\Q (.ref p) H))) lF:=by
 intro c Y H Z B θ x v a q Q e t bd e1 T k;subst e;obtain⟨L,bl,s⟩:=Bd.open bd t e1;cases a<;>first|exact cu T|skip
 .rename_i xs;cases T;obtain⟨p,vs,rfl,s1,h⟩:=s.2.1 xs rfl;exact⟨p,vs,rfl,.inr ⟨fK (g_same _ _ _) s1,k _ _ trivial (bl.push (.tup s1 h))⟩⟩
 .rename_i xs;cases T;obtain⟨p,vs,rfl,s1,h⟩:=s.1 xs rfl;refine⟨p,vs,rfl,.inl ⟨s1,λl hl=>?_⟩⟩;obtain⟨r,sm,np⟩:=bl.new hl;exact k _ _ trivial (r.push (.tup (.inl (.inl (by rw[bf np (bl.Kc hl)];exact aF))) (h.sm sm)))
end
section
variable{c:Cn}{Y:St}{H:Hp}{Z:List Sl}{B:St}{θ:List Sl}
theorem Bd.tw{x:Option V}(e:xs.length=ss.length)(b:Bd c Y H Z (x::(xs++B)) (s::(ss++θ))):Bd c Y H Z (x::B) (s::θ):=by
 obtain⟨L,b⟩:=b;have r:av c.toKx (c.g H L) H (x::(xs++(B++Y))) (s::(ss++(θ++Z))) L:=by have:=b.rel;simpa[Q6] using this
 cases r with
 |cons h r=>rename_i u L';obtain⟨I,L2,e1,w,i⟩:=av.split e r;subst e1;have sl:(u++L2).Sublist (u++(I++L2)):=Sj (Sr _) (T4 _ _);have sm:Sq (c.g H (u++(I++L2))) (c.g H (u++L2)):=dq λa ha=>sl.subset ha;exact⟨u++L2,b.nd.sublist sl,av.cons (h.sm sm (λ_ _ _ e=>e)) (i.sm sm (λ_ _ _ e=>e)),λp hp=>b.own p (sl.subset hp),b.fr,b.kp,by have:=b.lt;simp at this ⊢;lia,b.hd⟩
theorem Bd.Ot{ys:St}(b:Bd c (Y++ys) H Z B θ):Bd c Y H (Z.take Y.length) B θ:=by
 have hl:=b.qy;rw[Rn] at hl;obtain⟨L,b⟩:=b;have r:av c.toKx (c.g H L) H ((B++Y)++ys) ((θ++Z.take Y.length)++Z.drop Y.length) L:=by have:=b.rel;rw[Q6,Q6,Tz];exact this
 obtain⟨I,L2,e1,V,k⟩:=av.split (by simp[b.lt];lia) r;subst e1;have sm:Sq (c.g H (I++L2)) (c.g H I):=dq λa ha=>Q8 _ ha;refine⟨I,(Rj.mp b.nd).1,V.sm sm (λ_ _ _ e=>e),λp hp=>b.own p (Q8 _ hp),b.fr,λi o h w=>?_,b.lt,b.hd⟩;have hi:i<(Z.take Y.length).length:=(Q4.mp h).1;rw[So] at hi;have h':Z[i]?=some o:=by rw[List.getElem?_take] at h;split at h;exact h;cases h
 have:=b.kp i o h' w;rwa[R9 Q1] at this
theorem Bd.Of{n:Nat}(b:Bd c Y H Z B θ):Bd c (Y++Q3 n none) H (Z++Q3 n .un) B θ:=by
 have hl:=b.qy;obtain⟨L,b⟩:=b;refine⟨L,b.nd,?_,b.own,b.fr,λi o h w=>?_,b.lt,b.hd⟩
 .have:=b.rel.app (lY (k:=c.toKx) (G:=c.g H L) (H:=H) n);simpa[Q6] using this
 .by_cases z:i<Z.length
  .rw[R9 z] at h;rw[R9 Q1];exact b.kp i o h w
  .rw[RT (by exact Us.mp ‹_›)] at h;have:=Tc (R4 h);subst this;cases w
end
noncomputable abbrev Mg:=A->List Sl->Option (List Sl)
noncomputable abbrev Bx:=List A->List Sl->Option (List Sl)
inductive NV(K:Kx)(lo:Nat)(G:Mg)(v:V)(Y:St)(H:Hp)(Q:St->Hp->Prop):Prop
 |mk(c:Cn)(Z:List Sl)(B:St)(θ:List Sl)(a:A)(O:List Sl)(h1:c.toKx=K)(h2:Bd c Y H Z (some v::B) (.fr a::θ))(h3:G a Z=some O)(h4:∀j H',j.take lo=Y.take lo->j.length=Y.length->Bd c j H' O B θ->Q j H')
inductive Ow(K:Kx)(lo:Nat)(G:Bx)(vs:List V)(Y:St)(H:Hp)(Q:St->Hp->Prop):Prop
 |mk(c:Cn)(Z:List Sl)(B:St)(θ:List Sl)(as:List A)(O:List Sl)(h1:c.toKx=K)(h2:vs.length=as.length)(h3:Bd c Y H Z (vs.map some++B) (as.map Sl.fr++θ))(h4:G as Z=some O)(h5:∀j H',j.take lo=Y.take lo->j.length=Y.length->Bd c j H' O B θ->Q j H')
structure JG(X:Cx)(lo:Nat)(tg:Expr)(G:Mg):Prop where
 p:PG X tg (NV (kx X) lo G)
structure Lu(X:Cx)(lo:Nat)(tg:List Expr)(G:Bx):Prop where
 p:F0 X tg (Ow (kx X) lo G)
def aL(i:Nat):Mg:=λa Z=>put i (.fr a) Z
noncomputable def gM:Bx:=λas Z=>match as with
 |[]=>some Z
 |_=>none
noncomputable def ck(g:Mg)(gs:Bx):Bx:=λas Z=>match as with
 |a::as=>match g a Z with
  |some U=>gs as U
  |none=>none
 |[]=>none
noncomputable def iH(n:Nat)(gs:Bx):Mg:=λa Z=>match a with
 | .tup as=>if as.length=n then gs as Z else none
 |_=>none
variable{gs:Bx}{tg iter:Expr}{body:List Stmt}
section
variable{X:Cx}{E:XK}{lo:Nat}
theorem Dv{x:Str}(hN:X.N.Nodup)(hi:X.N[i]?=some x)(hx:Loc X.env.scope x)(hl:lo<=i)(hf:X.fn x=true\/X.env.scope.names.lookup x=some .local:=by first|exact .inl rfl|exact .inr rfl|assumption):JG X lo (.Name x pos) (aL i):=⟨λpins s Y H v u Q I r h=>by refine BV hN hi hx hf pins s Y H v u Q I r ?_;obtain⟨c,Z,B,θ,a,O,ek,b,em,q⟩:=h;exact q _ H (by rw[List.take_set_of_le hl]) Z3 (Bd.put b rfl em)⟩
theorem Df:Lu X lo [] gM:=⟨λpins s Y H v u Q I r h=>by
 refine Cz pins s Y H v u Q I r ?_;obtain⟨c,Z,B,θ,as,O,e,hl,b,em,q⟩:=h;cases as with
 |nil=>cases em;cases v with|nil=>exact⟨rfl,q Y H rfl rfl b⟩|cons _ _=>simp at hl
 | cons _ _=>cases em⟩
theorem zB{g:Mg}(h1:JG X lo e g)(h2:Lu X lo es gs)(hp:∀{t:TG}{u:Fz},PG X e t->F0 X es u->F0 X (e::es) (ED t u)):Lu X lo (e::es) (ck g gs):=⟨λpins s Y H v u Q I r h=>by
 refine hp h1.p h2.p pins s Y H v u Q I r ?_;obtain⟨c,Z,B,θ,as,O,G,hl,b,em,q⟩:=h;cases as with
 |nil=>cases em
 |cons a as=>
  cases v with
  |nil=>simp at hl
  |cons v vs=>
   delta ck at em
   simp only at em
   cases e1:g a Z with
   |none=>rw[e1] at em;cases em
   | some U=>rw[e1] at em;refine⟨v,vs,rfl,c,Z,_,_,a,U,G,b,e1,λj H' o z n=>⟨c,U,B,θ,as,O,G,by simpa using hl,n,em,λL P E m R=>q L P (E.trans o) (m.trans z) R⟩⟩⟩
theorem G8{k n:Nat}(hc:X.calm=true)(h:Lu X lo es gs)(hn:(Ye es X.env).length=n:=by rfl)(hst:(Ye es X.env).findIdx? (·.1)=none:=by rfl):JG X lo (.Tuple es k pos) (iH n gs):=⟨λpins s Y H v u Q I r h'=>by
 refine Ga hc h.p hn hst pins s Y H v u Q I r ?_;obtain⟨c,Z,B,θ,a,O,ek,b,em,q⟩:=h';cases a<;>first|exact cu em|skip
 rename_i as
 delta iH at em
 simp only at em;split at em
 .rename_i hl;obtain⟨L,bl,i1⟩:=Bd.open (r:=.fr (.tup as)) b trivial rfl;obtain⟨p,vs,rfl,s1,rr⟩:=i1.2.1 as rfl;have:c.K=X.K:=by have:=Zz Kx.K ek;exact this
  refine⟨p,vs,rfl,by rw[<-this];exact fK (g_same _ _ _) s1,by rw[rr.len];exact hl,c,Z,B,θ,as,O,ek,rr.len,?_,em,q⟩;obtain⟨nd,rel,own,fr,kp,lt,hdd⟩:=bl;exact⟨L,nd,by have:=(av.dG (H:=H) rr).app rel;simpa[Q6] using this,own,fr,kp,by simp[lt,rr.len],hdd⟩
 .cases em⟩
def Je(K:Kx)(J:It)(T:St)(P:List A)(as:List A):Prop:=∀(c:Cn)(Y:St)(H:Hp)(Z:List Sl)(N:St)(D:List Sl)(B:St)(θ:List Sl)(i:Nat),c.toKx=K->N.length=D.length->Bd c Y H Z (N++(T++B)) (D++(P.map Sl.fr++θ))->
 (as.length<=i->J.stop i H)/\∀a,as[i]?=some a->J.go i H/\∀x H',J.yld i H x H'->Bd c Y H' Z (some x::(N++(T++B))) (.fr a::(D++(P.map Sl.fr++θ)))
def MA(K:Kx)(E:XK)(c:Cn)(Y:St)(Z:List Sl)(B:St)(θ:List Sl)(R:It->Hp->Prop):Except Str (List A)->Prop
 | .ok as=>∀J H T P,T.length=P.length->Je K J T P as->Bd c Y H Z (T++B) (P.map Sl.fr++θ)->R J H
 | .error x=>∀C H,K.mg x=some (.ref C)->Bd c Y H Z B θ->E (.ref C) none H
inductive P1(K:Kx)(E:XK)(m:Mi (List A))(Y:St)(H:Hp)(R:It->Hp->Prop):Prop
 |mk(c:Cn)(Z:List Sl)(B:St)(θ:List Sl)(o:Except Str (List A))(O:List Sl)(h1:c.toKx=K)(h2:Bd c Y H Z B θ)(h3:m Z=some (o,O))(h4:MA K E c Y O B θ R o)
structure JI(X:Cx)(E:XK)(tg iter:Expr)(m:Mi (List A)):Prop where
 p:PI X tg iter (P1 (kx X) E m)
theorem dh{o:Except Str (List A)}{R:It->Hp->Prop}(q:MA (kx X) E c Y O B θ R o):∀e,o=.error e->∀C H,X.mg e=some (.ref C)->Bd c Y H O B θ->E (.ref C) none H:=λe a=>by subst a;exact q
def Jx:A->Option (List A)
 |a=>JU a
def cX(m:Mi Rr):Mi (List A):=aO m λr Z=>match bE r Z with
 |some (a,O)=>match Jx a with
  |some as=>some (.ok as,O)
  |none=>none
 |none=>none
theorem Bd.mid{v:V}{a:A}(e:xs.length=ss.length)(b:Bd c Y H Z (xs++(some v::B)) (ss++(.fr a::θ))):∃L,dQ c Y H Z (xs++(some v::B)) (ss++(.fr a::θ)) L/\RA c.toKx (c.g H L) v a:=by
 obtain⟨L,b⟩:=b;have r:av c.toKx (c.g H L) H (xs++(some v::(B++Y))) (ss++(.fr a::(θ++Z))) L:=by have:=b.rel;simpa[Q6] using this
 obtain⟨I,L2,e1,w,i⟩:=av.split e r;cases i with
 |cons h m=>cases h with|fr h=>exact⟨L,b,h⟩
theorem Ih{l:Expr}{m:Mi Rr}(hl:JE X E l m):JI X E tg l (cX m):=⟨λpins s Y H R I h=>by
 refine DB hl.p pins s Y H R I ?_;obtain⟨c,Z,B,θ,o,O,e,b,em,q⟩:=h;refine aZ e b em (λx v U S t n z=>?_) (dh q);cases e1:bE x U with
 |none=>rw[e1] at z;cases z
 |some p=>
  obtain⟨a,Z'⟩:=p;rw[e1] at z;have r:=Bd.bE (xs:=[]) (ss:=[]) rfl n t e1;cases e2:Jx a with
  |none=>simp only[e2] at z;cases z
  |some as=>
   simp only[e2] at z;cases z;have G:c.K=X.K:=Zz Kx.K e;cases a<;>first|exact cu e2|skip
   .cases e2;have rt:=Bd.top r (a:=.tup as) rfl;cases rt with
    |tup Q k=>
     rename_i p vs;refine⟨p,rfl,.inr ⟨⟨vs,by rw[<-G];exact Q⟩,q _ S [some (.ref p)] [.tup as] rfl (λC j H' O N D J T i g f F=>?_) r⟩⟩;have A:C.K=X.K:=Zz Kx.K g;obtain⟨L,bl,h⟩:=Bd.mid f F;cases h with
     |tup P w=>
      rename_i us;have sq:i4 X.K H' p us:=by rw[<-A];exact fK (g_same _ _ _) P
      refine⟨λhi=>⟨us,sq,by rw[w.len];exact hi⟩,λa ha=>?_⟩;obtain⟨u,h1,h2⟩:=w.ta ha;refine⟨⟨us,u,sq,h1⟩,λx V y=>?_⟩;obtain⟨rfl,y⟩:=y;have:=y us sq;rw[h1] at this;cases this;exact bl.push h2
   .cases e2;have rt:=Bd.top r (a:=.lst as) rfl;cases rt with
    |lst Q k=>
     rename_i p vs;refine⟨p,rfl,.inl ⟨⟨vs,by rw[<-G];exact Q⟩,q _ S [some (.ref p)] [.lst as] rfl (λC j H' O N D J T i g f F=>?_) r⟩⟩;have A:C.K=X.K:=Zz Kx.K g;obtain⟨L,bl,h⟩:=Bd.mid f F;cases h with
     |lst P w=>
      rename_i us;have sq:dI X.K H' p us:=by rw[<-A];exact eU (g_same _ _ _) P
      refine⟨λhi=>⟨us,sq,by rw[w.len];exact hi⟩,λa ha=>?_⟩;obtain⟨u,h1,h2⟩:=w.ta ha;refine⟨⟨us,u,sq,h1⟩,λx V y=>?_⟩;obtain⟨rfl,y⟩:=y;have:=y us sq;rw[h1] at this;cases this;exact bl.push h2⟩
noncomputable def bp(lo:Int)(n:Nat):List A:=(Rp n).map λi=>.int (lo+(i:Nat))
theorem A7{lo:Int}{n:Nat}:Je K (Mq lo n) [] [] (bp lo n):=λc Y H Z N D B θ i e f b=>by
 have hl:(bp lo n).length=n:=by simp[bp]
 refine⟨λh=>by rw[hl] at h;exact h,λa ha=>?_⟩;have hi:i<n:=by rw[<-hl];exact(Q4.mp ha).1
 refine⟨hi,λx H' y=>?_⟩;obtain⟨rfl,rfl⟩:=y;have:a=.int (lo+i):=by unfold bp at ha;simp only[RN,SQ hi] at ha;exact(Rv ha).symm
 subst this;exact b.push λ_=>.int _
def bq(m:Mi Rr):Mi (List A):=aO m λr Z=>match res Z r with
 |some (.int j)=>if -(2^60)<=j/\j<2^60 then some (.ok (bp 0 j.toNat),Z) else none
 |_=>none
theorem CY{a:Expr}{m:Mi Rr}{p:Pos}(hg:Gl X "range")(hm:X.mg "range" = none)(ha:JE X E a m)(hs:XU [a] X.env=[(false,eval a X.env)]:=by rfl)(hs':XU [a] X.env=(false,eval a X.env)::XU [] X.env:=by rfl):JI X E tg (.Call (.Name "range" p) [a] [] pos) (bq m):=⟨λpins s Y H R I h=>by
 refine wD hg hm (aR ha.p cc hs') hs pins s Y H R I ?_;obtain⟨c,Z,B,θ,o,O,ek,b,em,q⟩:=h;refine aZ ek b em (λx v U H1 hv b1 em1=>?_) (dh q);cases e1:res U x with
 |none=>rw[e1] at em1;cases em1
 |some a=>
  have r1:=Bd.rd b1 hv e1;rw[e1] at em1;cases a<;>first|exact cu em1|skip
  rename_i j;simp only at em1;split at em1
  .rename_i hj;cases em1;cases r1;exact⟨j,rfl,by lia,by lia,q _ H1 [] [] rfl A7 b1.drop⟩
  .cases em1⟩
theorem zE{u:Option A}{F:Int->Option α}{r:α} (h:(match u with
   |some (.int k)=>F k
   | _=>none)=some r):∃k,u=some (.int k)/\F k=some r:=by
 split at h
 .rename_i k;exact⟨k,rfl,h⟩
 .cases h
theorem rL{u w:Option A}{F:Int->Int->Option α}{r:α} (h:(match u,w with
 |some (.int i),some (.int j)=>F i j
 | _,_=>none)=some r):∃i j,u=some (.int i)/\w=some (.int j)/\F i j=some r:=by
 split at h
 .rename_i i j;exact⟨i,j,rfl,rfl,h⟩
 .cases h
def qO(m n:Mi Rr):Mi (List A):=aO m λr=>aO n λt=>λZ=>match res Z r,res Z t with
 |some (.int i),some (.int j)=>if -(2^60)<=i/\i<2^60 /\ -(2^60)<=j/\j<2^60 then some (.ok (bp i (j-i).toNat),Z) else none
 |_,_=>none
theorem Dc{a b:Expr}{m n:Mi Rr}{p:Pos}(hg:Gl X "range")(hm:X.mg "range" = none)(ha:JE X E a m)(hb:JE X E b n)(hs:XU [a,b] X.env=[(false,eval a X.env),(false,eval b X.env)]:=by rfl)(hs2:XU [b] X.env=[(false,eval b X.env)]:=by rfl)
  (hs3:XU [a,b] X.env=(false,eval a X.env)::XU [b] X.env:=by rfl)(hs4:XU [b] X.env=(false,eval b X.env)::XU [] X.env:=by rfl):JI X E tg (.Call (.Name "range" p) [a,b] [] pos) (qO m n):=⟨λpins s Y H R I h=>by
 refine vL hg hm (aR ha.p (aR hb.p cc hs4) hs3) hs hs2 pins s Y H R I ?_;obtain⟨c,Z,B,θ,o,O,ek,b,em,q⟩:=h;refine aZ ek b em (λx v U H1 hv b1 em1=>?_) (dh q);refine aZ ek b1 em1 (λy w Z' H2 hw b2 em2=>?_) (dj (dh q));obtain⟨i,j,e1,e2,em2⟩:=rL em2;obtain⟨rfl,rfl⟩:v=.int i/\w=.int j:=by have r2:=Bd.rd b2 hw e2;have r1:=Bd.rd b2.drop hv e1;cases r1;cases r2;exact⟨rfl,rfl⟩
 split at em2
 .rename_i hj;cases em2;exact⟨i,j,rfl,⟨by lia,by lia,by lia,by lia⟩,q _ H2 [] [] rfl A7 b2.drop.drop⟩
 .cases em2⟩
noncomputable def forL(G:Mg)(b:Ms):List A->Ms
 |[],Z=>some (.nx,Z)
 |a::as,Z=>match G a Z with
  |none=>none
  |some U=>match b U with
   |some (.nx,Z')=>forL G b as Z'
   |some (.ct,Z')=>forL G b as Z'
   |some (.bk,Z')=>some (.nx,Z')
   |r=>r
def iA(m:Mi (List A))(G:Mg)(b:Ms):Ms:=cT m λas Z=>forL G b as Z
theorem HU{m:Mi (List A)}{G:Mg}{mb:Ms}(hp:YM (XZ X.prog X.w) X.A X.env X.xe)(hc:X.calm=true)(hi:JI X E tg iter m)(hg:JG X 0 tg G)(hb:pY X E body mb)
  (hs:∀x,Yg iter X.env x=pure x:=by intro _;rfl):JS X E (.For tg iter body [] pos) (iA m G mb):=⟨PS.weaken (Im hp hc hi.p hg.p hb.p hs) λD Y H h=>by
 obtain⟨c,Z,B,θ,f,O,ek,b,em,q⟩:=h;rcases cP em with ⟨as,U,e1,e2⟩|⟨e,e1,e2⟩
 .refine⟨c,Z,B,_,_,U,ek,b,e1,λJ H1 T P li it b1=>?_⟩;refine⟨λi m j H'=>m=as.length-i/\i<=as.length/\∃R,Bd c j H' R (T++B) (P.map Sl.fr++θ.map Sl.fr)/\forL G mb (as.drop i) R=some (f,O),⟨_,rfl,Sd _,U,b1,by simpa using e2⟩,?_⟩;rintro i m j H' ⟨rfl,hi,R,bi,ei⟩;obtain⟨i1,i2⟩:=it c j H' R [] [] B (θ.map Sl.fr) i ek rfl bi;by_cases hlt:i<as.length
  .have hd:as.drop i=as[i]::as.drop (i+1):=S5 hlt;rw[hd] at ei;obtain⟨go,yl⟩:=i2 as[i] Z3;refine .inr ⟨go,λL H2=>∃Z',Bd c L H2 Z' (T++B) (P.map Sl.fr++θ.map Sl.fr)/\forL G mb (as.drop (i+1)) Z'=some (f,O),λL H2 ⟨Z',q1,q2⟩=>⟨as.length-(i+1),by lia,rfl,hlt,Z',q1,q2⟩,λx H2 y=>?_⟩;have b2:=yl x H2 y;unfold forL at ei;cases eg:G as[i] R with
   |none=>rw[eg] at ei;cases ei
   |some Z'=>
    rw[eg] at ei;refine⟨c,R,_,_,as[i],Z',ek,b2,eg,λV H3 _ _ b3=>?_⟩;cases eb:mb Z' with
    |none=>simp only[eb] at ei;cases ei
    |some p=>
     obtain⟨f1,F⟩:=p;simp only[eb] at ei;refine⟨c,Z',T++B,P++θ,f1,F,ek,by simp only[RP];exact b3,eb,?_⟩;cases f1 with
     |nx=>intro S H4 b4;rw[RP] at b4;exact⟨F,b4,ei⟩
     |ct=>intro S H4 b4;rw[RP] at b4;exact⟨F,b4,ei⟩
     |bk=>cases ei;intro S H4 b4;simp only[RP] at b4;exact q S H4 (Bd.CA (by simp[li]) b4)
     |rt s=>cases ei;intro v S H4 hs b4;rw[RP] at b4;exact q v S H4 hs (Bd.tw (by simp[li]) b4)
     |ex x=>cases ei;intro C S H4 hm b4;rw[RP] at b4;exact q C S H4 hm (Bd.CA (by simp[li]) b4)
  .have e:i=as.length:=by lia
   subst e;rw[TB] at ei;cases ei;exact .inl ⟨i1 (Q9 _),q j H' (Bd.CA (by simp[li]) bi)⟩
 .subst e2;exact⟨c,Z,B,_,_,O,ek,b,e1,λC H1 hm b1=>q C Y H1 hm b1⟩⟩
noncomputable def dC(t:Mi Bool)(b:Ms):Nat->Ms
 |0,_=>none
 |n+1,Z=>match t Z with
  |some (.ok true,U)=>match b U with
   |some (.nx,Z')=>dC t b n Z'
   |some (.ct,Z')=>dC t b n Z'
   |some (.bk,Z')=>some (.nx,Z')
   |r=>r
  |some (.ok false,U)=>some (.nx,U)
  |some (.error e,U)=>some (.ex e,U)
  |none=>none
def mj(n:Nat)(t:Mi Bool)(b:Ms):Ms:=dC t b n
theorem z9{n:Nat}{t:Expr}{mb:Ms}(hp:YM (XZ X.prog X.w) X.A X.env X.xe)(T:JT X E t mt)(d:pY X E body mb):JS X E (.While t body [] pos) (mj n mt mb):=⟨PS.weaken (Ah hp T.p d.p) λD Y H h=>by
 obtain⟨c,Z,B,θ,f,O,G,b,em,q⟩:=h;refine⟨λm j H'=>∃R,Bd c j H' R B (θ.map Sl.fr)/\dC mt mb m R=some (f,O),⟨n,Z,b,em⟩,?_⟩;rintro m j H' ⟨R,l,z⟩;cases m with
 |zero=>cases z
 |succ m=>
  unfold dC at z;cases N:mt R with
  |none=>simp only[N] at z;cases z
  |some p=>
   obtain⟨o,U⟩:=p;refine⟨c,R,B,_,o,U,G,l,N,?_⟩;cases o with
   |error e=>simp only[N] at z;cases z;exact λC Q hm K=>q C j Q hm K
   |ok k=>
    intro Q K;cases k with
    |false=>simp only[N] at z;cases z;rw[Zw Z1];exact q j Q K
    |true=>
     rw[N] at z;rw[Zv rfl];refine⟨λL P=>∃Z',Bd c L P Z' B (θ.map Sl.fr)/\dC mt mb m Z'=some (f,O),λL P w=>⟨m,RM _,w⟩,?_⟩;cases J:mb U with
     |none=>simp only[J] at z;cases z
     |some p=>
      obtain⟨y,F⟩:=p;simp only[J] at z;refine⟨c,U,B,θ,y,F,G,K,J,?_⟩;cases y with
      |nx=>exact λS g a=>⟨F,a,z⟩
      |ct=>exact λS g a=>⟨F,a,z⟩
      |bk=>cases z;exact λS g a=>q S g a
      |rt s=>cases z;exact λv S g hs a=>q v S g hs a
      | ex x=>cases z;exact λC S g hm a=>q C S g hm a⟩
end
theorem nF(r:Rr)(v:V)(t:St)(u:List Sl):cq r v t=cq r v []++t/\cp r u=cp r []++u/\(cq r v []).length=(cp r []).length:=by cases r<;>exact⟨rfl,rfl,rfl⟩
def dw(G:Mg)(t:Mi Bool)(e:Mi Rr):List A->List A->List Sl->Option (List A×List Sl)
 |[],acc,Z=>some (acc,Z)
 |a::as,acc,Z=>match G a Z with
  |none=>none
  |some U=>match t U with
   |some (.ok true,Z')=>match e Z' with
    |some (.ok r,F)=>match bE r F with
     |some (d,S)=>dw G t e as (acc++[d]) S
     |none=>none
    |_=>none
   |some (.ok false,Z')=>dw G t e as acc Z'
   |_=>none
inductive LH(G:Mg)(t:Mi Bool)(e:Mi Rr)(a:A)(as acc:List A)(Z:List Sl)(r:List A×List Sl):Prop
 |skip{U Z':List Sl}(g:G a Z=some U)(k:t U=some (.ok false,Z'))(q:dw G t e as acc Z'=some r)
 |take{d:A}{u:Rr}{U Z' F S:List Sl}(g:G a Z=some U)(k:t U=some (.ok true,Z'))(m:e Z'=some (.ok u,F))(f:bE u F=some (d,S))(q:dw G t e as (acc++[d]) S=some r)
theorem wx{G:Mg}{t:Mi Bool}{e:Mi Rr}{a:A}{as acc:List A}{r:List A×List Sl}(h:dw G t e (a::as) acc Z=some r):LH G t e a as acc Z r:=by
 unfold dw at h;split at h
 .cases h
 .rename_i U H;split at h
  .rename_i Z' N;split at h
   .rename_i u F b;split at h
    .rename_i d S p;exact .take H N b p h
    .cases h
   .cases h
  .rename_i Z' N;exact .skip H N h
  .cases h
def aG:Mi Bool:=lG true
def aI(n:Nat)(mi:Mi (List A))(G:Mg)(t:Mi Bool)(e:Mi Rr):Mi Rr:=aO mi λas Z=>if as.length<=100000 then match dw G t e as [] (Z++Q3 n .un) with
 |some (ys,O)=>some (.ok (.nw (.lst ys)),O.take Z.length)
 |none=>none else none
structure JF(X:Cx)(E:XK)(ifs:List Expr)(m:Mi Bool):Prop where
 p:PF X ifs (CP (kx X) E m)
variable{me:Mi Rr}{lo:Nat}{elt:Expr}{ifs:List Expr}{px cpos:Pos}
section
variable{X:Cx}{E:XK}
theorem F5:JF X E [] aG:=⟨λpins s Y H Q I h=>by refine Hg pins s Y H Q I ?_;obtain⟨c,Z,B,θ,o,O,e,b,em,q⟩:=h;cases em;exact q H b⟩
theorem GB{t:Expr}{m:Mi Bool}(h:JT X E t m):JF X E [t] m:=⟨IQ h.p⟩
noncomputable abbrev lK:XK:=λ_ _ _=>False
theorem wR{n:Nat}{G:Mg}{T:St}{t:Hp}{U Z':List Sl}{P as ys:List A}{J:It}(I:Y.length=lo)(O:c.toKx=kx X)(li:T.length=P.length)
  (it:∀Y H Z N D i,N.length=D.length->Bd c Y H Z (N++(T++B)) (D++(P.map Sl.fr++θ))->(as.length<=i->J.stop i H)/\∀a,as[i]?=some a->J.go i H/\∀x H',J.yld i H x H'->Bd c Y H' Z (some x::(N++(T++B))) (.fr a::(D++(P.map Sl.fr++θ))))
  (d:Bd c Y t U (T++B) (P.map Sl.fr++θ))(h100:as.length<=100000)(ec:dw G mt me as [] (U++Q3 n .un)=some (ys,Z'))(q:OH (kx X) E c Y (Z'.take U.length) B θ Q (.ok (.nw (.lst ys)))):
  yR J (NV (kx X) lo G) (CP (kx X) lK mt) (kF (kx X) lK me) Q (Y++Q3 n none) t:=by
 have h:=d.qy;refine⟨λi m j vs H'=>m=as.length-i/\i<=as.length/\j.take lo=Y/\∃R acc,vs.length=acc.length/\acc.length<=i/\Bd c j H' R (vs.reverse.map some++(T++B)) (acc.reverse.map Sl.fr++(P.map Sl.fr++θ))/\dw G mt me (as.drop i) acc R=some (ys,Z'),
  ⟨_,rfl,Sd _,by simp only[<-I,List.take_left],_,[],rfl,Sd _,d.Of,by simpa using ec⟩,?_⟩
 rintro i m j vs H' ⟨rfl,hi,htk,R,acc,lv,la,bi,z⟩;refine⟨by have:=kl;lia,?_⟩;obtain⟨i1,i2⟩:=it j H' R (vs.reverse.map some) (acc.reverse.map Sl.fr) i (by simp[lv]) bi;by_cases C:i<as.length
 .have hd:=S5 C;rw[hd] at z;obtain⟨go,yl⟩:=i2 as[i] Z3;refine .inr ⟨go,λL o K=>L.take lo=Y/\∃F b,o.length=b.length/\b.length<=i+1/\Bd c L K F (o.reverse.map some++(T++B)) (b.reverse.map Sl.fr++(P.map Sl.fr++θ))/\dw G mt me (as.drop (i+1)) b F=some (ys,Z'),
   λL o K ⟨q0,F,b,q1,q2,q3,q4⟩=>⟨as.length-(i+1),by lia,rfl,C,q0,F,b,q1,q2,q3,q4⟩,λx K y=>?_⟩
  have b2:=yl x K y;have fin:∀{F S:List Sl}{k:Bool},G as[i] R=some F->mt F=some (.ok k,S)->(∀V g,V.take lo=Y->Bd c V g S (vs.reverse.map some++(T++B)) (acc.reverse.map Sl.fr++(P.map Sl.fr++θ))->if k=true then kF (kx X) lK me V g λv r=>V.take lo=Y/\∃F b,(vs++[v]).length=b.length/\b.length<=i+1/\Bd c V r F ((vs++[v]).reverse.map some++(T++B)) (b.reverse.map Sl.fr++(P.map Sl.fr++θ))/\dw G mt me (as.drop (i+1)) b F=some (ys,Z') else V.take lo=Y/\∃F b,vs.length=b.length/\b.length<=i+1/\Bd c V g F (vs.reverse.map some++(T++B)) (b.reverse.map Sl.fr++(P.map Sl.fr++θ))/\dw G mt me (as.drop (i+1)) b F=some (ys,Z'))->NV (kx X) lo G x j K λV H3=>CP (kx X) lK mt V H3 λk g=>if k=true then kF (kx X) lK me V g λv r=>V.take lo=Y/\∃F b,(vs++[v]).length=b.length/\b.length<=i+1/\Bd c V r F ((vs++[v]).reverse.map some++(T++B)) (b.reverse.map Sl.fr++(P.map Sl.fr++θ))/\dw G mt me (as.drop (i+1)) b F=some (ys,Z') else V.take lo=Y/\∃F b,vs.length=b.length/\b.length<=i+1/\Bd c V g F (vs.reverse.map some++(T++B)) (b.reverse.map Sl.fr++(P.map Sl.fr++θ))/\dw G mt me (as.drop (i+1)) b F=some (ys,Z'):=
   λl s f=>⟨c,R,_,_,as[i],_,O,b2,l,λV H3 w l3 b3=>⟨c,_,_,_,.ok _,_,O,b3,s,λg u=>f V g (w.trans htk) u⟩⟩
  cases wx z with
  |skip l s z=>exact fin l s λV g w u=>⟨w,_,acc,lv,by exact Wu ‹_›,u,z⟩
  |take l s ee ef z=>exact fin l s λV g w u=>⟨c,_,_,_,_,_,O,u,ee,λv r hv b5=>⟨w,_,_,by simp[lv],by simp;exact id ‹_›,by simpa using Bd.bE (xs:=[]) (ss:=[]) rfl b5 hv ef,z⟩⟩
 .have e:i=as.length:=by lia
  subst e;rw[TB] at z;cases z;refine .inl ⟨i1 (Q9 _),λp hp=>?_⟩;have b7:=Bd.Bk bi (by simp[lv]) hp vs ys tM;have b8:=Bd.tw (by simp[li]) b7;have es:j=Y++j.drop lo:=by rw[<-htk];exact(Tz _ _).symm
  rw[es] at b8;have b9:=b8.Ot;rw[h] at b9;exact q _ _ trivial b9
theorem oC{n:Nat}{mi:Mi (List A)}{G:Mg}(Y:St)(H:Hp)(Q:VK)(I:Y.length=lo)(h:kF (kx X) E (aI n mi G mt me) Y H Q):
  zm n (P1 (kx X) E mi) (NV (kx X) lo G) (CP (kx X) lK mt) (kF (kx X) lK me) Y H Q:=by
 obtain⟨c,Z,B,θ,o,O,s,b,em,q⟩:=h;rcases bind_some em with ⟨as,U,e1,e2⟩|⟨e,e1,e2⟩
 .refine⟨c,Z,B,θ,_,U,s,b,e1,λJ S T P m it x=>?_⟩;split at e2
  .rename_i v;cases a:dw G mt me as [] (U++Q3 n .un) with
   |none=>rw[a] at e2;cases e2
   |some p=>simp only[a] at e2;cases e2;exact wR I s m (λY H Z N D i l b=>it c Y H Z N D B θ i s l b) x v a q
  .cases e2
 .subst e2;exact⟨c,Z,B,θ,_,O,s,b,e1,λC S hm x=>q C S hm x⟩
theorem Cc{k:Nat}{sc:Scope}{mi:Mi (List A)}{G:Mg}(hc:X.calm=true)(S:fN X.N N k sc X.env.scope)(hlo:X.N.length=lo)(hi:JI X E tg iter mi)
  (hg:∀cl C s H fp,JG (iV X N sc cl C s H fp) lo tg G)(ht:∀cl C s H fp,JF (iV X N sc cl C s H fp) lK ifs mt)(he:∀cl C s H fp,JE (iV X N sc cl C s H fp) lK elt me)(hs:∀x,Yg iter X.env x=pure x:=by intro _;rfl):
  JE X E (.ListComp elt [⟨tg,iter,ifs,0⟩] sc pos) (aI k mi G mt me):=
 ⟨λpins s Y H Q I h=>BP hc S hi.p (λcl C s H fp=>(hg cl C s H fp).p) (λcl C s H fp=>(ht cl C s H fp).p) (λcl C s H fp=>(he cl C s H fp).p) hs pins s Y H Q I (oC Y H Q (I.len.trans hlo) h)⟩
theorem D9{x:Str}{spos:Pos}{k:Nat}{sc:Scope}{mi:Mi (List A)}{G:Mg}(hc:X.calm=true)(S:fN X.N N k sc X.env.scope)(hlo:X.N.length=lo)(hN:X.N.Nodup)(hx:X.N[i]?=some x)
  (hl:X.env.scope.names.lookup x=some .local)(hsw:Yc (.ListComp elt [⟨tg,iter,ifs,0⟩] sc pos) (some (.Name x px)) spos.line X.env=pure true)(hi:JI X E tg iter mi)
  (hg:∀cl C s H fp,JG (iV X N sc cl C s H fp) lo tg G)(ht:∀cl C s H fp,JF (iV X N sc cl C s H fp) lK ifs mt)(he:∀cl C s H fp,JE (iV X N sc cl C s H fp) lK elt me)(hs:∀x,Yg iter X.env x=pure x:=by intro _;rfl):
  JS X E (.Assign [.Name x px] (.ListComp elt [⟨tg,iter,ifs,0⟩] sc pos) spos) (aM i (aI k mi G mt me)):=
 ⟨λpins s Y H D I h=>B4 hc S hN hx hl hsw hi.p (λcl C s H fp=>(hg cl C s H fp).p) (λcl C s H fp=>(ht cl C s H fp).p) (λcl C s H fp=>(he cl C s H fp).p) hs pins s Y H D I (by
  obtain⟨c,Z,B,θ,f,O,ek,b,em,q⟩:=h;refine oC Y H _ (I.len.trans hlo) (dN ek b em q λr v U H1 hv b1 em1=>?_);cases e1:xj r U with
  |none=>rw[e1] at em1;cases em1
  |some p=>
   obtain⟨t,Z'⟩:=p;rw[e1] at em1;obtain⟨b2,ht⟩:=Bd.xj hv b1 e1;cases e2:put i t Z' with
   |none=>simp only[e2] at em1;cases em1
   | some F=>simp only[e2] at em1;cases em1;exact q _ H1 (Bd.put b2 ht e2))⟩
noncomputable def aD(Z:List Sl)(i:Nat):Option LO:=match Z[i]? with
 |some (.lv o)=>some o
 |some (.pv o)=>some o
 |_=>none
noncomputable def setAt(Z:List Sl)(i:Nat)(o:LO):List Sl:=match Z[i]? with
 |some (.pv _)=>Z.set i (.pv o)
 |_=>Z.set i (.lv o)
theorem dQ.live(b:dQ c Y H Z B θ L)(h:aD Z i=some o)(o':LO)(u:HO):
  ∃p q,Y[i]?=some (some (.ref p))/\LR c.toKx (c.g H L) H p o q/\((∀H',H' p=some u->LR c.toKx (c.g H L) H' p o' q)->Bd c Y (upd H p u) (setAt Z i o') B θ):=by
 delta aD at h
 delta setAt
 cases es:Z[i]? with
 |none=>rw[es] at h;cases h
 |some s=>
  cases s with
  |un=>rw[es] at h;cases h
  |cf _=>rw[es] at h;cases h
  |fr a=>rw[es] at h;cases h
  |lv R=>rw[es] at h;cases h;obtain⟨p,q,h1,h2,h3⟩:=b.change es (.inl ⟨rfl,rfl⟩);exact⟨p,q,h1,h2,λk=>h3 λH' e _=>k H' e⟩
  |pv R=>rw[es] at h;cases h;obtain⟨p,q,h1,h2,h3⟩:=b.change es (.inr ⟨rfl,rfl⟩);exact⟨p,q,h1,h2,λk=>h3 λH' e _=>k H' e⟩
theorem Bd.tS{v:V}{a:A}(b:Bd c Y H Z (some v::B) (.fr a::θ)):∃L,dQ c Y H Z B θ L/\RA c.toKx (c.g H L) v a:=by obtain⟨L,bl,r⟩:=Bd.dG (vs:=[v]) (as:=[a]) b rfl;cases r with|cons h _=>exact⟨L,bl,h⟩
def iu(i:Nat)(m:Mi Rr):Mi Rr:=aO m λr Z=>match bE r Z with
 |some (a,U)=>match aD U i with
  |some (.lst xs)=>if xs.length<=16000000 then some (.ok (.fr .non),setAt U i (.lst (xs++[a]))) else none
  |_=>none
 |none=>none
theorem mw{xs:List A}(b:Bd c Y H Z B θ)(h:aD Z i=some (.lst xs)):∃p vs,Y[i]?=some (some (.ref p))/\H p=some (.lst vs):=by obtain⟨L,b⟩:=b;obtain⟨p,_,h1,h2,v⟩:=b.live h (.lst xs) (.lst []);cases h2 with|lst e r=>exact⟨p,_,h1,e⟩
def Mf(Z:List Sl)(i:Nat):Bool:=match aD Z i with
 |some (.lst _)=>true
 |_=>false
def tH(i:Nat)(m:Mi Rr):Mi Rr:=λZ=>if Mf Z i then m Z else none
theorem qA(h:Mf Z i=true):∃xs,aD Z i=some (.lst xs):=by
 delta Mf at h
 cases e:aD Z i with
 |none=>rw[e] at h;cases h
 |some o=>cases o with
  |lst xs=>exact⟨xs,rfl⟩
  |dic _=>rw[e] at h;cases h
  |dit _=>rw[e] at h;cases h
  |obj _ _=>rw[e] at h;cases h
  |nob _ _ _=>rw[e] at h;cases h
theorem wk{x:Str}{apos:Pos}{m:Mi Rr}(hN:X.N[i]?=some x)(hv:mL X.env.scope x)(hd:eV x)(hcd:pE x)(he:JE X E e m)
  (hbase:X7 (.Name x px) "append" X.env (eval (.Name x px) X.env)=eval (.Name x px) X.env:=by rfl)
  (hfew:((X4 cpos (XU [e] X.env)).all (λx=>!x.1)&&(Yl cpos (Yb [] X.env)).all (λx=>x.1.isSome)&&decide (([e]:List Expr).length+([]:List Ym).length+(if ([]:List Ym).isEmpty then 0 else 1)<30))=true:=by rfl)
  (hline:(apos.endLine==cpos.line)=true:=by rfl)(hs:XU [e] X.env=(false,eval e X.env)::XU [] X.env:=by rfl)(hplain:(X4 cpos (XU [] X.env)).any (·.1)=false:=by rfl):
  JE X E (.Call (.Attribute (.Name x px) "append" apos) [e] [] cpos) (tH i (iu i m)):=
 ⟨PE.weaken (xG T8 Vj Vk oz (bW hN hv hd hcd) (aR he.p cc hs) hbase hfew hline hs hplain) λY H Q h=>by
  obtain⟨c,Z,B,θ,o,O,ek,b,em,q⟩:=h
  delta tH at em
  split at em
  .rename_i hl;obtain⟨xs0,hl⟩:=qA hl;obtain⟨p,vs,hp,hH⟩:=mw b hl;refine⟨_,hp,.inl ⟨rfl,vs,.inl (.inl hH)⟩,?_⟩;refine aZ ek b em (λr v U H1 hv b1 em1=>?_) (bB q);cases e1:bE r U with
   |none=>rw[e1] at em1;cases em1
   |some pr=>
    obtain⟨a,Z'⟩:=pr;rw[e1] at em1;have b2:=Bd.bE (xs:=[]) (ss:=[]) rfl b1 hv e1;cases e2:aD Z' i with
    |none=>simp only[e2] at em1;cases em1
    |some lo=>
     cases lo with
     |dic _=>simp only[e2] at em1;cases em1
     |dit _=>simp only[e2] at em1;cases em1
     |obj _ _=>simp only[e2] at em1;cases em1
     |nob _ _ _=>simp only[e2] at em1;cases em1
     |lst xs=>
      simp only[e2] at em1;split at em1
      .rename_i hx;cases em1;obtain⟨L,bl,ra⟩:=Bd.tS b2;obtain⟨p',_,h1,h2,h3⟩:=bl.live e2 (.lst (xs++[a])) (.lst ((match H1 p with|some (.lst ws)=>ws|_=>[])++[v]));rw[hp] at h1;cases h1;cases h2 with
       |lst e rr=>rename_i ws;rw[e] at h3;refine⟨p,ws,v,rfl,rfl,e,by have:=rr.len;have:=Yo;lia,q _ _ trivial (Bd.push (h3 λH' hh=>.lst hh (rr.snoc ra)) λ_=>.non)⟩
      .cases em1
  .cases em⟩
def fI(i:Nat)(mk m:Mi Rr):Ms:=cT m λr S=>if Mf S i then cT mk (λH=>λZ=>match bE r Z with
 |some (a,U)=>match res U H,aD U i with
  |some (.int k),some (.lst xs)=>match fV xs.length k with
   |some j=>some (.nx,setAt U i (.lst (xs.set j a)))
   |none=>none
  |_,_=>none
 | none=>none) S else none
theorem yu{x:Str}{y:Pos}{s:Expr}{mk m:Mi Rr}(hN:X.N[i]?=some x)(t:mL X.env.scope x)(hd:eV x)(g:pE x)(hk:JE X E s mk)(he:JE X E e m)
  (hp:∀{G J l:TE},PE X (.Name x px) G->PE X s J->PE X e l->PS X (.Assign [.Subscript (.Name x px) s y] e pos) (qx l (yM G J qH))):JS X E (.Assign [.Subscript (.Name x px) s y] e pos) (fI i mk m):=
 ⟨PS.weaken (hp (bW hN t hd g) hk.p he.p) λD Y H h=>by
  obtain⟨c,Z,B,θ,f,O,s,b,em,q⟩:=h;refine dN s b em q λr v U H1 t n u=>?_;split at u
  .rename_i hl;obtain⟨d,hl⟩:=qA hl;obtain⟨p,vs,hp,hH⟩:=mw n hl;refine⟨_,hp,?_⟩;rcases cP u with ⟨z,Z',e1,e2⟩|⟨ee,e1,e2⟩
   .refine⟨c,U,_,_,_,Z',s,n,e1,λw P S R=>?_⟩;cases Q:bE r Z' with
    |none=>rw[Q] at e2;cases e2
    |some pr=>
     obtain⟨a,F⟩:=pr;rw[Q] at e2;have I:Bd c Y P F (cq z w (some v::B)) (cp z (.fr a::θ.map Sl.fr)):=by obtain⟨g1,g2,g3⟩:=nF z w (cq r v B) (cp r (θ.map Sl.fr));obtain⟨g4,g5,_⟩:=nF z w (some v::B) (.fr a::θ.map Sl.fr);simp only[g4,g5];simp only[g1,g2] at R;exact Bd.bE g3 R t Q
     cases o:res F z with
     |none=>simp only[o] at e2;cases e2
     |some ak=>
      cases ak<;>first|(simp only[o] at e2;cases e2;done)|skip
      rename_i k;have T:=Bd.rd I S o;cases T;cases A:aD F i with
      |none=>simp only[o,A] at e2;cases e2
      |some lo=>
       cases lo with
       |dic _=>simp only[o,A] at e2;cases e2
       |dit _=>simp only[o,A] at e2;cases e2
       |obj _ _=>simp only[o,A] at e2;cases e2
       |nob _ _ _=>simp only[o,A] at e2;cases e2
       |lst xs=>
        simp only[o,A] at e2;cases K:fV xs.length k with
        |none=>rw[K] at e2;cases e2
        |some j=>
         simp only[K] at e2;cases e2;obtain⟨L,bl,ra⟩:=Bd.tS I.drop;obtain⟨p',_,h1,h2,h3⟩:=bl.live A (.lst (xs.set j a)) (.lst ((match P p with|some (.lst ws)=>ws|_=>[]).set j v));rw[hp] at h1;cases h1;cases h2 with
         |lst e V=>rename_i ws;rw[e] at h3;exact⟨p,ws,k,j,rfl,rfl,e,by rw[V.len];exact K,q Y _ (h3 λH' hh=>.lst hh (V.set ra j))⟩
   .subst e2;exact⟨c,U,_,_,_,O,s,n,e1,λC P hm R=>q C Y P hm R.drop⟩
  .cases u⟩
def jR(x:Str)(m:Mi (List Rr)):Ms:=cT m λrs Z=>if rs.length<=10 then some (.ex x,Z) else none
theorem xN{x:Str}{C:Addr}{m:Mi (List Rr)}{np:Pos}(xc:Xc X E)(hc:X.calm=true)(hg:Gl X x)(hm:X.mg x=some (.ref C))(hex:Tu X.K C vC "ValueError.__new__" = true)(ha:JA X E (e::es) m)(hd:eV x)
  (he:XU (e::es) X.env=(false,eval e X.env)::XU es X.env:=by rfl)(hpl:(X4 cpos (XU es X.env)).any (·.1)=false:=by rfl):JS X E (.Raise (some (.Call (.Name x np) (e::es) [] cpos)) none pos) (jR x m):=
 ⟨PS.weaken (As xc hc hg hm hex ha.p hd he hpl) λD Y H h=>by
  obtain⟨c,Z,B,θ,f,O,ek,b,em,q⟩:=h;rcases cP em with ⟨rs,U,e1,e2⟩|⟨ee,e1,e2⟩
  .split at e2
   .rename_i hl;cases e2;exact⟨c,Z,B,_,_,_,ek,b,e1,λvs H1 hv b1=>⟨by have:=hv.len;have:=kl;lia,q C Y H1 hm (Bd.drops hv.len b1)⟩⟩
   .cases e2
  .subst e2;exact⟨c,Z,B,_,_,O,ek,b,e1,λC' H1 hm' b1=>q C' Y H1 hm' b1⟩⟩
end
section
variable{X:Cx}{E:XK}
open PySem.Spec PyProof.Rows PySem.W in
open PySem.Spec PyProof.Rows PySem.W in
end
theorem dQ.M4{v:V}{a b:A}(bl:dQ c Y H Z B θ L)(h1:RA c.toKx (c.g H L) v a)(h2:RA c.toKx (c.g H L) w b):Bd c Y H Z (some v::some w::B) (.fr a::.fr b::θ):=
 ⟨L,bl.nd,av.cons (.fr h1) (av.cons (.fr h2) bl.rel),bl.own,bl.fr,bl.kp,by simp[bl.lt],bl.hd⟩
variable{j:Nat}
section
variable{X:Cx}{E:XK}
open PySem.Spec PyProof.Rows PySem.W in
def aK:Mi (Option Int):=lG none
def bx(m:Mi Rr):Mi (Option Int):=aO m λr Z=>match res Z r with
 |some (.int i)=>some (.ok (some i),Z)
 |_=>none
def KC(K:Kx)(E:XK)(c:Cn)(Y:St)(Z:List Sl)(B:St)(θ:List Sl)(Q:Option Int->Hp->Prop):Except Str (Option Int)->Prop
 | .ok i=>∀H,Bd c Y H Z B θ->Q i H
 | .error x=>∀C H,K.mg x=some (.ref C)->Bd c Y H Z B θ->E (.ref C) none H
inductive Pu(K:Kx)(E:XK)(m:Mi (Option Int))(Y:St)(H:Hp)(Q:Option Int->Hp->Prop):Prop
 |mk(c:Cn)(Z:List Sl)(B:St)(θ:List Sl)(o:Except Str (Option Int))(O:List Sl)(h1:c.toKx=K)(h2:Bd c Y H Z B θ)(h3:m Z=some (o,O))(h4:KC K E c Y O B θ Q o)
structure JP(X:Cx)(E:XK)(e:Option Expr)(m:Mi (Option Int)):Prop where
 p:PO X e (Pu (kx X) E m)
theorem PO.weaken{e:Option Expr}{t t':TO}(h:PO X e t)(f:∀Y H Q,t' Y H Q->t Y H Q):PO X e t':=λpins s Y H Q I q=>h pins s Y H Q I (f Y H Q q)
theorem yV{o:Except Str (Option Int)}{Q:Option Int->Hp->Prop}(q:KC (kx X) E c Y O B θ Q o):∀e,o=.error e->∀C H,X.mg e=some (.ref C)->Bd c Y H O B θ->E (.ref C) none H:=λe a=>by subst a;exact q
theorem DN:JP X E none aK:=⟨PO.weaken Ds λY H Q h=>by obtain⟨c,Z,B,θ,o,O,e,b,em,q⟩:=h;cases em;exact q H b⟩
theorem Di{m:Mi Rr}(h:JE X E e m):JP X E (some e) (bx m):=⟨PO.weaken (BM h.p) λY H Q h=>by
 obtain⟨c,Z,B,θ,o,O,s,b,em,q⟩:=h;refine aZ s b em (λx v U S t n u=>?_) (yV q);cases e1:res U x with
 |none=>rw[e1] at u;cases u
 |some a=>
  have V:=Bd.rd n t e1;cases a<;>first|(simp only[e1] at u;cases u;done)|skip
  simp only[e1] at u;cases u;cases V;exact⟨_,rfl,q S n.drop⟩⟩
def gP(xs:List A)(lo hi:Option Int):List A:=(xs.drop (HT.dk xs.length 0 lo)).take (HT.dk xs.length xs.length hi-HT.dk xs.length 0 lo)
theorem AJ{k:Kx}{as:List A}(r:bF k G vs as)(lo hi:Option Int):bF k G (pC vs lo hi) (gP as lo hi):=by
 delta pC gP
 rw[r.len]
 exact(r.drop _).take _
theorem u3{D:Type}{m:Mi (Option Int)}{f:Option Int->Mi D}{o:Except Str D}{Q:Option Int->Hp->Prop}(s:c.toKx=kx X)(b:Bd c Y H Z B θ)(em:aO m f Z=some (o,O))
  (h1:∀k U S,Bd c Y S U B θ->f k U=some (o,O)->Q k S)
  (h2:∀e,o=.error e->∀C H,X.mg e=some (.ref C)->Bd c Y H O B θ->E (.ref C) none H):Pu (kx X) E m Y H Q:=by
 rcases bind_some em with ⟨x,U,e1,e2⟩|⟨e,e1,e2⟩
 .exact⟨c,Z,B,θ,_,U,s,b,e1,λS n=>h1 x U S n e2⟩
 .exact⟨c,Z,B,θ,_,O,s,b,e1,λC S hm n=>h2 e e2 C S hm n⟩
noncomputable def Qr(f g:Mg):Mg:=λa Z=>match f a Z with
 |some r=>some r
 |none=>g a Z
def Md(m:Mi Rr)(G:Mg):Ms:=cT m λr Z=>match bE r Z with
 |some (a,U)=>match G a U with
  |some Z'=>some (.nx,Z')
  |none=>none
 |none=>none
theorem HK{m:Mi Rr}{G:Mg}(he:JE X E e m)(hg:JG X 0 tg G)(hs:Yy [tg] e pos.line X.env=pure false:=by rfl)(hw:Ys [tg] e X.env=pure none:=by rfl)
  (hp:∀{te:TE}{g:TG},PE X e te->PG X tg g->PS X (.Assign [tg] e pos) (qx te g)):JS X E (.Assign [tg] e pos) (Md m G):=⟨PS.weaken (hp he.p hg.p) λD Y H h=>by
 obtain⟨c,Z,B,θ,f,O,ek,b,em,q⟩:=h;refine dN ek b em q λr v U H1 hv b1 em1=>?_;cases e1:bE r U with
 |none=>rw[e1] at em1;cases em1
 |some p=>
  obtain⟨a,Z'⟩:=p;rw[e1] at em1;have b2:=Bd.bE (xs:=[]) (ss:=[]) rfl b1 hv e1;cases e2:G a Z' with
  |none=>simp only[e2] at em1;cases em1
  | some F=>simp only[e2] at em1;cases em1;exact⟨c,Z',B,_,a,O,ek,b2,e2,λj H' _ _ b3=>q j H' b3⟩⟩
def Iz(i j:Nat)(rs:List Rr)(Z:List Sl):Option (Fl×List Sl):=match dH rs Z with
 |some ([a,b],U)=>match put i (.fr a) U with
  |some Z'=>match put j (.fr b) Z' with
   |some F=>some (.nx,F)
   |none=>none
  |none=>none
 |_=>none
theorem wj{f:Fl}(h:Iz i j rs Z=some (f,O)):∃a d Z' F,dH rs Z=some ([a,d],Z')/\put i (.fr a) Z'=some F/\put j (.fr d) F=some O/\f=.nx:=by
 delta Iz at h
 cases Q:dH rs Z with
 |none=>rw[Q] at h;cases h
 |some p=>
  rw[Q] at h;obtain⟨as,Z'⟩:=p
  match as,h with
  |[a,d],h=>
   dsimp only at h;cases L:put i (.fr a) Z' with
   |none=>rw[L] at h;cases h
   |some F=>
    rw[L] at h;dsimp only at h;cases A:put j (.fr d) F with
    |none=>rw[A] at h;cases h
    |some S=>simp only[A] at h;cases h;exact⟨a,d,Z',F,rfl,L,A,rfl⟩
theorem CH{l:List α}(h:l.length=2):∃a b,l=[a,b]:=match l,h with
 |[a,b],_=>⟨a,b,rfl⟩
def Nj(i j:Nat)(m:Mi (List Rr)):Ms:=cT m (Iz i j)
theorem FP{s:Stmt}{m:Mi (List Rr)}(ha:JA X E es m)(x:i≠j)(hp:∀{ta:TA},PA X es ta->PS X s (NK i j ta)):JS X E s (Nj i j m):=⟨PS.weaken (hp ha.p) λD Y H h=>by
 obtain⟨c,Z,B,θ,f,O,G,b,em,q⟩:=h;rcases cP em with ⟨rs,U,e1,e2⟩|⟨e,e1,e2⟩
 .refine⟨c,Z,B,_,_,U,G,b,e1,λvs S t n=>?_⟩;obtain⟨a,d,Z',F,Q,T,A,rfl⟩:=wj e2;obtain⟨r,g⟩:=Bd.dH t n Q;obtain⟨v,w,rfl⟩:=CH g;refine⟨v,w,rfl,q _ S ?_⟩;have I:Bd c Y S Z' (some w::some v::B) (.fr d::.fr a::θ.map Sl.fr):=by simpa using r
  obtain⟨L,bl,o⟩:=Bd.dG (vs:=[w,v]) (as:=[d,a]) I rfl;cases o with|cons h1 o=>cases o with|cons h2 _=>
  exact Bd.put (Bd.put (dQ.M4 bl h2 h1) rfl T) rfl A
 .subst e2;exact⟨c,Z,B,_,_,O,G,b,e1,λC S hm n=>q C Y S hm n⟩⟩
end
section
variable{X:Cx}{E:XK}{a b:Expr}{ma mb:Mi Rr}{pos:Pos}
theorem GI(ha:JE X E a ma)(d:JE X E b mb):JE X E (.BinOp a .Sub b pos) (aA iR ma mb):=lM JJ Ha ha d
theorem Jr(ha:JE X E a ma)(d:JE X E b mb):JE X E (.BinOp a .FloorDiv b pos) (aA kB ma mb):=lM yr Jk ha d
theorem J2(ha:JE X E a ma)(d:JE X E b mb):JE X E (.BinOp a .Mod b pos) (aA mU ma mb):=lM D3 JB ha d
theorem FN(ha:JE X E a ma)(d:JE X E b mb):JE X E (.BinOp a .Pow b pos) (aA mS ma mb):=lM FR Hq ha d
theorem Mb(B:X.A.units+64<cLine)(ha:JE X E a ma)(d:JE X E b mb):JE X E (.Compare a [.Eq] [b] pos) (aA dR ma mb):=fM (zK B) os_eq ha d (dB _)
theorem MO(B:X.A.units+64<cLine)(ha:JE X E a ma)(d:JE X E b mb):JE X E (.Compare a [.NotEq] [b] pos) (aA fS ma mb):=fM (zk B) FD ha d (dB _)
theorem LZ(ha:JE X E a ma)(d:JE X E b mb):JE X E (.Compare a [.Lt] [b] pos) (aA pj ma mb):=fM jD Er ha d (dB _)
theorem Mp(ha:JE X E a ma)(d:JE X E b mb):JE X E (.Compare a [.Gt] [b] pos) (aA rQ ma mb):=fM iB E2 ha d (dB _)
theorem Nm(ha:JE X E a ma)(d:JE X E b mb):JE X E (.Compare a [.GtE] [b] pos) (aA Fv ma mb):=fM EG ET ha d (dB _)
theorem MM(ha:JE X E a ma)(d:JE X E b mb):JE X E (.Compare a [.Is] [b] pos) (aA (rZ false) ma mb):=fM yt EF ha d (dB _)
theorem Ct(ha:JE X E a ma)(d:JE X E b mb):JE X E (.Compare a [.IsNot] [b] pos) (aA (rZ true) ma mb):=fM uk u7 ha d (dB _)
theorem My(B:X.A.units+64<cLine)(ha:JE X E a ma)(d:JE X E b mb):JT X E (.Compare a [.Eq] [b] pos) (aq (aA dR ma mb)):=fP (zK B) os_eq ha d (dB _)
theorem Kh(B:X.A.units+64<cLine)(ha:JE X E a ma)(d:JE X E b mb):JT X E (.Compare a [.NotEq] [b] pos) (aq (aA fS ma mb)):=fP (zk B) FD ha d (dB _)
theorem K0(ha:JE X E a ma)(d:JE X E b mb):JT X E (.Compare a [.Lt] [b] pos) (aq (aA pj ma mb)):=fP jD Er ha d (dB _)
theorem Mc(ha:JE X E a ma)(d:JE X E b mb):JT X E (.Compare a [.Gt] [b] pos) (aq (aA rQ ma mb)):=fP iB E2 ha d (dB _)
theorem LC(ha:JE X E a ma)(d:JE X E b mb):JT X E (.Compare a [.GtE] [b] pos) (aq (aA Fv ma mb)):=fP EG ET ha d (dB _)
theorem K3(ha:JE X E a ma)(d:JE X E b mb):JT X E (.Compare a [.Is] [b] pos) (aq (aA (rZ false) ma mb)):=fP yt EF ha d (dB _)
theorem CO(ha:JE X E a ma)(d:JE X E b mb):JT X E (.Compare a [.IsNot] [b] pos) (aq (aA (rZ true) ma mb)):=fP uk u7 ha d (dB _)
end
noncomputable def GD:Nat:=2^10000
noncomputable def zQ(K:Q0):Sp:=λvs H Q _=>∃(p:Addr)(ns:List Int),vs=[.ref p]/\dI K H p (ns.map V.int)/\ns.length<=63/\∀H',Q (.bl true) H'
theorem uH{k:Kx}{G:Hp}:∀(ns:List Int),bF k G (ns.map V.int) (ns.map A.int)
 |[]=>.nil
 |n::ns=>.cons (.int n) (uH ns)
theorem JQ{P:Program}{w:X1}{K:Q0}{k:Nat}{m:Ms}(F:c9 P w K mg base CX k f fd ps (fY ⟨K,mg,P,w⟩ 1 m))
  (h:∀ns:List Int,ns.length<=63->∃Z,m [.fr (.lst (ns.map A.int))]=some (.rt (.fr (.bl true)),Z)):c9 P w K mg base CX k f fd ps (zQ K):=
 F.imp λvs H Q E q=>by
  obtain⟨p,ns,rfl,hs,hl,q⟩:=q;obtain⟨Z,e⟩:=h ns hl
  let c:Cn:={ K:=K,mg:=mg,P:=P,w:=w,σ0:=[some (.ref p)],H0:=H,Lp:=[],Hd:=[],Wk:=[] }
  refine⟨rfl,c,_,_,Z,rfl,rfl,rfl,⟨.nil,av.cons (.fr (.lst (eU (Sq.of λb o e=>?_) hs) (uH ns))) .nil,λp hp=>(by cases hp),⟨λb o e=>⟨o,e,λ_ _=>rfl⟩,λq O=>(by cases O)⟩,λi o _ _=>rfl,rfl,λq O=>(by cases O)⟩,e,λv H' _ b=>?_⟩
  .rw[bf (λz=>by cases z) (λz=>by cases z)];exact e
  .have r:=Bd.top b rfl;cases r;exact q H'
def fB(m:Mi Rr):Mi Rr:=aO m λr Z=>match bE r Z with
 |some (a,O)=>some (.ok (.fr a),O)
 |none=>none
theorem Ky{E:XK}{m:Mi Rr}(he:JE X E e m):JE X E e (fB m):=⟨PE.weaken he.p λY H Q h=>by
 obtain⟨c,Z,B,θ,o,O,s,b,em,q⟩:=h;refine aZ s b em (λx v U S t n u=>?_) (bB q);cases e1:bE x U with
 |none=>rw[e1] at u;cases u
 | some p=>rw[e1] at u;cases u;exact q v S trivial (Bd.bE (xs:=[]) (ss:=[]) rfl n t e1)⟩
section
variable{X:Cx}{E:XK}
inductive Ty where|bool|int|str|tuple|list|dict
 deriving DecidableEq
noncomputable def Ty.n:Ty->String
 | .bool=> "bool" | .int=> "int" | .str=> "str" | .tuple=> "tuple" | .list=> "list" | .dict=> "dict"
noncomputable def Pe(T:Ty):A->Option Bool
 | .non=>some false
 | .bl _=>some (T=.bool || T=.int)
 | .int _=>some (T=.int)
 | .str _=>some (T=.str)
 | .tup _=>some (T=.tuple)
 | .lst _=>some (T=.list)
 | .dic _=>some (T=.dict)
 |_=>none
def Iq(T:Ty)(a:A):Option Rr:=match Pe T a with
 |some k=>some (.fr (.bl k))
 |none=>none
theorem G3(K:Q0)(T:Ty):RW K (.type "NoneType") (.type T.n)=some false:=by cases T<;>kernel_rfl
theorem Dm(K:Q0)(T:Ty):RW K (.type "bool") (.type T.n)=some (T=.bool || T=.int:Bool):=by cases T<;>kernel_rfl
theorem IP(K:Q0)(T:Ty):RW K (.type "int") (.type T.n)=some (T=.int:Bool):=by cases T<;>kernel_rfl
theorem GV(K:Q0)(T:Ty):RW K (.type "str") (.type T.n)=some (T=.str:Bool):=by cases T<;>kernel_rfl
theorem Ip(K:Q0)(T:Ty):RW K (.type "tuple") (.type T.n)=some (T=.tuple:Bool):=by cases T<;>kernel_rfl
theorem Gk(K:Q0)(T:Ty):RW K (.type "list") (.type T.n)=some (T=.list:Bool):=by cases T<;>kernel_rfl
theorem GX(K:Q0)(T:Ty):RW K (.type "dict") (.type T.n)=some (T=.dict:Bool):=by cases T<;>kernel_rfl
theorem Hk(T:Ty):rP K (λv H Q=>∃x c t b,[v,V.ty T.n]=[x,c]/\vN K.K H x t/\eP c=true/\RW K.K t (gn c)=some b/\Q (.bl b) H) (Iq T):=.scalar λH v a q w h=>by
 cases a<;>first|exact cu h|skip
 .cases w;cases h;exact⟨_,_,rfl,λ_=>.bl _,λQ k=>⟨_,_,_,_,rfl,.of .non,rfl,G3 _ T,k⟩⟩
 .cases w;cases h;exact⟨_,_,rfl,λ_=>.bl _,λQ k=>⟨_,_,_,_,rfl,.of (.bl _),rfl,Dm _ T,k⟩⟩
 .cases w;cases h;exact⟨_,_,rfl,λ_=>.bl _,λQ k=>⟨_,_,_,_,rfl,.of (.int _),rfl,IP _ T,k⟩⟩
 .cases w;cases h;exact⟨_,_,rfl,λ_=>.bl _,λQ k=>⟨_,_,_,_,rfl,.of (.str _),rfl,GV _ T,k⟩⟩
 .cases w with
  |tup e r=>cases h;exact⟨_,_,rfl,λ_=>.bl _,λQ k=>⟨_,_,_,_,rfl,.tup e,rfl,Ip _ T,k⟩⟩
 .cases w with
  |lst e r=>cases h;exact⟨_,_,rfl,λ_=>.bl _,λQ k=>⟨_,_,_,_,rfl,.lst e,rfl,Gk _ T,k⟩⟩
 .cases w with
  |dic e r=>cases h;exact⟨_,_,rfl,λ_=>.bl _,λQ k=>⟨_,_,_,_,rfl,.dic e,rfl,GX _ T,k⟩⟩
theorem Jt{x y:Str}{p p2:Pos}{m:Mi Rr}(T:Ty)(hg:Gl X x)(hm:X.mg x=none)(hv:XX x=some (.builtin "isinstance"))(hg2:Gl X y)(hm2:X.mg y=none)(hv2:XX y=some (.type T.n))(ha:JE X E e m)(hn:x ≠ "__name__")
  (hdb:eV x)(hn2:y ≠ "__name__")(hdb2:eV y)(hs:XU [e,.Name y p2] X.env=(false,eval e X.env)::XU [.Name y p2] X.env:=by rfl)(hs2:XU [.Name y p2] X.env=(false,eval (.Name y p2) X.env)::XU [] X.env:=by rfl)(hp:(X4 pos (XU [.Name y p2] X.env)).any (·.1)=false:=by rfl):JE X E (.Call (.Name x p) [e,.Name y p2] [] pos) (bK (Iq T) m):=
 ⟨PE.weaken (gH rz hg hm hv (aR ha.p (aR (oR hg2 hm2 hv2 (v:=.ty T.n) rfl hn2 hdb2) cc hs2) hs) hn hdb hs hp) λY H Q h=>fJ (Hk T) Y H Q h⟩
end
section
variable{X:Cx}{E:XK}
theorem Bd.Lh{v:V}{a b:A}(e:xs.length=ss.length)(q:Bd c Y H Z (xs++(some v::some w::B)) (ss++(.fr a::.fr b::θ))):∃L,dQ c Y H Z (xs++(some v::some w::B)) (ss++(.fr a::.fr b::θ)) L/\RA c.toKx (c.g H L) v a/\RA c.toKx (c.g H L) w b:=by
 obtain⟨L,q⟩:=q;have r:av c.toKx (c.g H L) H (xs++(some v::some w::(B++Y))) (ss++(.fr a::.fr b::(θ++Z))) L:=by have:=q.rel;simpa[Q6] using this
 obtain⟨I,L2,e1,y,i⟩:=av.split e r;cases i with
 |cons h m=>
  cases m with
  |cons h2 X=>
   cases h with
   |fr h=>
    cases h2 with
    |fr h2=>exact⟨L,q,h,h2⟩
noncomputable def pd(as bs:List A):List A:=(as.zip bs).map λp=>.tup [p.1,p.2]
end
section
variable{X:Cx}{E:XK}
def Aj(K:Q0):R2:=λx y H Q=>∃a b xs ys,x=.ref a/\y=.ref b/\dI K H a xs/\dI K H b ys/\xs.length+ys.length<=sizeLine/\∀p,H p=none->Q (.ref p) (upd H p (.lst (xs++ys)))
theorem zZ:iC X (Yu .Add) (Aj X.K):=by
 intro pins s Y H x y v u Q I J z h;obtain⟨a,b,xs,ys,rfl,rfl,ha,d,hz,q⟩:=h;cases J;cases z;obtain⟨l,V,f,_⟩:=I.list ha;obtain⟨c,i,j,_⟩:=I.list d;obtain⟨⟨m,R,P,r⟩,B,e1,Z,p,D⟩:=id f;obtain⟨⟨T,w,U,g⟩,A,e2,E,o,C⟩:=id j;subst Z D E C p o;have k1:=V.length;have k2:=i.length;refine concat_meets ⟨_,e1,rfl⟩ ⟨_,e2,rfl⟩ noFill_list_add seq_list_add PySem.F.slot_list_add PySem.F.entry_list_add (PySem.F.args_list_add_2 _ _) (Xr a b _ _ B A _ _ r g (by simp only[Ri,Ri];lia)) ⟨e1,e2,?_⟩;have N:l.toArray++c.toArray=(l++c).toArray:=by simp
 rw[N];exact⟨.ref _,_,I.IK (V.append i) (by rw[Rn];lia),rfl,q _ I.fresh⟩
noncomputable def yq:A->A->Option Rr
 | .lst xs,.lst ys=>if xs.length+ys.length<=100000 then some (.nw (.lst (xs++ys))) else none
 |_,_=>none
theorem B2:iY K (Aj K.K) yq:=by
 intro c Y H Z B θ x y v w a b q Q e t f bd e1 e2 T k;cases a<;>first|exact cu T|(cases b<;>first|exact cu T|skip)
 rename_i xs ys
 delta yq at T
 simp only at T;split at T
 .rename_i hc;cases T;obtain⟨L,bl,s,h⟩:=Bd.zd bd t f e1 e2;obtain⟨D,X,rfl,s1,V⟩:=s.1 xs rfl;obtain⟨j,o,rfl,s2,i⟩:=h.1 ys rfl;have r:=V.len;have g:=i.len;subst e;exact⟨D,j,X,o,rfl,rfl,s1,s2,by have:=kl;lia,λp hp=>k _ _ trivial (bl.kr hp λG H' sm q=>.lst q ((V.app i).sm sm))⟩
 .cases T
end
section
variable{c:Cn}{Y:St}{H:Hp}{Z:List Sl}{B:St}{θ:List Sl}
theorem Bd.unset(b:Bd c Y H Z B θ)(h:M.put i .un Z=some O):Bd c (Y.set i none) H O B θ:=by
 unfold M.put at h;have key:∀s,Z[i]?=some s->(∀o,s≠.pv o)->O=Z.set i .un->Bd c (Y.set i none) H O B θ:=λs e hs v=>by
  subst v;obtain⟨L,nd,rel,own,fr,kp,lt,A⟩:=b;obtain⟨I,L2,e1,V,r⟩:=av.split lt rel;obtain⟨x,M1,P,X,hx,y,e2,ins⟩:=r.at e;subst e1 e2;have sub:∀a,a∈I++(M1++[]++X)->a∈I++(M1++P++X):=λa ha=>by simp at ha ⊢;rcases ha with z|z|z<;>simp[z]
  have sm:Sq (c.g H (I++(M1++P++X))) (c.g H (I++(M1++[]++X))):=dq sub;have hi:i<Z.length:=(Q4.mp e).1;refine⟨I++(M1++[]++X),?_,(V.sm sm (λ_ _ _ e=>e)).app (ins sm (λ_ _ _ e=>e) (.un none)),λq N=>own q (sub q N),fr,kp.set hi rfl,lt,A⟩
  .refine nd.sublist (Sj (Sr _) (Sj ?_ (Sr _)));exact Sj (Sr _) (Ws _)
 cases es:Z[i]? with
 |none=>simp only[es] at h;cases h
 |some s=>
  cases s with
  |pv o=>simp only[es] at h;cases h
  |cf _=>simp only[es] at h;exact key _ es (λo z=>by cases z) (Rv h).symm
  |un=>simp only[es] at h;exact key _ es (λo z=>by cases z) (Rv h).symm
  |fr a=>simp only[es] at h;exact key _ es (λo z=>by cases z) (Rv h).symm
  |lv o=>simp only[es] at h;exact key _ es (λo z=>by cases z) (Rv h).symm
end
variable{cv:V}{tab:Str->Option Bool}
section
variable{X:Cx}{E:XK}
def Pa(K:Kx)(Ex:XS)(c:Cn)(O:List Sl)(B:St)(θ:List A)(D:Ends):Fl->Prop
 | .ex x=>∀C Y H,K.mg x=some (.ref C)->Bd c Y H O B (θ.map Sl.fr)->Ex (.ref C) Y H
 |f=>DJ K lK c O B θ D f
inductive PM(K:Kx)(m:Ms)(D:Ends)(Ex:XS)(Y:St)(H:Hp):Prop
 |mk(c:Cn)(Z:List Sl)(B:St)(θ:List A)(f:Fl)(O:List Sl)(h1:c.toKx=K)(h2:Bd c Y H Z B (θ.map Sl.fr))(h3:m Z=some (f,O))(h4:Pa K Ex c O B θ D f)
structure JX(X:Cx)(st:Stmt)(m:Ms):Prop where
 p:PX X st (PM (kx X) m)
theorem PX.weaken{st:Stmt}{t t':TX}(h:PX X st t)(f:∀D Ex Y H,t' D Ex Y H->t D Ex Y H):PX X st t':=λpins s Y H D Ex I q=>h pins s Y H D Ex I (f D Ex Y H q)
noncomputable def gG{α:Type}(m:Mi α):Mi α:=λZ=>match m Z with
 |some (.ok x,U)=>some (.ok x,U)
 |_=>none
theorem ig{m:Mi α}{o:Except Str α}(h:gG m Z=some (o,O)):∃x,o=.ok x/\m Z=some (.ok x,O):=by
 unfold gG at h;cases e:m Z with
 |none=>simp only[e] at h;cases h
 |some p=>
  obtain⟨r,U⟩:=p;cases r with
  |ok x=>simp only[e] at h;cases h;exact⟨x,rfl,rfl⟩
  |error x=>simp only[e] at h;cases h
theorem lE{m:Ms}{n:Nat}{ma:Mi (List Rr)}{q:XK}{o:Except Str Rr}(hn:∀Z rs O,ma Z=some (.ok rs,O)->rs.length+0=n)(s:c.toKx=kx X)(b:Bd c Y H Z B θ)(em:bj m [] (gG ma) Z=some (o,O))
  (T:∀r,o=.ok r->∀v H',VR Y r v->Bd c Y H' O (cq r v B) (cp r θ)->Q v H')(j:∀x,o=.error x->∀C H',X.mg x=some (.ref C)->Bd c Y H' O B θ->q (.ref C) none H'):
  Kd (kx X) lK ma Y H λvs S=>fY (kx X) n m (vs++[]) S Q q:=by
 rcases bind_some em with ⟨rs,U,e1,e2⟩|⟨e,e1,e2⟩
 .obtain⟨x,h1,h2⟩:=ig e1;cases h1;refine⟨c,Z,B,θ,_,U,s,b,h2,λvs S t K=>?_⟩;refine ir (E:=q) (dvs:=[]) (λG=>.nil) s ?_ t K e2 T j;rw[RX,<-t.len];exact hn Z rs U h2
 .obtain⟨x,h1,_⟩:=ig e1;cases h1
theorem BK{n k:Nat}{m:Ms}{x:Str}{p:Pos}{ma:Mi (List Rr)}(F:c9 X.prog X.w X.K X.mg X.base (oT X.prog X.w) k f fd ps (fY (kx X) n m))(hr:cF k X.A)(hg:Gl X x)
  (hm:X.mg x=some (.ref f))(hk:Sa X.K (.ref f)=true)(hb:Binds X.K fd ps [])(ha:JA X.Bz lK (e::es) ma)(hn:∀Z rs O,ma Z=some (.ok rs,O)->rs.length+0=n)(hdb:eV x)(hs:Yc (.Call (.Name x p) (e::es) [] cpos) none pos.line X.env=pure false:=by rfl)
  (he:XU (e::es) X.env=(false,eval e X.env)::XU es X.env:=by rfl)(hpl:(X4 cpos (XU es X.env)).any (·.1)=false:=by rfl):
  JX X (.Expr (.Call (.Name x p) (e::es) [] cpos) pos) (dU (bj m [] (gG ma))):=
 ⟨PX.weaken (BQ (Be (dvs:=[]) F hr hg hm hk hb .nil ha.p hdb he hpl) hs) λD Ex Y H h=>by
  obtain⟨c,Z,B,θ,f,O,ek,b,em,q⟩:=h;rcases cP em with ⟨r,U,e1,e2⟩|⟨e,e1,e2⟩
  .cases e2;exact lE hn ek b e1 (λr' hr' v H' hv b1=>by cases hr';exact q Y H' b1.drop) (λx hx=>by cases hx)
  .subst e2;exact lE hn ek b e1 (λr hr=>by cases hr) (λx hx=>by cases hx;exact λC H' hm b1=>q C Y H' hm b1)⟩
def wX(i:Nat)(sub:Str->Bool)(b s:Ms):Ms:=λZ=>match b Z with
 |some (.ex x,U)=>if sub x=true then match put i (.fr (.exc x)) U with
  |some Z'=>match s Z' with
   |some (.nx,F)=>match put i .un F with
    |some S=>some (.nx,S)
    |none=>none
   |some (.rt r,F)=>some (.rt r,F)
   |_=>none
  |none=>none else none
 |r=>r
theorem GY{T:Addr}{n x:Str}{b0 s0:Stmt}{suite:List Stmt}{mb ms:Ms}{sub:Str->Bool}{np hp:Pos}(hst:X.stack=X.env::X.outer)(hfr:X.env.frame=some X.env.locals)(hex:X.ex=[])(hN:X.N.Nodup)(hi:X.N[i]?=some n)(hn:X.env.scope.names.lookup n=some .local)
  (hg:Gl X x)(hm:X.mg x=some (.ref T))(hsub:∀c C,sub c=true->X.mg c=some (.ref C)->Ur X.K (.ref C) (.ref T)=some true)(hb:JX X b0 mb)(hs:∀a,pY (X.marked a) lK (s0::suite) ms)(hd:eV x)
  (hf:X.fn n=true\/X.env.scope.names.lookup n=some .local:=by first|exact .inl rfl|exact .inr rfl|assumption):
  JS X E (.Try [b0] [.ExceptHandler (some (.Name x np)) (some n) (s0::suite) hp] [] [] pos) (wX i sub mb ms):=
 ⟨PS.weaken (Hy (ts:=Ey (kx X) lK ms) hst hfr hex hN hi hn hg hm (vJ hb.p) (λa=>(hs a).p) hd hf) λD Y H h=>by
  obtain⟨c,Z,B,θ,f,O,ek,b,em,q⟩:=h;unfold wX at em;cases eb:mb Z with
  |none=>simp only[eb] at em;cases em
  |some p=>
   obtain⟨f1,U⟩:=p;simp only[eb] at em;refine⟨c,Z,B,θ,f1,U,ek,b,eb,?_⟩;cases f1 with
   |nx=>cases em;exact q
   |rt s=>cases em;exact q
   |bk=>cases em;exact q
   |ct=>cases em;exact q
   |ex y=>
    simp only at em;split at em
    .rename_i hsb;intro C j H' hmC b1;refine⟨C,rfl,hsub y C hsb hmC,λa ha=>?_⟩;cases ep:put i (.fr (.exc y)) U with
     |none=>simp only[ep] at em;cases em
     |some Z'=>
      simp only[ep] at em;cases es:ms Z' with
      |none=>simp only[es] at em;cases em
      |some p=>
       obtain⟨f2,F⟩:=p;simp only[es] at em;have b2:Bd c (j.set i (some (.ref a))) (upd H' a (ua a C)) Z' B (θ.map Sl.fr):=by obtain⟨L,bl⟩:=b1;obtain⟨b3,sm,np⟩:=bl.new (o:=ua a C) ha;exact Bd.put (b3.push (.exc (by rw[bf np (bl.Kc ha)];exact aF) (by rw[ek];exact hmC))) rfl ep
       refine⟨c,Z',B,θ,f2,F,ek,b2,es,?_⟩;cases f2 with
       |nx=>
        cases e4:put i .un F with
        |none=>simp only[e4] at em;cases em
        |some S=>simp only[e4] at em;cases em;exact λV H3 b3=>q _ H3 (b3.unset e4)
       |rt r=>cases em;exact q
       |bk=>cases em
       |ct=>cases em
       |ex z=>cases em
    .cases em⟩
noncomputable def eA(tab:Str->Option Bool):A->Option Rr
 | .exc c=>match tab c with
  |some k=>some (.fr (.bl k))
  |none=>none
 |_=>none
theorem Dj(hc:eP cv=true)(j:∀c C k,tab c=some k->K.mg c=some (.ref C)->fL K.K C/\RW K.K (.ref C) (gn cv)=some k):
  rP K (λv H Q=>∃x c t b,[v,cv]=[x,c]/\vN K.K H x t/\eP c=true/\RW K.K t (gn c)=some b/\Q (.bl b) H) (eA tab):=.scalar λH v a q V h=>by
 cases a<;>first|(cases h;done)|skip
 rename_i c;unfold eA at h;simp only at h;cases e:tab c with
 |none=>simp only[e] at h;cases h
 |some k=>
  simp only[e] at h;cases h;cases V with
  |exc e1 I=>obtain⟨x1,x2⟩:=j c _ k e I;exact⟨_,_,rfl,λ_=>.bl _,λQ k=>⟨_,_,_,_,rfl,.exc e1 x1,hc,x2,k⟩⟩
theorem B6{x:Str}{p:Pos}{m:Mi Rr}(hg:Gl X x)(hm:X.mg x=none)(hv:XX x=some (.builtin "isinstance"))(h2:PE X e2 (tC cv))(hc:eP cv=true)(ht:∀c C k,tab c=some k->X.mg c=some (.ref C)->fL X.K C/\RW X.K (.ref C) (gn cv)=some k)
  (ha:JE X E e m)(hn:x ≠ "__name__")(hdb:eV x)(hs:XU [e,e2] X.env=(false,eval e X.env)::XU [e2] X.env:=by rfl)(hs2:XU [e2] X.env=(false,eval e2 X.env)::XU [] X.env:=by rfl)(hp:(X4 pos (XU [e2] X.env)).any (·.1)=false:=by rfl):
  JE X E (.Call (.Name x p) [e,e2] [] pos) (bK (eA tab) m):=
 ⟨PE.weaken (gH rz hg hm hv (aR ha.p (aR h2 cc hs2) hs) hn hdb hs hp) λY H Q h=>fJ (r:=λv H Q=>∃x c t b,[v,cv]=[x,c]/\vN (kx X).K H x t/\eP c=true/\RW (kx X).K t (gn c)=some b/\Q (.bl b) H) (Dj (K:=kx X) hc ht) Y H Q h⟩
end
end M
set_option maxHeartbeats 4000000
set_option maxHeartbeats 1000000
namespace M
open PySem L2
variable{s:Sl}{cn:Str}{r:Rr}
section
variable{c:Cn}{Y:St}{H:Hp}{Z:List Sl}{B:St}{θ:List Sl}
theorem d9.Es{k:Kx}{G:Hp}{x:Option V}{L:List Addr}{fs:List (Str×A)}(h:d9 k G H x s L)(sm:Sq G H)(e:s.a=some (.obj cn fs)):∃p C dx vs,x=some (.ref p)/\H p=some (.ins C dx vs)/\k.mg cn=some (.ref C)/\gw k G vs fs:=by
 have lo:∀p o q,LR k G H p o q->o.rd=some (A.obj cn fs)->∃C dx vs,H p=some (.ins C dx vs)/\k.mg cn=some (.ref C)/\gw k G vs fs:=λp o q h z=>by
  cases h with
  |nob=>cases z
  |lst=>cases z
  |dic=>cases z
  |dit=>cases z
  |obj e m r=>cases z;exact⟨_,_,_,e,m,r⟩
 cases h with
 |un=>cases e
 |cf h=>cases e;cases h with|obj e m r=>exact⟨_,_,_,_,rfl,sm.keep e rfl,m,r⟩
 |fr h=>cases e;cases h with|obj e m r=>exact⟨_,_,_,_,rfl,sm.keep e rfl,m,r⟩
 |lv h=>obtain⟨C,dx,vs,h1,h2,h3⟩:=lo _ _ _ h e;exact⟨_,C,dx,vs,rfl,h1,h2,h3⟩
 |pv h=>obtain⟨C,dx,vs,h1,h2,h3⟩:=lo _ _ _ h e;exact⟨_,C,dx,vs,rfl,h1,h2,h3⟩
theorem Bd.Fu{v:V}{fs:List (Str×A)}(b:Bd c Y H Z (cq r v B) (cp r θ))(t:VR Y r v)(e:res Z r=some (.obj cn fs)):∃L p C dx vs,dQ c Y H Z B θ L/\v=.ref p/\H p=some (.ins C dx vs)/\c.mg cn=some (.ref C)/\gw c.toKx (c.g H L) vs fs:=by
 obtain⟨u,b⟩:=b;have q:∀s,dQ c Y H Z (some v::B) (s::θ) u->s.a=some (.obj cn fs)->∃L p C dx vs,dQ c Y H Z B θ L/\v=.ref p/\H p=some (.ins C dx vs)/\c.mg cn=some (.ref C)/\gw c.toKx (c.g H L) vs fs:=by
  intro s b N;obtain⟨nd,rel,own,fr,kp,lt,y⟩:=b;have rel:av c.toKx (c.g H u) H (some v::(B++Y)) (s::(θ++Z)) u:=rel;cases rel with
  |cons h r=>rename_i I L2;have sm:Sq (c.g H (I++L2)) (c.g H L2):=dq λa ha=>Q2 _ ha;obtain⟨p,C,dx,vs,h1,h2,h3,h4⟩:=(h.sm sm (λ_ _ _ e=>e)).Es (g_same _ _ _) N;exact⟨L2,p,C,dx,vs,⟨(Rj.mp nd).2.1,r.sm sm (λ_ _ _ e=>e),λp hp=>own p (Q2 _ hp),fr,kp,by simpa using lt,y⟩,Rv h1,h2,h3,h4⟩
 cases r with
 |rf i=>
  unfold res at e;cases es:Z[i]? with
  |none=>simp only[es] at e;cases e
  |some s=>simp only[es] at e;obtain⟨I,L2,e1,w,k⟩:=av.split b.lt b.rel;obtain⟨x,_,_,_,hx,hs,_⟩:=k.at es;have t:Y[i]?=some (some v):=t;rw[t] at hx;obtain⟨p,C,dx,vs,h1,h2,h3,h4⟩:=hs.Es (g_same _ _ _) e;rw[<-Rv hx] at h1;exact⟨u,p,C,dx,vs,b,Rv h1,h2,h3,h4⟩
 |fr a'=>exact q _ b e
 |nw o=>exact q _ b e
theorem Bd.QV{x:Option V}{ys:St}{ss:List Sl}(e:ys.length=ss.length)(b:Bd c Y H Z (x::(ys++B)) (s::(ss++θ))):Bd c Y H Z (ys++x::B) (ss++s::θ):=by
 obtain⟨L,b⟩:=b;have r:av c.toKx (c.g H L) H (x::(ys++(B++Y))) (s::(ss++(θ++Z))) L:=by have:=b.rel;simpa[Q6] using this
 cases r with
 |cons h r=>
  rename_i I L2;obtain⟨E,A,e1,w,i⟩:=av.split e r;subst e1;have pm:(I++(E++A)).Perm (E++(I++A)):=by rw[<-Q6,<-Q6];exact Tx.append_right A
  refine⟨E++(I++A),(pm.nodup_iff).mp b.nd,?_,λp hp=>b.own p (pm.mem_iff.mpr hp),b.fr,b.kp,by have:=b.lt;simp[e] at this ⊢;lia,b.hd⟩;have G:c.g H (E++(I++A))=c.g H (I++(E++A)):=D5 λa=>pm.mem_iff.symm;rw[G];have:=w.app (av.cons h i);simpa[Q6] using this
end
variable{K:Kx}{cs:List Str}{f mn:Str}{e:Expr}{pos:Pos}{Z O:List Sl}{o:Except Str Rr}{mo:Mi Rr}{ma:Mi (List Rr)}{C:Addr}
section
variable{X:Cx}{E:XK}
def ay(cs:List Str)(f:Str):A->Option Rr
 | .obj c fs=>if cs.contains c then (match fs.lookup f with
  |some a=>some (.fr a)
  | none=>none) else none
 |_=>none
def Eo(K:Q0)(f:Str):V->Hp->VK->Prop:=λx S Q=>∃a C dx fs v,x=.ref a/\S a=some (.ins C dx fs)/\i5 K C/\cG K C f/\fs.lookup f=some v/\Q v S
theorem BN(hc:∀c C,cs.contains c=true->K.mg c=some (.ref C)->i5 K.K C/\cG K.K C f):rP K (Eo K.K f) (ay cs f):=by
 intro c Y H Z B θ x v a q Q e t bd e1 T k;cases a<;>first|(exact cu T)|skip
 rename_i cn fs;unfold ay at T;simp only at T;split at T
 .rename_i h;cases A:fs.lookup f with
  |none=>simp only[A] at T;cases T
  |some w=>
   simp only[A] at T;cases T;obtain⟨L,p,C,dx,vs,bl,rfl,h2,h3,h4⟩:=Bd.Fu bd t e1;subst e;obtain⟨m,D⟩:=hc cn C h h3;rcases h4.get f with ⟨u,a,E,b,X⟩|⟨_,b⟩
   .rw[A] at b;cases b;exact⟨p,C,dx,vs,u,rfl,h2,m,D,E,k u H trivial (bl.push X)⟩
   .rw[A] at b;cases b
 .cases T
theorem vd{m:Mi Rr}(hc:∀c C,cs.contains c=true->X.mg c=some (.ref C)->i5 X.K C/\cG X.K C f)(he:JE X E e m)(d:X7 e f X.env (eval e X.env)=eval e X.env):JE X E (.Attribute e f pos) (aT (ay cs f) m):=
 ⟨PE.weaken (jV he.p d) λY H Q h=>fJ (r:=Eo X.K f) (BN hc) Y H Q h⟩
def P5(cs:List Str)(i:Nat)(f:Str)(m:Mi Rr):Ms:=cT m λr Z=>match bE r Z with
 |some (a,U)=>match aD U i with
  |some (.obj c fs)=>if cs.contains c&&SE fs.length 900 then some (.nx,setAt U i (.obj c (kq f a fs))) else none
  |_=>none
 |none=>none
def bX(cn m:Str)(mo:Mi Rr):Mi Rr:=aO mo λr Z=>match res Z r with
 |some (.obj c fs)=>if c==cn&&(fs.lookup m).isNone then some (.ok r,Z) else none
 |_=>none
theorem nI{m:Str}{r':Rr}(h:(match res Z r with|some (.obj c fs)=>if c==cn&&(fs.lookup m).isNone then some ((.ok r:Except Str Rr),Z) else none|_=>none)=some (o,O)):∃fs,res Z r=some (.obj cn fs)/\fs.lookup m=none/\o=.ok r/\O=Z:=by
 split at h
 .rename_i c fs e;split at h
  .rename_i hc;rw[QZ,ZA,R3] at hc;cases h;exact⟨fs,by rw[e,hc.1],hc.2,rfl,rfl⟩
  .cases h
 .cases h
inductive GU(cn mn:Str)(mo:Mi Rr)(ma:Mi (List Rr))(Z:List Sl)(x:Except Str (List Rr))(U:List Sl):Prop
 |ok{r:Rr}{rs:List Rr}{Z':List Sl}{fs:List (Str×A)}(e:mo Z=some (.ok r,Z'))(g:res Z' r=some (.obj cn fs))(l:fs.lookup mn=none)(a:ma Z'=some (.ok rs,U))(q:x=.ok (r::rs))
 |err{y:Str}(e:mo Z=some (.error y,U))(q:x=.error y)
 |bad{r:Rr}{Z':List Sl}{fs:List (Str×A)}{y:Str}(e:mo Z=some (.ok r,Z'))(g:res Z' r=some (.obj cn fs))(l:fs.lookup mn=none)(a:ma Z'=some (.error y,U))(q:x=.error y)
theorem qC{U:List Sl}{x:Except Str (List Rr)}(h:cA (bX cn mn mo) ma Z=some (x,U)):GU cn mn mo ma Z x U:=by
 rcases bind_some h with ⟨r,Z',L,A⟩|⟨y,L,A⟩
 .rcases bind_some L with ⟨k,F,i,g⟩|⟨_,_,g⟩
  .obtain⟨fs,E,b,X,c⟩:=nI (r':=k) g;cases X;subst c;rcases bind_some A with ⟨rs,S,H,Y⟩|⟨y,H,Y⟩
   .cases Y;exact .ok i E b H rfl
   .exact .bad i E b H Y
  .cases g
 .rcases bind_some L with ⟨k,F,i,g⟩|⟨z,i,g⟩
  .obtain⟨fs,E,b,X,c⟩:=nI (r':=k) g;cases X
  .cases g;exact .err i A
theorem nh{m:Ms}{n:Nat}{I:List A}{dvs:List V}(hd:∀G,bF (kx X) G dvs I)(g:X.mg cn=some (.ref C))(hn:∀Z rs O,ma Z=some (.ok rs,O)->rs.length+1+I.length=n)(Y:St)(H:Hp)(Q:VK)(h:kF (kx X) E (bj m I (cA (bX cn mn mo) ma)) Y H Q):
  u4 C mn (fY (kx X) n m) dvs E (kF (kx X) E mo) (Kd (kx X) E ma) Y H Q:=by
 obtain⟨c,Z,B,θ,o,O,s,b,em,q⟩:=h;have j:∀{r:Rr}{Z':List Sl}{fs:List (Str×A)}{v:V}{S:Hp},res Z' r=some (.obj cn fs)->fs.lookup mn=none->VR Y r v->Bd c Y S Z' (cq r v B) (cp r θ)->∃p dx vs,v=.ref p/\S p=some (.ins C dx vs)/\vs.lookup mn=none:=λD F t K=>by
  obtain⟨L,p,J,dx,vs,bl,rfl,h2,h3,h4⟩:=Bd.Fu K t D;have a:X.mg cn=some (.ref J):=by have:=Zz (λk:Kx=>k.mg cn) s;simp only at this;rw[<-this];exact h3
  rw[g] at a;cases a;refine⟨p,dx,vs,rfl,h2,?_⟩;rcases h4.get mn with ⟨_,_,_,z,_⟩|⟨z,_⟩
  .rw[F] at z;cases z
  .exact z
 have fin:∀e,o=.error e->∀C H,X.mg e=some (.ref C)->Bd c Y H O B θ->E (.ref C) none H:=bB q;rcases bind_some em with ⟨rs,U,e1,e2⟩|⟨e,e1,e2⟩
 .cases qC e1 with
  |@ok r rs' Z' fs i D F R eq=>cases eq;refine⟨c,Z,B,θ,_,_,s,b,i,λv S t K=>?_⟩;obtain⟨p,dx,vs,rfl,h2,hl⟩:=j D F t K;refine⟨p,dx,vs,rfl,h2,hl,c,_,_,_,_,_,s,K,R,λws P f N=>?_⟩;refine ir (rs:=r::rs') (vs:=.ref p::ws) hd s ?_ ⟨t,f⟩ N e2 (λr hr v H' t b=>by subst hr;exact q v H' t b) (λx hx=>by subst hx;exact q);simp only[S2,Rb,Rn,<-f.len,<-hn _ _ _ R,(hd λ_=>none).len];lia
  |err _ eq=>cases eq
  |bad _ _ _ _ eq=>cases eq
 .cases qC e1 with
  |ok _ _ _ _ eq=>cases eq
  |err i eq=>cases eq;exact⟨c,Z,B,θ,_,_,s,b,i,λC S hm K=>fin _ e2 C S hm K⟩
  |bad i D F R eq=>cases eq;refine⟨c,Z,B,θ,_,_,s,b,i,λv S t K=>?_⟩;obtain⟨p,dx,vs,rfl,h2,hl⟩:=j D F t K;exact⟨p,dx,vs,rfl,h2,hl,c,_,_,_,_,_,s,K,R,λC P hm N=>fin _ e2 C P hm N.drop⟩
end
theorem g9{o:Expr}{m:Str}{apos:Pos}{args:List Expr}{env:Env}(H:X7 o m env (eval o env)=eval o env)
  (b:Yv (args.length+([]:List Ym).length) (X4 pos (XU args env)) (Yl pos (Yb [] env))=true)(Y:(apos.endLine==pos.line)=true):
  eval (.Call (.Attribute o m apos) args [] pos) env=(do
   let ov <- eval o env
   YE apos.atName
   let (f,first) <- holding [ov] (YN ov m (do return (<- importBound o env).getD true))
   Zb pos f first (X4 pos (XU args env)) (Yl pos (Yb [] env))):=by
 rw[arm_eval_Call,H]
 delta methodCall calleeOf methodCallPos
 rw[b,Y];rfl
variable{H:Hp}{p:Pos}
section
variable{X:Cx}{E:XK}{CX:rO}{k n:Nat}{f C:Addr}{fd:X9}{ps:List Str}{m:Ms}{I:List A}{dvs:List V}{ds:List Value}{cn mn:Str}{apos pos:Pos}{o e:Expr}{es:List Expr}{mo:Mi Rr}{ma:Mi (List Rr)}
theorem BE(t:X.mg cn=some (.ref C))(hc:i5 X.K C)(hm:Meth X.K C mn f)(F:c9 X.prog X.w X.K X.mg X.base CX k f fd ps (fY (kx X) n m))(hr:cF k X.A)(d:Binds X.K fd ps ds)(hd:Vals dvs ds)(c:∀G,bF (kx X) G dvs I)(hx:Passes CX X E)
  (ho:JE X E o mo)(ha:JA X E (e::es) ma)(hn:∀Z rs O,ma Z=some (.ok rs,O)->rs.length+1+I.length=n)(H:X7 o mn X.env (eval o X.env)=eval o X.env)
  (b:Yv ((e::es).length+([]:List Ym).length) (X4 pos (XU (e::es) X.env)) (Yl pos (Yb [] X.env))=true)(Y:(apos.endLine==pos.line)=true)
  (v:XU (e::es) X.env=(false,eval e X.env)::XU es X.env)(q:(X4 pos (XU es X.env)).any (·.1)=false):JE X E (.Call (.Attribute o mn apos) (e::es) [] pos) (bj m I (cA (bX cn mn mo) ma)):=
 ⟨PE.weaken (vx ho.p hc hm F hr d hd hx ha.p v q (g9 H b Y)) (nh c t hn)⟩
theorem kF.mono{E:XK}{m:Mi Rr}{Y:St}{Q p:VK}(h:kF K E m Y H Q)(f:∀v H,Q v H->p v H):kF K E m Y H p:=by
 obtain⟨c,Z,B,θ,o,O,e,b,em,q⟩:=h;refine⟨c,Z,B,θ,o,O,e,b,em,?_⟩;cases o with
 |ok r=>exact λv H' t z=>f _ _ (q v H' t z)
 |error x=>exact q
theorem AU(t:X.mg cn=some (.ref C))(hc:i5 X.K C)(hm:Meth X.K C mn f)(F:c9 X.prog X.w X.K X.mg X.base CX k f fd ps (fY (kx X) n m))(hr:cF k X.A)(d:Binds X.K fd ps ds)(hd:Vals dvs ds)(z:∀G,bF (kx X) G dvs I)(hx:Passes CX X E)
  (ho:JE X E o mo)(hn:1+I.length=n)(x:X7 o mn X.env (eval o X.env)=eval o X.env)(D:(apos.endLine==pos.line)=true):JE X E (.Call (.Attribute o mn apos) [] [] pos) (bj m I (cA (bX cn mn mo) dy)):=
 ⟨PE.weaken (rj ho.p hc hm F hr d hd hx (g9 x rfl D)) λY H Q h=>by
  have h1:=nh (n:=n) z t (λZ rs O q=>by cases q;rw[<-hn];rfl) Y H Q h;refine kF.mono h1 λv S ⟨a,dx,fs,R,U,N,j⟩=>⟨a,dx,fs,R,U,N,?_⟩
  obtain⟨c,Z,B,θ,o,O,e,b,em,q⟩:=j;cases em;exact q [] S trivial b⟩
def ot(cn:Str)(f:Ms)(I:List A)(ma:Mi (List Rr)):Mi Rr:=aO ma λrs Z=>match bU (rs++I.map Rr.fr) Z with
 |some (as,S)=>match f (.pv (.obj cn [])::as.map mX) with
  |some (.rt (.fr .non),.pv o2::Y)=>match putL Z (rs++I.map Rr.fr) (ax as.length Y) S with
   |some O=>some (.ok (.nw o2),O)
   |none=>none
  |some (.ex x,s::Y)=>match putL Z (rs++I.map Rr.fr) (ax as.length Y) S with
   |some O=>some (.error x,O)
   |none=>none
  |_=>none
 |none=>none
theorem wA(n:Nat)(s:Sl)(Z:List Sl):∃t,ax (n+1) (s::Z)=t::ax n Z:=by cases s<;>exact⟨_,rfl⟩
inductive Ii(cn:Str)(f:Ms)(rs':List Rr)(Z:List Sl)(o:Except Str Rr)(O:List Sl):Prop
 |ok{as S Y:List Sl}{o2:LO}(t:bU rs' Z=some (as,S))(e:f (.pv (.obj cn [])::as.map mX)=some (.rt (.fr .non),.pv o2::Y))(p:putL Z rs' (ax as.length Y) S=some O)(q:o=.ok (.nw o2))
 |err{as S Y:List Sl}{s:Sl}{x:Str}(t:bU rs' Z=some (as,S))(e:f (.pv (.obj cn [])::as.map mX)=some (.ex x,s::Y))(p:putL Z rs' (ax as.length Y) S=some O)(q:o=.error x)
theorem Ag{f:Ms}{rs':List Rr}{o:Except Str Rr} (h:(match bU rs' Z with
 |some (as,S)=>match f (.pv (.obj cn [])::as.map mX) with
  |some (.rt (.fr .non),.pv o2::Y)=>match putL Z rs' (ax as.length Y) S with
   |some O=>some (.ok (.nw o2),O)
   |none=>none
  |some (.ex x,s::Y)=>match putL Z rs' (ax as.length Y) S with
   |some O=>some (.error x,O)
   |none=>none
  |_=>none
 | none=>none:Option (Except Str Rr×List Sl))=some (o,O)):Ii cn f rs' Z o O:=by
 cases t:bU rs' Z with
 |none=>rw[t] at h;exact cu h
 |some pr=>
  obtain⟨as,S⟩:=pr;rw[t] at h;dsimp only at h;cases e:f (.pv (.obj cn [])::as.map mX) with
  |none=>rw[e] at h;exact cu h
  |some pr=>
   obtain⟨fl,U⟩:=pr;rw[e] at h;cases fl with
   |rt s=>cases s with
    |fr a=>cases a with
     |non=>cases U with
      |nil=>exact cu h
      |cons s Y=>cases s with
       |pv o2=>
        dsimp only at h;split at h
        .rename_i p;cases h;exact .ok t e p rfl
        .exact cu h
       |_=>exact cu h
     |_=>exact cu h
    |_=>exact cu h
   |ex x=>cases U with
    |nil=>exact cu h
    |cons s Y=>
     dsimp only at h;split at h
     .rename_i p;cases h;exact .err t e p rfl
     .exact cu h
   |_=>exact cu h
theorem wV(a:∀G,bF (kx X) G dvs I)(i:X.mg cn=some (.ref C))(hn:∀Z rs O,ma Z=some (.ok rs,O)->rs.length+1+I.length=n)(Y:St)(H:Hp)(Q:VK)(h:kF (kx X) E (ot cn m I ma) Y H Q):
  Fx C (fY (kx X) n m) dvs E (Kd (kx X) E ma) Y H Q:=by
 obtain⟨c,Z,B,θ,o,O,s,b,em,q⟩:=h;rcases bind_some em with ⟨rs,U,e1,em⟩|⟨e,e1,e2⟩
 .refine⟨c,Z,B,θ,_,U,s,b,e1,λvs D R K x dx hx N P=>?_⟩;have ld:=(a λ_=>none).len.symm;refine⟨by simp only[Rb,Rn,<-R.len,<-hn _ _ _ e1,ld];lia,?_⟩;have F:=R.app (kz.dG ld);have g:c.mg cn=some (.ref C):=by have:=Zz (λk:Kx=>k.mg cn) s;simp only at this;rw[this];exact i
  have kp:eu c.σ0 Y U:=by obtain⟨L,b⟩:=K;exact b.kp
  have pre:∀{as S:List Sl},bU (rs++I.map Rr.fr) U=some (as,S)->(vs++dvs).length=as.length/\Bd c Y (upd (upd D dx (.own x)) x (.ins C dx [])) S ((V.ref x::(vs++dvs)).reverse.map some++B) ((Sl.lv (.obj cn [])::as).reverse++θ):=λ{as S} e2=>by obtain⟨r,T⟩:=Bd.bU F (by simp only[jt _ _ _ R.len,gX];exact Bd.pT (by rw[s];exact a) K:Bd c Y D U (cz (rs++I.map Rr.fr) (vs++dvs) B) (cB (rs++I.map Rr.fr) θ)) e2;obtain⟨L,d⟩:=r.new (o:=.own x) N;have b6:=d.kr (u:=.ins C dx []) (by rw[aj P.symm];exact hx) λG H' sm q=>.obj q g .nil;have b7:=Bd.QV (by simp only[Q7,List.length_reverse];exact T) b6;exact⟨T,by simpa[Q6] using b7⟩
  cases Ag em with
  |ok t A j eq=>obtain⟨T,J⟩:=pre t;obtain⟨w,k1,k2,k3,l,k5⟩:=Bd.enter (by simp only[Rb,Rb,T]) J;refine⟨w,_,_,_,k1.trans s,k2,k3,l,A,λv H' hs f=>?_⟩;have rv:=Bd.top f rfl;cases rv;refine⟨rfl,?_⟩;have p:=k5 H' _ _ _ (λs' y o z=>by rw[RC.mp y] at z;exact hs o z) (bC _ _) f;simp only[Rb,T] at p;simp only[eq] at q;exact q (.ref x) H' trivial (Bd.tw (xs:=[some .non]) (ss:=[.fr .non]) rfl (Bd.putL kp F (by simpa[ax,zI,Q6] using p) j))
  |err t A j eq=>obtain⟨T,J⟩:=pre t;obtain⟨w,k1,k2,k3,l,k5⟩:=Bd.enter (by simp only[Rb,Rb,T]) J;refine⟨w,_,_,_,k1.trans s,k2,k3,l,A,λC' H' hm f=>?_⟩;have p:=k5 H' _ _ _ (λs' y=>by cases y) (bC _ _) f;simp only[Rb,T] at p;obtain⟨t,ht⟩:=wA _ _ _;rw[ht] at p;simp only[eq] at q;exact q C' H' hm (Bd.putL kp F (by simpa[Q6] using p) j).pop
 .subst e2;exact⟨c,Z,B,θ,_,O,s,b,e1,λC D hm K=>q C D hm K⟩
theorem C8{x:Str}(Y:Mk X.K C f)(F:c9 X.prog X.w X.K X.mg X.base CX k f fd ps (fY (kx X) n m))(hr:cF (k+1) X.A)(J:Gl X x)(t:X.mg x=some (.ref C))(d:Binds X.K fd ps ds)(hd:Vals dvs ds)(c:∀G,bF (kx X) G dvs I)(hx:Passes CX X E)
  (ha:JA X E (e::es) ma)(hn:∀Z rs O,ma Z=some (.ok rs,O)->rs.length+1+I.length=n)(H:eV x)(he:XU (e::es) X.env=(false,eval e X.env)::XU es X.env)(q:(X4 pos (XU es X.env)).any (·.1)=false):
  JE X E (.Call (.Name x p) (e::es) [] pos) (ot x m I ma):=
 ⟨PE.weaken (DF Y F hr J t d hd hx ha.p H he q) (wV c t hn)⟩
noncomputable def a9(m n:Mi Rr):Mi Rr:=λZ=>match m Z with
 |some x=>some x
 |none=>n Z
theorem pS{m n:Mi Rr}(h:JE X E e m)(h':JE X E e n):JE X E e (a9 m n):=⟨λpins s Y H Q I t=>by
 obtain⟨c,Z,B,θ,o,O,G,b,em,q⟩:=t;unfold a9 at em;cases e1:m Z with
 |some x=>simp only[e1] at em;cases em;exact h.p pins s Y H Q I ⟨c,Z,B,θ,o,O,G,b,e1,q⟩
 | none=>rw[e1] at em;exact h'.p pins s Y H Q I ⟨c,Z,B,θ,o,O,G,b,em,q⟩⟩
end
noncomputable def gO:List A->Option (List Bool)
 |[]=>some []
 | .bl b::r=>match gO r with
  |some bs=>some (b::bs)
  |none=>none
 |_=>none
theorem ny:∀{xs:List A}{bs:List Bool},gO xs=some bs->xs=bs.map A.bl
 |[],bs,h=>by cases h;rfl
 |a::r,bs,h=>by
  cases a<;>first|(exact cu h)|skip
  unfold gO at h;cases e:gO r with
  |none=>simp only[e] at h;cases h
  |some cs=>rw[e] at h;cases h;rw[ny e];rfl
def ke(g:List Bool->Bool):A->Option Rr
 | .lst xs=>match gO xs with
  |some bs=>some (.fr (.bl (g bs)))
  |none=>none
 |_=>none
theorem rK{K:Kx}{G:Hp}:∀{bs:List Bool}{vs:List V},bF K G vs (bs.map A.bl)->vs=bs.map V.bl
 |[],vs,h=>by cases h;rfl
 |b::bs,vs,h=>by
  cases h with
  |cons h1 h2=>cases h1;rw[rK h2];rfl
theorem FY{g:List Bool->Bool}:rP K (λv=>Nc K.K g [v]) (ke g):=.scalar λH v a q V h=>by
 cases a<;>first|(exact cu h)|skip
 rename_i xs;unfold ke at h;simp only at h;cases e:gO xs with
 |none=>simp only[e] at h;cases h
 |some bs=>
  rw[e] at h;cases h;have:=ny e;subst this;cases V with
  |lst C b=>exact⟨_,_,rfl,λ_=>.bl _,λQ k=>⟨_,_,bs,rfl,C,rK b,k⟩⟩
section
variable{X:Cx}{E:XK}{a b:Expr}{ma mb:Mi Rr}{pos:Pos}
theorem AZ:XX "any" = some (.builtin "any"):=by decide +kernel
end
def Lq(G G':Hp):Prop:=∀a u,G a=some u->(∀ws,u≠.lst ws)->G' a=some u
section
variable{k:Kx}{G G' H:Hp}(s:Lq G G')
theorem av.pick:∀{Y:St}{Z:List Sl}{L:List Addr}{j:Nat}{t:Sl},av k G H Y Z L->Z[j]?=some t->∃x I c L2,Y[j]?=some x/\L=I++(c++L2)/\d9 k G H x t c /\
  ∀{G':Hp}{t':Sl}{L':List Addr},(∀{x:Option V}{t:Sl}{L:List Addr},t∈Z->d9 k G H x t L->d9 k G' H x t L)->d9 k G' H x t' L'->av k G' H Y (Z.set j t') (I++(L'++L2))
 |_,_,_,j,t,.nil,e=>by simp at e
 |x::Y,u::Z,_,0,t,.cons (L:=La) (L':=Lb) h r,e=>by
  cases e;refine⟨x,[],La,Lb,rfl,rfl,h,λ{G2 E b} f h'=>?_⟩;rw[Ut];have:∀{Y:St}{O:List Sl}{L:List Addr},(∀t∈O,t∈u::Z)->av k G H Y O L->av k G2 H Y O L:=by
   intro Y O L hm r;induction r with
   |nil=>exact .nil
   |cons h r l=>exact .cons (f (hm _ Rg) h) (l λt a=>hm t (Q5 _ a))
  exact .cons h' (this (λt a=>Q5 _ a) r)
 |x::Y,u::Z,_,j+1,t,.cons (L:=La) (L':=Lb) h r,e=>by obtain⟨y,I,c,L2,h1,h2,h3,h4⟩:=av.pick r (j:=j) (by simpa using e);refine⟨y,La++I,c,L2,by simpa using h1,by rw[h2,Q6],h3,λf h'=>?_⟩;have:=h4 (λm=>f (Q5 _ m)) h';rw[Q6];exact .cons (f Rg h) this
end
def Bl:Option Sl->Bool
 |some .un=>true
 |_=>false
theorem u6{o:Option Sl}(h:Bl o=true):o=some .un:=by
 cases o with
 |none=>cases h
 |some s=>cases s<;>first|rfl|cases h
theorem gr:∀{n j:Nat}{Z:List Sl}{o:LO},ax n ((ax n Z).set j (.pv o))=(ax n Z).set j (.pv o)
 |0,_,_,_=>rfl
 |n+1,0,Z,o=>by
  have:∀Z:List Sl,ax n (ax n Z)=ax n Z:=λZ=>backL_idem n Z;cases Z with
  |nil=>show ax (n+1) (.pv o::ax n [])=.pv o::ax n [];simp only[ax,this]
  |cons s Z=>cases s<;>(show ax (n+1) (.pv o::ax n Z)=.pv o::ax n Z;simp only[ax,this])
 |n+1,j+1,Z,o=>by
  cases Z with
  |nil=>show ax (n+1) (.un::(ax n []).set j (.pv o))=.un::(ax n []).set j (.pv o);rw[ax,gr];intro o z;cases z
  |cons s Z=>cases s<;>first
   |(show ax (n+1) (.un::(ax n Z).set j (.pv o))=.un::(ax n Z).set j (.pv o);rw[ax,gr];intro o z;cases z)
   |(show ax (n+1) (.pv _::(ax n Z).set j (.pv o))=.pv _::(ax n Z).set j (.pv o);simp only[ax,gr])
where backL_idem:∀(n:Nat)(Z:List Sl),ax n (ax n Z)=ax n Z
 |0,_=>rfl
 |n+1,[]=>by show ax (n+1) (.un::ax n [])=.un::ax n [];rw[ax,backL_idem];intro o z;cases z
 |n+1,s::Z=>by cases s<;>first
   |(show ax (n+1) (.un::ax n Z)=.un::ax n Z;rw[ax,backL_idem];intro o z;cases z)
   |(show ax (n+1) (.pv _::ax n Z)=.pv _::ax n Z;simp only[ax,backL_idem])
noncomputable def Qe(Y:List V):TA:=λ_ H Q=>Q Y H
noncomputable def gS:List (List (Str×Bool))->Str->Option Bool
 |[],_=>some false
 |l::r,c=>match l.lookup c with
  |some true=>some true
  |some false=>gS r c
  |none=>none
variable{cvs:List V}{tab:Str->Option Bool}
theorem Cp(hc:cvs.all eP=true)(hl:cvs.length<=sizeLine)(j:∀c C k,tab c=some k->K.mg c=some (.ref C)->fL K.K C/\SM K.K (.ref C) (cvs.map gn)=some k):
  rP K (λv H Q=>cvs.length<=sizeLine/\∀p,H p=none->∃x a cs t b,[v,.ref p]=[x,.ref a]/\(upd H p (.tup cvs)) a=some (.tup cs)/\cs.all eP=true/\vN K.K (upd H p (.tup cvs)) x t/\SM K.K t (cs.map gn)=some b/\Q (.bl b) (upd H p (.tup cvs))) (eA tab):=by
 intro c Y H Z B θ x v a q Q s E bd e1 L k;refine⟨hl,λp hp=>?_⟩;have h:Bd c Y (upd H p (.tup cvs)) Z (cq x v B) (cp x θ):=bd.new hp;have V:=Bd.rd h E e1;rw[s] at V;cases a<;>first|(cases L;done)|skip
 rename_i cn;unfold eA at L;simp only at L;cases e:tab cn with
 |none=>simp only[e] at L;cases L
 |some b=>
  simp only[e] at L;cases L;cases V with
  |exc A I=>obtain⟨x1,x2⟩:=j cn _ b e I;exact⟨_,p,cvs,_,b,rfl,aF,hc,.exc A x1,x2,k (.bl b) _ trivial (Bd.push h.drop λ_=>.bl b)⟩
section
variable{X:Cx}{E:XK}
theorem C9{x:Str}{tp:Pos}{tk:Nat}{es:List Expr}{m:Mi Rr}(G:Gl X x)(hm:X.mg x=none)(R:XX x=some (.builtin "isinstance"))(h2:PA X es (Qe cvs))(hc:cvs.all eP=true)(hl:cvs.length<=sizeLine)(j:∀c C k,tab c=some k->X.mg c=some (.ref C)->fL X.K C/\SM X.K (.ref C) (cvs.map gn)=some k)
  (ha:JE X E e m)(hn:x ≠ "__name__")(Z:eV x)(hs:XU [e,.Tuple es tk tp] X.env=(false,eval e X.env)::XU [.Tuple es tk tp] X.env):
  JE X E (.Call (.Name x p) [e,.Tuple es tk tp] [] pos) (bK (eA tab) m):=
 ⟨PE.weaken (gH wo G hm R (aR ha.p (aR (zf h2) cc rfl) hs) hn Z hs rfl) λY H Q h=>fJ (r:=λv H Q=>cvs.length<=sizeLine/\∀p,H p=none->∃x a cs t b,[v,.ref p]=[x,.ref a]/\(upd H p (.tup cvs)) a=some (.tup cs)/\cs.all eP=true/\vN (kx X).K (upd H p (.tup cvs)) x t/\SM (kx X).K t (cs.map gn)=some b/\Q (.bl b) (upd H p (.tup cvs))) (Cp (K:=kx X) hc hl j) Y H Q h⟩
end
end M
namespace L2
open PySem
theorem Kr{X:Cx}{t:Expr}{a b:List Stmt}{pos:Pos}{u:TT}{ta tb:TX}(j:PT X.Bz t u)(ha:NA X a ta)(f:NA X b tb):PX X (.If t a b pos) (λD E Y H=>u Y H λk S=>if k=true then ta D E Y S else tb D E Y S):=by
 intro pins s Y H D E I h;refine wpAny_If (Yd (j pins s Y H _ (I.kX _) h) (λd s1 z=>?_) λ_ _ z=>z.elim);obtain⟨S,U,T⟩:=TP.iL z;cases d with
 |true=>exact ha pins s1 Y S D E U (by simpa using T)
 |false=>exact f pins s1 Y S D E U (by simpa using T)
end L2
namespace M
open PySem L2
section
variable{X:Cx}{E:XK}
structure OW(X:Cx)(st:List Stmt)(m:Ms):Prop where
 p:NA X st (PM (kx X) m)
theorem uE{st:Stmt}{m:Ms}(h:JX X st m):OW X [st] m:=⟨vJ h.p⟩
theorem LM{t:Expr}{a b:List Stmt}{pos:Pos}{mt:Mi Bool}{ma mb:Ms}(j:JT X.Bz lK t mt)(ha:OW X a ma)(d:OW X b mb):JX X (.If t a b pos) (iq (gG mt) ma mb):=
 ⟨PX.weaken (Kr j.p ha.p d.p) λD Ex Y H h=>by
  obtain⟨c,Z,B,θ,f,O,s,b,em,q⟩:=h;rcases cP em with ⟨k,U,e1,e2⟩|⟨e,e1,e2⟩
  .obtain⟨x,h1,h2⟩:=ig e1;cases h1;refine⟨c,Z,B,θ.map Sl.fr,.ok k,U,s,b,h2,λS n=>?_⟩;cases k with
   |true=>rw[Zv rfl];exact⟨c,U,B,θ,f,O,s,n,e2,q⟩
   |false=>rw[Zw Z1];exact⟨c,U,B,θ,f,O,s,n,e2,q⟩
  .obtain⟨x,h1,_⟩:=ig e1;cases h1⟩
end
end M
namespace L2
open PySem PySem.Spec PyProof.Rows PySem.W
def M8(K:Q0):List V->Hp->VK->Prop:=λxs H Q=>∃(p:Addr)(ys:List V)(ns:List Int),xs=[.ref p]/\dI K H p ys/\ys=ns.map V.int/\Q (.int ns.sum) H
theorem preSum_eq(ns:List Int):∀n,n<=ns.length->preSum (λi=>ns.getD i 0) n=(ns.take n).sum
 |0,_=>by simp only[List.take_zero];rfl
 |n+1,h=>by rw[preSum,preSum_eq ns n (by exact Ru ‹_›),UX,WI,Sy,Ry (by assumption)];simp
theorem zj{X:Cx}(hc:X.calm=true):dE X (.builtin "sum") (M8 X.K):=by
 intro pins s Y H xs us Q I r h;obtain⟨p,ys,ns,rfl,O,rfl,q⟩:=h;obtain⟨u,rfl,w⟩:=vals1 r;cases w;obtain⟨l,r',pl,hz⟩:=I.list O;have E:=r'.length;refine call_sum_walkG (YG pl.isList ?_);refine⟨s.heap.objs.size,_,_,_,_,_,(λi=>ns.getD i 0),rfl,Xj (A:=X.A.in1) (I.ok.hd hc) _ p (by obtain⟨o,ho,_⟩:=pl.isList;exact RH (Rq ho)) l.toArray,⟨⟨_,RF _ rfl,rfl,rfl⟩,pl.isList.at λo e=>Rm _ e⟩,?_,λi v Z=>?_,λh' tk t' hk=>?_⟩
 .intro b d;simp only[Rc,R1,or_false] at d;rcases d with rfl|rfl
  .show _<(s.heap.push _).objs.size;rw[SV];exact RM _
  .obtain⟨o,ho,_⟩:=pl.isList;show _<(s.heap.push _).objs.size;rw[SV];exact Rw (Rq ho)
 .have c:l[i]?=some v:=by simpa using Z
  cases J:ns[i]? with
  |none=>
   have h1:=S3.mp J;have h2:=(Q4.mp c).1;rw[Q7] at E
   lia
  |some b=>obtain⟨u,B,C⟩:=r'.get (i:=i) (x:=.int b) (by simp only[RN,J];rfl);rw[c] at B;cases B;obtain⟨t,rfl⟩:=C;exact⟨t,by show Uc b t=Uc (ns.getD i 0) t;rw[Sy,J];rfl⟩
 .have e1:l.toArray.size=ns.length:=by simp at E ⊢;lia
  simp only [e1,preSum_eq ns ns.length (Q9 _),Wv];exact ⟨.int _,H,I.kept (t':=tk) fun b o e=>hk b o (fun z=>by have:=RC.mp z; subst this; exact absurd (Rq e) (RB _)) (Rm _ e),⟨t',rfl⟩,q⟩
end L2
namespace M
open PySem L2
noncomputable def kv:List A->Option (List Int)
 |[]=>some []
 | .int b::r=>match kv r with
  |some bs=>some (b::bs)
  |none=>none
 |_=>none
theorem qr:∀{xs:List A}{bs:List Int},kv xs=some bs->xs=bs.map A.int
 |[],bs,h=>by cases h;rfl
 |a::r,bs,h=>by
  cases a<;>first|(exact cu h)|skip
  unfold kv at h;cases e:kv r with
  |none=>simp only[e] at h;cases h
  |some cs=>rw[e] at h;cases h;rw[qr e];rfl
theorem kW:∀ns:List Int,kv (ns.map A.int)=some ns
 |[]=>rfl
 |n::ns=>by simp only[RO,kv,kW ns]
def mV:A->Option Rr
 | .lst xs=>match kv xs with
  |some bs=>some (.fr (.int bs.sum))
  |none=>none
 |_=>none
theorem uW{K:Kx}{G:Hp}:∀{bs:List Int}{vs:List V},bF K G vs (bs.map A.int)->vs=bs.map V.int
 |[],vs,h=>by cases h;rfl
 |b::bs,vs,h=>by
  cases h with
  |cons h1 h2=>cases h1;rw[uW h2];rfl
theorem FH{K:Kx}:rP K (λv=>M8 K.K [v]) mV:=.scalar λH v a q V h=>by
 cases a<;>first|(exact cu h)|skip
 rename_i xs;unfold mV at h;simp only at h;cases e:kv xs with
 |none=>rw[e] at h;cases h
 |some bs=>
  rw[e] at h;cases h;have:=qr e;subst this;cases V with
  |lst C b=>exact⟨_,_,rfl,λ_=>.int _,λQ k=>⟨_,_,bs,rfl,C,uW b,k⟩⟩
theorem Jj:XX "sum" = some (.builtin "sum"):=by decide +kernel
end M
set_option maxHeartbeats 4000000
namespace L2
open PySem PySem.Spec PyProof.Rows PySem.W
structure AW(h:Heap)(z TI TO i j l m:Addr)(k:Nat):Prop where
 hz:IsZip h z TI TO .none
 hi:IsPair h TI (.ref i) (.ref j)
 ho:∃a b,IsPair h TO a b
 h1:h.IsListIter i l k
 h2:h.IsListIter j m k
def MW(K:Q0)(a b:Addr):It:=
  ⟨λi H=>∃xs ys x y,dI K H a xs/\dI K H b ys/\xs[i]?=some x/\ys[i]?=some y,
   λi H v H'=>∃t x y,v=.ref t/\H t=none/\H'=upd H t (.tup [x,y])/\∀xs ys,dI K H a xs->dI K H b ys->xs[i]?=some x/\ys[i]?=some y,
   λi H=>∃xs ys,dI K H a xs/\dI K H b ys/\(xs[i]?=none\/ys[i]?=none)⟩
theorem vM{P:Program}{w:X1}{K:Q0}{es:List Expr}{kk:Nat}{tp:Pos}{z TI TO i j a b:Addr}(D:ZipApart z TI TO i j a b):
  Turn P w K (.Tuple es kk tp) (MW K a b) [z,TI,TO,i,j] z (λn h=>AW h z TI TO i j a b n) where
 mem:=by simp
 obj:=λn h Z c hc=>by
  obtain⟨hz,hi,⟨u,v,ho⟩,⟨R,e1,_,d1⟩,⟨o2,e2,_,d2⟩⟩:=Z;simp only[Rc,R1,or_false] at hc;rcases hc with rfl|rfl|rfl|rfl|rfl
  .exact⟨_,hz,λv q=>by cases q⟩
  .exact⟨_,hi,λv q=>by cases q⟩
  .exact⟨_,ho,λv q=>by cases q⟩
  .exact⟨_,e1,λv q=>by rw[d1] at q;cases q⟩
  .exact⟨_,e2,λv q=>by rw[d2] at q;cases q⟩
 keep:=λn h h' Z k=>by obtain⟨hz,hi,⟨u,v,ho⟩,⟨R,e1,V⟩,⟨o2,e2,G⟩⟩:=Z;exact⟨k _ Z3 _ hz,k _ Z3 _ hi,⟨u,v,k _ Z3 _ ho⟩,⟨R,k _ Z3 _ e1,V⟩,⟨o2,k _ Z3 _ e2,G⟩⟩
 item:=by
  intro X A S l hc n pins s Y H E I hf Z O;subst A S l;obtain⟨xs,ys,x,y,N,g,hx,hy⟩:=O;obtain⟨t,rv,p,_⟩:=I.list N;obtain⟨jts,C,p',_⟩:=I.list g;obtain⟨u,hu,ru⟩:=rv.get hx;obtain⟨v,hv,rv'⟩:=C.get hy;obtain⟨uo,vo,Q⟩:=Z.ho;refine wpAny_pyNext_zip_item D Z.hz Z.hi Q Z.h1 Z.h2 p.isList p'.isList (x:=u) (y:=v) (by simpa using hu) (by simpa using hv) λh' z1 z2 z3 z4 z5 z6 keep=>?_;refine⟨_,rfl,wpAny_letOwnedTupleGo_zip (s:={ s with heap:=h' }) z1 λh2 hz2 sb=>?_⟩;have ch:∀c∈[z,TO,i,j],c∈[z,TI,TO,i,j]:=λc hc=>by simp only[Rc,R1,or_false] at hc ⊢;rcases hc with e|e|e|e<;>simp[e]
  have k2:∀c o,c∉[z,TO,i,j]->s.heap.get? c=some o->h2.get? c=some o:=λc o hc e=>by simp only[Rc,R1,or_false,not_or] at hc;exact sb.extBut c o hc.1 (keep c o hc.1 hc.2.1 hc.2.2.1 hc.2.2.2 e)
  have f:∀c o,s.heap.get? c=some o->c≠s.heap.objs.size:=λc o e=>RH (Rq e);have B:∀c o,H c=some o->c∉[z,TO,i,j]:=λc o e hc=>by have:=(hf c (ch c hc)).1;rw[e] at this;cases this
  have hn:H s.heap.objs.size=none:=I.fresh;have nzT:s.heap.objs.size≠z:=(f _ _ Z.hz).symm;have I2:Inv X pins Y (upd H s.heap.objs.size (.tup [x,y])) { s with heap:=h2,gens:=s.gens,drawn:=s.drawn,toks:=s.toks }:=by
   refine I.step (ch:=[z,TO,i,j]) (λc hc=>?_) (λc o _ _ hc e _=>k2 c o hc e) (λc o _ _ hc e _=>⟨o.slots,k2 c o hc e⟩) (λc o _ e q=>by rw[aj (f c o e)];exact q) (λc o hc e=>⟨o,k2 c o hc e⟩)
    (λc q e=>by rw[aj (aH e hn)];exact e) (λc o q e=>by rw[aj (aH e hn)];exact e) (λc q e=>⟨#[],by rw[aj (aH e hn),e];simp⟩) (λm hm=>?_) (λc o e=>?_) I.bare
   .obtain⟨f0,f1,f2,f3,f4,f5⟩:=hf c (ch c hc);exact⟨f3,f1,f4,f5⟩
   .obtain⟨o,T,J,ho,r⟩:=hm;exact⟨o,T,J,k2 _ o (λhc=>(hf _ (ch _ hc)).2.1 rfl) ho,r⟩
   .by_cases hc:c=s.heap.objs.size
    .subst hc;rw[aF] at e;cases e;refine⟨(show 2<=sizeLine by decide),[u,v],.cons ru (.cons rv' .nil),?_⟩;exact⟨_,sb.extBut _ _ nzT z5,rfl,_,rfl,rfl⟩
    .rw[aj hc] at e;refine(I.hok c o e).gD (λd w hd q=>k2 d w ?_ q) (λd q=>by rw[aj (aH q hn)];exact q) λd q r=>by rw[aj (aH r hn)];exact r
     rcases hd with rfl|hd
     .exact B _ _ e
     .exact B _ _ hd
  have F:∀c o,c≠z->h'.get? c=some o->h2.get? c=some o:=λc o hc e=>sb.extBut c o hc e;have U:IsPair h' TI (.ref i) (.ref j):=keep _ _ D.TIz D.TITO D.TIi1 D.TIi2 Z.hi;obtain⟨R,e1,V⟩:=z3;obtain⟨o2,e2,G⟩:=z4;refine⟨.ref s.heap.objs.size,_,I2,rfl,⟨s.heap.objs.size,x,y,rfl,hn,rfl,λxs' ys' T J=>?_⟩,⟨hz2,F _ _ D.TIz U,⟨_,_,F _ _ D.TOz z2⟩,⟨R,F _ _ D.i1z e1,V⟩,⟨o2,F _ _ D.i2z e2,G⟩⟩,λc hc=>?_⟩
  .rw[I.gy T N,I.gy J g];exact⟨hx,hy⟩
  .rw[aj]
   .exact(hf c hc).1
   .rintro rfl;obtain⟨hz,hi,⟨u,v,ho⟩,⟨R,e1,_⟩,⟨o2,e2,_⟩⟩:=Z;simp only[Rc,R1,or_false] at hc;rcases hc with q|q|q|q|q
    .rw[<-q] at hz;exact f _ _ hz rfl
    .rw[<-q] at hi;exact f _ _ hi rfl
    .rw[<-q] at ho;exact f _ _ ho rfl
    .rw[<-q] at e1;exact f _ _ e1 rfl
    .rw[<-q] at e2;exact f _ _ e2 rfl
 done:=by
  intro X A S l hc n pins s Y H E I hf Z O;subst A S l;obtain⟨xs,ys,N,g,L⟩:=O;obtain⟨t,rv,p,_⟩:=I.list N;obtain⟨jts,C,p',_⟩:=I.list g;obtain⟨uo,vo,Q⟩:=Z.ho;have ch:∀c∈[z,TO,i,j],c∈[z,TI,TO,i,j]:=λc hc=>by simp only[Rc,R1,or_false] at hc ⊢;rcases hc with e|e|e|e<;>simp[e]
  refine wpAny_pyNext_zip_end (I.ok.hd hc) D Z.hz Z.hi Q Z.h1 Z.h2 p.isList p'.isList (L.imp (λq=>by simpa using rv.none_of q) (λq=>by simpa using C.none_of q)) λh' keep=>⟨rfl,?_⟩
  have k2:∀c o,c∉[z,TO,i,j]->s.heap.get? c=some o->h'.get? c=some o:=λc o hc e=>by simp only[Rc,R1,or_false,not_or] at hc;exact keep c o hc.1 hc.2.1 hc.2.2.1 hc.2.2.2 e
  have B:∀c o,H c=some o->c∉[z,TO,i,j]:=λc o e hc=>by have:=(hf c (ch c hc)).1;rw[e] at this;cases this
  refine I.step (g':=s.gens) (d':=s.drawn) (t':=s.toks) (ch:=[z,TO,i,j]) (λc hc=>?_) (λc o _ _ hc e _=>k2 c o hc e) (λc o _ _ hc e _=>⟨o.slots,k2 c o hc e⟩) (λc o _ e q=>q) (λc o hc e=>⟨o,k2 c o hc e⟩)
   (λc q e=>e) (λc o q e=>e) (λc q e=>⟨#[],by rw[e];simp⟩) (λm hm=>?_) (λc o e=>?_) I.bare
  .obtain⟨f0,f1,f2,f3,f4,f5⟩:=hf c (ch c hc);exact⟨f3,f1,f4,f5⟩
  .obtain⟨o,T,J,ho,r⟩:=hm;exact⟨o,T,J,k2 _ o (λhc=>(hf _ (ch _ hc)).2.1 rfl) ho,r⟩
  .refine(I.hok c o e).gD (λd w hd q=>k2 d w ?_ q) (λd q=>q) λd q r=>r;rcases hd with rfl|hd
   .exact B _ _ e
   .exact B _ _ hd
 self:=λ_ _ _ _ _ Z q=>wpAny_pyIter_zip Z.hz q
end L2
set_option maxHeartbeats 1000000
set_option maxHeartbeats 4000000
set_option maxHeartbeats 1000000
set_option maxHeartbeats 4000000
namespace L2
open PySem PySem.Spec PyProof.Rows PySem.W
section
variable{prog:Program}{w:X1}{A:X8}{E:Value->Shared->Prop}{s:Shared}
theorem set_same{a:Addr}{h h':Heap}{S:Key->Bool}{n:Nat}(x:h.SetOf (hJ prog w) a S n)(e:∀o,h.get? a=some o->h'.get? a=some o):h'.SetOf (hJ prog w) a S n:=let ⟨o,es,ep,t,ho,r⟩:=x;⟨o,es,ep,t,e _ ho,r⟩
end
end L2
set_option maxHeartbeats 1000000
set_option maxHeartbeats 4000000
set_option maxHeartbeats 1000000
namespace M
open PySem L2
section
variable{X:Cx}{E:XK}
open PySem.Spec PyProof.Rows PySem.W in
end
open PySem.W (KasT kas_asc kas_desc kas_rev kas_tail3 kas_descPart kas_count kas_place kas_bin kas_sort)
open PyProof.Rows (mirror_perm bubble_perm bubble)
section
variable{X:Cx}{E:XK}
open PySem.Spec PyProof.Rows PySem.W in
end
section
open PySem PyProof.Rows PySem.W
variable{f:Nat->Nat->Bool}{n:Nat}{r:Nat->Nat}
noncomputable def Ra(r:Nat->Nat)(p:Array Nat)(i:Nat):Nat:=r (p.getD i 0)
end
section
variable{X:Cx}{E:XK}{pins:List (Addr×Obj)}{Y:St}{H:Hp}{s:Shared}{a b:Addr}
open PySem.Spec PyProof.Rows PySem.W in
end
noncomputable def jl:List A->Option (List Int)
 |[]=>some []
 | .int i::r=>match jl r with
  |some is=>some (i::is)
  |none=>none
 |_::_=>none
theorem vi{K:Kx}{G:Hp}:∀{as:List A}{vs:List V}{is:List Int},bF K G vs as->jl as=some is->vs=is.map V.int
 |[],_,_,.nil,h=>by cases h;rfl
 |a::as,_,_,.cons q r,h=>by
  cases a<;>first|(exact cu h)|skip
  unfold jl at h;cases e:jl as with
  |none=>simp only[e] at h;cases h
  |some H=>rw[e] at h;cases h;cases q;rw[vi r e];rfl
noncomputable def yw:List Int->Int->Option Nat
 |[],_=>none
 |a::r,i=>if a=i then some 0 else (yw r i).map (·+1)
section
variable{X:Cx}{E:XK}
open PySem.Builtin PyProof.Rows PySem.W in
end
section
variable{X:Cx}{E:XK}{pins:List (Addr×Obj)}{Y:St}{H:Hp}{s:Shared}
open Classical in
variable{a b:Expr}{ma mb:Mi Rr}{pos:Pos}
end
variable{rs:List Rr}{O:List Sl}
section
variable{c:Cn}{Y:St}{H:Hp}{Z:List Sl}{B:St}{θ:List Sl}
def iI:Rr->List Sl->Option (Sl×List Sl)
 | .fr a,Z=>some (.fr a,Z)
 | .nw o,Z=>some (.lv o,Z)
 | .rf i,Z=>match Z[i]? with
  |some (.lv o)=>some (.lv o,Z.set i .un)
  |some (.pv o)=>some (.lv o,Z.set i .un)
  |some (.fr a)=>some (.fr a,Z)
  |_=>none
def d5:List Rr->List Sl->Option (List Sl×List Sl)
 |[],Z=>some ([],Z)
 |r::rs,Z=>match iI r Z with
  |some (a,U)=>match d5 rs U with
   |some (as,Z')=>some (a::as,Z')
   |none=>none
  |none=>none
theorem q5{r:Rr}{as:List Sl}(h:d5 (r::rs) Z=some (as,O)):∃a H U,iI r Z=some (a,U)/\d5 rs U=some (H,O)/\as=a::H:=by
 unfold d5 at h;cases e1:iI r Z with
 |none=>rw[e1] at h;cases h
 |some p=>
  obtain⟨a,U⟩:=p;rw[e1] at h;cases e2:d5 rs U with
  |none=>simp only[e2] at h;cases h
  |some q=>obtain⟨H,Z'⟩:=q;simp only[e2] at h;cases h;exact⟨a,H,U,rfl,e2,rfl⟩
theorem Bd.iI{r:Rr}{v:V}{a:Sl}{O:List Sl}{xs:St}{ss:List Sl}(e:xs.length=ss.length)(b:Bd c Y H Z (xs++cq r v B) (ss++cp r θ))(t:VR Y r v)(h:iI r Z=some (a,O)):Bd c Y H O (xs++some v::B) (ss++a::θ):=by
 cases r with
 |fr a'=>cases h;exact b
 |nw o=>cases h;exact b
 |rf i=>
  delta M.iI at h
  cases es:Z[i]? with
  |none=>simp only[es] at h;cases h
  |some s=>
   cases s with
   |un=>simp only[es] at h;cases h
   |cf _=>simp only[es] at h;cases h
   |fr a'=>simp only[es] at h;cases h;exact Bd.D6 e b t es
   |lv o=>simp only[es] at h;cases h;exact Bd.zX e b t es (.inl rfl)
   |pv o=>simp only[es] at h;cases h;exact Bd.zX e b t es (.inr rfl)
theorem Bd.d5:∀{rs:List Rr}{vs:List V}{as:List Sl}{Z O:List Sl}{B:St}{θ:List Sl},kz Y rs vs->Bd c Y H Z (cz rs vs B) (cB rs θ)->d5 rs Z=some (as,O)->Bd c Y H O (vs.reverse.map some++B) (as.reverse++θ)/\vs.length=as.length
 |[],[],_,_,_,_,_,_,b,h=>by cases h;exact⟨b,rfl⟩
 |r::rs,v::vs,_,Z,O,B,θ,hv,b,h=>by obtain⟨a,as,U,e1,e2,rfl⟩:=q5 h;have b:Bd c Y H Z (cz rs vs (cq r v B)) (cB rs (cp r θ)):=b;rw[cV,cW] at b;have n:=Bd.iI (kT rs vs (kz.len hv.2)) b hv.1 e1;rw[<-cV rs vs (some v::B),<-cW rs (a::θ)] at n;obtain⟨q,L⟩:=Bd.d5 hv.2 n e2;exact⟨by simpa using q,by simp[L]⟩
 |[],_::_,_,_,_,_,_,h,_,_=>h.elim
 |_::_,[],_,_,_,_,_,h,_,_=>h.elim
end
def d6(f:Ms)(I:List A)(ma:Mi (List Rr)):Mi Rr:=aO ma λrs Z=>match d5 (rs++I.map Rr.fr) Z with
 |some (as,S)=>match f (as.map mX) with
  |some (.rt s,T)=>match jm s,putL Z (rs++I.map Rr.fr) (ax as.length T) S with
   |some r,some O=>some (.ok r,O)
   |_,_=>none
  |some (.ex x,T)=>match putL Z (rs++I.map Rr.fr) (ax as.length T) S with
   |some O=>some (.error x,O)
   |none=>none
  |_=>none
 |none=>none
variable{dvs vs:List V}{Y B:St}{H:Hp}{Q:VK}{c:Cn}{Z θ:List Sl}{o:Except Str Rr}{pos:Pos}{ma:Mi (List Rr)}
section
variable{X:Cx}{E:XK}
theorem so{m:Ms}{n:Nat}{I:List A}(hd:∀G,bF (kx X) G dvs I)(e:c.toKx=kx X)(hn:(vs++dvs).length=n)
  (t:kz Y rs vs)(b:Bd c Y H Z (cz rs vs B) (cB rs θ)) (em:(match d5 (rs++I.map Rr.fr) Z with
 |some (as,S)=>match m (as.map mX) with
  |some (.rt s,T)=>match jm s,putL Z (rs++I.map Rr.fr) (ax as.length T) S with
   |some r,some O=>some (.ok r,O)
   |_,_=>none
  |some (.ex x,T)=>match putL Z (rs++I.map Rr.fr) (ax as.length T) S with
   |some O=>some (.error x,O)
   |none=>none
  |_=>none
 | none=>none)=some (o,O)) (N:∀r,o=.ok r->∀v H',VR Y r v->Bd c Y H' O (cq r v B) (cp r θ)->Q v H') (J:∀x,o=.error x->∀C H',X.mg x=some (.ref C)->Bd c Y H' O B θ->E (.ref C) none H'):fY (kx X) n m (vs++dvs) H Q E:=by
 refine⟨hn,?_⟩;cases e1:d5 (rs++I.map Rr.fr) Z with
 |none=>rw[e1] at em;cases em
 |some p=>
  obtain⟨as,S⟩:=p;rw[e1] at em;have ld:=(hd λ_=>none).len.symm;have h:=t.app (kz.dG ld);have R:Bd c Y H Z (cz (rs++I.map Rr.fr) (vs++dvs) B) (cB (rs++I.map Rr.fr) θ):=by rw[jt _ _ _ t.len,gX];exact Bd.pT (by rw[e];exact hd) b
  obtain⟨F,D⟩:=Bd.d5 h R e1;obtain⟨w,k1,k2,k3,k,k5⟩:=Bd.enter D F;have kp:eu c.σ0 Y Z:=by obtain⟨L,b⟩:=b;exact b.kp
  cases j:m (as.map mX) with
  |none=>simp only[j] at em;cases em
  |some p=>
   obtain⟨f,T⟩:=p;simp only[j] at em;refine⟨w,_,f,T,k1.trans e,k2,k3,k,j,?_⟩;cases f with
   |nx=>cases em
   |bk=>cases em
   |ct=>cases em
   |rt s=>
    cases i:jm s with
    |none=>simp only[i] at em;cases em
    |some r=>
     cases g:putL Z (rs++I.map Rr.fr) (ax as.length T) S with
     |none=>simp only[i,g] at em;cases em
     |some Z'=>
      simp only[i,g] at em;cases em;intro v H' hs K;have q:=k5 H' _ _ _ (λs' y o z=>by rw[RC.mp y] at z;exact hs o z) (bC _ _) K;rw[D] at q;have P:=Bd.putL kp h q g;cases s with
      |fr a=>cases i;exact N _ rfl v H' trivial P
      |lv o=>cases i;exact N _ rfl v H' trivial P
      |_=>exact cu i
   |ex x=>
    cases g:putL Z (rs++I.map Rr.fr) (ax as.length T) S with
    |none=>simp only[g] at em;cases em
    |some Z'=>simp only[g] at em;cases em;intro C H' hm K;have q:=k5 H' _ _ _ (λs' y=>by cases y) (bC _ _) K;rw[D] at q;exact J x rfl C H' hm (Bd.putL kp h q g)
theorem xw{CX:rO}{k n:Nat}{f:Addr}{fd:X9}{ps:List Str}{m:Ms}{I:List A}{ds:List Value}{x:Str}{p:Pos}{e:Expr}{es:List Expr}(F:c9 X.prog X.w X.K X.mg X.base CX k f fd ps (fY (kx X) n m))(hr:cF k X.A)(hg:Gl X x)
  (hm:X.mg x=some (.ref f))(hk:Sa X.K (.ref f)=true)(hb:Binds X.K fd ps ds)(hd:Vals dvs ds)(hda:∀G,bF (kx X) G dvs I)(hx:Passes CX X E)(ha:JA X E (e::es) ma)(hn:∀Z rs O,ma Z=some (.ok rs,O)->rs.length+I.length=n)(hdb:eV x)
  (he:XU (e::es) X.env=(false,eval e X.env)::XU es X.env:=by rfl)(hpl:(X4 pos (XU es X.env)).any (·.1)=false:=by rfl):JE X E (.Call (.Name x p) (e::es) [] pos) (d6 m I ma):=
 ⟨PE.weaken (uC F hr hg hm hk hb hd hx ha.p hdb he hpl) λY H Q h=>by
  obtain⟨c,Z,B,θ,o,O,ek,b,em,q⟩:=h;rcases bind_some em with ⟨rs,U,e1,e2⟩|⟨e,e1,e2⟩
  .refine⟨c,Z,B,θ,_,U,ek,b,e1,λvs H1 hv b1=>?_⟩;refine so hda ek ?_ hv b1 e2 (λr hr v H' hv b=>by subst hr;exact q v H' hv b) (λx hx=>by subst hx;exact q);rw[Rn,<-hv.len,<-hn Z rs U e1,(hda λ_=>none).len]
  .subst e2;exact⟨c,Z,B,θ,_,O,ek,b,e1,λC H1 hm b1=>q C H1 hm b1⟩⟩
end
section
open PySem PyProof.Rows PySem.W
open SetTable in
noncomputable def aw(m:Nat)(p:Probe):Probe:=if p.more > 0 then { p with j:=p.j+1,more:=p.more-1 } else { p with j:=(leap m p.i p.perturb).1,more:=runEnd m (leap m p.i p.perturb).1-(leap m p.i p.perturb).1,i:=(leap m p.i p.perturb).1,perturb:=(leap m p.i p.perturb).2 }
open SetTable in
open SetTable in
def sp(m:Nat)(h:Int):Nat->Probe
 |0=>{ j:=bits h%(m+1),more:=runEnd m (bits h%(m+1))-bits h%(m+1),i:=bits h%(m+1),perturb:=bits h,dummy:=none }
 |n+1=>aw m (sp m h n)
open SetTable in
def nl(m:Nat)(h:Int)(N:Nat):Nat:=N+(sp m h N).more+1
end
theorem iJ{α:Type}{f:Str}:∀{vs ws:List (Str×α)}{u:α},vs.lookup f=some u->(vs++ws).lookup f=some u
 |[],_,_,h=>nomatch h
 |(y,v)::vs,ws,u,h=>by
  simp only[Rk] at h;simp only[S2,Rk];split at h
  .exact h
  .exact iJ h
theorem km{α:Type}{f:Str}:∀{vs ws:List (Str×α)},vs.lookup f=none->ws.lookup f=none->(vs++ws).lookup f=none
 |[],_,_,h=>h
 |(y,v)::vs,ws,h,h'=>by
  simp only[Rk] at h;simp only[S2,Rk];split at h
  .cases h
  .exact km h h'
theorem kA{α:Type}{f:Str}:∀{vs ws:List (Str×α)}{u:α},vs.lookup f=none->ws.lookup f=some u->(vs++ws).lookup f=some u
 |[],_,_,_,h=>h
 |(y,v)::vs,ws,u,h,h'=>by
  simp only[Rk] at h;simp only[S2,Rk];split at h
  .cases h
  .exact kA h h'
theorem eF.none{k:Kx}{G H:Hp}{f:Str}:∀{ws:List (Str×V)}{ls:List (Str×List A)}{q:List Addr},eF k G H ws ls q->ls.lookup f=none->ws.lookup f=none
 |_,_,_,.nil,_=>rfl
 |_,_,_,.cons (y:=y) e r t,h=>by
  simp only[Rk] at h ⊢;split at h
  .cases h
  .exact eF.none t h
theorem eF.get{k:Kx}{G H:Hp}{f:Str}{xs:List A}:∀{ws:List (Str×V)}{ls:List (Str×List A)}{q:List Addr},eF k G H ws ls q->ls.lookup f=some xs->∃a us,ws.lookup f=some (.ref a)/\a∈q/\H a=some (.lst us)/\bF k G us xs
 |_,_,_,.nil,h=>nomatch h
 |_,_,_,.cons (y:=y) (a:=a) (us:=us) e r t,h=>by
  rw[Rk] at h;rw[Rk];split at h
  .cases h;exact⟨a,us,rfl,Rg,e,r⟩
  .obtain⟨a,us,h1,h2,h3,h4⟩:=eF.get t h;exact⟨a,us,h1,Q5 _ h2,h3,h4⟩
noncomputable def iz(f:Str)(xs:List A):List (Str×List A)->List (Str×List A)
 |[]=>[]
 |(y,zs)::r=>if f==y then (y,xs)::r else (y,zs)::iz f xs r
theorem eF.put{k:Kx}{G H H':Hp}{f:Str}{xs Y:List A}{a:Addr}{v:List V}:∀{ws:List (Str×V)}{ls:List (Str×List A)}{q:List Addr},eF k G H ws ls q->q.Nodup->ls.lookup f=some xs->ws.lookup f=some (.ref a)->H' a=some (.lst v)->(∀b∈q,b≠a->H' b=H b)->bF k G v Y->eF k G H' ws (iz f Y ls) q
 |_,_,_,.nil,_,h,_,_,_,_=>nomatch h
 |_,_,_,.cons (y:=y) (a:=b) e r t,nd,h,h2,h3,sm,ra=>by
  simp only[Rk] at h h2;unfold iz;have nd:=RD.mp nd;cases hc:f==y with
  |true=>simp only[hc] at h2;cases h2;rw[Zv rfl];exact .cons h3 ra (t.sm (Sq.refl _) λc hc u e=>by rw[sm c (Q5 _ hc) λz=>nd.1 (z▸hc)];exact e)
  |false=>simp only[hc] at h h2;rw[Zw Z1];obtain⟨a',us,E,F,-,-⟩:=eF.get t h;have h2:_=some (V.ref a):=h2;rw[E] at h2;cases h2;refine .cons ?_ r (eF.put t nd.2 h E h3 (λc hc=>sm c (Q5 _ hc)) ra);rw[sm b Rg λz=>nd.1 (z▸F)];exact e
variable{i:Nat}{f cn:Str}
section
variable{X:Cx}{E:XK}
def aW(cs:List Str)(i:Nat)(f:Str):Mi Rr:=λZ=>match aD Z i with
 | some (.nob c fs _)=>if cs.contains c then (match fs.lookup f with
  |some a=>some (.ok (.fr a),Z)
  | none=>none) else none
 |_=>none
theorem A5{x:Str}{cs:List Str}{z:Pos}(hN:X.N[i]?=some x)(t:mL X.env.scope x)(hd:eV x)(R:pE x)(hc:∀c C,cs.contains c=true->X.mg c=some (.ref C)->i5 X.K C/\cG X.K C f)
  (d:X7 (.Name x z) f X.env (eval (.Name x z) X.env)=eval (.Name x z) X.env):JE X E (.Attribute (.Name x z) f pos) (aW cs i f):=
 ⟨PE.weaken (jV (bW hN t hd R) d) λY H Q h=>by
  obtain⟨c,Z,B,θ,o,O,s,b,em,q⟩:=h;unfold aW at em;cases A:aD Z i with
  |none=>rw[A] at em;cases em
  |some lo=>
   cases lo with
   |lst _=>simp only[A] at em;cases em
   |dic _=>simp only[A] at em;cases em
   |obj _ _=>simp only[A] at em;cases em
   |dit _=>simp only[A] at em;cases em
   |nob cn fs ls=>
    simp only[A] at em;split at em
    .rename_i D;cases e2:fs.lookup f with
     |none=>simp only[e2] at em;cases em
     |some a=>
      simp only[e2] at em;cases em;obtain⟨L,bl⟩:=b;obtain⟨p,_,h1,h2,v⟩:=bl.live A (.nob cn fs ls) (.lst []);clear v;cases h2 with
      |nob e m r l=>
       rename_i C dx vs ws;have T:X.mg cn=some (.ref C):=by have:=Zz (λk:Kx=>k.mg cn) s;simp only at this;rw[<-this];exact m
       obtain⟨U,P⟩:=hc cn C D T;rcases r.get f with ⟨u,a',y,F,G⟩|⟨_,F⟩
       .rw[e2] at F;cases F;exact⟨_,h1,p,C,dx,vs++ws,u,rfl,e,U,P,iJ y,q u H trivial (bl.push G)⟩
       .rw[e2] at F;cases F
    .cases em⟩
def bD(cn m:Str)(i:Nat):Mi Rr:=λZ=>match aD Z i with
 |some (.nob c fs ls)=>if c==cn&&(fs.lookup m).isNone&&(ls.lookup m).isNone then some (.ok (.rf i),Z) else none
 |_=>none
theorem iU{m:Str}(h:bD cn m i Z=some (o,O)):∃fs ls,aD Z i=some (.nob cn fs ls)/\fs.lookup m=none/\ls.lookup m=none/\o=.ok (.rf i)/\O=Z:=by
 unfold bD at h;split at h
 .rename_i c fs ls e;split at h
  .rename_i hc;rw[QZ,QZ,ZA,R3,R3] at hc;cases h;exact⟨fs,ls,by rw[e,hc.1.1],hc.1.2,hc.2,rfl,rfl⟩
  .cases h
 .cases h
theorem mE{m:Ms}{n:Nat}{mn:Str}{C:Addr}{I:List A}(hd:∀G,bF (kx X) G dvs I)(t:X.mg cn=some (.ref C))(hn:∀Z rs O,ma Z=some (.ok rs,O)->rs.length+1+I.length=n)(Y:St)(H:Hp)(Q:VK)(h:kF (kx X) E (bj m I (cA (bD cn mn i) ma)) Y H Q):
  u4 C mn (fY (kx X) n m) dvs E (mW i) (Kd (kx X) E ma) Y H Q:=by
 obtain⟨c,Z,B,θ,o,O,s,b,em,q⟩:=h;have w:∀{fs:List (Str×A)}{ls:List (Str×List A)},aD Z i=some (.nob cn fs ls)->fs.lookup mn=none->ls.lookup mn=none->∃p dx vs,Y[i]?=some (some (.ref p))/\H p=some (.ins C dx vs)/\vs.lookup mn=none:=λf F N=>by
  obtain⟨L,bl⟩:=b;obtain⟨p,_,h1,h2,a⟩:=bl.live f (.lst []) (.lst []);clear a;cases h2 with
  |nob e d r l=>
   rename_i C' dx vs ws;have K:X.mg cn=some (.ref C'):=by have:=Zz (λk:Kx=>k.mg cn) s;simp only at this;rw[<-this];exact d
   rw[t] at K;cases K;refine⟨p,dx,vs++ws,h1,e,km ?_ (l.none N)⟩;rcases r.get mn with ⟨_,_,_,z,_⟩|⟨z,_⟩
   .rw[F] at z;cases z
   .exact z
 have fin:∀e,o=.error e->∀C H,X.mg e=some (.ref C)->Bd c Y H O B θ->E (.ref C) none H:=bB q;rcases bind_some em with ⟨rs,U,e1,e2⟩|⟨e,e1,e2⟩
 .rcases bind_some e1 with ⟨r,Z',T,j⟩|⟨y,T,j⟩
  .obtain⟨fs,ls,f,F,N,P,J⟩:=iU T;cases P;subst J;rcases bind_some j with ⟨rs',S,R,D⟩|⟨y,R,D⟩
   .cases D;obtain⟨p,dx,vs,hp,h2,hl⟩:=w f F N;refine⟨.ref p,hp,p,dx,vs,rfl,h2,hl,c,_,_,_,_,_,s,b,R,λws V g u=>?_⟩;refine ir (rs:=.rf i::rs') (vs:=.ref p::ws) hd s ?_ ⟨hp,g⟩ u e2 (λr hr v H' hv b=>by subst hr;exact q v H' hv b) (λx hx=>by subst hx;exact q);simp only[S2,Rb,Rn,<-g.len,<-hn _ _ _ R,(hd λ_=>none).len];lia
   .cases D
  .cases j
 .rcases bind_some e1 with ⟨r,Z',T,j⟩|⟨y,T,j⟩
  .obtain⟨fs,ls,f,F,N,P,J⟩:=iU T;cases P;subst J;rcases bind_some j with ⟨rs',S,R,D⟩|⟨y,R,D⟩
   .cases D
   .cases D;obtain⟨p,dx,vs,hp,h2,hl⟩:=w f F N;exact⟨.ref p,hp,p,dx,vs,rfl,h2,hl,c,_,_,_,_,_,s,b,R,λC V hm u=>fin _ e2 C V hm u⟩
  .obtain⟨_,_,_,_,_,P,_⟩:=iU T;cases P
end
section
variable{X:Cx}{E:XK}{CX:rO}{k n i:Nat}{f C:Addr}{fd:X9}{ps:List Str}{m:Ms}{I:List A}{dvs:List V}{ds:List Value}{cn mn x:Str}{px apos pos:Pos}{e:Expr}{es:List Expr}{ma:Mi (List Rr)}
theorem qE(t:X.mg cn=some (.ref C))(hc:i5 X.K C)(hm:Meth X.K C mn f)(F:c9 X.prog X.w X.K X.mg X.base CX k f fd ps (fY (kx X) n m))(hr:cF k X.A)(d:Binds X.K fd ps ds)(hd:Vals dvs ds)(c:∀G,bF (kx X) G dvs I)(hx:Passes CX X E)
  (hN:X.N[i]?=some x)(h:mL X.env.scope x)(v:eV x)(R:pE x)(ha:JA X E (e::es) ma)(hn:∀Z rs O,ma Z=some (.ok rs,O)->rs.length+1+I.length=n)(H:X7 (.Name x px) mn X.env (eval (.Name x px) X.env)=eval (.Name x px) X.env)
  (b:Yv ((e::es).length+([]:List Ym).length) (X4 pos (XU (e::es) X.env)) (Yl pos (Yb [] X.env))=true)(Y:(apos.endLine==pos.line)=true)
  (o:XU (e::es) X.env=(false,eval e X.env)::XU es X.env)(q:(X4 pos (XU es X.env)).any (·.1)=false):JE X E (.Call (.Attribute (.Name x px) mn apos) (e::es) [] pos) (bj m I (cA (bD cn mn i) ma)):=
 ⟨PE.weaken (vx (bW hN h v R) hc hm F hr d hd hx ha.p o q (g9 H b Y)) (mE c t hn)⟩
theorem n9(t:X.mg cn=some (.ref C))(hc:i5 X.K C)(hm:Meth X.K C mn f)(F:c9 X.prog X.w X.K X.mg X.base CX k f fd ps (fY (kx X) n m))(hr:cF k X.A)(d:Binds X.K fd ps ds)(hd:Vals dvs ds)(z:∀G,bF (kx X) G dvs I)(hx:Passes CX X E)
  (hN:X.N[i]?=some x)(L:mL X.env.scope x)(U:eV x)(R:pE x)(hn:1+I.length=n)(p:X7 (.Name x px) mn X.env (eval (.Name x px) X.env)=eval (.Name x px) X.env)(D:(apos.endLine==pos.line)=true):JE X E (.Call (.Attribute (.Name x px) mn apos) [] [] pos) (bj m I (cA (bD cn mn i) dy)):=
 ⟨PE.weaken (rj (bW hN L U R) hc hm F hr d hd hx (g9 p rfl D)) λY H Q h=>by obtain⟨v,h0,a,dx,fs,y,P,g,j⟩:=mE (X:=X) (E:=E) (C:=C) (n:=n) z t (ma:=dy) (λZ rs O q=>by cases q;rw[<-hn];rfl) Y H Q h;refine⟨v,h0,a,dx,fs,y,P,g,?_⟩;obtain⟨c,Z,B,θ,o,O,e,b,em,q⟩:=j;cases em;exact q [] H trivial b⟩
end
section
variable{c:Cn}{Y:St}{H:Hp}{Z:List Sl}{B:St}{θ:List Sl}
theorem Bd.give{a:Addr}{xs:List A}{fs:List (Str×A)}(b:Bd c Y H Z (some (.ref a)::B) (.lv (.lst xs)::θ))(v:aD Z i=some (.obj cn fs)):
  ∃p C dx vs,Y[i]?=some (some (.ref p))/\H p=some (.ins C dx vs)/\c.mg cn=some (.ref C)/\vs.length=fs.length/\(fs.lookup f=none->vs.lookup f=none)/\Bd c Y (upd H p (.ins C dx (vs++[(f,.ref a)]))) (setAt Z i (.nob cn fs [(f,xs)])) B θ:=by
 obtain⟨L,b⟩:=b;have rel:av c.toKx (c.g H L) H (some (.ref a)::(B++Y)) (.lv (.lst xs)::(θ++Z)) L:=b.rel;have lt:B.length=θ.length:=by simpa using b.lt
 cases rel with
 |cons h r=>
  rename_i La L';cases h with
  |lv P=>
   cases P with
   |lst ea ra=>
    rename_i us;have nd:a∉L'/\L'.Nodup:=RD.mp b.nd;obtain⟨I,L2,e1,r1,r2⟩:=av.split lt r;have key:∀(s t:Sl)(o:LO),Z[i]?=some s->(s=.lv (.obj cn fs)/\t=.lv (.nob cn fs [(f,xs)])\/s=.pv (.obj cn fs)/\t=.pv (.nob cn fs [(f,xs)]))->setAt Z i (.nob cn fs [(f,xs)])=Z.set i t->
      ∃p C dx vs,Y[i]?=some (some (.ref p))/\H p=some (.ins C dx vs)/\c.mg cn=some (.ref C)/\vs.length=fs.length/\(fs.lookup f=none->vs.lookup f=none)/\Bd c Y (upd H p (.ins C dx (vs++[(f,.ref a)]))) (setAt Z i (.nob cn fs [(f,xs)])) B θ:=by
     intro s t _ es F Q;obtain⟨x,M1,M2,X,hx,hs,e2,ins⟩:=r2.at es;have E:∀p,x=some (.ref p)->M2=[p]->LR c.toKx (c.g H (a::L')) H p (.obj cn fs) []->(∀G H' ,LR c.toKx G H' p (.nob cn fs [(f,xs)]) [a]->d9 c.toKx G H' (some (.ref p)) t [p,a])->
       ∃p C dx vs,Y[i]?=some (some (.ref p))/\H p=some (.ins C dx vs)/\c.mg cn=some (.ref C)/\vs.length=fs.length/\(fs.lookup f=none->vs.lookup f=none)/\Bd c Y (upd H p (.ins C dx (vs++[(f,.ref a)]))) (setAt Z i (.nob cn fs [(f,xs)])) B θ:=by
      intro p ex l P mk;subst ex l;cases P with
      |obj e m V=>
       rename_i C dx vs;have T:p≠a:=λz=>nd.1 (by rw[e1,e2,<-z];simp);have K:∀b,b∈I++(M1++[p,a]++X)↔b∈a::L':=λb=>by
        rw[e1,e2];simp only[Rf,Rc,RC,R1,or_false];constructor
        .rintro(h|(h|h|h)|h)<;>simp[h]
        .rintro(h|h|(h|h)|h)<;>simp[h]
       have hg:∀H',c.g H' (I++(M1++[p,a]++X))=c.g H' (a::L'):=λH'=>D5 K;have S:p∈a::L':=by rw[e1,e2];simp
       have J:c.g (upd H p (.ins C dx (vs++[(f,.ref a)]))) (a::L')=c.g H (a::L'):=by
        funext z
        by_cases k:z∈a::L'\/z∈c.Hd
        .rw[gf k,gf k]
        .rw[bf (λy=>k (.inl y)) (λy=>k (.inr y)),bf (λy=>k (.inl y)) (λy=>k (.inr y)),aj (λ(y:z=p)=>k (.inl (by rw[y];exact S)))]
       have n:∀b∈I++(M1++X),b≠p:=λb d z=>by
        have U:=nd.2;rw[e1,e2] at U;subst z;obtain⟨n1,n2,n3⟩:=Rj.mp U;rcases Rf.mp d with z|z
        .exact n3 _ z _ Z3 rfl
        .obtain⟨m1,m2⟩:=iT n2;exact m2 b Z3 z
       have keep:∀b∈I++(M1++X),∀u,H b=some u->upd H p (.ins C dx (vs++[(f,.ref a)])) b=some u:=λb d u e=>by rw[aj (n b d)];exact e
       refine⟨p,C,dx,vs,hx,e,m,V.len,(λz=>by
        rcases V.get f with ⟨_,_,_,y,_⟩|⟨y,_⟩
        .rw[z] at y;cases y
        .exact y),I++(M1++[p,a]++X),?_,?_,λz hz=>b.own z ((K z).mp hz),?_,?_,lt,b.hd⟩
       .have pm:(I++(M1++[p,a]++X)).Perm (a::L'):=by
         rw[e1,e2];have q1:(M1++[p,a]++X).Perm (a::(M1++[p]++X)):=by
          have:M1++[p,a]++X=(M1++[p])++(a::X):=by simp
          rw[this];exact Ss
         exact(List.Perm.append_left I q1).trans Ss
        exact pm.nodup_iff.mpr b.nd
       .rw[hg,J,Q];have i1:=ins (G':=c.g H (a::L')) (H':=upd H p (.ins C dx (vs++[(f,.ref a)]))) (y:=some (.ref p)) (t:=t) (L':=[p,a]) (Sq.refl _) (λb d=>keep b (Q2 _ d)) (mk _ _ (.nob (by rw[aF]) m V (.cons (by rw[aj T.symm];exact ea) ra .nil)));have R:Y.set i (some (.ref p))=Y:=by
         apply SI;intro j;by_cases D:i=j
         .subst D;rw[Rl (Q4.mp hx).1,hx]
         .rw[Rx D]
        rw[R] at i1;exact(r1.sm (Sq.refl _) λb d=>keep b (Q8 _ d)).app i1
       .refine⟨λz o O=>?_,λw hw=>?_⟩
        .obtain⟨u,u1,u2⟩:=b.fr.st z o O;by_cases hz:z=p
         .subst hz;refine⟨_,aF,λna _=>?_⟩;rcases b.own z S with y|y
          .exact absurd y na
          .rw[y] at O;cases O
         .exact⟨u,by rw[aj hz];exact u1,u2⟩
        .obtain⟨k1,k2,k3⟩:=b.fr.pk w hw;refine⟨?_,k2,k3⟩;rw[aj λz=>?_]
         .exact k1
         .obtain⟨ob,us',k2⟩:=k2;rw[z,e] at k1;rw[k2] at k1;cases k1
       .rw[Q];intro j o D w;by_cases N:i=j
        .subst N;rw[Rl (Q4.mp es).1] at D;rcases F with ⟨_,rfl⟩|⟨rfl,rfl⟩
         .cases D;cases w
         .exact b.kp i _ es rfl
        .rw[Rx N] at D;exact b.kp j o D w
     rcases F with ⟨rfl,rfl⟩|⟨rfl,rfl⟩
     .cases hs with
      |lv h=>
       rename_i p q;have:q=[]:=by cases h;rfl
       subst this;exact E p rfl rfl h λG H' h=>.lv h
     .cases hs with
      |pv h=>
       rename_i p q;have:q=[]:=by cases h;rfl
       subst this;exact E p rfl rfl h λG H' h=>.pv h
    unfold aD at v;cases es:Z[i]? with
    |none=>simp only[es] at v;cases v
    |some s=>
     cases s with
     |un=>simp only[es] at v;cases v
     |cf _=>simp only[es] at v;cases v
     |fr a=>simp only[es] at v;cases v
     |lv o1=>simp only[es] at v;cases v;exact key _ _ (.obj cn fs) es (.inl ⟨rfl,rfl⟩) (by unfold setAt;simp only[es])
     |pv o1=>simp only[es] at v;cases v;exact key _ _ (.obj cn fs) es (.inr ⟨rfl,rfl⟩) (by unfold setAt;simp only[es])
end
section
variable{X:Cx}{E:XK}
theorem qG(f:Str)(v:V):∀{fs:List (Str×V)},fs.lookup f=none->dP f v fs=fs++[(f,v)]
 |[],_=>rfl
 |(g,x)::r,h=>by
  simp only[Rk] at h;unfold dP;split at h
  .cases h
  .rename_i hc;have:¬ g=f:=λz=>by rw[z] at hc;simp at hc
   rw[Zw this,qG f v h];rfl
theorem Bd.sA{v:V}{o:LO}(b:Bd c Y H Z (some v::B) (.lv o::θ)):∃a,v=.ref a:=by
 obtain⟨L,b⟩:=b;have rel:av c.toKx (c.g H L) H (some v::(B++Y)) (.lv o::(θ++Z)) L:=b.rel;cases rel with
 |cons h r=>cases h with
  |lv h=>exact⟨_,rfl⟩
end
mutual
noncomputable def pl:A->Bool
 | .tup xs=>CS xs
 | .lst _=>false
 | .dic _=>false
 | .dit _=>false
 | .obj _ _=>false
 | .exc _=>false
 |_=>true
noncomputable def CS:List A->Bool
 |[]=>true
 |a::r=>pl a&&CS r
end
def NM:LO->Bool
 | .lst xs=>CS xs
 |_=>false
def xk:Sl->Bool
 | .fr a=>pl a
 | .cf a=>pl a
 | .lv o=>NM o
 | .pv o=>NM o
 | .un=>true
def Tq(G G':Hp):Prop:=∀a u,G a=some u->(∀ws,u≠.lst ws)->(∀C dx fs,u≠.ins C dx fs)->G' a=some u
section
variable{k:Kx}{G G' H:Hp}
theorem ID{p:Addr}(s:Tq G G')(q:i4 k.K G p vs):i4 k.K G' p vs:=q.imp (λr=>by
 rcases r with r|⟨o,r⟩
 .exact .inl (s _ _ r (λws z=>by cases z) λC dx fs z=>by cases z)
 .exact .inr ⟨o,s _ _ r (λws z=>by cases z) λC dx fs z=>by cases z⟩) id
mutual
theorem RA.pl(s:Tq G G'):∀{v:V}{a:A},RA k G v a->M.pl a=true->RA k G' v a
 |_,_,.non,_=>.non
 |_,_,.bl b,_=>.bl b
 |_,_,.int i,_=>.int i
 |_,_,.str x,_=>.str x
 |_,_,.tup e r,h=>.tup (ID s e) (bF.pl s r (by rw[M.pl] at h;exact h))
 |_,_,.lst e r,h=>by rw[M.pl] at h;cases h
 |_,_,.dic e r,h=>by rw[M.pl] at h;cases h
 |_,_,.exc e m,h=>by rw[M.pl] at h;cases h
 |_,_,.obj e m r,h=>by rw[M.pl] at h;cases h
 |_,_,.dit e r,h=>by rw[M.pl] at h;cases h
 |_,_,.opq,_=>.opq
theorem bF.pl(s:Tq G G'):∀{vs:List V}{as:List A},bF k G vs as->CS as=true->bF k G' vs as
 |_,_,.nil,_=>.nil
 |_,_,.cons h r,e=>by rw[CS,QZ] at e;exact .cons (RA.pl s h e.1) (bF.pl s r e.2)
end
theorem LR.pl{p:Addr}{o:LO}{q:List Addr}(s:Tq G G')(h:LR k G H p o q)(e:NM o=true):LR k G' H p o q:=by
 cases h with
 |nob=>cases e
 |lst x r=>exact .lst x (r.pl s e)
 |dic x r=>cases e
 |obj x m r=>cases e
 |dit x r=>cases e
theorem d9.pl{x:Option V}{t:Sl}{L:List Addr}(s:Tq G G')(h:d9 k G H x t L)(e:xk t=true):d9 k G' H x t L:=by
 cases h with
 |un=>exact .un _
 |fr h=>exact .fr (h.pl s e)
 |cf h=>exact .cf (h.pl s e)
 |lv h=>exact .lv (h.pl s e)
 |pv h=>exact .pv (h.pl s e)
theorem eF.kind{ws:List (Str×V)}{ls:List (Str×List A)}{q:List Addr}(h:eF k G H ws ls q):∀a∈q,∃us,H a=some (.lst us):=by
 induction h with
 |nil=>intro a ha;cases ha
 |cons e r t l=>intro b d;rcases Rc.mp d with rfl|d;exact⟨_,e⟩;exact l b d
theorem LR.kind{p:Addr}{cn:Str}{fs:List (Str×A)}{ls:List (Str×List A)}{q:List Addr}(h:LR k G H p (.nob cn fs ls) q):∀a∈p::q,(∃us,H a=some (.lst us))\/∃C dx fs,H a=some (.ins C dx fs):=by
 cases h with
 |nob e m r l=>
  intro a ha;rcases Rc.mp ha with rfl|ha
  .exact .inr ⟨_,_,_,e⟩
  .exact .inl (l.kind a ha)
end
def cS(j:Nat)(m:Ms):Ms:=λZ=>match Z[j]? with
 |some (.pv (.nob c fs ls))=>match m (Z.set j (.fr (LO.nob c fs ls).a)) with
  |some (.rt s,T)=>if Bl (ax Z.length T)[j]?&&(s::ax Z.length T).all xk then some (.rt s,(ax Z.length T).set j (.pv (.nob c fs ls))) else none
  |some (.ex x,T)=>if Bl (ax Z.length T)[j]?&&(ax Z.length T).all xk then some (.ex x,(ax Z.length T).set j (.pv (.nob c fs ls))) else none
  |_=>none
 |_=>m Z
theorem fY.A0{K:Kx}{n j:Nat}{m:Ms}{E:XK}(h:fY K n (cS j m) vs H Q E):fY K n m vs H Q E:=by
 obtain⟨hn,c,Z,f,O,ek,es,F,b,em,q⟩:=h;unfold cS at em;split at em
 .rename_i cn fs ls ej;have rel:av c.toKx (c.g H c.Lp) H (vs.map some) Z c.Lp:=b.rel;obtain⟨x,I,Lj,L2,x1,x2,x3,x4⟩:=rel.pick ej;cases x3 with
  |pv lr=>
   rename_i p qs;have X:=lr;cases lr with
   |nob ep mm rr ll=>
    rename_i C dx ws us;have nd:=b.nd;rw[x2] at nd;have A:(I++L2).Nodup:=nd.sublist (Sj (Sr _) (T4 _ _));have np:∀a∈p::qs,a∉I++L2:=λa ha=>(iT (by rw[<-Q6] at nd;exact nd)).2 a ha;have N:(p::qs).Nodup:=(Rj.mp (Rj.mp nd).2.1).1;have l:=X.is;have J:=X.nf;have sub:∀a,a∈I++L2->a∈c.Lp:=λa ha=>by
     rw[x2];rcases Rf.mp ha with z|z
     .exact Q8 _ z
     .exact Q2 _ (Q2 _ z)
    have pin:∀a∈p::qs,a∈c.Lp:=λa ha=>by rw[x2];exact Q2 _ (Q8 _ ha)
    have xg:∀a∈p::qs,a∉c.Hd:=λa ha=>b.xg (pin a ha)
    let c2:Cn:={ c with Lp:=I++L2 }
    have k:Z.length=vs.length:=by have:=rel.len;simpa using this.symm
    have b2:dQ c2 (vs.map some) H (Z.set j (.fr (LO.nob cn fs ls).a)) [] [] c2.Lp:=by refine⟨A,?_,λa ha=>.inl ha,⟨λa o e=>⟨o,by rw[<-F];exact e,λ_ _=>rfl⟩,λw G=>b.fr.pk w G⟩,λi o _ _=>by rw[es],rfl,λa ha=>⟨(b.hd a ha).1,λy=>(b.hd a ha).2 (sub a y)⟩⟩;have sm:Sq (c.g H c.Lp) (c.g H (I++L2)):=dq sub;have:av c.toKx (c.g H (I++L2)) H (vs.map some) (Z.set j (.fr (LO.nob cn fs ls).a)) (I++([]++L2)):=x4 (λ_ h=>h.sm sm (λ_ _ _ e=>e)) (.fr (X.a' sm λa ha u e=>by rw[bf (np a ha) (xg a ha)];exact e));exact this
    have key:∀(H':Hp)(D:List Sl)(B:St)(θ:List Sl),B.length=θ.length->D[j]?=some .un->(θ++D).all xk=true->Bd c2 (vs.map some) H' D B θ->Bd c (vs.map some) H' (D.set j (.pv (.nob cn fs ls))) B θ:=by
     intro H' D B θ lt R r Y;obtain⟨L',Y⟩:=Y;have V:∀a∈p::qs,∀w,(a,w)∉c.Wk:=λa ha w G=>by obtain⟨h1,⟨ob,us,h2⟩,_⟩:=b.fr.pk _ G;simp only at h1 h2;exact J a ha _ _ (by rw[h1,h2])
     have L:∀a∈p::qs,∀u,H a=some u->H' a=some u:=λa ha u e=>by obtain⟨t,h1,h2⟩:=Y.fr.st a u (by show c.H0 a=_;rw[F];exact e);rw[h1,h2 (np a ha) (V a ha)]
     have S:∀a∈p::qs,a∉L':=λa ha y=>by
      rcases Y.own a y with z|z
      .exact np a ha z
      .have z:c.H0 a=none:=z;obtain⟨u,U⟩:=l a ha;rw[F,U] at z;cases z
     have jj:(θ++D)[θ.length+j]?=some .un:=by rw[RT (Sv _ _),Uk];exact R
     obtain⟨y,M1,Mj,P,y1,y2,y3,y4⟩:=av.pick Y.rel jj;cases y3 with
     |un=>
      have yx:y=some (.ref p):=by rw[<-lt,RT (Sv _ _),Uk,x1] at y1;exact(Rv y1).symm
      subst yx;have d:L'=M1++P:=y2;have hN:∀a,a∈M1++((p::qs)++P)↔a∈p::qs\/a∈L':=λa=>by
       rw[d];simp only[Rf];constructor
       .rintro(h|h|h)
        .exact .inr (.inl h)
        .exact .inl h
        .exact .inr (.inr h)
       .rintro(h|h|h)
        .exact .inr (.inl h)
        .exact .inl h
        .exact .inr (.inr h)
      have lq:Tq (c.g H' L') (c.g H' (M1++((p::qs)++P))):=λa u e nl ni=>by
       by_cases z:a∈L'\/a∈c.Hd
       .rw[gf z] at e;cases e
       .rw[bf (λy=>z (.inl y)) (λy=>z (.inr y))] at e;rw[bf (λy=>?_) (λy=>z (.inr y))]
        .exact e
        .rcases(hN a).mp y with w|w
         .rcases X.kind a w with ⟨us,U⟩|⟨C,dx,fs,U⟩
          .rw[L a w _ U] at e;exact nl us (Rv e).symm
          .rw[L a w _ U] at e;exact ni C dx fs (Rv e).symm
         .exact z (.inl w)
      have sq:Sq (c.g H c.Lp) (c.g H' (M1++((p::qs)++P))):=λa u e=>by
       by_cases z:a∈c.Lp\/a∈c.Hd
       .rw[gf z] at e;cases e
       .rw[bf (λy=>z (.inl y)) (λy=>z (.inr y))] at e;obtain⟨t,h1,h2⟩:=Y.fr.st a u (by show c.H0 a=_;rw[F];exact e);have U:t=u:=by
         by_cases G:∃w,(a,w)∈c.Wk
         .obtain⟨w,G⟩:=G;have p1:=(b.fr.pk _ G).1;have p2:=(Y.fr.pk _ G).1;simp only at p1 p2;rw[e] at p1;rw[h1] at p2;rw[Rv p2,Rv p1]
         .exact h2 (λy=>z (.inl (sub a y))) λw y=>G ⟨w,y⟩
        subst U;refine⟨t,?_,.inl rfl⟩;rw[bf (λy=>?_) (λy=>z (.inr y))]
        .exact h1
        .rcases(hN a).mp y with w|w
         .exact z (.inl (pin a w))
         .rcases Y.own a w with v|v
          .exact z (.inl (sub a v))
          .have v:c.H0 a=none:=v;rw[F,e] at v;cases v
      have HA:av c.toKx (c.g H' (M1++((p::qs)++P))) H' (B++vs.map some) ((θ++D).set (θ.length+j) (.pv (.nob cn fs ls))) (M1++((p::qs)++P)):=
       y4 (λm h=>h.pl lq (R8.mp r _ m)) (.pv (X.sm sq L))
      rw[Uv _ _ (Sv _ _),Uk] at HA;refine⟨M1++((p::qs)++P),?_,HA,λa ha=>?_,⟨λa o e=>?_,λw G=>Y.fr.pk w G⟩,λi o _ _=>by rw[es],lt,b.hd⟩
      .have pm:(M1++((p::qs)++P)).Perm ((p::qs)++(M1++P)):=by rw[<-Q6,<-Q6];exact Tx.append_right P
       refine(pm.nodup_iff).mpr (Rj.mpr ⟨N,by rw[<-d];exact Y.nd,λa ha b hb z=>S a ha (by rw[d,z];exact hb)⟩)
      .rcases(hN a).mp ha with w|w
       .exact .inl (pin a w)
       .rcases Y.own a w with v|v
        .exact .inl (sub a v)
        .exact .inr v
      .obtain⟨u,h1,h2⟩:=Y.fr.st a o e;exact ⟨u,h1,fun na nw=>h2 (fun y=>na (sub a y)) nw⟩
    cases e4:m (Z.set j (.fr (LO.nob cn fs ls).a)) with
    |none=>simp only [e4] at em; cases em
    |some pr=>
     obtain⟨g,T⟩:=pr;simp only[e4] at em;refine⟨hn,c2,_,g,T,ek,es,F,b2,e4,?_⟩;cases g with
     |nx=>cases em
     |bk=>cases em
     |ct=>cases em
     |rt s=>
      simp only at em;split at em
      .rename_i hc;cases em;intro v H' hs Y;rw[QZ] at hc;rw[k] at hc q;simp only[gr] at q;exact q v H' hs (key H' _ _ _ rfl (u6 hc.1) hc.2 Y)
      .cases em
     |ex x=>
      simp only at em;split at em
      .rename_i hc;cases em;intro C H' hm Y;rw[QZ] at hc;rw[k] at hc q;simp only[gr] at q;exact q C H' hm (key H' _ _ _ rfl (u6 hc.1) hc.2 Y)
      .cases em
 .exact⟨hn,c,Z,f,O,ek,es,F,b,em,q⟩
section
variable{k:Kx}{G G' H:Hp}
theorem av.El:∀{Y:St}{Z:List Sl}{L:List Addr},(∀{x:Option V}{t:Sl}{L:List Addr}(j:Nat),Z[j]?=some t->d9 k G H x t L->d9 k G' H x t L)->av k G H Y Z L->av k G' H Y Z L
 |_,_,_,_,.nil=>.nil
 |_,_,_,f,.cons h r=>.cons (f 0 rfl h) (av.El (λj a=>f (j+1) (by simpa using a)) r)
end
def Pj:Rr->Bool
 | .rf _=>false
 | .fr a=>pl a
 | .nw o=>NM o
end M
set_option maxHeartbeats 4000000
namespace L2
open PySem PySem.Spec PyProof.Rows PySem.W
structure Iy(h:Heap)(e it l:Addr)(n:Nat):Prop where
 he:∃old,IsEnum h e it ((n:Nat):Int) old
 hi:h.IsListIter it l n
def Pt(K:Q0)(a:Addr):It:=
  ⟨λi H=>∃xs x,dI K H a xs/\xs[i]?=some x,
   λi H v H'=>∃t x,v=.ref t/\H t=none/\H'=upd H t (.tup [.int i,x])/\∀xs,dI K H a xs->xs[i]?=some x,
   λi H=>∃xs,dI K H a xs/\xs[i]?=none⟩
variable{es:List Expr}{kk:Nat}{tp:Pos}
theorem xa{P:Program}{w:X1}{K:Q0}{e it a:Addr}(D:e≠it):
  Turn P w K (.Tuple es kk tp) (Pt K a) [e,it] e (λn h=>Iy h e it a n) where
 mem:=by simp
 obj:=λn h Z c hc=>by
  obtain⟨⟨old,he⟩,⟨o,e1,_,S⟩⟩:=Z;simp only[Rc,R1,or_false] at hc;rcases hc with rfl|rfl
  .exact⟨_,he,λv q=>by cases q⟩
  .exact⟨_,e1,λv q=>by rw[S] at q;cases q⟩
 keep:=λn h h' Z k=>by obtain⟨⟨old,he⟩,⟨o,e1,V⟩⟩:=Z;exact⟨⟨old,k _ Z3 _ he⟩,⟨o,k _ Z3 _ e1,V⟩⟩
 item:=by
  intro X A G j hc n pins s Y H E I hf Z J;subst A G j;obtain⟨xs,x,N,hx⟩:=J;obtain⟨l,T,p,_⟩:=I.list N;obtain⟨u,hu,ru⟩:=T.get hx;obtain⟨⟨old,he⟩,hi⟩:=Z;refine wpAny_pyNext_enum_item he hi p.isList (by simpa using hu) D λh' z1 z2 z3 z4 keep=>?_;refine⟨_,rfl,wpAny_letOwnedTupleGo_enum z1 λh2 C sb=>?_⟩;have k2:∀c o,c∉[e,it]->s.heap.get? c=some o->h2.get? c=some o:=λc o hc q=>by simp only[Rc,R1,or_false,not_or] at hc;exact sb.extBut c o hc.1 (keep c o hc.1 hc.2 q)
  have f:∀c o,s.heap.get? c=some o->c≠s.heap.objs.size:=λc o q=>RH (Rq q);have B:∀c o,H c=some o->c∉[e,it]:=λc o q hc=>by have:=(hf c hc).1;rw[q] at this;cases this
  have hn:=I.fresh;have Q:=(f _ _ he).symm;have I2:Inv X pins Y (upd H s.heap.objs.size (.tup [.int n,x])) { s with heap:=h2,gens:=s.gens,drawn:=s.drawn,toks:=s.toks+1 }:=by
   refine I.step (λc hc=>?_) (λc o _ _ hc q _=>k2 c o hc q) (λc o _ _ hc q _=>⟨o.slots,k2 c o hc q⟩) (λc o _ q z=>by rw[aj (f c o q)];exact z) (λc o hc q=>⟨o,k2 c o hc q⟩)
    (λc z q=>by rw[aj (aH q hn)];exact q) (λc o z q=>by rw[aj (aH q hn)];exact q) (λc z q=>⟨#[],by rw[aj (aH q hn),q];simp⟩) (λm hm=>?_) (λc o q=>?_) I.bare
   .obtain⟨R,y,f2,F,t,U⟩:=hf c hc;exact⟨F,y,t,U⟩
   .obtain⟨o,g,q2,ho,r⟩:=hm;exact⟨o,g,q2,k2 _ o (λhc=>(hf _ hc).2.1 rfl) ho,r⟩
   .by_cases hc:c=s.heap.objs.size
    .subst hc;rw[aF] at q;cases q;refine⟨(show 2<=sizeLine by decide),[.int n s.toks,u],.cons ⟨_,rfl⟩ (.cons ru .nil),?_⟩;exact⟨_,sb.extBut _ _ Q z3,rfl,_,rfl,rfl⟩
    .rw[aj hc] at q;refine(I.hok c o q).gD (λd w hd z=>k2 d w ?_ z) (λd z=>by rw[aj (aH z hn)];exact z) λd z r=>by rw[aj (aH r hn)];exact r
     rcases hd with rfl|hd
     .exact B _ _ q
     .exact B _ _ hd
  have i:=λc o hc q=>sb.extBut c o hc q;obtain⟨o1,e1,V⟩:=z2;obtain⟨oi,O,_⟩:=id hi;have en:((n+1:Nat):Int)=(n:Int)+1:=by push_cast;rfl
  refine⟨.ref s.heap.objs.size,_,I2,rfl,⟨s.heap.objs.size,x,rfl,hn,rfl,λxs' g=>?_⟩,⟨⟨_,by rw[en];exact C⟩,⟨o1,i _ _ (R7 D) e1,V⟩⟩,λc hc=>?_⟩
  .rw[I.gy g N];exact hx
  .rw[aj]
   .exact(hf c hc).1
   .rintro rfl;simp only[Rc,R1,or_false] at hc;rcases hc with q|q
    .rw[<-q] at he;exact f _ _ he rfl
    .rw[<-q] at O;exact f _ _ O rfl
 done:=by
  intro X A G j hc n pins s Y H E I hf Z J;subst A G j;obtain⟨xs,N,L⟩:=J;obtain⟨l,T,p,_⟩:=I.list N;obtain⟨⟨old,he⟩,hi⟩:=Z;refine wpAny_pyNext_enum_end (I.ok.hd hc) he hi p.isList (by simpa using T.none_of L) λh' eb=>⟨rfl,?_⟩
  obtain⟨R,y,f2,F,t,U⟩:=hf it Z3;exact I.turned (λb o hb q=>eb b o hb q) R y F t U
 self:=λ_ _ _ _ _ Z q=>let ⟨_,he⟩:=Z.he;Ze he q
def ND(K:Q0)(ta:TA):TI:=λY H R=>ta Y H λvs S=>∃a xs,vs=[.ref a]/\dI K S a xs/\R (Pt K a) S
theorem DW{X:Cx}{e1:Expr}{ta:TA}{p pos:Pos}(hg:Gl X "enumerate")(hm:X.mg "enumerate" = none)(ha:PA X [e1] ta)(hs:XU [e1] X.env=[(false,eval e1 X.env)]:=by rfl):
  PI X (.Tuple es kk tp) (.Call (.Name "enumerate" p) [e1] [] pos) (ND X.K ta):=by
 intro pins s Y H R I h;refine Call_ (gm I hg hm pI (Sb (cx (ha pos pins s Y H _ I h) λus s1 ⟨vs,H1,I1,r1,q1⟩=>?_) (by rw[hs];rfl) rfl));obtain⟨a,xs,rfl,qa,q⟩:=q1;obtain⟨u,rfl,r⟩:=r1.one;cases r;obtain⟨its,rv,pa,_⟩:=I1.list qa;refine call_enumerate_list pa.isList λh' z1 z2 z3 keep=>?_;have I2:=I1.kept (t':=s1.toks) keep;refine Ze z1 ⟨_,[s1.heap.objs.size+1,s1.heap.objs.size],_,_,H1,rfl,I2,xa (Nat.succ_ne_self _),⟨⟨_,z1⟩,z2⟩,λc hc=>?_,q⟩;have hle:s1.heap.objs.size<=c:=by simp only[Rc,R1,or_false] at hc;rcases hc with rfl|rfl<;>first|exact Sv _ _|exact Q9 _
 exact I1.vX hle (I1.hok.fresh hle)
end L2
namespace M
open PySem L2
section
variable{X:Cx}{E:XK}
noncomputable def lV:Nat->List A->List A
 |_,[]=>[]
 |i,a::as=>.tup [.int i,a]::lV (i+1) as
theorem jS:∀(as:List A)(i:Nat),(lV i as).length=as.length
 |[],_=>rfl
 |_::as,i=>by simp only[lV,Rb,Rb,jS as]
theorem lH:∀(as:List A)(i j:Nat)(a:A),(lV i as)[j]?=some a->∃b,as[j]?=some b/\a=.tup [.int (i+j:Nat),b]
 |[],_,_,_,h=>by simp[lV] at h
 |b::as,i,0,a,h=>by cases h;exact⟨b,rfl,rfl⟩
 |b::as,i,j+1,a,h=>by obtain⟨c,h1,h2⟩:=lH as (i+1) j a h;exact⟨c,by simp only[List.getElem?_cons_succ];exact h1,by rw[h2,show i+1+j=i+(j+1) by lia]⟩
def zS(ma:Mi Rr):Mi (List A):=aO ma λx=>λZ=>match dH [x] Z with
 |some ([.lst as],O)=>some (.ok (lV 0 as),O)
 |_=>none
theorem Dn{e1:Expr}{m:Mi Rr}{p pos:Pos}{es:List Expr}{kk:Nat}{tp:Pos}(hg:Gl X "enumerate")(hm:X.mg "enumerate" = none)(h1:JE X E e1 m)(hs:XU [e1] X.env=[(false,eval e1 X.env)]:=by rfl)(hs3:XU [e1] X.env=(false,eval e1 X.env)::XU [] X.env:=by rfl):
  JI X E (.Tuple es kk tp) (.Call (.Name "enumerate" p) [e1] [] pos) (zS m):=⟨λpins s Y H R I h=>by
 refine DW hg hm (aR h1.p cc hs3) hs pins s Y H R I ?_;obtain⟨c,Z,B,θ,o,O,ek,b,em,q⟩:=h;refine aZ ek b em (λx v U H1 hv b1 em1=>?_) (dh q);cases ef:dH [x] U with
 |none=>rw[ef] at em1;cases em1
 |some pr=>
  rw[ef] at em1;obtain⟨q1,S⟩:=pr;rcases q1 with _|⟨a1,_|_⟩
  .cases em1
  rotate_left
  .cases a1<;>exact cu em1
  cases a1 with
  |lst as=>
   cases em1;have eK:c.K=X.K:=Zz Kx.K ek;have b3:=(Bd.dH (rs:=[x]) (vs:=[v]) ⟨hv,trivial⟩ b1 ef).1;obtain⟨L0,bl0,v0⟩:=Bd.mid (xs:=[]) (ss:=[]) rfl b3;cases v0 with
   |lst ve vr=>
   rename_i pv ts;refine⟨pv,ts,rfl,by rw[<-eK];exact eU (g_same _ _ _) ve,q _ H1 [some (.ref pv)] [.lst as] rfl (λc' j H' O N D J T i ek' lx b'=>?_) b3⟩;have eK':c'.K=X.K:=Zz Kx.K ek';obtain⟨L,bl,v1⟩:=Bd.mid lx b';cases v1 with
   |lst ve vr=>
   rename_i ts';have sv:dI X.K H' pv ts':=by rw[<-eK'];exact eU (g_same _ _ _) ve
   refine⟨λhi=>⟨ts',sv,?_⟩,λa ha=>?_⟩
   .rw[jS] at hi;exact Sz (by rw[vr.len];exact hi)
   .obtain⟨b0,za,rfl⟩:=lH as 0 i a ha;obtain⟨t,g1,g2⟩:=vr.ta za;refine⟨⟨ts',t,sv,g1⟩,λx H2 yy=>?_⟩;obtain⟨tt,x',rfl,hn,rfl,hall⟩:=yy;have z1:=hall ts' sv;rw[g1] at z1;cases z1;obtain⟨b2,sm,np⟩:=bl.new hn;rw[U6];exact b2.push (.tup (.inl (.inl (by rw[bf np (bl.Kc hn)];exact aF))) ((bF.cons (.int _) (.cons g2 .nil)).sm sm))
  | _=>cases em1⟩
end
end M
set_option maxHeartbeats 1000000
namespace M
open PySem L2
variable{i j:Nat}{cn f:Str}
section
variable{c:Cn}{Y:St}{H:Hp}{Z:List Sl}{B:St}{θ:List Sl}{L:List Addr}
theorem dQ.Kp{fs:List (Str×A)}{ls:List (Str×List A)}{xs:List A}(b:dQ c Y H Z B θ L)(v:aD Z i=some (.nob cn fs ls))(e1:fs.lookup f=none)(e2:ls.lookup f=some xs):
  ∃p C dx ws a ys,Y[i]?=some (some (.ref p))/\H p=some (.ins C dx ws)/\c.mg cn=some (.ref C)/\ws.lookup f=some (.ref a)/\H a=some (.lst ys)/\bF c.toKx (c.g H L) ys xs /\
   ∀x o,bF c.toKx (c.g H L) x o->Bd c Y (upd H a (.lst x)) (setAt Z i (.nob cn fs (iz f o ls))) B θ:=by
 obtain⟨p,V,h1,h2,X⟩:=b.live v (.nob cn fs ls) (.lst []);cases h2 with
 |nob e m r l=>
  rename_i C dx ws us;obtain⟨a,ys,k1,k2,k3,U⟩:=l.get e2;have N:ws.lookup f=none:=by
   rcases r.get f with ⟨_,_,_,y,_⟩|⟨y,_⟩
   .rw[e1] at y;cases y
   .exact y
  refine⟨p,C,dx,ws++us,a,ys,h1,e,m,kA N k1,k3,U,λx o P=>?_⟩;have fin:∀(s t:Sl),Z[i]?=some s->(s=.lv (.nob cn fs ls)/\t=.lv (.nob cn fs (iz f o ls))\/s=.pv (.nob cn fs ls)/\t=.pv (.nob cn fs (iz f o ls)))->Bd c Y (upd H a (.lst x)) (Z.set i t) B θ:=by
   intro s t es F;obtain⟨S,q',D,T,nd,u⟩:=b.Ko es F;simp only[h1] at D;cases D;cases T with
   |nob k j r' K=>
    rename_i C' w h q;rw[e] at k;have R:h=ws/\q=us:=by
     have E:h.length=ws.length:=by simp only[r'.len,r.len]
     injection k with k;injection k with _ _ k;exact⟨(WJ k.symm E).1,(WJ k.symm E).2⟩
    obtain⟨rfl,rfl⟩:=R;obtain⟨a',O,J,G,w3,w4⟩:=K.get e2;rw[k1] at J;cases J;injection k with k;injection k with eC edx _;subst eC edx;refine u a (Q5 _ G) λH' Q sm=>?_;refine .nob (dx:=dx) ?_ j r' (eF.put K (RD.mp nd).2 e2 k1 Q (λb d n=>sm b (Q5 _ d) n) P);rw[sm p Rg λz=>(RD.mp nd).1 (z▸G)];exact e
  unfold aD at v;unfold setAt;cases es:Z[i]? with
  |none=>rw[es] at v;cases v
  |some s=>
   rw[es] at v;cases s with
   |un=>cases v
   |cf _=>cases v
   |fr a=>cases v
   |lv I=>cases v;exact fin _ _ es (.inl ⟨rfl,rfl⟩)
   |pv I=>cases v;exact fin _ _ es (.inr ⟨rfl,rfl⟩)
theorem dQ.DZ{a:A}(b:dQ c Y H Z B θ L)(e:Z[j]?=some (.fr a)):∃v,Y[j]?=some (some v)/\RA c.toKx (c.g H L) v a:=by
 obtain⟨I,L2,T,V,i⟩:=av.split b.lt b.rel;obtain⟨x,_,_,_,hx,hs,_⟩:=i.at e;cases hs with
 |fr h=>exact⟨_,hx,h⟩
end
variable{α:Type}
theorem Ir{xs:List α}{a:α}(h:fV xs.length k=some j)(e:xs[j]?=some a):gU xs k=some a:=by
 delta L2.gU
 rw[h];exact e
variable{cs:List Str}{Z:List Sl}{px py p1 p2 pos:Pos}{e:Expr}
section
variable{X:Cx}{E:XK}
def ownAt(cs:List Str)(Z:List Sl)(i:Nat)(f:Str):Option (List A):=match aD Z i with
 |some (.nob c fs ls)=>if cs.contains c&&(fs.lookup f).isNone then ls.lookup f else none
 |_=>none
theorem kZ{xs:List A}(h:ownAt cs Z i f=some xs):∃c fs ls,aD Z i=some (.nob c fs ls)/\cs.contains c=true/\fs.lookup f=none/\ls.lookup f=some xs:=by
 delta ownAt at h
 cases v:aD Z i with
 |none=>rw[v] at h;cases h
 |some lo=>
  rw[v] at h;cases lo with
  |nob cn fs ls=>
   by_cases e:(cs.contains cn&&(fs.lookup f).isNone)=true
   .have h:(if (cs.contains cn&&(fs.lookup f).isNone)=true then ls.lookup f else none)=some xs:=h;rw[Zv e] at h;rw[QZ,R3] at e;exact⟨cn,fs,ls,rfl,e.1,e.2,h⟩
   .have h:(if (cs.contains cn&&(fs.lookup f).isNone)=true then ls.lookup f else none)=some xs:=h;rw[Zw e] at h;cases h
  |_=>exact cu h
noncomputable def intAt(Z:List Sl)(j:Nat):Option Int:=match Z[j]? with
 |some (.fr (.int k))=>some k
 |_=>none
theorem iK(h:intAt Z j=some k):Z[j]?=some (.fr (.int k)):=by
 delta intAt at h
 cases e:Z[j]? with
 |none=>rw[e] at h;cases h
 |some s=>
  rw[e] at h;cases s with
  |fr a=>cases a with
   |int i=>cases h;rfl
   |_=>exact cu h
  |_=>exact cu h
def QC(cs:List Str)(i:Nat)(f:Str)(j:Nat):Mi Rr:=λZ=>match ownAt cs Z i f,intAt Z j with
 |some xs,some k=>match gU xs k with
  |some a=>some (.ok (.fr a),Z)
  |none=>none
 |_,_=>none
def jN(Z:List Sl)(i:Nat)(f:Str)(xs:List A):List Sl:=match aD Z i with
 |some (.nob c fs ls)=>setAt Z i (.nob c fs (iz f xs ls))
 |_=>Z
theorem jQ{c:Str}{fs:List (Str×A)}{ls:List (Str×List A)}(xs:List A)(h:aD Z i=some (.nob c fs ls)):jN Z i f xs=setAt Z i (.nob c fs (iz f xs ls)):=by delta jN;rw[h]
def eY(cs:List Str)(i:Nat)(f:Str)(j:Nat)(m:Mi Rr):Ms:=cT m λr Z=>match bE r Z with
 |some (a,U)=>match ownAt cs U i f,intAt U j with
  |some xs,some k=>match fV xs.length k with
   |some n=>some (.nx,jN U i f (xs.set n a))
   |none=>none
  |_,_=>none
 |none=>none
theorem wz{x y:Str}{m:Mi Rr}(hN:X.N[i]?=some x)(t:mL X.env.scope x)(hd:eV x)(R:pE x)
  (z:X.N[j]?=some y)(F:mL X.env.scope y)(Q:eV y)(o:pE y)
  (hc:∀c C,cs.contains c=true->X.mg c=some (.ref C)->i5 X.K C/\cG X.K C f)
  (d:X7 (.Name x px) f X.env (eval (.Name x px) X.env)=eval (.Name x px) X.env)(he:JE X E e m)
  (hp:∀{G J l:TE},PE X (.Attribute (.Name x px) f p2) G->PE X (.Name y py) J->PE X e l->PS X (.Assign [.Subscript (.Attribute (.Name x px) f p2) (.Name y py) p1] e pos) (qx l (yM G J qH))):
  JS X E (.Assign [.Subscript (.Attribute (.Name x px) f p2) (.Name y py) p1] e pos) (eY cs i f j m):=
 ⟨PS.weaken (hp (jV (bW hN t hd R) d) (bW z F Q o) he.p) λD Y H h=>by
  obtain⟨c,Z,B,θ,fl,O,s,b,em,q⟩:=h;refine dN s b em q λr v U H1 t V u=>?_;cases g:bE r U with
  |none=>rw[g] at u;cases u
  |some pr=>
   obtain⟨a,Z'⟩:=pr;rw[g] at u;dsimp only at u;have S:=Bd.bE (xs:=[]) (ss:=[]) rfl V t g;cases e1:ownAt cs Z' i f with
   |none=>rw[e1] at u;cases u
   |some xs=>
    rw[e1] at u;cases e2:intAt Z' j with
    |none=>rw[e2] at u;cases u
    |some k=>
     rw[e2] at u;dsimp only at u;cases T:fV xs.length k with
     |none=>rw[T] at u;cases u
     |some n=>
      simp only[T] at u;cases u;obtain⟨cn,fs,ls,P,A,g1,g2⟩:=kZ e1;obtain⟨L,bl,ra⟩:=Bd.tS S;obtain⟨p,C,dx,ws,a',ys,h1,h2,h3,h4,h5,I,h7⟩:=bl.Kp P g1 g2;obtain⟨w,k1,k2⟩:=bl.DZ (iK e2);cases k2;have e4:X.mg cn=some (.ref C):=by have:=Zz (λk:Kx=>k.mg cn) s;simp only at this;rw[<-this];exact h3
      obtain⟨c1,c2⟩:=hc cn C A e4;rw[jQ _ P] at q;exact⟨_,h1,p,C,dx,ws,_,rfl,h2,c1,c2,h4,_,k1,a',ys,k,n,rfl,rfl,h5,by rw[I.len];exact T,q Y _ (h7 _ _ (I.set ra n))⟩⟩
end
section
open PyProof.Rows PySem.W
theorem uB:∀{ns:List Int}{us:List Value}{i:Int}{j:Nat},Vals (ns.map V.int) us->yw ns i=some j->kf_ints us=true/\kf_at i us=some j
 |[],_,_,_,.nil,h=>nomatch h
 |n::ns,_,i,j,.cons h r,e=>by
  obtain⟨t,rfl⟩:=h;have H:∀{ns:List Int}{us:List Value},Vals (ns.map V.int) us->kf_ints us=true:=λ{ns}=>by
   induction ns with
   |nil=>intro us r;cases r;rfl
   |cons n ns l=>intro us r;cases r with|cons h r=>obtain⟨t,rfl⟩:=h;have z:=l r;exact z
  refine⟨H (ns:=n::ns) (.cons ⟨t,rfl⟩ r),?_⟩;by_cases c:n=i
  .subst c;have e:(if n=n then some 0 else (yw ns n).map (·+1))=some j:=e;rw[Zv rfl] at e;cases e;show cond (n==n) _ _=_;rw[beq_self_eq_true];rfl
  .have e:(if n=i then some 0 else (yw ns i).map (·+1))=some j:=e;rw[Zw c] at e;cases e2:yw ns i with
   |none=>rw[e2] at e;cases e
   |some T=>rw[e2] at e;cases e;have:=(uB r e2).2;show cond (n==i) _ (match kf_at i _ with|some j=>some (j+1)|none=>none)=_;rw[this,beq_eq_false_iff_ne.mpr c];rfl
section
open PySem.Builtin PyProof.Rows PySem.W
noncomputable def OV(b:Array Value)(n:Nat)(sl:Array (Option Value)):Obj:={ cls:=.type "list",dict:=none,data:=.seq b n,slots:=sl }
theorem rG{a:Addr}{b:Array Value}{n:Nat}{sl:Array (Option Value)}{v:Int}{t:Tok}(hi:kf_ints b.toList=true){j:Nat}(Z:j<b.size)(x:isInt v b[j]=true)(U:∀m (h:m<b.size),m<j->isInt v b[m]=false){up:Int}(B:(j:Int)<up):
  ∀d i,i+d=j->Meets (Builtin.«list.index.loop» ⟨[.ref a,.int v t,rawInt ((i:Nat):Int),rawInt up],[]⟩) λ_ R s=>s.heap.get? a=some (OV b n sl)/\R (.ok (.ret (.int j s.toks))) { s with toks:=s.toks+1 }
 |0,i,e=>by
  obtain rfl:i=j:=e;rintro prog w A R ⟨hp,g,dp,tk,os⟩ ⟨hl,h⟩
  wp_walk using YY hl
  rw[show (if ((i:Nat):Int)<up then b[((i:Nat):Int).toNat]? else none)=some b[i] by rw[Zv B,Ua];exact Vo Z];refine XW (kf_eq hi _ Z3 prog w _ _ _ _ ?_);rw[x]
  wp_walk
  exact h
 |d+1,i,e=>by
  rintro prog w A R ⟨hp,g,dp,tk,os⟩ ⟨hl,h⟩;have G:=hl
  delta OV at hl
  wp_walk using YY hl
  have lt:i<b.size:=by lia
  rw[show (if ((i:Nat):Int)<up then b[((i:Nat):Int).toNat]? else none)=some b[i] by rw[Zv Q1,Ua];exact Vo lt];refine XW (kf_eq hi _ Z3 prog w _ _ _ _ ?_);rw[U i lt Q1]
  wp_walk
  exact⟨plainId_quiet TR _,YX U9 (by rw[X8.under_plainId TR _];exact rG hi Z x U B d (i+1) Q1 prog w A R _ ⟨G,h⟩)⟩
theorem wd{a:Addr}{b:Array Value}{n:Nat}{sl:Array (Option Value)}{v:Int}{t:Tok}(hi:kf_ints b.toList=true)(Z:j<b.size)(x:isInt v b[j]=true)(U:∀m (h:m<b.size),m<j->isInt v b[m]=false)(B:(j:Int)<2^63-1):
  Meets (Builtin.«list.index» ⟨[.ref a,.int v t],[]⟩) λ_ R s=>s.heap.get? a=some (OV b n sl)/\R (.ok (.ret (.int j s.toks))) { s with toks:=s.toks+1 }:=by
 rintro prog w A R ⟨hp,g,dp,tk,os⟩ ⟨hl,h⟩;have G:=hl
 wp_walk using YY hl
 exact⟨plainId_quiet TR _,YX U9 (by exact rG hi Z x U B j 0 (U6 j) prog w A R _ ⟨G,h⟩)⟩
end
section
variable{X:Cx}{E:XK}
def Ew(K:Q0):V->List V->Hp->VK->Prop:=λx us H Q=>∃(a:Addr)(ns:List Int)(i:Int)(j:Nat),x=.ref a/\us=[.int i]/\dI K H a (ns.map V.int)/\yw ns i=some j/\Q (.int j) H
theorem FW:Pz X "list.index" (Ew X.K):=by
 intro pins s Y H x vs v us Q I J T h;obtain⟨a,ns,i,j,rfl,rfl,O,Z,q⟩:=h;cases J;obtain⟨u,rfl,c⟩:=T.one;obtain⟨t,rfl⟩:=c;obtain⟨b,r,⟨⟨oc,od,B,osl⟩,n,p,N,o,z⟩,hz⟩:=I.list O;cases N;cases o;cases z;obtain⟨h1,h2⟩:=uB r Z;obtain⟨a1,V,U⟩:=kf_at_spec h2;have hl:b.length<=sizeLine:=by rw[<-r.length];exact hz
 rw[Yo] at hl;refine Y7 Vp ⟨_,p,rfl⟩ PySem.F.entry_list_index (PySem.F.args_list_index_2 _ _) (wd (n:=n) (sl:=osl) (by simpa using h1) (j:=j) (by simpa using a1) (by simpa using V) (λm hm C=>by simpa using U m (by simpa using hm) C) Q1) ⟨p,?_⟩;exact⟨.int j,H,I.tok _,⟨_,rfl⟩,q⟩
end
end
variable{Y B:St}{H:Hp}{c:Cn}{θ:List Sl}{L:List Addr}
section
variable{X:Cx}{E:XK}
def IW(X:Cx)(e:Expr)(g:List Sl->Option A):Prop:=∃l,PE X e l/\∀{c:Cn}{Y:St}{H:Hp}{Z:List Sl}{B:St}{θ:List Sl}{L:List Addr}{a:A},dQ c Y H Z B θ L->g Z=some a->∃v,(∀Q:VK,Q v H->l Y H Q)/\RA c.toKx (c.g H L) v a
noncomputable def Bt(j:Nat)(Z:List Sl):Option A:=match Z[j]? with
 |some (.fr a)=>some a
 |_=>none
theorem zN{a:A}(h:Bt j Z=some a):Z[j]?=some (.fr a):=by
 delta Bt at h
 cases e:Z[j]? with
 |none=>rw[e] at h;cases h
 |some s=>
  rw[e] at h;cases s with
  |fr a=>cases h;rfl
  |_=>exact cu h
theorem wZ{y:Str}(hN:X.N[j]?=some y)(t:mL X.env.scope y)(hd:eV y)(R:pE y):IW X (.Name y py) (Bt j):=
 ⟨_,bW hN t hd R,λb h=>by obtain⟨v,h1,h2⟩:=b.DZ (zN h);exact⟨v,λQ q=>⟨v,h1,q⟩,h2⟩⟩
def Bu(Y:St)(H:Hp)(i:Nat)(f:Str)(a:Addr):Prop:=∃p C dx ws,Y[i]?=some (some (.ref p))/\H p=some (.ins C dx ws)/\ws.lookup f=some (.ref a)
theorem Bu.one{a b:Addr}(h:Bu Y H i f a)(h':Bu Y H i f b):a=b:=by obtain⟨p,C,dx,ws,h1,h2,h3⟩:=h;obtain⟨S,J,w,c,E,F,X⟩:=h';rw[h1] at E;cases E;rw[h2] at F;cases F;rw[h3] at X;cases X;rfl
theorem sS{xs:List A}(e:c.toKx=kx X)(hc:∀c C,cs.contains c=true->X.mg c=some (.ref C)->i5 X.K C/\cG X.K C f)(bl:dQ c Y H Z B θ L)(e1:ownAt cs Z i f=some xs):
  ∃a ys,Bu Y H i f a/\(∀Q:VK,Q (.ref a) H->Jq X.K (mW i) f Y H Q)/\H a=some (.lst ys)/\bF c.toKx (c.g H L) ys xs/\∀x o,bF c.toKx (c.g H L) x o->Bd c Y (upd H a (.lst x)) (jN Z i f o) B θ:=by
 obtain⟨cn,fs,ls,v,h,E,F⟩:=kZ e1;obtain⟨p,C,dx,ws,a,ys,h1,h2,h3,h4,h5,I,m⟩:=bl.Kp v E F;have j:X.mg cn=some (.ref C):=by have:=Zz (λk:Kx=>k.mg cn) e;simp only at this;rw[<-this];exact h3
 obtain⟨U,D⟩:=hc cn C h j;exact⟨a,ys,⟨p,C,dx,ws,h1,h2,h4⟩,λQ q=>⟨_,h1,p,C,dx,ws,_,rfl,h2,U,D,h4,q⟩,h5,I,λx o r=>by rw[jQ _ v];exact m _ _ r⟩
end
section
variable{X:Cx}{E:XK}
def Qu(neg:Bool)(cs:List Str)(i:Nat)(f:Str)(g:List Sl->Option A):Mi Rr:=λZ=>match ownAt cs Z i f,g Z with
 |some xs,some a=>if jF a&&xs.all jF then some (.ok (.fr (.bl (if neg then !E4 (kD a) (xs.map kD) else E4 (kD a) (xs.map kD)))),Z) else none
 |_,_=>none
def oX(cs:List Str)(i:Nat)(f:Str)(g:List Sl->Option A):Mi Rr:=λZ=>match ownAt cs Z i f,g Z with
 |some xs,some (.int k)=>match gU xs k with
  |some a=>some (.ok (.fr a),Z)
  |none=>none
 |_,_=>none
theorem IU{x:Str}{g:List Sl->Option A}(hN:X.N[i]?=some x)(t:mL X.env.scope x)(hd:eV x)(R:pE x)
  (hc:∀c C,cs.contains c=true->X.mg c=some (.ref C)->i5 X.K C/\cG X.K C f)
  (d:X7 (.Name x px) f X.env (eval (.Name x px) X.env)=eval (.Name x px) X.env)(he:IW X e g)(hs:je e):
  JE X E (.Subscript (.Attribute (.Name x px) f p1) e pos) (oX cs i f g):=by
 obtain⟨D,he,m⟩:=he;exact⟨PE.weaken (zL oG (jV (bW hN t hd R) d) he hs) λY H Q h=>by
  obtain⟨c,Z,B,θ,o,O,s,b,em,q⟩:=h
  delta oX at em
  cases e1:ownAt cs Z i f with
  |none=>rw[e1] at em;cases em
  |some xs=>
   cases e2:g Z with
   |none=>rw[e1,e2] at em;cases em
   |some a=>
    rw[e1,e2] at em;cases a with
    |int k=>
     dsimp only at em;cases T:gU xs k with
     |none=>rw[T] at em;cases em
     |some a=>rw[T] at em;cases em;obtain⟨L,bl⟩:=b;obtain⟨p,ys,_,h1,h5,I,_⟩:=sS s hc bl e1;obtain⟨v,k1,k2⟩:=m bl e2;cases k2;obtain⟨u,z,l⟩:=I.gU T;exact h1 _ (k1 _ ⟨p,ys,k,u,rfl,rfl,.of h5,z,q u H trivial (bl.push l)⟩)
    | _=>cases em⟩
end
section
variable{k:Kx}{G G' H:Hp}
theorem av.Ei:∀{Y:St}{Z:List Sl}{L:List Addr},(∀{x:Option V}{t:Sl}{L:List Addr}(j:Nat),Y[j]?=some x->Z[j]?=some t->d9 k G H x t L->d9 k G' H x t L)->av k G H Y Z L->av k G' H Y Z L
 |_,_,_,_,.nil=>.nil
 |_,_,_,f,.cons h r=>.cons (f 0 rfl rfl h) (av.Ei (λj hs a=>f (j+1) (by simpa using hs) (by simpa using a)) r)
theorem av.Fg:∀{Y:St}{Z:List Sl}{L:List Addr}{j:Nat}{t:Sl},av k G H Y Z L->Z[j]?=some t->∃x I c L2,Y[j]?=some x/\d9 k G H x t c/\L=I++(c++L2) /\
  ∀{G':Hp}{t':Sl}{L':List Addr},(∀{x:Option V}{t:Sl}{L:List Addr}(n:Nat),Y[n]?=some x->Z[n]?=some t->n≠j->d9 k G H x t L->d9 k G' H x t L)->d9 k G' H x t' L'->av k G' H Y (Z.set j t') (I++(L'++L2))
 |_,_,_,j,t,.nil,e=>by simp at e
 |x::Y,u::Z,_,0,t,.cons (L:=La) (L':=Lb) h r,e=>by cases e;refine⟨x,[],La,Lb,rfl,h,rfl,λ{G2 E b} f h'=>?_⟩;simp only[Ut];exact .cons h' (av.Ei (λn hs hn=>f (n+1) (by simpa using hs) (by simpa using hn) (Va n)) r)
 |x::Y,u::Z,_,j+1,t,.cons (L:=La) h r,e=>by obtain⟨y,I,c,L2,h1,h3,h2,h4⟩:=av.Fg r (by simpa using e);refine⟨y,La++I,c,L2,by simpa using h1,h3,by simp only[h2,Q6],λf h'=>?_⟩;have:=h4 (λn hs hn P=>f (n+1) (by simpa using hs) (by simpa using hn) (λz=>P (Vq z))) h';simp only[Q6];exact .cons (f 0 rfl rfl (Va j).symm h) this
end
section
variable{c:Cn}{Y:St}{H:Hp}{Z:List Sl}{B:St}{θ:List Sl}
theorem Bd.LX{s:Sl}{fs:List (Str×A)}{ls:List (Str×List A)}(b:Bd c Y H Z B θ)(es:Z[i]?=some s)(hs:s=.lv (.nob cn fs ls)\/s=.pv (.nob cn fs ls)):
  ∃D:Cn,D.toKx=c.toKx/\Bd D Y H (Z.set i (.fr (LO.nob cn fs ls).a)) [] []/\∀H' U k X,Bd D Y H' U k X->(∃a,U[i]?=some (.fr a))->(∀j t,j≠i->U[j]?=some t->xk t=true\/∃a,t=.fr a/\Z[j]?=some (.fr a))->X.all xk=true->(∀f a,Bu Y H i f a->Bu Y H' i f a)/\Bd c Y H' (U.set i s) (k++B) (X++θ):=by
 obtain⟨L,b⟩:=b;obtain⟨I,L2,e1,r1,r2⟩:=av.split b.lt b.rel;obtain⟨x,M1,M2,R,hx,V,e2,ins⟩:=r2.at es;have key:∀p q,x=some (.ref p)->M2=p::q->LR c.toKx (c.g H L) H p (.nob cn fs ls) q->(∀G H',LR c.toKx G H' p (.nob cn fs ls) q->d9 c.toKx G H' (some (.ref p)) s (p::q))->
   ∃D:Cn,D.toKx=c.toKx/\Bd D Y H (Z.set i (.fr (LO.nob cn fs ls).a)) [] []/\∀H' U k X,Bd D Y H' U k X->(∃a,U[i]?=some (.fr a))->(∀j t,j≠i->U[j]?=some t->xk t=true\/∃a,t=.fr a/\Z[j]?=some (.fr a))->X.all xk=true->(∀f a,Bu Y H i f a->Bu Y H' i f a)/\Bd c Y H' (U.set i s) (k++B) (X++θ):=by
  intro p q ex em lr mk;subst ex em;have nd:=b.nd;simp only[e1,e2] at nd;obtain⟨n1,n2,n3⟩:=Rj.mp nd;obtain⟨m1,m2⟩:=iT n2;have ndq:(p::q).Nodup:=(Rj.mp (Rj.mp n2).1).2.1;have m:∀a,a∈L↔a∈I\/a∈p::q\/a∈M1++R:=λa=>by
   simp only[e1,e2];simp only[Rf];constructor
   .rintro(h|(h|h)|h)
    .exact .inl h
    .exact .inr (.inr (.inl h))
    .exact .inr (.inl h)
    .exact .inr (.inr (.inr h))
   .rintro(h|h|h|h)
    .exact .inl h
    .exact .inr (.inl (.inr h))
    .exact .inr (.inl (.inl h))
    .exact .inr (.inr h)
  have T:∀a∈L,∃u,H a=some u:=b.rel.is;have O:∀a∈L,a∉c.Hd:=λa ha=>b.xg ha;have nq:∀a∈p::q,a∉M1++R:=m2;have d:∀a∈I,a∉p::q:=λa ha hq=>n3 a ha a (Q8 _ (Q2 _ hq)) rfl;have n1m:∀a∈I,a∉M1++R:=λa ha hq=>by
   rcases Rf.mp hq with z|z
   .exact n3 a ha a (Q8 _ (Q8 _ z)) rfl
   .exact n3 a ha a (Q2 _ z) rfl
  let D:Cn:={ c with H0:=H,Lp:=M1++R,Hd:=I++c.Hd,Wk:=[] }
  have g2in:∀{H':Hp}{K:List Addr}{a:Addr},a∈K\/a∈I\/a∈c.Hd->D.g H' K a=none:=λ{H' K a} h=>gf (c:=D) (by rcases h with h|h|h;exact .inl h;exact .inr (Q8 _ h);exact .inr (Q2 _ h));have E:∀{H':Hp}{K:List Addr}{a:Addr},a∉K->a∉I->a∉c.Hd->D.g H' K a=H' a:=λ{H' K a} h1 h2 h3=>bf (c:=D) h1 (λy=>by rcases Rf.mp y with z|z;exact h2 z;exact h3 z);have sm0:Sq (c.g H L) (D.g H (M1++R)):=λa u e=>by
   by_cases z:a∈L\/a∈c.Hd
   .rw[gf z] at e;cases e
   .have P:a∉L:=λy=>z (.inl y);rw[bf P (λy=>z (.inr y))] at e;refine⟨u,?_,.inl rfl⟩;rw[E (λy=>P ((m a).mpr (.inr (.inr y)))) (λy=>P ((m a).mpr (.inl y))) (λy=>z (.inr y))];exact e
  have es2:Y.set i (some (.ref p))=Y:=by
   apply SI;intro j;by_cases Q:i=j
   .subst Q;rw[Rl (Q4.mp hx).1,hx]
   .rw[Rx Q]
  refine⟨D,rfl,⟨M1++R,m1,?_,λa ha=>.inl ha,⟨λa o e=>⟨o,e,λ_ _=>rfl⟩,λw S=>nomatch S⟩,λj o Q w0=>?_,rfl,λa ha=>?_⟩,?_⟩
  .have i1:=ins (G':=D.g H (M1++R)) (H':=H) (y:=some (.ref p)) (t:=.fr (LO.nob cn fs ls).a) (L':=[]) sm0 (λ_ _ _ e=>e) (.fr (lr.a' sm0 λa ha u e=>by rw[E (nq a ha) (λy=>d a y ha) (O a ((m a).mpr (.inr (.inl ha))))];exact e))
   rw[es2,RX] at i1;exact i1
  .by_cases N:i=j
   .subst N;rw[Rl (Q4.mp es).1] at Q;cases Q;cases w0
   .rw[Rx N] at Q;exact b.kp j o Q w0
  .rcases Rf.mp ha with z|z
   .exact⟨T a ((m a).mpr (.inl z)),n1m a z⟩
   .obtain⟨⟨u,n⟩,_⟩:=b.hd a z;obtain⟨u',h1,_⟩:=b.fr.st a u n;exact⟨⟨u',h1⟩,λy=>O a ((m a).mpr (.inr (.inr y))) z⟩
  .rintro H' U k X ⟨L',F⟩ ⟨a0,ea0⟩ hpl hp1;have gD:∀a u,H a=some u->a∉M1++R->H' a=some u:=λa u e na=>by obtain⟨u',h1,h2⟩:=F.fr.st a u e;rw[h1,h2 na λw S=>nomatch S]
   have l:∀a∈p::q,∀u,H a=some u->H' a=some u:=λa ha u e=>gD a u e (nq a ha);have h1':∀a∈I,∀u,H a=some u->H' a=some u:=λa ha u e=>gD a u e (n1m a ha);have npL:∀a∈p::q,a∉L':=λa ha y=>by
    rcases F.own a y with z|z
    .exact nq a ha z
    .obtain⟨u,n⟩:=T a ((m a).mpr (.inr (.inl ha)));have z:H a=none:=z;rw[n] at z;cases z
   have n1L:∀a∈I,a∉L':=λa ha y=>F.xg y (Q8 _ ha);obtain⟨r,K2,e5,t1,t2⟩:=av.split F.lt F.rel;obtain⟨y,J,N2,N3,hy,hys,e4,ins2⟩:=t2.Fg ea0;have yp:y=some (.ref p):=by rw[hx] at hy;exact(Rv hy).symm
   subst yp;cases hys with
   |fr hra=>
    have eL:L'=r++(J++N3):=by simp only[e5,e4];rfl
    have pm:(r++(I++(J++((p::q)++N3)))).Perm (I++((p::q)++L')):=by rw[eL,S7];intro a;simp only[Th];lia
    have hN:∀a,a∈r++(I++(J++((p::q)++N3)))↔a∈I\/a∈p::q\/a∈L':=λa=>by rw[pm.mem_iff,Rf,Rf]
    have lq:Tq (D.g H' L') (c.g H' (r++(I++(J++((p::q)++N3))))):=λa u e nl ni=>by
     by_cases z:a∈L'\/a∈I\/a∈c.Hd
     .rw[g2in z] at e;cases e
     .rw[E (λy=>z (.inl y)) (λy=>z (.inr (.inl y))) (λy=>z (.inr (.inr y)))] at e;rw[bf (λy=>?_) (λy=>z (.inr (.inr y)))]
      .exact e
      .rcases(hN a).mp y with w|w|w
       .exact z (.inr (.inl w))
       .rcases lr.kind a w with ⟨us,n⟩|⟨C,dx,fs,n⟩
        .rw[l a w _ n] at e;exact nl us (Rv e).symm
        .rw[l a w _ n] at e;exact ni C dx fs (Rv e).symm
       .exact z (.inl w)
    have sq:Sq (c.g H L) (c.g H' (r++(I++(J++((p::q)++N3))))):=λa u e=>by
     by_cases z:a∈L\/a∈c.Hd
     .rw[gf z] at e;cases e
     .have P:a∉L:=λy=>z (.inl y);rw[bf P (λy=>z (.inr y))] at e;refine⟨u,?_,.inl rfl⟩;rw[bf (λy=>?_) (λy=>z (.inr y))]
      .exact gD a u e λy=>P ((m a).mpr (.inr (.inr y)))
      .rcases(hN a).mp y with w|w|w
       .exact P ((m a).mpr (.inl w))
       .exact P ((m a).mpr (.inr (.inl w)))
       .rcases F.own a w with v|v
        .exact P ((m a).mpr (.inr (.inr v)))
        .have v:H a=none:=v;rw[e] at v;cases v
    have HA:av c.toKx (c.g H' (r++(I++(J++((p::q)++N3))))) H' Y (U.set i s) (J++((p::q)++N3)):=by
     refine ins2 (λ{x t L} j hx Q hne h=>?_) (mk _ _ (lr.sm sq l));rcases hpl j t hne Q with z|⟨a1,rfl,ej⟩
     .exact h.pl lq z
     .obtain⟨x',_,_,_,hx',hs',_⟩:=r2.at ej;rw[hx] at hx';cases hx';cases hs' with
      |fr ra=>
       cases h with
       |fr _=>exact .fr (ra.sm sq)
    have tem:av c.toKx (c.g H' (r++(I++(J++((p::q)++N3))))) H' k X r:=t1.El λj Q h=>h.pl lq (R8.mp hp1 _ (R4 Q));refine⟨λf a ⟨p',C,dx,ws,g1,g2,g3⟩=>?_,?_⟩
    .rw[hx] at g1;cases g1;exact⟨p,C,dx,ws,hx,l p Rg _ g2,g3⟩
    refine⟨r++(I++(J++((p::q)++N3))),?_,(by rw[Q6,Q6];exact tem.app ((r1.sm sq h1').app HA)),λa ha=>?_,⟨λa o e=>?_,λw S=>?_⟩,λj o Q w0=>?_,(by rw[Rn,Rn,F.lt,b.lt]),b.hd⟩
    .refine(pm.nodup_iff).mpr (Rj.mpr ⟨n1,Rj.mpr ⟨ndq,F.nd,λa ha b hb z=>npL a ha (by rw[z];exact hb)⟩,λa ha b hb z=>?_⟩);subst z;rcases Rf.mp hb with w|w
     .exact d a ha w
     .exact n1L a ha w
    .rcases(hN a).mp ha with w|w|w
     .exact b.own a ((m a).mpr (.inl w))
     .exact b.own a ((m a).mpr (.inr (.inl w)))
     .rcases F.own a w with v|v
      .exact b.own a ((m a).mpr (.inr (.inr v)))
      .exact .inr (b.fr.fresh v)
    .obtain⟨u,f1,f2⟩:=b.fr.st a o e;obtain⟨u',g1,g2⟩:=F.fr.st a u f1;refine⟨u',g1,λk1 k2=>?_⟩;rw[g2 (λy=>?_) λw S=>nomatch S]
     .exact f2 k1 k2
     .rcases b.own a ((m a).mpr (.inr (.inr y))) with v|v
      .exact k1 v
      .rw[e] at v;cases v
    .obtain⟨k1,k2,k3⟩:=b.fr.pk w S;refine⟨gD _ _ k1 λy=>?_,k2,k3⟩;have hw2:=(m w.1).mpr (.inr (.inr y));obtain⟨ob,vs,k2⟩:=k2;exact b.rel.zR _ hw2 ob vs (by rw[k1,k2])
    .by_cases N:i=j
     .subst N;have hlt:i<U.length:=(Q4.mp ea0).1;rw[Rl hlt] at Q;cases Q;exact b.kp i _ es w0
     .rw[Rx N] at Q;exact F.kp j o Q w0
 rcases hs with rfl|rfl
 .cases V with
  |lv h=>exact key _ _ rfl rfl h λG H' h=>.lv h
 .cases V with
  |pv h=>exact key _ _ rfl rfl h λG H' h=>.pv h
end
def Ox:Sl->Bool
 | .fr _=>true
 | .un=>true
 |_=>false
def Ig(i:Nat)(Z:List Sl):Bool:=(Z.set i .un).all Ox
def nJ(i:Nat)(Z:List Sl):Option LO:=match Z[i]? with
 |some (.lv (.nob c fs ls))=>some (.nob c fs ls)
 |some (.pv (.nob c fs ls))=>some (.nob c fs ls)
 |_=>none
variable{o:LO}
theorem tJ(h:nJ i Z=some o):∃s cn fs ls,o=.nob cn fs ls/\Z[i]?=some s/\(s=.lv (.nob cn fs ls)\/s=.pv (.nob cn fs ls)):=by
 delta nJ at h
 cases e:Z[i]? with
 |none=>rw[e] at h;cases h
 |some s=>
  rw[e] at h;cases s with
  |lv o=>cases o with
   |nob cn fs ls=>cases h;exact⟨_,cn,fs,ls,rfl,rfl,.inl rfl⟩
   |_=>exact cu h
  |pv o=>cases o with
   |nob cn fs ls=>cases h;exact⟨_,cn,fs,ls,rfl,rfl,.inr rfl⟩
   |_=>exact cu h
  |_=>exact cu h
open Classical in
def jI(i:Nat)(m:Mi Rr)(Z:List Sl):Option Rr:=match nJ i Z with
 |some o=>match m (Z.set i (.fr o.a)) with
  |some (.ok r,U)=>if U=Z.set i (.fr o.a)/\Ig i Z=true/\Pj r=true then some r else none
  |_=>none
 |none=>none
variable{r:Rr}
theorem sQ{m:Mi Rr}(h:jI i m Z=some r):∃o,nJ i Z=some o/\m (Z.set i (.fr o.a))=some (.ok r,Z.set i (.fr o.a))/\Ig i Z=true/\Pj r=true:=by
 delta jI at h
 cases e:nJ i Z with
 |none=>rw[e] at h;cases h
 |some o=>
  rw[e] at h;dsimp only at h;cases e1:m (Z.set i (.fr o.a)) with
  |none=>rw[e1] at h;cases h
  |some p=>
   obtain⟨x,U⟩:=p;rw[e1] at h;cases x with
   |error _=>cases h
   |ok r'=>
    dsimp only at h;split at h
    .rename_i z;cases h;exact⟨o,rfl,by rw[z.1] at e1;exact e1,z.2.1,z.2.2⟩
    .cases h
variable{K:Kx}{Q:VK}
section
variable{X:Cx}{E:XK}
theorem wW{E:XK}{m:Mi Rr}(G:c.toKx=K)(b:Bd c Y H Z B θ)(h:jI i m Z=some r)
  (q:∀v S,VR Y r v->(∀f a,Bu Y H i f a->Bu Y S i f a)->Bd c Y S Z (cq r v B) (cp r θ)->Q v S):kF K E m Y H Q:=by
 obtain⟨o,h1,h2,h3,h4⟩:=sQ h;obtain⟨s,cn,fs,ls,rfl,es,hs⟩:=tJ h1;obtain⟨P,k1,k2,k3⟩:=Bd.LX b es hs;have hi:i<Z.length:=(Q4.mp es).1;have back:(Z.set i (.fr (LO.nob cn fs ls).a)).set i s=Z:=by
  apply SI;intro j;by_cases D:i=j
  .subst D;rw[Rl (by simpa using hi),es]
  .rw[Rx D,Rx D]
 have cond:∀j t,j≠i->(Z.set i (.fr (LO.nob cn fs ls).a))[j]?=some t->xk t=true\/∃a,t=.fr a/\Z[j]?=some (.fr a):=λj t D e=>by
  rw[Rx (R7 D)] at e;have z:=R8.mp h3 t (R4 (i:=j) (by rw[Rx (R7 D)];exact e));cases t with
  |fr a=>exact .inr ⟨a,rfl,e⟩
  |un=>exact .inl rfl
  |_=>cases z
 refine⟨P,_,[],[],.ok r,_,k1.trans G,k2,h2,λv S x n=>?_⟩;cases r with
 |rf j=>cases h4
 |fr a=>obtain⟨y,F⟩:=k3 S _ [some v] [.fr a] n ⟨_,Rl hi⟩ cond (by simp only[Rt,TU,Ta];exact h4);rw[back] at F;exact q v S x y F
 |nw o=>obtain⟨y,F⟩:=k3 S _ [some v] [.lv o] n ⟨_,Rl hi⟩ cond (by simp only[Rt,TU,Ta];exact h4);rw[back] at F;exact q v S x y F
end
section
variable{X:Cx}{pins:List (Addr×Obj)}{Y:St}{H:Hp}{s:Shared}{a C dx:Addr}{fs Z0:List (Str×V)}{f:Str}{o value:Expr}{ta tv:TE}{pos pos':Pos}
theorem m6(I:Inv X pins Y H s)(e:H a=some (.ins C dx fs))(hl:∀g,Z0.lookup g=fs.lookup g)(G:∀g,g∈fs.map (·.1)->g∈Z0.map (·.1))(hz:Z0.length<=1000):Inv X pins Y (upd H a (.ins C dx Z0)) s:=by
 obtain⟨d,z,ne,ob,mA,n,r,q⟩:=(I.hok a _ e)
 exact I.write (by rw[e];exact Wc) (.inr d) (λb u _ e=>e) (I.hok dx _ d) ⟨by rw[aj ne];exact d,hz,ne,ob,mA,n,λf=>by rw[hl];exact r f,λy hy=>G y (q y hy)⟩
def Lk(K:Q0)(ta tv:TE)(f:Str):TS:=λD Y H=>tv Y H λy S=>ta Y S λx P=>∃a C dx fs Z0,x=.ref a/\P a=some (.ins C dx fs)/\i5 K C/\cG K C f/\fs.length<1000 /\
 (∀g,Z0.lookup g=(dP f y fs).lookup g)/\(∀g,g∈(dP f y fs).map (·.1)->g∈Z0.map (·.1))/\Z0.length<=1000/\D.nx Y (upd P a (.ins C dx Z0))
theorem uG(H:Hp)(a:Addr)(x y:HO):upd (upd H a x) a y=upd H a y:=by
 funext b
 by_cases e:b=a
 .simp only[e,aF,aF]
 .simp only[aj e,aj e,aj e]
theorem ux(ha:PE X o ta)(t:PE X value tv)(hs:Yc value (some (.Attribute o f pos')) pos.line X.env=pure false):PS X (.Assign [.Attribute o f pos'] value pos) (Lk X.K ta tv f):=by intro pins s Y H D I h;refine plainObj_wpAny_Assign_Attribute (cx (t pins s Y H _ I h) λu s1 ⟨y,S,U,R,q⟩=>cx (ha pins s1 Y S _ U q) λg s2 ⟨x,P,e,J,a,C,dx,fs,Z0,ex,N,c,n,l,k1,k2,k3,j⟩=>?_) hs;subst ex;obtain rfl:g=SG a:=J;exact tI e N c n l R λp B=>⟨Y,_,by have z:=m6 B aF k1 k2 k3;rw[uG] at z;exact z,j⟩
end
section
variable{c:Cn}{Y:St}{H:Hp}{Z:List Sl}{B:St}{θ:List Sl}{L K:List Addr}
noncomputable def P0(s:Sl)(o:LO):Sl:=match s with
 | .lv _=>.lv o
 |_=>.pv o
def qI(c:Cn)(Y:St)(H:Hp)(Z:List Sl)(B:St)(θ:List Sl)(i:Nat)(cn:Str)(fs:List (Str×A))(ls:List (Str×List A))(G:Hp)(K:List Addr):Prop:=
 ∃p C dx vs ws q,Y[i]?=some (some (.ref p))/\H p=some (.ins C dx (vs++ws))/\c.mg cn=some (.ref C)/\gw c.toKx G vs fs/\eF c.toKx G H ws ls q/\q.Nodup/\p∉q/\p∉K/\(∀a∈K,a∉q) /\
  ∀X v b h s,(∀G',Sq G G'->(∀z∈q,z∉s->∀u,H z=some u->G' z=some u)->gw c.toKx G' b X)->eF c.toKx G (upd H p (.ins C dx (b++h))) h v s->s.Nodup->(∀z∈s,z∈q\/z∈K)->Bd c Y (upd H p (.ins C dx (b++h))) (setAt Z i (.nob cn X v)) B θ
theorem lh{fs:List (Str×A)}{ls:List (Str×List A)}(xg:∀z∈K++L,z∉c.Hd)(nd:(K++L).Nodup)(lt:B.length=θ.length)(rel:av c.toKx (c.g H (K++L)) H (B++Y) (θ++Z) L)(own:∀z∈K++L,z∈c.Lp\/c.H0 z=none)(fr:Fr c H)(kp:eu c.σ0 Y Z)
  (mkB:∀H' O L',L'.Nodup->av c.toKx (c.g H' L') H' (B++Y) (θ++O) L'->(∀z∈L',z∈c.Lp\/c.H0 z=none)->Fr c H'->eu c.σ0 Y O->Bd c Y H' O B θ)
  (P:aD Z i=some (.nob cn fs ls)):qI c Y H Z B θ i cn fs ls (c.g H (K++L)) K:=by
 have ndL:L.Nodup:=(Rj.mp nd).2.1;obtain⟨I,L2,e1,r1,r2⟩:=av.split lt rel;have key:∀(s:Sl),Z[i]?=some s->(s=.lv (.nob cn fs ls)\/s=.pv (.nob cn fs ls))->(∀o',setAt Z i o'=Z.set i (P0 s o'))->qI c Y H Z B θ i cn fs ls (c.g H (K++L)) K:=by
  intro s es F Q;obtain⟨x,M1,M2,R,hx,hs,e2,ins⟩:=r2.at es;have E:∀p q,x=some (.ref p)->M2=p::q->LR c.toKx (c.g H (K++L)) H p (.nob cn fs ls) q->(∀G H' o' v,LR c.toKx G H' p o' v->d9 c.toKx G H' (some (.ref p)) (P0 s o') (p::v))->qI c Y H Z B θ i cn fs ls (c.g H (K++L)) K:=by
   intro p q ex em2 lr mk;subst ex em2;cases lr with
   |nob e m r l=>
    rename_i C dx vs ws;have n:=ndL;simp only[e1,e2] at n;obtain⟨n1,n2,S⟩:=Rj.mp n;obtain⟨m1,d⟩:=iT n2;have k:(p::q).Nodup:=(Rj.mp (Rj.mp n2).1).2.1;have pL:p∈L:=by simp only[e1,e2];simp
    have qL:∀z∈q,z∈L:=λz hz=>by rw[e1,e2];simp[hz]
    have f:∀z∈K,z∉L:=λz hz hy=>(Rj.mp nd).2.2 z hz z hy rfl;refine⟨p,C,dx,vs,ws,q,hx,e,m,r,l,(RD.mp k).2,(RD.mp k).1,λhp=>f p hp pL,λa ha hq=>f a ha (qL a hq),λZ0 ls' b X v rf ol N sub=>?_⟩;have U:p∉v:=λhp=>by
     rcases sub p hp with z|z
     .exact(RD.mp k).1 z
     .exact f p z pL
    have T:∀z∈I++(M1++(p::v)++R),z∈K++L:=λz hz=>by
     have:z∈L\/z∈v:=by
      rw[e1,e2];simp only[Rf,Rc] at hz ⊢;rcases hz with h|(h|h|h)|h
      .exact .inl (.inl h)
      .exact .inl (.inr (.inl (.inl h)))
      .exact .inl (.inr (.inl (.inr (.inl h))))
      .exact .inr h
      .exact .inl (.inr (.inr h))
     rcases this with h|h
     .exact Q2 _ h
     .rcases sub z h with h|h
      .exact Q2 _ (qL z h)
      .exact Q8 _ h
    have sq:Sq (c.g H (K++L)) (c.g (upd H p (.ins C dx (b++X))) (I++(M1++(p::v)++R))):=λz u ez=>by
     by_cases hz:z∈K++L\/z∈c.Hd
     .rw[gf hz] at ez;cases ez
     .rw[bf (λy=>hz (.inl y)) (λy=>hz (.inr y))] at ez;refine⟨u,?_,.inl rfl⟩;rw[bf (λy=>hz (.inl (T z y))) (λy=>hz (.inr y)),aj λ(y:z=p)=>hz (.inl (by rw[y];exact Q2 _ pL))];exact ez
    have J:∀z∈v,z∉I/\z∉M1++R:=λz hz=>by
     rcases sub z hz with h|h
     .exact⟨λy=>S z y z (by simp[h]) rfl,d z (Q5 _ h)⟩
     .refine⟨λy=>f z h (by rw[e1];simp[y]),λy=>f z h ?_⟩;rw[e1,e2];rcases Rf.mp y with w|w<;>simp[w]
    have V:∀z∈I++(M1++R),z≠p:=λz hz y=>by
     subst y;rcases Rf.mp hz with w|w
     .exact S _ w _ Z3 rfl
     .exact d z Z3 w
    have keep:∀z∈I++(M1++R),∀u,H z=some u->upd H p (.ins C dx (b++X)) z=some u:=λz hz u e=>by rw[aj (V z hz)];exact e
    refine mkB _ _ (I++(M1++(p::v)++R)) ?_ ?_ (λz hz=>own z (T z hz)) ?_ ?_
    .have pm:(I++(M1++(p::v)++R)).Perm ((p::v)++(I++(M1++R))):=by rw[S7];intro z;simp only[Th];lia
     refine pm.nodup_iff.mpr (Rj.mpr ⟨RD.mpr ⟨U,N⟩,?_,λz hz y hy e=>?_⟩)
     .refine Rj.mpr ⟨n1,m1,λz hz y hy e=>?_⟩;subst e;exact S z hz z (by rcases Rf.mp hy with w|w<;>simp[w]) rfl
     .subst e;rcases Rc.mp hz with rfl|hz
      .exact V z hy rfl
      .rcases Rf.mp hy with w|w
       .exact(J z hz).1 w
       .exact(J z hz).2 w
    .rw[Q];have rf':=rf (c.g (upd H p (.ins C dx (b++X))) (I++(M1++(p::v)++R))) sq λz hz nz u e=>by
      have zp:z≠p:=λy=>(RD.mp k).1 (y▸hz);rw[bf (λy=>?_) (xg z (Q2 _ (qL z hz))),aj zp]
      .exact e
      .simp only[Rf,Rc] at y;rcases y with y|(y|y|y)|y
       .exact S z y z (by simp[hz]) rfl
       .exact d z (Q5 _ hz) (by simp[y])
       .exact zp y
       .exact nz y
       .exact d z (Q5 _ hz) (by simp[y])
     have i1:=ins (G':=c.g (upd H p (.ins C dx (b++X))) (I++(M1++(p::v)++R))) (H':=upd H p (.ins C dx (b++X))) (y:=some (.ref p)) (L':=p::v) sq (λz hz=>keep z (Q2 _ hz)) (mk _ _ (.nob cn Z0 ls') v (.nob (by rw[aF]) m rf' (ol.sm sq λz _ u e=>e)));have es2:Y.set i (some (.ref p))=Y:=by
      apply SI;intro j;by_cases D:i=j
      .subst D;rw[Rl (Q4.mp hx).1,hx]
      .rw[Rx D]
     rw[es2] at i1;exact(r1.sm sq λz hz=>keep z (Q8 _ hz)).app i1
    .refine⟨λz o e'=>?_,λw hw=>?_⟩
     .obtain⟨u,u1,u2⟩:=fr.st z o e';by_cases hz:z=p
      .subst hz;refine⟨_,aF,λna _=>?_⟩;rcases own z (Q2 _ pL) with y|y
       .exact absurd y na
       .rw[y] at e';cases e'
      .exact⟨u,by rw[aj hz];exact u1,u2⟩
     .obtain⟨k1,k2,k3⟩:=fr.pk w hw;refine⟨?_,k2,k3⟩;rw[aj λz=>?_]
      .exact k1
      .obtain⟨ob,us',k2⟩:=k2;rw[z,e] at k1;rw[k2] at k1;cases k1
    .rw[Q];intro j o D w;by_cases t:i=j
     .subst t;rw[Rl (Q4.mp es).1] at D;rcases F with rfl|rfl
      .cases D;cases w
      .exact kp i _ es rfl
     .rw[Rx t] at D;exact kp j o D w
  rcases F with rfl|rfl
  .cases hs with
   |lv h=>exact E _ _ rfl rfl h λG H' o' v h=>.lv h
  .cases hs with
   |pv h=>exact E _ _ rfl rfl h λG H' o' v h=>.pv h
 unfold aD at P;cases es:Z[i]? with
 |none=>rw[es] at P;cases P
 |some s=>
  rw[es] at P;cases s with
  |un=>cases P
  |cf _=>cases P
  |fr a=>cases P
  |lv o1=>cases P;exact key _ es (.inl rfl) λo'=>by unfold setAt;rw[es];rfl
  |pv o1=>cases P;exact key _ es (.inr rfl) λo'=>by unfold setAt;rw[es];rfl
theorem Bd.HG{fs:List (Str×A)}{ls:List (Str×List A)}{a:Addr}{xs:List A}(b:Bd c Y H Z (some (.ref a)::B) (.lv (.lst xs)::θ))(v:aD Z i=some (.nob cn fs ls)):
  ∃G us,H a=some (.lst us)/\bF c.toKx G us xs/\qI c Y H Z B θ i cn fs ls G [a]:=by
 obtain⟨L,b⟩:=b;have rel:av c.toKx (c.g H L) H (some (.ref a)::(B++Y)) (.lv (.lst xs)::(θ++Z)) L:=b.rel;have lt:B.length=θ.length:=by simpa using b.lt
 cases rel with
 |cons h r=>
  rename_i E L';cases h with
  |lv P=>
   cases P with
   |lst N s=>rename_i us;exact⟨_,us,N,s,lh (K:=[a]) (λz hz=>b.xg hz) b.nd lt r b.own b.fr b.kp (λH' O L2 d e C p q=>⟨L2,d,e,C,p,q,lt,b.hd⟩) v⟩
theorem dQ.xO{fs:List (Str×A)}{ls:List (Str×List A)}(b:dQ c Y H Z B θ L)(v:aD Z i=some (.nob cn fs ls)):qI c Y H Z B θ i cn fs ls (c.g H L) []:=
 lh (K:=[]) (λz hz=>b.xg hz) b.nd b.lt b.rel b.own b.fr b.kp (λH' O L2 d e C p q=>⟨L2,d,e,C,p,q,b.lt,b.hd⟩) v
end
noncomputable def cC{α:Type}(f:Str):List (Str×α)->List (Str×α)
 |[]=>[]
 |(y,v)::r=>if f==y then cC f r else (y,v)::cC f r
section
variable{α:Type}{f g:Str}{k:Kx}{G H H':Hp}
theorem jo:∀{l:List (Str×α)},(cC f l).lookup g=if g=f then none else l.lookup g
 |[]=>by split<;>rfl
 |(y,v)::r=>by
  have u:=jo (l:=r);unfold cC;by_cases c:(f==y)=true
  .rw[Zv c,u,Rk];have:=eq_of_beq c;subst this;by_cases e:g=f
   .rw[Zv e,Zv e]
   .rw[Zw e,Zw e,beq_eq_false_iff_ne.mpr e]
  .rw[Zw c,Rk,Rk,u];by_cases e:g=f
   .subst e;cases z:(g==y) with
    |true=>exact absurd z c
    |false=>rfl
   .rw[Zw e,Zw e]
theorem gh:∀{l:List (Str×α)},(cC f l).length<=l.length
 |[]=>Q9 _
 |(y,v)::r=>by
  have u:=gh (l:=r);unfold cC;split
  .exact Wu u
  .exact Nat.succ_le_succ u
theorem k9:∀{l:List (Str×α)},g∈l.map (·.1)↔l.lookup g≠none
 |[]=>by simp
 |(y,v)::r=>by
  have u:=k9 (l:=r);rw[RO,Rc,Rk];cases c:(g==y) with
  |true=>simp[eq_of_beq c]
  |false=>simp only[beq_eq_false_iff_ne.mp c,false_or];exact u
theorem mv{l K:List (Str×α)}(h:∀g,K.lookup g=l.lookup g)(g:Str):g∈l.map (·.1)->g∈K.map (·.1):=λz=>k9.mpr (by rw[h];exact k9.mp z)
theorem gw.del:∀{vs:List (Str×V)}{fs:List (Str×A)},gw k G vs fs->gw k G (cC f vs) (cC f fs)
 |_,_,.nil=>.nil
 |(y,v)::vs,_,.cons h r=>by
  have l:=gw.del r;unfold cC;split
  .exact l
  .exact .cons h l
theorem eF.del:∀{ws:List (Str×V)}{ls:List (Str×List A)}{q:List Addr},eF k G H ws ls q->q.Nodup->∃v,eF k G H (cC f ws) (cC f ls) v/\v.Nodup/\∀z∈v,z∈q
 |_,_,_,.nil,_=>⟨[],.nil,.nil,λ_ h=>h⟩
 |(y,_)::ws,_,_,.cons (a:=a) e r t,nd=>by
  obtain⟨v,h1,h2,h3⟩:=eF.del t (RD.mp nd).2;unfold cC;split
  .exact⟨v,h1,h2,λz hz=>Q5 _ (h3 z hz)⟩
  .exact⟨a::v,.cons e r h1,RD.mpr ⟨λz=>(RD.mp nd).1 (h3 _ z),h2⟩,λz hz=>by
    rcases Rc.mp hz with rfl|hz
    .exact Rg
    .exact Q5 _ (h3 z hz)⟩
theorem eF.snoc{a:Addr}{us:List V}{xs:List A}(e:H a=some (.lst us))(r:bF k G us xs):∀{ws:List (Str×V)}{ls:List (Str×List A)}{q:List Addr},eF k G H ws ls q->eF k G H (ws++[(f,.ref a)]) (ls++[(f,xs)]) (q++[a])
 |_,_,_,.nil=>.cons e r .nil
 |_,_,_,.cons e' r' t=>.cons e' r' (eF.snoc e r t)
theorem eF.qy:∀{ws:List (Str×V)}{ls:List (Str×List A)}{q:List Addr},eF k G H ws ls q->ws.length=ls.length
 |_,_,_,.nil=>rfl
 |_,_,_,.cons _ _ t=>Zz (·+1) (eF.qy t)
end
section
variable{X:Cx}{E:XK}
def kb(cs:List Str)(i:Nat)(f:Str)(m:Mi Rr):Ms:=cT m λr Z=>match r,aD Z i with
 | .nw (.lst xs),some (.nob c fs ls)=>if cs.contains c&&SE (fs.length+ls.length) 900 then some (.nx,setAt Z i (.nob c (cC f fs) (cC f ls++[(f,xs)]))) else none
 | .nw (.lst xs),some (.obj c fs)=>if cs.contains c&&SE fs.length 900&&(fs.lookup f).isNone then some (.nx,setAt Z i (.nob c fs [(f,xs)])) else none
 |_,_=>none
theorem BX{x:Str}{m:Mi Rr}(hN:X.N[i]?=some x)(d:mL X.env.scope x)(hd:eV x)(R:pE x)(hc:∀c C,cs.contains c=true->X.mg c=some (.ref C)->i5 X.K C/\cG X.K C f)(he:JE X E e m)
  (hs:Yc e (some (.Attribute (.Name x px) f p1)) pos.line X.env=pure false):JS X E (.Assign [.Attribute (.Name x px) f p1] e pos) (kb cs i f m):=
 ⟨PS.weaken (ux (bW hN d hd R) he.p hs) λD Y H h=>by
  obtain⟨c,Z,B,θ,fl,O,F,b,em,q⟩:=h;refine dN F b em q λr v U H1 d n Q=>?_;cases r with
  |rf j=>cases Q
  |fr a=>cases Q
  |nw o=>
   cases o with
   |lst xs=>
    cases A:aD U i with
    |none=>rw[A] at Q;cases Q
    |some lo=>
     rw[A] at Q;cases lo with
     |nob cn fs ls=>
      dsimp only at Q;by_cases hl:(cs.contains cn&&SE (fs.length+ls.length) 900)=true
      .rw[Zv hl] at Q;cases Q;simp only[QZ] at hl;have L:=R0 hl.2;obtain⟨a,rfl⟩:=Bd.sA n;obtain⟨G,us,ha,ra,p,C,dx,vs,ws,q0,h1,h2,h3,h4,h5,I,h7,h8,h9,fin⟩:=n.HG A;have T:X.mg cn=some (.ref C):=by have:=Zz (λk:Kx=>k.mg cn) F;simp only at this;rw[<-this];exact h3
       obtain⟨P,J⟩:=hc cn C hl.1 T;obtain⟨q',o1,o2,t⟩:=eF.del (f:=f) h5 I;have lv:=h4.len;have lw:=h5.qy;have S:p≠a:=λz=>h8 (RC.mpr z);have lk:∀g,(cC f vs++(cC f ws++[(f,V.ref a)])).lookup g=(dP f (.ref a) (vs++ws)).lookup g:=λg=>by
        simp only[dO,RI,RI,jo,jo,RI];by_cases e:g=f
        .simp only[Zv e];rw[e];simp
        .simp only[Zw e];rw[Rk,beq_eq_false_iff_ne.mpr e];simp
       refine⟨_,h1,p,C,dx,vs++ws,cC f vs++(cC f ws++[(f,V.ref a)]),rfl,h2,P,J,by rw[Rn];lia,lk,mv lk,?_,q Y _ (fin _ _ _ _ (q'++[a]) (λ_ s _=>h4.del.sm s) (eF.snoc ?_ ra (o1.sm (Sq.refl _) λz hz u e=>?_)) ?_ ?_)⟩
       .have:=gh (f:=f) (l:=vs);have:=gh (f:=f) (l:=ws);simp only[Rn,Tw];lia
       .rw[aj S.symm];exact ha
       .rw[aj λ(y:z=p)=>h7 (by rw[<-y];exact t z hz)];exact e
       .exact Rj.mpr ⟨o2,by simp,λz hz y hy e=>h9 a (RC.mpr rfl) (by rw[<-RC.mp hy,<-e];exact t z hz)⟩
       .intro z hz;rcases Rf.mp hz with w|w
        .exact .inl (t z w)
        .exact .inr w
      .rw[Zw hl] at Q;cases Q
     |obj cn fs=>
      dsimp only at Q;by_cases hl:(cs.contains cn&&SE fs.length 900&&(fs.lookup f).isNone)=true
      .rw[Zv hl] at Q;cases Q;rw[QZ,QZ,R3] at hl;have L:=R0 hl.1.2;obtain⟨a,rfl⟩:=Bd.sA n;obtain⟨p,C,dx,vs,h1,h2,h3,h4,h5,I⟩:=Bd.give (f:=f) n A;have T:X.mg cn=some (.ref C):=by have:=Zz (λk:Kx=>k.mg cn) F;simp only at this;rw[<-this];exact h3
       obtain⟨P,J⟩:=hc cn C hl.1.1 T;have z:=qG f (.ref a) (h5 hl.2);exact⟨_,h1,p,C,dx,vs,vs++[(f,.ref a)],rfl,h2,P,J,by lia,λg=>by rw[z],λg hg=>by rw[z] at hg;exact hg,by simp only[Rn,Tw];lia,q Y _ I⟩
      .rw[Zw hl] at Q;cases Q
     |_=>cases Q
   | _=>cases Q⟩
def dS(cs:List Str)(i:Nat)(f:Str)(m:Mi Rr):Ms:=cT m λr Z=>match bE r Z with
 |some (a,U)=>match aD U i with
  |some (.nob c fs ls)=>if cs.contains c&&SE (fs.length+ls.length) 900 then some (.nx,setAt U i (.nob c (kq f a fs) (cC f ls))) else none
  |some (.obj c fs)=>if cs.contains c&&SE fs.length 900 then some (.nx,setAt U i (.obj c (kq f a fs))) else none
  |_=>none
 |none=>none
theorem BG{x:Str}{m:Mi Rr}(hN:X.N[i]?=some x)(t:mL X.env.scope x)(hd:eV x)(R:pE x)(hc:∀c C,cs.contains c=true->X.mg c=some (.ref C)->i5 X.K C/\cG X.K C f)(he:JE X E e m)
  (hs:Yc e (some (.Attribute (.Name x px) f p1)) pos.line X.env=pure false):JS X E (.Assign [.Attribute (.Name x px) f p1] e pos) (dS cs i f m):=
 ⟨PS.weaken (ux (bW hN t hd R) he.p hs) λD Y H h=>by
  obtain⟨c,Z,B,θ,fl,O,G,b,em,q⟩:=h;refine dN G b em q λr v U I t b1 Q=>?_;cases e1:bE r U with
  |none=>rw[e1] at Q;cases Q
  |some pr=>
   obtain⟨a,Z'⟩:=pr;rw[e1] at Q;dsimp only at Q;have S:=Bd.bE (xs:=[]) (ss:=[]) rfl b1 t e1;cases A:aD Z' i with
   |none=>rw[A] at Q;cases Q
   |some lo=>
    rw[A] at Q;cases lo with
    |nob cn fs ls=>
     dsimp only at Q;by_cases hl:(cs.contains cn&&SE (fs.length+ls.length) 900)=true
     .rw[Zv hl] at Q;cases Q;simp only[QZ] at hl;have o:=R0 hl.2;obtain⟨L,bl,P⟩:=Bd.tS S;obtain⟨p,C,dx,vs,ws,q0,h1,h2,h3,h4,h5,h6,h7,h8,h9,fin⟩:=bl.xO A;have T:X.mg cn=some (.ref C):=by have:=Zz (λk:Kx=>k.mg cn) G;simp only at this;rw[<-this];exact h3
      obtain⟨w,J⟩:=hc cn C hl.1 T;obtain⟨q',o1,o2,j⟩:=eF.del (f:=f) h5 h6;have lv:=h4.len;have lw:=h5.qy;have F:∀g,(dP f v vs++cC f ws).lookup g=(dP f v (vs++ws)).lookup g:=λg=>by
       simp only[dO,RI,jo,dO,RI];by_cases e:g=f
       .simp only[Zv e];rfl
       .simp only[Zw e]
      refine⟨_,h1,p,C,dx,vs++ws,dP f v vs++cC f ws,rfl,h2,w,J,by rw[Rn];lia,F,mv F,?_,q Y _ (fin _ _ _ _ q' (λ_ s _=>(h4.put P).sm s) (o1.sm (Sq.refl _) λz hz u e=>?_) o2 λz hz=>.inl (j z hz))⟩
      .have:=gh (f:=f) (l:=ws);have:=eW f v vs;simp only[Rn];lia
      .rw[aj λ(y:z=p)=>h7 (by rw[<-y];exact j z hz)];exact e
     .rw[Zw hl] at Q;cases Q
    |obj cn fs=>
     dsimp only at Q;by_cases hl:(cs.contains cn&&SE fs.length 900)=true
     .rw[Zv hl] at Q;cases Q;rw[QZ] at hl;have o:=R0 hl.2;obtain⟨L,bl,P⟩:=Bd.tS S;obtain⟨p,_,h1,h2,h3⟩:=bl.live A (.obj cn (kq f a fs)) (match I (match Y[i]? with|some (some (.ref p))=>p|_=>0) with|some (.ins C dx ws)=>.ins C dx (dP f v ws)|_=>.lst []);cases h2 with
      |obj n d V=>
       rename_i C dx ws;simp only[h1,n] at h3;have T:X.mg cn=some (.ref C):=by have:=Zz (λk:Kx=>k.mg cn) G;simp only at this;rw[<-this];exact d
       obtain⟨w,J⟩:=hc cn C hl.1 T;have lw:=V.len;exact⟨_,h1,p,C,dx,ws,dP f v ws,rfl,n,w,J,by lia,λg=>rfl,λg hg=>hg,by have:=eW f v ws;lia,q Y _ (h3 λH' hh=>.obj hh d (V.put P))⟩
     .rw[Zw hl] at Q;cases Q
    | _=>cases Q⟩
end
def yG:A->A->Option Rr
 | .lst as,.int i=>match jl as with
  |some ns=>match yw ns i with
   |some j=>some (.fr (.int j))
   |none=>none
  |none=>none
 |_,_=>none
noncomputable def En:A->Bool
 | .lst _=>true
 |_=>false
variable{apos cpos:Pos}
section
variable{X:Cx}{E:XK}
theorem Gj:iY K (λx y H Q=>Ew K.K x [y] H Q) yG:=.scalar λH v w a b q V G h=>by
 cases a with
 |lst as=>
  cases b with
  |int i=>
   have h:(match jl as with
    |some ns=>match yw ns i with
     |some j=>some (Rr.fr (.int j))
     |none=>none
    | none=>none)=some q:=h
   cases e1:jl as with
   |none=>rw[e1] at h;cases h
   |some ns=>
    rw[e1] at h;dsimp only at h;cases e2:yw ns i with
    |none=>rw[e2] at h;cases h
    |some j=>
     rw[e2] at h;cases h;cases G;cases V with
     |lst e r=>have o:=vi r e1;subst o;exact⟨_,_,rfl,λ_=>.int _,λQ k=>⟨_,ns,i,j,rfl,rfl,e,e2,k⟩⟩
  |_=>exact cu h
 |_=>exact cu h
def uz(mo m:Mi Rr):Mi Rr:=aO mo λx S=>match res S x with
 | some a0=>if En a0=true then aO m (λy Z=>match res Z x,res Z y with
  |some a,some b=>match yG a b with
   |some q=>some (.ok q,Z)
   |none=>none
  | _,_=>none) S else none
 |none=>none
theorem DX{o:Expr}{mo m:Mi Rr}(ho:JE X E o mo)(he:JE X E e m)
  (hbase:X7 o "index" X.env (eval o X.env)=eval o X.env:=by rfl)(hfew:((X4 cpos (XU [e] X.env)).all (λx=>!x.1)&&(Yl cpos (Yb [] X.env)).all (λx=>x.1.isSome)&&decide (([e]:List Expr).length+([]:List Ym).length+(if ([]:List Ym).isEmpty then 0 else 1)<30))=true:=by rfl)
  (hline:(apos.endLine==cpos.line)=true:=by rfl)(hs:XU [e] X.env=(false,eval e X.env)::XU [] X.env:=by rfl)(hplain:(X4 cpos (XU [] X.env)).any (·.1)=false:=by rfl):JE X E (.Call (.Attribute o "index" apos) [e] [] cpos) (uz mo m):=
 ⟨PE.weaken (xG T8 Vp PySem.F.type_list_index FW ho.p (aR he.p cc hs) hbase hfew hline hs hplain) λY H Q h=>by
  obtain⟨c,Z,B,θ,oo,O,ek,b,em,q⟩:=h;refine aZ ek b em (λx v U H1 hv b1 em1=>?_) (bB q);cases e0:res U x with
  |none=>rw[e0] at em1;cases em1
  |some a0=>
   rw[e0] at em1;dsimp only at em1;by_cases ht:En a0=true
   .rw[Zv ht] at em1;have r0:=Bd.rd b1 hv e0;rw[ek] at r0;cases a0 with
    |lst as=>
     cases r0 with
     |lst sq0 _=>refine⟨.inl ⟨rfl,_,sq0⟩,?_⟩;refine aZ ek b1 em1 (λy w Z' H2 hw b2 em2=>?_) (dj (bB q));obtain⟨a,d,r,e1,e2,e3,rfl,rfl⟩:=uc em2;exact Gj c Y H2 _ B θ x y _ w a d r Q ek hv hw b2 e1 e2 e3 q
    |_=>exact yW ht
   .rw[Zw ht] at em1;cases em1⟩
end
section
variable{k:Kx}{G H:Hp}{f:Str}
theorem eF.Ni:∀{ws:List (Str×V)}{ls:List (Str×List A)}{q:List Addr}{xs:List A},eF k G H ws ls q->q.Nodup->ls.lookup f=some xs->∃a ys v,ws.lookup f=some (.ref a)/\H a=some (.lst ys)/\bF k G ys xs/\a∈q/\a∉v/\eF k G H (cC f ws) (cC f ls) v/\v.Nodup/\∀z∈v,z∈q
 |_,_,_,_,.nil,_,h=>nomatch h
 |_,_,_,_,.cons (y:=y) (a:=a0) (us:=us) e r t,nd,h=>by
  have Y:=RD.mp nd;simp only[Rk] at h;simp only[Rk];unfold cC;cases hc:f==y with
  |true=>rw[hc] at h;cases h;obtain⟨v,h1,h2,h3⟩:=eF.del t Y.2;exact⟨a0,us,v,rfl,e,r,Rg,λz=>Y.1 (h3 _ z),h1,h2,λz hz=>Q5 _ (h3 z hz)⟩
  |false=>
   rw[hc] at h;obtain⟨a,ys,v,h1,h2,h3,h4,h5,I,m,Z⟩:=eF.Ni t Y.2 h;refine⟨a,ys,a0::v,h1,h2,h3,Q5 _ h4,λz=>?_,.cons e r I,RD.mpr ⟨λz=>Y.1 (Z _ z),m⟩,λz hz=>?_⟩
   .rcases Rc.mp z with rfl|z
    .exact Y.1 h4
    .exact h5 z
   .rcases Rc.mp hz with rfl|hz
    .exact Rg
    .exact Q5 _ (Z z hz)
end
section
variable{c:Cn}{Y:St}{H:Hp}{Z:List Sl}{B:St}{θ:List Sl}
theorem Bd.Dl{fs:List (Str×A)}{ls:List (Str×List A)}{xs:List A}(b:Bd c Y H Z B θ)(v:aD Z i=some (.nob cn fs ls))(e1:fs.lookup f=none)(e2:ls.lookup f=some xs):
  ∃p C dx ws h,Y[i]?=some (some (.ref p))/\H p=some (.ins C dx ws)/\(∀g,h.lookup g=ws.lookup g)/\(∀g,g∈ws.map (·.1)->g∈h.map (·.1))/\h.length<=fs.length+ls.length+1/\Bd c Y (upd H p (.ins C dx h)) (setAt Z i (.nob cn (fs++[(f,.lst xs)]) (cC f ls))) B θ:=by
 obtain⟨L,bl⟩:=b;obtain⟨p,C,dx,vs,ws,K,h1,h2,h3,h4,h5,I,q,Q,E,fin⟩:=bl.xO v;obtain⟨a,ys,S,k1,k2,k3,k,k5,x,X,m⟩:=eF.Ni h5 I e2;have lv:=h4.len;have D:=h5.qy;have o:vs.lookup f=none:=by
  rcases h4.get f with ⟨_,_,_,y,_⟩|⟨y,_⟩
  .rw[e1] at y;cases y
  .exact y
 have F:∀g,(vs++[(f,V.ref a)]++cC f ws).lookup g=(vs++ws).lookup g:=λg=>by
  by_cases e:g=f
  .subst e;simp only[RI,RI,RI,o,k1];simp
  .simp only[RI,RI,RI,jo,Zw e,Rk,beq_eq_false_iff_ne.mpr e];simp
 refine⟨p,C,dx,vs++ws,vs++[(f,V.ref a)]++cC f ws,h1,h2,F,mv F,?_,fin (fs++[(f,.lst xs)]) (cC f ls) (vs++[(f,V.ref a)]) (cC f ws) S (λG' s kp=>gw.app (h4.sm s) (.cons (.lst (.inl (.inl (kp a k k5 _ k2))) (k3.sm s)) .nil)) (x.sm (Sq.refl _) λz hz u e=>?_) X λz hz=>.inl (m z hz)⟩
 .have:=gh (f:=f) (l:=ws);simp only[Rn,Tw];lia
 .rw[aj λ(y:z=p)=>q (by rw[<-y];exact m z hz)];exact e
end
theorem yB{o':LO}(h:aD Z i=some o):aD (setAt Z i o') i=some o':=by
 delta aD at h
 delta aD setAt
 cases e:Z[i]? with
 |none=>rw[e] at h;cases h
 |some s=>
  rw[e] at h;have hi:=(Q4.mp e).1;cases s with
  |lv R=>dsimp only;rw[Rl hi]
  |pv R=>dsimp only;rw[Rl hi]
  |_=>exact cu h
theorem set_set{R o2:LO}(h:aD Z i=some o):setAt (setAt Z i R) i o2=setAt Z i o2:=by
 delta aD at h
 delta setAt
 cases e:Z[i]? with
 |none=>rw[e] at h;cases h
 |some s=>
  rw[e] at h;have hi:=(Q4.mp e).1;cases s with
  |lv R=>dsimp only;rw[Rl hi];simp
  |pv R=>dsimp only;rw[Rl hi];simp
  |_=>exact cu h
theorem vE{f:Str}{xs o:List A}:∀{ls:List (Str×List A)},ls.lookup f=some xs->(iz f o ls).lookup f=some o
 |[],h=>nomatch h
 |(y,zs)::r,h=>by
  simp only[Rk] at h;unfold iz;cases hc:f==y with
  |true=>rw[Zv rfl,Rk,hc]
  |false=>rw[hc] at h;rw[Zw Z3,Rk,hc];exact vE h
theorem n6{f:Str}{o:List A}:∀{ls:List (Str×List A)},cC f (iz f o ls)=cC f ls
 |[]=>rfl
 |(y,zs)::r=>by
  unfold iz;cases hc:f==y with
  |true=>rw[Zv rfl];delta cC;show (if (f==y)=true then _ else _)=(if (f==y)=true then _ else _);rw[hc];rfl
  |false=>show (if (f==y)=true then cC f (iz f o r) else (y,zs)::cC f (iz f o r))=(if (f==y)=true then cC f r else (y,zs)::cC f r);rw[hc,n6]
theorem qw{f:Str}{o:List A}:∀{ls:List (Str×List A)},(iz f o ls).length=ls.length
 |[]=>rfl
 |(y,zs)::r=>by
  unfold iz;split
  .rfl
  .simp only[Rb,Rb,qw]
section
variable{X:Cx}{E:XK}
theorem xq{t:TE}(h:PE X e t):PE X e (λY H Q=>t Y H λv S=>∃a C dx fs c,S a=some (.ins C dx fs)/\(∀g,c.lookup g=fs.lookup g)/\(∀g,g∈fs.map (·.1)->g∈c.map (·.1))/\c.length<=1000/\Q v (upd S a (.ins C dx c))):=
 λpins s Y H Q I q=>cx (h pins s Y H _ I q) λu s1 ⟨y,S,U,z,a,C,dx,fs,c,e,k1,k2,k3,q⟩=>⟨y,_,m6 U e k1 k2 k3,z,q⟩
def qe(cs:List Str)(Z:List Sl)(i:Nat)(f:Str)(a:A):Option (List Sl):=match aD Z i with
 | some (.nob c fs ls)=>if cs.contains c&&(fs.lookup f).isNone&&SE (fs.length+ls.length) 900 then (match ls.lookup f with
  |some xs=>if xs.length<=100000 then some (setAt Z i (.nob c (fs++[(f,.lst (xs++[a]))]) (cC f ls))) else none
  | none=>none) else none
 |_=>none
theorem sV{O:List Sl}{a:A}(h:qe cs Z i f a=some O):∃c fs ls xs,aD Z i=some (.nob c fs ls)/\fs.lookup f=none/\fs.length+ls.length<=900/\ls.lookup f=some xs/\xs.length<=100000/\ownAt cs Z i f=some xs/\O=setAt Z i (.nob c (fs++[(f,.lst (xs++[a]))]) (cC f ls)):=by
 delta qe at h
 delta ownAt
 cases v:aD Z i with
 |none=>rw[v] at h;cases h
 |some lo=>
  rw[v] at h;cases lo with
  |nob cn fs ls=>
   dsimp only at h;by_cases e:(cs.contains cn&&(fs.lookup f).isNone&&SE (fs.length+ls.length) 900)=true
   .rw[Zv e] at h;rw[QZ] at e;have k:=e.1;rw[QZ,R3] at k;cases H:ls.lookup f with
    |none=>rw[H] at h;cases h
    |some xs=>
     rw[H] at h;dsimp only at h;by_cases hl:xs.length<=100000
     .rw[Zv hl] at h;cases h;exact⟨cn,fs,ls,xs,rfl,k.2,R0 e.2,H,hl,by dsimp only;rw[Zv e.1];exact H,rfl⟩
     .rw[Zw hl] at h;cases h
   .rw[Zw e] at h;cases h
  |_=>exact cu h
def nX(cs:List Str)(i:Nat)(f:Str)(m:Mi Rr):Mi Rr:=λZ=>match ownAt cs Z i f,jI i m Z with
 |some _,some r=>match bE r Z with
  |some (a,U)=>match qe cs U i f a with
   |some Z'=>some (.ok (.fr .non),Z')
   |none=>none
  |none=>none
 |_,_=>none
theorem BZ{x:Str}{m:Mi Rr}(hN:X.N[i]?=some x)(t:mL X.env.scope x)(hd:eV x)(R:pE x)
  (hc:∀c C,cs.contains c=true->X.mg c=some (.ref C)->i5 X.K C/\cG X.K C f)
  (d:X7 (.Name x px) f X.env (eval (.Name x px) X.env)=eval (.Name x px) X.env)(he:JE X E e m)
  (y:X7 (.Attribute (.Name x px) f p1) "append" X.env (eval (.Attribute (.Name x px) f p1) X.env)=eval (.Attribute (.Name x px) f p1) X.env)
  (k:((X4 cpos (XU [e] X.env)).all (λx=>!x.1)&&(Yl cpos (Yb [] X.env)).all (λx=>x.1.isSome)&&decide (([e]:List Expr).length+([]:List Ym).length+(if ([]:List Ym).isEmpty then 0 else 1)<30))=true)
  (D:(apos.endLine==cpos.line)=true)(hs:XU [e] X.env=(false,eval e X.env)::XU [] X.env)(z:(X4 cpos (XU [] X.env)).any (·.1)=false):
  JE X E (.Call (.Attribute (.Attribute (.Name x px) f p1) "append" apos) [e] [] cpos) (nX cs i f m):=
 ⟨PE.weaken (xq (xG T8 Vj Vk oz (jV (bW hN t hd R) d) (aR he.p cc hs) y k D hs z)) λY H Q h=>by
  obtain⟨c,Z,B,θ,o,O,s,b,em,q⟩:=h
  delta nX at em
  cases e1:ownAt cs Z i f with
  |none=>rw[e1] at em;cases em
  |some xs=>
   cases e2:jI i m Z with
   |none=>rw[e1,e2] at em;cases em
   |some r=>
    rw[e1,e2] at em;dsimp only at em;cases T:bE r Z with
    |none=>rw[T] at em;cases em
    |some pr=>
     obtain⟨a,U⟩:=pr;rw[T] at em;dsimp only at em;cases A:qe cs U i f a with
     |none=>rw[A] at em;cases em
     | some Z'=>rw[A] at em;cases em;obtain⟨cn,fs,ls,J,P,n,l9,I,hl,V,rfl⟩:=sV A;obtain⟨L,bl⟩:=id b;obtain⟨p,ys,S,h1,h5,h6,_⟩:=sS s hc bl e1;refine h1 _ ⟨.inl ⟨rfl,_,.inl (.inl h5)⟩,?_⟩;refine wW s b e2 λv H1 t g b1=>?_;have b2:=Bd.bE (xs:=[]) (ss:=[]) rfl b1 t T;obtain⟨L2,w,ra⟩:=Bd.tS b2;obtain⟨p2,j,l2,_,g5,G,g7⟩:=sS s hc w V;obtain rfl:=(g f p S).one l2;have F:=g7 _ _ (G.snoc ra);rw[jQ _ P] at F;obtain⟨p',C,dx,ws,u,w1,w2,w3,w4,w5,l⟩:=Bd.Dl F (yB P) n (vE I);rw[set_set P,n6] at l;rw[qw] at w5;exact⟨p,j,v,rfl,rfl,g5,by have:=G.len;have:=Yo;lia,p',C,dx,ws,u,w2,w3,w4,by lia,q _ _ trivial (Bd.push l λ_=>.non)⟩⟩
end
variable{p:Addr}
section
variable{c:Cn}{Y:St}{H:Hp}{Z:List Sl}{B:St}{θ:List Sl}
theorem Bd.JN{as:List A}(b:Bd c Y H Z (some (.ref p)::B) (.lv (.lst as)::θ)):∃us,H p=some (.lst us)/\us.length=as.length/\∀(q:Nat)(s:Int),Bd c Y (upd H p (.lst (us.set q (.int s)))) Z (some (.ref p)::B) (.lv (.lst (as.set q (.int s)))::θ):=by
 obtain⟨L,b⟩:=b;have rel:=b.rel;cases rel with
 |cons h r=>
  rename_i E L';cases h with
  |lv m=>
   cases m with
   |lst e P=>
    rename_i us;refine⟨us,e,P.len,λq s=>?_⟩;have nd:=RD.mp b.nd;have S:p∈[p]++L':=by simp
    have sq:Sq (c.g H ([p]++L')) (c.g (upd H p (.lst (us.set q (.int s)))) ([p]++L')):=λz u a=>by
     by_cases hz:z∈[p]++L'\/z∈c.Hd
     .rw[gf hz] at a;cases a
     .rw[bf (λy=>hz (.inl y)) (λy=>hz (.inr y))] at a;refine⟨u,?_,.inl rfl⟩;rw[bf (λy=>hz (.inl y)) (λy=>hz (.inr y)),aj λ(y:z=p)=>hz (.inl (by simp only[y];exact S))];exact a
    refine⟨[p]++L',b.nd,?_,b.own,⟨λz o k=>?_,λw f=>?_⟩,b.kp,b.lt,b.hd⟩
    .exact .cons (.lv (.lst aF ((P.sm sq).set (.int s) q))) (r.sm sq λz hz u e=>by rw[aj λ(y:z=p)=>nd.1 (y▸hz)];exact e)
    .obtain⟨u,x,l⟩:=b.fr.st z o k;by_cases hz:z=p
     .subst hz;refine⟨_,aF,λU _=>?_⟩;rcases b.own z S with y|y
      .exact absurd y U
      .rw[y] at k;cases k
     .exact⟨u,by rw[aj hz];exact x,l⟩
    .obtain⟨k1,k2,k3⟩:=b.fr.pk w f;refine⟨?_,k2,k3⟩;rw[aj λz=>?_]
     .exact k1
     .obtain⟨ob,v,k2⟩:=k2;simp only[z,e] at k1;rw[k2] at k1;cases k1
end
section
variable{X:Cx}{E:XK}
def Dw(cs:List Str)(Z:List Sl)(o:Nat)(f:Str):Option Int:=match aD Z o with
 | some (.nob c fs _)=>if cs.contains c then (match fs.lookup f with
  |some (.int s)=>some s
  | _=>none) else none
 |_=>none
theorem wu{o:Nat}{s:Int}(h:Dw cs Z o f=some s):∃c fs ls,aD Z o=some (.nob c fs ls)/\cs.contains c=true/\fs.lookup f=some (.int s):=by
 delta Dw at h
 cases v:aD Z o with
 |none=>rw[v] at h;cases h
 |some lo=>
  rw[v] at h;cases lo with
  |nob cn fs ls=>
   dsimp only at h;by_cases e:cs.contains cn=true
   .rw[Zv e] at h;cases e2:fs.lookup f with
    |none=>rw[e2] at h;cases h
    |some a=>
     rw[e2] at h;cases a with
     |int i=>cases h;exact⟨cn,fs,ls,rfl,e,e2⟩
     |_=>exact cu h
   .rw[Zw e] at h;cases h
  |_=>exact cu h
theorem dQ.Ov{fs:List (Str×A)}{ls:List (Str×List A)}{a:A}(bl:dQ c Y H Z B θ L)(P:aD Z i=some (.nob cn fs ls))(e2:fs.lookup f=some a):
  ∃p C dx ws v,Y[i]?=some (some (.ref p))/\H p=some (.ins C dx ws)/\c.mg cn=some (.ref C)/\ws.lookup f=some v/\RA c.toKx (c.g H L) v a:=by
 obtain⟨p,_,h1,h2,X⟩:=bl.live P (.nob cn fs ls) (.lst []);cases h2 with
 |nob e m r l=>
  rename_i C dx vs ws;rcases r.get f with ⟨u,a',E,F,N⟩|⟨_,F⟩
  .rw[e2] at F;cases F;exact⟨p,C,dx,vs++ws,u,h1,e,m,iJ E,N⟩
  .rw[e2] at F;cases F
def u0(cs:List Str)(i j z o:Nat)(f:Str)(m:Mi Rr):Ms:=cT m λr Z=>match r with
 | .nw (.lst as)=>match aD Z i,intAt Z j,intAt Z z,Dw cs Z o f with
  |some (.lst xs),some k,some l,some s=>match fV xs.length k,fV as.length l with
   |some n,some q=>some (.nx,setAt Z i (.lst (xs.set n (.lst (as.set q (.int s))))))
   |_,_=>none
  |_,_,_,_=>none
 |_=>none
theorem yT{a b:Addr}{x y:HO}(h:a≠b):upd (upd H a x) b y=upd (upd H b y) a x:=by
 funext d
 by_cases e:d=b
 .subst e;simp only[aF,aj (λz=>h z.symm),aF]
 .by_cases e2:d=a
  .subst e2;simp only[aj e,aF,aF]
  .simp only[aj e,aj e2,aj e2,aj e]
theorem v3{z o:Nat}{m:Mi Rr}{te:TE}(hc:∀c C,cs.contains c=true->X.mg c=some (.ref C)->i5 X.K C/\cG X.K C f)(hw:∀Y H Q,kF (kx X) E m Y H Q->te Y H Q)(D:Ends)(Y:St)(H:Hp)
  (h:Ey (kx X) E (u0 cs i j z o f m) D Y H):yX (qx te (yM (mW i) (mW j) qH)) (qx (Jq X.K (mW o) f) (yM (Kb (Jf X.K) (mW i) (mW j)) (mW z) qH)) D Y H:=by
 obtain⟨c,Z,B,θ,fl,O,ek,b,em,q⟩:=h;refine hw _ _ _ (dN ek b em q λr v U S hv d u=>?_);cases r with
 |rf j=>cases u
 |fr a=>cases u
 |nw lo=>
  cases lo with
  |lst as=>
   cases e1:aD U i with
   |none=>rw[e1] at u;cases u
   |some lo=>
    cases e2:intAt U j with
    |none=>rw[e1,e2] at u;cases lo<;>exact cu u
    |some k=>
     cases P:intAt U z with
     |none=>rw[e1,e2,P] at u;cases lo<;>exact cu u
     |some l=>
      cases J:Dw cs U o f with
      |none=>rw[e1,e2,P,J] at u;cases lo<;>exact cu u
      |some s=>
       rw[e1,e2,P,J] at u;cases lo with
       |lst xs=>
        dsimp only at u;cases T:fV xs.length k with
        |none=>rw[T] at u;cases u
        |some n=>
         cases R:fV as.length l with
         |none=>rw[T,R] at u;cases u
         |some N=>
          simp only[T,R] at u;cases u;obtain⟨p,rfl⟩:=Bd.sA d;obtain⟨us,k1,k2,k3⟩:=Bd.JN d;have b2:=k3 N s;have b3:Bd c Y (upd S p (.lst (us.set N (.int s)))) U (some (.ref p)::B) (.fr (.lst (as.set N (.int s)))::θ.map Sl.fr):=Bd.bE (xs:=[]) (ss:=[]) (r:=.nw (.lst (as.set N (.int s)))) rfl b2 (by trivial) rfl;obtain⟨L3,I,ra⟩:=Bd.tS b3;obtain⟨y,vs,s1,s2⟩:=mw d e1;obtain⟨L1,G⟩:=id d;obtain⟨cn,fs,ls,f1,f2,f3⟩:=wu J;obtain⟨po,C,dx,ws,vo,o1,o2,o3,o4,o5⟩:=G.Ov f1 f3;obtain⟨vj,j1,j2⟩:=G.DZ (iK e2);obtain⟨vz,z1,z2⟩:=G.DZ (iK P);cases j2;cases z2;cases o5;have t:X.mg cn=some (.ref C):=by have:=Zz (λk:Kx=>k.mg cn) ek;simp only at this;rw[<-this];exact o3
          obtain⟨c1,c2⟩:=hc cn C f2 t;have ypo:y≠po:=λw=>by simp only[w,o2] at s2;cases s2
          have yp:y≠p:=λw=>by
           obtain⟨L,bb⟩:=d;have rel:av c.toKx (c.g S L) S (some (.ref p)::(B++Y)) (.lv (.lst as)::(θ.map Sl.fr++U)) L:=bb.rel;cases rel with
           |cons h r=>
            cases h with
            |lv lr=>
             obtain⟨L1,L2,g1,r1,r2⟩:=av.split (by have:(some (V.ref p)::B).length=(Sl.lv (.lst as)::θ.map Sl.fr).length:=bb.lt;simpa using this) r;have key:∀s:Sl,U[i]?=some s->(s=.lv (.lst xs)\/s=.pv (.lst xs))->False:=λs es hst=>by
              obtain⟨x,M1,M2,M3,hx,hs,g2,_⟩:=r2.at es;rw[s1] at hx;cases hx;have:y∈M2:=by
               rcases hst with rfl|rfl
               .cases hs;exact Rg
               .cases hs;exact Rg
              have nd:=bb.nd;rw[g1,g2] at nd;have:=(Rj.mp nd).2.2 p Rg y (by simp[this]);exact this w.symm
             delta aD at e1
             cases es:U[i]? with
             |none=>rw[es] at e1;cases e1
             |some s=>
              rw[es] at e1;cases s with
              |lv o=>cases e1;exact key _ es (.inl rfl)
              |pv o=>cases e1;exact key _ es (.inr rfl)
              |_=>exact cu e1
          obtain⟨y',_,h1,h2,h3⟩:=I.live e1 (.lst (xs.set n (.lst (as.set N (.int s))))) (.lst (vs.set n (.ref p)));rw[s1] at h1;cases h1;have hvs:∃vl,bF c.toKx (c.g (upd S p (.lst (us.set N (.int s)))) L3) vl xs/\vl=vs:=by
           cases h2 with
           |lst e r=>rw[aj yp,s2] at e;cases e;exact⟨_,r,rfl⟩
          obtain⟨vl,F,evl⟩:=hvs;rw[evl] at F;have A:=F.len;have hn:n<vs.length:=by rw[A];exact(pO T).2.1
          refine⟨_,s1,_,j1,y,vs,k,n,rfl,rfl,s2,by rw[A];exact T,?_⟩;refine⟨_,o1,po,C,dx,ws,_,rfl,by rw[aj ypo.symm];exact o2,c1,c2,o4,?_⟩;refine⟨_,s1,_,j1,y,vs.set n (.ref p),k,.ref p,rfl,rfl,.of aF,Ir (by rw[Vc,A];exact T) (by rw[Rl hn]),_,z1,p,us,l,N,rfl,rfl,by rw[aj yp.symm];exact k1,by rw[k2];exact R,?_⟩;rw[yT yp];cases h2 with
          |lst e r=>exact q Y _ (h3 λH' hh=>.lst hh (F.set ra n))
       |_=>cases u
  |_=>cases u
theorem xV{a b:Stmt}{r:List Stmt}{ta tb:TS}{m n:Ms}(C:PS X a ta)(z:PS X b tb)(w:∀D Y H,Ey (kx X) E m D Y H->yX ta tb D Y H)(h':pY X E r n):pY X E (a::b::r) (aC m n):=⟨pZ.weaken (md C (md z h'.p)) λD Y H h=>by
 refine w { D with nx:=Ey (kx X) E n D } Y H ?_;obtain⟨c,Z,B,θ,f,O,G,b,em,q⟩:=h
 delta aC at em
 cases e:m Z with
 |none=>rw[e] at em;cases em
 |some p=>
  obtain⟨y,U⟩:=p;rw[e] at em;refine⟨c,Z,B,θ,y,U,G,b,e,?_⟩;cases y with
  |nx=>exact λj H' F=>⟨c,U,B,θ,f,O,G,F,em,q⟩
  |rt s=>cases em;exact q
  |bk=>cases em;exact q
  |ct=>cases em;exact q
  | ex x=>cases em;exact q⟩
end
variable{w:X1}{lo hi:Int}{u:Tok}{q1 q2:Pos}
section
open PyProof.Rows
noncomputable def NW(p:Addr)(lo hi:Int):HO:=.exd λh=>∃t u v,IsRange h p lo hi 1 t u v
section
variable{X:Cx}{E:XK}
theorem Fy{prog:Program}{h:Heap}{t v:Tok}(e:IsRange h p lo hi 1 t u v):cy prog w H h p (NW p lo hi):=
 ⟨⟨t,u,v,e⟩,⟨_,e⟩,λ_ _ ⟨t,u,v,q⟩ k=>⟨t,u,v,k _ q⟩⟩
theorem wO:dE X (.type "range") (λxs H Q=>∃j:Int,xs=[.int j]/\∀p,H p=none->Q (.ref p) (upd H p (NW p 0 j))):=by intro pins s Y H xs us Q I r h;obtain⟨j,rfl,q⟩:=h;obtain⟨u,rfl,K⟩:=vals1 r;obtain⟨t,rfl⟩:=K;exact call_range_1 ⟨.ref s.heap.objs.size,_,I.laid (λb o e=>Rm _ e) (Q9 _) (Fy (RF _ rfl)),rfl,q _ (I.hok.fresh (Q9 _))⟩
theorem wb:dE X (.type "range") (λxs H Q=>∃i j:Int,xs=[.int i,.int j]/\∀p,H p=none->Q (.ref p) (upd H p (NW p i j))):=by
 intro pins s Y H xs us Q I r h;obtain⟨i,j,rfl,q⟩:=h;cases r with
 |cons r V=>
  cases V with
  |cons k V=>cases V;obtain⟨t,rfl⟩:=r;obtain⟨E,rfl⟩:=k;exact call_range_2 ⟨.ref s.heap.objs.size,_,I.laid (λb o e=>Rm _ e) (Q9 _) (Fy (RF _ rfl)),rfl,q _ (I.hok.fresh (Q9 _))⟩
noncomputable def r9(lo:Int)(n:Nat):List V:=(Rp n).map λi=>.int (lo+(i:Nat))
theorem AO{n:Nat}{acc:Array Value}(h:ItemsOf (λi v=>∃t,v=Uc (lo+(i:Nat)*1) t) acc n):Vals (r9 lo n) acc.toList:=by
 obtain⟨h1,h2⟩:=h;obtain⟨l⟩:=acc;have key:∀(l:List Value)(k n:Nat),l.length=n->(∀(j:Nat)(v:Value),l[j]?=some v->∃t,v=Uc (lo+((j+k:Nat):Int)*1) t)->Vals ((List.range' k n).map λi=>V.int (lo+(i:Nat))) l:=by
  intro l;induction l with
  |nil=>intro k n e _;subst e;exact .nil
  |cons a l u=>
   intro k n e h;subst e;refine .cons ?_ (u (k+1) _ rfl λj v e=>?_)
   .obtain⟨t,rfl⟩:=h 0 a rfl;exact⟨t,by simp⟩
   .obtain⟨t,rfl⟩:=h (j+1) v e;exact⟨t,by rw[show j+1+k=j+(k+1) by lia]⟩
 have:=key l 0 n h1 (by simpa using h2);rw[<-List.range_eq_range'] at this;exact this
theorem nB(hc:X.calm=true):dE X (.type "list") (λxs H Q=>∃(p:Addr)(lo hi:Int),xs=[.ref p]/\H p=some (NW p lo hi) /\ -(2^60)<=lo/\lo<2^60 /\ -(2^60)<=hi/\hi<2^60/\(hi-lo).toNat<=100000/\∀l,H l=none->Q (.ref l) (upd H l (.lst (r9 lo (hi-lo).toNat)))):=by
 intro pins s Y H xs us Q I r h;obtain⟨p,lo,hi,rfl,hp,n,R,F,a,d,q⟩:=h;obtain⟨u,rfl,K⟩:=vals1 r;cases K;obtain⟨⟨t,u,v,e⟩,_,_⟩:=(I.hok p _ hp)
 have hn:SF lo hi 1=((hi-lo).toNat:Nat):=by rw[rangeSize_one];split<;>lia
 refine call_list_range (I.ok.hd hc) e (small_one Q1 (by exact Kf) Q1 (by exact Kf)) hn Z4 λh' tk Z C kp c b=>?_;refine⟨.ref s.heap.objs.size,_,I.laid kp (Q9 _) (show cy X.prog X.w _ h' _ (.lst (r9 lo (hi-lo).toNat)) from ⟨?_,Z.toList,C,AO b,by simpa using c⟩),rfl,q _ (I.hok.fresh (Q9 _))⟩;have:=Yo;unfold r9;simp only[Q7,UY];exact mK
theorem Dg{k:Kx}{G:Hp}(lo:Int)(n:Nat):bF k G (r9 lo n) (bp lo n):=by
 delta r9 bp
 generalize Rp n=l
 induction l with
 |nil=>exact .nil
 |cons i l u=>exact .cons (.int _) u
theorem qf{Y:L2.St}{B:L2.St}{n:Nat}(b:Bd c Y H Z B θ)(q:∀v H',VR Y (.nw (.lst (bp lo n))) v->Bd c Y H' Z (some v::B) (.lv (.lst (bp lo n))::θ)->Q v H')(l:Addr)(h:H l=none):Q (.ref l) (upd H l (.lst (r9 lo n))):=by obtain⟨L,bl⟩:=b;exact q _ _ trivial (bl.kr h λG H' _ e=>.lst e (Dg lo n))
noncomputable def CW(lo hi:Int):Bool:=decide (-(2^60)<=lo/\lo<2^60 /\ -(2^60)<=hi/\hi<2^60/\(hi-lo).toNat<=100000)
def fh(m:Mi Rr):Mi Rr:=aO m λr Z=>match res Z r with
 |some (.int j)=>if CW 0 j=true then some (.ok (.nw (.lst (bp 0 (j-0).toNat))),Z) else none
 |_=>none
theorem zo{a:Expr}{m:Mi Rr}(hc:X.calm=true)(G:Gl X "list")(hm:X.mg "list" = none)(t:XX "list" = some (.type "list"))(f:Gl X "range")(C:X.mg "range" = none)(ha:JE X E a m)
  (hs:XU [a] X.env=(false,eval a X.env)::XU [] X.env):JE X E (.Call (.Name "list" p1) [.Call (.Name "range" p2) [a] [] q2] [] q1) (fh m):=
 ⟨PE.weaken (fv (nB hc) G hm t (aR (fv wO f C YT (aR ha.p cc hs) Z1 Z1 hs rfl) cc rfl) Z1 Z1 rfl rfl) λY H Q h=>by
  obtain⟨c,Z,B,θ,o,O,e,b,em,q⟩:=h;refine aZ e b em (λx v U S t n u=>?_) (bB q);obtain⟨j,e1,z⟩:=zE u;have V:=Bd.rd n t e1;cases V;by_cases hl:CW 0 j=true
  .rw[Zv hl] at z;cases z;have hl:=ZC hl;refine⟨j,rfl,λp hp=>⟨p,0,j,rfl,aF,by decide,by decide,by lia,by lia,hl.2.2.2.2,λl hl=>?_⟩⟩;exact qf (n.drop.new hp) q l hl
  .rw[Zw hl] at z;cases z⟩
def lQ(m n:Mi Rr):Mi Rr:=aO m λr=>aO n λt=>λZ=>match res Z r,res Z t with
 |some (.int i),some (.int j)=>if CW i j=true then some (.ok (.nw (.lst (bp i (j-i).toNat))),Z) else none
 |_,_=>none
theorem Ba{a f:Expr}{m n:Mi Rr}(hc:X.calm=true)(G:Gl X "list")(hm:X.mg "list" = none)(t:XX "list" = some (.type "list"))(C:Gl X "range")(L:X.mg "range" = none)(ha:JE X E a m)(K:JE X E f n)
  (hs:XU [a,f] X.env=(false,eval a X.env)::XU [f] X.env)(g:XU [f] X.env=(false,eval f X.env)::XU [] X.env)(hp:(X4 q2 (XU [f] X.env)).any (·.1)=false):JE X E (.Call (.Name "list" p1) [.Call (.Name "range" p2) [a,f] [] q2] [] q1) (lQ m n):=
 ⟨PE.weaken (fv (nB hc) G hm t (aR (fv wb C L YT (aR ha.p (aR K.p cc g) hs) Z1 Z1 hs hp) cc rfl) Z1 Z1 rfl rfl) λY H Q h=>by
  obtain⟨c,Z,B,θ,o,O,e,b,em,q⟩:=h;refine aZ e b em (λx v U I t V u=>?_) (bB q);refine aZ e V u (λy w Z' P S r z=>?_) (dj (bB q));obtain⟨i,j,e1,e2,z⟩:=rL z;obtain⟨rfl,rfl⟩:v=.int i/\w=.int j:=by have k:=Bd.rd r S e2;have D:=Bd.rd r.drop t e1;cases D;cases k;exact⟨rfl,rfl⟩
  by_cases hl:CW i j=true
  .rw[Zv hl] at z;cases z;have hl:=ZC hl;refine⟨i,j,rfl,λp hp=>⟨p,i,j,rfl,aF,by lia,by lia,by lia,by lia,hl.2.2.2.2,λl hl=>?_⟩⟩;exact qf (r.drop.drop.new hp) q l hl
  .rw[Zw hl] at z;cases z⟩
end
end
variable{d:Expr}
section
open PyProof.Rows
noncomputable def CU(lo c:Int)(n:Nat):It:=⟨λi _=>i<n,λi H x H'=>H'=H/\x=.int (lo+i*c),λi _=>n<=i⟩
theorem qW{P:Program}{K:Q0}{tg:Expr}(it:Addr)(lo c:Int)(n:Nat):Turn P w K tg (CU lo c n) [it] it (λi h=>Zi h it (lo+(i:Nat)*c) ((n:Int)-(i:Nat)) c) where
 mem:=by simp
 obj:=λi h st b d=>by
  have e:b=it:=by simpa using d
  subst e;exact⟨_,st,λv z=>by have u:=z;cases u⟩
 keep:=λi h h' st k=>k it Z3 _ st
 item:=by intro X p f j hc i pins s Y H E I hf st G;subst p f j;obtain⟨a,y,F,r,Z,A⟩:=hf it Z3;have W:=W4 (prog:=X.prog) (w:=X.w) (I.ok.hd hc) it lo c n;refine W.item i s _ _ G st λv h' tk x L N=>?_;obtain⟨t,rfl⟩:=x;have U:Inv X pins Y H { s with heap:=h',toks:=tk }:=I.turned (λb o d e=>N b o (by simpa using d) e) a y r Z A;exact⟨_,rfl,uq L rfl rfl Z1 ⟨.int (lo+i*c),H,U,⟨t,rfl⟩,⟨rfl,rfl⟩,L,λb d=>(hf b d).1⟩⟩
 done:=by intro X p f j hc i pins s Y H E I hf st G;obtain⟨a,y,F,r,Z,A⟩:=hf it Z3;exact YR (I.ok.hd hc) st (by have:n<=i:=G;lia) λh' J=>⟨rfl,I.turned (λb o d e=>J b o d e) a y r Z A⟩
 self:=λ_ _ _ _ _ st h=>YS st h
noncomputable def A8(lo hi c:Int):Nat:=if lo<hi then ((hi-lo-1) / c+1).toNat else 0
theorem Il{c:Int}(h:0<c):SF lo hi c=(A8 lo hi c:Nat):=by
 delta SF A8
 rw[Zv h]
 by_cases e:lo<hi
 .rw[Zv e,Zv e]
  have:=Int.ediv_nonneg (show 0<=hi-lo-1 by lia) (show 0<=c by exact SR ‹_›)
  lia
 .rw[Zw e,Zw e];rfl
section
variable{X:Cx}{E:XK}{tg:Expr}
theorem wI{pins:List (Addr×Obj)}{Y:L2.St}{s:Shared}{R:It->Hp->Prop}{E:Value->Shared->Prop}{c:Int}{t v:Tok}{tk:Nat}(I:Inv X pins Y H s)(h:Ug lo hi c=true)(hc:0<c)
  (q:R (CU lo c (A8 lo hi c)) H):X0 (XZ X.prog X.w) X.A (pyIter (.ref s.heap.objs.size)) (NS X pins Y tg R) E { s with heap:=s.heap.push { cls:=.type "range",data:=.fields #[.int lo t,.int hi u,.int c v] },toks:=tk }:=by
 refine Y4 (WL ..) h ?_;have U:Inv X pins Y H { s with heap:=s.heap.push { cls:=.type "range",data:=.fields #[.int lo t,.int hi u,.int c v] },toks:=tk }:=I.kept λb o e=>Rm _ e;refine⟨(s.heap.push { cls:=.type "range",data:=.fields #[.int lo t,.int hi u,.int c v] }).objs.size,[(s.heap.push { cls:=.type "range",data:=.fields #[.int lo t,.int hi u,.int c v] }).objs.size],_,_,H,rfl,
  U.kept λb o e=>Rm _ e,qW _ lo c (A8 lo hi c),?_,λb d=>?_,q⟩
 .have e1:lo+((0:Nat):Int)*c=lo:=by simp
  have e2:((A8 lo hi c:Nat):Int)-((0:Nat):Int)=SF lo hi c:=by rw[Il hc];rfl
  simp only[e1,e2];exact RF _ rfl
 .have e:b=(s.heap.push { cls:=.type "range",data:=.fields #[.int lo t,.int hi u,.int c v] }).objs.size:=by simpa using d
  subst e;exact U.vX (Q9 _) (U.hok.fresh (Q9 _))
noncomputable def Iv(lo hi c:Int):Bool:=decide (0<c)&&decide (c.natAbs<2^60)&&Ug lo hi c
def ML(ta:TA):TI:=λY H R=>ta Y H λvs S=>∃i j c:Int,vs=[.int i,.int j,.int c]/\Iv i j c=true/\R (CU i c (A8 i j c)) S
theorem yh{c:Int}(h:Iv lo hi c=true):0<c/\Ug lo hi c=true/\∀x,U7 x c=false:=by unfold Iv at h;simp only[QZ,QZ,decide_eq_true_eq,decide_eq_true_eq] at h;refine⟨h.1.1,h.2,λx=>?_⟩;unfold U7;have:c.natAbs.log2<60:=(V7 Q1).mpr h.1.2;rw[Bool.and_eq_false_iff];left;refine Zx ?_;show ¬ (if (c==0)=true then 0 else c.natAbs.log2 / 30+1) > 300;split<;>lia
theorem wm{a b:Expr}{ta:TA}{p:Pos}(G:Gl X "range")(hm:X.mg "range" = none)(ha:PA X [a,b,d] ta)(hs:XU [a,b,d] X.env=(false,eval a X.env)::XU [b,d] X.env)(hp:(X4 pos (XU [b,d] X.env)).any (·.1)=false):
  PI X tg (.Call (.Name "range" p) [a,b,d] [] pos) (ML ta):=by
 intro pins s Y H R I h;refine Call_ (gm I G hm YT (Sb (cx (ha pos pins s Y H _ I h) λus s1 ⟨vs,S,U,w,q1⟩=>?_) hs hp));obtain⟨i,j,c,e,ok,q⟩:=q1;subst e;obtain⟨k1,k2,k3⟩:=yh ok;cases w with
 |cons r V=>
  cases V with
  |cons r' V=>
   cases V with
   |cons Z V=>cases V;obtain⟨t,rfl⟩:=r;obtain⟨t',rfl⟩:=r';obtain⟨B,rfl⟩:=Z;exact call_range_3 (by exact R5 ‹_›) (wI U k2 k1 q) (.inl (k3 _))
noncomputable def qQ(lo c:Int)(n:Nat):List A:=(Rp n).map λi=>.int (lo+(i:Nat)*c)
theorem Dx{c:Int}{n:Nat}:Je K (CU lo c n) [] [] (qQ lo c n):=λcn Y H Z N D B θ i e f b=>by
 have hl:(qQ lo c n).length=n:=by simp[qQ]
 refine⟨λh=>by rw[hl] at h;exact h,λa ha=>?_⟩;have hi:i<n:=by rw[<-hl];exact(Q4.mp ha).1
 refine⟨hi,λx H' y=>?_⟩;obtain⟨rfl,rfl⟩:=y;have:a=.int (lo+i*c):=by unfold qQ at ha;simp only[RN,SQ hi] at ha;exact(Rv ha).symm
 subst this;exact b.push λ_=>.int _
theorem xJ{u w x:Option A}{F:Int->Int->Int->Option α}{r:α} (h:(match u,w,x with
 |some (.int i),some (.int j),some (.int k)=>F i j k
 | _,_,_=>none)=some r):∃i j k,u=some (.int i)/\w=some (.int j)/\x=some (.int k)/\F i j k=some r:=by
 split at h
 .rename_i i j k;exact⟨i,j,k,rfl,rfl,rfl,h⟩
 .cases h
def qv(m n o:Mi Rr):Mi (List A):=aO m λr=>aO n λt=>aO o λu=>λZ=>match res Z r,res Z t,res Z u with
 |some (.int i),some (.int j),some (.int c)=>if Iv i j c=true then some (.ok (qQ i c (A8 i j c)),Z) else none
 |_,_,_=>none
theorem CJ{a b:Expr}{m n o:Mi Rr}{p:Pos}(G:Gl X "range")(hm:X.mg "range" = none)(ha:JE X E a m)(g:JE X E b n)(hd:JE X E d o)
  (Q:XU [a,b,d] X.env=(false,eval a X.env)::XU [b,d] X.env)(f:XU [b,d] X.env=(false,eval b X.env)::XU [d] X.env)(K:XU [d] X.env=(false,eval d X.env)::XU [] X.env)(hp:(X4 pos (XU [b,d] X.env)).any (·.1)=false):JI X E tg (.Call (.Name "range" p) [a,b,d] [] pos) (qv m n o):=⟨λpins s Y H R I h=>by
 refine wm G hm (aR ha.p (aR g.p (aR hd.p cc K) f) Q) Q hp pins s Y H R I ?_;obtain⟨c,Z,B,θ,o,O,e,b,em,q⟩:=h;refine aZ e b em (λx v U H1 t V L=>?_) (dh q);refine aZ e V L (λy w Z' H2 S N l=>?_) (dj (dh q));refine aZ e N l (λz u F A T r C=>?_) (dj (dj (dh q)));obtain⟨i,j,k,e1,e2,P,C⟩:=xJ C;obtain⟨rfl,rfl,rfl⟩:v=.int i/\w=.int j/\u=.int k:=by have J:=Bd.rd r T P;have r2:=Bd.rd r.drop S e2;have r1:=Bd.rd r.drop.drop t e1;cases r1;cases r2;cases J;exact⟨rfl,rfl,rfl⟩
 by_cases D:Iv i j k=true
 .rw[Zv D] at C;cases C;exact⟨i,j,k,rfl,D,q _ A [] [] rfl Dx r.drop.drop.drop⟩
 .rw[Zw D] at C;cases C⟩
end
end
end M
set_option maxHeartbeats 4000000
set_option maxHeartbeats 1000000
namespace M
open PySem L2
section
variable{X:Cx}{E:XK}
def Fq(K:Q0):R2:=λx y H Q=>∃l k xs,x=.ref l/\y=.int k/\dI K H l xs /\ -(2^63)<=k/\k<2^63/\xs.length*k.toNat<=sizeLine/\∀p,H p=none->Q (.ref p) (upd H p (.lst (Q3 k.toNat xs).flatten))
theorem B7:iC X (Yu .Mult) (Fq X.K):=by
 intro pins s Y H x y v u Q I J z h;obtain⟨l,k,xs,rfl,rfl,C,h1,h2,hz,q⟩:=h;cases J;obtain⟨t,rfl⟩:=z;obtain⟨b,r,f,_⟩:=I.list C;obtain⟨⟨U,S,P,i⟩,n,e,B,o,D⟩:=id f;subst B D o;have hl:=r.length;have E:b.toArray.size*k.toNat<=sizeLine:=by rw[Ri,<-hl];exact hz
 have p:¬ b.toArray.size*k.toNat > (2^63-1) / 8:=by
  have:(sizeLine:Nat)<=(2^63-1) / 8:=by decide
  lia
 have Z:¬ (!Xs k)=true:=by rw[fitsIndex_both h1 h2];exact RZ
 have c:¬ TK (b.toArray.size*k.toNat)=true:=by rw[Av E];exact RZ
 have G:UO (λx1 x2=>x1++x2) #[] (Q3 (if b.toArray.isEmpty=true then 0 else k.toNat) b.toArray)=(Q3 k.toNat b).flatten.toArray:=by
  have R:∀m:Nat,UO (λx1 x2=>x1++x2) #[] (Q3 m b.toArray)=(Q3 m b).flatten.toArray:=λm=>by have:=foldl_rep b m [];exact this
  rw[R];cases b with
  |nil=>simp
  |cons a r'=>rw[Zw Z3]
 refine wpAny_binaryOp_repeat_ref Z1 ⟨_,e,rfl⟩ (λs'=>Zt s' k t) noFill_list_mul F.fills_int_mul W8 repeat_list F.slot_int_index.lookup
  (Y7 W8 (Zt s k t) F.entry_int_rmul (F.args_int_rmul_2 _ _) (lm_int_rmul_list_any k t l b.toArray n _ _)
   ⟨e,rfl,⟨_,e,rfl⟩,Y7 F.slot_list_mul ⟨_,e,rfl⟩ F.entry_list_mul (F.args_list_mul_2 _ _) (lm_list_mul_any l b.toArray n _ _ k t Z p c) ⟨e,?_⟩⟩)
 rw[G];exact⟨.ref _,_,I.IK (r.rep k.toNat) (by rw[len_rep,TY];exact hz),rfl,q _ I.fresh⟩
theorem bF.rep{k:Kx}{G:Hp}{vs:List V}{as:List A}(r:bF k G vs as):∀n:Nat,bF k G (Q3 n vs).flatten (Q3 n as).flatten
 |0=>.nil
 |n+1=>by exact r.app (bF.rep r n)
noncomputable def cY:A->A->Option Rr
 | .lst xs,.int k=>if 0<=k/\k<=1000/\xs.length<=100 then some (.nw (.lst (Q3 k.toNat xs).flatten)) else none
 |_,_=>none
theorem G0{K:Kx}:iY K (Fq K.K) cY:=by
 intro c Y H Z B θ x y v w a b q Q e t f bd e1 e2 T k;cases a<;>first|(exact cu T)|(cases b<;>first|(exact cu T)|skip)
 rename_i xs n
 delta cY at T
 dsimp only at T;by_cases hc:0<=n/\n<=1000/\xs.length<=100
 .rw[Zv hc] at T;cases T;obtain⟨L,bl,s,h⟩:=Bd.zd bd t f e1 e2;obtain⟨D,X,rfl,s1,V⟩:=s.1 xs rfl;have i:=Bd.rd bd f e2;cases i;have r:=V.len;subst e;have hz:=RG (WW (show X.length<=100 by lia) (show n.toNat<=1000 by lia)) kl;exact⟨D,n,X,rfl,rfl,s1,by lia,by lia,hz,λp hp=>k _ _ trivial (bl.kr hp λG H' sm q=>.lst q ((V.rep n.toNat).sm sm))⟩
 .rw[Zw hc] at T;cases T
theorem HV{a b:Expr}{ma mb:Mi Rr}{pos:Pos}(ha:JE X E a ma)(d:JE X E b mb):JE X E (.BinOp a .Mult b pos) (aA cY ma mb):=lM B7 G0 ha d
end
end M
set_option maxHeartbeats 4000000
namespace M
open PySem L2
variable{ma mb:Mi Rr}{pos:Pos}
section
variable{X:Cx}{E:XK}
abbrev aQ:=OI Em yq
theorem CC{a b:Expr}(ha:JE X E a ma)(d:JE X E b mb):JE X E (.BinOp a .Add b pos) (aA aQ ma mb):=lM (iC.or' Hw zZ) (Ce.or B2) ha d
theorem DC{a b:Expr}(ha:JE X E a ma)(d:JE X E b mb):JE X E (.BinOp a .Mult b pos) (aA bG ma mb):=lM Ea D4 ha d
end
def MR(K:Q0)(ta:TA):TI:=λY H R=>ta Y H λvs S=>∃a b xs ys,vs=[.ref a,.ref b]/\dI K S a xs/\dI K S b ys/\R (MW K a b) S
variable{e1 e2:Expr}{p tp:Pos}{es:List Expr}{kk:Nat}
section
variable{X:Cx}{E:XK}
theorem Cb{ta:TA}(G:Gl X "zip")(hm:X.mg "zip" = none)(ha:PA X [e1,e2] ta)(hs:XU [e1,e2] X.env=[(false,eval e1 X.env),(false,eval e2 X.env)])(g:XU [e2] X.env=[(false,eval e2 X.env)]):
  PI X (.Tuple es kk tp) (.Call (.Name "zip" p) [e1,e2] [] pos) (MR X.K ta):=by
 intro pins s Y H R I h;refine Xu (gm I G hm Hl (Sb (cx (ha pos pins s Y H _ I h) λus s1 ⟨vs,S,U,V,N⟩=>?_) (by simp only[hs,g]) (by rw[g];rfl)));obtain⟨a,b,xs,ys,rfl,y,L,q⟩:=N;obtain⟨u,v,rfl,r,r'⟩:=V.two;cases r;cases r';have fin:∀{J:It}{St:Nat->Heap->Prop}{h':Heap},a<s1.heap.objs.size->b<s1.heap.objs.size->(∀c o,s1.heap.get? c=some o->h'.get? c=some o)->IsZip h' (s1.heap.objs.size+4) (s1.heap.objs.size+2) (s1.heap.objs.size+3) .none->St 0 h'->
   Turn X.prog X.w X.K (.Tuple es kk tp) J [s1.heap.objs.size+4,s1.heap.objs.size+2,s1.heap.objs.size+3,s1.heap.objs.size,s1.heap.objs.size+1] (s1.heap.objs.size+4) St->R J S->X0 (XZ X.prog X.w) X.A (pyIter (.ref (s1.heap.objs.size+4))) (NS X pins Y (.Tuple es kk tp) R) X.xe { s1 with heap:=h' }:=by
  intro J St h' x B keep Z z T q;have E:=U.kept (t':=s1.toks) keep;refine wpAny_pyIter_zip Z ⟨_,[s1.heap.objs.size+4,s1.heap.objs.size+2,s1.heap.objs.size+3,s1.heap.objs.size,s1.heap.objs.size+1],_,_,S,rfl,E,T,z,λc hc=>?_,q⟩;have m:s1.heap.objs.size<=c:=by simp only[Rc,R1,or_false] at hc;rcases hc with rfl|rfl|rfl|rfl|rfl<;>first|exact Sv _ _|exact Q9 _
  exact U.vX m (U.hok.fresh m)
 obtain⟨l,F,C,_⟩:=U.list y;obtain⟨f,D,Q,_⟩:=U.list L;have x:a<s1.heap.objs.size:=by obtain⟨o,e,_⟩:=C.isList;exact Rq e
 have B:b<s1.heap.objs.size:=by obtain⟨o,e,_⟩:=Q.isList;exact Rq e
 exact call_zip_2 C.isList Q.isList λh' P k i j O n keep=>fin x B keep P (⟨P,k,⟨_,_,i⟩,j,O⟩:AW h' _ _ _ _ _ a b 0) (vM (Xv x B)) q
def lJ(ma mb:Mi Rr):Mi (List A):=aO ma λx=>aO mb λy=>λZ=>match dH [x,y] Z with
 |some ([.lst as,.lst bs],O)=>some (.ok (pd as bs),O)
 |_=>none
theorem BC{m n:Mi Rr}(hg:Gl X "zip")(hm:X.mg "zip" = none)(h1:JE X E e1 m)(h2:JE X E e2 n)(hs:XU [e1,e2] X.env=[(false,eval e1 X.env),(false,eval e2 X.env)])(k:XU [e2] X.env=[(false,eval e2 X.env)])(r:XU [e1,e2] X.env=(false,eval e1 X.env)::XU [e2] X.env)(F:XU [e2] X.env=(false,eval e2 X.env)::XU [] X.env):
  JI X E (.Tuple es kk tp) (.Call (.Name "zip" p) [e1,e2] [] pos) (lJ m n):=⟨λpins s Y H R I h=>by
 refine Cb hg hm (aR h1.p (aR h2.p cc F) r) hs k pins s Y H R I ?_;obtain⟨c,Z,B,θ,o,O,e,b,em,q⟩:=h;refine aZ e b em (λx v U H1 hv b1 G=>?_) (dh q);refine aZ e b1 G (λy w Z' P hw V C=>?_) (dj (dh q));cases d:dH [x,y] Z' with
 |none=>rw[d] at C;cases C
 |some pr=>
  rw[d] at C;obtain⟨cs,S⟩:=pr;cases cs with
  |nil=>cases C
  |cons ca l=>cases ca with
   |lst as=>cases l with
    |nil=>cases C
    |cons cb l=>cases cb with
     |lst bs=>cases l with
      |cons _ _=>cases C
      |nil=>
       cases C;have eK:c.K=X.K:=Zz Kx.K e;have b3:Bd c Y P _ ([some w,some v]++B) ([Sl.fr (.lst bs),Sl.fr (.lst as)]++θ):=(Bd.dH (rs:=[x,y]) (vs:=[v,w]) ⟨hv,hw,trivial⟩ V d).1;obtain⟨L0,bl0,w0,v0⟩:=Bd.Lh (xs:=[]) (ss:=[]) rfl b3;cases w0 with
       |lst we wr=>
       cases v0 with
       |lst ve vr=>
       rename_i pw us pv ts;refine⟨pv,pw,ts,us,rfl,by rw[<-eK];exact eU (g_same _ _ _) ve,by rw[<-eK];exact eU (g_same _ _ _) we,q _ P [some (.ref pw),some (.ref pv)] [.lst bs,.lst as] rfl (λc' j H' O N D J T i ek' lx b'=>?_) b3⟩;have A:c'.K=X.K:=Zz Kx.K ek';obtain⟨L,bl,w1,v1⟩:=Bd.Lh (B:=J) (θ:=T) lx b';cases w1 with
       |lst we wr=>
       cases v1 with
       |lst ve vr=>
       rename_i Q f;have sw:dI X.K H' pw Q:=by rw[<-A];exact eU (g_same _ _ _) we
       have sv:dI X.K H' pv f:=by rw[<-A];exact eU (g_same _ _ _) ve
       refine⟨λhi=>⟨f,Q,sv,sw,?_⟩,λa ha=>?_⟩
       .unfold pd at hi;rw[Q7,TL] at hi;by_cases z:as.length<=i
        .exact .inl (Sz (by rw[vr.len];exact z))
        .exact .inr (Sz (by rw[wr.len];lia))
       .unfold pd at ha;rw[RN] at ha;cases ez:(as.zip bs)[i]? with
        |none=>rw[ez] at ha;cases ha
        |some pr=>rw[ez] at ha;cases ha;obtain⟨za,zb⟩:=S4.mp ez;obtain⟨t,g1,g2⟩:=vr.ta za;obtain⟨u,k1,k2⟩:=wr.ta zb;refine⟨⟨f,Q,t,u,sv,sw,g1,k1⟩,λx P yy=>?_⟩;obtain⟨tt,x',y',rfl,hn,rfl,g⟩:=yy;obtain⟨z1,z2⟩:=g f Q sv sw;rw[g1] at z1;cases z1;rw[k1] at z2;cases z2;obtain⟨V,sm,np⟩:=bl.new (o:=.tup [t,u]) hn;exact V.push (.tup (.inl (.inl (by rw[bf np (bl.Kc hn)];exact aF))) ((bF.cons g2 (.cons k2 .nil)).sm sm))
     |_=>exact cu C
   | _=>cases C⟩
def cO(m:Mi Rr)(H Y:Mi (Option Int)):Mi Rr:=aO m λx=>aO H λlo=>aO Y λhi=>λZ=>match res Z x with
 |some (.lst xs)=>some (.ok (.nw (.lst (gP xs lo hi))),Z)
 |some (.tup xs)=>if HT.dk xs.length 0 lo=0/\HT.dk xs.length xs.length hi=xs.length then none else some (.ok (.fr (.tup (gP xs lo hi))),Z)
 |_=>none
theorem JO{e:Expr}{lo hi:Option Expr}{m:Mi Rr}{i f:Mi (Option Int)}{j:Pos}(h:JE X E e m)(hl:JP X E lo i)(w:JP X E hi f):JE X E (.Subscript e (.Slice lo hi none j) pos) (cO m i f):=
 ⟨PE.weaken (yF (L2.d9.or CI Jh) h.p hl.p w.p) λY H Q h=>by
  obtain⟨c,Z,B,θ,o,O,s,b,em,q⟩:=h;refine aZ s b em (λx v U D t n z=>?_) (bB q);refine u3 s n z (λl Z' P r y=>?_) (dj (bB q));refine u3 s r y (λu F A I C=>?_) (dj (bB q));have g:c.K=X.K:=Zz Kx.K s;cases e1:res F x with
  |none=>rw[e1] at C;cases C
  |some a=>
   rw[e1] at C;obtain⟨L,bl,k⟩:=Bd.open I t e1;cases a with
   |lst xs=>cases C;obtain⟨p,vs,rfl,s1,V⟩:=k.1 xs rfl;exact .inl ⟨p,vs,rfl,by rw[<-g];exact s1,λS hp=>q _ _ trivial (bl.kr hp λG H' sm q=>.lst q ((AJ V l u).sm sm))⟩
   |tup xs=>
    obtain⟨p,vs,rfl,s1,V⟩:=k.2.1 xs rfl;by_cases hn:HT.dk xs.length 0 l=0/\HT.dk xs.length xs.length u=xs.length
    .cases (Zv hn).symm.trans C
    .cases (Zw hn).symm.trans C;refine .inr ⟨p,vs,rfl,by rw[<-g];exact fK (g_same _ _ _) s1,by rw[V.len];exact hn,λS hp=>?_⟩;obtain⟨r,sm,np⟩:=bl.new (o:=.tup (pC vs l u)) hp;exact q _ _ trivial (r.push (.tup (.inl (.inl (by rw[bf np (bl.Kc hp)];exact aF))) ((AJ V l u).sm sm)))
   | _=>cases C⟩
end
end M
set_option maxHeartbeats 1000000
namespace M
open PySem L2 W
def dr(f:Ms)(I:List A):List Rr->Mi Rr:=λrs Z=>match bU (rs++I.map Rr.fr) Z with
 |some (as,S)=>match f (as.map mX) with
  |some (.rt s,T)=>match jm s,putL Z (rs++I.map Rr.fr) (ax as.length T) S with
   |some r,some O=>some (.ok r,O)
   |_,_=>none
  |some (.ex x,T)=>match putL Z (rs++I.map Rr.fr) (ax as.length T) S with
   |some O=>some (.error x,O)
   |none=>none
  |_=>none
 |none=>none
def Val(f:Ms)(as:List A)(a:A):Prop:=∃Z,f (as.map Sl.fr)=some (.rt (.fr a),Z)
def mY(f:Ms)(as:List A)(o:LO):Prop:=∃Z,f (as.map Sl.fr)=some (.rt (.lv o),Z)
def qq(f:Ms)(as:List A)(x:Str):Prop:=∃Z,f (as.map Sl.fr)=some (.ex x,Z)
def dW(f:Ms)(o:LO)(as:List A)(s:Sl)(o':LO):Prop:=∃Z,f (.pv o::as.map Sl.fr)=some (.rt s,.pv o'::Z)
theorem gJ(as:List A)(Z:List Sl):bU (as.map Rr.fr) Z=some (as.map Sl.fr,Z):=by
 induction as generalizing Z with
 |nil=>rfl
 |cons a as l=>simp only[RO,bU,take1,l]
theorem jO(as:List A):(as.map Sl.fr).map mX=as.map Sl.fr:=by rw[RK];rfl
theorem hY(S:List Sl):∀(as:List A)(ss:List Sl)(Z:List Sl),as.length=ss.length->putL S (as.map Rr.fr) ss Z=some Z
 |[],[],Z,_=>rfl
 |a::as,s::ss,Z,h=>by rw[RO,putL,hY S as ss Z (by simpa using h)];rfl
 |[],_::_,_,h=>by simp at h
 |_::_,[],_,h=>by simp at h
variable{f:Ms}
theorem cI{as:List A}{a:A}(h:Val f as a)(Z:List Sl):dr f [] (as.map Rr.fr) Z=some (.ok (.fr a),Z):=by
 obtain⟨T,h⟩:=h
 delta dr
 rw[SY,RX,gJ];simp only[jO,h,jm];rw[hY _ _ _ _ (by rw[bC,Q7])]
variable{o:LO}
theorem i9{as:List A}(h:mY f as o)(Z:List Sl):dr f [] (as.map Rr.fr) Z=some (.ok (.nw o),Z):=by
 obtain⟨T,h⟩:=h
 delta dr
 rw[SY,RX,gJ];simp only[jO,h,jm];rw[hY _ _ _ _ (by rw[bC,Q7])]
theorem DO{as:List A}{x:Str}(h:qq f as x)(Z:List Sl):dr f [] (as.map Rr.fr) Z=some (.error x,Z):=by obtain⟨T,h⟩:=h;unfold dr;rw[SY,RX,gJ];simp only[jO,h];rw[hY _ _ _ _ (by rw[bC,Q7])]
variable{i:Nat}{Z:List Sl}
theorem eH{as:List A}{o':LO}{s:Sl}{r:Rr}(h:dW f o as s o')(hr:jm s=some r)(hl:aD Z i=some o):dr f [] (.rf i::as.map Rr.fr) Z=some (.ok r,setAt Z i o'):=by
 obtain⟨T,h⟩:=h;unfold aD at hl;unfold setAt;have hi:∀s,Z[i]?=some s->(Z.set i Sl.un)[i]?=some .un:=λs e=>Rl (Q4.mp e).1;have key:∀(n:Sl)(k:LO->Sl),Z[i]?=some n->take1 (.rf i) Z=some (.lv o,Z.set i .un)->(∀s O,O[i]?=some Sl.un->qd Z (.rf i) (.pv s) O=some (O.set i (k s)))->dr f [] (.rf i::as.map Rr.fr) Z=some (.ok r,Z.set i (k o')):=by
  intro n k es j hp;unfold dr;rw[SY,RX,bU,j];simp only[gJ];have h':f (WO mX (Sl.lv o::WO Sl.fr as))=some (.rt s,.pv o'::T):=by rw[RO,jO];exact h
  rw[h'];simp only[hr];have d:ax (Sl.lv o::WO Sl.fr as).length (.pv o'::T)=.pv o'::ax as.length T:=by rw[Rb,Q7];rfl
  rw[d,putL,hY _ _ _ _ (by rw[bC])];simp only[hp _ _ (hi n es),List.set_set]
 cases es:Z[i]? with
 |none=>simp only[es] at hl;cases hl
 |some t=>
  cases t with
  |un=>simp only[es] at hl;cases hl
  |cf _=>simp only[es] at hl;cases hl
  |fr a=>simp only[es] at hl;cases hl
  |lv R=>simp only[es] at hl;cases hl;refine key _ Sl.lv es (by unfold take1;simp only[es]) λs O e=>?_;unfold qd;simp only[es,e]
  |pv R=>simp only[es] at hl;cases hl;refine key _ Sl.pv es (by unfold take1;simp only[es]) λs O e=>?_;unfold qd;simp only[es,e]
variable{G:Mg}
theorem yI{b:Ms}{as:List A}(P:Nat->List Sl->Prop)(h0:P 0 Z)(hs:∀i a Z,as[i]?=some a->P i Z->∃U Z',G a Z=some U/\(b U=some (.nx,Z')\/b U=some (.ct,Z'))/\P (i+1) Z'):
  ∃O,forL G b as Z=some (.nx,O)/\P as.length O:=by
 have key:∀n i Z,as.length-i=n->i<=as.length->P i Z->∃O,forL G b (as.drop i) Z=some (.nx,O)/\P as.length O:=by
  intro n;induction n with
  |zero=>
   intro i Z e hi p;have:i=as.length:=by lia
   subst this;exact⟨Z,by rw[TB];rfl,p⟩
  |succ n l=>
   intro i Z e hi p;have C:i<as.length:=by lia
   obtain⟨U,Z',h1,h2,h3⟩:=hs i as[i] Z Z3 p;obtain⟨O,h4,h5⟩:=l (i+1) Z' Q1 C h3;refine⟨O,?_,h5⟩;rw[S5 C,forL,h1];rcases h2 with h2|h2
   .simp only[h2];exact h4
   .simp only[h2];exact h4
 simpa using key as.length 0 Z (by rfl) (Sd _) h0
theorem gZ{t:Mi Bool}{e:Mi Rr}{as:List A}(P:Nat->List A->List Sl->Prop)(h0:P 0 [] Z)
  (hs:∀i a acc Z,as[i]?=some a->P i acc Z->∃U,G a Z=some U/\((∃Z' r F d S,t U=some (.ok true,Z')/\e Z'=some (.ok r,F)/\bE r F=some (d,S)/\P (i+1) (acc++[d]) S)\/∃Z',t U=some (.ok false,Z')/\P (i+1) acc Z')):
  ∃ys O,dw G t e as [] Z=some (ys,O)/\P as.length ys O:=by
 have key:∀n i acc Z,as.length-i=n->i<=as.length->P i acc Z->∃ys O,dw G t e (as.drop i) acc Z=some (ys,O)/\P as.length ys O:=by
  intro n;induction n with
  |zero=>
   intro i acc Z k hi p;have:i=as.length:=by lia
   subst this;exact⟨acc,Z,by rw[TB];rfl,p⟩
  |succ n l=>
   intro i acc Z k hi p;have C:i<as.length:=by lia
   obtain⟨U,h1,h2⟩:=hs i as[i] acc Z Z3 p;rw[S5 C,dw,h1];rcases h2 with ⟨Z',r,F,d,S,T,j,N,H⟩|⟨Z',T,j⟩
   .simp only[T,j,N];exact l (i+1) _ S Q1 C H
   .simp only[T];exact l (i+1) _ Z' Q1 C j
 simpa using key as.length 0 [] Z (by rfl) (Sd _) h0
theorem wK{t:Mi Bool}{b:Ms}(P:Nat->List Sl->Prop)(Q:List Sl->Prop)(hs:∀k Z,P k Z->(∃U,t Z=some (.ok false,U)/\Q U)\/∃U Z' v,t Z=some (.ok true,U)/\(b U=some (.nx,Z')\/b U=some (.ct,Z'))/\v<k/\P v Z'):
  ∀{n k:Nat}{Z:List Sl},P k Z->k<n->∃O,dC t b n Z=some (.nx,O)/\Q O:=by
 intro n;induction n with
 |zero=>intro k Z _ h;exact absurd ‹_› (Sn _)
 |succ n l=>
  intro k Z p hk;rcases hs k Z p with ⟨U,h1,h2⟩|⟨U,Z',v,h1,h2,h3,h4⟩
  .exact⟨U,by simp only[dC,h1],h2⟩
  .obtain⟨O,h5,I⟩:=l h4 Q1;refine⟨O,?_,I⟩;rw[dC,h1];rcases h2 with h2|h2
   .simp only[h2];exact h5
   .simp only[h2];exact h5
theorem IX{n:Nat}(h:n<2^9500):n<GD:=Rh h (by delta GD;exact UA Z1 Z1)
noncomputable def nm(x:Num):A:=.tup [.int x.1,.int x.2]
theorem IB(x:Num):toD (nm x)=some (.tup [.int x.1,.int x.2]):=by rfl
theorem Gz(x y:Num):qc (nm x) (nm y)=some (decide (x=y)):=by
 delta qc
 rw[IB]
 obtain⟨x1,x2⟩:=x
 obtain⟨h,H⟩:=y
 show some ((x1==h)&&((x2==H)&&true))=_
 simp[Bool.beq_eq_decide_eq]
theorem kK(i j:Int):qc (.int i) (.int j)=some (decide (i=j)):=by
 delta qc
 simp only[toD]
 show some (i==j)=_
 rfl
section
variable{α D:Type}{Z:List Sl}
def jU(f:A->A->Option Rr)(x y:Rr)(Z:List Sl):Option (Except Str Rr×List Sl):=match res Z x,res Z y with
 |some a,some b=>match f a b with
  |some r=>some (.ok r,Z)
  |none=>none
 |_,_=>none
theorem Qm(f:A->A->Option Rr)(ma mb:Mi Rr):aA f ma mb Z=(match ma Z with|some (.ok x,U)=>(match mb U with|some (.ok y,Z')=>jU f x y Z'|some (.error e,Z')=>some (.error e,Z')|none=>none)|some (.error e,U)=>some (.error e,U)|none=>none):=by
 delta aA aO jU
 cases ma Z with
 |none=>rfl
 |some p=>
  obtain⟨o,U⟩:=p;cases o with
  |error e=>rfl
  |ok x=>
   simp only;cases mb U with
   |none=>rfl
   |some p=>
    obtain⟨o,Z'⟩:=p;cases o with
    |error e=>rfl
    |ok y=>rfl
def OB(f:A->Option Rr)(x:Rr)(Z:List Sl):Option (Except Str Rr×List Sl):=match res Z x with
 |some a=>match f a with
  |some r=>some (.ok r,Z)
  |none=>none
 |none=>none
theorem PR(m n:Mi Bool):jG m n Z=(match m Z with|some (.ok true,U)=>n U|some (.ok false,U)=>some (.ok false,U)|some (.error e,U)=>some (.error e,U)|none=>none):=by
 unfold jG aO;cases m Z with
 |none=>rfl
 |some p=>obtain⟨o,U⟩:=p;cases o with|error e=>rfl|ok k=>cases k<;>rfl
theorem Jb(m n:Mi Rr):kh m n Z=(match aq m Z with|some (.ok true,U)=>n U|some (.ok false,U)=>some (.ok (.fr (.bl false)),U)|some (.error e,U)=>some (.error e,U)|none=>none):=by
 delta kh aO
 cases aq m Z with
 |none=>rfl
 |some p=>obtain⟨o,U⟩:=p;cases o with|error e=>rfl|ok k=>cases k<;>rfl
theorem NF(t:Mi Bool)(m n:Mi Rr):K7 t m n Z=(match t Z with|some (.ok true,U)=>m U|some (.ok false,U)=>n U|some (.error e,U)=>some (.error e,U)|none=>none):=by
 delta K7 aO
 cases t Z with
 |none=>rfl
 |some p=>obtain⟨o,U⟩:=p;cases o with|error e=>rfl|ok k=>cases k<;>rfl
theorem Oz(m:Mi Rr)(n:Mi (List Rr)):cA m n Z=(match m Z with|some (.ok x,U)=>(match n U with|some (.ok xs,Z')=>some (.ok (x::xs),Z')|some (.error e,Z')=>some (.error e,Z')|none=>none)|some (.error e,U)=>some (.error e,U)|none=>none):=by
 unfold cA aO;cases m Z with
 |none=>rfl
 |some p=>
  obtain⟨o,U⟩:=p;cases o with
  |error e=>rfl
  |ok x=>
   simp only;cases n U with
   |none=>rfl
   |some p=>
    obtain⟨o,Z'⟩:=p;cases o with
    |error e=>rfl
    |ok y=>rfl
def tupK(rs:List Rr)(Z:List Sl):Option (Except Str Rr×List Sl):=match dH rs Z with
 |some (as,O)=>if as.length<=1000 then some (.ok (.fr (.tup as)),O) else none
 |none=>none
def lstK(rs:List Rr)(Z:List Sl):Option (Except Str Rr×List Sl):=match dH rs Z with
 |some (as,O)=>if as.length<=1000 then some (.ok (.nw (.lst as)),O) else none
 |none=>none
theorem F3(f:Ms)(I:List A)(m:Mi (List Rr)):bj f I m Z=(match m Z with|some (.ok x,U)=>dr f I x U|some (.error e,U)=>some (.error e,U)|none=>none):=by
 unfold bj aO;cases m Z with
 |none=>rfl
 |some p=>
  obtain⟨o,U⟩:=p;cases o with
  |error e=>rfl
  |ok x=>rfl
theorem EJ(m n:Ms):aC m n Z=(match m Z with|some (.nx,U)=>n U|r=>r):=rfl
def Cf(i:Nat)(r:Rr)(Z:List Sl):Option (Fl×List Sl):=match xj r Z with
 |some (t,U)=>match put i t U with
  |some Z'=>some (.nx,Z')
  |none=>none
 |none=>none
def O0(r:Rr)(Z:List Sl):Option (Fl×List Sl):=match FV r Z with
 |some (s,O)=>some (.rt s,O)
 |none=>none
theorem Gv(m:Mi Rr):dU m Z=(match m Z with|some (.ok _,U)=>some (.nx,U)|some (.error e,U)=>some (.ex e,U)|none=>none):=by
 unfold dU cT;cases m Z with
 |none=>rfl
 |some p=>
  obtain⟨o,U⟩:=p;cases o with
  |error e=>rfl
  |ok x=>rfl
theorem KP(loc:Nat)(m:Ms):dm loc m Z=(match m (Z++Q3 loc .un) with|some (.nx,O)=>some (.rt (.fr .non),O)|some (.rt s,O)=>some (.rt s,O)|some (.ex x,O)=>some (.ex x,O)|_=>none):=by
 delta dm
 cases m (Z++Q3 loc .un) with
 |none=>rfl
 |some p=>obtain⟨f,U⟩:=p;cases f<;>rfl
theorem Nx(m:Mi (List A))(G:Mg)(b:Ms):iA m G b Z=(match m Z with|some (.ok as,U)=>forL G b as U|some (.error e,U)=>some (.ex e,U)|none=>none):=by
 delta iA cT
 cases m Z with
 |none=>rfl
 |some p=>
  obtain⟨o,U⟩:=p;cases o with
  |error e=>rfl
  |ok x=>rfl
def OQ(r:Rr)(Z:List Sl):Option (Except Str (List A)×List Sl):=match bE r Z with
 |some (a,O)=>match Jx a with
  |some as=>some (.ok as,O)
  |none=>none
 |none=>none
def PZ(r:Rr)(Z:List Sl):Option (Except Str (List A)×List Sl):=match res Z r with
 |some (.int j)=>if -(2^60)<=j/\j<2^60 then some (.ok (bp 0 j.toNat),Z) else none
 |_=>none
def mF(n:Nat)(G:Mg)(t:Mi Bool)(e:Mi Rr)(as:List A)(Z:List Sl):Option (Except Str Rr×List Sl):=if as.length<=100000 then match dw G t e as [] (Z++Q3 n .un) with
 |some (ys,O)=>some (.ok (.nw (.lst ys)),O.take Z.length)
 |none=>none else none
def Qs(i:Nat)(r:Rr)(Z:List Sl):Option (Except Str Rr×List Sl):=match bE r Z with
 |some (a,U)=>match aD U i with
  |some (.lst xs)=>if xs.length<=16000000 then some (.ok (.fr .non),setAt U i (.lst (xs++[a]))) else none
  |_=>none
 |none=>none
def PN(i:Nat)(r H:Rr)(Z:List Sl):Option (Fl×List Sl):=match bE r Z with
 |some (a,U)=>match res U H,aD U i with
  |some (.int k),some (.lst xs)=>match fV xs.length k with
   |some j=>some (.nx,setAt U i (.lst (xs.set j a)))
   |none=>none
  |_,_=>none
 |none=>none
def Qw(r:Rr)(Z:List Sl):Option (Except Str Rr×List Sl):=match bE r Z with
 |some (a,O)=>some (.ok (.fr a),O)
 |none=>none
end
section
variable{α D:Type}{Z:List Sl}
def Ql(x y:Rr)(Z:List Sl):Option (Except Str (List A)×List Sl):=match dH [x,y] Z with
 |some ([.tup as,.tup bs],O)=>some (.ok (pd as bs),O)
 |_=>none
theorem Lf(i:Nat)(sub:Str->Bool)(b s:Ms):wX i sub b s Z=(match b Z with
 |some (.ex x,U)=>if sub x=true then match put i (.fr (.exc x)) U with
  |some Z'=>match s Z' with
   |some (.nx,F)=>match put i .un F with
    |some S=>some (.nx,S)
    |none=>none
   |some (.rt r,F)=>some (.rt r,F)
   |_=>none
  |none=>none else none
 | r=>r):=rfl
end
section
variable{Z:List Sl}
def P6(cs:List Str)(i:Nat)(f:Str)(r:Rr)(Z:List Sl):Option (Fl×List Sl):=match bE r Z with
 |some (a,U)=>match aD U i with
  |some (.obj c fs)=>if cs.contains c&&SE fs.length 900 then some (.nx,setAt U i (.obj c (kq f a fs))) else none
  |_=>none
 |none=>none
def uA(cn:Str)(f:Ms)(I:List A)(rs:List Rr)(Z:List Sl):Option (Except Str Rr×List Sl):=match bU (rs++I.map Rr.fr) Z with
 |some (as,S)=>match f (.pv (.obj cn [])::as.map mX) with
  |some (.rt (.fr .non),.pv o2::Y)=>match putL Z (rs++I.map Rr.fr) (ax as.length Y) S with
   |some O=>some (.ok (.nw o2),O)
   |none=>none
  |some (.ex x,s::Y)=>match putL Z (rs++I.map Rr.fr) (ax as.length Y) S with
   |some O=>some (.error x,O)
   |none=>none
  |_=>none
 |none=>none
def LQ(cn mn:Str)(r:Rr)(Z:List Sl):Option (Except Str Rr×List Sl):=match res Z r with
 |some (.obj c fs)=>if c==cn&&(fs.lookup mn).isNone then some (.ok r,Z) else none
 |_=>none
theorem Hu(a b:A):kB a b=(oU λi j=>if j != 0&&fits 9000 j then some (.fr (.int (i.fdiv j))) else none) a b:=rfl
end
noncomputable def np:Sl->Bool
 | .pv _=>false
 |_=>true
theorem u9(a:A):np (.fr a)=true:=rfl
theorem FA(o:LO):np (.lv o)=true:=rfl
theorem EK(i:Nat)(s:Sl)(Z:List Sl):put i s Z=(match Z[i]? with|some t=>if np t=true then some (Z.set i s) else none|none=>none):=by
 delta put
 cases Z[i]? with
 |none=>rfl
 |some t=>cases t<;>rfl
def Wp(m:Ms)(Z:List Sl)(Q:Fl->List Sl->Prop):Prop:=∃f O,m Z=some (f,O)/\Q f O
section
variable{m n b:Ms}{Z U:List Sl}{Q:Fl->List Sl->Prop}
theorem Wp.st(h:m Z=some (.nx,U))(k:Wp n U Q):Wp (aC m n) Z Q:=by obtain⟨f,O,e,q⟩:=k;exact⟨f,O,by simp only[EJ,h];exact e,q⟩
theorem Wp.sq(k:Wp m Z λf U=>f=.nx/\Wp n U Q):Wp (aC m n) Z Q:=by obtain⟨f,U,e,rfl,F,Z',e2,q⟩:=k;exact⟨F,Z',by simp only[EJ,e];exact e2,q⟩
theorem Wp.en{f:Fl}(h:m Z=some (f,U))(q:Q f U):Wp m Z Q:=⟨_,_,h,q⟩
theorem Wp.mono{H:Fl->List Sl->Prop}(k:Wp m Z Q)(h:∀f U,Q f U->H f U):Wp m Z H:=by obtain⟨f,U,e,q⟩:=k;exact⟨f,U,e,h f U q⟩
theorem Wp.fr{mi:Mi (List A)}{as:List A}(P:Nat->List Sl->Prop)(h:mi Z=some (.ok as,U))(h0:P 0 U)(hs:∀i a Z,as[i]?=some a->P i Z->∃U,G a Z=some U/\Wp b U λf Z'=>(f=.nx\/f=.ct)/\P (i+1) Z')(N:∀O,P as.length O->Q .nx O):Wp (iA mi G b) Z Q:=by
 obtain⟨O,h1,h2⟩:=yI P h0 (λi a Z ha p=>by
  obtain⟨U,g,f,Z',e,hf,S⟩:=hs i a Z ha p;refine⟨U,Z',g,?_,S⟩;rcases hf with rfl|rfl
  .exact .inl e
  .exact .inr e)
 exact⟨_,O,by simp only[Nx,h];exact h1,N O h2⟩
theorem Wp.QH{mi:Mi (List A)}(as:List A)(P:List Sl->Prop)(h:mi Z=some (.ok as,U))(h0:P U)(hs:∀a∈as,∀Z,P Z->∃U,G a Z=some U/\Wp b U λf Z'=>(f=.nx\/f=.ct)/\P Z')(N:∀O,P O->Q .nx O):Wp (iA mi G b) Z Q:=
 Wp.fr (λ_=>P) h h0 (λ_ a Z ha p=>hs a (R4 ha) Z p) N
theorem Wp.df{loc:Nat}(k:Wp m (Z++Q3 loc .un) λf O=>match f with | .nx=>Q (.rt (.fr .non)) O | .rt s=>Q (.rt s) O | .ex x=>Q (.ex x) O|_=>False):Wp (dm loc m) Z Q:=by
 obtain⟨f,O,e,q⟩:=k
 delta Wp
 rw[KP,e];cases f with
 |nx=>exact⟨_,_,rfl,q⟩
 |rt s=>exact⟨_,_,rfl,q⟩
 |ex x=>exact⟨_,_,rfl,q⟩
 |bk=>exact q.elim
 |ct=>exact q.elim
theorem Val.of{as:List A}{a:A}(k:Wp f (as.map Sl.fr) λg _=>g=.rt (.fr a)):Val f as a:=by obtain⟨g,O,e,rfl⟩:=k;exact⟨O,e⟩
theorem mY.of{as:List A}(k:Wp f (as.map Sl.fr) λg _=>g=.rt (.lv o)):mY f as o:=by obtain⟨g,O,e,rfl⟩:=k;exact⟨O,e⟩
theorem qq.of{as:List A}{x:Str}(k:Wp f (as.map Sl.fr) λg _=>g=.ex x):qq f as x:=by obtain⟨g,O,e,rfl⟩:=k;exact⟨O,e⟩
theorem dW.of{as:List A}{R:Sl->LO->Prop}(k:Wp f (.pv o::as.map Sl.fr) λg Z=>∃s o' U,g=.rt s/\Z=.pv o'::U/\R s o'):∃s o',dW f o as s o'/\R s o':=by obtain⟨g,O,e,s,o',U,rfl,rfl,r⟩:=k;exact⟨s,o',⟨U,e⟩,r⟩
end
def Dt(n:Nat)(a:A):Prop:=∃d,toD a=some d/\D.depth d<=n
def vm(n:Nat)(as:List A):Prop:=∃ds,iy as=some ds/\D.gq ds<=n
theorem Dt.bl{n:Nat}(b:Bool):Dt n (.bl b):=⟨.bl b,by simp only[toD],by exact Sd _⟩
theorem Dt.int{n:Nat}(i:Int):Dt n (.int i):=⟨.int i,by simp only[toD],by exact Sd _⟩
theorem Dt.str{n:Nat}(x:Str):Dt n (.str x):=⟨.str x,by simp only[toD],by exact Sd _⟩
theorem vm.nil{n:Nat}:vm n []:=⟨[],by simp only[iy],by exact Sd _⟩
theorem vm.cons{n:Nat}{a:A}{as:List A}(h:Dt n a)(k:vm n as):vm n (a::as):=by obtain⟨d,h1,h2⟩:=h;obtain⟨ds,h3,h4⟩:=k;exact⟨d::ds,by simp only[iy,h1,h3],by simp only[D.gq];lia⟩
theorem vm.of{n:Nat}:∀{as:List A},(∀a∈as,Dt n a)->vm n as
 |[],_=>.nil
 |a::as,h=>.cons (h a Rg) (vm.of λb d=>h b (Q5 _ d))
theorem Dt.tup{n:Nat}{as:List A}(h:vm n as):Dt (n+1) (.tup as):=by obtain⟨ds,h1,h2⟩:=h;exact⟨.tup ds,by simp only[toD,h1],by simp only[D.depth];exact RS ‹_›⟩
theorem Dt.lst{n:Nat}{as:List A}(h:vm n as):Dt (n+1) (.lst as):=by obtain⟨ds,h1,h2⟩:=h;exact⟨.lst ds,by simp only[toD,h1],by simp only[D.depth];exact RS ‹_›⟩
theorem Dt.nm{n:Nat}(x:Num):Dt (n+1) (nm x):=Dt.tup (.cons (.int _) (.cons (.int _) .nil))
theorem jd{a:A}(h:Dt 40 a):qc a a=some true:=by
 obtain⟨d,h1,h2⟩:=h
 delta qc
 simp only[h1];rw[Zv h2,D.kP]
theorem hV(n:Nat):(bp 0 n).length=n:=by simp[bp]
theorem Ab{n:Nat}{a:A}(h:(bp 0 n)[i]?=some a):i<n/\a=.int i:=by
 have hi:=(Q4.mp h).1;rw[hV] at hi
 delta bp at h
 simp only[RN,SQ hi] at h;simp at h;exact⟨hi,h.symm⟩
open PySem L2
section
variable{G:Mg}{b:Ms}{g:Key×A->A}{j:Nat}{Z:List Sl}{kvs:List (Key×A)}
theorem CG{a:A}(h:Z[j]?=some (.fr a)):ai j Z=some (.ok (.fr a),Z):=by unfold ai;rw[h]
end
variable{rs:List Rr}{cn:Str}
section
variable{α D:Type}{Z S U Z' F:List Sl}{m n mk:Mi Rr}{t u:Mi Bool}{x y r rk:Rr}
theorem bk{m:Mi α}{f:α->Mi D}{x:α}{q:Option (Except Str D×List Sl)}(h:m Z=some (.ok x,U))(k:f x U=q):aO m f Z=q:=by unfold aO;rw[h];exact k
theorem sk{m:Mi α}{f:α->Ms}{x:α}{q:Option (Fl×List Sl)}(h:m Z=some (.ok x,U))(k:f x U=q):cT m f Z=q:=by unfold cT;rw[h];exact k
theorem aJ{I:List A}{ms:Mi (List Rr)}(h:ms Z=some (.ok rs,U))(c:dr f I rs U=some (.ok r,Z')):bj f I ms Z=some (.ok r,Z'):=bk h c
theorem af{ms:Mi (List Rr)}(h:m Z=some (.ok x,U))(k:ms U=some (.ok rs,Z')):cA m ms Z=some (.ok (x::rs),Z'):=bk h (bk k rfl)
theorem ao{f:A->A->Option Rr}(h:m Z=some (.ok x,U))(k:n U=some (.ok y,Z'))(o:jU f x y Z'=some (.ok r,F)):aA f m n Z=some (.ok r,F):=bk h (bk k o)
theorem eJ{f:A->Option Rr}(h:m Z=some (.ok x,U))(o:OB f x U=some (.ok r,Z')):aT f m Z=some (.ok r,Z'):=bk h o
theorem jC(h:m Z=some (.ok x,U))(o:Qw x U=some (.ok r,Z')):fB m Z=some (.ok r,Z'):=bk h o
theorem da{ms:Mi (List Rr)}(h:ms Z=some (.ok rs,U))(o:tupK rs U=some (.ok r,Z')):cL ms Z=some (.ok r,Z'):=bk h o
theorem dD{ms:Mi (List Rr)}(h:ms Z=some (.ok rs,U))(o:lstK rs U=some (.ok r,Z')):aP ms Z=some (.ok r,Z'):=bk h o
theorem BI{I:List A}{ms:Mi (List Rr)}(h:ms Z=some (.ok rs,U))(c:uA cn f I rs U=some (.ok r,Z')):ot cn f I ms Z=some (.ok r,Z'):=bk h c
theorem jJ{mn:Str}(h:m Z=some (.ok x,U))(c:LQ cn mn x U=some (.ok r,Z')):bX cn mn m Z=some (.ok r,Z'):=bk h c
theorem aE{b:Bool}(h:m Z=some (.ok (.fr (.bl b)),U)):aq m Z=some (.ok b,U):=bk h rfl
theorem tx{b:Bool}(h:t Z=some (.ok b,U)):mx t Z=some (.ok (!b),U):=bk h rfl
theorem yf(h:t Z=some (.ok true,U)):xl t u Z=some (.ok true,U):=bk h rfl
theorem iW{b:Bool}(h:t Z=some (.ok false,U))(k:u U=some (.ok b,Z')):xl t u Z=some (.ok b,Z'):=bk h k
theorem oW(h:t Z=some (.ok false,U)):jG t u Z=some (.ok false,U):=bk h rfl
theorem jq{b:Bool}(h:t Z=some (.ok true,U))(k:u U=some (.ok b,Z')):jG t u Z=some (.ok b,Z'):=bk h k
theorem kS(h:m Z=none)(k:n Z=some (.ok r,U)):a9 m n Z=some (.ok r,U):=by unfold a9;rw[h];exact k
theorem cK(h:m Z=some (.ok r,U)):a9 m n Z=some (.ok r,U):=by unfold a9;rw[h]
theorem yb(h:m Z=some (.ok r,U))(k:Cf i r U=some (.nx,Z')):aM i m Z=some (.nx,Z'):=sk h k
theorem aV{f:Fl}(h:m Z=some (.ok r,U))(k:O0 r U=some (f,Z')):bV m Z=some (f,Z'):=sk h k
theorem uY(h:m Z=some (.ok r,U)):dU m Z=some (.nx,U):=sk h rfl
theorem Ks{a:Sl}(h:xj r Z=some (a,U))(k:U[i]?=some s)(hn:np s=true):Cf i r Z=some (.nx,U.set i a):=by unfold Cf;rw[h];dsimp only;rw[EK,k];dsimp only;rw[Zv hn]
end
end M
namespace W
open PySem L2
noncomputable def Bn(o:Obj):Bool:=match o.data with
 | .freed=>false
 |_=>true
def oe:List Nat->List Obj->Q0->Q0
 |a::as,o::os,K=>oe as os (match Bn o with|true=>(a,o)::K|false=>K)
 |_,_,K=>K
def ik(h:Heap):Q0:=match h.get? X6 with
 |some o=>(X6,o)::oe (Rp h.objs.size) h.objs.toList []
 |none=>[]
theorem ow{o:Obj}{a:Addr}:∀{K:Q0},K.lookup a=some o->(a,o)∈K
 |(b,u)::K,e=>by
  simp only[Rk] at e;split at e
  .rename_i q;cases e;rw[ZA.mp q];exact Rg
  .exact Q5 _ (ow e)
theorem ql{h:Heap}:∀{as:List Nat}{os:List Obj}{K:Q0},(∀(i a:Nat)(o:Obj),as[i]?=some a->os[i]?=some o->h.objs[a]?=some o)->(∀(a:Nat)(o:Obj),(a,o)∈K->h.get? a=some o)->∀a o,(a,o)∈oe as os K->h.get? a=some o
 |[],_,K,_,k=>by delta oe;exact k
 |_::_,[],K,_,k=>by delta oe;exact k
 |a::as,o::os,K,e,k=>by
  unfold oe;refine ql (λi b u h1 h2=>e (i+1) b u h1 h2) ?_;cases c:Bn o with
  |false=>exact k
  |true=>
   intro b u m;rcases Rc.mp m with m|m
   .cases m
    delta Heap.get?
    rw[e 0 a o rfl rfl];obtain⟨p,w,Y,H⟩:=o;cases Y<;>first|rfl|cases c
   .exact k b u m
theorem mH(h:Heap):(ik h).In h:=λa o e=>by
 have m:=ow e;unfold ik at m;split at m
 .rename_i o' H;rcases Rc.mp m with m|m
  .cases m;exact H
  .refine ql (λi b u h1 h2=>?_) (λ_ _ q=>by cases q) a o m;have hi:=(Q4.mp h1).1 |> λq=>by rwa[UY] at q
   rw[SQ hi] at h1;cases h1;rw[<-Array.getElem?_toList];exact h2
 .cases m
noncomputable def Mm(K:Q0)(n:Str):Option (Str×Str×Arguments×Zf×Scope×Addr×List (Str×Addr)×Value×Addr×Bool):=
 match UM K X6 n with
 | some (some (.ref f))=>(match K.lookup f with
  |some ⟨_,_,.func d,_⟩=>some (d.name,d.qualname,d.params,d.body,d.scope,d.globals,d.closure,d.defaults,d.builtins,Uq K d.code n&&Sa K (.ref f))
  | _=>none)
 |_=>none
def KD(n:Str)(st:Stmt):Option (Str×Str×Arguments×Zf×Scope×Addr×List (Str×Addr)×Value×Addr×Bool):=some (n,n,dM st,.stmts (eZ st),aX st,X6,[],.none,YQ,true)
noncomputable def OU(K:Q0)(a:Addr)(i j:Int):Bool:=match K.lookup a with
 | some ⟨.type "tuple",none,.seq its _,_⟩=>(match its.toList with
  |[.int x _,.int y _]=>x==i&&y==j
  | _=>false)
 |_=>false
def J9(ds:List (Str×Stmt))(Y:Q0->Bool)(K:Q0):=(ds.map λx=>Mm K x.1,Y K)
def J7(ds:List (Str×Stmt)):List (Option (Str×Str×Arguments×Zf×Scope×Addr×List (Str×Addr)×Value×Addr×Bool))×Bool:=(ds.map λx=>KD x.1 x.2,true)
def hk(ds:List (Str×Stmt))(Y:Q0->Bool):WK where
 α:=List (Option (Str×Str×Arguments×Zf×Scope×Addr×List (Str×Addr)×Value×Addr×Bool))×Bool
 obs:=λs=>J9 ds Y (ik s.heap)
 val:=λ_=>J7 ds
 says:=λ_ h=>∃K:Q0,J9 ds Y K=J7 ds/\K.In h
 of:=λ_ s e=>⟨ik s.heap,e,mH _⟩
 keeps:=λ_ _ _ ⟨K,e,i⟩ k=>⟨K,e,i.keeps k⟩
noncomputable def MU(p:Program):List Stmt:=p.main.body.filter λs=>match s with | .FunctionDef n ..=>n==("law" : Str)|_=>false
noncomputable def L8:Stmt->List Str
 | .FunctionDef n ..=>[n]
 | .ClassDef n ..=>[n]
 | .Assign [.Name n _] _ _=>[n]
 |_=>[]
def ME(p:Program):Program:={ p with main:={ p.main with body:=MU p } }
def vy(p:Program):List Str:=(p.main.body.flatMap L8).filter λn=>n != ("law" : Str)
variable{q:Program}{loose:List Str}
theorem yj{l:Wf}{n k:Nat}{XP:(Str->Option Value)->Heap->Prop}{YP:X1->Heap->Prop}{d:DefRec}{x:Str}{sp:Q0->Sp}
  (hn:l.most=some n)(m:n<=sizeLine)(B:d.params.defaults=[])(hr:cF k YW)
  (F:∀(w:X1)(mg:Str->Option Value)(p:Addr)(h:Heap),YP w h->h.Ns X6 mg->mg d.name=some (.ref p)->
   ∃K:Q0,K.In h/\∃fd:X9,(∀(s:Shared)(u:Value),YU s fd ⟨[u],[]⟩ [(x,u)])/\∀base:Heap,K.In base->base.Ns X6 mg->c9 l.prog w K mg base (oT l.prog w) k p fd [x] (sp K))
  (D:∀(K:Q0)(H:Hp)(a:Addr)(ns:List Int),ns.length<=n->J1 H->dI K H a (ns.map V.int)->sp K [.ref a] H (λv _=>v=.bl true) λ_ _ _=>False):
  Ww q loose XP YP l.row.toRowW d [] (λf vs=>V6 f vs):=by
 refine Att.qJ hn B λw s₀ Z mg mb p o pm cd doc a vs ns G Y ho hd R L X c E J=>?_;obtain⟨K,Q,fd,i,C⟩:=F w mg p _ Y G.T.g L;exact yg Q G.T.g G.T.b G.T.builtins G.T.nolimit J X c (RG E m) hr C i (λH A O=>D K H a ns E A O) λH e s' z=>by obtain⟨_,_,_,_,_,y⟩:=z;exact y
open PySem PySem.W PyProof.Rows
noncomputable abbrev EW:=Xw
noncomputable abbrev sf:=Xx
noncomputable abbrev Mt:=Xy
noncomputable abbrev AV:=Xz
noncomputable abbrev EC:=XA
noncomputable abbrev Fp:=XB
noncomputable abbrev AY:=XC
theorem yQ:denote=EW:=XD
theorem n8:YO=sf:=XE
theorem DQ:stepOk=Mt:=XF
theorem vY:stepT=AV:=XG
theorem yZ:importEnds=EC:=XH
theorem AM:fenceModules?=Fp:=XI
theorem xb:openSeen=AY:=XJ
def zY(p:Program)(w:X1)(Z:Nat)(Y:Option Value):Nat->Zn->Thread->Option Zn
 |0,_,_=>none
 |m+1,s,t=>match through t with
  |true=>some s
  |false=>match Mt Z Y t with
   |false=>none
   |true=>match AV (EW sf) p w s t with
    |some (s',t')=>zY p w Z Y m s' t'
    |none=>none
theorem vB{p:Program}{w:X1}{Z:Nat}{Y:Option Value}:∀{m:Nat}{s s2:Zn}{t:Thread},zY p w Z Y m s t=some s2->topRun YO p w Z Y m s.abs t=some s2.abs
 |0,_,_,_,e=>by cases e
 |m+1,s,s2,t,e=>by
  unfold zY at e;simp only[<-DQ,<-vY,<-yQ,<-n8] at e;unfold topRun;cases N:through t with
  |true=>rw[N] at e;cases e;rfl
  |false=>
   simp only[N] at e;cases c:stepOk Z Y t with
   |false=>rw[c] at e;cases e
   |true=>
    simp only[c] at e;cases es:stepT (denote YO) p w s t with
    |none=>rw[es] at e;cases e
    |some q=>rw[es] at e;simp only[stepT_spec es];exact vB e
noncomputable def Ka:List Obj->Nat->BT->Option BT
 |[],_,t=>some t
 |o::os,n,t=>match ((t.ins n o).get n).isSome with
  |true=>Ka os (n+1) (t.ins n o)
  |false=>none
theorem zu(l:Life):∀{os:List Obj}{n:Nat}{t t':BT},Ka os n t=some t'->absHeap t' (n+os.length) l=⟨(absHeap t n l).objs++os.toArray,l⟩
 |[],n,t,t',e=>by cases e;rfl
 |o::os,n,t,t',e=>by
  unfold Ka at e;cases H:((t.ins n o).get n).isSome with
  |false=>rw[H] at e;cases e
  |true=>
   rw[H] at e;have i:=zu l e;rw[absHeap_ins H] at i;have e2:n+1+os.length=n+(o::os).length:=by simp only[Rb];lia
   simp only[<-e2,i];show Heap.mk (((absHeap t n l).objs.push o)++os.toArray) l=_;simp
theorem yD{h:Heap}{t:BT}(e:Ka h.objs.toList 0 .nil=some t):absHeap t h.objs.size h.life=h:=by have i:=zu h.life e;simp only[U6,TJ] at i;rw[i];obtain⟨objs,l⟩:=h;show Heap.mk (#[]++objs.toList.toArray) l=_;simp
def JV(p:Program)(w:X1)(N:Nat)(s₀:Shared):Option Shared:=match s₀.heap.isNs X6&&s₀.gens.size==0 with
 |true=>match Ka s₀.heap.objs.toList 0 .nil with
  |some t=>(zY p w s₀.heap.objs.size (s₀.heap.nsMap X6 "__annotations__") N ⟨t,s₀.heap.objs.size,s₀.heap.life,s₀.gens,s₀.drawn,s₀.toks,s₀.os⟩ (topStub p)).bind λq=>match staticsOk (importedModules p.main.body) s₀.heap q.abs.heap&&namesBound p q.abs.heap&&gensDone q.abs&&laidKept s₀.heap q.abs.heap with
   |true=>some q.abs
   |false=>none
  |none=>none
 |false=>none
variable{p:Program}{w:X1}{N:Nat}{s:Shared}
theorem BJ{s₀:Shared}(e:JV p w N s₀=some s):topFrom YO p w N s₀=some s:=by
 delta JV at e
 delta topFrom
 cases e1:s₀.heap.isNs X6&&s₀.gens.size==0 with
 |false=>rw[e1] at e;cases e
 |true=>
  rw[e1] at e;cases e2:Ka s₀.heap.objs.toList 0 .nil with
  |none=>rw[e2] at e;cases e
  |some t=>
   rw[e2] at e;simp only at e;cases L:zY p w s₀.heap.objs.size (s₀.heap.nsMap X6 "__annotations__") N ⟨t,s₀.heap.objs.size,s₀.heap.life,s₀.gens,s₀.drawn,s₀.toks,s₀.os⟩ (topStub p) with
   |none=>rw[L] at e;cases e
   |some q=>
    rw[L] at e;have k:=vB L;have k0:WQ ⟨t,s₀.heap.objs.size,s₀.heap.life,s₀.gens,s₀.drawn,s₀.toks,s₀.os⟩=s₀:=by
     delta WQ
     rw[yD e2]
    rw[k0] at k;rw[k];exact e
def uw(p:Program)(w:X1)(N:Nat):Option Shared:=((EC sf (opening p) w N (start (opening p)).1 (start (opening p)).2).bind (Fp p)).bind (JV p w N)
theorem AI(e:uw p w N=some s):openEnds YO p w N=some s:=by
 delta uw at e
 delta openEnds fencedOpening
 simp only[<-yZ,<-n8,<-AM] at e
 cases e1:(importEnds YO (opening p) w N (start (opening p)).1 (start (opening p)).2).bind (fenceModules? p) with
 |none=>rw[e1] at e;cases e
 |some n=>rw[e1] at e;exact BJ e
theorem Ae{Xt:Shared->Bool}{α:Type}{Yf:Shared->α}{Ya:X1->α}
  (h:∀w,Option.map (λs=>(AY q loose (importedModules p.main.body) Xt true s,Yf s)) (uw p w N)=some (openGood q loose,Ya w)):LeftO p q loose Xt Yf Ya N:=λw=>by
 have h:=h w;rw[<-xb] at h;cases e:uw p w N with
 |none=>rw[e] at h;cases h
 |some s=>rw[e] at h;rw[AI e];exact h
end W
namespace M
open PySem L2
structure FI where
 n:Nat
 m:Ms
 mu:List Bool
 df:List A
 hf:Bool
structure Tb where
 fns:List (Str×FI)
 cst:List (Str×A)
 exs:List Str
 kit:List (Str×List (Str×Bool))
 exm:List (Str×List Str)
 fld:List (Str×List Str)
 hU:List (Str×FI)
 mts:List (Str×Str×FI)
structure Sc where
 N:List Str
 nm:List (Str×NameKind)
 di:List Str
 ca:List Str
 hd:Bool
 lv:List Str
 tp:Bool:=false
noncomputable def Pq(s:Sc):Sc:={ s with tp:=false }
noncomputable def ag{α D:Type}(x:Option α)(f:α->Option D):Option D:=match x with
 |some a=>f a
 |none=>none
noncomputable def cH{α:Type}(b:Bool)(x:Option α):Option α:=match b with
 |true=>x
 |false=>none
variable{α:Type}
theorem aa{D:Type}{x:Option α}{f:α->Option D}{y:D}(h:ag x f=some y):∃a,x=some a/\f a=some y:=by
 cases x with
 |none=>cases h
 |some a=>exact⟨a,rfl,h⟩
theorem ah{b:Bool}{x:Option α}{y:α}(h:cH b x=some y):b=true/\x=some y:=by
 cases b with
 |false=>cases h
 |true=>exact⟨rfl,h⟩
def m5(s:Sc)(x:Str)(k:NameKind):Bool:=s.nm.lookup x==some k
def Dq(s:Sc)(x:Str):Bool:=m5 s x .local || m5 s x .cell || m5 s x .free
def tf(s:Sc)(x:Str):Bool:=m5 s x .local || m5 s x .cell
noncomputable def okN(x:Str):Bool:=!(x==("__debug__" : Str))&&!(x==("__classdict__" : Str))
def mM(s:Sc)(x:Str):Bool:=m5 s x .globalImplicit&&okN x
def fV(x:Str):List Str->Nat->Option Nat
 |[],_=>none
 |y::ys,i=>if x==y then some i else fV x ys (i+1)
theorem kY{x:Str}:∀{N:List Str}{k i:Nat},fV x N k=some i->∃j,i=k+j/\N[j]?=some x
 |[],_,_,h=>by cases h
 |y::ys,k,i,h=>by
  unfold fV at h;split at h
  .rename_i e;cases h;exact⟨0,rfl,by rw[ZA.mp e];rfl⟩
  .obtain⟨j,e1,e2⟩:=kY h;exact⟨j+1,by lia,by simpa using e2⟩
def slot(s:Sc)(x:Str):Option Nat:=cH (Dq s x&&okN x) (fV x s.N 0)
def fR(s:Sc)(x:Str):Option Nat:=cH (tf s x&&okN x) (fV x s.N 0)
noncomputable def DV:List Str:=["len", "isinstance", "abs", "max", "min", "int", "bool", "str", "tuple", "list", "dict", "range", "ValueError", "sorted", "all", "zip", "set", "sum", "enumerate", "any", "reversed"]
def jf(P:Program)(w:X1)(K:Q0)(mg:Str->Option Value)(fd:X9)(ps:List Str)(df:List A):Prop:=∀j,j<=df.length->∃ds dvs,Binds K fd ps ds/\Vals dvs ds/\∀G,bF ⟨K,mg,P,w⟩ G dvs (df.drop j)
noncomputable def kH(fi:FI)(n:Nat):List A:=fi.df.drop (fi.df.length-(fi.n-n))
variable{w:X1}{K:Q0}{mg:Str->Option Value}{fd:X9}{ps:List Str}
theorem jf.of{P:Program}{fi:FI}(h:jf P w K mg fd ps fi.df)(n:Nat):∃ds dvs,Binds K fd ps ds/\Vals dvs ds/\∀G,bF ⟨K,mg,P,w⟩ G dvs (kH fi n):=h _ (Nat.sub_le _ _)
theorem jf.all{P:Program}{df:List A}(h:jf P w K mg fd ps df):Binds K fd ps []:=by obtain⟨ds,dvs,h1,h2,h3⟩:=h df.length (Q9 _);have h3:=h3 λ_=>none;simp only[TB] at h3;cases h3;cases h2;exact h1
noncomputable def iG(tb:Tb)(f:Str):List Str:=(tb.fld.filter λp=>p.2.contains f).map (·.1)
noncomputable def EN(tb:Tb)(m:Str):List (Str×FI):=tb.mts.filterMap λp=>if p.1==m then some p.2 else none
structure Gd(tb:Tb)(k:Nat)(P:Program)(w:X1)(K:Q0)(mg:Str->Option Value)(base:Heap):Prop where
 fn:∀x f,tb.fns.lookup x=some f->∃a fd ps,c9 P w K mg base (oT P w) k a fd ps (fY ⟨K,mg,P,w⟩ f.n f.m)/\mg x=some (.ref a)/\Sa K (.ref a)=true/\jf P w K mg fd ps f.df
 cs:∀x a,tb.cst.lookup x=some a->∃v u,mg x=some u/\RelV v u/\∀G,RA ⟨K,mg,P,w⟩ G v a
 bl:∀x∈DV,mg x=none
 ex:∀x∈tb.exs,∃C,mg x=some (.ref C)/\Tu K C vC "ValueError.__new__" = true
 kt:∀x l,tb.kit.lookup x=some l->∃u cv,eP cv=true/\RelV cv u/\((mg x=some u)\/(mg x=none/\XX x=some u/\x ≠ "__name__"))/\∀c C k,l.lookup c=some k->mg c=some (.ref C)->fL K C/\RW K (.ref C) (gn cv)=some k
 em:∀x l,tb.exm.lookup x=some l->∃T,mg x=some (.ref T)/\∀c C,l.contains c=true->mg c=some (.ref C)->Ur K (.ref C) (.ref T)=some true
 fl:∀f c C,(iG tb f).contains c=true->mg c=some (.ref C)->i5 K C/\cG K C f
 im:∀c f,tb.hU.lookup c=some f->∃C a fd ps j,j+1<=k/\c9 P w K mg base (oT P w) j a fd ps (fY ⟨K,mg,P,w⟩ f.n f.m)/\mg c=some (.ref C)/\Mk K C a/\jf P w K mg fd ps f.df
 mt:∀m c f,(m,c,f)∈tb.mts->∃C a fd ps,c9 P w K mg base (oT P w) k a fd ps (fY ⟨K,mg,P,w⟩ f.n f.m)/\mg c=some (.ref C)/\i5 K C/\Meth K C m a/\jf P w K mg fd ps f.df
structure Sit(tb:Tb)(k:Nat)(X:Cx)(E:XK)(s:Sc):Prop where
 n:X.N=s.N
 nd:s.N.Nodup
 gl:∀x,s.nm.lookup x=some .globalImplicit->Gl X x
 vs:∀x,Dq s x=true->mL X.env.scope x
 lo:∀x,tf s x=true->Loc X.env.scope x
 lc:∀x,s.nm.lookup x=some .local->X.env.scope.names.lookup x=some .local
 ce:∀x,(s.nm.lookup x=some .cell->X.env.scope.names.lookup x=some .cell)/\(s.nm.lookup x=some .free->X.env.scope.names.lookup x=some .cell\/X.env.scope.names.lookup x=some .free)
 fx:∀x,tf s x=true->X.fn x=true\/X.env.scope.names.lookup x=some .local
 cm:s.hd=false->X.calm=true
 rm:s.hd=false->cF k X.A
 ps:s.hd=false->Passes (oT X.prog X.w) X E
 gd:Gd tb k X.prog X.w X.K X.mg X.base
variable{i:Nat}
section
variable{tb:Tb}{k:Nat}{X:Cx}{E:XK}{s:Sc}
theorem pM{x:Str}(h:okN x=true):eV x/\pE x:=by unfold okN at h;simp only[QZ] at h;exact⟨by simpa using h.1,by simpa using h.2⟩
theorem Sit.slot(S:Sit tb k X E s){x:Str}(h:M.slot s x=some i):X.N[i]?=some x/\mL X.env.scope x/\eV x/\pE x:=by
 obtain⟨h1,h2⟩:=ah h;simp only[QZ] at h1;obtain⟨j,e1,e2⟩:=kY h2;obtain rfl:i=j:=by lia
 exact⟨by rw[S.n];exact e2,S.vs x h1.1,(pM h1.2).1,(pM h1.2).2⟩
theorem Sit.fR(S:Sit tb k X E s){x:Str}(h:M.fR s x=some i):X.N[i]?=some x/\Loc X.env.scope x/\eV x/\(X.fn x=true\/X.env.scope.names.lookup x=some .local):=by
 obtain⟨h1,h2⟩:=ah h;simp only[QZ] at h1;obtain⟨j,e1,e2⟩:=kY h2;obtain rfl:i=j:=by lia
 exact⟨by rw[S.n];exact e2,S.lo x h1.1,(pM h1.2).1,S.fx x h1.1⟩
theorem Sit.glob(S:Sit tb k X E s){x:Str}(h:mM s x=true):Gl X x/\eV x:=by unfold mM m5 at h;rw[QZ,ZA] at h;exact⟨S.gl x h.1,(pM h.2).1⟩
end
noncomputable def notStar:Expr->Bool
 | .Starred _ _=>false
 |_=>true
variable{e:Expr}
theorem az(h:notStar e=true)(es:List Expr)(env:Env):XU (e::es) env=(false,eval e env)::XU es env:=by cases e<;>first|rfl|cases h
theorem cD{env:Env}{pos:Pos}:∀{es:List Expr},es.all notStar=true->(X4 pos (XU es env)).any (·.1)=false
 |[],_=>rfl
 |e::es,h=>by simp only[Rt,QZ] at h;rw[az h.1];show (false || (X4 pos (XU es env)).any (·.1))=false;rw[cD h.2];rfl
noncomputable def jH:Expr->Bool
 | .ListComp _ _ _ _=>false
 | .SetComp _ _ _ _=>false
 | .DictComp _ _ _ _ _=>false
 |_=>true
theorem gW(h:jH e=true)(t:Option Expr)(l:Nat)(env:Env):Yc e t l env=pure false:=by cases e<;>first|rfl|cases h
noncomputable def jT:Expr->Bool
 | .Set _ _ _=>false
 |_=>true
theorem lC(h:jT e=true)(env:Env)(x:Value):Yg e env x=pure x:=by cases e<;>first|rfl|cases h
noncomputable def plainT:Expr->Bool
 | .UnaryOp _ _ _=>false
 | .BoolOp _ _ _=>false
 | .IfExp _ _ _ _=>false
 | .Compare _ _ _ _=>false
 |_=>true
theorem rV(h:plainT e=true)(env:Env):∀z,Zg e env z=(do let v <- z;YE e.pos;holding [v] (truthy v)):=by intro z;cases e<;>first|rfl|cases h
noncomputable def jr:Expr->Bool
 | .Slice _ _ _ _=>false
 |_=>true
theorem sJ(h:jr e=true):je e:=by intro o i;cases e<;>first|rfl|cases h
variable{op:YB}
theorem jh(h:jT e=true):Yh op e=false:=by cases e<;>first|rfl|cases h
theorem uf{env:Env}:∀es:List Expr,(Ye es env).length=es.length
 |[]=>rfl
 |e::es=>by cases e<;>(show (_::Ye es env).length=_;simp only[Rb,Rb,uf es])
theorem qB{env:Env}:∀es:List Expr,es.all notStar=true->(Ye es env).findIdx? (·.1)=none
 |[],_=>rfl
 |e::es,h=>by
  simp only[Rt,QZ] at h;have l:=qB (env:=env) es h.2;have e1:Ye (e::es) env=(false,assign e env)::Ye es env:=by cases e<;>first|rfl|cases h.1
  simp only[e1,List.findIdx?_cons];simp[l]
variable{env:Env}
theorem yN{es:List Expr}(h:notStar e=true):(Ye (e::es) env).map (·.2)=assign e env::(Ye es env).map (·.2):=by cases e<;>first|rfl|cases h
noncomputable def zF(l:List (Str×Bool)):Str->Option Bool:=λc=>l.lookup c
noncomputable def HY(l:List Str):Str->Bool:=λc=>l.contains c
variable{q:Mi Rr}{pos p:Pos}{f:Str}
section
variable{tb:Tb}{k:Nat}{X:Cx}{E:XK}{s:Sc}
def wY(F:Expr->Option (Mi Rr)):List Expr->Option (Mi (List Rr))
 |[]=>some dy
 |e::es=>cH (notStar e) (ag (F e) λm=>ag (wY F es) λn=>some (cA m n))
def AX(F G:Expr->Option (Mi Rr)):List Expr->List Bool->Option (Mi (List Rr))
 |[],_=>some dy
 |e::es,b::bs=>cH (notStar e) (ag (match b with|true=>F e|false=>G e) λm=>ag (AX F G es bs) λn=>some (cA m n))
 |_::_,[]=>none
def NL(m:Mi (List Rr))(n:Nat):Prop:=∀Z rs O,m Z=some (.ok rs,O)->rs.length=n
theorem jA{F:Expr->Option (Mi Rr)}(h:∀e m,F e=some m->JE X E e m):∀{es:List Expr}{m:Mi (List Rr)},wY F es=some m->JA X E es m/\NL m es.length/\es.all notStar=true
 |[],m,e=>by cases e;exact⟨sF,sI,rfl⟩
 |a::es,m,e=>by obtain⟨h1,e⟩:=ah e;obtain⟨I,e1,e⟩:=aa e;obtain⟨K,e2,e⟩:=aa e;cases e;obtain⟨s,Q,Z⟩:=jA h e2;exact⟨kL (h _ _ e1) s (az h1 _ _),kO Q,by simp only[Rt,h1,Z];rfl⟩
theorem jx{F G:Expr->Option (Mi Rr)}(h:∀e m,F e=some m->JE X E e m)(g:∀e m,G e=some m->JE X E e m):∀{es:List Expr}{bs:List Bool}{m:Mi (List Rr)},AX F G es bs=some m->JA X E es m/\NL m es.length/\es.all notStar=true
 |[],_,m,e=>by cases e;exact⟨sF,sI,rfl⟩
 |_::_,[],m,e=>by cases e
 |a::es,b::bs,m,e=>by
  obtain⟨h1,e⟩:=ah e;obtain⟨I,e1,e⟩:=aa e;obtain⟨K,e2,e⟩:=aa e;cases e;obtain⟨s,Q,Z⟩:=jx h g e2;refine⟨kL ?_ s (az h1 _ _),kO Q,by simp only[Rt,h1,Z];rfl⟩;cases b
  .exact g _ _ e1
  .exact h _ _ e1
def Po(op:BoolOp)(F:Expr->Option (Mi Rr)):List Expr->Option (Mi Rr)
 |[]=>none
 |[a]=>F a
 |a::b::r=>ag (F a) λm=>ag (Po op F (b::r)) λn=>(match op with | .And=>some (kh m n) | .Or=>none)
theorem yL{op:BoolOp}{F:Expr->Option (Mi Rr)}{pos:Pos}(h:∀e m,F e=some m->JE X E e m):∀{es:List Expr}{m:Mi Rr},Po op F es=some m->JE X E (.BoolOp op es pos) m
 |[],m,e=>by cases e
 |[a],m,e=>Gr (h _ _ e)
 |a::b::r,m,e=>by
  obtain⟨I,e1,e⟩:=aa e;obtain⟨K,e2,e⟩:=aa e;have i:=yL (pos:=pos) h e2;cases op
  .cases e;exact G6 (h _ _ e1) i
  .cases e
def OX(op:BoolOp)(F:Expr->Option (Mi Bool)):List Expr->Option (Mi Bool)
 |[]=>none
 |[a]=>F a
 |a::b::r=>ag (F a) λm=>ag (OX op F (b::r)) λn=>some (match op with | .And=>jG m n | .Or=>xl m n)
theorem yJ{op:BoolOp}{F:Expr->Option (Mi Bool)}{pos:Pos}(h:∀e m,F e=some m->JT X E e m):∀{es:List Expr}{m:Mi Bool},OX op F es=some m->JW X E (.BoolOp op es pos) m
 |[],m,e=>by cases e
 |[a],m,e=>by cases op;exact Ec (h _ _ e);exact G5 (h _ _ e)
 |a::b::r,m,e=>by
  obtain⟨I,e1,e⟩:=aa e;obtain⟨K,e2,e⟩:=aa e;have i:=yJ (pos:=pos) h e2;cases op
  .cases e;exact F9 (h _ _ e1) i
  .cases e;exact Nh (h _ _ e1) i
def PL(s:Sc)(op:YB)(a b:Expr)(m n:Mi Rr):Option (Mi Rr):=match op with
 | .Eq=>cH (!s.hd) (some (aA dR m n))
 | .NotEq=>cH (!s.hd) (some (aA fS m n))
 | .Lt=>some (aA pj m n)
 | .LtE=>none
 | .Gt=>some (aA rQ m n)
 | .GtE=>some (aA Fv m n)
 | .Is=>some (aA (rZ false) m n)
 | .IsNot=>some (aA (rZ true) m n)
 | .In=>cH (!s.hd&&jT b) (some (aA (pK false) m n))
 | .NotIn=>cH (!s.hd&&jT b) (some (aA (pK true) m n))
theorem FX(S:Sit tb k X E s){a b:Expr}{m n:Mi Rr}(h:PL s op a b m n=some q)(ha:JE X E a m)(d:JE X E b n):JE X E (.Compare a [op] [b] pos) q/\JT X E (.Compare a [op] [b] pos) (aq q):=by
 cases op
 case Eq=>obtain⟨h1,h⟩:=ah h;have B:=(S.rm (by simpa using h1)).units;cases h;exact⟨Mb B ha d,My B ha d⟩
 case NotEq=>obtain⟨h1,h⟩:=ah h;have B:=(S.rm (by simpa using h1)).units;cases h;exact⟨MO B ha d,Kh B ha d⟩
 case Lt=>cases h;exact⟨LZ ha d,K0 ha d⟩
 case LtE=>cases h
 case Gt=>cases h;exact⟨Mp ha d,Mc ha d⟩
 case GtE=>cases h;exact⟨Nm ha d,LC ha d⟩
 case Is=>cases h;exact⟨MM ha d,K3 ha d⟩
 case IsNot=>cases h;exact⟨Ct ha d,CO ha d⟩
 case In=>obtain⟨h1,h⟩:=ah h;rw[QZ] at h1;cases h;exact⟨fM nj pU ha d (jh h1.2),fP nj pU ha d (jh h1.2)⟩
 case NotIn=>obtain⟨h1,h⟩:=ah h;rw[QZ] at h1;cases h;exact⟨fM jL pU ha d (jh h1.2),fP jL pU ha d (jh h1.2)⟩
def O1(f:Str):Option (A->Option Rr):=
 if f==("len" : Str) then some cM else if f==("abs" : Str) then some Cg else if f==("int" : Str) then some fO else if f==("tuple" : Str) then some lF else
 if f==("list" : Str) then some eD else if f==("any" : Str) then some (ke λbs=>bs.any id) else none
theorem bh(S:Sit tb k X E s){x:Str}(h:DV.contains x=true):X.mg x=none:=S.gd.bl x (Si.mp h)
theorem Gh(S:Sit tb k X E s){g:A->Option Rr}{a:Expr}{m:Mi Rr}(h:O1 f=some g)(G:mM s f=true)(Y:s.hd=false)(hs:notStar a=true)(ha:JE X E a m):JE X E (.Call (.Name f p) [a] [] pos) (bK g m):=by
 obtain⟨y,F⟩:=S.glob G;have hc:=S.cm Y;have h1:=az hs [] X.env;have h2:(X4 pos (XU [] X.env)).any (·.1)=false:=rfl;unfold O1 at h;split at h
 .rename_i z;rw[ZA] at z;subst z;cases h;exact uS xT JD y (bh S Z2) Iw ha Z2 F h1 h2
 split at h
 .rename_i z;rw[ZA] at z;subst z;cases h;exact uS yE GN y (bh S Z2) JR ha Z2 F h1 h2
 split at h
 .rename_i z;rw[ZA] at z;subst z;cases h;exact zT wF Jm y (bh S Z2) zv ha Z2 F h1 h2
 split at h
 .rename_i z;rw[ZA] at z;subst z;cases h;exact zT mO xH y (bh S Z2) rD ha Z2 F h1 h2
 split at h
 .rename_i z;rw[ZA] at z;subst z;cases h;exact zT oP Cu y (bh S Z2) kR ha Z2 F h1 h2
 split at h
 .rename_i z;rw[ZA] at z;subst z;cases h;exact uS (A6 hc) FY y (bh S Z2) AZ ha Z2 F h1 h2
 .cases h
def NO(f:Str):Option (A->A->Option Rr):=if f==("max" : Str) then some MQ else if f==("min" : Str) then some vZ else none
theorem zU(S:Sit tb k X E s){g:A->A->Option Rr}{a b:Expr}{m n:Mi Rr}(h:NO f=some g)(G:mM s f=true)(Y:s.hd=false)(hs:notStar a=true)(y:notStar b=true)(ha:JE X E a m)(d:JE X E b n):JE X E (.Call (.Name f p) [a,b] [] pos) (Fi g m n):=by
 obtain⟨D,F⟩:=S.glob G;have hc:=S.cm Y;have h1:=az hs [b] X.env;have h3:=az y [] X.env;have h2:(X4 pos (XU [b] X.env)).any (·.1)=false:=cD (by simp only[Rt,y];rfl);unfold NO at h;split at h
 .rename_i z;rw[ZA] at z;subst z;cases h;exact EX (wH hc) HR D (bh S Z2) Jv ha d Z2 F h1 h3 h2
 split at h
 .rename_i z;rw[ZA] at z;subst z;cases h;exact EX (wG hc) Hf D (bh S Z2) Hs ha d Z2 F h1 h3 h2
 .cases h
noncomputable def OK(x:Str):Option Ty:=if x==("int" : Str) then some .int else if x==("bool" : Str) then some .bool else if x==("str" : Str) then some .str else if x==("tuple" : Str) then some .tuple else if x==("list" : Str) then some .list else if x==("dict" : Str) then some .dict else none
theorem Jp{x:Str}{T:Ty}(h:OK x=some T):XX x=some (.type T.n)/\DV.contains x=true/\x ≠ "__name__" := by
 unfold OK at h;split at h
 .rename_i z;rw[ZA] at z;subst z;cases h;exact⟨zv,by decide +kernel,by decide +kernel⟩
 split at h
 .rename_i z;rw[ZA] at z;subst z;cases h;exact⟨BW,by decide +kernel,by decide +kernel⟩
 split at h
 .rename_i z;rw[ZA] at z;subst z;cases h;exact⟨Jn,by decide +kernel,by decide +kernel⟩
 split at h
 .rename_i z;rw[ZA] at z;subst z;cases h;exact⟨rD,by decide +kernel,by decide +kernel⟩
 split at h
 .rename_i z;rw[ZA] at z;subst z;cases h;exact⟨kR,by decide +kernel,by decide +kernel⟩
 split at h
 .rename_i z;rw[ZA] at z;subst z;cases h;exact⟨D2,by decide +kernel,by decide +kernel⟩
 .cases h
end
structure Tr where
 E:Sc->Expr->Option (Mi Rr)
 T:Sc->Expr->Option (Mi Bool)
 I:Sc->Expr->Expr->Option (Mi (List A))
structure cw(tb:Tb)(k:Nat)(r:Tr):Prop where
 E:∀{X E s e m},Sit tb k X E s->r.E s e=some m->JE X E e m
 T:∀{X E s e m},Sit tb k X E s->r.T s e=some m->JT X E e m
 I:∀{X E s tg e m},Sit tb k X E s->r.I s tg e=some m->JI X E tg e m
def Cj(s:Sc)(lo:Nat):Nat->Expr->Option Mg
 |0,_=>none
 |d+1,.Name x _=>ag (fR s x) λi=>cH (SE lo i) (some (aL i))
 |d+1,.Tuple es _ _=>cH (!s.hd) (ag (trGs (Cj s lo d) es) λgs=>some (iH es.length gs))
 |_+1,_=>none
where trGs (F:Expr->Option Mg):List Expr->Option Bx
 |[]=>some gM
 |e::es=>cH (notStar e) (ag (F e) λg=>ag (trGs F es) λgs=>some (ck g gs))
variable{r:Tr}{tg:Expr}
section
variable{tb:Tb}{k:Nat}{X:Cx}{E:XK}{s:Sc}
theorem vh{lo:Nat}{F:Expr->Option Mg}(h:∀e g,F e=some g->JG X lo e g):∀{es:List Expr}{gs:Bx},Cj.trGs F es=some gs->Lu X lo es gs/\es.all notStar=true
 |[],gs,e=>by cases e;exact⟨Df,rfl⟩
 |a::es,gs,e=>by obtain⟨h1,e⟩:=ah e;obtain⟨g,e1,e⟩:=aa e;obtain⟨c,e2,e⟩:=aa e;cases e;obtain⟨s,Q⟩:=vh h e2;exact⟨zB (h _ _ e1) s (λx y=>xD x y (yN h1)),by simp only[Rt,h1,Q];rfl⟩
theorem pV(S:Sit tb k X E s){lo:Nat}:∀{d:Nat}{e:Expr}{g:Mg},Cj s lo d e=some g->JG X lo e g
 |0,e,g,h=>by cases h
 |d+1,e,g,h=>by
  unfold Cj at h;split at h
  .rename_i c;cases c
  .rename_i c;cases c;obtain⟨i,e1,h⟩:=aa h;obtain⟨h1,h⟩:=ah h;cases h;obtain⟨a1,f,q,p⟩:=S.fR e1;exact Dv (by rw[S.n];exact S.nd) a1 f (R0 h1) p
  .rename_i c;cases c;obtain⟨h0,h⟩:=ah h;obtain⟨gs,e1,h⟩:=aa h;cases h;obtain⟨b,Q⟩:=vh (λe g h=>pV S h) e1;have hc:=S.cm (by simpa using h0);exact G8 hc b (uf _) (qB _ Q)
  .cases h
noncomputable def xB:Expr->Bool
 | .Tuple _ _ _=>true
 |_=>false
noncomputable def PH:Expr->Bool
 | .Name _ _=>true
 |_=>false
def DE(r:Tr)(s:Sc)(tg:Expr):Expr->Option (Mi (List A))
 | .Call (.Name f p) [a] [] pos=>match f==("range" : Str) with
  |true=>cH (mM s f&&notStar a) (ag (r.E s a) λm=>some (bq m))
  |false=>ag (r.E s (.Call (.Name f p) [a] [] pos)) λm=>some (cX m)
 | .Call (.Name f p) [a,b] [] pos=>match f==("range" : Str) with
  |true=>cH (mM s f&&notStar a&&notStar b) (ag (r.E s a) λm=>ag (r.E s b) λn=>some (qO m n))
  |false=>match f==("zip" : Str) with
   |true=>cH (mM s f&&notStar a&&notStar b&&xB tg) (ag (r.E s a) λm=>ag (r.E s b) λn=>some (lJ m n))
   |false=>ag (r.E s (.Call (.Name f p) [a,b] [] pos)) λm=>some (cX m)
 |e=>ag (r.E s e) λm=>some (cX m)
theorem gu(R:cw tb k r)(S:Sit tb k X E s){m:Mi (List A)}(h:(ag (r.E s e) λm=>some (cX m))=some m):JI X E tg e m:=by obtain⟨I,e1,h⟩:=aa h;cases h;exact Ih (R.E S e1)
theorem BL(R:cw tb k r)(S:Sit tb k X E s){m:Mi (List A)}(h:DE r s tg e=some m):JI X E tg e m:=by
 cases e with
 |Call fn args H pos=>cases fn with
  |Name f p=>cases args with
   |nil=>exact gu R S h
   |cons a l=>cases l with
    |nil=>cases H with
     |cons _ _=>exact gu R S h
     |nil=>
      delta DE at h
      dsimp only at h
      split at h
      .rename_i z;rw[ZA] at z;subst z
       obtain⟨h1,h⟩:=ah h
       simp only[QZ] at h1
       obtain⟨I,e1,h⟩:=aa h
       cases h
       exact CY (S.glob h1.1).1 (bh S Z2) (R.E S e1) (az h1.2 _ _) (az h1.2 _ _)
      .exact gu R S h
    |cons b l=>cases l with
     |cons _ _=>exact gu R S h
     |nil=>cases H with
      |cons _ _=>exact gu R S h
      |nil=>
       delta DE at h
       dsimp only at h
       split at h
       .rename_i z;rw[ZA] at z;subst z
        obtain⟨h1,h⟩:=ah h
        rw[QZ,QZ] at h1
        obtain⟨I,e1,h⟩:=aa h
        obtain⟨K,e2,h⟩:=aa h
        cases h
        have k1:=az h1.1.2
        have k2:=az h1.2
        exact Dc (S.glob h1.1.1).1 (bh S Z2) (R.E S e1) (R.E S e2) (by rw[k1,k2];rfl) (by rw[k2];rfl) (k1 _ _) (k2 _ _)
       .split at h
        .rename_i z;rw[ZA] at z;subst z
         obtain⟨h1,h⟩:=ah h
         simp only[QZ,QZ,QZ] at h1
         obtain⟨I,e1,h⟩:=aa h
         obtain⟨K,e2,h⟩:=aa h
         cases h
         have k1:=az h1.1.1.2
         have k2:=az h1.1.2
         cases tg<;>first|(exact yW h1.2)|skip
         exact BC (S.glob h1.1.1.1).1 (bh S Z2) (R.E S e1) (R.E S e2) (by rw[k1,k2];rfl) (by rw[k2];rfl) (k1 _ _) (k2 _ _)
        .exact gu R S h
  |_=>exact gu R S h
 |_=>exact gu R S h
noncomputable def p0{α:Type}(a b:Option α):Option α:=match a with
 |some x=>some x
 |none=>b
theorem bu{a b:Option α}{x:α}(h:p0 a b=some x):a=some x\/b=some x:=by
 cases a with
 |none=>exact .inr h
 |some y=>exact .inl h
def OJ(r:Tr)(s:Sc)(tg e:Expr):Option (Mi (List A)):=p0 (r.I s tg e) (DE r s tg e)
theorem ze(R:cw tb k r)(S:Sit tb k X E s){m:Mi (List A)}(h:OJ r s tg e=some m):JI X E tg e m:=by
 rcases bu h with h|h
 .exact R.I S h
 .exact BL R S h
noncomputable def PB:Nat->Expr->List Str
 |0,_=>[]
 |_+1,.Name x _=>[x]
 |d+1,.Tuple es _ _=>es.flatMap (PB d)
 |_+1,_=>[]
noncomputable def O4(N own:List Str):List Str:=N.map (λn=>if own.contains n then n++(" (of the def)" : Str) else n)++own
def yo(s:Sc)(N:List Str)(own:Nat)(sc:Scope):Bool:=
 sc.kind==.function&&sc.names.all (λy=>y.2 != .cell || sc.names.lookup y.1==some .cell)&&sc.names.all (λy=>y.2 != .local || sc.names.lookup y.1==some .local)&&N.length==s.N.length+own&&decide N.Nodup &&
 ((N.take s.N.length).zip s.N).all (λp=>p.1==p.2 || sc.names.lookup p.1==none)&&(N.take s.N.length).all (λn=>sc.names.lookup n != some .local&&sc.names.lookup n != some .cell)&&sc.names.all (λy=>y.2 != .free || (s.nm.lookup y.1==some .cell || s.nm.lookup y.1==some .free))
def zC(s:Sc)(N:List Str)(sc:Scope):Sc:={ N:=N,nm:=sc.names,di:=s.di,ca:=[],hd:=false,lv:=s.lv }
end
variable{elt:Expr}{gs:List YK}{args:List Expr}
section
variable{tb:Tb}{k:Nat}{X:Cx}{E:XK}{s:Sc}
theorem dZ{α:Type}{x:Str}{v:α}:∀{l:List (Str×α)},l.lookup x=some v->(x,v)∈l
 |(y,u)::l,h=>by
  simp only[Rk] at h;split at h
  .rename_i e;cases h;rw[ZA.mp e];exact Rg
  .exact Q5 _ (dZ h)
theorem lO{sc:Scope}{x:Str}(h:sc.names.lookup x=some .cell):(relabel sc env).names.lookup x=some .cell:=by
 rcases du (env:=env) h with z|⟨z,_⟩
 .exact z
 .cases z
theorem Sit.comp(S:Sit tb k X E s){N:List Str}{sc:Scope}{own:Nat}(h:yo s N own sc=true)(Y:s.hd=false):
  fN X.N N own sc X.env.scope/\∀cl C Z H fp,Sit tb k (iV X N sc cl C Z H fp) lK (zC s N sc):=by
 unfold yo at h;simp only[QZ,ZA,decide_eq_true_eq,R8,SH,bne_iff_ne,ne_eq] at h;obtain⟨⟨⟨⟨⟨⟨⟨h1,h2⟩,h3⟩,h4⟩,h5⟩,I⟩,m⟩,Q⟩:=h;refine⟨⟨h1,λy hy e=>?_,λy hy e=>?_,by rw[S.n];exact h4,h5,by rw[S.n];exact I,by rw[S.n];exact m,λy hy e=>?_⟩,λcl C Z H fp=>?_⟩
 .exact(h2 y hy).resolve_left λz=>z e
 .rcases h3 y hy with z|z
  .exact absurd e z
  .exact z
 .rcases Q y hy with z|z
  .exact absurd e z
  .rcases z with z|z
   .exact .inl ((S.ce _).1 z)
   .exact(S.ce _).2 z
 .have loc:∀x,tf (zC s N sc) x=true->sc.names.lookup x=some .local\/sc.names.lookup x=some .cell:=λx hx=>by unfold tf m5 zC at hx;simpa only[SH,ZA] using hx
  refine⟨rfl,h5,λx hx=>Aa hx,λx hx=>?_,λx hx=>(loc x hx).imp ib lO,λx hx=>ib hx,λx=>⟨λhx=>lO hx,λhx=>by rcases du (env:=X.env) hx with z|⟨_,z⟩;exact .inr z;exact .inl z⟩,λx hx=>(loc x hx).elim (λz=>.inr (ib z)) λz=>.inl (by show (sc.names.lookup x==some .cell)=true;rw[z];rfl),λ_=>S.cm Y,λ_=>S.rm Y,λ_=>Ak,S.gd⟩;unfold Dq m5 zC at hx;simp only[SH,ZA] at hx;rcases hx with (z|z)|z
  .exact .inl (ib z)
  .exact .inr (.inl (lO z))
  .exact rN z
def Gw(r:Tr)(s:Sc):List Expr->Option (Mi Bool)
 |[]=>some aG
 |[t]=>r.T s t
 |_=>none
def pF(r:Tr)(s:Sc)(elt:Expr)(gs:List YK)(sc:Scope):Option (Mi Rr):=match gs with
 |[g]=>
  let own:=PB 9 g.target
  let N:=O4 s.N own
  let s':=zC s N sc
  cH (!s.hd&&g.is_async==0&&jT g.iter&&yo s N own.length sc) (ag (OJ r s g.target g.iter) λmi=>ag (Cj s' s.N.length 9 g.target) λG=>ag (Gw r s' g.ifs) λmt=>ag (r.E s' elt) λc=>some (aI own.length mi G mt c))
 |_=>none
theorem DL(R:cw tb k r)(S:Sit tb k X E s){ifs:List Expr}{m:Mi Bool}(h:Gw r s ifs=some m):JF X E ifs m:=by
 unfold Gw at h;split at h
 .cases h;exact F5
 .exact GB (R.T S h)
 .cases h
theorem m9(R:cw tb k r)(S:Sit tb k X E s){sc:Scope}{m:Mi Rr}(h:pF r s elt gs sc=some m):
  s.hd=false/\∃N own tg iter ifs mi G mt c,gs=[⟨tg,iter,ifs,0⟩]/\m=aI own mi G mt c/\fN X.N N own sc X.env.scope/\JI X E tg iter mi/\(∀cl C Z H fp,JG (iV X N sc cl C Z H fp) X.N.length tg G) /\
   (∀cl C Z H fp,JF (iV X N sc cl C Z H fp) lK ifs mt)/\(∀cl C Z H fp,JE (iV X N sc cl C Z H fp) lK elt c)/\∀x,Yg iter X.env x=pure x:=by
 unfold pF at h;split at h
 .rename_i g;obtain⟨tg,iter,ifs,a⟩:=g;obtain⟨h0,h⟩:=ah h;simp only[QZ,ZA,Rz] at h0;obtain⟨⟨⟨h1,rfl⟩,h3⟩,h4⟩:=h0;obtain⟨mi,e1,h⟩:=aa h;obtain⟨G,e2,h⟩:=aa h;obtain⟨mt,L,h⟩:=aa h;obtain⟨c,A,h⟩:=aa h;cases h;obtain⟨q,p⟩:=S.comp h4 h1;exact⟨h1,_,_,tg,iter,ifs,mi,G,mt,c,rfl,rfl,q,ze R S e1,λcl C Z H fp=>by rw[S.n];exact pV (p cl C Z H fp) e2,λcl C Z H fp=>DL R (p cl C Z H fp) L,λcl C Z H fp=>R.E (p cl C Z H fp) A,lC h3 _⟩
 .cases h
def O8(F:Expr->Option (Mi Rr)):Option Expr->Option (Mi (Option Int))
 |none=>some aK
 |some e=>ag (F e) λm=>some (bx m)
theorem xt{F:Expr->Option (Mi Rr)}(h:∀e m,F e=some m->JE X E e m){o:Option Expr}{m:Mi (Option Int)}(e:O8 F o=some m):JP X E o m:=by
 cases o with
 |none=>cases e;exact DN
 |some a=>obtain⟨I,e1,e⟩:=aa e;cases e;exact Di (h _ _ e1)
def yU(r:Tr)(s:Sc)(a:Expr):Expr->Option (Mi Rr)
 | .Slice lo hi none _=>ag (r.E s a) λm=>ag (O8 (r.E s) lo) λH=>ag (O8 (r.E s) hi) λY=>some (cO m H Y)
 |b=>cH (jr b&&!s.hd) (ag (r.E s a) λm=>ag (r.E s b) λn=>some (aA BS m n))
theorem yd(R:cw tb k r)(S:Sit tb k X E s){a b:Expr}{m:Mi Rr}(h:yU r s a b=some m):JE X E (.Subscript a b pos) m:=by
 unfold yU at h;split at h
 .obtain⟨I,e1,h⟩:=aa h;obtain⟨K,e2,h⟩:=aa h;obtain⟨u,L,h⟩:=aa h;cases h;exact JO (R.E S e1) (xt (λ_ _=>R.E S) e2) (xt (λ_ _=>R.E S) L)
 .obtain⟨h0,h⟩:=ah h;simp only[QZ,Rz] at h0;obtain⟨I,e1,h⟩:=aa h;obtain⟨K,e2,h⟩:=aa h;cases h;exact IL (R.E S e1) (R.E S e2) (sJ h0.1)
noncomputable def QJ(f:Str):Bool:=match f.cps[0]? with
 |some c=>SE 65 c&&SE c 90
 |none=>false
def Hi:Expr->Bool
 | .ListComp _ _ _ _=>true
 | .List _ _=>true
 | .Dict _ _ _=>true
 | .BinOp _ .Add _ _=>true
 | .Subscript _ (.Slice _ _ _ _) _=>true
 | .Call (.Name f _) _ _ _=>f==("list" : Str) || f==("sorted" : Str) || f==("dict" : Str) || QJ f
 | .Call (.Attribute _ _ _) _ _ _=>true
 |_=>false
def Ke(r:Tr)(s:Sc)(e:Expr):Option (Mi Rr):=match e with
 | .Name x _=>match s.lv.contains x with
  |true=>r.E s e
  |false=>match slot s x with
   |some i=>some (ai i)
   |none=>r.E s e
 |e=>match Hi e with
  |true=>ag (r.E s e) λm=>some (fB m)
  |false=>r.E s e
theorem lu(R:cw tb k r)(S:Sit tb k X E s){m:Mi Rr}(h:Ke r s e=some m):JE X E e m:=by
 unfold Ke at h;split at h
 .split at h
  .exact R.E S h
  split at h
  .rename_i e1;cases h;obtain⟨a1,f,q,p⟩:=S.slot e1;exact BY a1 f q p
  .exact R.E S h
 .split at h
  .obtain⟨I,e1,h⟩:=aa h;cases h;exact Ky (R.E S e1)
  .exact R.E S h
noncomputable def eR(s:Sc):Nat->List Expr->List Bool->List Nat
 |j,.Name x _::es,false::bs=>match s.lv.contains x with
  |true=>j::eR s (j+1) es bs
  |false=>eR s (j+1) es bs
 |j,_::es,_::bs=>eR s (j+1) es bs
 |_,_,_=>[]
def dF:List Nat->Ms->Ms
 |[],m=>m
 |j::js,m=>cS j (dF js m)
theorem fY.dF{K:Kx}{n:Nat}{m:Ms}{vs:List V}{H:Hp}{Q:VK}{E:XK}:∀{b:List Nat},fY K n (M.dF b m) vs H Q E->fY K n m vs H Q E
 |[],h=>h
 |_::_,h=>fY.dF (fY.A0 h)
def J4(tb:Tb)(r:Tr)(s:Sc)(fi:FI)(args:List Expr):Option (Mi (List Rr)):=cH (args.length+(kH fi args.length).length==fi.n) (AX (r.E s) (Ke r s) args fi.mu)
def ye(tb:Tb)(r:Tr)(s:Sc)(fi:FI)(args:List Expr):Option (Mi (List Rr)):=cH (args.length+1+(kH fi (args.length+1)).length==fi.n) (AX (r.E s) (Ke r s) args (fi.mu.drop 1))
def Ao(tb:Tb)(r:Tr)(s:Sc)(f:Str):List Expr->Option (Mi Rr)
 |[]=>none
 |a::as=>ag (tb.hU.lookup f) λfi=>cH (!s.hd) (ag (ye tb r s fi (a::as)) λm=>some (ot f (dF (eR s 1 (a::as) (fi.mu.drop 1)) fi.m) (kH fi ((a::as).length+1)) m))
def EO(tb:Tb)(r:Tr)(s:Sc)(a:Expr)(x:Str):Option (Mi Rr):=match OK x with
 |some T=>ag (r.E s a) λm=>some (bK (Iq T) m)
 |none=>match a with
  | .Name y _=>cH (s.ca.contains y) (ag (tb.kit.lookup x) λl=>ag (r.E s a) λm=>some (bK (eA (zF l)) m))
  |_=>none
def zt(tb:Tb)(s:Sc):List Expr->Option (List (List (Str×Bool)))
 |[]=>some []
 | .Name x _::es=>cH (mM s x) (ag (tb.kit.lookup x) λl=>ag (zt tb s es) λls=>some (l::ls))
 |_=>none
theorem uR(S:Sit tb k X E s):∀{es:List Expr}{ls:List (List (Str×Bool))},zt tb s es=some ls->∃Y,PA X es (Qe Y)/\Y.all eP=true/\Y.length=es.length/\∀c C b,gS ls c=some b->X.mg c=some (.ref C)->(ls≠[]->fL X.K C)/\SM X.K (.ref C) (Y.map gn)=some b
 |[],ls,h=>by cases h;exact⟨[],cc,rfl,rfl,λc C b e _=>⟨λz=>absurd rfl z,e⟩⟩
 |e::es,ls,h=>by
  unfold zt at h;split at h
  .rename_i H;cases H
  .rename_i x p q H;cases H;obtain⟨G,h⟩:=ah h;obtain⟨l,e1,h⟩:=aa h;obtain⟨m,e2,h⟩:=aa h;cases h;obtain⟨Y,f,Q,o,B⟩:=uR S e2;obtain⟨u,cv,U,D,Z,a⟩:=S.gd.kt _ _ e1;obtain⟨g,j⟩:=S.glob G;have y:PE X (.Name x p) (tC cv):=by
    rcases Z with Z|⟨Z,i,L⟩
    .exact oK g Z D j
    .exact oR g Z i D L j
   refine⟨cv::Y,aR y f rfl,by simp only[Rt,U,Q];rfl,by simp only[Rb,Rb,o],λc C b N hm=>?_⟩;unfold gS at N;split at N
   .rename_i v;cases N;obtain⟨x1,x2⟩:=a c C true v hm;exact⟨λ_=>x1,by simp only[RO,SM,x2]⟩
   .rename_i v;obtain⟨x1,x2⟩:=a c C false v hm;exact⟨λ_=>x1,by simp only[RO,SM,x2];exact(B c C b N hm).2⟩
   .cases N
  .cases h
def E3(tb:Tb)(r:Tr)(s:Sc)(a:Expr)(es:List Expr):Option (Mi Rr):=match a,es with
 | .Name y _,e::es=>cH (s.ca.contains y&&SE es.length 100) (ag (zt tb s (e::es)) λls=>ag (r.E s a) λm=>some (bK (eA (gS ls)) m))
 |_,_=>none
def ym(tb:Tb)(r:Tr)(s:Sc)(f:Str)(args:List Expr):Option (Mi Rr):=cH (mM s f) (match tb.fns.lookup f with
 |some fi=>match args with
  |[]=>none
  |a::as=>match s.hd with
   |true=>none
   |false=>ag (J4 tb r s fi (a::as)) λm=>some (bj (dF (eR s 0 (a::as) fi.mu) fi.m) (kH fi (a::as).length) m)
 |none=>match tb.hU.lookup f with
 |some _=>Ao tb r s f args
 |none=>match args with
  |[a]=>cH (notStar a&&!s.hd) (ag (O1 f) λg=>ag (r.E s a) λm=>some (bK g m))
  |[a,.Name x p]=>match f==("isinstance" : Str) with
   |true=>cH (notStar a&&mM s x) (EO tb r s a x)
   |false=>cH (notStar a&&!s.hd) (ag (NO f) λg=>ag (r.E s a) λm=>ag (r.E s (.Name x p)) λn=>some (Fi g m n))
  |[a,.Tuple es _ _]=>cH (notStar a&&f==("isinstance" : Str)) (E3 tb r s a es)
  |[a,b]=>cH (notStar a&&notStar b&&!s.hd) (ag (NO f) λg=>ag (r.E s a) λm=>ag (r.E s b) λn=>some (Fi g m n))
  | _=>none)
theorem wq(R:cw tb k r)(S:Sit tb k X E s){m:Mi Rr}(h:ym tb r s f args=some m):JE X E (.Call (.Name f p) args [] pos) m:=by
 have h':=ah h;clear h;obtain⟨G,h⟩:=h';split at h
 .rename_i fi Q;split at h
  .cases h
  .rename_i a as;split at h
   .cases h
   rename_i Y;obtain⟨ma,e1,h⟩:=aa h;cases h;obtain⟨h1,e1⟩:=ah e1;obtain⟨i,K,L⟩:=jx (λ_ _=>R.E S) (λ_ _=>lu R S) e1;obtain⟨e,fd,ps,F,hm,hk,d⟩:=S.gd.fn f fi Q;obtain⟨ds,dvs,H,o,B⟩:=d.of (a::as).length;have x:=L;simp only[Rt,QZ] at x;exact Ci (F.imp λ_ _ _ _ q=>fY.dF q) (S.rm Y) (S.glob G).1 hm hk H o B (S.ps Y) i (sN K (by simp only[ZA] at h1;exact h1)) (S.glob G).2 (az x.1 _ _) (cD x.2)
 split at h
 .unfold Ao at h;split at h
  .cases h
  .rename_i a as;obtain⟨fi,Q,h⟩:=aa h;obtain⟨Y,h⟩:=ah h;have Y:s.hd=false:=by simpa using Y
   obtain⟨ma,e1,h⟩:=aa h;cases h;obtain⟨h1,e1⟩:=ah e1;simp only[ZA] at h1;obtain⟨i,K,L⟩:=jx (λ_ _=>R.E S) (λ_ _=>lu R S) e1;obtain⟨C,e,fd,ps,j,n,F,hm,hk,d⟩:=S.gd.im f fi Q;obtain⟨ds,dvs,H,o,B⟩:=d.of ((a::as).length+1);have x:=L;simp only[Rt,QZ] at x;exact C8 hk (F.imp λ_ _ _ _ q=>fY.dF q) ((S.rm Y).mono n) (S.glob G).1 hm H o B (S.ps Y) i (λZ rs O q=>by rw[K Z rs O q];exact h1) (S.glob G).2 (az x.1 _ _) (cD x.2)
 .split at h
  .obtain⟨h0,h⟩:=ah h;simp only[QZ,Rz] at h0;obtain⟨g,e1,h⟩:=aa h;obtain⟨I,e2,h⟩:=aa h;cases h;exact Gh S e1 G h0.2 h0.1 (R.E S e2)
  .split at h
   .rename_i z;rw[ZA] at z;subst z;obtain⟨h0,h⟩:=ah h;simp only[QZ] at h0;obtain⟨y,U⟩:=S.glob G;obtain⟨N,P⟩:=S.glob h0.2;unfold EO at h;split at h
    .rename_i T V;obtain⟨I,e2,h⟩:=aa h;cases h;obtain⟨t,t2,t3⟩:=Jp V;exact Jt T y (bh S Z2) fj N (bh S t2) t (R.E S e2) Z2 U t3 P (az h0.1 _ _)
    .split at h
     .obtain⟨_,h⟩:=ah h;obtain⟨l,e1,h⟩:=aa h;obtain⟨I,e2,h⟩:=aa h;cases h;obtain⟨u,cv,c1,J,v,c4⟩:=S.gd.kt _ _ e1;refine B6 (cv:=cv) y (bh S Z2) fj ?_ c1 (λc C k hk hm=>c4 c C k hk hm) (R.E S e2) Z2 U (az h0.1 _ _);rcases v with v|⟨v,c5,c6⟩
      .exact oK N v J P
      .exact oR N v c5 J c6 P
     .cases h
   .obtain⟨h0,h⟩:=ah h;simp only[QZ,Rz] at h0;obtain⟨g,e1,h⟩:=aa h;obtain⟨I,e2,h⟩:=aa h;obtain⟨m2,D,h⟩:=aa h;cases h;exact zU S e1 G h0.2 h0.1 rfl (R.E S e2) (R.E S D)
  .have h':=ah h;clear h;obtain⟨h0,h⟩:=h';simp only[QZ,ZA] at h0;obtain⟨hs,z⟩:=h0;subst z;obtain⟨y,U⟩:=S.glob G;unfold E3 at h;split at h
   .have h':=ah h;clear h;obtain⟨h0,h⟩:=h';simp only[QZ] at h0;obtain⟨ls,e1,h⟩:=aa h;obtain⟨I,e2,h⟩:=aa h;cases h;obtain⟨cvs,p1,p2,p3,w⟩:=uR S e1;have ne:ls≠[]:=by
     intro z;subst z;unfold zt at e1;split at e1
     .rename_i q;cases q
     .obtain⟨_,e1⟩:=ah e1;obtain⟨_,_,e1⟩:=aa e1;obtain⟨_,_,e1⟩:=aa e1;cases e1
     .cases e1
    refine C9 y (bh S Z2) fj p1 p2 ?_ (λc C b A hm=>⟨(w c C b A hm).1 ne,(w c C b A hm).2⟩) (R.E S e2) Z2 U (az hs _ _);simp only[p3,Rb];have:=R0 h0.2;have:=kl;exact Oe
   .cases h
  .obtain⟨h0,h⟩:=ah h;simp only[QZ,Rz] at h0;obtain⟨g,e1,h⟩:=aa h;obtain⟨I,e2,h⟩:=aa h;obtain⟨m2,D,h⟩:=aa h;cases h;exact zU S e1 G h0.2 h0.1.1 h0.1.2 (R.E S e2) (R.E S D)
  .cases h
end
variable{o:Expr}{apos cpos px:Pos}
section
variable{tb:Tb}{k:Nat}{X:Cx}{E:XK}{s:Sc}
noncomputable def nE(o:Expr):Bool:=match o with
 | .Call f args kw _=>match f with
  | .Name _ _=>!(args.isEmpty&&kw.isEmpty)
  |_=>true
 |_=>true
theorem bM(h:nE o=true)(m:Str)(env:Env)(w:Sem Value):X7 o m env w=w:=by
 cases o with
 |Call f args N p=>cases f with
  |Name _ _=>cases args with
   |cons _ _=>rfl
   |nil=>cases N with
    |cons _ _=>rfl
    |nil=>cases h
  |_=>rfl
 |_=>rfl
theorem Nu(h:notStar e=true)(cpos:Pos)(env:Env):((X4 cpos (XU [e] env)).all (λx=>!x.1)&&(Yl cpos (Yb [] env)).all (λx=>x.1.isSome)&&decide (([e]:List Expr).length+([]:List Ym).length+(if ([]:List Ym).isEmpty then 0 else 1)<30))=true:=by rw[az h];rfl
def Qy(e:Expr):Option (Expr×Str×Pos×Pos):=match e with
 | .Call f args kw cpos=>match f with
  | .Attribute o m apos=>cH (args.isEmpty&&kw.isEmpty) (some (o,m,apos,cpos))
  |_=>none
 |_=>none
def Jy(e:Expr):Option (Expr×Str×Pos×Expr×Pos):=match e with
 | .Call f args kw cpos=>match f with
  | .Attribute o m apos=>match args with
   |[a]=>cH (kw.isEmpty&&notStar a) (some (o,m,apos,a,cpos))
   |_=>none
  |_=>none
 |_=>none
theorem vP{a:Expr}{m:Str}(h:Jy e=some (o,m,apos,a,cpos)):e=.Call (.Attribute o m apos) [a] [] cpos/\notStar a=true:=by
 unfold Jy at h;split at h
 .rename_i f args N c;split at h
  .split at h
   .obtain⟨h0,h⟩:=ah h;rw[QZ,R6] at h0;cases h;rw[h0.1];exact⟨rfl,h0.2⟩
   .cases h
  .cases h
 .cases h
def vK(e:Expr):Option (Str×Pos×Expr×Pos):=match e with
 | .Call f args kw cpos=>match f with
  | .Name x p=>match args with
   |[a]=>cH (kw.isEmpty&&notStar a) (some (x,p,a,cpos))
   |_=>none
  |_=>none
 |_=>none
theorem il{a:Expr}{x:Str}(h:vK e=some (x,p,a,cpos)):e=.Call (.Name x p) [a] [] cpos/\notStar a=true:=by
 unfold vK at h;split at h
 .rename_i f args N c;split at h
  .split at h
   .obtain⟨h0,h⟩:=ah h;rw[QZ,R6] at h0;cases h;rw[h0.1];exact⟨rfl,h0.2⟩
   .cases h
  .cases h
 .cases h
noncomputable def rS(e:Expr):Option (Str×Pos):=match e with
 | .Name x p=>some (x,p)
 |_=>none
theorem bT{x:Str}(h:rS e=some (x,p)):e=.Name x p:=by
 unfold rS at h;split at h
 .cases h;rfl
 .cases h
def Cr(e:Expr):Option (Str×Pos×Expr×Expr×Pos):=match e with
 | .Call f args kw cpos=>match f with
  | .Name x p=>match args with
   |[a,b]=>cH (kw.isEmpty&&notStar a&&notStar b) (some (x,p,a,b,cpos))
   |_=>none
  |_=>none
 |_=>none
theorem oj{a b:Expr}{x:Str}(h:Cr e=some (x,p,a,b,cpos)):e=.Call (.Name x p) [a,b] [] cpos/\notStar a=true/\notStar b=true:=by
 unfold Cr at h;split at h
 .rename_i f args N c;split at h
  .split at h
   .obtain⟨h0,h⟩:=ah h;rw[QZ,QZ,R6] at h0;cases h;rw[h0.1.1];exact⟨rfl,h0.1.2,h0.2⟩
   .cases h
  .cases h
 .cases h
noncomputable def Nr:Expr->Bool
 | .Call _ _ _ _=>true
 |_=>false
def nR(tb:Tb)(r:Tr)(s:Sc)(e:Expr):Option (Mi Rr):=ag (Cr e) λ(f,_,a,b,_)=>cH (mM s f&&!s.hd&&Nr a) (ag (tb.fns.lookup f) λfi=>cH (fi.mu==[true,false]&&2+(kH fi 2).length==fi.n) (ag (r.E s a) λm=>ag (r.E s b) λn=>some (d6 fi.m (kH fi 2) (cA m (cA n dy)))))
theorem o6(R:cw tb k r)(S:Sit tb k X E s)(h:nR tb r s e=some q):JE X E e q:=by obtain⟨⟨f,p,a,b,cpos⟩,h1,g⟩:=aa h;clear h;obtain⟨rfl,hs,j⟩:=oj h1;obtain⟨h2,g⟩:=ah g;simp only[QZ,Rz] at h2;obtain⟨⟨G,Y⟩,_⟩:=h2;obtain⟨fi,Q,g⟩:=aa g;obtain⟨h3,g⟩:=ah g;rw[QZ,ZA (a:=2+_)] at h3;obtain⟨m,e1,g⟩:=aa g;obtain⟨n,e2,g⟩:=aa g;cases g;obtain⟨c,fd,ps,F,hm,hk,d⟩:=S.gd.fn f fi Q;obtain⟨ds,dvs,H,o,B⟩:=d.of 2;exact xw F (S.rm Y) (S.glob G).1 hm hk H o B (S.ps Y) (kL (R.E S e1) (kL (R.E S e2) sF (az j _ _)) (az hs _ _)) (sN (kO (kO sI)) h3.2) (S.glob G).2 (az hs _ _) (cD (by simp only[Rt,j];rfl))
def vg(_:Tb)(r:Tr)(s:Sc)(tg e:Expr):Option (Mi (List A)):=ag (vK e) λ(f,_,a,_)=>cH (f==("enumerate" : Str)&&mM s f&&xB tg) (ag (r.E s a) λn=>some (zS n))
theorem sR(R:cw tb k r)(S:Sit tb k X E s){q:Mi (List A)}(h:vg tb r s tg e=some q):JI X E tg e q:=by
 obtain⟨⟨f,p,a,cpos⟩,h1,g⟩:=aa h;clear h;obtain⟨rfl,hs⟩:=il h1;obtain⟨h2,g⟩:=ah g;simp only[QZ,ZA] at h2;obtain⟨n,e2,g⟩:=aa g;cases g;obtain⟨⟨rfl,G⟩,j⟩:=h2;cases tg<;>first|(exact yW j)|skip
 exact Dn (S.glob G).1 (bh S Z2) (R.E S e2) (az hs _ _) (az hs _ _)
def yO(_:Tb)(r:Tr)(s:Sc)(e:Expr):Option (Mi Rr):=ag (vK e) λ(f,_,a,_)=>cH (f==("sum" : Str)&&mM s f&&!s.hd) (ag (r.E s a) λn=>some (bK mV n))
theorem wB(R:cw tb k r)(S:Sit tb k X E s)(h:yO tb r s e=some q):JE X E e q:=by obtain⟨⟨f,p,a,cpos⟩,h1,g⟩:=aa h;clear h;obtain⟨rfl,hs⟩:=il h1;obtain⟨h2,h⟩:=ah g;simp only[QZ,QZ,ZA,Rz] at h2;obtain⟨n,e2,h⟩:=aa h;cases h;obtain⟨⟨rfl,G⟩,Y⟩:=h2;exact uS (zj (S.cm Y)) FH (S.glob G).1 (bh S Z2) Jj (R.E S e2) Z2 (S.glob G).2 (az hs _ _) rfl
def uF(_:Tb)(r:Tr)(s:Sc)(e:Expr):Option (Mi Rr):=ag (Jy e) λ(o,m,apos,a,cpos)=>cH (m==("index" : Str)&&apos.endLine==cpos.line) (cH (nE o) <| ag (r.E s o) λn=>ag (r.E s a) λq=>some (uz n q))
theorem sd(R:cw tb k r)(S:Sit tb k X E s)(h:uF tb r s e=some q):JE X E e q:=by obtain⟨⟨o,m,apos,a,cpos⟩,h1,g⟩:=aa h;clear h;obtain⟨rfl,hs⟩:=vP h1;obtain⟨h2,h⟩:=ah g;rw[QZ,ZA] at h2;obtain⟨d,F⟩:=ah h;clear h;obtain⟨n,e1,h⟩:=aa F;obtain⟨T,e2,h⟩:=aa h;cases h;obtain⟨rfl,hl⟩:=h2;exact DX (R.E S e1) (R.E S e2) (bM d _ _ _) (Nu hs _ _) hl (az hs _ _) rfl
def Py(s:Sc)(e:Expr):Option (List Sl->Option A):=ag (rS e) λ(x,_)=>ag (slot s x) λj=>some (Bt j)
theorem GH(S:Sit tb k X E s){g:List Sl->Option A}(h:Py s e=some g):IW X e g/\je e/\notStar e=true:=by obtain⟨⟨x,p⟩,h1,w⟩:=aa h;clear h;obtain rfl:=bT h1;obtain⟨j,e1,w⟩:=aa w;cases w;obtain⟨a1,f,q,b⟩:=S.slot e1;exact⟨wZ a1 f q b,λ_ _=>rfl,rfl⟩
def Dh(s:Sc)(e:Expr):Option (Nat×Str×Str×Pos×Pos):=match e with
 | .Attribute o f p=>ag (rS o) λ(x,px)=>cH (s.lv.contains ("*nob" : Str)&&s.lv.contains f) (ag (slot s x) λi=>some (i,x,f,px,p))
 |_=>none
theorem ka(S:Sit tb k X E s){x:Str}(h:Dh s e=some (i,x,f,px,p)):e=.Attribute (.Name x px) f p/\X.N[i]?=some x/\mL X.env.scope x/\eV x/\pE x:=by
 cases e with
 |Attribute o m H=>obtain⟨⟨Y,Z⟩,h1,w⟩:=aa h;clear h;obtain⟨_,G⟩:=ah w;obtain⟨B,e1,a⟩:=aa G;cases a;obtain rfl:=bT h1;obtain⟨a1,b,q,c⟩:=S.slot e1;exact⟨rfl,a1,b,q,c⟩
 |_=>exact cu h
noncomputable def nk(e:Expr):Option (Expr×Expr×Pos):=match e with
 | .Subscript a b p=>some (a,b,p)
 |_=>none
theorem eM{a b:Expr}(h:nk e=some (a,b,p)):e=.Subscript a b p:=by
 cases e with
 |Subscript=>cases h;rfl
 |_=>exact cu h
def EM(e:Expr):Option (Expr×Str×Pos×Expr×Pos):=match e with
 | .Call c as ks cpos=>match c with
  | .Attribute o m apos=>match as,ks with
   |[a],[]=>cH (apos.endLine==cpos.line) (some (o,m,apos,a,cpos))
   |_,_=>none
  |_=>none
 |_=>none
theorem sO{a:Expr}{m:Str}(h:EM e=some (o,m,apos,a,cpos)):e=.Call (.Attribute o m apos) [a] [] cpos/\(apos.endLine==cpos.line)=true:=by
 cases e with
 |Call c as x X=>
  cases c with
  |Attribute o' N p=>
   rcases as with _|⟨a',_|_⟩
   .cases h
   .cases x with
    |nil=>obtain⟨h0,h⟩:=ah h;cases h;exact⟨rfl,h0⟩
    |cons=>cases h
   .cases h
  |_=>exact cu h
 |_=>exact cu h
def vG(tb:Tb)(r:Tr)(s:Sc)(e:Expr):Option (Mi Rr):=p0 (ag (nk e) λ(a,b,_)=>ag (Dh s a) λ(i,_,f,_,_)=>ag (Py s b) λg=>some (oX (iG tb f) i f g))
 (ag (EM e) λ(o,m,_,a,_)=>ag (Dh s o) λ(i,_,f,_,_)=>cH (m==("append" : Str)&&notStar a) (ag (r.E s a) λq=>some (nX (iG tb f) i f q)))
theorem s9(R:cw tb k r)(S:Sit tb k X E s){m:Mi Rr}(h:vG tb r s e=some m):JE X E e m:=by
 rcases bu h with w|z
 .obtain⟨⟨a,b,p⟩,h1,J⟩:=aa w;clear w h;obtain rfl:=eM h1;obtain⟨⟨i,x,f,px,D⟩,h2,G⟩:=aa J;clear J;obtain⟨rfl,a1,Z,H,Y⟩:=ka S h2;obtain⟨g,h3,B⟩:=aa G;cases B;obtain⟨T,j,_⟩:=GH S h3;exact IU a1 Z H Y (λc C=>S.gd.fl _ c C) (bM rfl _ _ _) T j
 .clear h;obtain⟨⟨o,d,apos,a,cpos⟩,h1,J⟩:=aa z;clear z;obtain⟨rfl,hl⟩:=sO h1;obtain⟨⟨i,x,f,px,D⟩,h2,G⟩:=aa J;clear J;obtain⟨rfl,a1,Z,H,Y⟩:=ka S h2;obtain⟨h0,B⟩:=ah G;simp only[QZ] at h0;obtain⟨q,h3,v⟩:=aa B;cases v;obtain⟨U,h0⟩:=h0;obtain rfl:=eq_of_beq U;exact BZ a1 Z H Y (λc C=>S.gd.fl _ c C) (bM rfl _ _ _) (R.E S h3) (bM rfl _ _ _) (by rw[az h0 _ _];rfl) hl (az h0 _ _) rfl
def uh(_:Tb)(r:Tr)(s:Sc)(e:Expr):Option (Mi Rr):=ag (vK e) λ(f,_,a,_)=>cH (f==("list" : Str)&&mM s f&&!s.hd) (p0
 (ag (vK a) λ(g,_,b,_)=>cH (g==("range" : Str)&&mM s g) (ag (r.E s b) λn=>some (fh n)))
 (ag (Cr a) λ(g,_,b,c,_)=>cH (g==("range" : Str)&&mM s g) (ag (r.E s b) λn=>ag (r.E s c) λq=>some (lQ n q))))
theorem si(R:cw tb k r)(S:Sit tb k X E s)(h:uh tb r s e=some q):JE X E e q:=by
 obtain⟨⟨f,p,a,cpos⟩,h1,m⟩:=aa h;clear h;obtain⟨rfl,hs⟩:=il h1;obtain⟨h2,Z⟩:=ah m;clear m;simp only[QZ,ZA,Rz] at h2;obtain⟨⟨rfl,v⟩,Y⟩:=h2;rcases bu Z with w|w
 .clear Z;obtain⟨⟨F,j,b,x⟩,h3,J⟩:=aa w;clear w;obtain⟨rfl,g⟩:=il h3;obtain⟨h4,G⟩:=ah J;clear J;simp only[QZ,ZA] at h4;obtain⟨n,e2,B⟩:=aa G;cases B;obtain⟨rfl,C⟩:=h4;exact zo (S.cm Y) (S.glob v).1 (bh S Z2) kR (S.glob C).1 (bh S Z2) (R.E S e2) (az g _ _)
 .clear Z;obtain⟨⟨F,j,b,c,x⟩,h3,J⟩:=aa w;clear w;obtain⟨rfl,g,Q⟩:=oj h3;obtain⟨h4,G⟩:=ah J;clear J;simp only[QZ,ZA] at h4;obtain⟨n,e2,B⟩:=aa G;obtain⟨A,L,H⟩:=aa B;cases H;obtain⟨rfl,C⟩:=h4;exact Ba (S.cm Y) (S.glob v).1 (bh S Z2) kR (S.glob C).1 (bh S Z2) (R.E S e2) (R.E S L) (az g _ _) (az Q _ _) (cD (by rw[Rt,Q];rfl))
def JK(e:Expr):Option (Str×Pos×Expr×Expr×Expr×Pos):=match e with
 | .Call f args kw cpos=>match f with
  | .Name x p=>match args with
   |[a,b,d]=>cH (kw.isEmpty&&notStar a&&notStar b&&notStar d) (some (x,p,a,b,d,cpos))
   |_=>none
  |_=>none
 |_=>none
theorem vW{a b d:Expr}{x:Str}(h:JK e=some (x,p,a,b,d,cpos)):e=.Call (.Name x p) [a,b,d] [] cpos/\notStar a=true/\notStar b=true/\notStar d=true:=by
 unfold JK at h;split at h
 .rename_i f args N c;split at h
  .split at h
   .obtain⟨h0,h⟩:=ah h;rw[QZ,QZ,QZ,R6] at h0;cases h;obtain⟨⟨⟨rfl,h1⟩,h2⟩,h3⟩:=h0;exact⟨rfl,h1,h2,h3⟩
   .cases h
  .cases h
 .cases h
def vc(_:Tb)(r:Tr)(s:Sc)(_ e:Expr):Option (Mi (List A)):=ag (JK e) λ(f,_,a,b,d,_)=>cH (f==("range" : Str)&&mM s f) (ag (r.E s a) λm=>ag (r.E s b) λn=>ag (r.E s d) λo=>some (qv m n o))
theorem tQ(R:cw tb k r)(S:Sit tb k X E s){q:Mi (List A)}(h:vc tb r s tg e=some q):JI X E tg e q:=by obtain⟨⟨f,p,a,b,d,cpos⟩,h1,y⟩:=aa h;clear h;obtain⟨rfl,hs,g,Q⟩:=vW h1;obtain⟨h2,F⟩:=ah y;clear y;simp only[QZ,ZA] at h2;obtain⟨m,e1,N⟩:=aa F;obtain⟨n,e2,j⟩:=aa N;obtain⟨o,L,J⟩:=aa j;cases J;obtain⟨rfl,G⟩:=h2;exact CJ (S.glob G).1 (bh S Z2) (R.E S e1) (R.E S e2) (R.E S L) (az hs _ _) (az g _ _) (az Q _ _) (cD (by simp only[Rt,g,Rt,Q];rfl))
noncomputable def HJ:Expr->Bool
 | .List _ _=>true
 |_=>false
noncomputable def zH:Expr->Option (Expr×Expr×Pos)
 | .BinOp a .Mult b p=>some (a,b,p)
 |_=>none
theorem sM{a b:Expr}(h:zH e=some (a,b,p)):e=.BinOp a .Mult b p:=by
 unfold zH at h;split at h
 .cases h;rfl
 .cases h
def Ar(_:Tb)(r:Tr)(s:Sc)(e:Expr):Option (Mi Rr):=ag (zH e) λ(a,b,_)=>cH (HJ a) (ag (r.E s a) λm=>ag (r.E s b) λn=>some (aA cY m n))
theorem vT(R:cw tb k r)(S:Sit tb k X E s)(h:Ar tb r s e=some q):JE X E e q:=by obtain⟨⟨a,b,p⟩,h1,g⟩:=aa h;clear h;obtain rfl:=sM h1;obtain⟨_,F⟩:=ah g;obtain⟨m,e1,N⟩:=aa F;obtain⟨n,e2,j⟩:=aa N;cases j;exact HV (R.E S e1) (R.E S e2)
def xP(tb:Tb)(r:Tr)(s:Sc)(e:Expr):Option (Mi Rr):=p0 (nR tb r s e) (p0 (vG tb r s e) (p0 (Ar tb r s e) (none)))
theorem KU(R:cw tb k r)(S:Sit tb k X E s){m:Mi Rr}(h:xP tb r s e=some m):JE X E e m:=by
 rcases bu h with h|h
 .exact o6 R S h
 rcases bu h with h|h
 .exact s9 R S h
 rcases bu h with h|h
 .exact vT R S h
 cases h
def xE(tb:Tb)(r:Tr)(s:Sc)(e:Expr):Option (Mi Rr):=p0 (yO tb r s e) (p0 (uF tb r s e) (p0 (uh tb r s e) (none)))
theorem Nz(R:cw tb k r)(S:Sit tb k X E s){m:Mi Rr}(h:xE tb r s e=some m):JE X E e m:=by
 rcases bu h with h|h
 .exact wB R S h
 rcases bu h with h|h
 .exact sd R S h
 rcases bu h with h|h
 .exact si R S h
 cases h
def xI(tb:Tb)(r:Tr)(s:Sc)(tg e:Expr):Option (Mi (List A)):=p0 (vg tb r s tg e) (p0 (vc tb r s tg e) (none))
theorem KS(R:cw tb k r)(S:Sit tb k X E s){m:Mi (List A)}(h:xI tb r s tg e=some m):JI X E tg e m:=by
 rcases bu h with h|h
 .exact sR R S h
 rcases bu h with h|h
 .exact tQ R S h
 cases h
end
variable{mn:Str}
section
variable{tb:Tb}{k:Nat}{X:Cx}{E:XK}{s:Sc}
def Nl(r:Tr)(s:Sc)(o:Expr)(m:Str)(e:Expr):Option (Mi Rr):=
 if m==("append" : Str) then (match o with
  | .Name x _=>ag (slot s x) λi=>ag (r.E s e) λn=>some (tH i (iu i n))
  | _=>none)
 else none
noncomputable def LA:Expr->Bool
 | .Name x _=>x==("self" : Str)
 |_=>false
def yY(r:Tr)(s:Sc)(fi:FI)(o:Expr):Option (Mi Rr):=match LA o || fi.mu.headD true with
 |true=>r.E s o
 |false=>Ke r s o
def Io(s:Sc)(o:Expr):Option (Str×Pos×Nat):=match o with
 | .Name x p=>cH (s.lv.contains ("*nob" : Str)) (ag (slot s x) λi=>some (x,p,i))
 |_=>none
theorem oq{s:Sc}{x:Str}(h:Io s o=some (x,p,i)):o=.Name x p/\slot s x=some i:=by
 cases o<;>first|(exact cu h)|skip
 obtain⟨_,h⟩:=ah h;obtain⟨j,e,h⟩:=aa h;cases h;exact⟨rfl,e⟩
def tT(tb:Tb)(r:Tr)(s:Sc)(o:Expr)(m:Str)(args:List Expr)(c:Str)(fi:FI):Option (Mi Rr):=cH (!s.hd&&SE args.length 20) (ag (yY r s fi o) λmo=>ag (ye tb r s fi args) λma=>(match Io s o with
 |some (_,_,i)=>some (a9 (bj (dF (eR s 1 args (fi.mu.drop 1)) fi.m) (kH fi (args.length+1)) (cA (bD c m i) ma)) (a9 (bj (cS 0 (dF (eR s 1 args (fi.mu.drop 1)) fi.m)) (kH fi (args.length+1)) (cA (bD c m i) ma)) (bj (dF (eR s 1 args (fi.mu.drop 1)) fi.m) (kH fi (args.length+1)) (cA (bX c m mo) ma))))
 | none=>some (bj (dF (eR s 1 args (fi.mu.drop 1)) fi.m) (kH fi (args.length+1)) (cA (bX c m mo) ma))))
def zr(tb:Tb)(r:Tr)(s:Sc)(o:Expr)(m:Str)(args:List Expr):List (Str×FI)->Option (Mi Rr)
 |[]=>none
 |[p]=>tT tb r s o m args p.1 p.2
 |p::q::ps=>ag (tT tb r s o m args p.1 p.2) λa=>ag (zr tb r s o m args (q::ps)) λb=>some (a9 a b)
theorem pJ(h:args.all notStar=true)(hl:args.length<=20)(pos:Pos)(env:Env):Yv (args.length+([]:List Ym).length) (X4 pos (XU args env)) (Yl pos (Yb [] env))=true:=by
 have:∀{es:List Expr},es.all notStar=true->(X4 pos (XU es env)).all (λx=>!x.1)=true:=by
  intro es;induction es with
  |nil=>intro _;rfl
  |cons e es l=>intro h;simp only[Rt,QZ] at h;rw[az h.1];show (true&&(X4 pos (XU es env)).all (λx=>!x.1))=true;rw[l h.2];rfl
 unfold Yv;simp only[this h];show (true&&(true&&decide (args.length+0+0<30)))=true;rw[show decide (args.length+0+0<30)=true from Zy (by exact Qj)];rfl
theorem nN(R:cw tb k r)(S:Sit tb k X E s){m:Mi Rr}{c:Str}{fi:FI}(hl:(apos.endLine==cpos.line)=true)(d:nE o=true)(hc:(mn,c,fi)∈tb.mts)(h:tT tb r s o mn args c fi=some m):JE X E (.Call (.Attribute o mn apos) args [] cpos) m:=by
 obtain⟨h0,h⟩:=ah h;rw[QZ,Rz] at h0;obtain⟨mo,e1,h⟩:=aa h;obtain⟨ma,e2,h⟩:=aa h;obtain⟨h1,e2⟩:=ah e2;rw[ZA] at h1;obtain⟨y,Q,L⟩:=jx (λ_ _=>R.E S) (λ_ _=>lu R S) e2;obtain⟨C,e,fd,ps,F,hm,t,Y,K⟩:=S.gd.mt _ _ _ hc;obtain⟨ds,dvs,H,p,B⟩:=K.of (args.length+1);have ho:JE X E o mo:=by
  unfold yY at e1;split at e1
  .exact R.E S e1
  .exact lu R S e1
 have len:=R0 h0.2;have old:JE X E (.Call (.Attribute o mn apos) args [] cpos) (bj (dF (eR s 1 args (fi.mu.drop 1)) fi.m) (kH fi (args.length+1)) (cA (bX c mn mo) ma)):=by
  cases args with
  |nil=>cases e2;exact AU hm t Y F (S.rm h0.1) H p B (S.ps h0.1) ho (by simpa using h1) (bM d _ _ _) hl
  |cons a as=>have b:=L;rw[Rt,QZ] at b;exact BE hm t Y (F.imp λ_ _ _ _ q=>fY.dF q) (S.rm h0.1) H p B (S.ps h0.1) ho y (λZ rs O q=>by rw[Q Z rs O q];exact h1) (bM d _ _ _) (pJ L len _ _) hl (az b.1 _ _) (cD b.2)
 split at h
 .rename_i x px i en;cases h;obtain⟨rfl,sl⟩:=oq en;obtain⟨a1,f,z,v⟩:=S.slot sl;refine pS ?_ (pS ?_ old)
  .cases args with
   |nil=>cases e2;exact n9 hm t Y F (S.rm h0.1) H p B (S.ps h0.1) a1 f z v (by simpa using h1) (bM d _ _ _) hl
   |cons a as=>have b:=L;rw[Rt,QZ] at b;exact qE hm t Y (F.imp λ_ _ _ _ q=>fY.dF q) (S.rm h0.1) H p B (S.ps h0.1) a1 f z v y (λZ rs O q=>by rw[Q Z rs O q];exact h1) (bM d _ _ _) (pJ L len _ _) hl (az b.1 _ _) (cD b.2)
  .cases args with
   |nil=>cases e2;exact n9 hm t Y (F.imp λ_ _ _ _ q=>fY.A0 q) (S.rm h0.1) H p B (S.ps h0.1) a1 f z v (by simpa using h1) (bM d _ _ _) hl
   |cons a as=>have b:=L;rw[Rt,QZ] at b;exact qE hm t Y (F.imp λ_ _ _ _ q=>fY.dF (fY.A0 q)) (S.rm h0.1) H p B (S.ps h0.1) a1 f z v y (λZ rs O q=>by rw[Q Z rs O q];exact h1) (bM d _ _ _) (pJ L len _ _) hl (az b.1 _ _) (cD b.2)
 .cases h;exact old
theorem rh{r:Tr}(R:cw tb k r)(S:Sit tb k X E s){o:Expr}{mn:Str}{args:List Expr}{apos cpos:Pos}(hl:(apos.endLine==cpos.line)=true)(d:nE o=true):∀{cs:List (Str×FI)}{m:Mi Rr},(∀p∈cs,(mn,p.1,p.2)∈tb.mts)->zr tb r s o mn args cs=some m->JE X E (.Call (.Attribute o mn apos) args [] cpos) m
 |[],m,_,h=>by cases h
 |[p],m,hc,h=>nN R S hl d (hc p Rg) h
 |p::q::ps,m,hc,h=>by obtain⟨a,e1,h⟩:=aa h;obtain⟨b,e2,h⟩:=aa h;cases h;exact pS (nN R S hl d (hc p Rg) e1) (rh R S hl d (λx hx=>hc x (Q5 _ hx)) e2)
def zh(tb:Tb)(r:Tr)(s:Sc)(o:Expr)(m:Str)(apos:Pos)(args:List Expr)(cpos:Pos):Option (Mi Rr):=cH (apos.endLine==cpos.line&&nE o) (match EN tb m with
 |p::ps=>zr tb r s o m args (p::ps)
 |[]=>match args with
 |[e]=>cH (notStar e) (Nl r s o m e)
 | _=>none)
theorem wU(R:cw tb k r)(S:Sit tb k X E s){m:Mi Rr}(h:zh tb r s o mn apos args cpos=some m):JE X E (.Call (.Attribute o mn apos) args [] cpos) m:=by
 have h':=ah h;clear h;obtain⟨h0,h⟩:=h';simp only[QZ] at h0;split at h
 .rename_i p ps g;refine rh R S h0.1 h0.2 (λx hx=>?_) h;rw[<-g] at hx;unfold EN at hx;obtain⟨⟨a,b⟩,h1,h2⟩:=TZ.mp hx;simp only at h2;split at h2
  .rename_i z;cases h2;rw[ZA] at z;subst z;exact h1
  .cases h2
 split at h
 .have h':=ah h;clear h;obtain⟨hs,h⟩:=h';unfold Nl at h;split at h
  .rename_i z;rw[ZA] at z;split at h
   .obtain⟨i,e1,h⟩:=aa h;obtain⟨n,e2,h⟩:=aa h;obtain⟨a1,f,q,c⟩:=S.slot e1;cases h;subst z;exact wk a1 f q c (R.E S e2) rfl (Nu hs _ _) h0.1 (az hs _ _) rfl
   .cases h
  .cases h
 .cases h
def stK:Const->Option (Mi Rr)
 | .none=>some (mC .non)
 | .bool b=>some (mC (.bl b))
 | .int i=>some (mC (.int i))
 | .str x=>some (mC (.str x))
 |_=>none
def LI(m n:Mi Rr):Zp->Option (Mi Rr)
 | .Add=>some (aA aQ m n)
 | .Sub=>some (aA iR m n)
 | .Mult=>some (aA bG m n)
 | .FloorDiv=>some (aA kB m n)
 | .Mod=>some (aA mU m n)
 | .Pow=>some (aA mS m n)
 |_=>none
theorem CZ{a b:Expr}{m n:Mi Rr}{op:Zp}(h:LI m n op=some q)(ha:JE X E a m)(d:JE X E b n):JE X E (.BinOp a op b pos) q:=by
 cases op<;>first|(exact cu h)|skip
 .cases h;exact CC ha d
 .cases h;exact GI ha d
 .cases h;exact DC ha d
 .cases h;exact J2 ha d
 .cases h;exact FN ha d
 .cases h;exact Jr ha d
def uu(r:Tr)(s:Sc)(a:Expr)(ops:List YB)(bs:List Expr):Option (Mi Rr):=match ops,bs with
 |[op],[b]=>ag (r.E s a) λm=>ag (r.E s b) λn=>PL s op a b m n
 |_,_=>none
theorem qF(R:cw tb k r)(S:Sit tb k X E s){a:Expr}{ops:List YB}{bs:List Expr}{m:Mi Rr}(h:uu r s a ops bs=some m):JE X E (.Compare a ops bs pos) m/\JT X E (.Compare a ops bs pos) (aq m):=by
 unfold uu at h;split at h
 .obtain⟨I,e1,h⟩:=aa h;obtain⟨K,e2,h⟩:=aa h;exact FX S h (R.E S e1) (R.E S e2)
 .cases h
def FJ(tb:Tb)(r:Tr)(s:Sc)(f:Expr)(args:List Expr)(N:List Ym)(cpos:Pos):Option (Mi Rr):=match N with
 |[]=>match f with
  | .Name f _=>ym tb r s f args
  | .Attribute o m apos=>zh tb r s o m apos args cpos
  |_=>none
 |_::_=>none
theorem DY(R:cw tb k r)(S:Sit tb k X E s){f:Expr}{N:List Ym}{m:Mi Rr}(h:FJ tb r s f args N pos=some m):JE X E (.Call f args N pos) m:=by
 unfold FJ at h;split at h
 .split at h
  .exact wq R S h
  .exact wU R S h
  .cases h
 .cases h
def Pw(tb:Tb)(r:Tr)(s:Sc):Expr->Option (Mi Rr)
 | .Name x _=>match slot s x with
  |some i=>some (ae i)
  |none=>ag (tb.cst.lookup x) λa=>cH (mM s x) (some (mC a))
 | .Constant c _ _=>stK c
 | .BinOp a op b _=>ag (r.E s a) λm=>ag (r.E s b) λn=>LI m n op
 | .UnaryOp op a _=>match op with
  | .USub=>ag (r.E s a) λm=>some (aT bY m)
  | .Not=>ag (r.E s a) λm=>some (E5 m)
  |_=>none
 | .BoolOp op vs _=>Po op (r.E s) vs
 | .Compare a ops bs _=>uu r s a ops bs
 | .IfExp t a b _=>ag (r.T s t) λmt=>ag (r.E s a) λm=>ag (r.E s b) λn=>some (K7 mt m n)
 | .Tuple es _ _=>ag (wY (r.E s) es) λm=>some (cL m)
 | .List es _=>ag (wY (r.E s) es) λm=>some (aP m)
 | .Subscript a b _=>yU r s a b
 | .Call f args kw cpos=>FJ tb r s f args kw cpos
 | .Attribute o f _=>cH (nE o) (ag (r.E s o) λm=>match Io s o with
  |some (_,_,i)=>some (a9 (aW (iG tb f) i f) (aT (ay (iG tb f) f) m))
  | none=>some (aT (ay (iG tb f) f) m))
 | .ListComp elt gs sc _=>pF r s elt gs sc
 |_=>none
theorem JC(R:cw tb k r)(S:Sit tb k X E s){m:Mi Rr}(h:Pw tb r s e=some m):JE X E e m:=by
 cases e with
 |Name x _=>
  have h:(match slot s x with
   |some i=>some (ae i)
   | none=>ag (tb.cst.lookup x) λa=>cH (mM s x) (some (mC a)))=some m:=h
  split at h
  .rename_i e1;cases h;obtain⟨a1,Z,q,p⟩:=S.slot e1;exact IT a1 Z q p
  .obtain⟨a,e1,h⟩:=aa h;obtain⟨J,h⟩:=ah h;cases h;obtain⟨v,u,h1,h2,h3⟩:=S.gd.cs _ _ e1;exact Ee (S.glob J).1 h1 h2 h3 (S.glob J).2
 |Constant c _ _=>
  cases c<;>first|(exact cu h)|skip
  .cases h;exact Hb
  .cases h;exact Mz
  .cases h;exact HD
  .cases h;exact Ge
 |BinOp a op b _=>obtain⟨I,e1,h⟩:=aa h;obtain⟨K,e2,h⟩:=aa h;exact CZ h (R.E S e1) (R.E S e2)
 |UnaryOp op a _=>
  cases op<;>first|(exact cu h)|skip
  .obtain⟨I,e1,h⟩:=aa h;cases h;exact FU (R.E S e1)
  .obtain⟨I,e1,h⟩:=aa h;cases h;exact Ik (R.E S e1)
 |BoolOp op vs _=>exact yL (λ_ _=>R.E S) h
 |Compare a ops bs _=>exact(qF R S h).1
 |IfExp t a b _=>obtain⟨mt,e1,h⟩:=aa h;obtain⟨I,e2,h⟩:=aa h;obtain⟨K,L,h⟩:=aa h;cases h;exact Mx (R.T S e1) (R.E S e2) (R.E S L)
 |Tuple es _ _=>obtain⟨I,e1,h⟩:=aa h;cases h;exact Gb (jA (λ_ _=>R.E S) e1).1
 |List es _=>obtain⟨I,e1,h⟩:=aa h;cases h;exact HP (jA (λ_ _=>R.E S) e1).1
 |Dict O vs _=>cases h
 |Subscript a b _=>exact yd R S h
 |Call f args A cpos=>exact DY R S h
 |Attribute o f _=>
  obtain⟨d,h⟩:=ah h;obtain⟨I,e1,h⟩:=aa h;split at h
  .rename_i x px i en;cases h;obtain⟨rfl,sl⟩:=oq en;obtain⟨a1,Z,q,p⟩:=S.slot sl;exact pS (A5 a1 Z q p (λc C=>S.gd.fl _ c C) (bM d _ _ _)) (vd (λc C=>S.gd.fl _ c C) (R.E S e1) (bM d _ _ _))
  .cases h;exact vd (λc C=>S.gd.fl _ c C) (R.E S e1) (bM d _ _ _)
 |ListComp elt gs sc _=>obtain⟨Y,N,own,tg,iter,ifs,mi,G,mt,D,rfl,rfl,H,z,B,w,y,g⟩:=m9 R S h;exact Cc (S.cm Y) H rfl z B w y g
 |JoinedStr es _=>cases h
 |_=>exact cu h
def Lg(r:Tr)(s:Sc):Expr->Option (Mi Bool)
 | .Compare a ops bs _=>ag (uu r s a ops bs) λq=>some (aq q)
 | .UnaryOp .Not a _=>ag (r.T s a) λm=>some (mx m)
 | .BoolOp op vs _=>OX op (r.T s) vs
 |e=>cH (plainT e) (ag (r.E s e) λm=>some (aq m))
theorem zA(R:cw tb k r)(S:Sit tb k X E s){m:Mi Bool}(h:cH (plainT e) (ag (r.E s e) λm=>some (aq m))=some m):JT X E e m:=by obtain⟨h0,h⟩:=ah h;obtain⟨I,e1,h⟩:=aa h;cases h;exact FQ (R.E S e1) (rV h0 _)
theorem CD(R:cw tb k r)(S:Sit tb k X E s){m:Mi Bool}(h:Lg r s e=some m):JT X E e m:=by
 cases e with
 |Compare a ops bs _=>obtain⟨q,e1,h⟩:=aa h;cases h;exact(qF R S e1).2
 |UnaryOp op a _=>cases op with
  |Not=>obtain⟨I,e1,h⟩:=aa h;cases h;exact Jd (R.T S e1)
  |_=>exact zA R S h
 |BoolOp op vs _=>exact KY (yJ (λ_ _=>R.T S) h)
 |_=>exact zA R S h
def tr(tb:Tb):Nat->Tr
 |0=>⟨λ_ _=>none,λ_ _=>none,λ_ _ _=>none⟩
 |n+1=>⟨λs e=>p0 (xP tb (tr tb n) s e) (p0 (Pw tb (tr tb n) s e) (xE tb (tr tb n) s e)),λs e=>Lg (tr tb n) s e,xI tb (tr tb n)⟩
theorem kg:∀n,cw tb k (tr tb n)
 |0=>⟨λ_ h=>(by cases h),λ_ h=>(by cases h),λ_ h=>(by cases h)⟩
 | n+1=>⟨λS h=>by
   rcases bu h with h|h
   .exact KU (kg n) S h
   rcases bu h with h|h
   .exact JC (kg n) S h
   .exact Nz (kg n) S h,λS h=>CD (kg n) S h,λS h=>KS (kg n) S h⟩
end
structure fC(tb:Tb)(k:Nat)(X:Cx)(E:XK)(s:Sc):Prop extends Sit tb k X E s where
 xc:s.hd=false->Xc X E
 po:s.hd=false->YM (XZ X.prog X.w) X.A X.env X.xe
 st:s.hd=false->X.stack=X.env::X.outer/\X.env.frame=some X.env.locals/\X.ex=[]
 bk:X.env.blockKind=.function
noncomputable def NQ:Expr->Bool
 | .Starred ..=>true
 |_=>false
def Pf(x y:Str)(px h:Pos)(a b:Expr):Bool:=x != y&&px.line==h.line&&notStar a&&notStar b&&!([a,b].all (foldedForSure 8))&&!([a,b].all (constantsAlone 8))
variable{py:Pos}{kt:Nat}
theorem Lv{x y:Str}{pt X:Pos}{k2:Nat}{a b:Expr}(h:Pf x y px py a b=true)(hx:env.kindOf x=some .local)(hy:env.kindOf y=some .local)(d:env.blockKind=.function):
  Ys [.Tuple [.Name x px,.Name y py] kt pt] (.Tuple [a,b] k2 X) env=pure (some [x,y]):=by
 unfold Pf at h;simp only[QZ,bne_iff_ne,ne_eq,ZA,Rz] at h;obtain⟨⟨⟨⟨⟨h1,h2⟩,h3⟩,h4⟩,h5⟩,I⟩:=h;have s1:(([a,b]:List Expr).any fun | .Starred ..=>true|_=>false)=false:=by
  rw[T5];intro e he;have hn:notStar e=true:=by
   rcases Rc.mp he with z|z
   .rw[z];exact h3
   .rw[RC.mp z];exact h4
  cases e<;>first|(exact yW hn)|exact RZ
 have c:(y==x)=false:=beq_eq_false_iff_ne.mpr λz=>h1 z.symm;have m:(x==y)=false:=beq_eq_false_iff_ne.mpr h1;unfold Ys;have pn:∀(n:Str)(p:Pos),(Expr.Name n p).pos=p:=λ_ _=>rfl;simp[d,s1,hx,hy,pn,<-h2,h5,I,List.eraseDups_cons,c,m];intro z;exfalso;rcases z with z|z
 .cases a<;>first|(cases h3;done)|cases z
 .cases b<;>first|(cases h4;done)|cases z
noncomputable def uT:Expr->Bool
 | .Tuple _ _ _=>false
 |_=>true
theorem lP(h:uT e=true):Ys [tg] e env=pure none:=by cases tg<;>first|rfl|(cases e<;>first|rfl|cases h)
theorem fD{i:Expr}:Ys [.Subscript o i p] e env=pure none:=by cases e<;>rfl
theorem wc{i:Expr}{l:Nat}:Yc e (some (.Subscript o i p)) l env=pure false:=by cases e<;>rfl
theorem tV{sc:Scope}{x:Str}{l:Nat}(h:env.kindOf x=some .cell):Yc (.ListComp elt gs sc pos) (some (.Name x px)) l env=pure false:=by unfold Yc;show (pure (env.blockKind==.function&&env.kindOf x==some .local&&px.line==pos.line&&!(sc.names.any λp=>p.1==x&&(p.2==.local || p.2==.cell))):Sem Bool)=pure false;simp only[h,show (some (Vd)==some (NameKind.local))=false from rfl,Ux,Vl,Vl]
theorem qh{t:Expr}(h:jH e=true)(l:Nat)(env:Env):Yy [t] e l env=pure false:=gW h (some t) l env
theorem jw{i:Expr}{l:Nat}:Yy [.Subscript o i p] e l env=pure false:=wc (e:=e) (o:=o) (i:=i) (p:=p) (l:=l) (env:=env)
theorem kI{i:Expr}(h:jr i=true)(v:Value):assign (.Subscript o i p) env v=(do
   let ov <- holding [v] (eval o env)
   let iv <- holding [v,ov] (eval i env)
   YE p
   holding [v,ov,iv] (setItem ov iv v)
   release [v,ov,iv] []):=by cases i<;>first|rfl|cases h
variable{ts:List Expr}
section
variable{tb:Tb}{k:Nat}{X:Cx}{E:XK}{s:Sc}
def AF(r:Tr)(s:Sc)(x:Str)(px:Pos)(e:Expr):Option Ms:=ag (fR s x) λi=>match e with
 | .ListComp elt gs sc pos=>match m5 s x .local with
  |true=>cH (px.line==pos.line&&!(sc.names.any λp=>p.1==x&&(p.2==.local || p.2==.cell))) (ag (pF r s elt gs sc) λm=>some (aM i m))
  |false=>ag (r.E s e) λm=>some (aM i m)
 |e=>cH (jH e) (ag (r.E s e) λm=>some (aM i m))
theorem v5(R:cw tb k r)(S:fC tb k X E s){x:Str}{m:Ms}(h:AF r s x px e=some m):JS X E (.Assign [.Name x px] e pos) m:=by
 obtain⟨i,e1,h⟩:=aa h;obtain⟨a1,f,q,p⟩:=S.fR e1;have hN:X.N.Nodup:=by rw[S.n];exact S.nd
 split at h
 .split at h
  .rename_i z;obtain⟨h0,h⟩:=ah h;simp only[QZ,Rz] at h0;obtain⟨I,e2,h⟩:=aa h;have hl:X.env.scope.names.lookup x=some .local:=S.lc x (by unfold m5 at z;simpa using z);obtain⟨Y,N,own,tg,iter,ifs,mi,G,mt,D,rfl,rfl,H,a,B,w,b,c⟩:=m9 R S.toSit e2;cases h;exact D9 (S.cm Y) H rfl hN a1 hl (tm S.bk hl h0.1 h0.2) a B w b c
  .rename_i z;obtain⟨I,e2,h⟩:=aa h;cases h;refine xr hN a1 f (R.E S.toSit e2) (tV ?_) p;obtain⟨g,_⟩:=ah e1;simp only[QZ,tf,SH] at g;rcases g.1 with y|y
   .rw[y] at z;cases z
   .exact(S.ce x).1 (by unfold m5 at y;simpa using y)
 .obtain⟨h0,h⟩:=ah h;obtain⟨I,e2,h⟩:=aa h;cases h;exact xr hN a1 f (R.E S.toSit e2) (gW h0 _ _ _) p
noncomputable def HE(e:Expr):Option (Expr×Expr):=match e with
 | .Tuple es _ _=>match es with
  |[a,b]=>some (a,b)
  |_=>none
 |_=>none
theorem wy{a b:Expr}(h:HE e=some (a,b)):∃c p,e=.Tuple [a,b] c p:=by
 cases e with
 |Tuple es c p=>match es,h with
  |[a,b],h=>cases h;exact⟨c,p,rfl⟩
 |_=>exact cu h
def JZ(ts:List Expr):Option ((Str×Pos)×Str×Pos):=match ts with
 |[a,b]=>ag (rS a) λp=>ag (rS b) λq=>some (p,q)
 |_=>none
theorem vO{x y:Str}(h:JZ ts=some ((x,px),y,py)):ts=[.Name x px,.Name y py]:=by
 match ts,h with
 |[a,b],h=>obtain⟨p,h1,h⟩:=aa h;obtain⟨q,h2,h⟩:=aa h;cases h;rw[bT h1,bT h2]
def sY(r:Tr)(s:Sc)(ts:List Expr)(e:Expr):Option Ms:=cH (uT e&&jH e) (ag (r.E s e) λm=>ag (Cj s 0 9 (.Tuple ts 0 default)) λg=>some (Md m g))
def AN(r:Tr)(s:Sc)(ts:List Expr)(e:Expr):Option Ms:=match JZ ts with
 | some ((x,px),y,py)=>(match HE e with
  |some (a,b)=>cH (!s.hd&&m5 s x .local&&m5 s y .local&&okN x&&okN y&&Pf x y px py a b) (ag (fR s x) λi=>ag (fR s y) λj=>cH (i != j) (ag (wY (r.E s) [a,b]) λm=>some (Nj i j m)))
  | none=>sY r s ts e)
 |none=>sY r s ts e
theorem HS{lo d:Nat}{n Q:Nat}{S:Pos}{g:Mg}(h:Cj s lo d (.Tuple ts n p)=some g):Cj s lo d (.Tuple ts Q S)=some g:=by
 cases d with
 |zero=>cases h
 |succ d=>exact h
theorem nW(R:cw tb k r)(S:fC tb k X E s){pt:Pos}{m:Ms}(h:sY r s ts e=some m):JS X E (.Assign [.Tuple ts kt pt] e pos) m:=by obtain⟨h0,h⟩:=ah h;simp only[QZ] at h0;obtain⟨I,e1,h⟩:=aa h;obtain⟨g,e2,h⟩:=aa h;cases h;exact HK (R.E S.toSit e1) (pV S.toSit (HS e2)) (qh h0.2 _ _) (lP h0.1) (hp:=λx y=>lg x y (qh h0.2 _ _) (lP h0.1))
theorem yi(R:cw tb k r)(S:fC tb k X E s){pt:Pos}{m:Ms}(h:AN r s ts e=some m):JS X E (.Assign [.Tuple ts kt pt] e pos) m:=by
 unfold AN at h;cases T:JZ ts with
 |none=>rw[T] at h;exact nW R S h
 |some p=>
  obtain⟨⟨x,px⟩,y,py⟩:=p;rw[T] at h;dsimp only at h;cases J:HE e with
  |none=>rw[J] at h;exact nW R S h
  |some p=>
   obtain⟨a,b⟩:=p;simp only[J] at h;obtain⟨h0,h⟩:=ah h;simp only[QZ,Rz] at h0;obtain⟨⟨⟨⟨⟨h1,h2⟩,h3⟩,_⟩,_⟩,h4⟩:=h0;obtain⟨i,e1,h⟩:=aa h;obtain⟨j,e2,h⟩:=aa h;obtain⟨t,h⟩:=ah h;obtain⟨ma,L,h⟩:=aa h;cases h;obtain rfl:=vO T;obtain⟨c,p,rfl⟩:=wy J;have hN:X.N.Nodup:=by rw[S.n];exact S.nd
   have Z:=S.lc x (show s.nm.lookup _=_ by unfold m5 at h2;simpa using h2);have g:=S.lc y (show s.nm.lookup _=_ by unfold m5 at h3;simpa using h3);have o:i≠j:=by simpa using t
   exact FP (jA (λ_ _=>R.E S.toSit) L).1 o (λy=>Hv (S.cm h1) hN (S.fR e1).1 (S.fR e2).1 o Z g y (Lv h4 Z g S.bk))
def Ku(r:Tr)(s:Sc)(x:Str)(G e:Expr):Option Ms:=ag (slot s x) λi=>ag (r.E s G) λmk=>ag (r.E s e) λm=>cH (!s.hd&&jr G) (some (fI i mk m))
theorem Dy(R:cw tb k r)(S:fC tb k X E s){x:Str}{f:Pos}{G:Expr}{m:Ms}(h:Ku r s x G e=some m):JS X E (.Assign [.Subscript (.Name x px) G f] e pos) m:=by obtain⟨i,e1,h⟩:=aa h;obtain⟨mk,e2,h⟩:=aa h;obtain⟨I,L,h⟩:=aa h;obtain⟨Y,h⟩:=ah h;simp only[QZ,Rz] at Y;obtain⟨a1,Z,q,p⟩:=S.slot e1;cases h;exact yu a1 Z q p (R.E S.toSit e2) (R.E S.toSit L) (λx y z=>lg z (pB x y set_list (kI Y.2)) jw fD)
theorem nM{l:Nat}:Yc e (some (.Attribute o f p)) l env=pure false:=by cases e<;>rfl
def Fn(tb:Tb)(r:Tr)(s:Sc)(t e:Expr):Option Ms:=match t with
 | .Name x px=>AF r s x px e
 | .Tuple ts _ _=>AN r s ts e
 | .Subscript (.Name x _) ek _=>Ku r s x ek e
 |_=>none
theorem yn(R:cw tb k r)(S:fC tb k X E s){t:Expr}{m:Ms}(h:Fn tb r s t e=some m):JS X E (.Assign [t] e pos) m:=by
 cases t with
 |Name x px=>exact v5 R S h
 |Tuple ts _ _=>exact yi R S h
 |Subscript b G _=>cases b with
  |Name x _=>exact Dy R S h
  |_=>exact cu h
 |_=>exact cu h
end
section
variable{tb:Tb}{k:Nat}{X:Cx}{E:XK}{s:Sc}
def qi(F:Stmt->Option Ms):List Stmt->Option Ms
 |[]=>some bJ
 |[a]=>F a
 |a::b::r=>ag (F a) λm=>ag (qi F (b::r)) λn=>some (aC m n)
theorem fQ{F:Stmt->Option Ms}(h:∀a m,F a=some m->JS X E a m):∀{l:List Stmt}{m:Ms},qi F l=some m->pY X E l m
 |[],m,e=>by cases e;exact vI
 |[a],m,e=>vH (h _ _ e)
 |a::b::r,m,e=>by obtain⟨I,e1,e⟩:=aa e;obtain⟨K,e2,e⟩:=aa e;cases e;exact q9 (h _ _ e1) (fQ h e2)
noncomputable def uM(st:Stmt):Option (Expr×Expr×Pos):=match st with
 | .Assign ts e pos=>match ts with
  |[t]=>some (t,e,pos)
  |_=>none
 |_=>none
theorem iX{st:Stmt}{t:Expr}(h:uM st=some (t,e,pos)):st=.Assign [t] e pos:=by
 cases st with
 |Assign ts k p=>
  rcases ts with _|⟨t',_|_⟩
  .cases h
  .cases h;rfl
  .cases h
 |_=>exact cu h
noncomputable def xu(e:Expr):Option (Expr×Str×Pos):=match e with
 | .Attribute o f p=>some (o,f,p)
 |_=>none
theorem mG(h:xu e=some (o,f,p)):e=.Attribute o f p:=by
 cases e with
 |Attribute=>cases h;rfl
 |_=>exact cu h
def vf(tb:Tb)(r:Tr)(s:Sc)(_:Sc->Stmt->Option Ms)(st:Stmt):Option Ms:=ag (uM st) λ(t,e,_)=>p0
 (ag (xu t) λ(o,f,_)=>ag (rS o) λ(x,_)=>cH (s.lv.contains ("*nob" : Str)) (ag (slot s x) λi=>ag (r.E s e) λm=>match s.lv.contains f with
  |true=>some (kb (iG tb f) i f m)
  | false=>some (dS (iG tb f) i f m)))
 (ag (nk t) λ(a,b,_)=>ag (Dh s a) λ(i,_,f,_,_)=>ag (rS b) λ(y,_)=>ag (slot s y) λj=>ag (r.E s e) λm=>some (eY (iG tb f) i f j m))
theorem sy{F:Sc->Stmt->Option Ms}(R:cw tb k r)(S:fC tb k X E s)(g:∀n,Passes (oT X.prog X.w) X n->Xc X n->∀a m,F (Pq s) a=some m->JS X n a m){st:Stmt}{m:Ms}(h:vf tb r s F st=some m):JS X E st m:=by
 obtain⟨⟨t,e,pos⟩,h1,w⟩:=aa h;clear h;obtain rfl:=iX h1;rcases bu w with z|z
 .clear w;obtain⟨⟨o,f,p⟩,h2,G⟩:=aa z;clear z;obtain rfl:=mG h2;obtain⟨⟨x,px⟩,h3,B⟩:=aa G;clear G;obtain rfl:=bT h3;obtain⟨_,H⟩:=ah B;clear B;obtain⟨i,e1,Z⟩:=aa H;clear H;obtain⟨q,e2,l⟩:=aa Z;clear Z;obtain⟨a1,v,Y,O⟩:=S.slot e1;cases U:s.lv.contains f with
  |true=>rw[U] at l;cases l;exact BX a1 v Y O (λc C=>S.gd.fl _ c C) (R.E S.toSit e2) nM
  |false=>rw[U] at l;cases l;exact BG a1 v Y O (λc C=>S.gd.fl _ c C) (R.E S.toSit e2) nM
 .clear w;obtain⟨⟨a,b,D⟩,h2,G⟩:=aa z;clear z;obtain rfl:=eM h2;obtain⟨⟨i,x,f,px,Q⟩,h3,B⟩:=aa G;clear G;obtain⟨rfl,a1,v,Y,O⟩:=ka S.toSit h3;obtain⟨⟨y,py⟩,h4,H⟩:=aa B;clear B;obtain rfl:=bT h4;obtain⟨j,e1,Z⟩:=aa H;clear H;obtain⟨q,e2,l⟩:=aa Z;cases l;obtain⟨K,N,I,u⟩:=S.slot e1;exact wz a1 v Y O K N I u (λc C=>S.gd.fl _ c C) (bM rfl _ _ _) (R.E S.toSit e2) (λx y z=>lg z (pB x y set_list (kI rfl)) jw fD)
def xS(tb:Tb)(r:Tr)(s:Sc)(F:Sc->Stmt->Option Ms)(st:Stmt):Option Ms:=p0 (vf tb r s F st) (none)
theorem Lw{F:Sc->Stmt->Option Ms}(R:cw tb k r)(S:fC tb k X E s)(g:∀v,Passes (oT X.prog X.w) X v->Xc X v->∀a m,F (Pq s) a=some m->JS X v a m){st:Stmt}{m:Ms}(h:xS tb r s F st=some m):JS X E st m:=by
 rcases bu h with h|h
 .exact sy R S g h
 cases h
end
variable{base:Heap}{dV:Value}
section
variable{tb:Tb}{k:Nat}{X:Cx}{E:XK}{s:Sc}
noncomputable def P8(s:Sc)(n:Str):Sc:={ s with ca:=[n],hd:=true,tp:=false }
theorem Sit.Bz(S:Sit tb k X E s):Sit tb k X.Bz lK s:=⟨S.n,S.nd,S.gl,S.vs,S.lo,S.lc,S.ce,S.fx,S.cm,S.rm,λ_=>Ak,S.gd⟩
theorem Sit.mark(S:fC tb k X E s)(a:Addr)(n:Str):fC tb k (X.marked a) lK (P8 s n) where
 n:=S.n
 nd:=S.nd
 gl:=S.gl
 vs:=S.vs
 lo:=S.lo
 lc:=S.lc
 ce:=S.ce
 fx:=S.fx
 cm:=λh=>by cases h
 rm:=λh=>by cases h
 ps:=λh=>by cases h
 gd:=S.gd
 xc:=λh=>by cases h
 po:=λh=>by cases h
 st:=λh=>by cases h
 bk:=S.bk
def HC(tb:Tb)(r:Tr)(s:Sc)(fi:FI)(args:List Expr):Option (Mi (List Rr)):=cH (args.length==fi.n) (AX (r.E s) (Ke r s) args fi.mu)
def tZ(e:Expr):Option (Str×Pos×Expr×List Expr×Pos):=match e with
 | .Call f args kw cpos=>ag (rS f) λ(x,p)=>match args with
  |a::as=>cH kw.isEmpty (some (x,p,a,as,cpos))
  |[]=>none
 |_=>none
theorem qU{a:Expr}{as:List Expr}{x:Str}(h:tZ e=some (x,p,a,as,cpos)):e=.Call (.Name x p) (a::as) [] cpos:=by
 unfold tZ at h;split at h
 .obtain⟨⟨y,py⟩,h1,g⟩:=aa h;clear h;obtain rfl:=bT h1;simp only at g;split at g
  .obtain⟨h0,g⟩:=ah g;rw[R6] at h0;cases g;rw[h0]
  .cases g
 .cases h
noncomputable def og{α:Type}(l:List α):Option α:=match l with
 |[a]=>some a
 |_=>none
theorem fE{l:List α}{a:α}(h:og l=some a):l=[a]:=by
 unfold og at h;split at h
 .cases h;rfl
 .cases h
def xn(tb:Tb)(r:Tr)(s:Sc):Nat->Stmt->Option Ms
 |0,_=>none
 |d+1,st=>match st with
  | .Expr e _=>ag (tZ e) λ(f,_,a,as,_)=>cH (mM s f) (ag (tb.fns.lookup f) λfi=>ag (HC tb r s fi (a::as)) λm=>some (dU (bj (dF (eR s 0 (a::as) fi.mu) fi.m) [] (gG m))))
  | .If t a b _=>ag (r.T s t) λmt=>ag (og a) λa0=>ag (xn tb r s d a0) λma=>ag (og b) λw=>ag (xn tb r s d w) λmb=>some (iq (gG mt) ma mb)
  |_=>none
theorem tN{r:Tr}(R:cw tb k r)(S:fC tb k X E s)(Y:s.hd=false):∀{d:Nat}{st:Stmt}{m:Ms},xn tb r s d st=some m->JX X st m
 |0,st,m,h=>by cases h
 |d+1,st,m,h=>by
  have hN:X.N.Nodup:=by rw[S.n];exact S.nd
  unfold xn at h;split at h
  .obtain⟨⟨f,p,a,as,cpos⟩,h1,g⟩:=aa h;clear h;obtain rfl:=qU h1;obtain⟨G,h⟩:=ah g;obtain⟨fi,Q,h⟩:=aa h;obtain⟨ma,e1,h⟩:=aa h;cases h;obtain⟨h1,e1⟩:=ah e1;obtain⟨b,o,Z⟩:=jx (X:=X.Bz) (E:=lK) (λ_ _=>R.E S.toSit.Bz) (λ_ _=>lu R S.toSit.Bz) e1;obtain⟨e,fd,ps,F,hm,hk,D⟩:=S.gd.fn _ fi Q;have x:=Z;simp only[Rt,QZ] at x;exact BK (F.imp λ_ _ _ _ q=>fY.dF q) (S.rm Y) (S.glob G).1 hm hk D.all b (sN (d:=0) o (by rw[ZA] at h1;exact h1)) (S.glob G).2 (gW rfl _ _ _) (az x.1 _ _) (cD x.2)
  .obtain⟨mt,e1,h⟩:=aa h;obtain⟨a0,e2,h⟩:=aa h;obtain⟨ma,L,h⟩:=aa h;obtain⟨w,A,h⟩:=aa h;obtain⟨mb,i,h⟩:=aa h;cases h;obtain rfl:=fE e2;obtain rfl:=fE A;exact LM (R.T S.toSit.Bz e1) (uE (tN R S Y L)) (uE (tN R S Y i))
  .cases h
def E7(b:List Stmt)(hs:List ExceptHandler)(X fin:List Stmt):Option (Stmt×Str×Pos×Str×Stmt×List Stmt×Pos):=ag (og b) λw=>ag (og hs) λh=>cH (X.isEmpty&&fin.isEmpty) (match h with
 | .ExceptHandler t n su hp=>ag t λe=>ag (rS e) λ(x,np)=>ag n λn=>match su with
  |s0::suite=>some (w,x,np,n,s0,suite,hp)
  | []=>none)
theorem tX{b:List Stmt}{hs:List ExceptHandler}{X fin:List Stmt}{w Z:Stmt}{x n:Str}{np hp:Pos}{a:List Stmt}(h:E7 b hs X fin=some (w,x,np,n,Z,a,hp)):
  b=[w]/\hs=[.ExceptHandler (some (.Name x np)) (some n) (Z::a) hp]/\X=[]/\fin=[]:=by
 obtain⟨K,e1,h⟩:=aa h;obtain⟨h1,e2,h⟩:=aa h;obtain⟨h0,h⟩:=ah h;rw[QZ,R6,R6] at h0;obtain⟨t,Q,su,L⟩:=h1;obtain⟨e,T,h⟩:=aa h;obtain⟨⟨Y,c⟩,A,h⟩:=aa h;obtain⟨m,i,h⟩:=aa h;cases su with
 |nil=>cases h
 |cons s1 su=>cases h;rw[fE e1,fE e2,T,i,bT A];exact⟨rfl,rfl,h0.1,h0.2⟩
def Fe(r:Tr)(s:Sc)(tg it:Expr)(b:Ms):Option Ms:=cH (jT it) (ag (OJ r s tg it) λm=>ag (Cj s 0 9 tg) λG=>some (iA m G b))
theorem Bp(R:cw tb k r)(S:fC tb k X E s)(Y:s.hd=false){it:Expr}{body:List Stmt}{b m:Ms}(d:pY X E body b)(h:Fe r s tg it b=some m):JS X E (.For tg it body [] pos) m:=by obtain⟨h0,h⟩:=ah h;obtain⟨I,e1,h⟩:=aa h;obtain⟨G,e2,h⟩:=aa h;cases h;exact HU (S.po Y) (S.cm Y) (ze R S.toSit e1) (pV S.toSit e2) d (lC h0 _)
def Br(tb:Tb)(r:Tr)(s:Sc)(ts:List Expr)(e:Expr):Option Ms:=match ts with
 |[t]=>Fn tb r s t e
 |_=>none
def IM(tb:Tb)(r:Tr)(s:Sc)(ex ca:Option Expr):Option Ms:=match ca with
 |some _=>none
 |none=>match ex with
  |some (.Call f (a::as) [] _)=>match f with
   | .Name c _=>cH (!s.hd&&mM s c&&tb.exs.contains c) (ag (wY (r.E s) (a::as)) λm=>some (jR c m))
   |_=>none
  |_=>none
theorem Cw(R:cw tb k r)(S:fC tb k X E s){ex ca:Option Expr}{m:Ms}(h:IM tb r s ex ca=some m):JS X E (.Raise ex ca pos) m:=by
 unfold IM at h;split at h
 .cases h
 .split at h
  .split at h
   .obtain⟨h0,h⟩:=ah h;simp only[QZ,Rz] at h0;obtain⟨⟨Y,G⟩,hc⟩:=h0;obtain⟨I,e1,h⟩:=aa h;cases h;obtain⟨C,U,D⟩:=S.gd.ex _ (Si.mp hc);obtain⟨b,Q,Z⟩:=jA (λ_ _=>R.E S.toSit) e1;simp only[Rt,QZ] at Z;exact xN (S.xc Y) (S.cm Y) (S.glob G).1 U D b (S.glob G).2 (az Z.1 _ _) (cD Z.2)
   .cases h
  .cases h
def QI(tb:Tb)(r:Tr)(s:Sc)(F:Sc->Stmt->Option Ms):Stmt->Option Ms
 | .Assign ts e _=>Br tb r s ts e
 | .Return none _=>some EY
 | .Return (some e) _=>ag (r.E s e) λm=>some (bV m)
 | .If t a b _=>ag (r.T s t) λmt=>ag (qi (F s) a) λm=>ag (qi (F s) b) λn=>some (iq mt m n)
 | .While t b els _=>cH (!s.hd&&els.isEmpty) (ag (r.T s t) λmt=>ag (qi (F s) b) λm=>some (mj GD mt m))
 | .For tg it b els _=>cH (!s.hd&&els.isEmpty) (ag (qi (F s) b) λm=>Fe r s tg it m)
 | .Try b hs els fin _=>ag (E7 b hs els fin) λ(w,x,_,n,Z,h,_)=>cH (!s.hd&&mM s x&&m5 s n .local) (ag (tb.exm.lookup x) λl=>ag (fR s n) λi=>ag (xn tb r s 9 w) λmb=>ag (qi (F (P8 s n)) (Z::h)) λms=>some (wX i (HY l) mb ms))
 | .Raise ex ca _=>IM tb r s ex ca
 | .Expr e _=>cH (jH e) (ag (r.E s e) λm=>some (dU m))
 |_=>none
def GZ(tb:Tb)(r:Tr):Nat->Sc->Stmt->Option Ms
 |0,_,_=>none
 |d+1,s,st=>p0 (xS tb r s (GZ tb r d) st) (QI tb r s (GZ tb r d) st)
theorem fC.KZ{q:XK}(S:fC tb k X E s)(h1:Passes (oT X.prog X.w) X q)(h2:Xc X q):fC tb k X q (Pq s):=⟨⟨S.n,S.nd,S.gl,S.vs,S.lo,S.lc,S.ce,S.fx,S.cm,S.rm,λ_=>h1,S.gd⟩,λ_=>h2,S.po,S.st,S.bk⟩
theorem mr{r:Tr}(R:cw tb k r):∀{d:Nat}{X:Cx}{E:XK}{s:Sc}{st:Stmt}{m:Ms},fC tb k X E s->GZ tb r d s st=some m->JS X E st m
 |0,X,E,s,st,m,S,h=>by cases h
 |d+1,X,E,s,st,m,S,h=>by
  have u:∀a m,GZ tb r d s a=some m->JS X E a m:=λa m e=>mr R S e;unfold GZ at h;have h':=bu h;clear h;rcases h' with h|h
  .exact Lw R S (λq h1 h2 a m e=>mr R (S.KZ h1 h2) e) h
  cases st with
  |Assign ts e _=>
   have h:Br tb r s ts e=some m:=h;unfold Br at h;split at h
   .exact yn R S h
   .cases h
  |Return v _=>cases v with
   |none=>cases h;exact Dd
   |some e=>obtain⟨I,e1,h⟩:=aa h;cases h;exact HH (R.E S.toSit e1)
  |If t a b _=>obtain⟨mt,e1,h⟩:=aa h;obtain⟨I,e2,h⟩:=aa h;obtain⟨K,L,h⟩:=aa h;cases h;exact M6 (R.T S.toSit e1) (fQ u e2) (fQ u L)
  |While t b p _=>have h':=ah h;clear h;obtain⟨h0,h⟩:=h';simp only[QZ,Rz,R6] at h0;obtain⟨Y,rfl⟩:=h0;obtain⟨mt,e1,h⟩:=aa h;obtain⟨I,e2,h⟩:=aa h;cases h;exact z9 (S.po Y) (R.T S.toSit e1) (fQ u e2)
  |For tg it b p _=>have h':=ah h;clear h;obtain⟨h0,h⟩:=h';simp only[QZ,Rz,R6] at h0;obtain⟨Y,rfl⟩:=h0;obtain⟨I,e2,h⟩:=aa h;exact Bp R S Y (fQ u e2) h
  |Try b hs p fin _=>obtain⟨⟨w,x,np,n,Z,o,hp⟩,h1,g⟩:=aa h;clear h;obtain⟨rfl,rfl,rfl,rfl⟩:=tX h1;obtain⟨h0,h⟩:=ah g;simp only[QZ,Rz] at h0;obtain⟨⟨Y,G⟩,hn⟩:=h0;obtain⟨l,e1,h⟩:=aa h;obtain⟨i,e2,h⟩:=aa h;obtain⟨mb,L,h⟩:=aa h;obtain⟨ms,A,h⟩:=aa h;cases h;obtain⟨a1,f,H,O⟩:=S.fR e2;obtain⟨T,P,U⟩:=S.gd.em _ _ e1;obtain⟨N,j,z⟩:=S.st Y;exact GY N j z (by rw[S.n];exact S.nd) a1 (S.lc _ (by unfold m5 at hn;simpa using hn)) (S.glob G).1 P (λc C hc hm=>U c C hc hm) (tN R S Y L) (λa=>fQ (λb m e=>mr R (Sit.mark S a _) e) A) (S.glob G).2 O
  |Raise ex ca _=>exact Cw R S h
  |Expr e _=>obtain⟨h0,h⟩:=ah h;obtain⟨I,e1,h⟩:=aa h;cases h;exact CB (R.E S.toSit e1) (gW h0 _ _ _)
  |Pass _=>cases h
  |Break _=>cases h
  |Continue _=>cases h
  |_=>exact cu h
structure DI where
 cl:Option Str
 name:Str
 st:Stmt
 N:List Str
 n:Nat
 di:List Str
 mu:List Bool
 df:List A
 lv:List Str
 m:Ms
 ce:List Str:=[]
 tp:Bool:=false
 sp:Bool:=false
 bo:Option (Nat×Nat×Nat×List Nat):=none
def DI.sc(d:DI):Sc:={ N:=d.N,nm:=(aX d.st).names,di:=d.di,ca:=[],hd:=false,lv:=d.lv }
def gp(d:DI):Bool:=(aX d.st).kind==.function&&!(aX d.st).isCoroutine&&!(aX d.st).isGenerator&&decide d.N.Nodup&&SE d.n d.N.length&&(d.N.take d.n).all (λx=>(aX d.st).names.lookup x==some .local || (aX d.st).names.lookup x==some .cell)&&(aX d.st).names.all (λy=>y.2 != .free)
variable{d:DI}
theorem hZ(h:gp d=true):jB d.N (d.N.take d.n) (aX d.st)/\(d.N.take d.n).length=d.n:=by
 unfold gp at h;simp only[QZ,ZA,Rz,decide_eq_true_eq,R8,SH,bne_iff_ne,ne_eq] at h;obtain⟨⟨⟨⟨⟨⟨h1,h2⟩,h3⟩,h4⟩,h5⟩,I⟩,m⟩:=h;have hl:(d.N.take d.n).length=d.n:=by rw[So];have:=R0 h5;lia
 exact⟨⟨h1,h2,h3,h4,by rw[hl],I,m⟩,hl⟩
def DI.M(d:DI):Ms:=dm (d.N.length-d.n) d.m
noncomputable def DI.fi(d:DI):FI:=⟨d.n,d.M,d.mu,d.df,!d.ce.isEmpty⟩
noncomputable def DI.qual(d:DI):Str:=match d.cl with
 |none=>d.name
 |some c=>c++(("." : Str)++d.name)
def Tb.add(tb:Tb)(d:DI):Tb:=match d.cl with
 |none=>{ tb with fns:=(d.name,d.fi)::tb.fns }
 |some c=>match d.name==("__init__" : Str) with
  |true=>{ tb with hU:=(c,d.fi)::tb.hU }
  |false=>{ tb with mts:=(d.name,c,d.fi)::tb.mts }
noncomputable def qm:Nat:=40
noncomputable def xX:Ms:=λ_=>none
theorem zM{l:List Stmt}:pY X E l xX:=⟨λpins s Y H D I h=>by obtain⟨c,Z,B,θ,f,O,e,b,em,q⟩:=h;cases em⟩
def uP(tb:Tb)(r:Tr)(s:Sc)(a b:Stmt):Option Ms:=ag (uM a) λ(t,e,_)=>ag (nk t) λ(x1,h,_)=>ag (rS x1) λ(x,_)=>ag (rS h) λ(y,_)=>
 ag (uM b) λ(U,e2,_)=>ag (nk U) λ(u,P,_)=>ag (nk u) λ(x2,H,_)=>ag (rS x2) λ(Y,_)=>ag (rS H) λ(X,_)=>ag (rS P) λ(z,_)=>ag (xu e2) λ(R,f,_)=>ag (rS R) λ(o,_)=>
 cH (s.lv.contains ("*nob" : Str)&&x==Y&&y==X) (ag (slot s x) λi=>ag (slot s y) λj=>ag (slot s z) λl=>ag (slot s o) λq=>ag (r.E s e) λm=>some (u0 (iG tb f) i j l q f m))
theorem rW(R:cw tb k r)(S:fC tb k X E s){a b:Stmt}{m:Ms}(h:uP tb r s a b=some m):∃ta v,PS X a ta/\PS X b v/\∀D Y H,Ey (kx X) E m D Y H->yX ta v D Y H:=by
 obtain⟨⟨t,e,p1⟩,h1,J⟩:=aa h;clear h;obtain rfl:=iX h1;obtain⟨⟨x1,y1,p2⟩,h2,G⟩:=aa J;clear J;obtain rfl:=eM h2;obtain⟨⟨x,p3⟩,h3,U⟩:=aa G;clear G;obtain rfl:=bT h3;obtain⟨⟨y,p4⟩,h4,F⟩:=aa U;clear U;obtain rfl:=bT h4;obtain⟨⟨t2,e2,p5⟩,h5,P⟩:=aa F;clear F;obtain rfl:=iX h5;obtain⟨⟨u,z1,p6⟩,h6,n⟩:=aa P;clear P;obtain rfl:=eM h6;obtain⟨⟨x2,y2,p7⟩,h7,N⟩:=aa n;clear n;obtain rfl:=eM h7;obtain⟨⟨x',p8⟩,h8,V⟩:=aa N;clear N;obtain rfl:=bT h8;obtain⟨⟨y',p9⟩,h9,I⟩:=aa V;clear V;obtain rfl:=bT h9;obtain⟨⟨z,q1⟩,g1,B⟩:=aa I;clear I;obtain rfl:=bT g1;obtain⟨⟨o1,f,q2⟩,g2,Z⟩:=aa B;clear B;obtain rfl:=mG g2;obtain⟨⟨o,q3⟩,g3,O⟩:=aa Z;clear Z;obtain rfl:=bT g3;obtain⟨d,g⟩:=ah O;clear O;simp only[QZ,QZ,ZA,ZA] at d;obtain⟨⟨_,rfl⟩,rfl⟩:=d;obtain⟨i,e3,A⟩:=aa g;clear g;obtain⟨j,e4,K⟩:=aa A;clear A;obtain⟨l,e5,w⟩:=aa K;clear K;obtain⟨q,e6,L⟩:=aa w;clear w;obtain⟨m1,e7,T⟩:=aa L;clear L;cases T;obtain⟨a1,a2,a3,a4⟩:=S.slot e3;obtain⟨b1,b2,b3,b4⟩:=S.slot e4;obtain⟨c1,c2,c3,c4⟩:=S.slot e5;obtain⟨d1,d2,d3,d4⟩:=S.slot e6;exact⟨_,_,lg (R.E S.toSit e7).p (pB (bW a1 a2 a3 a4) (bW b1 b2 b3 b4) set_list (kI rfl)) jw fD,
  lg (jV (bW d1 d2 d3 d4) (bM rfl _ _ _)) (pB (zL oG (bW a1 a2 a3 a4) (bW b1 b2 b3 b4) (λ_ _=>rfl)) (bW c1 c2 c3 c4) set_list (kI rfl)) jw fD,
  v3 (λc C=>S.gd.fl _ c C) λY H Q h=>h⟩
def Du(P:Stmt->Stmt->Option Ms)(F:Stmt->Option Ms):List Stmt->Option Ms
 |[]=>some bJ
 |[a]=>F a
 |a::b::r=>p0 (ag (P a b) λm=>ag (Du P F r) λn=>some (aC m n)) (ag (F a) λm=>ag (Du P F (b::r)) λn=>some (aC m n))
theorem pf{P:Stmt->Stmt->Option Ms}{F:Stmt->Option Ms}(hp:∀a b m,P a b=some m->∃ta tb,PS X a ta/\PS X b tb/\∀D Y H,Ey (kx X) E m D Y H->yX ta tb D Y H)(h:∀a m,F a=some m->JS X E a m):∀{l:List Stmt}{m:Ms},Du P F l=some m->pY X E l m
 |[],m,e=>by cases e;exact vI
 |[a],m,e=>vH (h _ _ e)
 |a::b::r,m,e=>by
  rcases bu e with e|e
  .obtain⟨I,e1,e⟩:=aa e;obtain⟨K,e2,e⟩:=aa e;cases e;obtain⟨ta,tb,C,z,w⟩:=hp _ _ _ e1;exact xV C z w (pf hp h e2)
  .obtain⟨I,e1,e⟩:=aa e;obtain⟨K,e2,e⟩:=aa e;cases e;exact q9 (h _ _ e1) (pf hp h e2)
def tD(tb:Tb)(d:DI):Option Ms:=match d.sp with
 |true=>some xX
 |false=>Du (uP tb (tr tb qm) d.sc) (GZ tb (tr tb qm) qm d.sc) (eZ d.st)
theorem CM{m:Ms}(h:tD tb d=some m)(S:fC tb k X E d.sc):pY X E (eZ d.st) m:=by
 unfold tD at h;split at h
 .cases h;exact zM
 .have ok:∀{l:List Stmt}{m:Ms},qi (GZ tb (tr tb qm) qm d.sc) l=some m->pY X E l m:=λh=>fQ (λa m e=>mr (kg qm) S e) h;exact pf (λa b m e=>rW (kg qm) S e) (λa m e=>mr (kg qm) S e) h
theorem ER{P:Program}{f:Addr}{qual:Str}(G:Gd tb k P w K mg base)(F:oF K d.name qual d.st f fd dV)(hs:gp d=true)
  (h:tD tb d=some d.m):c9 P w K mg base (oT P w) (k+1) f fd (d.N.take d.n) (fY ⟨K,mg,P,w⟩ d.n d.M):=by
 obtain⟨S,hl⟩:=hZ hs;have key:=H9 (P:=P) (w:=w) (mg:=mg) (base:=base) (k:=k) (m:=d.m) F S (λcdv A outer s H E hr=>CM h (?_:fC tb k _ E d.sc))
 .rw[hl] at key;exact key
 .refine⟨⟨rfl,S.nd,λx hx=>hx,λx hx=>?_,λx hx=>?_,λx hx=>hx,λx=>⟨λhx=>hx,.inr⟩,λx hx=>.inl rfl,λ_=>rfl,λ_=>hr,λ_=>EL.pass,G⟩,λ_=>EL,λ_=>YM.leaving,λ_=>⟨rfl,rfl,rfl⟩,?_⟩
  .unfold Dq m5 DI.sc at hx;simp only[SH,ZA] at hx;rcases hx with (z|z)|z
   .exact .inl z
   .exact .inr (.inl z)
   .exact .inr (.inr z)
  .unfold tf m5 DI.sc at hx;simp only[SH,ZA] at hx;exact hx
  .show (if (aX d.st).kind.isAnnotationScope then ScopeKind.function else (aX d.st).kind)=.function;rw[S.kind];rfl
end
theorem tu:∀{us:List Value}{n:Str},us.length=ps.length->n∈ps->((ps.zip us).lookup n).isSome=true:=by
 induction ps with
 |nil=>intro us n _ h;cases h
 |cons p ps l=>
  intro us n hl h;cases us with
  |nil=>cases hl
  |cons u us=>
   simp only[Tf,Rk];split
   .rfl
   .rename_i z;rcases Rc.mp h with y|y
    .rw[y,beq_self_eq_true] at z;cases z
    .exact l (by simpa using hl) y
theorem kU:∀{us:List Value}{pre:List (Str×Value)},us.length=ps.length->ps.Nodup->(∀n∈ps,pre.lookup n=none)->ps.filterMap (λn=>((pre++ps.zip us).lookup n).map (n,·))=ps.zip us:=by
 induction ps with
 |nil=>intro us pre _ _ _;rfl
 |cons p ps l=>
  intro us pre hl nd hp;cases us with
  |nil=>cases hl
  |cons u us=>
   obtain⟨d,A⟩:=RD.mp nd;have e1:(pre++(p,u)::ps.zip us).lookup p=some u:=by simp only[RI,hp p Rg,Rk,beq_self_eq_true];rfl
   rw[Tf,SO,e1];show (p,u)::_=_
   congr 1
   have:=l (us:=us) (pre:=pre++[(p,u)]) (by simpa using hl) A (λn hn=>by simp only[RI,hp n (Q5 _ hn),Rk];have:(n==p)=false:=beq_eq_false_iff_ne.mpr λz=>d (z▸hn);rw[this];rfl)
   simpa[Q6] using this
theorem kf{α D:Type}{f:α->D->Sem (ForInStep D)}{g:D->α->D}(h:∀a b,f a b=pure (.yield (g b a))):∀(l:List α)(b:D),(forIn l b f:Sem D)=pure (l.foldl g b)
 |[],_=>rfl
 |a::l,b=>by rw[WG,h,pure_bind];exact kf h l _
noncomputable def qN(S:List (Str×Value))(x:Str×Value):List (Str×Value):=if (S.lookup x.1).isNone=true then S++[(x.1,x.2)] else S
variable{us:List Value}
theorem o9(h1:fd.params.posonlyargs=[])(h2:fd.params.kwonlyargs=[])(h3:fd.params.vararg=none)(h4:fd.params.kwarg=none)(I:fd.params.args.map (·.arg)=ps)(hl:us.length<=ps.length):
  ∃k,bindArgs fd ⟨us,[]⟩=seqItems? fd.defaults >>= k/\∀(o:Option (Array Value))(ds:List Value),(o.getD #[]).toList.drop ((o.getD #[]).toList.length-ps.length)=ds->
   (ps.take (ps.length-ds.length)).filter (λn=>((ps.zip us).lookup n).isNone)=[]->
   k o=pure ((ps++[]).filterMap λn=>((((ps.drop (ps.length-ds.length)).zip ds).foldl qN (ps.zip us)).lookup n).map (n,·)):=by
 obtain⟨nm,y,pr,bo,sc,gl,cl,de,m,p,pm,an,cd,ct,l⟩:=fd;obtain⟨po,h,x,X,c,N,df⟩:=pr;obtain rfl:h.map (·.arg)=ps:=I;obtain rfl:po=[]:=h1;obtain rfl:X=[]:=h2;obtain rfl:x=none:=h3;obtain rfl:N=none:=h4;refine⟨_,rfl,λo ds hd hm=>?_⟩;subst hd;refine(Zw (λz=>?_)).trans ?_
 .rw[QZ,decide_eq_true_eq] at z;exact absurd z.1 (Us.mpr hl)
 refine(Zw (λz=>?_)).trans ?_
 .rw[Rz,List.isEmpty_eq_false_iff] at z;exact z hm
 refine(Zz (· >>= _) (kf (g:=qN) (λa b=>?_) _ _)).trans ?_
 .unfold qN;by_cases z:(b.lookup a.1).isNone=true
  .rw[Zv z];exact Zv z
  .rw[Zw z];exact Zw z
 .exact rfl
theorem jE(hl:us.length=ps.length):ps.filter (λn=>((ps.zip us).lookup n).isNone)=[]:=by
 rw[Ti];intro n hn;have:=tu hl hn;cases e:(ps.zip us).lookup n with
 |none=>rw[e] at this;cases this
 |some v=>exact RZ
theorem qT(h1:fd.params.posonlyargs=[])(h2:fd.params.kwonlyargs=[])(h3:fd.params.vararg=none)(h4:fd.params.kwarg=none)(h5:fd.defaults=.none)(I:fd.params.args.map (·.arg)=ps)(nd:ps.Nodup)(hl:us.length=ps.length):
  bindArgs fd ⟨us,[]⟩=pure (ps.zip us):=by
 obtain⟨k,e1,e2⟩:=o9 (us:=us) h1 h2 h3 h4 I (Up hl);rw[e1,h5];refine(e2 none [] WX (by simp only[List.length_nil,VV,Wv];exact jE hl)).trans ?_;simp only[RX,List.zip_nil_right];have F:=kU (pre:=[]) hl nd (λn _=>rfl);simp only[Ut] at F;exact Zz pure F
theorem zG:∀{us:List Value}{z:Str},z∉ps->(ps.zip us).lookup z=none:=by
 induction ps with
 |nil=>intro us z _;rfl
 |cons p ps l=>
  intro us z hz;cases us with
  |nil=>rfl
  |cons u us=>simp only[Tf,Rk];have:(z==p)=false:=beq_eq_false_iff_ne.mpr λy=>hz (y▸Rg);rw[this];exact l λy=>hz (Q5 _ y)
theorem vU{qs:List Str}:∀{us:List Value},us.length=ps.length->(ps++qs).zip us=ps.zip us:=by
 induction ps with
 |nil=>intro us h;cases us with
  |nil=>cases qs<;>rfl
  |cons _ _=>cases h
 |cons p ps l=>intro us h;cases us with
  |nil=>cases h
  |cons u us=>simp only[S2,Tf,Tf,l (by simpa using h)]
theorem zJ{s:Shared}{qs:List Str}{z:Str}{a:Addr}{o:Obj}{h:Value}{g:Nat}(h1:fd.params.posonlyargs=[])(h2:fd.params.kwonlyargs=[])(h3:fd.params.vararg=none)(h4:fd.params.kwarg=none)(h5:fd.defaults=.ref a)(ho:s.heap.get? a=some o)(hs:o.data=.seq #[h] g)
  (I:fd.params.args.map (·.arg)=qs++[z])(nd:(qs++[z]).Nodup):
  (us.length=(qs++[z]).length->YU s fd ⟨us,[]⟩ ((qs++[z]).zip us))/\(us.length=qs.length->YU s fd ⟨us,[]⟩ ((qs++[z]).zip (us++[h]))):=by
 have nz:z∉qs:=λy=>(Rj.mp nd).2.2 z y z Rg rfl;have e1:List.drop (1-(qs++[z]).length) [h]=[h]:=by rw[show 1-(qs++[z]).length=0 by simp];rfl
 have e2:(qs++[z]).take ((qs++[z]).length - [h].length)=qs:=by simp
 have T:(qs++[z]).drop ((qs++[z]).length - [h].length)=[z]:=by simp
 refine⟨λhl=>?_,λhl=>?_⟩
 .obtain⟨k,k1,k2⟩:=o9 (us:=us) h1 h2 h3 h4 I (Up hl);refine .of_defaults h5 ho hs k1 ((k2 (some #[h]) [h] e1 ?_).trans ?_)
  .rw[e2,Ti];exact λn hn=>Ti.mp (jE hl) n (Q8 _ hn)
  .have r:¬ (((qs++[z]).zip us).lookup z).isNone=true:=Ti.mp (jE hl) z (Q2 _ Rg);rw[T];have A:UO qN ((qs++[z]).zip us) ([z].zip [h])=(qs++[z]).zip us:=Zw r;rw[A,RX];exact Zz pure (kU (pre:=[]) hl nd (λn _=>rfl))
 .obtain⟨k,k1,k2⟩:=o9 (us:=us) h1 h2 h3 h4 I (by simp only[hl,Rn];exact Sv _ _);have hz:(qs++[z]).zip us=qs.zip us:=vU hl;refine .of_defaults h5 ho hs k1 ((k2 (some #[h]) [h] e1 ?_).trans ?_)
  .rw[e2,hz];exact jE hl
  .have L:(us++[h]).length=(qs++[z]).length:=by simp only[Rn,Rn,hl];rfl
   have t:(qs++[z]).zip (us++[h])=qs.zip us++[(z,h)]:=by rw[List.zip_append hl.symm];rfl
   rw[T,hz];have A:UO qN (qs.zip us) ([z].zip [h])=qs.zip us++[(z,h)]:=Zv (by rw[zG nz];rfl);rw[A,<-t,RX];exact Zz pure (kU (pre:=[]) L nd (λn _=>rfl))
mutual
noncomputable def xW(K:Q0):Nat->Value->A->Bool
 |0,_,_=>false
 |n+1,v,a=>match v,a with
  | .none,.non=>true
  | .bool b,.bl c=>b==c
  | .int i _,.int j=>i==j
  | .str x _,.str y=>x==y
  | .ref p,.tup as=>(match K.lookup p with
   |some ⟨.type "tuple",none,.seq its _,_⟩=>SE its.size 1000&&qp K n its.toList as
   | _=>false)
  |_,_=>false
noncomputable def qp(K:Q0):Nat->List Value->List A->Bool
 |0,_,_=>false
 |_+1,[],[]=>true
 |n+1,v::vs,a::as=>xW K n v a&&qp K n vs as
 |_+1,_,_=>false
end
mutual
theorem o7{P:Program}{w:X1}{K:Q0}{mg:Str->Option Value}:∀{n:Nat}{v:Value}{a:A},xW K n v a=true->∃x,RelV x v/\∀G,RA ⟨K,mg,P,w⟩ G x a
 |0,v,a,h=>by cases h
 |n+1,v,a,h=>by
  cases v with
  |none=>cases a with
   |non=>exact⟨.non,rfl,λ_=>.non⟩
   |_=>exact yW h
  |bool b=>cases a with
   |bl c=>obtain rfl:b=c:=eq_of_beq h;exact⟨.bl _,rfl,λ_=>.bl _⟩
   |_=>exact yW h
  |int i t=>cases a with
   |int j=>obtain rfl:i=j:=eq_of_beq h;exact⟨.int _,⟨_,rfl⟩,λ_=>.int _⟩
   |_=>exact yW h
  |str x t=>cases a with
   |str y=>obtain rfl:x=y:=eq_of_beq h;exact⟨.str _,⟨_,rfl⟩,λ_=>.str _⟩
   |_=>exact yW h
  |ref p=>cases a with
   |tup as=>
    replace h:(match K.lookup p with
     |some ⟨.type "tuple",none,.seq l _,_⟩=>SE l.size 1000&&qp K n l.toList as
     | _=>false)=true:=h
    split at h
    .rename_i l g sl e
     rw[QZ] at h
     obtain⟨xs,h1,h2⟩:=rB (P:=P) (w:=w) (mg:=mg) h.2
     refine⟨.ref _,rfl,λG=>.tup (.inr ⟨_,l,_,e,⟨rfl,rfl⟩,rfl,?_,h1⟩) (h2 G)⟩
     have:=R0 h.1
     have:=kl
     lia
    .cases h
   |_=>exact yW h
  |_=>exact yW h
theorem rB{P:Program}{w:X1}{K:Q0}{mg:Str->Option Value}:∀{n:Nat}{vs:List Value}{as:List A},qp K n vs as=true->∃xs,Vals xs vs/\∀G,bF ⟨K,mg,P,w⟩ G xs as
 |0,vs,as,h=>by cases h
 |_+1,[],[],h=>⟨[],.nil,λ_=>.nil⟩
 |n+1,v::vs,a::as,h=>by
  replace h:(xW K n v a&&qp K n vs as)=true:=h
  rw[QZ] at h
  obtain⟨x,h1,h2⟩:=o7 (P:=P) (w:=w) (mg:=mg) h.1
  obtain⟨xs,h3,h4⟩:=rB (P:=P) (w:=w) (mg:=mg) h.2
  exact⟨x::xs,.cons h1 h3,λG=>.cons (h2 G) (h4 G)⟩
 |_+1,[],_::_,h=>by cases h
 |_+1,_::_,[],h=>by cases h
end
noncomputable def gV(K:Q0)(x:Str):Option Value:=match UM K X6 x with
 |some (some v)=>some v
 |_=>none
variable{h:Heap}
theorem i8(X:K.In h)(G:h.Ns X6 mg){x:Str}{v:Value}(e:gV K x=some v):mg x=some v:=by
 unfold gV at e;split at e
 .rename_i q;cases e;exact PySem.W.mg_of X G q
 .cases e
def K8(K:Q0)(x:Str):Option V:=match gV K x with
 |some (.ref C)=>some (.ref C)
 |some _=>none
 |none=>match UM K X6 x,XX x with
  |some none,some (.type t)=>if x==("__name__" : Str) then none else some (.ty t)
  |_,_=>none
noncomputable def xx(K:Q0)(C:Addr):Bool:=
 RV K (.ref C) "__getattribute__" == some (some (.builtin "BaseException.__getattribute__"))&&RV K (.ref C) "__getattr__" == some none&&RV K (.ref C) "__class__" == some (some (.builtin "object.__class__")) &&
 VY K (.builtin "object.__class__") "__get__" == some (some (.builtin "getset_descriptor.__get__"))&&Wd K (.builtin "object.__class__")==some true&&Vh K C (.type "object")==some true&&Vh K C (.type "BaseException")==some true
variable{C:Addr}
theorem AH(h:xx K C=true):fL K C:=by unfold xx at h;simp only[QZ,ZA] at h;obtain⟨⟨⟨⟨⟨⟨h1,h2⟩,h3⟩,h4⟩,h5⟩,I⟩,m⟩:=h;exact⟨h1,h2,h3,h4,h5,I,m⟩
def Nf(K:Q0)(p:Str×List (Str×Bool)):Bool:=match K8 K p.1 with
 |some cv=>p.2.all λq=>match gV K q.1 with
  |some (.ref C)=>xx K C&&RW K (.ref C) (gn cv)==some q.2
  |_=>false
 |none=>false
def Mn(K:Q0)(p:Str×List Str):Bool:=match gV K p.1 with
 |some (.ref T)=>p.2.all λc=>match gV K c with
  |some (.ref C)=>Ur K (.ref C) (.ref T)==some true
  |_=>false
 |_=>false
def Np(K:Q0)(x:Str):Bool:=match gV K x with
 |some (.ref C)=>Tu K C vC "ValueError.__new__"
 |_=>false
def LB(K:Q0)(p:Str×A):Bool:=match gV K p.1 with
 |some v=>xW K 20 v p.2
 |none=>false
noncomputable def o8(K:Q0)(C:Addr):Bool:=Tn K C Str.empty&&T3 K C&&UH K C&&RV K (.ref C) "__setattr__" == some (some (.builtin "object.__setattr__"))
theorem oh(h:o8 K C=true):i5 K C:=by unfold o8 at h;simp only[QZ,ZA] at h;obtain⟨⟨⟨h1,h2⟩,h3⟩,h4⟩:=h;exact⟨h1,h2,h3,h4⟩
def MD(K:Q0)(p:Str×List Str):Bool:=match gV K p.1 with
 |some (.ref C)=>o8 K C&&p.2.all λf=>RV K (.ref C) f==some none
 |_=>false
def Ek(tb:Tb)(K:Q0):Bool:=tb.fns.isEmpty&&tb.cst.all (LB K)&&DV.all (λx=>UM K X6 x==some none)&&tb.exs.all (Np K)&&tb.kit.all (Nf K)&&tb.exm.all (Mn K)&&tb.fld.all (MD K)&&tb.hU.isEmpty&&tb.mts.isEmpty
variable{tb:Tb}
theorem JH{P:Program}(X:K.In h)(G:h.Ns X6 mg)(e:Ek tb K=true):Gd tb 1 P w K mg base:=by
 unfold Ek at e;simp only[QZ,R6,R8,ZA] at e;obtain⟨⟨⟨⟨⟨⟨⟨⟨e1,e2⟩,L⟩,A⟩,i⟩,g⟩,R⟩,Y⟩,E⟩:=e;refine⟨λx f q=>(by rw[e1] at q;cases q),λx a q=>?_,λx q=>VW X G (L x q),λx q=>?_,λx l q=>?_,λx l q=>?_,λf c C q hm=>?_,λc f q=>(by rw[Y] at q;cases q),λm c f q=>(by rw[E] at q;cases q)⟩
 .have:=e2 _ (dZ q);unfold LB at this;split at this
  .rename_i v o;obtain⟨y,H,B⟩:=o7 (P:=P) (w:=w) (mg:=mg) this;exact⟨y,v,i8 X G o,H,B⟩
  .cases this
 .have:=A x q;unfold Np at this;split at this
  .rename_i C o;exact⟨C,i8 X G o,this⟩
  .cases this
 .have:=i _ (dZ q);unfold Nf at this;split at this
  .rename_i cv D;simp only[R8] at this;have tail:∀c C k,l.lookup c=some k->mg c=some (.ref C)->fL K C/\RW K (.ref C) (gn cv)=some k:=λc C k hk hm=>by
    have t:=this _ (dZ hk);split at t
    .rename_i J o;have:=i8 X G o;rw[hm] at this;cases this;simp only[QZ,ZA] at t;exact⟨AH t.1,t.2⟩
    .cases t
   unfold K8 at D;split at D
   .rename_i C o;cases D;exact⟨.ref C,.ref C,rfl,rfl,.inl (i8 X G o),tail⟩
   .cases D
   .split at D
    .rename_i t en Z;split at D
     .cases D
     .rename_i hn;cases D;exact⟨.type t,.ty t,rfl,rfl,.inr ⟨VW X G en,Z,λz=>hn (by rw[z];exact beq_self_eq_true _)⟩,tail⟩
    .cases D
  .cases this
 .have:=g _ (dZ q);unfold Mn at this;split at this
  .rename_i T o;simp only[R8] at this;refine⟨T,i8 X G o,λc C hc hm=>?_⟩;have t:=this c (Si.mp hc);split at t
   .rename_i J b;have:=i8 X G b;rw[hm] at this;cases this;simp only[ZA] at t;exact t
   .cases t
  .cases this
 .obtain⟨p,N,j⟩:=RY.mp (Si.mp q);obtain⟨r,s⟩:=Vb.mp N;have t:=R p r;subst j;unfold MD at t;split at t
  .rename_i J o;have:=i8 X G o;rw[hm] at this;cases this;simp only[QZ,R8] at t;have:=t.2 f (Si.mp s);exact⟨oh t.1,by simp only[ZA] at this;exact this⟩
  .cases t
def t9(d:DI):Bool:=(dM d.st).posonlyargs.isEmpty&&(dM d.st).kwonlyargs.isEmpty&&(dM d.st).vararg.isNone&&(dM d.st).kwarg.isNone&&(dM d.st).args.map (·.arg)==d.N.take d.n
def JM(K:Q0)(dV:Value)(a:A):Bool:=match dV with
 | .ref td=>match K.lookup td with
  | some ⟨_,_,.seq its _,_⟩=>(match its.toList with
   |[v]=>xW K 20 v a
   | _=>false)
  |_=>false
 |_=>false
def wL(K:Q0)(dV:Value):List A->Bool
 |[]=>match dV with
  | .none=>true
  |_=>false
 |[a]=>JM K dV a
 |_=>false
variable{d:DI}
theorem GP{P:Program}{qual:Str}{f:Addr}(h:t9 d=true)(hs:gp d=true)(F:oF K d.name qual d.st f fd dV)(hd:wL K dV d.df=true):jf P w K mg fd (d.N.take d.n) d.df:=by
 unfold t9 at h;simp only[QZ,R6,R3,ZA] at h;obtain⟨⟨⟨⟨h1,h2⟩,h3⟩,h4⟩,h5⟩:=h;obtain⟨S,hl⟩:=hZ hs;have nd:=S.nd.sublist (UW d.n d.N);obtain⟨D,Q⟩:fd.params=dM d.st/\fd.defaults=dV:=by obtain⟨oc,od,kV,doc,pm,an,cdv,ct,osl,e,_⟩:=F.ex;rw[e];exact⟨rfl,rfl⟩
 rw[<-D] at h1 h2 h3 h4 h5;clear F D S hl hs;cases e:d.df with
 |nil=>
  rw[e] at hd;have hd:dV=.none:=by cases dV<;>first|rfl|cases hd
  subst hd
  .intro j Z;refine⟨[],[],Binds.all λus B=>qT h1 h2 h3 h4 Q h5 nd B,.nil,λ_=>?_⟩;simp only[WX];exact .nil
 |cons a as=>
  cases as with
  |cons _ _=>rw[e] at hd;cases hd
  |nil=>
   rw[e] at hd
   replace hd:JM K dV a=true:=hd
   unfold JM at hd;split at hd
   .rename_i c;split at hd
    .rename_i x y b g sl A;split at hd
     .rename_i v o;obtain⟨X,V,i⟩:=o7 (P:=P) (w:=w) (mg:=mg) hd;have hi:b=#[v]:=by rw[<-Array.toList_inj,o]
      subst hi;have bo:∀(s:Shared)(us:List Value),K.In s.heap->((us.length=(d.N.take d.n).length->YU s _ ⟨us,[]⟩ ((d.N.take d.n).zip us))/\(us.length+1=(d.N.take d.n).length->YU s _ ⟨us,[]⟩ ((d.N.take d.n).zip (us++[v])))):=λs us H=>by
       rcases List.eq_nil_or_concat (d.N.take d.n) with z|⟨qs,p,z⟩
       .rw[z] at h5 ⊢;refine⟨λhl=>?_,λhl=>by cases hl⟩;cases us with
        |cons _ _=>cases hl
        |nil=>obtain⟨k,k1,k2⟩:=o9 (us:=[]) h1 h2 h3 h4 h5 (Q9 0);exact .of_defaults Q (H _ _ A) rfl k1 (k2 (some #[v]) [] rfl rfl)
       .rw[List.concat_eq_append] at z;rw[z] at h5 nd ⊢;have:=zJ (s:=s) (us:=us) h1 h2 h3 h4 Q (H _ _ A) rfl h5 nd;exact⟨this.1,λq=>this.2 (by simpa using q)⟩
      intro j Z;rcases Nat.le_one_iff_eq_zero_or_eq_one.mp Z with rfl|rfl
      .exact⟨[v],[X],λs us H B=>(bo s us H).2 (by simpa using B),.cons V .nil,λG=>.cons (i G) .nil⟩
      .exact⟨[],[],λs us H B=>by rw[RX] at B ⊢;exact(bo s us H).1 B,.nil,λG=>.nil⟩
     .cases hd
    .cases hd
   .cases hd
def uV:Tb->List DI->List (Option Ms)
 |_,[]=>[]
 |tb,d::ds=>tD tb d::uV (tb.add d) ds
def uO:Tb->List DI->Tb
 |tb,[]=>tb
 |tb,d::ds=>uO (tb.add d) ds
def iQ(K:Q0)(mg:Str->Option Value)(d:DI)(f:Addr):Prop:=match d.cl with
 |none=>mg d.name=some (.ref f)
 |some c=>∃C,mg c=some (.ref C)/\i5 K C/\Meth K C d.name f/\(d.name=("__init__" : Str)->Mk K C f)
section
variable{P:Program}{w:X1}{K:Q0}{mg:Str->Option Value}{base:Heap}
theorem Gd.up{j k:Nat}(G:Gd tb j P w K mg base)(h:j<=k):Gd tb k P w K mg base:=⟨λx f e=>by
 obtain⟨a,fd,ps,F,r⟩:=G.fn x f e;exact⟨a,fd,ps,F.mono h,r⟩,G.cs,G.bl,G.ex,G.kt,G.em,G.fl,λc f e=>by
 obtain⟨C,a,fd,ps,i,hi,r⟩:=G.im c f e;exact⟨C,a,fd,ps,i,RG hi h,r⟩,λm c f e=>by
 obtain⟨C,a,fd,ps,F,r⟩:=G.mt m c f e;exact⟨C,a,fd,ps,F.mono h,r⟩⟩
theorem Gd.add{tb:Tb}{k:Nat}(G:Gd tb k P w K mg base){d:DI}{f:Addr}{fd:X9}{dV:Value}(m:iQ K mg d f)(F:oF K d.name d.qual d.st f fd dV)(hd:wL K dV d.df=true)(hs:gp d=true)(hp:t9 d=true)
  (h:tD tb d=some d.m):Gd (tb.add d) (k+2) P w K mg base:=by
 have G2:=G.up (show k<=k+2 by exact Sv _ _);have a:=ER G F hs h;have X:jf P w K mg fd (d.N.take d.n) d.df:=GP hp hs F hd;unfold Tb.add;unfold iQ at m;split
 .rename_i hc;rw[hc] at m;refine⟨λx fi e=>?_,G2.cs,G2.bl,G2.ex,G2.kt,G2.em,G2.fl,G2.im,G2.mt⟩
  .have e:((d.name,d.fi)::tb.fns).lookup x=some fi:=e;simp only[Rk] at e;cases z:x==d.name with
   |true=>rw[z] at e;cases e;rw[ZA] at z;subst z;exact⟨f,fd,_,a.mono (Uz _),m,F.kp,X⟩
   |false=>rw[z] at e;exact G2.fn x fi e
 .rename_i c hc;rw[hc] at m;obtain⟨C,I,b,u,p⟩:=m;split
  .rename_i z;simp only[ZA] at z;refine⟨G2.fn,G2.cs,G2.bl,G2.ex,G2.kt,G2.em,G2.fl,λx fi e=>?_,G2.mt⟩;have e:((c,d.fi)::tb.hU).lookup x=some fi:=e;simp only[Rk] at e;cases y:x==c with
   |true=>rw[y] at e;cases e;simp only[ZA] at y;subst y;exact⟨C,f,fd,_,k+1,Q9 _,a,I,p z,X⟩
   |false=>rw[y] at e;exact G2.im x fi e
  .refine⟨G2.fn,G2.cs,G2.bl,G2.ex,G2.kt,G2.em,G2.fl,G2.im,λx y fi e=>?_⟩;rcases Rc.mp e with e|e
   .cases e;exact⟨C,f,fd,_,a.mono (Uz _),I,b,u,X⟩
   .exact G2.mt x y fi e
theorem Gd.all:∀{ds:List DI}{tb:Tb}{k:Nat},Gd tb k P w K mg base->(∀d∈ds,∃f fd dV,iQ K mg d f/\oF K d.name d.qual d.st f fd dV/\wL K dV d.df=true)->ds.all (λd=>gp d&&t9 d)=true->uV tb ds=ds.map (λd=>some d.m)->Gd (uO tb ds) (k+2*ds.length) P w K mg base
 |[],tb,k,G,_,_,_=>G
 |d::ds,tb,k,G,hf,hs,ht=>by simp only[Rt,QZ,QZ] at hs;obtain⟨o,E⟩:=List.cons.inj ht;obtain⟨f,fd,dV,m,F,hd⟩:=hf d Rg;have:=Gd.all (G.add m F hd hs.1.1 hs.1.2 o) (λe he=>hf e (Q5 _ he)) hs.2 E;simp only[Rb,show k+2*(ds.length+1)=k+2+2*ds.length by lia];exact this
end
noncomputable abbrev xy:=Str×Str×Arguments×Zf×Scope×Addr×List (Str×Addr)×Addr×Bool
def Mh(K:Q0)(d:DI):Option Addr:=match d.cl with
 |none=>match gV K d.name with
  |some (.ref f)=>some f
  |_=>none
 |some c=>match gV K c with
  |some (.ref C)=>match RV K (.ref C) d.name with
   |some (some (.ref f))=>some f
   |_=>none
  |_=>none
def NT(K:Q0)(d:DI)(f:Addr):Bool:=match d.cl with
 |none=>true
 |some c=>match gV K c with
  |some (.ref C)=>o8 K C&&UG K (.ref f)&&(!(d.name==("__init__" : Str)) || (U3 K C&&Sa K (.ref C)))
  |_=>false
def IH(K:Q0)(d:DI):Option xy:=match Mh K d with
 |some f=>match K.lookup f with
  |some ⟨_,_,.func x,_⟩=>some (x.name,x.qualname,x.params,x.body,x.scope,x.globals,x.closure,x.builtins,Uq K x.code d.qual&&Sa K (.ref f)&&wL K x.defaults d.df&&NT K d f)
  |_=>none
 |none=>none
def Ht(d:DI):Option xy:=some (d.name,d.qual,dM d.st,.stmts (eZ d.st),aX d.st,X6,[],YQ,true)
theorem BO(X:K.In h)(G:h.Ns X6 mg)(e:IH K d=Ht d):∃f fd dV,iQ K mg d f/\oF K d.name d.qual d.st f fd dV/\wL K dV d.df=true:=by
 unfold IH Ht at e;split at e
 .rename_i f Q;split at e
  .rename_i a1 Z x Y v;obtain⟨n,r,I,u,i,B,P,J,O,p,a,m,q,k,E⟩:=x;simp only[Vz,Prod.mk.injEq] at e;obtain⟨rfl,rfl,rfl,rfl,rfl,rfl,rfl,rfl,D⟩:=e;simp only[QZ] at D;obtain⟨⟨⟨R,F⟩,N⟩,j⟩:=D;refine⟨f,_,_,?_,⟨⟨_,_,_,_,_,_,_,_,_,rfl,v,R⟩,F⟩,N⟩;unfold iQ;unfold Mh at Q;unfold NT at j;split
   .rename_i hc;rw[hc] at Q;simp only at Q;split at Q
    .rename_i H o;cases Q;exact i8 X G o
    .cases Q
   .rename_i c hc;rw[hc] at Q j;simp only at Q j;split at Q
    .rename_i C o;rw[o] at j;simp only[QZ,SH,Rz,beq_eq_false_iff_ne] at j;split at Q
     .rename_i H b;cases Q;refine⟨C,i8 X G o,oh j.1.1,⟨b,j.1.2,F⟩,λz=>?_⟩;rcases j.2 with y|y
      .exact absurd z y
      .rw[z] at b;exact⟨y.1,b,j.1.2,y.2⟩
     .cases Q
    .cases Q
  .cases e
 .cases e
def J9(ds:List DI)(Y:Q0->Bool)(K:Q0):List (Option xy)×Bool:=(ds.map (IH K),Y K)
def J7(ds:List DI):List (Option xy)×Bool:=(ds.map Ht,true)
def hk(ds:List DI)(Y:Q0->Bool):WK where
 α:=List (Option xy)×Bool
 obs:=λs=>J9 ds Y (W.ik s.heap)
 val:=λ_=>J7 ds
 says:=λ_ h=>∃K:Q0,J9 ds Y K=J7 ds/\K.In h
 of:=λ_ s e=>⟨W.ik s.heap,e,W.mH _⟩
 keeps:=λ_ _ _ ⟨K,e,i⟩ k=>⟨K,e,i.keeps k⟩
variable{ds:List DI}
theorem Co{Y:Q0->Bool}(X:K.In h)(G:h.Ns X6 mg)(e:J9 ds Y K=J7 ds):Y K=true/\∀d∈ds,∃f fd dV,iQ K mg d f/\oF K d.name d.qual d.st f fd dV/\wL K dV d.df=true:=by obtain⟨e1,e2⟩:=Prod.mk.inj e;exact⟨e2,λd hd=>BO X G (List.map_eq_map_iff.mp e1 d hd)⟩
theorem Al{l:Wf}{q:Program}{loose:List Str}{XP:(Str->Option Value)->Heap->Prop}{d:DefRec}{x:Str}{di:DI}(hn:l.most=some 63)(B:d.params.defaults=[])(dn:d.name = "law")
  (hs:(ds++[di]).all (λd=>gp d&&t9 d)=true)(j:uV tb ds=ds.map (λd=>some d.m))(hl:tD (uO tb ds) di=some di.m)(z:di.name = "law")(y:di.cl=none)(p:di.df=[])(hx:di.N.take di.n=[x])(hr:cF (2+2*ds.length) YW)
  (hm:∀ns:List Int,ns.length<=63->∃Z,di.M [.fr (.lst (ns.map A.int))]=some (.rt (.fr (.bl true)),Z)):
  Ww q loose XP (hk (ds++[di]) (Ek tb)).says l.row.toRowW d [] (λf vs=>V6 f vs):=by
 refine W.yj (l:=l) (n:=63) (k:=2+2*ds.length) (x:=x) (sp:=zQ) hn Z1 B hr (λw mg H h Y G b=>?_) (λ_ _ a ns hl _ O=>⟨a,ns,rfl,O,hl,λ_=>rfl⟩);obtain⟨K,e,Q⟩:=Y;obtain⟨e1,e2⟩:=Co Q G e;refine⟨K,Q,?_⟩;rw[List.all_append,QZ] at hs;obtain⟨f,fd,dV,I,o,X⟩:=e2 di (Q2 _ Rg);rw[p] at X;have X:dV=.none:=by cases dV<;>first|rfl|cases X
 subst X;unfold iQ at I;rw[dn] at b;rw[y] at I;simp only at I;rw[z,b] at I;cases I;have c:=R8.mp hs.2 di Rg;simp only[QZ] at c;have C:di.n=1:=by have:=(hZ c.1).2;rw[hx] at this;exact this.symm
 refine⟨fd,λs u=>?_,λbase _ _=>?_⟩
 .obtain⟨oc,od,kV,doc,pm,an,cdv,ct,osl,rfl,F,R⟩:=o.ex;obtain⟨S,L⟩:=hZ c.1;have hp:=c.2;unfold t9 at hp;simp only[QZ,R6,R3,ZA] at hp;obtain⟨⟨⟨⟨h1,h2⟩,h3⟩,h4⟩,h5⟩:=hp;have:=qT (fd:=UI di.name di.qual (dM di.st) (eZ di.st) (aX di.st) .none kV doc pm an cdv ct) (us:=[u]) h1 h2 h3 h4 rfl h5 (S.nd.sublist (UW _ _)) (by rw[hx];rfl);simp only[hx] at this;exact .of_eq this
 .have v:=Gd.all (JH (P:=l.prog) (w:=w) (base:=base) Q G e1) (λd hd=>e2 d (Q8 _ hd)) hs.1 j;have E:=ER v o c.1 hl;rw[hx,C,show 1+2*ds.length+1=2+2*ds.length by lia] at E;exact JQ E hm
end M
set_option maxHeartbeats 4000000
namespace W
open PySem L2 M
noncomputable def top(i:Nat):Stmt:=PySem.Challenge.pw_fitwhatever_k36_no_program.main.body.getD i (.Pass ⟨0,0,0,0⟩)
def topC(i j:Nat):Stmt:=match top i with
 | .ClassDef _ _ _ b _ _ _ _ _ _ _=>b.getD j (.Pass ⟨0,0,0,0⟩)
 |s=>s
abbrev mix(m n:Mi Rr):Mi Rr:=aA BS m n
abbrev au(i:Int):Mi Rr:=mC (.int i)
abbrev bz(f:Ms)(m:Mi (List Rr)):Mi Rr:=bj f [] m
abbrev uQ(t:Mi Bool):Ms:=iq t (bV (mC (.bl false))) bJ
abbrev cJ(a:Mi Rr):Mi (List Rr):=cA a dy
abbrev bN(a b:Mi Rr):Mi (List Rr):=cA a (cJ b)
abbrev dJ(a b c:Mi Rr):Mi (List Rr):=cA a (bN b c)
abbrev BA(a b c d:Mi Rr):Mi (List Rr):=cA a (dJ b c d)
def ky:Ms:=aC (aM 2 (au 0)) (aC (iq (aq (aA pj (ae 1) (bK cM (ae 0)))) (aM 2 (mix (ae 0) (ae 1))) bJ) (bV (aP (dJ (bK fO (aA Fv (bK Cg (ae 2)) (aA mS (au 10) (au 18)))) (ae 2) (aA bG (au 17) (ae 1))))))
def ba:Ms:=dm 1 ky
def kc:Ms:=aC (iq (aq (aA dR (mix (ae 0) (au 0)) (au 1))) (aC (aM 2 (aA mU (mix (ae 0) (au 1)) (ae 1))) (aC (fI 0 (au 1) (aA kB (mix (ae 0) (au 1)) (ae 1))) (bV (ae 2)))) bJ) (aC (aM 3 (aA aQ (mix (ae 0) (au 2)) (au 1))) (aC (fI 0 (au 2) (ae 3)) (aC (aM 4 (aA mU (aA bG (aA aQ (aA aQ (mix (ae 0) (au 1)) (aA bG (aA bG (au 7919) (ae 3)) (ae 3))) (ae 3)) (au 48271)) (au 2305843009213693951))) (bV (aA mU (aA kB (aA mU (aA aQ (aA bG (ae 4) (au 1442695040888963407)) (au 4321)) (au 2305843009213693921)) (au 64)) (ae 1))))))
def aB:Ms:=dm 3 kc
def kn:Ms:=aC (aM 4 (bz aB (bN (ae 0) (au 4)))) (aC (aM 5 (bz aB (bN (ae 0) (fB (aA aQ (bK cM (ae 2)) (au 1)))))) (aC (iq (aq (aA dR (ae 4) (au 0))) (bV (cL (dJ (ae 1) (ae 2) (aA aQ (ae 3) (aP (cJ (au 1))))))) bJ) (aC (iq (jG (aq (aA dR (ae 4) (au 1))) (aq (aA fS (ae 3) (aP dy)))) (bV (cL (dJ (ae 1) (ae 2) (cO (ae 3) (bx (au 1)) aK)))) bJ) (aC (iq (aq (aA dR (ae 4) (au 2))) (bV (cL (dJ (ae 1) (aA aQ (aA aQ (cO (ae 2) aK (bx (ae 5))) (aP (cJ (aA aQ (ae 1) (aP (cJ (au 1))))))) (cO (ae 2) (bx (ae 5)) aK)) (aA aQ (ae 3) (aP (cJ (au 1))))))) bJ) (aC (iq (aq (aA dR (ae 1) (aP dy))) (bV (cL (dJ (ae 1) (aA aQ (aA aQ (cO (ae 2) aK (bx (ae 5))) (aP (cJ (aP (cJ (au 0)))))) (cO (ae 2) (bx (ae 5)) aK)) (aA aQ (ae 3) (aP (cJ (au 0))))))) bJ) (bV (cL (dJ (ae 1) (aA aQ (aA aQ (cO (ae 2) aK (bx (ae 5))) (aP (cJ (cO (ae 1) (bx (au 1)) aK)))) (cO (ae 2) (bx (ae 5)) aK)) (aA aQ (ae 3) (aP (cJ (au 1))))))))))))
def fc:Ms:=dm 2 kn
noncomputable abbrev AT:=aT (ay ["Board"] "long") (ae 0)
noncomputable abbrev A1:=aT (ay ["Board"] "many") (ae 0)
noncomputable abbrev A':=a9 (aW ["Board"] 0 "long") AT
def ju:Ms:=aC (dS ["Board"] 0 "long" (bK cM (ae 1))) (aC (dS ["Board"] 0 "many" (bK cM (ae 2))) (aC (dS ["Board"] 0 "scale" (au 1)) (aC (kb ["Board"] 0 "across" (fh A')) (aC (kb ["Board"] 0 "down" (lQ A' (aA aQ A' (a9 (aW ["Board"] 0 "many") A1)))) (aC (kb ["Board"] 0 "grid" (aI 2 (lJ (ae 2) (ae 3)) (iH 2 (ck (aL 4) (ck (aL 5) gM))) aG (aA aQ (bK eD (ae 4)) (aP (cJ (ae 5)))))) (dU (nX ["Board"] 0 "grid" (aA aQ (aI 1 (cX (ae 1)) (aL 4) aG (aT bY (ae 4))) (aP (cJ (au 0)))))))))))
def dA:Ms:=dm 0 ju
noncomputable abbrev AC:=aT (ay ["Board"] "grid") (ae 0)
noncomputable abbrev At:=aT (ay ["Board"] "scale") (ae 0)
def gk:Ms:=bV (aA aQ (aA bG At At) (bK mV (aI 1 (cX (cO AC aK (bx (aT bY (au 1))))) (aL 2) aG (aA bG (mix (ae 2) (ae 1)) (mix (ae 2) (ae 1))))))
def eQ:Ms:=dm 0 gk
def fk:Ms:=aC (aM 2 (mC .non)) (aC (aM 3 (cL (bN (au 0) (au 1)))) (aC (iA (zS (ae 1)) (iH 2 (ck (aL 4) (ck (aL 5) gM))) (iq (aq (aA rQ (ae 5) (au 0))) (aC (aM 6 (cL (bN (aA bG (ae 5) (ae 5)) (bz eQ (bN (bX "Board" "stride" (ai 0)) (ai 4)))))) (iq (aq (aA rQ (aA bG (mix (ae 6) (au 0)) (mix (ae 3) (au 1))) (aA bG (mix (ae 3) (au 0)) (mix (ae 6) (au 1))))) (aC (aM 2 (ae 4)) (aM 3 (ae 6))) bJ)) bJ)) (bV (ae 2))))
def cg:Ms:=dm 5 fk
def f6:Ms:=aC (iq (aq (aA (pK false) (ae 2) (aT (ay ["Board"] "across") (ae 0)))) (bV (mix (mix AC (ae 1)) (uz (aT (ay ["Board"] "across") (ae 0)) (ae 2)))) bJ) (bV (K7 (aq (aA dR (mix (aT (ay ["Board"] "down") (ae 0)) (ae 1)) (ae 2))) At (au 0)))
def bI:Ms:=dm 0 f6
def gF:Ms:=aC (aM 4 (aA bG (mix (mix AC (ae 1)) (aT bY (au 1))) (mix (mix AC (ae 2)) (ae 3)))) (aC (aM 5 (aA bG (mix (mix AC (ae 2)) (aT bY (au 1))) (mix (mix AC (ae 1)) (ae 3)))) (aC (iq (aq (aA fS (ae 4) (ae 5))) (bV (aA pj (ae 4) (ae 5))) bJ) (aC (iA (qO AT (aA aQ AT A1)) (aL 6) (aC (aM 4 (aA bG (bz bI (dJ (bX "Board" "top_of" (ai 0)) (ai 1) (ai 6))) (mix (mix AC (ae 2)) (ae 3)))) (aC (aM 5 (aA bG (bz bI (dJ (bX "Board" "top_of" (ai 0)) (ai 2) (ai 6))) (mix (mix AC (ae 1)) (ae 3)))) (iq (aq (aA fS (ae 4) (ae 5))) (bV (aA pj (ae 4) (ae 5))) bJ)))) (bV (mC (.bl false))))))
def eO:Ms:=dm 3 gF
def iF:Ms:=aC (aM 2 (mC .non)) (aC (iA (bq A1) (aL 3) (iq (jG (aq (aA rQ (mix (mix AC (ae 3)) (ae 1)) (au 0))) (xl (aq (aA (rZ false) (ae 2) (mC .non))) (aq (bz eO (BA (ai 0) (ai 3) (ai 2) (ai 1)))))) (aM 2 (ae 3)) bJ)) (bV (ae 2)))
def cE:Ms:=dm 2 iF
def jK:Ms:=aC (aM 4 (mix (ae 1) (ae 2))) (aC (aM 5 (mix (ae 0) (ae 2))) (aC (iq (aq (aA dR (ae 5) (au 0))) (bV (aI 1 (cX (ae 0)) (aL 7) aG (aA kB (aA bG (ae 4) (ae 7)) (ae 3)))) bJ) (aC (aM 6 (aI 2 (lJ (ae 0) (ae 1)) (iH 2 (ck (aL 7) (ck (aL 8) gM))) aG (aA kB (aA iR (aA bG (ae 4) (ae 7)) (aA bG (ae 5) (ae 8))) (ae 3)))) (aC (fI 6 (ae 2) (aT bY (ae 5))) (bV (ae 6))))))
def eG:Ms:=dm 3 jK
def gj:Ms:=bV (aI 1 (cX (ae 0)) (aL 1) aG (aT bY (ae 1)))
def bH:Ms:=dm 0 gj
noncomputable abbrev A_:=a9 (aW ["Board"] 0 "grid") AC
noncomputable abbrev BD:=a9 (aW ["Board"] 0 "scale") At
def jb:Ms:=aC (aM 3 (mix A_ (ae 1))) (aC (aM 4 (aI 1 (cX A_) (aL 6) aG (bz eG (BA (ai 6) (ai 3) (ai 2) BD)))) (aC (u0 ["Board"] 4 1 2 0 "scale" (bK eD (ae 3))) (aC (dS ["Board"] 0 "scale" (mix (ae 3) (ae 2))) (aC (dS ["Board"] 0 "grid" (ae 4)) (aC (iq (aq (aA pj BD (au 0))) (aC (dS ["Board"] 0 "scale" (aT bY BD)) (dS ["Board"] 0 "grid" (aI 1 (cX (ae 4)) (aL 6) aG (bz bH (cJ (ai 6)))))) bJ) (aC (aM 5 (oX ["Board"] 0 "across" (Bt 2))) (aC (eY ["Board"] 0 "across" 2 (oX ["Board"] 0 "down" (Bt 1))) (eY ["Board"] 0 "down" 1 (ae 5)))))))))
def bS:Ms:=dm 3 jb
def fq:Ms:=aC (mj GD (aq (aA fS (ae 1) (au 0))) (aC (aM 2 (aA mU (ae 0) (ae 1))) (aC (aM 0 (ae 1)) (aM 1 (ae 2))))) (bV (ae 0))
def fz:Ms:=dm 1 fq
def gR:Ms:=aC (aM 2 (bz fz (bN (ai 0) (ai 1)))) (bV (cL (bN (aA kB (ae 0) (ae 2)) (aA kB (ae 1) (ae 2)))))
def cj:Ms:=dm 1 gR
def ed:Ms:=aC (aM 2 (aI 1 (bq AT) (aL 5) aG (mC (.tup [.int 0,.int 1])))) (aC (iA (lJ (aT (ay ["Board"] "down") (ae 0)) (ae 1)) (iH 2 (ck (aL 3) (ck (aL 4) gM))) (iq (aq (aA pj (ae 3) AT)) (fI 2 (ae 3) (bz cj (bN (ai 4) At))) bJ)) (bV (bK lF (ae 2))))
def bZ:Ms:=dm 3 ed
def iD:Ms:=bV (bz bZ (bN (bX "Board" "spread_down" (ae 0)) (fB (aI 1 (cX AC) (aL 1) aG (mix (ae 1) (aT bY (au 1)))))))
def a5:Ms:=dm 0 iD
def gx:Ms:=aC (aM 2 (aI 1 (bq A1) (aL 5) aG (mC (.tup [.int 0,.int 1])))) (aC (iA (lJ (aT (ay ["Board"] "across") (ae 0)) (ae 1)) (iH 2 (ck (aL 3) (ck (aL 4) gM))) (iq (aq (aA Fv (ae 3) AT)) (fI 2 (aA iR (ae 3) AT) (bz cj (bN (ai 4) At))) bJ)) (bV (bK lF (ae 2))))
def a7:Ms:=dm 3 gx
def ku:Ms:=aC (aM 2 (bK eD (bz bZ (bN (bX "Board" "spread_down" (ae 0)) (fB (aI 1 (cX AC) (aL 3) aG (aT bY (mix (ae 3) (ae 1))))))))) (aC (iq (aq (aA pj (mix (aT (ay ["Board"] "across") (ae 0)) (ae 1)) AT)) (fI 2 (mix (aT (ay ["Board"] "across") (ae 0)) (ae 1)) (mC (.tup [.int 1,.int 1]))) bJ) (bV (bK lF (ae 2))))
def cQ:Ms:=dm 1 ku
def nA:Ms:=mj GD (aq (mC (.bl true))) (aC (aM 1 (bj (cS 0 cg) [] (bN (ae 0) (bz bH (cJ (fB (cO (mix A_ (aT bY (au 1))) aK (bx (aT bY (au 1)))))))))) (aC (iq (aq (aA (rZ false) (ae 1) (mC .non))) (aC (aM 2 (bz cj (bN (mix (mix A_ (aT bY (au 1))) (aT bY (au 1))) BD))) (bV (cL (BA (mC (.str "best")) (ae 2) (a9 (bz a5 (cJ (bD "Board" "point" 0))) (a9 (bj (cS 0 a5) [] (cJ (bD "Board" "point" 0))) (bz a5 (cJ (bX "Board" "point" (ae 0)))))) (a9 (bz a7 (bN (bD "Board" "prices" 0) (mix A_ (aT bY (au 1))))) (a9 (bj (cS 0 a7) [] (bN (bD "Board" "prices" 0) (mix A_ (aT bY (au 1))))) (bz a7 (bN (bX "Board" "prices" (ae 0)) (mix A_ (aT bY (au 1))))))))))) bJ) (aC (aM 3 (bj (cS 0 cE) [] (bN (ae 0) (ai 1)))) (aC (iq (aq (aA (rZ false) (ae 3) (mC .non))) (bV (cL (dJ (mC (.str "open")) (a9 (bz a5 (cJ (bD "Board" "point" 0))) (a9 (bj (cS 0 a5) [] (cJ (bD "Board" "point" 0))) (bz a5 (cJ (bX "Board" "point" (ae 0)))))) (a9 (bz cQ (bN (bD "Board" "way" 0) (ai 1))) (a9 (bj (cS 0 cQ) [] (bN (bD "Board" "way" 0) (ai 1))) (bz cQ (bN (bX "Board" "way" (ae 0)) (ai 1)))))))) bJ) (dU (a9 (bz bS (dJ (bD "Board" "turn" 0) (ai 3) (ai 1))) (a9 (bj (cS 0 bS) [] (dJ (bD "Board" "turn" 0) (ai 3) (ai 1))) (bz bS (dJ (bX "Board" "turn" (ae 0)) (ai 3) (ai 1))))))))))
def ie:Ms:=dm 3 nA
def gL:Ms:=xX
def lZ:Ms:=dm 2 gL
def qD:Ms:=aC (aM 3 (ot "Board" dA [] (dJ (ai 0) (ai 1) (ai 2)))) (aC (iq (aq (bK (ke λbs=>V0 bs id) (aI 1 (cX (ae 2)) (aL 5) aG (aA pj (ae 5) (au 0))))) (aC (aM 4 (bz lZ (cJ (ae 3)))) (iq (aq (aA (rZ true) (ae 4) (mC .non))) (bV (cL (bN (mC (.str "none")) (ae 4)))) bJ)) bJ) (bV (bz ie (cJ (ae 3)))))
def qk:Ms:=dm 2 qD
def ou:Ms:=aC (iq (xl (aq (aA rQ (bK cM (ae 0)) (au 48))) (aq (aA rQ (bK cM (ae 1)) (au 48)))) (jR "NoProgram" (cJ (mC (.str "a goal has at most forty-eight numbers, and there are at most forty-eight rows")))) bJ) (aC (iq (aq (aA fS (bK cM (ae 2)) (bK cM (ae 1)))) (jR "NoProgram" (cJ (mC (.str "there is one limit for each row")))) bJ) (aC (iq (aq (bK (ke λbs=>V0 bs id) (aI 1 (cX (ae 1)) (aL 3) aG (aA fS (bK cM (ae 3)) (bK cM (ae 0)))))) (jR "NoProgram" (cJ (mC (.str "the rows are as long as the goal")))) bJ) (bV (bz qk (dJ (ai 0) (ai 1) (ai 2))))))
def aN:Ms:=dm 0 ou
def gE:Ms:=aC (aM 3 (aP dy)) (aC (wX 4 (HY ["NoProgram"]) (dU (bz aN (gG (dJ (ai 0) (ai 1) (ai 2))))) (aC (aM 3 (aP (bN (bK (eA (zF [("NoProgram",true)])) (ae 4)) (bK (eA (zF [("NoProgram",true)])) (ae 4))))) (aC (dU (tH 3 (iu 3 (bK (eA (gS [[("NoProgram",false)],[("NoProgram",false)],[("NoProgram",false)],[("NoProgram",false)],[("NoProgram",false)],[("NoProgram",false)],[("NoProgram",false)]])) (ae 4))))) (dU (tH 3 (iu 3 (bK (eA (gS [[("NoProgram",false)],[("NoProgram",false)],[("NoProgram",false)],[("NoProgram",false)],[("NoProgram",false)],[("NoProgram",false)]])) (ae 4)))))))) (bV (aA dR (ae 3) (aP (BA (mC (.bl true)) (mC (.bl true)) (mC (.bl false)) (mC (.bl false)))))))
def a8:Ms:=dm 2 gE
def ES:Ms:=aC (iA (qv (au 0) (aA aQ (Fi vZ (bK cM (ae 0)) (au 60)) (au 1)) (au 6)) (aL 1) (aC (aM 2 (bz ba (bN (ai 0) (ai 1)))) (aC (aM 3 (aI 1 (bq (bz aB (bN (ae 2) (au 6)))) (aL 9) aG (bz aB (bN (ae 2) (au 2))))) (aC (aM 4 (aI 1 (bq (bz aB (bN (ae 2) (au 6)))) (aL 9) aG (aI 1 (cX (ae 3)) (aL 10) aG (bz aB (bN (ae 2) (au 2)))))) (aC (aM 5 (aI 1 (cX (ae 4)) (aL 9) aG (bz aB (bN (ae 2) (au 2))))) (iA (bq (au 2)) (aL 6) (aC (uQ (aq (aA (pK true) (mix (bz aN (dJ (ai 3) (ai 4) (ai 5))) (au 0)) (aP (bN (mC (.str "best")) (mC (.str "open"))))))) (aC (aM 7 (bz fc (BA (ae 2) (ai 3) (ai 4) (ai 5)))) (aC (aM 8 (cL (dJ (bK eD (mix (ae 7) (au 0))) (aI 1 (cX (mix (ae 7) (au 1))) (aL 9) aG (bK eD (ae 9))) (bK eD (mix (ae 7) (au 2)))))) (uQ (xl (mx (aq (bz a8 (dJ (mix (ae 7) (au 0)) (mix (ae 7) (au 1)) (mix (ae 7) (au 2)))))) (aq (aA fS (ae 7) (ae 8)))))))))))))) (aC (uQ (xl (mx (aq (bz a8 (dJ (aA cY (aP (cJ (au 0))) (au 49)) (fB (aP dy)) (fB (aP dy)))))) (mx (aq (bz a8 (dJ (fB (aP dy)) (fB (aI 1 (bq (au 49)) (aL 9) aG (aP dy))) (aA cY (aP (cJ (au 0))) (au 49)))))))) (aC (aM 4 (aI 1 (bq (au 12)) (aL 9) aG (aI 1 (bq (au 12)) (aL 10) aG (aA iR (bK fO (aA dR (ae 10) (ae 9))) (bK fO (aA dR (ae 10) (aA iR (ae 9) (au 1)))))))) (aC (aM 5 (aI 1 (bq (au 12)) (aL 9) aG (aA aQ (aA aQ (aA mS (au 10) (au 28)) (ae 9)) (d6 aB [] (bN (bz ba (bN (ai 0) (au 1))) (au 9)))))) (aC (uQ (aq (aA fS (cO (bz aN (dJ (fB (aA aQ (aA cY (aP (cJ (au 0))) (au 11)) (aP (cJ (au 1))))) (ai 4) (ai 5))) aK (bx (au 2))) (cL (bN (mC (.str "best")) (cL (bN (bK mV (ae 5)) (au 1)))))))) (aC (aM 4 (aI 1 (bq (au 48)) (aL 9) aG (aI 1 (bq (au 48)) (aL 10) aG (bK fO (aA dR (ae 10) (ae 9)))))) (aC (uQ (jG (aq (aA dR (d6 aB [] (bN (bz ba (bN (ai 0) (au 2))) (au 8))) (au 3))) (aq (aA fS (cO (bz aN (dJ (aA cY (aP (cJ (au 1))) (au 48)) (ai 4) (fB (fh (au 48))))) aK (bx (au 2))) (cL (bN (mC (.str "best")) (cL (bN (au 1128) (au 1))))))))) (bV (kh (aA dR (mix (bz aN (dJ (aA cY (aP (cJ (au 1))) (au 48)) (fB (cO (ae 4) aK (bx (au 3)))) (aA cY (aP (cJ (au 1))) (au 3)))) (au 0)) (mC (.str "open"))) (aA dR (mix (bz aN (dJ (aA cY (aP (cJ (au 0))) (au 48)) (ai 4) (aA cY (aP (cJ (au 1))) (au 48)))) (au 1)) (cL (bN (au 0) (au 1))))))))))))
def Nw:Ms:=dm 8 ES
def IF:Tb:={ fns:=[],cst:=[("ZERO",(.tup [(.int 0),(.int 1)])),("ONE",(.tup [(.int 1),(.int 1)])),("MOST_LONG",(.int 48)),("HELPER",(.int (-1)))],exs:=["NoProgram"],kit:=[("NoProgram",[("NoProgram",true)]),("ValueError",[("NoProgram",true)]),("NoBins",[("NoProgram",false)]),("NoDealing",[("NoProgram",false)]),("NoFace",[("NoProgram",false)]),("NoFit",[("NoProgram",false)]),("NoJoint",[("NoProgram",false)]),("NoMaking",[("NoProgram",false)]),("NoNumber",[("NoProgram",false)]),("NoPart",[("NoProgram",false)]),("NoRow",[("NoProgram",false)]),("NoSheet",[("NoProgram",false)]),("NoSize",[("NoProgram",false)]),("NoSum",[("NoProgram",false)]),("TooMany",[("NoProgram",false)])],exm:=[("FitError",["NoProgram"])],fld:=[("Board",["long", "many", "scale", "across", "down", "grid"])],hU:=[],mts:=[] }
def B3:List DI:=[
 ⟨none, "_law_well",top 36,["_law_script", "_law_k", "_law_cell"],2,[],[false,false],[],[],ky,[],false,false,none⟩,
 ⟨none, "_law_take",top 37,["_law_well_here", "_law_many", "_law_digit", "_law_turn", "_law_number"],2,[],[true,false],[],[],kc,[],false,false,none⟩,
 ⟨none, "_law_bent",top 39,["_law_well_here", "_law_goal", "_law_rows", "_law_limits", "_law_way", "_law_at"],4,[],[true,false,false,false],[],[],kn,[],false,false,none⟩,
 ⟨some "Board", "__init__",topC 26 0,["self", "goal", "rows", "limits"],4,[],[true,false,false,false],[],["*nob", "across", "down", "grid"],ju,[],false,false,none⟩,
 ⟨some "Board", "stride",topC 26 3,["self", "column"],2,[],[false,false],[],[],gk,[],false,false,none⟩,
 ⟨none, "gaining_column",top 29,["board", "gains", "found", "steepest", "k", "gain", "slope"],2,[],[false,false],[],[],fk,[],false,false,none⟩,
 ⟨some "Board", "top_of",topC 26 2,["self", "at", "name"],3,[],[false,false,false],[],[],f6,[],false,false,none⟩,
 ⟨none, "binds_before",top 31,["board", "one", "other", "column", "sooner", "later", "name"],4,[],[false,false,false,false],[],[],gF,[],false,false,none⟩,
 ⟨none, "binding_row",top 30,["board", "column", "found", "k"],2,[],[false,false],[],[],iF,[],false,false,none⟩,
 ⟨none, "turned_row",top 28,["row", "pivot_row", "column", "scale", "pivot", "factor", "turned"],4,[],[false,false,false,false],[],[],jK,[],false,false,none⟩,
 ⟨none, "negative_row",top 27,["row"],1,[],[false],[],[],gj,[],false,false,none⟩,
 ⟨some "Board", "turn",topC 26 1,["self", "at", "column", "pivot_row", "turned", "name"],3,[],[true,false,false],[],["*nob", "across", "down"],jb,[],false,false,none⟩,
 ⟨none, "common_divisor",top 19,["a", "b", "rest"],2,[],[false,false],[],[],fq,[],false,false,none⟩,
 ⟨none, "lowest_terms",top 20,["top", "bottom", "divisor"],2,[],[false,false],[],[],gR,[],false,false,none⟩,
 ⟨some "Board", "spread_down",topC 26 8,["self", "tops", "told", "name", "top"],2,[],[false,false],[],[],ed,[],false,false,none⟩,
 ⟨some "Board", "point",topC 26 6,["self"],1,[],[false],[],[],iD,[],false,false,none⟩,
 ⟨some "Board", "prices",topC 26 9,["self", "tops", "told", "name", "top"],2,[],[false,false],[],[],gx,[],false,false,none⟩,
 ⟨some "Board", "way",topC 26 7,["self", "column", "told"],2,[],[false,false],[],[],ku,[],false,false,none⟩,
 ⟨none, "climbed",top 34,["board", "column", "value", "at"],1,[],[true],[],["*nob", "board"],nA,[],false,false,none⟩,
 ⟨none, "find_point",top 33,["board", "row", "column"],1,[],[true],[],["*nob", "across", "down", "board"],gL,[],false,true,none⟩,
 ⟨none, "solved",top 25,["goal", "rows", "limits", "board", "prices"],3,[],[false,false,false],[],["*nob", "board"],qD,[],false,false,none⟩,
 ⟨none, "best_of",top 24,["goal", "rows", "limits"],3,[],[false,false,false],[],[],ou,[],false,false,none⟩,
 ⟨none, "_law_refused",top 38,["_law_goal", "_law_rows", "_law_limits", "_law_told", "e"],3,[],[false,false,false],[],[],gE,[],false,false,none⟩]
def mQ:DI:=⟨none, "law",top 40,["_law_script", "_law_k", "_law_well_here", "_law_goal", "_law_rows", "_law_limits", "_law_turn", "_law_bent_here", "_law_handed"],1,[],[false],[],[],ES,[],false,false,none⟩
theorem IG:uV IF B3=B3.map (λd=>some d.m):=by kernel_rfl
theorem GS:tD (uO IF B3) mQ=some mQ.m:=by kernel_rfl
theorem Iu:(B3++[mQ]).all (λd=>gp d&&t9 d)=true:=by decide +kernel
end W
section
open PySem PySem.W PyProof.Rows L2
set_option maxRecDepth 100000 in
theorem W.hl:LeftO PySem.Challenge.rw_fitwhatever_k36_no_program.row.prog (W.ME PySem.Challenge.pw_fitwhatever_k36_no_program) (W.vy PySem.Challenge.pw_fitwhatever_k36_no_program) (λs=>xlAt (W.ME PySem.Challenge.pw_fitwhatever_k36_no_program) [] s&&recOk PySem.Challenge.rw_fitwhatever_k36_no_program.row.records s) (Hook.obs (M.hk (W.B3++[W.mQ]) (M.Ek W.IF))) (Hook.val (M.hk (W.B3++[W.mQ]) (M.Ek W.IF))) 20000:=W.Ae λw=>by kernel_rfl
set_option maxRecDepth 100000 in
set_option maxHeartbeats 0 in
theorem W.fin(LT:∀ns:List Int,ns.length<=63->∃Z,W.mQ.M [.fr (.lst (ns.map M.A.int))]=some (.rt (.fr (.bl true)),Z)):PySem.Challenge.rw_fitwhatever_k36_no_program.Holds:=by
 w_on
 refine holds_law Z2 λh=>?_
 refine holds_open (q:=W.ME PySem.Challenge.pw_fitwhatever_k36_no_program) (loose:=W.vy PySem.Challenge.pw_fitwhatever_k36_no_program) (Xt:=λs=>xlAt (W.ME PySem.Challenge.pw_fitwhatever_k36_no_program) [] s&&recOk (RowW.records _) s) (XP:=XL (W.ME PySem.Challenge.pw_fitwhatever_k36_no_program) []) (Yf:=Hook.obs (M.hk (W.B3++[W.mQ]) (M.Ek W.IF))) (Ya:=Hook.val (M.hk (W.B3++[W.mQ]) (M.Ek W.IF))) (YP:=Hook.says (M.hk (W.B3++[W.mQ]) (M.Ek W.IF))) (N:=20000) W.hl (Hook.of _) (Hook.keeps _) (λs e=>xl_of s (V1.mp e).1) XL.keeps (by rfl) (by rfl) (by rfl) (λs e=>recFacts_of (V1.mp e).2) (by rfl) h Z2 ⟨rfl,rfl,rfl,rfl,rfl,by decide +kernel⟩ ?hw ?hc
 case hw=>w_witness2
 case hc=>exact M.Al rfl rfl rfl W.Iu W.IG W.GS rfl rfl rfl rfl ⟨rfl,by decide,by decide⟩ LT
end
set_option maxHeartbeats 1000000
set_option exponentiation.threshold 100000
namespace Sx
noncomputable def su(n:Nat)(f:Nat->Int):Int:=match n with
 |0=>0
 |n+1=>su n f+f n
variable{f:Nat->Int}
theorem aS{n:Nat}{g:Nat->Int}(h:∀i,i<n->f i=g i):su n f=su n g:=by
 induction n with
 |zero=>rfl
 |succ n l=>simp only[su,su,l λi hi=>h i (by exact Rw ‹_›),h n (by exact RM _)]
theorem jW{n:Nat}{g:Nat->Int}{x y:Int}:su n (λi=>x*f i+y*g i)=x*su n f+y*su n g:=by
 induction n with
 |zero=>simp[su]
 |succ n l=>simp only[su,l];grind
theorem fg{n:Nat}(h:∀i,i<n->f i=0):su n f=0:=by
 induction n with
 |zero=>rfl
 |succ n l=>simp only[su,l λi hi=>h i Q1,h n Q1];rfl
theorem jM{n a:Nat}(ha:a<n)(h:∀i,i<n->i≠a->f i=0):su n f=f a:=by
 induction n with
 |zero=>exact absurd ‹_› (Sn _)
 |succ n l=>
  by_cases e:a=n
  .subst e;rw[su,fg λi hi=>h i (by exact Rw ‹_›) (by exact RH ‹_›)];simp
  .simp only[su,l Q1 λi hi=>h i (by exact Rw ‹_›),h n (by exact RM _) Q1];simp
theorem Oh{n a:Nat}(ha:a+1<n)(h:∀i,i<n->i≠a->i≠a+1->f i=0)(e:f a+f (a+1)=0):su n f=0:=by
 induction n with
 |zero=>exact absurd ‹_› (Sn _)
 |succ n l=>
  by_cases c:a+1=n
  .subst c;rw[su,jM (by exact T9 ‹_›) λi hi hn=>h i (by exact Rw ‹_›) hn (by exact RH ‹_›)];exact e
  .simp only[su,l Q1 λi hi=>h i (by exact Rw ‹_›),h n (by exact RM _) Q1 Q1];rfl
noncomputable abbrev Ve:=Nat->Int
noncomputable def sk(i:Nat)(v:Nat->Ve):Nat->Ve:=λj=>if j<i then v j else v (j+1)
noncomputable def up(a:Nat)(u:Ve)(v:Nat->Ve):Nat->Ve:=λj=>if j=a then u else v j
noncomputable def sg(i:Nat):Int:=if i%2=0 then 1 else -1
def D:Nat->(Nat->Ve)->Int
 |0,_=>1
 |k+1,v=>su (k+1) λi=>sg i*v i k*D k (sk i v)
theorem D.eq(k:Nat)(v:Nat->Ve):D (k+1) v=su (k+1) λi=>sg i*v i k*D k (sk i v):=rfl
theorem D.congr:∀{k:Nat}{v w:Nat->Ve},(∀i j,i<k->j<k->v i j=w i j)->D k v=D k w
 |0,_,_,_=>rfl
 |k+1,v,w,h=>aS λi hi=>by
  rw[h i k hi (by exact RM _),D.congr (w:=sk i w) λa b ha d=>by
   unfold sk;split
   .exact h a b (by exact Rw ‹_›) Q1
   .exact h _ b (by exact RS ‹_›) Q1]
variable{i:Nat}
theorem MT{a:Nat}(h:i≠a)(u:Ve)(v:Nat->Ve):sk i (up a u v)=up (if a<i then a else a-1) u (sk i v):=by funext j;delta sk up;grind
theorem HM(a:Nat)(u:Ve)(v:Nat->Ve):sk a (up a u v)=sk a v:=by funext j;delta sk up;grind
theorem D.Ez:∀{k a:Nat}{v:Nat->Ve}{u w:Ve}{x y:Int},a<k->D k (up a (λj=>x*u j+y*w j) v)=x*D k (up a u v)+y*D k (up a w v)
 |0,_,_,_,_,_,_,h=>absurd h Q1
 |k+1,a,v,u,w,x,y,h=>by
  rw[D.eq,D.eq,D.eq,<-jW];refine aS λi hi=>?_;by_cases e:i=a
  .subst e;simp only[HM];simp only[up,Zv];grind
  .simp only[MT e];rw[D.Ez (k:=k) (a:=if a<i then a else a-1) (by split<;>lia)];simp only[up,Zw e];grind
theorem OD(i:Nat):sg (i+1) =-sg i:=by unfold sg;split<;>split<;>lia
theorem D.KA:∀{k a:Nat}{v:Nat->Ve},a+1<k->v a=v (a+1)->D k v=0
 |0,_,_,h,_=>absurd h (by exact absurd ‹_› (Sn _))
 |k+1,a,v,h,e=>by
  refine Oh h (λi hi h1 h2=>?_) ?_
  .rw[D.KA (a:=if a<i then a else a-1) (by split<;>lia) (by
    unfold sk;split
    .rw[Zv Q1];exact e
    .rw[Zw Q1,Zw Q1];rw[show a-1+1=a by lia];exact e)]
   exact RQ _
  .have:sk a v=sk (a+1) v:=by
    funext j;unfold sk
    by_cases c:j=a
    .subst c;rw[Zw Z3,Zv Q1,e]
    .by_cases J:j<a
     .rw[Zv J,Zv Q1]
     .rw[Zw J,Zw Q1]
   rw[this,e,OD];grind
theorem Ay{a b:Nat}(h:a≠b)(u w:Ve)(v:Nat->Ve):up a u (up b w v)=up b w (up a u v):=by funext j;unfold up;grind
theorem qg(a:Nat)(v:Nat->Ve):up a (v a) v=v:=by funext j;unfold up;split<;>simp_all
variable{w:Ve}
theorem D.add{k a:Nat}{v:Nat->Ve}{u:Ve}(h:a<k):D k (up a (λj=>u j+w j) v)=D k (up a u v)+D k (up a w v):=by have:=D.Ez (v:=v) (u:=u) (w:=w) (x:=1) (y:=1) h;simpa using this
theorem D.swap{k a:Nat}{v:Nat->Ve}(h:a+1<k):D k (up a (v (a+1)) (up (a+1) (v a) v)) =-D k v:=by
 have z:=D.KA (v:=up a (λj=>v a j+v (a+1) j) (up (a+1) (λj=>v a j+v (a+1) j) v)) h (by simp[up]);rw[D.add (by exact Ru ‹_›),Ay Q1,D.add h,Ay (b:=a+1) Q1 (v (a+1)),D.add h] at z;rw[D.KA h (by simp[up])] at z;rw[D.KA (v:=up (a+1) (v (a+1)) (up a (v (a+1)) v)) h (by simp[up])] at z;rw[qg,qg,<-Ay Q1] at z
 lia
theorem D.two:∀{d k a:Nat}{v:Nat->Ve},a+d+1<k->v a=v (a+d+1)->D k v=0
 |0,k,a,v,h,e=>D.KA h e
 |d+1,k,a,v,h,e=>by
  have s:=D.swap (k:=k) (a:=a+d+1) (v:=v) h;have z:=D.two (d:=d) (k:=k) (a:=a) (v:=up (a+d+1) (v (a+d+1+1)) (up (a+d+1+1) (v (a+d+1)) v)) Q1 (by simp only[up];rw[Zw Q1,Zw Q1];simp only[if_true];exact e)
  lia
theorem D.alike{k a b:Nat}{v:Nat->Ve}(ha:a<k)(f:b<k)(h:a≠b)(e:v a=v b):D k v=0:=by
 by_cases c:a<b
 .exact D.two (d:=b-a-1) (a:=a) Q1 (by rw[show a+(b-a-1)+1=b by lia];exact e)
 .exact D.two (d:=a-b-1) (a:=b) Q1 (by rw[show b+(a-b-1)+1=a by lia];exact e.symm)
variable{c:Nat->Int}
theorem D.sum{k a m:Nat}{v:Nat->Ve}{u:Nat->Ve}(h:a<k):D k (up a (λj=>su m λl=>c l*u l j) v)=su m λl=>c l*D k (up a (u l) v):=by
 induction m with
 |zero=>have:=D.Ez (v:=v) (u:=λ_=>0) (w:=λ_=>0) (x:=0) (y:=0) h;simpa[su] using this
 |succ m X=>simp only[su];rw[D.add h,X];have:=D.Ez (v:=v) (u:=u m) (w:=u m) (x:=c m) (y:=0) h;simp only[SK,Sk] at this;simp only[this]
variable{s:Int}
theorem D.Ji{k a:Nat}{v:Nat->Ve}(h:a<k)(e:∀j,j<k->s*w j=su k λl=>c l*v l j):s*D k (up a w v)=c a*D k v:=by
 have e1:=D.Ez (k:=k) (a:=a) (v:=v) (u:=w) (w:=w) (x:=s) (y:=0) h;simp only[SK,Sk] at e1;rw[<-e1,D.congr (w:=up a (λj=>su k λl=>c l*v l j) v) λi j hi Z=>by
  unfold up;split
  .exact e j Z
  .rfl,D.sum h,jM h λi hi hn=>by rw[D.alike (b:=i) h hi (R7 hn) (by simp[up,hn]),RQ],qg]
noncomputable def un(i:Nat):Ve:=λj=>if j=i then 1 else 0
theorem D.un:∀{k:Nat}{v:Nat->Ve},(∀i,i<k->v i=un i)->(D k v).natAbs=1
 |0,_,_=>rfl
 |k+1,v,h=>by
  rw[D.eq,jM (a:=k) Q1 λi hi hn=>by rw[h i hi];simp[Sx.un,R7 hn]];rw[h k Q1];have z:=D.un (v:=sk k v) λi hi=>by unfold sk;rw[Zv hi];exact h i (by exact Rw ‹_›)
  simp only[Sx.un,Zv];rw[Sf,z];unfold sg;split<;>rfl
theorem lN{k col:Nat}(h:col<k):su k f=f col+su k λl=>if l=col then 0 else f l:=by
 induction k with
 |zero=>lia
 |succ k u=>
  by_cases e:col=k
  .subst e;simp only[su,if_true];rw[aS λi hi=>Zw Q1];lia
  .simp only[su,Zw (R7 e)];rw[u Q1];lia
theorem dg{k:Nat}{x:Int}:su k (λl=>x*f l)=x*su k f:=by have:=jW (n:=k) (f:=f) (g:=f) (x:=x) (y:=0);simpa using this
noncomputable def Gt(at' col:Nat)(s:Int)(G:Nat->Nat->Int):Nat->Nat->Int:=λi l=>if i=at' then (if l=col then s else G at' l) else if l=col then-G i col else (G at' col*G i l-G i col*G at' l) / s
def Id(k m:Nat)(q:Nat->Int)(s:Int)(W:Nat->Ve)(G:Nat->Nat->Int)(v:Nat->Ve):Prop:=∀i,i<=m->∀j,j<k->s*W i j=su k λl=>q l*G i l*v l j
variable{k m at' col:Nat}{q:Nat->Int}{s:Int}{W v:Nat->Ve}{G:Nat->Nat->Int}
theorem Id.mid(hk:col<k)(hc:q col = -1)(id:Id k m q s W G v)(ha:at'<=m)(i:Nat)(hi:i<=m)(j:Nat)(a:j<k):(s*G at' col)*W i j=su k λl=>(if l=col then s*G i col else q l*(G at' col*G i l-G i col*G at' l))*up col (W at') v l j:=by
 have h1:=id i hi j a;have h2:=id at' ha j a;rw[lN hk] at h1 h2 ⊢;simp only[if_true,hc,up] at h1 h2 ⊢;have e:(su k λl=>if l=col then 0 else (if l=col then s*G i col else q l*(G at' col*G i l-G i col*G at' l))*(if l=col then W at' else v l) j)=G at' col*(su k λl=>if l=col then 0 else q l*G i l*v l j)+(- G i col)*su k λl=>if l=col then 0 else q l*G at' l*v l j:=by
  rw[<-jW];refine aS λl hl=>?_;by_cases c:l=col
  .simp[c]
  .simp only[Zw c];grind
 rw[e];grind
theorem Id.det(hk:col<k)(hc:q col = -1)(hs:s≠0)(p:(D k v).natAbs=s.natAbs)(id:Id k m q s W G v)(ha:at'<=m):(D k (up col (W at') v)).natAbs=(G at' col).natAbs:=by
 have h:=D.Ji hk λj a=>id at' ha j a;simp only[hc] at h;have e:=Zz XR h;simp only[Sf,Sf,Sf,p] at e;have:0<s.natAbs:=by lia
 apply Vy this;rw[e];simp;exact TY _ _
theorem Id.dvd(hk:col<k)(O:∀l,q l=1\/q l = -1)(hc:q col = -1)(hs:s≠0)(p:(D k v).natAbs=s.natAbs)(id:Id k m q s W G v)(ha:at'<=m)(hp:G at' col≠0)(i:Nat)(hi:i<=m)(l:Nat)(hl:l<k)(hn:l≠col):s ∣ G at' col*G i l-G i col*G at' l:=by
 have d:=id.det hk hc hs p ha;have c:=D.Ji hl (id.mid hk hc ha i hi);generalize D k (up l (W i) (up col (W at') v))=x at c;generalize D k (up col (W at') v)=y at c d;generalize G at' col*G i l-G i col*G at' l=z at c ⊢;have e:y=G at' col\/y =-G at' col:=by lia
 have e2:q l*z=s*x\/q l*z=s*(-x):=by
  rcases e with e|e<;>subst e
  .exact .inl (SA hp (by grind))
  .exact .inr (SA hp (by grind))
 rcases O l with L|L<;>rw[L] at e2<;>rcases e2 with e2|e2
 .exact⟨x,by grind⟩
 .exact⟨-x,by grind⟩
 .exact⟨-x,by grind⟩
 .exact⟨x,by grind⟩
theorem Id.turn(hk:col<k)(O:∀l,q l=1\/q l = -1)(hc:q col = -1)(hs:s≠0)(p:(D k v).natAbs=s.natAbs)(id:Id k m q s W G v)(ha:at'<=m)(hp:G at' col≠0):Id k m q (G at' col) (up at' (v col) W) (Gt at' col s G) (up col (W at') v):=λi hi j a=>by
 by_cases e:i=at'
 .subst e;have h:=id i hi j a;rw[lN hk] at h ⊢;simp only[if_true,hc,up,Gt] at h ⊢
  grind
 .have h:=id.mid hk hc ha i hi j a;rw[show up at' (v col) W i=W i by simp[up,e]];apply Int.eq_of_mul_eq_mul_left hs;rw[<-dg,<-Ue,h];refine aS λl hl=>?_;simp only[Gt,Zw e];by_cases c:l=col
  .simp only[c,if_true,hc];grind
  .simp only[Zw c];have z:=UB (id.dvd hk O hc hs p ha hp i hi l hl c);rw[<-z];grind
def LP(M:Nat)(f:Nat->Int):Prop:=∃t,t<M/\0<f t/\∀u,u<t->f u=0
def LN(M:Nat)(f:Nat->Int):Prop:=¬ LP M λt=>- f t
variable{M:Nat}{f g h:Nat->Int}{x y:Int}
theorem LP.congr(e:∀t,t<M->f t=g t)(h:LP M f):LP M g:=by obtain⟨t,a,b,c⟩:=h;exact⟨t,a,by rw[<-e t a];exact b,λu B=>by rw[<-e u (by exact SJ ‹_› ‹_›)];exact c u B⟩
theorem LP.mul(hx:0<x)(h:LP M f):LP M λt=>x*f t:=by obtain⟨t,a,b,c⟩:=h;exact⟨t,a,Wa hx b,λu B=>by simp only[c u B,RQ]⟩
theorem LP.rT(hx:0<x)(h:LP M λt=>x*f t):LP M f:=by obtain⟨t,a,b,c⟩:=h;exact⟨t,a,Int.pos_of_mul_pos_right b hx,λu B=>(WR.mp (c u B)).resolve_left (by exact R5 ‹_›)⟩
theorem LN.or(h:LN M f):LP M f\/∀t,t<M->f t=0:=by
 induction M with
 |zero=>exact .inr λt j=>absurd j Q1
 |succ M l=>
  rcases l λ⟨t,a,b⟩=>h ⟨t,by exact Rw ‹_›,b⟩ with ⟨t,a,b⟩|z
  .exact .inl ⟨t,by exact Rw ‹_›,b⟩
  .rcases Int.lt_trichotomy (f M) 0 with c|c|c
   .exact absurd ⟨M,by lia,by show-f M > 0;lia,λu B=>by show-f u=0;rw[z u B];rfl⟩ h
   .exact .inr λt j=>by
     by_cases e:t=M
     .rw[e];exact c
     .exact z t Q1
   .exact .inl ⟨M,by exact RM _,c,λu B=>z u B⟩
theorem LP.add(a:LP M f)(b:LP M g):LP M λt=>f t+g t:=by
 obtain⟨t,a1,Z,q⟩:=a;obtain⟨u,n,r,I⟩:=b;rcases Wx t u with c|c|c
 .exact⟨t,a1,by show 0<f t+g t;rw[I t c];lia,λw G=>by show f w+g w=0;simp only[q w G,I w (by exact SJ ‹_› ‹_›)];rfl⟩
 .subst c;exact⟨t,a1,by show 0<f t+g t;lia,λw G=>by show f w+g w=0;simp only[q w G,I w G];rfl⟩
 .exact⟨u,n,by show 0<f u+g u;rw[q u c];lia,λw G=>by show f w+g w=0;simp only[q w (by exact SJ ‹_› ‹_›),I w G];rfl⟩
theorem LP.OL(a:LP M f)(b:LN M g):LP M λt=>f t+g t:=by
 rcases b.or with b|b
 .exact a.add b
 .exact a.congr λt j=>by rw[b t j];simp
theorem LP.ln(a:LP M f):LN M f:=λb=>by
 obtain⟨t,_,c,_⟩:=a.add b;have c:0<f t +-f t:=c
 lia
theorem LN.mul(hx:0<=x)(h:LN M f):LN M λt=>x*f t:=by
 rcases h.or with h|h
 .by_cases e:x=0
  .subst e;rintro⟨t,_,c,_⟩;simp at c
  .exact(LP.mul Q1 h).ln
 .rintro⟨t,a,c,_⟩;simp only[h t a] at c;simp at c
def LL(M:Nat)(f:Nat->Int)(s:Int)(g:Nat->Int)(s':Int):Prop:=LP M λt=>s*g t-s'*f t
theorem LL.PQ:¬ LL M f s f s:=λ⟨t,_,b,_⟩=>by have b:0<s*f t-s*f t:=b;lia
variable{s' s'':Int}
theorem LL.trans(h1:0<s)(h2:0<s')(h3:0<s'')(a:LL M f s g s')(b:LL M g s' h s''):LL M f s h s'':=
 LP.rT h2 (((LP.mul h1 b).add (LP.mul h3 a)).congr λt _=>by grind)
theorem LL.nt(h1:0<s)(h2:0<s')(h3:0<s'')(a:¬ LL M f s g s')(b:LL M h s'' g s'):¬ LL M f s h s'':=λc=>a (LL.trans h1 h3 h2 c b)
def F(N m:Nat)(ac dn:Nat->Int)(G:Nat->Nat->Int)(s:Int)(i:Nat)(u:Int):Int:=(su N λl=>if ac l=u then G i l else 0)+if i<m/\dn i=u then s else 0
noncomputable def sP(a:Nat)(u:Int)(v:Nat->Int):Nat->Int:=λj=>if j=a then u else v j
variable{N m at' col i:Nat}{ac dn:Nat->Int}{G:Nat->Nat->Int}{s u:Int}
theorem F.own(hk:col<N)(ha:at'<m):F N m (sP col (dn at') ac) (sP at' (ac col) dn) (Gt at' col s G) (G at' col) at' u=F N m ac dn G s at' u:=by
 unfold F;rw[lN hk,lN (f:=λl=>if ac l=u then G at' l else 0) hk];rw[aS (g:=λl=>if l=col then 0 else if ac l=u then G at' l else 0) λl hl=>by
  by_cases c:l=col
  .simp only[Zv c]
  .simp only[Zw c,sP,Gt,if_true]]
 simp only[sP,Gt,if_true,ha,true_and];lia
theorem F.QE(hk:col<N)(ha:at'<m)(hn:i≠at')(hd:∀l,l<N->l≠col->s ∣ G at' col*G i l-G i col*G at' l):s*F N m (sP col (dn at') ac) (sP at' (ac col) dn) (Gt at' col s G) (G at' col) i u=G at' col*F N m ac dn G s i u-G i col*F N m ac dn G s at' u:=by
 unfold F;rw[lN hk,lN (f:=λl=>if ac l=u then G at' l else 0) hk,lN (f:=λl=>if ac l=u then G i l else 0) hk];have e:s*(su N λl=>if l=col then 0 else if sP col (dn at') ac l=u then Gt at' col s G i l else 0)=G at' col*(su N λl=>if l=col then 0 else if ac l=u then G i l else 0)+(- G i col)*(su N λl=>if l=col then 0 else if ac l=u then G at' l else 0):=by
  rw[<-jW,<-dg];refine aS λl hl=>?_;by_cases c:l=col
  .simp[c]
  .simp only[Zw c,sP,Gt,Zw hn];by_cases D:ac l=u
   .simp only[Zv D];have z:=UB (hd l hl c);rw[z];grind
   .simp[Zw D]
 simp only[sP,if_true,Zw hn,ha,true_and,Gt] at e ⊢;rw[Vf,Vf,e];by_cases U:dn at'=u<;>by_cases D:ac col=u<;>by_cases v:i<m/\dn i=u<;>simp only[U,D,v,if_true,if_false]<;>grind
structure Bo where
 ac:List Int
 dn:List Int
 g:List (List Int)
 s:Int
noncomputable def Bo.Gq(b:Bo)(i l:Nat):Int:=(b.g.getD i []).getD l 0
noncomputable def Bo.Aq(b:Bo)(l:Nat):Int:=b.ac.getD l 0
noncomputable def Bo.Bq(b:Bo)(i:Nat):Int:=b.dn.getD i 0
structure Sh(N m:Nat)(b:Bo):Prop where
 ac:b.ac.length=N
 dn:b.dn.length=m
 g:b.g.length=m+1
 r:∀x∈b.g,x.length=N+1
noncomputable def j7(row pr:List Int)(c:Nat)(s:Int):List Int:=
 if row.getD c 0=0 then row.map λx=>(pr.getD c 0*x).fdiv s
 else ((row.zip pr).map λp=>(pr.getD c 0*p.1-row.getD c 0*p.2).fdiv s).set c (- row.getD c 0)
def Bo.raw(b:Bo)(a c:Nat):List (List Int):=(b.g.map λrow=>j7 row (b.g.getD a []) c b.s).set a ((b.g.getD a []).set c b.s)
noncomputable def iS(row:List Int):List Int:=row.map λx=>- x
def Bo.turn(b:Bo)(a c:Nat):Bo:=
 ⟨b.ac.set c (b.dn.getD a 0),b.dn.set a (b.ac.getD c 0),if b.Gq a c<0 then (b.raw a c).map iS else b.raw a c,if b.Gq a c<0 then-b.Gq a c else b.Gq a c⟩
variable{α:Type}
theorem getD_map{D:Type}{f:α->D}{xs:List α}{d:α}{e:D}(h:i<xs.length):(xs.map f).getD i e=f (xs.getD i d):=by simp[RL,h]
variable{j:Nat}
theorem gz{xs:List α}{v d:α}(h:i<xs.length):(xs.set i v).getD j d=if j=i then v else xs.getD j d:=by
 by_cases e:j=i
 .subst e;simp[RL,h]
 .simp[RL,e,Rx (R7 e)]
theorem getD_mem{xs:List (List Int)}(h:i<xs.length):xs.getD i []∈xs:=by simp[RL,h]
variable{N m a c i l:Nat}{b:Bo}
theorem Sh.row(h:Sh N m b)(hi:i<=m):(b.g.getD i []).length=N+1:=h.r _ (getD_mem (by rw[h.g];exact RS ‹_›))
variable{pr:List Int}
theorem DA{row:List Int}(h1:row.length=N+1)(h2:pr.length=N+1)(hc:c<N+1)(hl:l<N+1)(hs:s≠0)(hd:l≠c->s ∣ pr.getD c 0*row.getD l 0-row.getD c 0*pr.getD l 0):
  (j7 row pr c s).getD l 0=if l=c then-row.getD c 0 else (pr.getD c 0*row.getD l 0-row.getD c 0*pr.getD l 0) / s:=by
 unfold j7;by_cases e:row.getD c 0=0
 .rw[Zv e,getD_map (d:=0) Q1,e];by_cases e2:l=c
  .subst e2;rw[Zv rfl,e];simp
  .rw[Zw e2];have z:=hd e2;rw[e] at z;simp only[SK,Int.sub_zero] at z ⊢;exact VN z
 .rw[Zw e,gz (by simp;lia)];by_cases e2:l=c
  .rw[Zv e2,Zv e2]
  .rw[Zw e2,Zw e2,getD_map (d:=(0,0)) (by simp;lia)];rw[VN (by have z:=hd e2;simpa[RL,S4,h1,h2,hl,Ry] using z)]
   simp[RL,h1,h2,hl]
theorem AA{row:List Int}(h1:row.length=N+1)(h2:pr.length=N+1):(j7 row pr c s).length=N+1:=by unfold j7;split<;>simp[h1,h2]
theorem Bo.JL(h:Sh N m b)(ha:a<=m)(hc:c<N+1)(hs:b.s≠0)(hd:∀i,i<=m->∀l,l<N+1->l≠c->b.s ∣ b.Gq a c*b.Gq i l-b.Gq i c*b.Gq a l)(hi:i<=m)(hl:l<N+1):((b.raw a c).getD i []).getD l 0=Gt a c b.s b.Gq i l:=by
 unfold Bo.raw;rw[gz (by simp[h.g];exact RS ‹_›)];by_cases e:i=a
 .subst e;rw[Zv rfl,gz (by rw[h.row ha];lia)];simp only[Gt,if_true];rfl
 .rw[Zw e,getD_map (by rw[h.g];exact RS ‹_›),DA (h.row hi) (h.row ha) hc hl hs (hd i hi l hl)];simp only[Gt,Zw e];rfl
theorem Sh.raw(h:Sh N m b)(ha:a<=m)(x:List Int)(hx:x∈b.raw a c):x.length=N+1:=by
 rcases List.mem_or_eq_of_mem_set hx with z|z
 .obtain⟨r,hr,rfl⟩:=RY.mp z;exact AA (h.r r hr) (h.row ha)
 .subst z;rw[Vc];exact h.row ha
theorem Sh.turn(h:Sh N m b)(ha:a<=m):Sh N m (b.turn a c):=by
 refine⟨by simp[Bo.turn,h.ac],by simp[Bo.turn,h.dn],?_,?_⟩
 .show Xe (ite _ _ _)=_;split<;>simp[Bo.raw,h.g]
 .intro x hx;have hx:x∈(if b.Gq a c<0 then (b.raw a c).map iS else b.raw a c):=hx;split at hx
  .obtain⟨y,hy,rfl⟩:=RY.mp hx;simpa[iS] using h.raw ha y hy
  .exact h.raw ha x hx
noncomputable def sn(x:Int):Int:=if x<0 then -1 else 1
theorem Bo.l8(h:Sh N m b)(ha:a<=m)(hc:c<N+1)(hs:b.s≠0)(hd:∀i,i<=m->∀l,l<N+1->l≠c->b.s ∣ b.Gq a c*b.Gq i l-b.Gq i c*b.Gq a l)(hi:i<=m)(hl:l<N+1):(b.turn a c).Gq i l=sn (b.Gq a c)*Gt a c b.s b.Gq i l:=by
 have z:=b.JL h ha hc hs hd hi hl;have P:i<(b.raw a c).length:=by simp[Bo.raw,h.g];exact RS ‹_›
 show (RL (ite _ _ _) i []).getD l 0=_;unfold sn;by_cases e:b.Gq a c<0
 .rw[Zv e,Zv e,getD_map P];unfold iS;rw[getD_map (by rw[h.raw ha _ (getD_mem P)];exact hl),z];simp
 .rw[Zw e,Zw e,z];simp
theorem Bo.j9:(b.turn a c).s=sn (b.Gq a c)*b.Gq a c:=by show ite _ _ _=_;unfold sn;split<;>simp
theorem Bo.sD(h:Sh N m b)(hc:c<N):(b.turn a c).Aq=sP c (b.Bq a) b.Aq:=by funext l;exact gz (by rw[h.ac];exact hc)
theorem Bo.tE(h:Sh N m b)(ha:a<m):(b.turn a c).Bq=sP a (b.Aq c) b.Bq:=by funext l;exact gz (by rw[h.dn];exact ha)
structure Pb where
 n:Nat
 m:Nat
 c:Nat->Int
 R:Nat->Nat->Int
 L:Nat->Int
def Pb.Yq(P:Pb)(u:Int):Ve:=if u = -1 then un (P.n+1) else if u<P.n then un u.toNat else λj=>if j<P.n then-P.R (u-P.n).toNat j else if j=P.n then P.L (u-P.n).toNat else 1
noncomputable def Pb.zq(P:Pb):Ve:=λj=>if j<P.n then P.c j else 0
def Pb.vec(P:Pb)(N:Nat)(b:Bo):Nat->Ve:=λl=>if l<N then P.Yq (b.Aq l) else if l=N then un P.n else un (P.n+1)
def Pb.Wq(P:Pb)(b:Bo):Nat->Ve:=λi=>if i<P.m then P.Yq (b.Bq i) else P.zq
def Gx(N:Nat)(b:Bo)(T:Nat->Int):Nat->Nat->Int:=λi l=>if l<=N then b.Gq i l else T i
noncomputable def qs(N l:Nat):Int:=if l<N then -1 else 1
structure Ok(P:Pb)(N:Nat)(b:Bo):Prop where
 sh:Sh N P.m b
 nd:(b.ac++b.dn).Nodup
 nm:∀u,u∈b.ac++b.dn↔(if N=P.n then 0 else -1)<=u/\u<(P.n+P.m:Nat)
 pos:0<b.s
 hN:N=P.n\/N=P.n+1
 det:(D (P.n+2) (P.vec N b)).natAbs=b.s.natAbs
 id:∃T,Id (P.n+2) P.m (qs N) b.s (P.Wq b) (Gx N b T) (P.vec N b)
variable{P:Pb}{N a c i l:Nat}{b:Bo}
theorem Ok.hc(h:Ok P N b)(hc:c<N):c<P.n+2:=by have:=h.hN;lia
theorem Ok.dvd(h:Ok P N b)(ha:a<P.m)(hc:c<N)(hp:b.Gq a c≠0)(i:Nat)(hi:i<=P.m)(l:Nat)(hl:l<N+1)(hn:l≠c):b.s ∣ b.Gq a c*b.Gq i l-b.Gq i c*b.Gq a l:=by obtain⟨T,id⟩:=h.id;have:=h.hN;have hs:=h.pos;have z:=Id.dvd (at':=a) (h.hc hc) (λl=>by unfold qs;split<;>decide) (by simp[qs,hc]) (by exact R5 ‹_›) h.det id (by exact Ru ‹_›) (by simpa[Gx,Ru hc] using hp) i hi l Q1 hn;simpa[Gx,Ru hc,T9 hl] using z
theorem qR(h:Sh N P.m b)(ha:a<P.m)(hc:c<N):P.vec N (b.turn a c)=up c (P.Wq b a) (P.vec N b):=by
 funext l
 delta Pb.vec up Pb.Wq
 rw[Bo.sD h hc,Zv ha]
 by_cases e:l=c
 .subst e;simp[sP,hc]
 .simp[sP,e]
theorem Gm(h:Sh N P.m b)(ha:a<P.m)(hc:c<N):P.Wq (b.turn a c)=up a (P.vec N b c) (P.Wq b):=by
 funext i
 delta Pb.vec up Pb.Wq
 rw[Bo.tE h ha,Zv hc]
 by_cases e:i=a
 .subst e;simp[sP,ha]
 .simp[sP,e]
theorem LJ(h:x≠0):0<sn x*x:=by unfold sn;split<;>lia
theorem MJ(x:Int):sn x=1\/sn x = -1:=by unfold sn;split<;>simp
theorem swap_perm[DecidableEq α]{xs ys:List α}{c a:Nat}(hc:c<xs.length)(ha:a<ys.length)(d:α):(xs.set c (ys.getD a d)++ys.set a (xs.getD c d)).Perm (xs++ys):=by
 have e1:xs.getD c d=xs[c]:=by simp[RL,hc]
 have e2:ys.getD a d=ys[a]:=by simp[RL,ha]
 simp only[e1,e2];have D:(xs.set c ys[a]).Perm (ys[a]::xs.eraseIdx c):=by simp only[UT,Zv hc,SN];exact Ss
 have Q:(ys.set a xs[c]).Perm (xs[c]::ys.eraseIdx a):=by rw[UT,Zv ha,SN];exact Ss
 have o:xs.Perm (xs[c]::xs.eraseIdx c):=by rw[SN];have:=Ss (a:=xs[c]) (l₁:=xs.take c) (l₂:=xs.drop (c+1));simp only[VO,Tz] at this;exact this
 have w:ys.Perm (ys[a]::ys.eraseIdx a):=by rw[SN];have:=Ss (a:=ys[a]) (l₁:=ys.take a) (l₂:=ys.drop (a+1));simp only[VO,Tz] at this;exact this
 refine(D.append Q).trans (List.Perm.trans ?_ (o.append w).symm);generalize xs.eraseIdx c=X;generalize ys.eraseIdx a=Z;exact((Ss.cons _).trans (List.Perm.swap _ _ _)).trans (Ss.symm.cons _)
theorem Ok.turn(h:Ok P N b)(ha:a<P.m)(hc:c<N)(hp:b.Gq a c≠0):Ok P N (b.turn a c):=by
 have hs:=h.pos;have hN:=h.hN;have pm:((b.turn a c).ac++(b.turn a c).dn).Perm (b.ac++b.dn):=swap_perm (by rw[h.sh.ac];exact hc) (by rw[h.sh.dn];exact ha) 0;have g:∀l,qs N l=1\/qs N l = -1:=λl=>by unfold qs;split<;>simp
 have J:qs N c = -1:=by simp[qs,hc]
 obtain⟨T,id⟩:=h.id;have x:∀i,Gx N b T i c=b.Gq i c:=λi=>by simp[Gx,Ru hc]
 have L:Gx N b T a c≠0:=by rw[x];exact hp
 refine⟨h.sh.turn Q1,pm.nodup_iff.mpr h.nd,λu=>by rw[pm.mem_iff];exact h.nm u,?_,hN,?_,?_⟩
 .rw[Bo.j9];exact LJ hp
 .rw[qR h.sh ha hc,Id.det (h.hc hc) J (by exact R5 ‹_›) h.det id Q1,x,Bo.j9];rcases MJ (b.Gq a c) with e|e<;>rw[e]<;>lia
 .refine⟨λi=>sn (b.Gq a c)*Gt a c b.s (Gx N b T) i (N+1),λi hi j Z=>?_⟩;have z:=Id.turn (h.hc hc) g J Q1 h.det id Q1 L i hi j Z;rw[qR h.sh ha hc,Gm h.sh ha hc,Bo.j9,Ue,<-x a,z,<-dg];refine aS λl hl=>?_;have e:Gx N (b.turn a c) (λi=>sn (b.Gq a c)*Gt a c b.s (Gx N b T) i (N+1)) i l=sn (Gx N b T a c)*Gt a c b.s (Gx N b T) i l:=by
   unfold Gx;by_cases e:l<=N
   .rw[Zv e,Bo.l8 h.sh Q1 Q1 Q1 (h.dvd ha hc hp) hi Q1];simp[Gt,Ru hc,e]
   .rw[Zw e,show l=N+1 by lia];simp[Ru hc]
  rw[<-x a] at e;rw[e];grind
def Fb(P:Pb)(N:Nat)(b:Bo)(i:Nat)(u:Int):Int:=F N P.m b.Aq b.Bq b.Gq b.s i u
def Rr(P:Pb)(N:Nat)(b:Bo)(i t:Nat):Int:=if t=0 then b.Gq i N else Fb P N b i ((P.n+(t-1):Nat):Int)
variable{P:Pb}{N a c i l:Nat}{b:Bo}
theorem F.scale{ac dn:Nat->Int}{G G':Nat->Nat->Int}(e:∀l,l<N->G' i l=x*G i l):F N m ac dn G' (x*s) i u=x*F N m ac dn G s i u:=by
 unfold F;rw[Vf,<-dg]
 congr 1
 .refine aS λl hl=>?_;split
  .exact e l hl
  .simp
 .split<;>simp
theorem Ok.Fa(h:Ok P N b)(ha:a<P.m)(hc:c<N)(hp:b.Gq a c≠0)(u:Int):Fb P N (b.turn a c) a u=sn (b.Gq a c)*Fb P N b a u:=by unfold Fb;rw[Bo.sD h.sh hc,Bo.tE h.sh ha,Bo.j9,F.scale λl hl=>Bo.l8 h.sh Q1 (by exact Rw ‹_›) (by have:=h.pos;exact R5 ‹_›) (h.dvd ha hc hp) Q1 (by exact Rw ‹_›),F.own hc ha]
theorem Ok.Fo(h:Ok P N b)(ha:a<P.m)(hc:c<N)(hp:b.Gq a c≠0)(hi:i<=P.m)(hn:i≠a)(u:Int):b.s*Fb P N (b.turn a c) i u=sn (b.Gq a c)*(b.Gq a c*Fb P N b i u-b.Gq i c*Fb P N b a u):=by
 unfold Fb;rw[Bo.sD h.sh hc,Bo.tE h.sh ha,Bo.j9,F.scale λl hl=>Bo.l8 h.sh (by exact Ru ‹_›) (by exact Rw ‹_›) (by have:=h.pos;exact R5 ‹_›) (h.dvd ha hc hp) hi (by exact Rw ‹_›)];rw[<-F.QE hc ha hn λl hl L=>h.dvd ha hc hp i hi l (by exact Rw ‹_›) L]
 grind
theorem Ok.Ra(h:Ok P N b)(ha:a<P.m)(hc:c<N)(hp:b.Gq a c≠0)(t:Nat):Rr P N (b.turn a c) a t=sn (b.Gq a c)*Rr P N b a t:=by
 unfold Rr;split
 .rw[Bo.l8 h.sh Q1 (by exact Rw ‹_›) (by have:=h.pos;exact R5 ‹_›) (h.dvd ha hc hp) Q1 (by exact RM _)];simp[Gt,show N≠c by exact Tj ‹_›]
 .exact h.Fa ha hc hp _
theorem Ok.Ro(h:Ok P N b)(ha:a<P.m)(hc:c<N)(hp:b.Gq a c≠0)(hi:i<=P.m)(hn:i≠a)(t:Nat):b.s*Rr P N (b.turn a c) i t=sn (b.Gq a c)*(b.Gq a c*Rr P N b i t-b.Gq i c*Rr P N b a t):=by
 unfold Rr;split
 .rw[Bo.l8 h.sh (by exact Ru ‹_›) (by exact Rw ‹_›) (by have:=h.pos;exact R5 ‹_›) (h.dvd ha hc hp) hi Q1];have z:=UB (h.dvd ha hc hp i hi N Q1 (by exact Tj ‹_›));rw[Gt,Zw hn,Zw (show N≠c by exact Tj ‹_›)]
  grind
 .exact h.Fo ha hc hp hi hn _
theorem getD_inj{xs:List Int}(h:xs.Nodup)(hi:i<xs.length)(a:j<xs.length)(e:xs.getD i 0=xs.getD j 0):i=j:=by simp only[RL,Ry hi,Ry a,UZ] at e;exact(Wo h).mp e
theorem Ok.Ai(h:Ok P N b){K:Nat}(hl:l<N)(x:K<N)(e:b.Aq l=b.Aq K):l=K:=
 getD_inj (Rj.mp h.nd).1 (by rw[h.sh.ac];exact hl) (by rw[h.sh.ac];exact x) e
theorem Ok.Am(h:Ok P N b)(hl:l<N):b.Aq l∈b.ac:=by have:=h.sh.ac;simp[Bo.Aq,RL,this,hl]
theorem Ok.Bm(h:Ok P N b)(hi:i<P.m):b.Bq i∈b.dn:=by have:=h.sh.dn;simp[Bo.Bq,RL,this,hi]
theorem Ok.AB(h:Ok P N b)(hl:l<N)(hi:i<P.m):b.Bq i≠b.Aq l:=λe=>(Rj.mp h.nd).2.2 _ (h.Am hl) _ (h.Bm hi) e.symm
theorem Ok.M0(h:Ok P N b)(hl:l<N)(i:Nat):Fb P N b i (b.Aq l)=b.Gq i l:=by
 delta Fb F
 rw[jM hl λK x hn=>Zw λe=>hn (h.Ai x hl e),Zv rfl,Zw λz=>h.AB hl z.1 z.2];simp
theorem Ok.Oi(h:Ok P N b)(hi:i<P.m):Fb P N b i (b.Bq i)=b.s:=by
 delta Fb F
 rw[fg λl hl=>Zw λe=>h.AB hl hi e.symm,Zv ⟨hi,rfl⟩];simp
theorem Ok.v7(h:Ok P N b)(B:u∈b.ac++b.dn):-1<=u/\u<(P.n+P.m:Nat):=by have:=(h.nm u).mp B;split at this<;>lia
theorem Ok.nz(h:Ok P N b)(hi:i<P.m)(z:∀t,t<P.m+1->Rr P N b i t=0):False:=by
 have hs:=h.pos;have hN:=h.hN;have s:∀u:Int,(P.n:Int)<=u->u<(P.n+P.m:Nat)->Fb P N b i u=0:=λu h1 h2=>by have:=z ((u-P.n).toNat+1) Q1;unfold Rr at this;rw[Zw Q1,show ((P.n+((u-P.n).toNat+1-1):Nat):Int)=u by lia] at this;exact this
 have B:=h.v7 (Q2 b.ac (h.Bm hi));by_cases U:(P.n:Int)<=b.Bq i
 .have:=s _ U B.2;rw[h.Oi hi] at this;lia
 .obtain⟨T,id⟩:=h.id;have I:=(h.nm _).mp (Q2 b.ac (h.Bm hi));obtain⟨j,K⟩:∃j:Nat,j=if b.Bq i = -1 then P.n+1 else (b.Bq i).toNat:=⟨_,rfl⟩
  have Z:j<P.n+2:=by rw[K];split<;>lia
  have X:j≠P.n:=by rw[K];split<;>lia
  have e:=id i Q1 j Z;rw[fg λl hl=>?_] at e
  .have w:P.Wq b i j=1:=by
    unfold Pb.Wq Pb.Yq;rw[Zv hi,K];by_cases D:b.Bq i = -1
    .simp[D,un]
    .rw[Zw D,Zw D,Zv Q1];simp[un]
   rw[w] at e;lia
  .by_cases D:l<N
   .have q:=h.AB D hi;have f:=h.v7 (Q8 b.dn (h.Am D));by_cases v:(P.n:Int)<=b.Aq l
    .have g:=s _ v f.2;rw[h.M0 D] at g;simp[Gx,Ru D,g]
    .have x:P.vec N b l j=0:=by
      unfold Pb.vec Pb.Yq;rw[Zv D,K];by_cases a:b.Aq l = -1<;>by_cases c:b.Bq i = -1
      .lia
      .rw[Zv a,Zw c];exact Zw Q1
      .rw[Zw a,Zv Q1,Zv c];exact Zw Q1
      .rw[Zw a,Zv Q1,Zw c];exact Zw Q1
     rw[x,RQ]
   .by_cases v:l=N
    .have g:=z 0 Q1;simp only[Rr,if_true] at g;subst v;simp[Gx,g]
    .have x:P.vec N b l j=0:=by
      unfold Pb.vec;rw[Zw D,Zw v];refine Zw ?_;have:N=P.n:=by lia
      rw[Zv this] at I;rw[K];split<;>lia
     rw[x,RQ]
theorem oN{n:Nat}{f:Nat->Nat->Int}:(su n λi=>su m λj=>f i j)=su m λj=>su n λi=>f i j:=by
 induction n with
 |zero=>exact(fg λ_ _=>rfl).symm
 |succ n l=>simp only[su];rw[l];have:=jW (n:=m) (f:=λj=>su n λi=>f i j) (g:=λj=>f n j) (x:=1) (y:=1);simp only[Su] at this;exact this.symm
variable{P:Pb}{N:Nat}{b b1 b2:Bo}
theorem Ok.Ax(h:Ok P N b)(B:u∈b.ac):∃l,l<N/\b.Aq l=u:=by obtain⟨l,hl,e⟩:=S8 B;exact⟨l,by rw[<-h.sh.ac];exact hl,by simp[Bo.Aq,RL,hl,e]⟩
def Fc(N:Nat)(b:Bo)(r:Nat)(u:Int):Int:=su N λl=>if b.Aq l=u then b.Gq r l else 0
theorem Ok.perm(h1:Ok P N b1)(h2:Ok P N b2)(hs:∀u,u∈b1.ac↔u∈b2.ac)(r:Nat)(y:Int->Int):(su N λl=>Fc N b2 r (b1.Aq l)*y (b1.Aq l))=su N λl=>b2.Gq r l*y (b2.Aq l):=by
 unfold Fc;rw[aS (g:=λl=>su N λK=>(if b2.Aq K=b1.Aq l then b2.Gq r K*y (b2.Aq K) else 0)) λl hl=>by
  rw[RJ,<-dg];refine aS λK x=>?_;by_cases e:b2.Aq K=b1.Aq l
  .rw[Zv e,Zv e,e];exact RJ _ _
  .rw[Zw e,Zw e,RQ],oN]
 refine aS λK x=>?_;obtain⟨l,hl,e⟩:=h1.Ax ((hs _).mpr (h2.Am x));rw[jM hl λi hi hn=>Zw λz=>hn (h1.Ai hi hl (z.symm.trans e.symm)),Zv e.symm]
variable{r1 r2:Nat}
theorem Ok.cols(h1:Ok P N b1)(h2:Ok P N b2)(hs:∀u,u∈b1.ac↔u∈b2.ac)(c:r1<=P.m)(x:r2<=P.m)(f:P.Wq b1 r1=P.Wq b2 r2):
  (∀l,l<N->b1.s*Fc N b2 r2 (b1.Aq l)=b2.s*b1.Gq r1 l)/\b1.s*b2.Gq r2 N=b2.s*b1.Gq r1 N:=by
 obtain⟨b,k⟩:=h1.id;obtain⟨h,Q⟩:=h2.id;have hN:=h1.hN;have p:=h1.pos;have dn:D (P.n+2) (P.vec N b1)≠0:=λz=>by have:=h1.det;rw[z] at this;simp at this;lia
 have key:∀j,j<P.n+2->b2.s*P.Wq b1 r1 j=su (P.n+2) λl=>(if l<N then-Fc N b2 r2 (b1.Aq l) else if l=N then b2.Gq r2 N else h r2)*P.vec N b1 l j:=λj a=>by
  simp only[f,Q r2 x j a];have q:=h1.perm h2 hs r2 λu=>P.Yq u j;have e1:(su N λl=>qs N l*Gx N b2 h r2 l*P.vec N b2 l j) =-su N λl=>b2.Gq r2 l*P.Yq (b2.Aq l) j:=by rw[<-TQ,<-dg];refine aS λl hl=>?_;simp only[qs,Gx,Pb.vec,Zv hl,Zv (Ru hl)];grind
  have e2:(su N λl=>(if l<N then-Fc N b2 r2 (b1.Aq l) else if l=N then b2.Gq r2 N else h r2)*P.vec N b1 l j) =-su N λl=>Fc N b2 r2 (b1.Aq l)*P.Yq (b1.Aq l) j:=by rw[<-TQ,<-dg];refine aS λl hl=>?_;simp only[Pb.vec,Zv hl];grind
  rcases hN with z|z
  .rw[<-z];simp only[su];simp only[e1,e2,q];simp[qs,Gx,Pb.vec,show ¬ N+1<N by simp,show ¬ N+1<=N by lia]
  .rw[show P.n+2=N+1 by lia];simp only[su];rw[e1,e2,q];simp[qs,Gx,Pb.vec]
 have go:∀l,l<P.n+2->b1.s*(if l<N then-Fc N b2 r2 (b1.Aq l) else if l=N then b2.Gq r2 N else h r2)=b2.s*(qs N l*Gx N b1 b r1 l):=λl hl=>by
  have U:=D.Ji (v:=P.vec N b1) (w:=P.Wq b1 r1) (s:=b1.s) hl (k r1 c);have J:=D.Ji (v:=P.vec N b1) (w:=P.Wq b1 r1) (s:=b2.s) hl key;refine SA dn ?_
  grind
 refine⟨λl hl=>?_,?_⟩
 .have z:=go l (h1.hc hl);simp only[qs,Gx,Zv hl,Zv (Ru hl)] at z
  grind
 .have z:=go N Q1;simp only[qs,Gx,RB,if_false,if_true,Q9] at z
  grind
theorem Ok.uniq(h1:Ok P N b1)(h2:Ok P N b2)(hs:∀u,u∈b1.ac↔u∈b2.ac)(c:r1<=P.m)(x:r2<=P.m)(f:P.Wq b1 r1=P.Wq b2 r2)(R:r1<P.m->b1.Bq r1<P.n)(o2:r2<P.m->b2.Bq r2<P.n)(t:Nat):
  b2.s*Rr P N b1 r1 t=b1.s*Rr P N b2 r2 t:=by
 obtain⟨U,D⟩:=h1.cols h2 hs c x f;unfold Rr;split
 .exact D.symm
 .generalize B:((P.n+(t-1):Nat):Int)=u;have y:Fb P N b1 r1 u=Fc N b1 r1 u:=by unfold Fb F Fc;rw[Zw λz=>by have:=R z.1;lia];exact Sk _
  have h:Fb P N b2 r2 u=Fc N b2 r2 u:=by unfold Fb F Fc;rw[Zw λz=>by have:=o2 z.1;lia];exact Sk _
  rw[y,h];by_cases m:u∈b1.ac
  .obtain⟨l,hl,rfl⟩:=h1.Ax m;rw[U l hl];unfold Fc;rw[jM hl λi hi hn=>Zw λz=>hn (h1.Ai hi hl z),Zv rfl]
  .unfold Fc;rw[fg λl hl=>Zw λ(z:b1.Aq l=u)=>m (by rw[<-z];exact h1.Am hl),fg λl hl=>Zw λ(z:b2.Aq l=u)=>m ((hs u).mpr (by rw[<-z];exact h2.Am hl))];simp
variable{P:Pb}{N a c:Nat}{b b':Bo}
def Lp(P:Pb)(N:Nat)(b:Bo):Prop:=∀i,i<P.m->LP (P.m+1) (Rr P N b i)
theorem Lp.turn(h:Ok P N b)(q:Lp P N b)(ha:a<P.m)(hc:c<N)(hp:0<b.Gq a c)(hm:∀i,i<P.m->0<b.Gq i c->¬ LL (P.m+1) (Rr P N b i) (b.Gq i c) (Rr P N b a) (b.Gq a c)):Lp P N (b.turn a c):=λi hi=>by
 have hs:=h.pos;have X:sn (b.Gq a c)=1:=Zw Q1;by_cases e:i=a
 .subst e;exact(q i hi).congr λt _=>by rw[h.Ra hi hc Q1,X,Su]
 .have C:∀t,b.s*Rr P N (b.turn a c) i t=b.Gq a c*Rr P N b i t+(- b.Gq i c)*Rr P N b a t:=λt=>by rw[h.Ro ha hc Q1 Q1 e,X];grind
  by_cases g:b.Gq i c<=0
  .exact LP.rT hs (((LP.mul hp (q i hi)).OL (LN.mul (x:=- b.Gq i c) Q1 (q a ha).ln)).congr λt _=>(C t).symm)
  .have z:LN (P.m+1) λt=>b.s*Rr P N (b.turn a c) i t:=λz=>hm i hi Q1 (z.congr λt _=>by show-(b.s*Rr P N (b.turn a c) i t)=_;rw[C t];grind);rcases z.or with z|z
   .exact LP.rT hs z
   .exact((h.turn ha hc Q1).nz hi λt j=>(WR.mp (z t j)).resolve_left Q1).elim
variable{r:Nat}
theorem Ok.Dk(h:Ok P N b)(q:Lp P N b)(ha:a<P.m)(hc:c<N)(hp:0<b.Gq a c)(hr:r<=P.m)(hn:r≠a)(G:b.Gq r c<0):LL (P.m+1) (Rr P N b r) b.s (Rr P N (b.turn a c) r) (b.turn a c).s:=by have X:sn (b.Gq a c)=1:=Zw Q1;refine(LP.mul (x:=- b.Gq r c) Q1 (q a ha)).congr λt _=>?_;rw[Bo.j9,h.Ro ha hc Q1 hr hn,X];grind
noncomputable def allB:Nat->List (List Bool)
 |0=>[[]]
 |k+1=>(allB k).map (true::·)++(allB k).map (false::·)
theorem mf:∀{x:List Bool}{k:Nat},x.length=k->x∈allB k
 |[],_,rfl=>RC.mpr rfl
 |true::x,_,rfl=>Q8 _ (RY.mpr ⟨x,mf rfl,rfl⟩)
 |false::x,_,rfl=>Q2 _ (RY.mpr ⟨x,mf rfl,rfl⟩)
theorem rJ{α:Type}{p q:α->Bool}(h:∀x,q x=true->p x=true){x0:α}(h1:p x0=true)(h2:q x0=false):∀{L:List α},x0∈L->L.countP q<L.countP p
 |[],z=>nomatch z
 |x::L,z=>by
  have le:=List.countP_mono_left (l:=L) λy _=>h y;simp only[Wy,Wy];rcases Rc.mp z with rfl|z
  .rw[h1,h2];simp;exact RS ‹_›
  .have:=rJ h h1 h2 z;by_cases e:q x=true
   .rw[e,h x e];simp;lia
   .rw[Zw e];lia
noncomputable def key(P:Pb)(b:Bo):List Bool:=(Rp (P.n+P.m+1)).map λk=>b.ac.contains ((UD k)-1)
theorem F7{b1 b2:Bo}(h1:Ok P N b1)(h2:Ok P N b2)(e:key P b1=key P b2)(u:Int):u∈b1.ac↔u∈b2.ac:=by
 have go:∀{b1 b2:Bo},Ok P N b1->key P b1=key P b2->u∈b1.ac->u∈b2.ac:=λ{b1 b2} h1 e B=>by have r:=h1.v7 (Q8 _ B);have z:=Zz (λx=>x[(u+1).toNat]?) e;simp only[key,RN,SQ (show (u+1).toNat<P.n+P.m+1 by lia),Wm,Vz,show UD (u+1).toNat-1=u by have:UD (u+1).toNat=((u+1).toNat:Int):=rfl;lia] at z;exact Si.mp (z▸Si.mpr B)
 exact⟨go h1 e,go h2 e.symm⟩
open Classical in
def ms(P:Pb)(K:Bo->Prop)(ob:Bo->Nat->Int)(b:Bo):Nat:=(allB (P.n+P.m+1)).countP λx=>decide (∃b',K b'/\key P b'=x/\LL (P.m+1) (ob b) b.s (ob b') b'.s)
open Classical in
theorem KW{K:Bo->Prop}{ob:Bo->Nat->Int}(hs:∀b,K b->0<b.s)(B:∀b1 b2,K b1->K b2->key P b1=key P b2->∀t,b2.s*ob b1 t=b1.s*ob b2 t)(h:K b)(h':K b')(a:LL (P.m+1) (ob b) b.s (ob b') b'.s):ms P K ob b'<ms P K ob b:=by
 refine rJ (x0:=key P b') (λx hx=>?_) (Zy ⟨b',h',rfl,a⟩) (Zx ?_) (mf (by simp[key]))
 .obtain⟨c,k,e,l⟩:=ZC hx;exact Zy ⟨c,k,e,LL.trans (hs _ h) (hs _ h') (hs _ k) a l⟩
 .rintro⟨c,k,e,l⟩;obtain⟨t,_,z,_⟩:=l;have:=B b' c h' k e.symm t;have z:0<b'.s*ob c t-c.s*ob b' t:=z;lia
variable{P:Pb}{N c:Nat}{b:Bo}
theorem sH{n:Nat}{g:Nat->Int}:su n (λi=>f i-g i)=su n f-su n g:=by have:=jW (n:=n) (f:=f) (g:=g) (x:=1) (y:=-1);simp only[Su] at this;simp only[show su n f-su n g=su n f + -1*su n g by lia,<-this];exact aS λi _=>by lia
theorem OT(u:Int)(B:-1<=u)(h2:u<(P.n+P.m:Nat))(Z:j<P.n):P.Yq u j=(if u=j then 1 else 0)-su P.m λk=>if u=((P.n+k:Nat):Int) then P.R k j else 0:=by
 unfold Pb.Yq;by_cases U:u = -1
 .rw[Zv U,fg λk hk=>Zw Q1,Zw Q1];exact Zw Q1
 .rw[Zw U];by_cases D:u<P.n
  .rw[Zv D,fg λk hk=>Zw Q1];unfold un;by_cases v:u=j
   .rw[Zv Q1,Zv v];rfl
   .rw[Zw Q1,Zw v];rfl
  .have e1:(if u=(j:Int) then (1:Int) else 0)=0:=Zw Q1;have e2:(su P.m λk=>if u=((P.n+k:Nat):Int) then P.R k j else 0)=P.R (u-P.n).toNat j:=by rw[jM (a:=(u-P.n).toNat) Q1 λk hk hn=>Zw Q1];exact Zv Q1
   rw[Zw D,e1,e2];simp[Z]
theorem QM(u:Int)(B:-1<=u)(h2:u<(P.n+P.m:Nat)):P.Yq u P.n=su P.m λk=>if u=((P.n+k:Nat):Int) then P.L k else 0:=by
 unfold Pb.Yq;by_cases U:u = -1
 .rw[Zv U,fg λk hk=>Zw Q1];exact Zw Z3
 .rw[Zw U];by_cases D:u<P.n
  .rw[Zv D,fg λk hk=>Zw Q1];exact Zw Q1
  .have e2:(su P.m λk=>if u=((P.n+k:Nat):Int) then P.L k else 0)=P.L (u-P.n).toNat:=by rw[jM (a:=(u-P.n).toNat) Q1 λk hk hn=>Zw Q1];exact Zv Q1
   rw[Zw D,e2];simp
theorem Fj{x:Nat->Int}:(su N λl=>b.Gq r l*su P.m λk=>if b.Aq l=((P.n+k:Nat):Int) then x k else 0)=su P.m λk=>Fc N b r ((P.n+k:Nat):Int)*x k:=by
 rw[aS (g:=λl=>su P.m λk=>if b.Aq l=((P.n+k:Nat):Int) then b.Gq r l*x k else 0) λl hl=>by rw[<-dg];refine aS λk hk=>?_;split<;>simp,oN]
 refine aS λk hk=>?_;unfold Fc;rw[RJ,<-dg];refine aS λl hl=>?_;split
 .exact RJ _ _
 .simp
theorem Ok.MX(h:Ok P N b)(hr:r<=P.m)(a:j<P.n+1):b.s*P.Wq b r j=(su N λl=>- (b.Gq r l*P.Yq (b.Aq l) j))+b.Gq r N*un P.n j:=by
 obtain⟨T,id⟩:=h.id;simp only[id r hr j (by exact Rw ‹_›)];have e:(su N λl=>qs N l*Gx N b T r l*P.vec N b l j)=su N λl=>- (b.Gq r l*P.Yq (b.Aq l) j):=aS λl hl=>by simp only[qs,Gx,Pb.vec,Zv hl,Zv (Ru hl)];grind
 rcases h.hN with z|z
 .subst z;simp only[su];simp only[e];simp[qs,Gx,Pb.vec,show ¬ P.n+1<P.n by simp,show ¬ P.n+1<=P.n by simp,un,show j≠P.n+1 by exact RH ‹_›]
 .rw[show P.n+2=N+1 by lia];simp only[su];rw[e];simp[qs,Gx,Pb.vec]
theorem Ok.cost(h:Ok P N b)(hr:r<=P.m)(a:j<P.n):b.s*P.Wq b r j=(su P.m λk=>Fc N b r ((P.n+k:Nat):Int)*P.R k j)-Fc N b r j:=by rw[h.MX hr Q1,show un P.n j=0 from Zw Q1,RQ,Sk,<-Fj];rw[show Fc N b r j=su N λl=>b.Gq r l*if b.Aq l=j then 1 else 0 from aS λl hl=>by split<;>simp,<-sH];refine aS λl hl=>?_;have:=h.v7 (Q8 b.dn (h.Am hl));rw[OT (b.Aq l) this.1 this.2 a];grind
theorem Ok.MP(h:Ok P N b)(hr:r<=P.m):b.s*P.Wq b r P.n=b.Gq r N-su P.m λk=>Fc N b r ((P.n+k:Nat):Int)*P.L k:=by
 rw[h.MX hr (by exact RM _),show un P.n P.n=1 from Zv rfl,Uy,<-Fj];simp only[show (su N λl=>- (b.Gq r l*P.Yq (b.Aq l) P.n)) =-su N λl=>b.Gq r l*su P.m λk=>if b.Aq l=((P.n+k:Nat):Int) then P.L k else 0 from by rw[<-TQ,<-dg];refine aS λl hl=>?_;have:=h.v7 (Q8 b.dn (h.Am hl));simp only[QM (b.Aq l) this.1 this.2];simp]
 exact Int.add_comm _ _
def vl(P:Pb)(b:Bo)(c:Nat)(u:Int):Int:=(su P.m λi=>if b.Bq i=u then qs P.n c*b.Gq i c else 0)+if c<P.n/\b.Aq c=u then b.s else 0
theorem Ok.Nq(h:Ok P P.n b)(hc:c<=P.n)(p:u∈b.ac++b.dn):b.s*D (P.n+2) (up c (P.Yq u) (P.vec P.n b))=vl P b c u*D (P.n+2) (P.vec P.n b):=by
 obtain⟨T,id⟩:=h.id;rcases Rf.mp p with m|m
 .obtain⟨l,hl,rfl⟩:=h.Ax m;have z:su P.m (λi=>if b.Bq i=b.Aq l then qs P.n c*b.Gq i c else 0)=0:=fg λi hi=>Zw (h.AB hl hi);unfold vl;rw[z];by_cases e:l=c
  .subst e;rw[Zv ⟨hl,rfl⟩,show P.Yq (b.Aq l)=P.vec P.n b l by simp[Pb.vec,hl],qg,Ts]
  .rw[Zw λz=>e (h.Ai hl z.1 z.2.symm),D.alike Q1 Q1 (R7 e) (by simp[up,e,Pb.vec,hl])];simp
 .obtain⟨i,hi,e⟩:=S8 m;have x:i<P.m:=by rw[<-h.sh.dn];exact hi
  have e2:b.Bq i=u:=by simp[Bo.Bq,RL,hi,e]
  subst e2;have z:su P.m (λB=>if b.Bq B=b.Bq i then qs P.n c*b.Gq B c else 0)=qs P.n c*b.Gq i c:=by rw[jM x λB h1 hn=>Zw λ(z:b.Bq B=b.Bq i)=>hn (getD_inj (Rj.mp h.nd).2.1 (by rw[h.sh.dn];exact h1) hi z),Zv rfl]
  unfold vl;rw[z,Zw λz=>h.AB z.1 x z.2.symm];have k:=D.Ji (show c<P.n+2 by lia) (id i (by exact Ru ‹_›));rw[show P.Wq b i=P.Yq (b.Bq i) by simp[Pb.Wq,x]] at k;simp only[k];simp[Gx,hc]
theorem Ok.Qh(h:Ok P N b):D (P.n+2) (P.vec N b)≠0:=λz=>by have d:=h.det;have:=h.pos;rw[z] at d;simp at d;lia
theorem Ok.Ez(h:Ok P P.n b)(hc:c<=P.n){x:Nat->Int}(e:∀j,j<P.n+2->w j=su (P.n+2) λt=>x t*un t j){g:Int}(G:b.s*D (P.n+2) (up c w (P.vec P.n b))=g*D (P.n+2) (P.vec P.n b)):
  g=(su P.n λj=>x j*vl P b c j)+if c=P.n then b.s*x P.n else 0:=by
 refine SA h.Qh ?_;rw[<-G,D.congr (w:=up c (λj=>su (P.n+2) λt=>x t*un t j) (P.vec P.n b)) λi j hi Z=>by
  unfold up;split
  .exact e j Z
  .rfl,D.sum Q1]
 have p:D (P.n+2) (up c (un P.n) (P.vec P.n b))=if c=P.n then D (P.n+2) (P.vec P.n b) else 0:=by
  have v:P.vec P.n b P.n=un P.n:=by simp[Pb.vec]
  split
  .rename_i z;subst z;simp only[<-v,qg]
  .rename_i z;exact D.alike Q1 Z3 z (by simp[up,R7 z,v])
 have m:D (P.n+2) (up c (un (P.n+1)) (P.vec P.n b))=0:=D.alike (a:=c) (b:=P.n+1) Q1 (by exact RM _) Q1 (by simp[up,show P.n+1≠c by lia,Pb.vec,show ¬ P.n+1<P.n by lia]);simp only[su];rw[p,m,RQ,Sk,Vf,<-dg,Int.add_mul,show ∀(f:Nat->Int)(y:Int),su P.n f*y=su P.n λi=>y*f i from λf y=>by rw[RJ,dg]]
 congr 1
 .refine aS λj Z=>?_;have z:=h.Nq hc ((h.nm j).mpr (by rw[Zv rfl];lia));rw[show P.Yq j=un j by unfold Pb.Yq;rw[Zw Q1,Zv Q1];simp] at z
  grind
 .split<;>grind
theorem Ok.Ft(h:Ok P P.n b)(hc:c<=P.n)(hk:k<P.m):vl P b c ((P.n+k:Nat):Int)=(if c=P.n then b.s*P.L k else 0)-su P.n λj=>P.R k j*vl P b c j:=by
 have z:=h.Nq hc (u:=((P.n+k:Nat):Int)) ((h.nm _).mpr (by rw[Zv rfl];lia));have e:=h.Ez hc (x:=λt=>if t<P.n then-P.R k t else if t=P.n then P.L k else 1) (w:=P.Yq ((P.n+k:Nat):Int)) (λj a=>by rw[jM a λt T hn=>by rw[show un t j=0 from Zw (R7 hn),RQ]];unfold Pb.Yq;rw[Zw Q1,Zw Q1,show (((P.n+k:Nat):Int)-P.n).toNat=k by lia];simp[un]) z
 rw[e];simp only[RB,if_false,if_true];rw[aS (g:=λj=>-1*(P.R k j*vl P b c j)) λj a=>by simp only[Zv a];grind,dg];lia
theorem Ok.worth(h:Ok P P.n b)(hc:c<=P.n):qs P.n c*b.Gq P.m c=su P.n λj=>P.c j*vl P b c j:=by
 obtain⟨T,id⟩:=h.id;have k:=D.Ji (show c<P.n+2 by lia) (id P.m Z3);rw[show P.Wq b P.m=P.zq by simp[Pb.Wq]] at k;have e:=h.Ez hc (x:=λt=>if t<P.n then P.c t else 0) (λj a=>by rw[jM a λt z hn=>by simp only[show un t j=0 from Zw (R7 hn),RQ]];simp[Pb.zq,un]) k
 simp only[Gx,Zv hc,RB,if_false,RQ,ite_self,Sk] at e;simp only[e];exact aS λj a=>by rw[Zv a]
variable{P:Pb}
noncomputable def hU(P:Pb):Bo:=⟨(Rp P.n).map UD,(Rp P.m).map λi=>((P.n+i:Nat):Int),((Rp P.m).map λi=>((Rp P.n).map λj=>P.R i j)++[P.L i])++[((Rp P.n).map λj=>- P.c j)++[0]],1⟩
theorem jZ{xs ys:List α}{d:α}(h:i<xs.length):(xs++ys).getD i d=xs.getD i d:=by simp[RL,R9 h]
theorem jP{xs ys:List α}{d:α}(h:xs.length<=i):(xs++ys).getD i d=ys.getD (i-xs.length) d:=by simp[RL,RT h]
theorem gT{f:Nat->α}{n:Nat}{d:α}(h:i<n):((Rp n).map f).getD i d=f i:=by simp[RL,h]
theorem qo(hi:i<=P.m)(hl:l<=P.n):(hU P).Gq i l=if i<P.m then (if l<P.n then P.R i l else P.L i) else if l<P.n then-P.c l else 0:=by
 delta Bo.Gq hU
 by_cases c:i<P.m
 .rw[jZ (by simpa using c),gT c,Zv c]
  by_cases e:l<P.n
  .rw[jZ (by simpa using e),gT e,Zv e]
  .rw[jP (by simp;lia),Zw e,show l=P.n by lia];simp
 .rw[jP (by simp;lia),Zw c,show i=P.m by lia]
  simp only[Q7,UY,Uu,List.getD_cons_zero]
  by_cases e:l<P.n
  .rw[jZ (by simpa using e),gT e,Zv e]
  .rw[jP (by simp;lia),Zw e,show l=P.n by lia];simp
theorem Fm(hl:l<P.n):(hU P).Aq l=l:=gT hl
theorem EV(hi:i<P.m):(hU P).Bq i=((P.n+i:Nat):Int):=gT hi
theorem ON(h:j<P.n):P.Yq j=un j:=by unfold Pb.Yq;rw[Zw Z3,Zv Q1];rfl
theorem Oj(i:Nat):P.Yq ((P.n+i:Nat):Int)=λj=>if j<P.n then-P.R i j else if j=P.n then P.L i else 1:=by unfold Pb.Yq;rw[Zw Q1,Zw Q1,show (((P.n+i:Nat):Int)-P.n).toNat=i by lia]
theorem K9(h:j≠i):un i j=0:=Zw h
theorem Mw(i:Nat):un i i=1:=Zv rfl
theorem t5(n:Nat):((Rp n).map UD).Nodup:=Vr _ (λa b h z=>h (UD.inj z)) Wz
theorem Bi(P:Pb):((Rp P.m).map λi=>((P.n+i:Nat):Int)).Nodup:=Vr _ (λa b h (z:((P.n+a:Nat):Int)=((P.n+b:Nat):Int))=>by lia) Wz
theorem J3(P:Pb):Ok P P.n (hU P):=by
 have k:∀l,l<P.n+2->P.vec P.n (hU P) l=un l:=λl hl=>by
  unfold Pb.vec;by_cases c:l<P.n
  .rw[Zv c,Fm c,ON c]
  .rw[Zw c];by_cases J:l=P.n
   .rw[Zv J,J]
   .rw[Zw J,show l=P.n+1 by lia]
 refine⟨⟨by simp[hU],by simp[hU],by simp[hU],?_⟩,?_,λu=>?_,by simp[hU],.inl rfl,?_,?_⟩
 .intro x hx;rcases Rf.mp hx with z|z
  .obtain⟨i,_,rfl⟩:=RY.mp z;simp
  .rw[RC.mp z];simp
 .refine Rj.mpr ⟨t5 _,Bi P,λa ha b d=>?_⟩;obtain⟨x,hx,rfl⟩:=RY.mp ha;obtain⟨y,hy,rfl⟩:=RY.mp d;have:=Sm.mp hx;show (x:Int)≠_;lia
 .rw[Zv rfl];constructor
  .intro h;rcases Rf.mp h with h|h
   .obtain⟨x,hx,rfl⟩:=RY.mp h;have:=Sm.mp hx;show 0<=(x:Int)/\(x:Int)<_;lia
   .obtain⟨x,hx,rfl⟩:=RY.mp h;have:=Sm.mp hx;lia
  .rintro⟨h1,h2⟩;by_cases c:u<P.n
   .exact Q8 _ (RY.mpr ⟨u.toNat,Sm.mpr Q1,by show ((u.toNat:Nat):Int)=u;lia⟩)
   .exact Q2 _ (RY.mpr ⟨(u-P.n).toNat,Sm.mpr Q1,by show ((P.n+(u-P.n).toNat:Nat):Int)=u;lia⟩)
 .rw[D.un k];rfl
 .refine⟨λi=>if i<P.m then 1 else 0,λi hi j Z=>?_⟩;rw[jM Z λl hl hn=>by rw[k l hl,K9 (R7 hn),RQ],k j Z,Mw,Uy];show 1*P.Wq (hU P) i j=_;unfold Pb.Wq Gx qs;by_cases c:i<P.m
  .rw[Zv c,EV c,Oj];by_cases e:j<P.n
   .simp[e,Ru e,qo hi (Ru e),c]
   .by_cases e2:j=P.n
    .subst e2;simp[qo hi (Q9 _),c]
    .simp[e,e2,show ¬ j<=P.n by lia,c]
  .rw[Zw c];unfold Pb.zq;by_cases e:j<P.n
   .simp[e,Ru e,qo hi (Ru e),c]
   .by_cases e2:j=P.n
    .subst e2;simp[qo hi (Q9 _),c]
    .simp[e,show ¬ j<=P.n by lia,c]
theorem Mo{b:Bo}(y:∀l,l<N->b.Aq l<P.n)(t:∀i,i<P.m->b.Bq i=((P.n+i:Nat):Int))(hs:b.s=1)(hk:k<P.m):Fb P N b i ((P.n+k:Nat):Int)=if i=k then 1 else 0:=by
 unfold Fb F;rw[fg λl hl=>Zw λz=>by have:=y l hl;lia,hs];by_cases c:i=k
 .subst c;rw[Zv ⟨hk,t i hk⟩,Zv rfl];rfl
 .rw[Zw λz=>by have:=t i z.1;lia,Zw c];rfl
theorem Hj(h:∀i,i<P.m->0<=P.L i):Lp P P.n (hU P):=λi hi=>by
 have v:Rr P P.n (hU P) i 0=P.L i:=by unfold Rr;rw[Zv rfl,qo (by exact Ru ‹_›) (Q9 _),Zv hi,Zw (RB _)]
 have f:∀k,k<P.m->Rr P P.n (hU P) i (k+1)=if i=k then 1 else 0:=λk hk=>by exact Mo (λl hl=>by rw[Fm hl];lia) (λi hi=>EV hi) rfl hk
 have:=h i hi;by_cases c:P.L i=0
 .refine⟨i+1,by exact RS ‹_›,by rw[f i hi,Zv rfl];decide,λu B=>?_⟩;cases u with
  |zero=>simp only[v,c]
  |succ u=>rw[f u Q1,Zw Q1]
 .exact⟨0,by exact U8 _,by rw[v];lia,λu B=>by exact absurd ‹_› (Sn _)⟩
variable{P:Pb}{N c:Nat}{b:Bo}
theorem nZ{n:Nat}(h:∀i,i<n->0<=f i):0<=su n f:=by
 induction n with
 |zero=>exact SX 0
 |succ n l=>exact WY (l λi hi=>h i Q1) (h n Q1)
theorem Lp.val(q:Lp P N b)(hi:i<P.m):0<=b.Gq i N:=by
 obtain⟨t,j,p,z⟩:=q i hi;cases t with
 |zero=>exact SR p
 |succ t=>exact Tt (z 0 (by exact U8 _)).symm
structure Keeps(P:Pb)(s:Int)(x:Nat->Int):Prop where
 nn:∀j,j<P.n->0<=x j
 le:∀k,k<P.m->(su P.n λj=>P.R k j*x j)<=s*P.L k
theorem Ff(t:∀i,i<P.m->0<=qs P.n c*b.Gq i c)(hs:0<=b.s)(u:Int):0<=vl P b c u:=by
 refine WY (nZ λi hi=>?_) ?_
 .split
  .exact t i hi
  .exact SX 0
 .split
  .exact hs
  .exact SX 0
theorem Ok.keeps(h:Ok P P.n b)(q:Lp P P.n b):Keeps P b.s λj=>vl P b P.n j:=by
 have nn:=Ff (λi hi=>by rw[show qs P.n P.n=1 from Zw (RB _),Su];exact q.val hi) (SR h.pos);refine⟨λj _=>nn _,λk hk=>?_⟩;have z:=h.Ft (Q9 P.n) hk;have:=nn ((P.n+k:Nat):Int)
 lia
theorem Eg(h:∀l,l<N->0<=b.Gq r l)(u:Int):0<=Fc N b r u:=nZ λl hl=>by
 split
 .exact h l hl
 .exact SX 0
theorem An(h:Ok P P.n b)(G:∀l,l<P.n->0<=b.Gq P.m l):
  (su P.n λj=>P.c j*vl P b P.n j)=b.Gq P.m P.n/\(∀k,0<=Fc P.n b P.m ((P.n+k:Nat):Int))/\(∀j,j<P.n->b.s*P.c j<=su P.m λk=>Fc P.n b P.m ((P.n+k:Nat):Int)*P.R k j)/\(su P.m λk=>Fc P.n b P.m ((P.n+k:Nat):Int)*P.L k)=b.Gq P.m P.n:=by
 have w:P.Wq b P.m=P.zq:=by simp[Pb.Wq]
 refine⟨?_,λk=>Eg G _,λj a=>?_,?_⟩
 .rw[<-h.worth (Q9 P.n),show qs P.n P.n=1 from Zw (RB _),Su]
 .have z:=h.cost (Q9 P.m) a;rw[w,show P.zq j=P.c j from Zv a] at z;have:=Eg G (j:Int);lia
 .have z:=h.MP (Q9 P.m);rw[w,show P.zq P.n=0 from Zw (RB _)] at z;lia
theorem AR(h:Ok P P.n b)(hc:c<P.n)(G:b.Gq P.m c<0)(d:∀i,i<P.m->b.Gq i c<=0):Keeps { P with L:=λ_=>0 } b.s (λj=>vl P b c j)/\0<su P.n λj=>P.c j*vl P b c j:=by
 have q:qs P.n c = -1:=Zv hc;have nn:∀u,0<=vl P b c u:=Ff (λi hi=>by rw[q];have:=d i hi;lia) (SR h.pos);refine⟨⟨λj _=>nn _,λk hk=>?_⟩,?_⟩
 .have z:=h.Ft (Ru hc) hk;rw[Zw Q1] at z;have:=nn ((P.n+k:Nat):Int);show (su P.n λj=>P.R k j*vl P b c j)<=b.s*0;lia
 .rw[<-h.worth (Ru hc),q];lia
def K2(P:Pb)(b:Bo):Prop:=Ok P P.n b/\Lp P P.n b
def MB(P:Pb)(b:Bo):Nat->Int:=Rr P P.n b P.m
theorem Jz{a:Nat}(h:K2 P b)(ha:a<P.m)(hc:c<P.n)(hp:0<b.Gq a c)(G:b.Gq P.m c<0)(hm:∀i,i<P.m->0<b.Gq i c->¬ LL (P.m+1) (Rr P P.n b i) (b.Gq i c) (Rr P P.n b a) (b.Gq a c)):
  K2 P (b.turn a c)/\ms P (K2 P) (MB P) (b.turn a c)<ms P (K2 P) (MB P) b:=by
 have k:K2 P (b.turn a c):=⟨h.1.turn ha hc Q1,Lp.turn h.1 h.2 ha hc hp hm⟩
 refine⟨k,KW (λb h=>h.1.pos) (λb1 b2 h1 h2 e t=>?_) h k (h.1.Dk h.2 ha hc hp (Q9 _) Q1 G)⟩;exact h1.1.uniq h2.1 (F7 h1.1 h2.1 e) (Q9 _) (Q9 _) (by simp[Pb.Wq]) (λz=>absurd z (RB _)) (λz=>absurd z (RB _)) t
noncomputable def zg:Nat->Nat
 |0=>1
 |n+1=>(n+1)*zg n
theorem Eh{n:Nat}{B:Nat}(h:∀i,i<n->(f i).natAbs<=B):(su n f).natAbs<=n*B:=by
 induction n with
 |zero=>exact Sd _
 |succ n l=>have h1:=l λi hi=>h i Q1;have h2:=h n (by exact RM _);show (su n f+f n).natAbs<=_;simp only[Nat.add_mul,Wb];lia
theorem IA(i:Nat):(sg i).natAbs=1:=by unfold sg;split<;>rfl
theorem D.le{M:Nat}:∀{k:Nat}{v:Nat->Ve},(∀i j,i<k->j<k->(v i j).natAbs<=M)->(D k v).natAbs<=zg k*M^k
 |0,_,_=>by exact U8 _
 |k+1,v,h=>by
  refine RG (Eh (B:=M*(zg k*M^k)) λi hi=>?_) (Up ?_)
  .simp only[Sf,Sf,IA,Wb];refine WW (h i k hi Q1) (D.le λa b ha d=>?_);unfold sk;split
   .exact h a b (by exact Rw ‹_›) Q1
   .exact h _ b (by exact RS ‹_›) Q1
  .show (k+1)*(M*(zg k*M^k))=(k+1)*zg k*M^(k+1);simp only[Xl];generalize zg k=x;generalize M^k=y;simp only[VD,TY y M,<-VD M x y,TY M x,VD x M y]
variable{P:Pb}{N:Nat}{b:Bo}{M:Nat}
structure Pb.Le(P:Pb)(M:Nat):Prop where
 one:1<=M
 c:∀j,j<P.n->(P.c j).natAbs<=M
 R:∀i j,i<P.m->j<P.n->(P.R i j).natAbs<=M
 L:∀i,i<P.m->(P.L i).natAbs<=M
theorem yC(h:1<=M)(i j:Nat):(un i j).natAbs<=M:=by unfold un;split<;>simp<;>lia
theorem Ng(h:P.Le M)(B:-1<=u)(h2:u<(P.n+P.m:Nat))(j:Nat):(P.Yq u j).natAbs<=M:=by
 unfold Pb.Yq;by_cases U:u = -1
 .rw[Zv U];exact yC h.one _ _
 .rw[Zw U];by_cases D:u<P.n
  .rw[Zv D];exact yC h.one _ _
  .rw[Zw D];by_cases v:j<P.n
   .rw[Zv v,WV];exact h.R _ _ Q1 v
   .rw[Zw v];by_cases a:j=P.n
    .rw[Zv a];exact h.L _ Q1
    .rw[Zw a];exact h.one
theorem AK(h:P.Le M)(ok:Ok P N b)(i j:Nat):(P.vec N b i j).natAbs<=M:=by
 unfold Pb.vec;by_cases c:i<N
 .rw[Zv c];have:=ok.v7 (Q8 b.dn (ok.Am c));exact Ng h this.1 this.2 j
 .rw[Zw c];split<;>exact yC h.one _ _
theorem OY(h:P.Le M)(ok:Ok P N b)(i j:Nat):(P.Wq b i j).natAbs<=M:=by
 unfold Pb.Wq;by_cases c:i<P.m
 .rw[Zv c];have:=ok.v7 (Q2 b.ac (ok.Bm c));exact Ng h this.1 this.2 j
 .rw[Zw c];unfold Pb.zq;by_cases D:j<P.n
  .rw[Zv D];exact h.c j D
  .rw[Zw D];exact Sd _
theorem Ok.OC(h:P.Le M)(ok:Ok P N b):b.s.natAbs<=zg (P.n+2)*M^(P.n+2):=by rw[<-ok.det];exact D.le λi j _ _=>AK h ok i j
theorem Ok.Oa(h:P.Le M)(ok:Ok P N b)(hi:i<=P.m)(hl:l<=N):(b.Gq i l).natAbs<=zg (P.n+2)*M^(P.n+2):=by
 obtain⟨T,id⟩:=ok.id;have hN:=ok.hN;have hs:=ok.pos;have c:=D.Ji (show l<P.n+2 by lia) (id i hi);have e:=Zz XR c;simp only[Sf,Sf,Sf,ok.det] at e;have g:(qs N l).natAbs=1:=by unfold qs;split<;>rfl
 rw[g,Wb,show Gx N b T i l=b.Gq i l from Zv hl,TY] at e;have e2:=Nat.eq_of_mul_eq_mul_right (show 0<b.s.natAbs by lia) e;simp only[<-e2];refine D.le λa j _ _=>?_;unfold up;split
 .exact OY h ok i j
 .exact AK h ok a j
variable{P:Pb}{N c a k t:Nat}{b:Bo}
theorem Lo{M:Nat}(j:t<M)(h0:∀u,u<t->f u=0)(hn:f t≠0):LP M f↔0<f t:=by
 constructor
 .rintro⟨u,a,b,z⟩;rcases Wx t u with c|c|c
  .exact absurd (z t c) hn
  .rw[c];exact b
  .rw[h0 u c] at b;lia
 .exact λh=>⟨t,j,h,h0⟩
theorem Ly{M:Nat}(h0:∀u,u<M->f u=0):¬ LP M f:=λ⟨u,a,b,_⟩=>by rw[h0 u a] at b;lia
def Bw(P:Pb)(N:Nat)(b:Bo)(c i k:Nat):Prop:=LL (P.m+1) (Rr P N b i) (b.Gq i c) (Rr P N b k) (b.Gq k c)
def pD(P:Pb)(N:Nat)(b:Bo)(c k:Nat):Option Nat->Prop
 |none=>∀i,i<k->b.Gq i c<=0
 |some a=>a<k/\0<b.Gq a c/\∀i,i<k->0<b.Gq i c->¬ Bw P N b c i a
theorem pD.zero:pD P N b c 0 none:=λi hi=>by lia
theorem pD.no{f:Option Nat}(h:pD P N b c k f)(hk:b.Gq k c<=0):pD P N b c (k+1) f:=by
 cases f with
 |none=>
  intro i hi;by_cases e:i=k
  .rw[e];exact hk
  .exact h i Q1
 | some a=>exact⟨by have:=h.1;exact Rw ‹_›,h.2.1,λi hi hp=>by
   by_cases e:i=k
   .rw[e] at hp;lia
   .exact h.2.2 i Q1 hp⟩
theorem pD.one(h:pD P N b c k none)(hk:0<b.Gq k c):pD P N b c (k+1) (some k):=⟨by exact RM _,hk,λi hi hp=>by
 by_cases e:i=k
 .rw[e];exact LL.PQ
 .have:=h i Q1;lia⟩
theorem pD.keep(h:pD P N b c k (some a))(hn:¬ Bw P N b c k a):pD P N b c (k+1) (some a):=⟨by have:=h.1;exact Rw ‹_›,h.2.1,λi hi hp=>by
 by_cases e:i=k
 .rw[e];exact hn
 .exact h.2.2 i Q1 hp⟩
theorem pD.put(h:pD P N b c k (some a))(hk:0<b.Gq k c)(hn:Bw P N b c k a):pD P N b c (k+1) (some k):=⟨by lia,hk,λi hi hp=>by
 by_cases e:i=k
 .rw[e];exact LL.PQ
 .exact LL.nt hp h.2.1 hk (h.2.2 i Q1 hp) hn⟩
theorem Ok.L7(h:Ok P N b)(B:u∉b.ac)(i:Nat):Fb P N b i u=if i<P.m/\b.Bq i=u then b.s else 0:=by unfold Fb F;rw[fg λl hl=>Zw λe=>B (by rw[<-e];exact h.Am hl),Ts]
theorem uZ{n:Nat}{g:Nat->Int}(h:∀i,i<n->f i<=g i):su n f<=su n g:=by
 have:=nZ (f:=λi=>g i-f i) λi hi=>by have:=h i hi;lia
 rw[sH] at this;lia
variable{P:Pb}{s t:Int}{x y:Nat->Int}
theorem oy:(su P.n λj=>(su P.m λk=>y k*P.R k j)*x j)=su P.m λk=>y k*su P.n λj=>P.R k j*x j:=by
 rw[aS (g:=λj=>su P.m λk=>y k*(P.R k j*x j)) λj a=>by rw[RJ,<-dg];exact aS λk hk=>by grind,oN]
 exact aS λk hk=>dg
theorem weak(k:Keeps P s x)(hy:∀k,k<P.m->0<=y k)(hc:∀j,j<P.n->t*P.c j<=su P.m λk=>y k*P.R k j):t*(su P.n λj=>P.c j*x j)<=s*su P.m λk=>y k*P.L k:=by
 have a:(su P.n λj=>t*(P.c j*x j))<=su P.n λj=>(su P.m λk=>y k*P.R k j)*x j:=uZ λj Z=>by rw[<-Ue];exact Int.mul_le_mul_of_nonneg_right (hc j Z) (k.nn j Z)
 have b:(su P.m λk=>y k*su P.n λj=>P.R k j*x j)<=su P.m λk=>s*(y k*P.L k):=uZ λi hi=>by
  have:=Int.mul_le_mul_of_nonneg_left (k.le i hi) (hy i hi)
  grind
 simp only[dg] at a b;simp only[oy] at a;exact Um a b
theorem kQ(k:Keeps P s x)(hs:0<s)(hy:∀k,k<P.m->0<=y k)(hc:∀j,j<P.n->0<=su P.m λk=>y k*P.R k j)(hl:(su P.m λk=>y k*P.L k)<0):False:=by have z:=weak (P:={ P with c:=λ_=>0 }) (t:=1) ⟨k.nn,k.le⟩ hy (λj a=>by show 1*0<=_;exact hc j a);have e:(su P.n λj=>(0:Int)*x j)=0:=fg λ_ _=>SK _;have z:1*(su P.n λj=>(0:Int)*x j)<=s*su P.m λk=>y k*P.L k:=z;rw[e] at z;have:=Int.mul_neg_of_pos_of_neg hs hl;lia
theorem Ed(k:Keeps { P with L:=λ_=>0 } s x)(hs:0<=s)(G:0<su P.n λj=>P.c j*x j)(a:0<t)(hy:∀k,k<P.m->0<=y k)(hc:∀j,j<P.n->t*P.c j<=su P.m λk=>y k*P.R k j):False:=by have z:=weak (P:={ P with L:=λ_=>0 }) k hy hc;have e:(su P.m λk=>y k*(0:Int))=0:=fg λ_ _=>RQ _;have z:t*(su P.n λj=>P.c j*x j)<=s*su P.m λk=>y k*(0:Int):=z;rw[e,RQ] at z;have:=Wa a G;lia
end Sx
namespace W
open PySem L2 M
inductive X2{α D:Type}(p:α->D->Prop):Prop|mk(a:α)(b:D)(h:p a b)
inductive X3{α D γ:Type}(p:α->D->γ->Prop):Prop|mk(a:α)(b:D)(c:γ)(h:p a b c)
inductive X5{α D γ δ ε:Type}(p:α->D->γ->δ->ε->Prop):Prop|mk(a:α)(b:D)(c:γ)(d:δ)(e:ε)(h:p a b c d e)
inductive N3(a b c:Prop):Prop|mk(x:a)(y:b)(z:c)
inductive N4(a b c d:Prop):Prop|mk(x:a)(y:b)(z:c)(w:d)
inductive N6(a b c d e f:Prop):Prop|mk(x:a)(y:b)(z:c)(w:d)(u:e)(v:f)
variable{Z:List Sl}
theorem bP{x:Rr}{xs:List A}{i:Int}{a:A}(h:res Z x=some (.lst xs)\/res Z x=some (.tup xs))(e:gU xs i=some a):jU BS x (.fr (.int i)) Z=some (.ok (.fr a),Z):=by unfold jU;rcases h with h|h<;>rw[h]<;>simp only[res,BS,e]
variable{U:List Sl}{Q:Fl->List Sl->Prop}
theorem Wp.sr{m n:Ms}{s:Sl}(h:m Z=some (.rt s,U))(q:Q (.rt s) U):Wp (aC m n) Z Q:=⟨_,_,by unfold aC;rw[h],q⟩
theorem d0{t:Mi Bool}{m n:Ms}{r:Option (Fl×List Sl)}(h:t Z=some (.ok true,U))(k:m U=r):iq t m n Z=r:=sk h k
theorem cZ{t:Mi Bool}{m n:Ms}{r:Option (Fl×List Sl)}(h:t Z=some (.ok false,U))(k:n U=r):iq t m n Z=r:=sk h k
theorem HZ(i j:Int)(Z:List Sl):jU dR (.fr (.int i)) (.fr (.int j)) Z=some (.ok (.fr (.bl (decide (i=j)))),Z):=by simp only[jU,res,dR,kK]
theorem fm{m n:Ms}{r:Option (Fl×List Sl)}(h:m Z=some (.nx,U))(k:n U=r):aC m n Z=r:=by unfold aC;rw[h];exact k
variable{i:Nat}{r:Rr}{Z':List Sl}
theorem HW{a s:Sl}(h:xj r Z=some (a,U))(k:U[i]?=some s)(hn:np s=true)(e:U.set i a=Z'):Cf i r Z=some (.nx,Z'):=by rw[Ks h k hn,e]
variable{G:Mg}{e:Mi Rr}
theorem a6{n:Nat}{mi:Mi (List A)}{t:Mi Bool}{as:List A}(h:mi Z=some (.ok as,U))(k:mF n G t e as U=some (.ok r,Z')):aI n mi G t e Z=some (.ok r,Z'):=bk h k
theorem aY{m:Mi Rr}{a s:Sl}(h:m Z=some (.ok r,U))(h1:xj r U=some (a,U))(k:U[i]?=some s)(hn:np s=true)(e:U.set i a=Z'):aM i m Z=some (.nx,Z'):=yb h (HW h1 k hn e)
theorem fu{o:Option (Except Str Rr×List Sl)}{f:A->A->Option Rr}{x y:Rr}{a b:A}(h1:res Z x=some a)(h2:res Z y=some b)(k:f a b=some r):jU f x y Z=some (.ok r,Z):=by unfold jU;rw[h1,h2];dsimp only;rw[k]
theorem iM{i j:Int}{b:Bool}(h:decide (i=j)=b)(Z:List Sl):jU fS (.fr (.int i)) (.fr (.int j)) Z=some (.ok (.fr (.bl (!b))),Z):=by rw[<-h];simp only[jU,res,fS,kK]
theorem eI{i j:Int}{b:Bool}(h:decide (i=j)=b)(Z:List Sl):jU dR (.fr (.int i)) (.fr (.int j)) Z=some (.ok (.fr (.bl b)),Z):=by rw[<-h];exact HZ i j Z
theorem lB{i j:Int}(h:j≠0)(Z:List Sl):jU mU (.fr (.int i)) (.fr (.int j)) Z=some (.ok (.fr (.int (i.fmod j))),Z):=fu (o:=none) rfl rfl (Zv (by simpa using h))
theorem pR{i j:Int}(h:j≠0)(f:fits 9000 j=true)(Z:List Sl):jU kB (.fr (.int i)) (.fr (.int j)) Z=some (.ok (.fr (.int (i.fdiv j))),Z):=fu (o:=none) rfl rfl (Zv (by rw[f];simpa using h))
theorem rC{i j:Int}(h:fits 20000 i=true)(k:fits 20000 j=true)(Z:List Sl):jU bG (.fr (.int i)) (.fr (.int j)) Z=some (.ok (.fr (.int (i*j))),Z):=by have e:bG (.int i) (.int j)=some (.fr (.int (i*j))):=Zv (by simp only[h,k];rfl);exact fu (o:=none) rfl rfl e
theorem ft{n m:Nat}{i:Int}(h:L2.Bd n i)(k:n<=m):fits m i=true:=jv h k
theorem oO{f:A->Option Rr}{x:Rr}{a:A}(h:res Z x=some a)(k:f a=some r):OB f x Z=some (.ok r,Z):=by unfold OB;rw[h];dsimp only;rw[k]
theorem AE{m:Mi Rr}{x:Rr}{as:List A}(h:m Z=some (.ok x,U))(k:OQ x U=some (.ok as,Z')):cX m Z=some (.ok as,Z'):=bk h k
theorem Ep{n:Nat}{t:Mi Bool}{b:Ms}{r:Option (Fl×List Sl)}(h:dC t b n Z=r):mj n t b Z=r:=h
variable{S:List Sl}
theorem nV{mk m:Mi Rr}{H:Rr}{q:Option (Fl×List Sl)}(h:m Z=some (.ok r,S))(l:Mf S i=true)(hk:mk S=some (.ok H,U))(k:PN i r H U=q):fI i mk m Z=q:=sk h ((Zv l).trans (sk hk k))
theorem Oc{x y:Int}(h:y≠0)(d:L2.Bd 9000 y):Val fz [.int x,.int y] (.int (cd x y)):=by
 obtain⟨O,h1,q,r,rfl⟩:=wK (t:=aq (aA fS (ae 1) (au 0))) (b:=aC (aM 2 (aA mU (ae 0) (ae 1))) (aC (aM 0 (ae 1)) (aM 1 (ae 2))))
  (P:=λk Z=>X3 λp q r=>N4 (Z=[.fr (.int p),.fr (.int q),r]) (k=q.natAbs) (np r=true) ((q=0->p=cd x y)/\(q≠0->cd p q=cd x y)))
  (Q:=λZ=>X2 λq r=>Z=[.fr (.int (cd x y)),q,r]) (by
   rintro k Z ⟨p,q,r,rfl,rfl,hr,h1,h2⟩;by_cases z:q=0
   .exact .inl ⟨_,aE (ao rfl rfl (iM (Zy z) _)),_,_,by rw[<-h1 z]⟩
   .exact .inr ⟨_,[.fr (.int q),.fr (.int (p.fmod q)),.fr (.int (p.fmod q))],_,aE (ao rfl rfl (iM (Zx z) _)),.inl (fm (aY (ao rfl rfl (lB z _)) rfl rfl hr rfl) <| fm (aY rfl rfl rfl rfl rfl) (aY rfl rfl rfl rfl rfl)),Bg p z,q,p.fmod q,_,rfl,rfl,rfl,λe=>by rw[<-h2 z];exact DR z e,λe=>by rw[CK z e];exact h2 z⟩) ⟨x,y,.un,rfl,rfl,rfl,λe=>absurd e h,λ_=>rfl⟩ (IX (Rh d (UA Z1 Z1)))
 exact Val.of (Wp.df (Wp.st (Ep h1) (Wp.en (aV rfl rfl) rfl)))
def Wl(n:Int)(o:LO):Prop:=X3 λ(f c t:Int)=>N4 (o=.lst [.int f,.int c,.int t]) (f=0\/f=1) (f=0->c.natAbs<10^18) (0<=t/\t<=n)
variable{o:LO}
theorem Wl.mono{n m:Int}(h:Wl n o)(k:n<=m):Wl m o:=by obtain⟨f,c,t,h1,h2,h3,h4,h5⟩:=h;exact⟨f,c,t,h1,h2,h3,h4,by exact Um ‹_› ‹_›⟩
theorem Cs{i:Int}(h:i.natAbs<2^64):fits 20000 i=true:=jv h Z1
theorem sW{n:Int}{m:Int}(w:Wl n o)(hn:n<2^40)(m0:0<m)(I:m<2^64):X2 λr o'=>N4 (dW aB o [.int m] (.fr (.int r)) o') (0<=r) (r<m) (Wl (n+1) o'):=by
 suffices ∃s o',dW aB o [.int m] s o'/\∃r,N4 (s=.fr (.int r)) (0<=r) (r<m) (Wl (n+1) o') by obtain⟨s,o',v,r,rfl,h1,h2,h3⟩:=this;exact⟨r,o',v,h1,h2,h3⟩
 obtain⟨f,c,t,rfl,hf,hc,x,P⟩:=w
 have h:m≠0:=by exact R5 ‹_›
 refine dW.of (Wp.df ?_)
 have u:∀b,decide (f=1)=b->∀Z,aq (aA dR (mix (ae 0) (au 0)) (au 1)) (.pv (.lst [.int f,.int c,.int t])::Z)=some (.ok b,.pv (.lst [.int f,.int c,.int t])::Z):=λb d Z=>aE (ao (ao rfl rfl (bP (.inl rfl) rfl)) rfl (eI d _))
 rcases hf with rfl|rfl
 .have hc:=hc rfl
  have K:=L2.Bd.mul (show (7919*(t+1)).natAbs<2^64 by lia) (show (t+1).natAbs<2^64 by lia)
  have q:L2.Bd 130 (c+7919*(t+1)*(t+1)+(t+1)):=((L2.Bd.add (show c.natAbs<2^128 by exact mK) K).add (show (t+1).natAbs<2^128 by lia)).mono Z1
  have e1:∀i:Int,(i.fmod 2305843009213693951).natAbs<2^64:=λi=>by
   rw[Int.fmod_eq_emod_of_nonneg _ Z1]
   lia
  refine Wp.st (cZ (u false rfl _) rfl) ?_
  refine Wp.st (aY (ao (ao rfl rfl (bP (.inl rfl) rfl)) rfl rfl) rfl rfl rfl rfl) ?_
  refine Wp.st (nV rfl rfl rfl rfl) ?_
  refine Wp.st (aY (ao (ao (ao (ao (ao rfl rfl (bP (.inl rfl) rfl)) (ao (ao rfl rfl (rC (Cs Z1) (Cs Q1) _)) rfl (rC (Cs Q1) (Cs Q1) _)) rfl) rfl rfl) rfl (rC (ft q Z1) (Cs Z1) _)) rfl (lB Z1 _)) rfl rfl rfl rfl) ?_
  exact Wp.en (aV (ao (ao (ao (ao (ao rfl rfl (rC (Cs (e1 _)) (Cs Z1) _)) rfl rfl) rfl (lB Z1 _)) rfl (pR Z1 (jv (show (64:Int).natAbs<2^64 by decide) Z1) _)) rfl (lB h _)) rfl) ⟨_,_,_,rfl,rfl,_,rfl,To _ m0,US _ m0,0,c,t+1,rfl,.inl rfl,λ_=>hc,by lia,by lia⟩
 .have R:∀Z,mix (ae 0) (au 1) (.pv (.lst [.int 1,.int c,.int t])::Z)=some (.ok (.fr (.int c)),.pv (.lst [.int 1,.int c,.int t])::Z):=λZ=>ao rfl rfl (bP (.inl rfl) rfl)
  exact Wp.sr (d0 (u true rfl _) (fm (aY (ao (R _) rfl (lB h _)) rfl rfl rfl rfl) <| fm (nV (ao (R _) rfl (pR h (jv (show m.natAbs<2^64 by lia) Z1) _)) rfl rfl rfl) (aV rfl rfl))) ⟨_,.lst [.int 1,.int (c.fdiv m),.int t],_,rfl,rfl,_,rfl,To c m0,US c m0,1,c.fdiv m,t,rfl,.inr rfl,λz=>by lia,x,by lia⟩
variable{f:Ms}{o':LO}
theorem Qp{as:List A}{s:Sl}(h:dW f o as s o')(hr:jm s=some r):∀Z,dr f [] (.rf 0::as.map Rr.fr) (.pv o::Z)=some (.ok r,.pv o'::Z):=λZ=>eH h hr rfl
theorem tk{n:Int}(m:Int)(w:Wl n o)(hn:n<2^40)(m0:0<m)(I:m<2^64):X2 λr o'=>N4 (∀Z,dr aB [] [.rf 0,.fr (.int m)] (.pv o::Z)=some (.ok (.fr (.int r)),.pv o'::Z)) (0<=r) (r<m) (Wl (n+1) o'):=by obtain⟨r,o',h,h1,h2,h3⟩:=sW w hn m0 I;exact⟨r,o',Qp h rfl,h1,h2,h3⟩
theorem pw(k v:Int)(h:0<=k/\k<=1000000/\(10:Int).natAbs<2^64)(e:(10:Int)^k.toNat=v)(Z:List Sl):aA mS (au 10) (mC (.int k)) Z=some (.ok (.fr (.int v)),Z):=
 ao rfl rfl (fu (o:=none) rfl rfl (by rw[<-e];exact Zv h))
theorem AS(ns:List Int)(k:Int)(k0:0<=k)(k1:k<=1000):∃o,mY ba [.lst (ns.map A.int),.int k] o/\Wl 17000 o:=by
 have key:∀c:Int,Wl 17000 (.lst [.int (if decide (1000000000000000000<=(if c<0 then -c else c))=true then 1 else 0),.int c,.int (17*k)]):=λc=>by
  refine⟨_,c,17*k,rfl,?_,λz=>?_,by lia,by lia⟩
  .generalize decide (1000000000000000000<=(if c<0 then -c else c))=d;cases d
   .exact .inl rfl
   .exact .inr rfl
  .by_cases h:1000000000000000000<=(if c<0 then -c else c)
   .simp[h] at z
   .split at h<;>lia
 have fin:∀c:Int,Wp (bV (aP (dJ (bK fO (aA Fv (bK Cg (ae 2)) (aA mS (au 10) (au 18)))) (ae 2) (aA bG (au 17) (ae 1))))) [.fr (.lst (ns.map A.int)),.fr (.int k),.fr (.int c)] λg _=>g=.rt (.lv (.lst [.int (if decide (1000000000000000000<=(if c<0 then -c else c))=true then 1 else 0),.int c,.int (17*k)])):=λc=>Wp.en (aV (dD (af (eJ (ao rfl (pw 18 1000000000000000000 Z1 Z1 _) rfl) rfl) (af rfl (af (ao rfl rfl (rC (Cs Z1) (Cs Q1) _)) rfl))) rfl) rfl) rfl
 have u:∀b,decide (k<((ns.map A.int).length:Int))=b->aq (aA pj (ae 1) (bK cM (ae 0))) [.fr (.lst (ns.map A.int)),.fr (.int k),.fr (.int 0)]=some (.ok b,[.fr (.lst (ns.map A.int)),.fr (.int k),.fr (.int 0)]):=by rintro b rfl;rfl
 by_cases hk:k<((ns.map A.int).length:Int)
 .obtain⟨j,rfl⟩:∃j:Nat,k=j:=⟨k.toNat,by lia⟩
  have a:j<ns.length:=by rw[Q7] at hk;lia
  exact⟨_,mY.of (Wp.df (Wp.st rfl (Wp.st (d0 (u true (Zy hk)) (aY (ao rfl rfl (bP (.inl rfl) (eE (by simp only[RN,Ry a];rfl)))) rfl rfl rfl rfl)) (Wp.mono (fin ns[j]) λf _ e=>by rw[e])))),key ns[j]⟩
 .exact⟨_,mY.of (Wp.df (Wp.st rfl (Wp.st (cZ (u false (Zx hk)) rfl) (Wp.mono (fin 0) λf _ e=>by rw[e])))),key 0⟩
theorem AL{t b:Int}(h:b≠0)(D:L2.Bd 9000 b):Val cj [.int t,.int b] (nm (iw t b)):=by
 have k:=cI (Oc (x:=t) h D);have hc:=EA (x:=t) h;have f:=jv (show L2.Bd 9000 (cd t b) from Tg (Km h) D) (Q9 _);have d:∀(u:Int)(Z:List Sl),jU kB (.fr (.int u)) (.fr (.int (cd t b))) Z=some (.ok (.fr (.int (u.fdiv (cd t b)))),Z):=λu Z=>by unfold jU;simp only[res,Hu,M.oU,f,bne_iff_ne,ne_eq,hc,not_false_eq_true,Ta,decide_true,if_true]
 exact Val.of (Wp.df (Wp.st (yb (aJ rfl (k _)) rfl) (Wp.en (aV (da (af (ao rfl rfl (d _ _)) (af (ao rfl rfl (d _ _)) rfl)) rfl) rfl) rfl)))
theorem Hh{x:Sl}{t:Sl}(hi:S.length=i)(hx:∀o,x≠Sl.pv o):put i t (S++[x])=some (S++[t]):=by
 subst hi;unfold put;rw[RT (Q9 _),Uu];rw[VE];have e:(S++[x]).set S.length t=S++[t]:=by rw[Uv _ _ (Q9 _),Uu];rfl
 cases x with
 |pv o=>exact absurd rfl (hx o)
 |un=>simp only[e]
 |fr a=>simp only[e]
 |lv o=>simp only[e]
 |cf a=>simp only[e]
theorem qz{n:Nat}{t:Mi Bool}{as ys:List A}{O:List Sl}(hl:as.length<=100000)(h:dw G t e as [] (Z++Q3 n .un)=some (ys,O)):mF n G t e as Z=some (.ok (.nw (.lst ys)),O.take Z.length):=by unfold mF;rw[Zv hl,h]
variable{T:Type}
theorem aU{ts:List T}(k g:T->A)(hi:S.length=i)(hl:ts.length<=100000)(h:∀t∈ts,∃r,e (S++[.fr (k t)])=some (.ok r,S++[.fr (k t)])/\bE r (S++[.fr (k t)])=some (g t,S++[.fr (k t)])):
  mF 1 (aL i) aG e (ts.map k) S=some (.ok (.nw (.lst (ts.map g))),S):=by
 obtain⟨ys,O,h1,x,rfl,_,rfl⟩:=gZ (G:=aL i) (t:=aG) (as:=ts.map k)
  (λj acc Z=>∃x:Sl,N3 (Z=S++[x]) (∀o,x≠Sl.pv o) (acc=(ts.take j).map g)) ⟨.un,rfl,(λo z=>by cases z),rfl⟩ (by
   rintro j q acc Z N ⟨x,rfl,hx,rfl⟩;rw[RN] at N;cases a:ts[j]? with
   |none=>rw[a] at N;cases N
   | some t=>rw[a] at N;cases N;obtain⟨r,k1,k2⟩:=h t (R4 a);refine⟨S++[Sl.fr (k t)],(show put i (.fr (k t)) (S++[x])=some (S++[.fr (k t)]) from Hh hi hx),.inl ⟨_,r,_,g t,_,rfl,k1,k2,.fr (k t),rfl,(λo z=>by cases z),?_⟩⟩;simp only[UX,a,RP];rfl)
 unfold mF;rw[Zv (by rw[Q7];exact hl)];have e1:S++Q3 1 Sl.un=S++[.un]:=rfl;simp only[e1,h1];simp
theorem Ol(x:Int):Ok (x,1):=⟨by show (0:Int)<1;decide,by show Tp x 1=1;simp⟩
theorem BU(x:Num):qc (nm x) (nm x)=some true:=by rw[Gz];simp
abbrev G2(i j:Nat):Mg:=iH 2 (ck (aL i) (ck (aL j) gM))
noncomputable abbrev lI(r:List Int):A:=.lst (r.map A.int)
abbrev gI(g:List (List Int)):A:=.lst (g.map lI)
variable{j:Nat}
theorem gC{r:List Int}(h:j<r.length):gU (r.map A.int) (j:Int)=some (.int (r.getD j 0)):=
 eE (by simp[RL,h])
theorem Fh{g:List (List Int)}(h:j<g.length):gU (g.map lI) (j:Int)=some (lI (g.getD j [])):=
 eE (by simp[RL,h])
variable{α:Type}
theorem zO{xs:List α}{n:Nat}{v:α}(h:xs.length=n+1)(e:xs[n]?=some v):gU xs (-1)=some v:=by
 have k:L2.fV xs.length (-1)=some n:=by
  unfold L2.fV;rw[Zw Z1,Zv Q1]
  congr 1;lia
 unfold gU;rw[k];exact e
theorem oZ{r:List Int}{n:Nat}(h:r.length=n+1):gU (r.map A.int) (-1)=some (.int (r.getD n 0)):=
 zO (by simpa using h) (by simp[RL,h])
theorem BF{g:List (List Int)}{n:Nat}(h:g.length=n+1):gU (g.map lI) (-1)=some (lI (g.getD n [])):=
 zO (by simpa using h) (by simp[RL,h])
theorem Gg{xs:List A}{n:Nat}(h:xs.length=n+1):gP xs none (some (-1))=xs.take n:=by
 have e:HT.dk xs.length xs.length (some (-1))=n:=by unfold HT.dk;simp[h];lia
 have Q:HT.dk xs.length 0 none=0:=rfl;unfold gP;simp only[e,Q,VV,WS]
theorem gi{D:Type}{k:α->A}{l:D->A}(xs:List α)(ys:List D):pd (xs.map k) (ys.map l)=(xs.zip ys).map λp=>.tup [k p.1,l p.2]:=by unfold pd;simp only[List.zip_map,RK];rfl
variable{tl:List Sl}
theorem iE{x t:Sl}(hi:S.length=i)(hx:np x=true):put i t (S++x::tl)=some (S++t::tl):=by subst hi;rw[EK,RT (Q9 _),Uu];simp only[VE,hx,if_true];rw[Uv _ _ (Q9 _),Uu];rfl
theorem ue{x y:Sl}{a b:A}(hi:S.length=i)(hx:np x=true)(hy:np y=true):G2 i (i+1) (.tup [a,b]) (S++x::y::tl)=some (S++.fr a::.fr b::tl):=by
 have e1:=iE (tl:=y::tl) (t:=.fr a) hi hx;have e2:=iE (S:=S++[.fr a]) (i:=i+1) (tl:=tl) (t:=.fr b) (by simp[hi]) hy;simp only[Q6,Q6] at e2;have L:iH 2 (ck (aL i) (ck (aL (i+1)) gM)) (.tup [a,b]) (S++x::y::tl)=some (S++.fr a::.fr b::tl):=by show ck (aL i) (ck (aL (i+1)) gM) [a,b] _=_;unfold ck;simp only[aL,e1];show (match put (i+1) (Sl.fr b) (S++([Sl.fr a]++y::tl)) with|some U=>gM [] U|none=>none)=_;rw[e2];rfl
 exact L
theorem nU{ts:List T}(k1 k2 g:T->A)(hi:S.length=i)(hl:ts.length<=100000)
  (h:∀t∈ts,∃r,e (S++[.fr (k1 t),.fr (k2 t)])=some (.ok r,S++[.fr (k1 t),.fr (k2 t)])/\bE r (S++[.fr (k1 t),.fr (k2 t)])=some (g t,S++[.fr (k1 t),.fr (k2 t)])):
  mF 2 (G2 i (i+1)) aG e (ts.map λt=>.tup [k1 t,k2 t]) S=some (.ok (.nw (.lst (ts.map g))),S):=by
 obtain⟨ys,O,h1,x,y,rfl,_,_,rfl⟩:=gZ (G:=G2 i (i+1)) (t:=aG) (as:=ts.map λt=>.tup [k1 t,k2 t])
  (λj acc Z=>X2 λ(x y:Sl)=>N4 (Z=S++[x,y]) (np x=true) (np y=true) (acc=(ts.take j).map g)) ⟨.un,.un,rfl,rfl,rfl,rfl⟩ (by
   rintro j q acc Z N ⟨x,y,rfl,hx,hy,rfl⟩;rw[RN] at N;cases a:ts[j]? with
   |none=>rw[a] at N;cases N
   | some p=>rw[a] at N;cases N;obtain⟨r,k1,k2⟩:=h p (R4 a);refine⟨_,ue hi hx hy,.inl ⟨_,r,_,g p,_,rfl,k1,k2,_,_,rfl,rfl,rfl,?_⟩⟩;rw[UX,a,RP];rfl)
 unfold mF;rw[Zv (by rw[Q7];exact hl)];have e1:S++Q3 2 Sl.un=S++[.un,.un]:=rfl;rw[e1,h1];simp
theorem E8{r:List Int}(hl:r.length<=100000):mY bH [lI r] (.lst ((Sx.iS r).map A.int)):=
 mY.of (Wp.df (Wp.en (aV (a6 rfl (aU (k:=A.int) (λx=>.int (-x)) rfl hl λx _=>⟨_,rfl,rfl⟩)) rfl) (by unfold Sx.iS;simp only[RK];rfl)))
variable{c:Nat}
theorem fe{r:List Int}(h:c<r.length):r.getD c 0∈r:=by simp[RL,h]
variable{pr:List Int}{s:Int}{N:Nat}
theorem HI{row:List Int}(h1:row.length=N+1)(h2:pr.length=N+1)(hc:c<N+1)(hN:N<100)(hs:s≠0)(bs:L2.Bd 1400 s)(K:∀x∈row,L2.Bd 1400 x)(r:∀x∈pr,L2.Bd 1400 x):
  mY eG [lI row,lI pr,.int c,.int s] (.lst ((Sx.j7 row pr c s).map A.int)):=by
 have fp:=ft (r _ (fe (show c<pr.length by lia))) (show 1400<=20000 by decide);have m:=ft (K _ (fe (show c<row.length by lia))) (show 1400<=20000 by decide);have fs:=ft bs (show 1400<=9000 by decide);have i:∀Z:List Sl,mix (ae 1) (ae 2) (.fr (lI row)::.fr (lI pr)::.fr (.int c)::Z)=some (.ok (.fr (.int (pr.getD c 0))),.fr (lI row)::.fr (lI pr)::.fr (.int c)::Z):=λZ=>ao rfl rfl (bP (.inl rfl) (gC Q1));have j:∀Z:List Sl,mix (ae 0) (ae 2) (.fr (lI row)::.fr (lI pr)::.fr (.int c)::Z)=some (.ok (.fr (.int (row.getD c 0))),.fr (lI row)::.fr (lI pr)::.fr (.int c)::Z):=λZ=>ao rfl rfl (bP (.inl rfl) (gC Q1));have h:row.length<=100000:=by lia
 generalize g:pr.getD c 0=p at i fp;generalize Q:row.getD c 0=f at j m;refine mY.of (Wp.df (Wp.st (aY (i _) rfl rfl rfl rfl) (Wp.st (aY (j _) rfl rfl rfl rfl) ?_)));have u:∀b,decide (f=0)=b->∀x:Sl,aq (aA dR (ae 5) (au 0)) [.fr (lI row),.fr (lI pr),.fr (.int c),.fr (.int s),.fr (.int p),.fr (.int f),x]=some (.ok b,[.fr (lI row),.fr (lI pr),.fr (.int c),.fr (.int s),.fr (.int p),.fr (.int f),x]):=λb d x=>aE (ao rfl rfl (eI d _));by_cases z:f=0
 .refine Wp.sr (d0 (u true (Zy z) _) (aV (a6 rfl (aU (k:=A.int) (λx=>.int ((p*x).fdiv s)) rfl h λx hx=>⟨_,ao (ao rfl rfl (rC fp (ft (K x hx) Z1) _)) rfl (pR hs fs _),rfl⟩)) rfl)) ?_;unfold Sx.j7;rw[g,Q,Zv z,RK];rfl
 .refine Wp.st (cZ (u false (Zx z) _) rfl) ?_;refine Wp.st (aY (a6 ?_ (nU (S:=[.fr (lI row),.fr (lI pr),.fr (.int c),.fr (.int s),.fr (.int p),.fr (.int f),.un]) (λt=>.int t.1) (λt=>.int t.2) (λt=>.int ((p*t.1-f*t.2).fdiv s)) rfl (by rw[TL];lia) λt a=>⟨_,ao (ao (ao rfl rfl (rC fp (ft (K _ (Td a).1) Z1) _)) (ao rfl rfl (rC m (ft (r _ (Td a).2) Z1) _)) rfl) rfl (pR hs fs _),rfl⟩)) rfl rfl rfl rfl) ?_
  .rw[<-gi];rfl
  .have O:c<((row.zip pr).map λt=>A.int ((p*t.1-f*t.2).fdiv s)).length:=by simp only[Q7,TL];lia
   have k:L2.fV ((row.zip pr).map λt=>A.int ((p*t.1-f*t.2).fdiv s)).length (c:Int)=some c:=by unfold L2.fV;rw[Zv Z3,Zv Q1];simp
   refine Wp.st (nV rfl rfl rfl (q:=some (.nx,[.fr (lI row),.fr (lI pr),.fr (.int c),.fr (.int s),.fr (.int p),.fr (.int f),.lv (.lst (((row.zip pr).map λt=>A.int ((p*t.1-f*t.2).fdiv s)).set c (.int (-f))))])) ?_) (Wp.en (aV rfl rfl) ?_)
   .show (match L2.fV ((row.zip pr).map λt=>A.int ((p*t.1-f*t.2).fdiv s)).length (c:Int) with|some n=>_|none=>_)=_;rw[k];rfl
   .unfold Sx.j7;rw[g,Q,Zw z,Ul,RK];rfl
theorem A9{m n:Mi Rr}{q:Option (Except Str Rr×List Sl)}(h:aq m Z=some (.ok true,U))(k:n U=q):kh m n Z=q:=by simp only[Jb,h];exact k
theorem dz{m:Mi Rr}{n:Nat}(h:m Z=some (.ok (.fr (.int n)),U))(hn:n<=100000):bq m Z=some (.ok (bp 0 n),U):=by refine bk h ?_;show (if -(2^60)<=(n:Int)/\(n:Int)<2^60 then some (RU (bp 0 (n:Int).toNat),U) else none)=_;rw[Zv Q1];rfl
noncomputable def vA:Rr->A
 | .fr a=>a
 | .nw o=>o.a
 | .rf _=>.non
noncomputable def Bs:Rr->Bool
 | .rf _=>false
 |_=>true
theorem kM(Z:List Sl):∀rs:List Rr,rs.all Bs=true->bU rs Z=some ((rs.map vA).map Sl.fr,Z)
 |[],_=>rfl
 |r::rs,h=>by
  simp only[Rt,QZ] at h;have e:take1 r Z=some (.fr (vA r),Z):=by
   cases r with
   |rf i=>cases h.1
   |fr a=>rfl
   |nw o=>rfl
  unfold bU;rw[e];dsimp only;rw[kM Z rs h.2];rfl
theorem yP(S Z:List Sl):∀(rs:List Rr)(ss:List Sl),rs.all Bs=true->rs.length=ss.length->putL S rs ss Z=some Z
 |[],[],_,_=>rfl
 |r::rs,s::ss,h,l=>by
  simp only[Rt,QZ] at h;unfold putL;simp only[yP S Z rs ss h.2 (Vq l)];cases r with
  |rf i=>cases h.1
  |fr a=>rfl
  |nw o=>rfl
variable{rs:List Rr}
theorem jk{a:A}(t:rs.all Bs=true)(h:Val f (rs.map vA) a)(Z:List Sl):dr f [] rs Z=some (.ok (.fr a),Z):=by obtain⟨O,h⟩:=h;unfold dr;rw[SY,RX,kM Z rs t];dsimp only;rw[jO,h];dsimp only;rw[yP _ _ _ _ t (by rw[bC,Q7,Q7])];rfl
abbrev nS(n:Nat)(s:Int)(v:Nat->Int):A:=.tup ((Rp n).map λj=>nm (iw (v j) s))
abbrev V9(n:Nat)(v:Nat->Int):Prop:=∀j,j<n->L2.Bd 2900 (v j)
theorem Fw{f:Nat->Int}{b:Nat}:∀{n:Nat},(∀j,j<n->L2.Bd b (f j))->n<=2^10->L2.Bd (b+10) (Sx.su n f):=by
 intro n h hn;have h1:=λj a=>Ru (h j a);by_cases z:n=0
 .subst z;exact TH Z1
 .have:∀j,j<n->(f j).natAbs<=2^b-1:=λj a=>by have:=h j a;unfold L2.Bd at this;lia
  have h3:=Sx.Eh this;have:n*(2^b-1)<n*2^b:=Nat.mul_lt_mul_of_pos_left (by have:=TH (n:=b) (show 0<2 by decide);lia) Q1;show (Sx.su n f).natAbs<2^(b+10);rw[V8];have:n*2^b<=2^b*2^10:=by rw[TY];exact Nat.mul_le_mul_left _ hn
  lia
theorem Cq(i j:Str):qc (.str i) (.str j)=some (decide (i=j)):=by unfold qc;exact Zv (Sd 40)
inductive Told(c:List Int)(R:List (List Int))(L:List Int):A->Prop
 | best {s w:Int} {x y:Nat->Int} (hs:0<s) (bs:L2.Bd 2900 s) (hx:V9 c.length x) (hy:V9 R.length y) (bw:L2.Bd 2900 w) (x0:∀j,j<c.length->0<=x j) (y0:∀k,k<R.length->0<=y k)
  (keep:∀i,i<R.length->(Sx.su c.length λj=>(R.getD i []).getD j 0*x j)<=L.getD i 0*s) (xh:∀j,j<c.length->c.getD j 0*s<=Sx.su R.length λk=>(R.getD k []).getD j 0*y k)
  (e1:(Sx.su c.length λj=>c.getD j 0*x j)=w) (e2:(Sx.su R.length λk=>L.getD k 0*y k)=w):Told c R L (.tup [.str "best",nm (iw w s),nS c.length s x,nS R.length s y])
 | opn {s:Int} {x z:Nat->Int} (hs:0<s) (bs:L2.Bd 2900 s) (hx:V9 c.length x) (hz:V9 c.length z) (x0:∀j,j<c.length->0<=x j) (z0:∀j,j<c.length->0<=z j)
  (keep:∀i,i<R.length->(Sx.su c.length λj=>(R.getD i []).getD j 0*x j)<=L.getD i 0*s) (still:∀i,i<R.length->(Sx.su c.length λj=>(R.getD i []).getD j 0*z j)<=0)
  (Dk:0<Sx.su c.length λj=>c.getD j 0*z j):Told c R L (.tup [.str "open",nS c.length s x,nS c.length s z])
 | non {s:Int} {y:Nat->Int} (hs:0<s) (bs:L2.Bd 2900 s) (hy:V9 R.length y) (y0:∀k,k<R.length->0<=y k)
  (xh:∀j,j<c.length->0<=Sx.su R.length λk=>(R.getD k []).getD j 0*y k) (less:(Sx.su R.length λk=>L.getD k 0*y k)<0):Told c R L (.tup [.str "none",nS R.length s y])
structure kE(M:Nat)(c:List Int)(R:List (List Int))(L:List Int):Prop where
 n:c.length<=48
 m:R.length<=48
 l:L.length=R.length
 r:∀r∈R,r.length=c.length
 bc:∀x∈c,x.natAbs<=M
 br:∀r∈R,∀x∈r,x.natAbs<=M
 bl:∀x∈L,x.natAbs<=M
 m0:0<M
 fb:Sx.zg (c.length+2)*M^(c.length+2)<2^1400
abbrev bA(n m:Nat)(b:Sx.Bo):A:=.obj "Board" [("long",.int n),("many",.int m),("scale",.int b.s),("grid",gI b.g),("across",lI b.ac),("down",lI b.dn)]
def bO(n m:Nat)(b:Sx.Bo):LO:=.nob "Board" [("long",.int n),("many",.int m),("scale",.int b.s),("grid",gI b.g)] [("across",b.ac.map A.int),("down",b.dn.map A.int)]
def eN(f:Ms)(as:List A)(a:A):Prop:=∃Z,f (as.map Sl.fr)=some (.rt (.fr a),Z)/\Z.all np=true
theorem eN.v{as:List A}{a:A}(h:eN f as a):Val f as a:=by obtain⟨Z,h,_⟩:=h;exact⟨Z,h⟩
theorem eN.of{as:List A}{a:A}(k:Wp f (as.map Sl.fr) λg Z=>g=.rt (.fr a)/\Z.all np=true):eN f as a:=by obtain⟨g,Z,h,rfl,h2⟩:=k;exact⟨Z,h,h2⟩
theorem eN.P9{as:List A}{R:A->Prop}(k:Wp f (as.map Sl.fr) λg Z=>X2 λ(a:A)(_:Unit)=>N3 (g=.rt (.fr a)) (Z.all np=true) (R a)):∃a,eN f as a/\R a:=by obtain⟨g,Z,h,a,_,rfl,h2,h3⟩:=k;exact⟨a,⟨Z,h,h2⟩,h3⟩
structure Bb(n m N:Nat)(b:Sx.Bo):Prop where
 sh:Sx.Sh N m b
 hN:N<=49
 hn:n<=48
 hm:m<=48
 bg:∀r∈b.g,∀x∈r,L2.Bd 1400 x
 bs:L2.Bd 1400 b.s
 pos:0<b.s
section
variable{n m N:Nat}{b:Sx.Bo}(h:Bb n m N b)
include h
theorem Bb.gb{l:Nat}(hi:i<=m)(hl:l<=N):L2.Bd 1400 (b.Gq i l):=by have z:=h.sh.row hi;exact h.bg _ (Sx.getD_mem (by rw[h.sh.g];exact RS ‹_›)) _ (fe Q1)
theorem Bb.rowAt(hi:i<=m)(Z:List Sl)(a:(.fr (bA n m b)::Z)[j]?=some (.fr (.int i))):mix AC (ae j) (.fr (bA n m b)::Z)=some (.ok (.fr (lI (b.g.getD i []))),.fr (bA n m b)::Z):=
 ao rfl (show ae j _=some (.ok (.fr (.int i)),_) by unfold ae;simp only[a]) (bP (.inl rfl) (Fh (by rw[h.sh.g];lia)))
theorem Bb.at2{l:Nat}(hi:i<=m)(hl:l<=N)(Z:List Sl){k:Nat}(a:(.fr (bA n m b)::Z)[j]?=some (.fr (.int i)))(hk:(.fr (bA n m b)::Z)[k]?=some (.fr (.int l))):mix (mix AC (ae j)) (ae k) (.fr (bA n m b)::Z)=some (.ok (.fr (.int (b.Gq i l))),.fr (bA n m b)::Z):=
 ao (h.rowAt hi Z a) (show ae k _=some (.ok (.fr (.int l)),_) by unfold ae;simp only[hk]) (bP (.inl rfl) (gC (by rw[h.sh.row hi];exact RS ‹_›)))
theorem Bb.last(hi:i<=m)(Z:List Sl)(a:(.fr (bA n m b)::Z)[j]?=some (.fr (.int i))):mix (mix AC (ae j)) (aT bY (au 1)) (.fr (bA n m b)::Z)=some (.ok (.fr (.int (b.Gq i N))),.fr (bA n m b)::Z):=
 ao (h.rowAt hi Z a) rfl (bP (.inl rfl) (oZ (h.sh.row hi)))
end
theorem vp{m:Mi Rr}{xs:List A}{n:Nat}(h:m Z=some (.ok (.fr (.lst xs)),Z))(hl:xs.length=n+1):cO m aK (bx (aT bY (au 1))) Z=some (.ok (.nw (.lst (xs.take n))),Z):=by refine bk h (bk rfl (bk rfl ?_));show some (RU (Rr.nw (.lst (gP xs none (some (-1))))),Z)=_;rw[Gg hl]
theorem AQ{k:Nat}:∀{xs:List Int},(∀x∈xs,L2.Bd k x)->xs.sum.natAbs<=xs.length*(2^k-1)
 |[],_=>by exact Sd _
 |x::xs,h=>by have h1:=AQ λy hy=>h y (Q5 _ hy);have h2:x.natAbs<2^k:=h x Rg;simp only[List.sum_cons,Rb,Xi];lia
variable{xs:List Int}
theorem BH{k:Nat}(h:∀x∈xs,L2.Bd k x)(l:xs.length<=2^10):L2.Bd (k+10) xs.sum:=by have h1:=AQ h;have h2:xs.length*(2^k-1)<=2^10*(2^k-1):=Nat.mul_le_mul_right _ l;have h3:0<2^k:=TH Z1;show xs.sum.natAbs<2^(k+10);simp only[V8];lia
noncomputable def stI(m:Nat)(b:Sx.Bo)(c:Nat):Int:=b.s*b.s+((b.g.take m).map λr=>r.getD c 0*r.getD c 0).sum
section
variable{n m N:Nat}{b:Sx.Bo}(h:Bb n m N b)
include h
theorem Bb.sb(hc:c<=N):L2.Bd 2820 (stI m b c):=by
 have h1:=h.bs.mul h.bs;have h2:L2.Bd 2810 ((b.g.take m).map λr=>r.getD c 0*r.getD c 0).sum:=BH (λx hx=>by obtain⟨r,hr,rfl⟩:=RY.mp hx;have hr:=SW hr;have:=h.bg r hr _ (fe (c:=c) (by have:=h.sh.r r hr;lia));exact this.mul this) (by have:=h.hm;simp;lia)
 exact(L2.Bd.add (h1.mono (show 2800<=2810 by decide)) h2).mono (show max 2810 2810+1<=2820 by decide)
theorem xR(hc:c<=N):Val eQ [bA n m b,.int c] (.int (stI m b c)):=by
 have hm:=h.hm;have G:=h.sh.g;have fs:=ft h.bs (show 1400<=20000 by decide);have e1:cX (cO AC aK (bx (aT bY (au 1)))) [.fr (bA n m b),.fr (.int c)]=some (.ok ((b.g.take m).map lI),[.fr (bA n m b),.fr (.int c)]):=by refine AE (vp rfl (by rw[Q7,G])) ?_;rw[<-Ub];rfl
 have e2:=aU (ts:=b.g.take m) (k:=lI) (S:=[.fr (bA n m b),.fr (.int c)]) (λr=>.int (r.getD c 0*r.getD c 0)) rfl (by simp;lia) λr hr=>by
  have hr:=SW hr;have l:=h.sh.r r hr;have k:∀Z:List Sl,Z=[.fr (bA n m b),.fr (.int c),.fr (lI r)]->mix (ae 2) (ae 1) Z=some (.ok (.fr (.int (r.getD c 0))),Z):=by rintro Z rfl;exact ao rfl rfl (bP (.inl rfl) (gC Q1))
  have f:=ft (h.bg r hr _ (fe (c:=c) Q1)) (show 1400<=20000 by decide);exact⟨_,ao (k _ rfl) (k _ rfl) (rC f f _),rfl⟩
 refine Val.of (Wp.df (Wp.en (aV (ao (ao rfl rfl (rC fs fs _)) (eJ (a6 e1 e2) (oO (r:=.fr (.int ((b.g.take m).map λr=>r.getD c 0*r.getD c 0).sum)) rfl ?_)) rfl) rfl) rfl));rw[show (b.g.take m).map (λr=>A.int (r.getD c 0*r.getD c 0))=((b.g.take m).map λr=>r.getD c 0*r.getD c 0).map A.int by simp only[RK];rfl];unfold mV;dsimp only;rw[kW]
end
abbrev IS(o:A)(gs:List Int)(f:A)(a q:Int)(x4 x5 x6:Sl):List Sl:=[.fr o,.fr (lI gs),.fr f,.fr (.tup [.int a,.int q]),x4,x5,x6]
theorem iB{i j:Int}{b:Bool}(h:decide (j<i)=b)(Z:List Sl):jU rQ (.fr (.int i)) (.fr (.int j)) Z=some (.ok (.fr (.bl b)),Z):=by rw[<-h];rfl
theorem jD{i j:Int}{b:Bool}(h:decide (i<j)=b)(Z:List Sl):jU pj (.fr (.int i)) (.fr (.int j)) Z=some (.ok (.fr (.bl b)),Z):=by rw[<-h];rfl
def Gn(gs:List Int)(i:Nat)(f:A)(a q:Int):Prop:=(f=.non/\a=0/\q=1/\∀j,j<i->gs.getD j 0<=0)\/∃k:Nat,k<i/\f=.int k/\0<gs.getD k 0/\L2.Bd 2820 a/\L2.Bd 2820 q
variable{gs:List Int}{q:Int}
theorem Gn.bd{f:A}{a:Int}(h:Gn gs i f a q):L2.Bd 2820 a/\L2.Bd 2820 q:=by
 rcases h with ⟨_,rfl,rfl,_⟩|⟨k,_,_,_,h⟩
 .exact⟨TH Z1,show (1:Int).natAbs<2^2820 by decide +kernel⟩
 .exact h
theorem Gn.no{f:A}{a:Int}(h:Gn gs i f a q)(hi:gs.getD i 0<=0):Gn gs (i+1) f a q:=by
 rcases h with ⟨h1,h2,h3,h4⟩|⟨k,h1,h2⟩
 .exact .inl ⟨h1,h2,h3,λj Z=>by
   by_cases e:j=i
   .rw[e];exact hi
   .exact h4 j Q1⟩
 .exact .inr ⟨k,by exact Rw ‹_›,h2⟩
theorem GF{n m:Nat}{b:Sx.Bo}(h:Bb n m N b)(J:gs.length<=N)(bg:∀x∈gs,L2.Bd 1400 x):∃f,eN cg [bA n m b,lI gs] f/\((f=.non/\∀j,j<gs.length->gs.getD j 0<=0)\/∃k:Nat,f=.int k/\k<gs.length/\0<gs.getD k 0):=by
 refine eN.P9 (Wp.df (Wp.st rfl (Wp.st (aY (da (af rfl (af rfl rfl)) rfl) rfl rfl rfl rfl) (Wp.sq (Wp.fr (G:=G2 4 5) (as:=lV 0 (gs.map A.int))
  (λi Z=>X5 λ(f:A)(a q:Int)(x4 x5:Sl)=>∃x6,N4 (Z=IS (bA n m b) gs f a q x4 x5 x6) (np x4=true/\np x5=true) (np x6=true) (Gn gs i f a q)) rfl ⟨.non,0,1,.un,.un,.un,rfl,⟨rfl,rfl⟩,rfl,.inl ⟨rfl,rfl,rfl,λj Q=>absurd Q (Sn j)⟩⟩ ?_ ?_)))))
 .rintro i a0 Z ha ⟨f,a,q,x4,x5,x6,rfl,⟨h4,h5⟩,I,g⟩;obtain⟨d,hd,rfl⟩:=lH _ _ _ _ ha;rw[RN] at hd;have hi:i<gs.length:=by
   cases e:gs[i]? with
   |none=>rw[e] at hd;cases hd
   |some x=>exact(Q4.mp e).1
  rw[Ry hi] at hd;cases hd;have o:gs[i]=gs.getD i 0:=by simp[RL,hi]
  rw[o];have z:=bg _ (fe hi);generalize L:gs.getD i 0=v at z;rw[U6];refine⟨_,ue (S:=[.fr (bA n m b),.fr (lI gs),.fr f,.fr (.tup [.int a,.int q])]) (tl:=[x6]) rfl h4 h5,?_⟩;have P:∀t,decide (0<v)=t->aq (aA rQ (ae 5) (au 0)) (IS (bA n m b) gs f a q (.fr (.int (i:Nat))) (.fr (.int v)) x6)=some (.ok t,IS (bA n m b) gs f a q (.fr (.int (i:Nat))) (.fr (.int v)) x6):=λt T=>aE (ao rfl rfl (iB T _));by_cases U:0<v
  .have y:=ft z (show 1400<=20000 by decide);have r:L2.Bd 2800 (v*v):=z.mul z;have bs:=h.sb (c:=i) Q1;have X:=ft r (show 2800<=20000 by decide);have V:=ft bs (show 2820<=20000 by decide);have H:=ft g.bd.1 (show 2820<=20000 by decide);have p:=ft g.bd.2 (show 2820<=20000 by decide);have C:aM 6 (cL (bN (aA bG (ae 5) (ae 5)) (bz eQ (bN (bX "Board" "stride" (ai 0)) (ai 4))))) (IS (bA n m b) gs f a q (.fr (.int (i:Nat))) (.fr (.int v)) x6)=some (.nx,IS (bA n m b) gs f a q (.fr (.int (i:Nat))) (.fr (.int v)) (.fr (.tup [.int (v*v),.int (stI m b i)]))):=
    aY (da (af (ao rfl rfl (rC y y _)) (af (aJ (af (jJ rfl rfl) (af rfl rfl)) (cI (xR h (c:=i) Q1) _)) rfl)) rfl) rfl rfl I rfl
   have E:∀t,decide (a*stI m b i<v*v*q)=t->aq (aA rQ (aA bG (mix (ae 6) (au 0)) (mix (ae 3) (au 1))) (aA bG (mix (ae 3) (au 0)) (mix (ae 6) (au 1)))) (IS (bA n m b) gs f a q (.fr (.int (i:Nat))) (.fr (.int v)) (.fr (.tup [.int (v*v),.int (stI m b i)])))=some (.ok t,IS (bA n m b) gs f a q (.fr (.int (i:Nat))) (.fr (.int v)) (.fr (.tup [.int (v*v),.int (stI m b i)]))):=
    λt T=>aE (ao (ao (ao rfl rfl (bP (.inr rfl) rfl)) (ao rfl rfl (bP (.inr rfl) rfl)) (rC X p _)) (ao (ao rfl rfl (bP (.inr rfl) rfl)) (ao rfl rfl (bP (.inr rfl) rfl)) (rC H V _)) (iB T _))
   by_cases D:a*stI m b i<v*v*q
   .exact Wp.en (d0 (P true (Zy U)) (fm C (d0 (E true (Zy D)) (fm (aY rfl rfl rfl rfl rfl) (aY rfl rfl rfl rfl rfl))))) ⟨.inl rfl,_,_,_,_,_,_,rfl,⟨rfl,rfl⟩,rfl,.inr ⟨i,by exact RM _,rfl,by rw[L];exact U,r.mono Z1,bs⟩⟩
   .refine Wp.en (d0 (P true (Zy U)) (fm C (cZ (E false (Zx D)) rfl))) ⟨.inl rfl,_,_,_,_,_,_,rfl,⟨rfl,rfl⟩,rfl,?_⟩;rcases g with ⟨_,rfl,rfl,_⟩|⟨k,R,F⟩
    .exact absurd (by rw[SK,Uy];exact Wa U U) D
    .exact .inr ⟨k,by lia,F⟩
  .exact Wp.en (cZ (P false (Zx U)) rfl) ⟨.inl rfl,_,_,_,_,_,_,rfl,⟨rfl,rfl⟩,I,g.no Q1⟩
 .rintro O ⟨f,a,q,x4,x5,x6,rfl,⟨h4,h5⟩,I,g⟩;rw[jS,Q7] at g;refine⟨rfl,Wp.en (aV rfl rfl) ⟨f,(),rfl,by simp only[Rt,TU,u9,h4,h5,I,UN],?_⟩⟩;rcases g with ⟨h1,_,_,h2⟩|⟨k,R,F,s,_⟩
  .exact .inl ⟨h1,h2⟩
  .exact .inr ⟨k,F,R,s⟩
theorem qV:∀ns:List Int,jl (ns.map A.int)=some ns
 |[]=>rfl
 |n::ns=>by simp only[RO,jl,qV ns]
theorem Ap{u:Int}:∀{xs:List Int},u∈xs->yw xs u=some (xs.idxOf u)
 |a::r,h=>by
  unfold yw;rw[List.idxOf_cons];by_cases e:a=u
  .rw[Zv e,ZA.mpr e];rfl
  .have hr:u∈r:=by
    rcases Rc.mp h with z|z
    .exact absurd z.symm e
    .exact z
   rw[Zw e,beq_eq_false_iff_ne.mpr e,Ap hr];rfl
theorem xp(u:Int)(xs:List Int):J8 false (.int u) (xs.map A.int)=some (.fr (.bl (decide (u∈xs)))):=by
 unfold J8;have h1:(jF (.int u)&&(xs.map A.int).all jF)=true:=by rw[VL];simp[jF]
 rw[Zv h1]
 congr 3
 show E4 (kD (.int u)) ((xs.map A.int).map kD)=_;unfold E4;rw[RK,VM];rw[WE,WA,decide_eq_true_eq];constructor
 .rintro⟨x,hx,e⟩;rw[ZA.mp e] at hx;exact hx
 .exact λhx=>⟨u,hx,by show (u==u)=true;simp⟩
theorem He{u:Int}{c:Bool}(h:decide (u∈xs)=c)(Z:List Sl):jU (pK false) (.fr (.int u)) (.fr (lI xs)) Z=some (.ok (.fr (.bl c)),Z):=by exact fu (o:=none) rfl rfl (by rw[<-h];exact xp u xs)
def rp(b:Sx.Bo)(i:Nat)(u:Int):Int:=if u∈b.ac then b.Gq i (b.ac.idxOf u) else if b.Bq i=u then b.s else 0
section
variable{n m N:Nat}{b:Sx.Bo}(h:Bb n m N b)
include h
theorem Ej(hi:i<m)(u:Int):Val bI [bA n m b,.int i,.int u] (.int (rp b i u)):=by
 have P:∀c,decide (u∈b.ac)=c->aq (aA (pK false) (ae 2) (aT (ay ["Board"] "across") (ae 0))) [.fr (bA n m b),.fr (.int i),.fr (.int u)]=some (.ok c,[.fr (bA n m b),.fr (.int i),.fr (.int u)]):=λc hc=>aE (ao rfl rfl (He hc _));unfold rp;by_cases U:u∈b.ac
 .rw[Zv U];have hl:=TV U;rw[h.sh.ac] at hl;have z:uz (aT (ay ["Board"] "across") (ae 0)) (ae 2) [.fr (bA n m b),.fr (.int i),.fr (.int u)]=some (.ok (.fr (.int (b.ac.idxOf u))),[.fr (bA n m b),.fr (.int i),.fr (.int u)]):=by
   have e:yG (lI b.ac) (.int u)=some (.fr (.int (b.ac.idxOf u))):=by unfold yG;dsimp only;rw[qV];dsimp only;rw[Ap U]
   refine bk rfl ?_;refine Eq.trans (Zv rfl) ?_;show (match yG (lI b.ac) (.int u) with|some q=>_|none=>_)=_;simp only[e]
  exact Val.of (Wp.df (Wp.sr (d0 (P true (Zy U)) (aV (ao (h.rowAt Q1 _ rfl) z (bP (.inl rfl) (gC (by rw[h.sh.row Q1];exact Rw ‹_›)))) rfl)) rfl))
 .rw[Zw U];have E:∀c,decide (b.Bq i=u)=c->aq (aA dR (mix (aT (ay ["Board"] "down") (ae 0)) (ae 1)) (ae 2)) [.fr (bA n m b),.fr (.int i),.fr (.int u)]=some (.ok c,[.fr (bA n m b),.fr (.int i),.fr (.int u)]):=λc hc=>aE (ao (ao rfl rfl (bP (.inl rfl) (gC (by rw[h.sh.dn];exact hi)))) rfl (eI hc _));refine Val.of (Wp.df (Wp.st (cZ (P false (Zx U)) rfl) ?_));by_cases D:b.Bq i=u
  .rw[Zv D];exact Wp.en (aV (by rw[NF,E true (Zy D)];rfl) rfl) rfl
  .rw[Zw D];exact Wp.en (aV (by rw[NF,E false (Zx D)];rfl) rfl) rfl
end
theorem O5{P:Sx.Pb}{b:Sx.Bo}(h:Sx.Ok P N b)(hi:i<P.m)(u:Int):rp b i u=Sx.Fb P N b i u:=by
 unfold rp;by_cases c:u∈b.ac
 .rw[Zv c];have hl:=TV c;have e:b.Aq (b.ac.idxOf u)=u:=by simp only[Sx.Bo.Aq,RL,Ry hl,UZ];exact List.getElem_idxOf hl
  have:=h.M0 (by rw[<-h.sh.ac];exact hl) i;rw[e] at this;exact this.symm
 .rw[Zw c,h.L7 c i];by_cases e:b.Bq i=u
  .rw[Zv e,Zv ⟨hi,e⟩]
  .rw[Zw e,Zw λz=>e z.2]
theorem m7{G:Mg}{b:Ms}{Q:Fl->List Sl->Prop}:∀{T:Nat}{as:List A}(P:Nat->List Sl->Prop)(hl:T<as.length){Z:List Sl}(h0:P 0 Z)(hs:∀i a Z,i<T->as[i]?=some a->P i Z->∃U,G a Z=some U/\Wp b U λf Z'=>(f=.nx\/f=.ct)/\P (i+1) Z')
  (ht:∀a Z,as[T]?=some a->P T Z->∃U,G a Z=some U/\Wp b U λf Z'=>X2 λ(s:Sl)(_:Unit)=>f=.rt s/\Q (.rt s) Z'),∃f O,forL G b as Z=some (f,O)/\Q f O
 |_,[],_,hl,_,_,_,_=>absurd hl (Sn _)
 |0,a::as,P,hl,Z,h0,hs,ht=>by obtain⟨U,e1,f,Z',e2,s,_,rfl,q⟩:=ht a Z rfl h0;refine⟨.rt s,Z',?_,q⟩;unfold forL;rw[e1];dsimp only;rw[e2]
 |T+1,a::as,P,hl,Z,h0,hs,ht=>by obtain⟨U,e1,f,Z',e2,hf,p⟩:=hs 0 a Z (by exact U8 _) rfl h0;obtain⟨g,O,L,q⟩:=m7 (λi=>P (i+1)) (Nat.lt_of_succ_lt_succ hl) p (λi a Z hi ha hp=>hs (i+1) a Z (by exact RS ‹_›) ha hp) ht;refine⟨g,O,?_,q⟩;unfold forL;rw[e1];dsimp only;rw[e2];rcases hf with rfl|rfl<;>exact L
theorem Wp.stop{mi:Mi (List A)}{b:Ms}{T:Nat}{as:List A}(P:Nat->List Sl->Prop)(hm:mi Z=some (.ok as,U))(hl:T<as.length)(h0:P 0 U)(hs:∀i a Z,i<T->as[i]?=some a->P i Z->∃U,G a Z=some U/\Wp b U λf Z'=>(f=.nx\/f=.ct)/\P (i+1) Z')
  (j:∀a Z,as[T]?=some a->P T Z->∃U,G a Z=some U/\Wp b U λf Z'=>X2 λ(s:Sl)(_:Unit)=>f=.rt s/\Q (.rt s) Z'):Wp (iA mi G b) Z Q:=by
 obtain⟨f,O,e,q⟩:=m7 P hl h0 hs j;exact⟨f,O,sk hm e,q⟩
theorem Wp.Qt{m n:Ms}(k:Wp m Z λf U=>X2 λ(s:Sl)(_:Unit)=>f=.rt s/\Q (.rt s) U):Wp (aC m n) Z Q:=by obtain⟨f,U,e,s,_,rfl,q⟩:=k;exact⟨.rt s,U,by unfold aC;rw[e],q⟩
theorem y9(f:Nat->Int):∀M:Nat,(∀t,t<M->f t=0)\/∃t,t<M/\f t≠0/\∀u,u<t->f u=0
 |0=>.inl λt j=>absurd j (Sn t)
 |M+1=>by
  rcases y9 f M with h|⟨t,h1,h2⟩
  .by_cases e:f M=0
   .exact .inl λt j=>by
     by_cases c:t=M
     .rw[c];exact e
     .exact h t Q1
   .exact .inr ⟨M,by lia,e,h⟩
  .exact .inr ⟨t,by lia,h2⟩
variable{ma mb:Mi Rr}
theorem Ca(h:ma Z=some (.ok (.fr (.int i)),Z))(k:mb Z=some (.ok (.fr (.int j)),Z))(hi:i<=1000)(a:j<=1000):qO ma mb Z=some (.ok (bp i (j-i)),Z):=by refine bk h (bk k ?_);show (if -(2^60)<=(i:Int)/\(i:Int)<2^60 /\ -(2^60)<=(j:Int)/\(j:Int)<2^60 then some (RU (bp i ((j:Int)-i).toNat),Z) else none)=_;rw[Zv Q1];rw[show ((j:Int)-i).toNat=j-i by simp]
theorem xZ(l n:Nat):(bp (l:Int) n).length=n:=by simp[bp]
theorem pA{l n:Nat}{a:A}(h:(bp (l:Int) n)[i]?=some a):i<n/\a=.int ((l+i:Nat):Int):=by
 unfold bp at h;rw[RN] at h;cases e:(Rp n)[i]? with
 |none=>rw[e] at h;cases h
 |some x=>rw[e] at h;cases h;obtain⟨hi,e⟩:=Q4.mp e;rw[UP] at e;subst e;exact⟨by simpa using hi,rfl⟩
structure Gd(P:Sx.Pb)(N:Nat)(b:Sx.Bo):Prop where
 ok:Sx.Ok P N b
 bb:Bb P.n P.m N b
theorem EI{n m:Nat}{b:Sx.Bo}(h:Bb n m N b)(hi:i<m)(u:Int):L2.Bd 1400 (rp b i u):=by
 unfold rp;by_cases c:u∈b.ac
 .rw[Zv c];have hl:=TV c;exact h.gb (by exact Ru ‹_›) (by rw[<-h.sh.ac];exact Ru ‹_›)
 .rw[Zw c];by_cases e:b.Bq i=u
  .rw[Zv e];exact h.bs
  .rw[Zw e];exact TH Z1
noncomputable abbrev sE(o:A)(i k c:Nat)(x4 x5 x6:Sl):List Sl:=[.fr o,.fr (.int i),.fr (.int k),.fr (.int c),x4,x5,x6]
abbrev Ou:Ms:=aC (aM 4 (aA bG (bz bI (dJ (bX "Board" "top_of" (ai 0)) (ai 1) (ai 6))) (mix (mix AC (ae 2)) (ae 3)))) (aC (aM 5 (aA bG (bz bI (dJ (bX "Board" "top_of" (ai 0)) (ai 2) (ai 6))) (mix (mix AC (ae 1)) (ae 3)))) (iq (aq (aA fS (ae 4) (ae 5))) (bV (aA pj (ae 4) (ae 5))) bJ))
variable{x4 x5:Sl}
section
variable{P:Sx.Pb}{N:Nat}{b:Sx.Bo}(h:Gd P N b){i k c:Nat}(hi:i<P.m)(hk:k<P.m)(hc:c<N)
include h hi hk hc
theorem pQ(h4:np x4=true)(h5:np x5=true)(u:Int):Wp Ou (sE (bA P.n P.m b) i k c x4 x5 (.fr (.int u))) λf Z=>Z=sE (bA P.n P.m b) i k c (.fr (.int (rp b i u*b.Gq k c))) (.fr (.int (rp b k u*b.Gq i c))) (.fr (.int u))/\f=if rp b i u*b.Gq k c=rp b k u*b.Gq i c then .nx else .rt (.fr (.bl (decide (rp b i u*b.Gq k c<rp b k u*b.Gq i c)))):=by
 have q:=ft (EI h.bb hi u) (show 1400<=20000 by decide);have F:=ft (EI h.bb hk u) (show 1400<=20000 by decide);have E:=ft (h.bb.gb (i:=i) (l:=c) (by exact Ru ‹_›) (by exact Ru ‹_›)) (show 1400<=20000 by decide);have U:=ft (h.bb.gb (i:=k) (l:=c) (by exact Ru ‹_›) (by exact Ru ‹_›)) (show 1400<=20000 by decide);have z:∀x5,aM 4 (aA bG (bz bI (dJ (bX "Board" "top_of" (ai 0)) (ai 1) (ai 6))) (mix (mix AC (ae 2)) (ae 3))) (sE (bA P.n P.m b) i k c x4 x5 (.fr (.int u)))=some (.nx,sE (bA P.n P.m b) i k c (.fr (.int (rp b i u*b.Gq k c))) x5 (.fr (.int u))):=
  λx5=>aY (ao (aJ (af (jJ rfl rfl) (af rfl (af rfl rfl))) (cI (Ej h.bb hi u) _)) (h.bb.at2 (by exact Ru ‹_›) Q1 _ rfl rfl) (rC q U _)) rfl rfl h4 rfl
 have C:∀x4,aM 5 (aA bG (bz bI (dJ (bX "Board" "top_of" (ai 0)) (ai 2) (ai 6))) (mix (mix AC (ae 1)) (ae 3))) (sE (bA P.n P.m b) i k c x4 x5 (.fr (.int u)))=some (.nx,sE (bA P.n P.m b) i k c x4 (.fr (.int (rp b k u*b.Gq i c))) (.fr (.int u))):=
  λx4=>aY (ao (aJ (af (jJ rfl rfl) (af rfl (af rfl rfl))) (cI (Ej h.bb hk u) _)) (h.bb.at2 Q1 Q1 _ rfl rfl) (rC F E _)) rfl rfl h5 rfl
 generalize rp b i u*b.Gq k c=x at *;generalize rp b k u*b.Gq i c=y at *;by_cases e:x=y
 .rw[Zv e];exact Wp.en (fm (z _) (fm (C _) (cZ (aE (ao rfl rfl (iM (Zy e) _))) rfl))) ⟨rfl,rfl⟩
 .rw[Zw e];exact Wp.en (fm (z _) (fm (C _) (d0 (aE (ao rfl rfl (iM (Zx e) _))) (aV (ao rfl rfl (jD rfl _)) rfl)))) ⟨rfl,rfl⟩
theorem Cy:∃r:Bool,Val eO [bA P.n P.m b,.int i,.int k,.int c] (.bl r)/\(r=true↔Sx.Bw P N b c i k):=by
 have y:=ft (h.bb.gb (i:=i) (l:=c) (by exact Ru ‹_›) Q1) (show 1400<=20000 by decide);have F:=ft (h.bb.gb (i:=k) (l:=c) Q1 Q1) (show 1400<=20000 by decide);have g:=ft (h.bb.gb (i:=i) (l:=N) Q1 Q1) (show 1400<=20000 by decide);have H:=ft (h.bb.gb (i:=k) (l:=N) Q1 Q1) (show 1400<=20000 by decide);have o:aM 4 (aA bG (mix (mix AC (ae 1)) (aT bY (au 1))) (mix (mix AC (ae 2)) (ae 3))) (sE (bA P.n P.m b) i k c .un .un .un)=some (.nx,sE (bA P.n P.m b) i k c (.fr (.int (b.Gq i N*b.Gq k c))) .un .un):=
  aY (ao (h.bb.last (j:=1) (i:=i) Q1 _ rfl) (h.bb.at2 (j:=2) (k:=3) (i:=k) (l:=c) Q1 Q1 _ rfl rfl) (rC g F _)) rfl rfl rfl rfl
 have C:∀x4,aM 5 (aA bG (mix (mix AC (ae 2)) (aT bY (au 1))) (mix (mix AC (ae 1)) (ae 3))) (sE (bA P.n P.m b) i k c x4 .un .un)=some (.nx,sE (bA P.n P.m b) i k c x4 (.fr (.int (b.Gq k N*b.Gq i c))) .un):=
  λx4=>aY (ao (h.bb.last (j:=2) (i:=k) Q1 _ rfl) (h.bb.at2 (j:=1) (k:=3) (i:=i) (l:=c) Q1 Q1 _ rfl rfl) (rC H y _)) rfl rfl rfl rfl
 have hr:∀j,Sx.Rr P N b j 0=b.Gq j N:=λj=>Zv rfl;have x:∀j t,j<P.m->rp b j ((P.n+t:Nat):Int)=Sx.Rr P N b j (t+1):=λj t D=>by rw[O5 h.ok D];exact(Zw (Va t)).symm
 have E:∀x4 x5,qO AT (aA aQ AT A1) (sE (bA P.n P.m b) i k c x4 x5 .un)=some (.ok (bp P.n P.m),sE (bA P.n P.m b) i k c x4 x5 .un):=λx4 x5=>by have hn:=h.bb.hn;have hm:=h.bb.hm;have:=Ca (Z:=sE (bA P.n P.m b) i k c x4 x5 .un) (i:=P.n) (j:=P.n+P.m) (ma:=aT (ay ["Board"] "long") (ae 0)) (mb:=aA aQ AT A1) rfl rfl Q1 Q1;rw[show P.n+P.m-P.n=P.m by lia] at this;exact this
 rcases y9 (λt=>b.Gq i c*Sx.Rr P N b k t-b.Gq k c*Sx.Rr P N b i t) (P.m+1) with z|⟨t,q,U,X⟩
 .have z0:=z 0 Q1;simp only[hr] at z0;refine⟨false,Val.of (Wp.df (Wp.st o (Wp.st (C _) (Wp.st (cZ (aE (ao rfl rfl (iM (b:=true) (Zy (by grind)) _))) rfl) (Wp.sq (Wp.fr (b:=Ou) (λj Z=>X3 λ(x4 x5 x6:Sl)=>N3 (Z=sE (bA P.n P.m b) i k c x4 x5 x6) (np x4=true/\np x5=true) (np x6=true)) (E _ _) ⟨_,_,_,rfl,⟨rfl,rfl⟩,rfl⟩ ?_ ?_)))))),by simp;exact λw=>Sx.Ly z w⟩
  .rintro j a Z ha ⟨x4,x5,x6,rfl,⟨h4,h5⟩,I⟩;obtain⟨D,rfl⟩:=pA ha;refine⟨_,iE (S:=[.fr (bA P.n P.m b),.fr (.int i),.fr (.int k),.fr (.int c),x4,x5]) (tl:=[]) rfl I,Wp.mono (pQ h hi hk hc h4 h5 _) ?_⟩;rintro f Z ⟨rfl,hf⟩;have:=z (j+1) Q1;rw[Zv (by rw[x i j hi,x k j hk];grind)] at hf;exact⟨.inl hf,_,_,_,rfl,⟨rfl,rfl⟩,rfl⟩
  .rintro O ⟨x4,x5,x6,rfl,_,_⟩;exact⟨rfl,Wp.en (aV rfl rfl) rfl⟩
 .have key:=Sx.Lo (M:=P.m+1) (f:=λt=>b.Gq i c*Sx.Rr P N b k t-b.Gq k c*Sx.Rr P N b i t) q X U;refine⟨decide (Sx.Rr P N b i t*b.Gq k c<Sx.Rr P N b k t*b.Gq i c),Val.of (Wp.df (Wp.st o (Wp.st (C _) ?_))),?_⟩
  .cases t with
   |zero=>simp only[hr] at U;refine Wp.sr (d0 (aE (ao rfl rfl (iM (b:=false) (Zx (by grind)) _))) (aV (ao rfl rfl (jD rfl _)) rfl)) ?_;rw[hr,hr]
   |succ t=>
    have z0:=X 0 Q1;simp only[hr] at z0;refine Wp.st (cZ (aE (ao rfl rfl (iM (b:=true) (Zy (by grind)) _))) rfl) (Wp.Qt (Wp.stop (b:=Ou) (T:=t) (λj Z=>X3 λ(x4 x5 x6:Sl)=>N3 (Z=sE (bA P.n P.m b) i k c x4 x5 x6) (np x4=true/\np x5=true) (np x6=true)) (E _ _) (by rw[xZ];lia) ⟨_,_,_,rfl,⟨rfl,rfl⟩,rfl⟩ ?_ ?_))
    .rintro j a Z D ha ⟨x4,x5,x6,rfl,⟨h4,h5⟩,I⟩;obtain⟨_,rfl⟩:=pA ha;refine⟨_,iE (S:=[.fr (bA P.n P.m b),.fr (.int i),.fr (.int k),.fr (.int c),x4,x5]) (tl:=[]) rfl I,Wp.mono (pQ h hi hk hc h4 h5 _) ?_⟩;rintro f Z ⟨rfl,hf⟩;have:=X (j+1) Q1;rw[Zv (by rw[x i j hi,x k j hk];grind)] at hf;exact⟨.inl hf,_,_,_,rfl,⟨rfl,rfl⟩,rfl⟩
    .rintro a Z ha ⟨x4,x5,x6,rfl,⟨h4,h5⟩,I⟩;obtain⟨_,rfl⟩:=pA ha;refine⟨_,iE (S:=[.fr (bA P.n P.m b),.fr (.int i),.fr (.int k),.fr (.int c),x4,x5]) (tl:=[]) rfl I,Wp.mono (pQ h hi hk hc h4 h5 _) ?_⟩;rintro f Z ⟨rfl,hf⟩;rw[Zw (by rw[x i t hi,x k t hk];grind),x i t hi,x k t hk] at hf;exact⟨_,(),hf,_,(),rfl,rfl⟩
  .rw[decide_eq_true_eq];refine Iff.trans ?_ key.symm;constructor
   .intro z;show 0<b.Gq i c*Sx.Rr P N b k t-b.Gq k c*Sx.Rr P N b i t;grind
   .intro z;have z:0<b.Gq i c*Sx.Rr P N b k t-b.Gq k c*Sx.Rr P N b i t:=z;grind
end
noncomputable def oA:Option Nat->A
 |none=>.non
 |some a=>.int a
noncomputable abbrev KQ(o:A)(c:Nat)(f:A)(x3:Sl):List Sl:=[.fr o,.fr (.int c),.fr f,x3]
theorem v8{P:Sx.Pb}{b:Sx.Bo}(h:Gd P N b)(hc:c<N):∃f:Option Nat,eN cE [bA P.n P.m b,.int c] (oA f)/\Sx.pD P N b c P.m f:=by
 have hm:=h.bb.hm
 suffices ∃a,eN cE [bA P.n P.m b,.int c] a/\∃f:Option Nat,a=oA f/\Sx.pD P N b c P.m f by obtain⟨a,v,f,rfl,z⟩:=this;exact⟨f,v,z⟩
 refine eN.P9 (Wp.df (Wp.st rfl (Wp.sq (Wp.fr (λk Z=>X2 λ(f:Option Nat)(x3:Sl)=>N3 (Z=KQ (bA P.n P.m b) c (oA f) x3) (np x3=true) (Sx.pD P N b c k f)) (dz rfl Z4) ⟨none,.un,rfl,rfl,Sx.pD.zero⟩ ?_ ?_))))
 .rintro k a Z ha ⟨f,x3,rfl,h3,g⟩;obtain⟨hk,rfl⟩:=Ab ha;refine⟨_,iE (S:=[.fr (bA P.n P.m b),.fr (.int c),.fr (oA f)]) rfl h3,?_⟩;have o:∀t,decide (0<b.Gq k c)=t->aq (aA rQ (mix (mix AC (ae 3)) (ae 1)) (au 0)) (KQ (bA P.n P.m b) c (oA f) (.fr (.int k)))=some (.ok t,KQ (bA P.n P.m b) c (oA f) (.fr (.int k))):=λt j=>aE (ao (h.bb.at2 (by exact Ru ‹_›) (by exact Ru ‹_›) _ rfl rfl) rfl (iB j _));by_cases U:0<b.Gq k c
  .cases f with
   |none=>exact Wp.en (d0 (jq (o true (Zy U)) (yf rfl)) (aY rfl rfl rfl rfl rfl)) ⟨.inl rfl,some k,_,rfl,rfl,g.one U⟩
   |some a=>
    have ha:=g.1;obtain⟨r,v,e⟩:=Cy h (k:=a) hk (by exact SJ ‹_› ‹_›) hc;have E:jG (aq (aA rQ (mix (mix AC (ae 3)) (ae 1)) (au 0))) (xl (aq (aA (rZ false) (ae 2) (mC .non))) (aq (bz eO (BA (ai 0) (ai 3) (ai 2) (ai 1))))) (KQ (bA P.n P.m b) c (oA (some a)) (.fr (.int k)))=some (.ok r,KQ (bA P.n P.m b) c (oA (some a)) (.fr (.int k))):=jq (o true (Zy U)) (iW rfl (aE (aJ rfl (cI v _))));cases r with
    |true=>exact Wp.en (d0 E (aY rfl rfl rfl rfl rfl)) ⟨.inl rfl,some k,_,rfl,rfl,g.put U (e.mp rfl)⟩
    |false=>exact Wp.en (cZ E rfl) ⟨.inl rfl,some a,_,rfl,rfl,g.keep λz=>nomatch e.mpr z⟩
  .exact Wp.en (cZ (oW (o false (Zx U))) rfl) ⟨.inl rfl,f,_,rfl,rfl,g.no (by exact XT.mp ‹_›)⟩
 .rintro O ⟨f,x3,rfl,h3,g⟩;rw[hV] at g;exact⟨rfl,Wp.en (aV rfl rfl) ⟨oA f,(),rfl,by simp only[Rt,TU,u9,h3,UN],f,rfl,g⟩⟩
abbrev rR(L:Nat)(s:Int)(g t:Nat->Int)(i:Nat):List A:=(Rp L).map λ(j:Nat)=>nm (iw (Sx.su i λB=>if g B=(j:Int) then t B else 0) s)
theorem ud{n u:Nat}{f:Nat->α}{v:α}:((Rp n).map f).set u v=(Rp n).map λj=>if j=u then v else f j:=by
 refine WB Z3 λi h1 h2=>?_;rw[List.getElem_set];simp only[WC,UP];by_cases e:i=u
 .rw[Zv e.symm,Zv e]
 .rw[Zw (R7 e),Zw e]
theorem Nk{L:Nat}{g t:Nat->Int}(hs:s≠0):rR L s g t 0=(Rp L).map λ_=>nm (0,1):=by refine Sg λj _=>?_;rw[show Sx.su 0 _=0 from rfl,xQ hs]
theorem yS{L:Nat}{g t:Nat->Int}(hd:∀B,B<i->g B≠g i)(h0:0<=g i):(rR L s g t i).set (g i).toNat (nm (iw (t i) s))=rR L s g t (i+1):=by
 simp only[ud];refine Sg λj _=>?_;show _=nm (iw (Sx.su i _+if g i=(j:Int) then t i else 0) s);by_cases e:j=(g i).toNat
 .rw[Zv e,Zv Q1,Sx.fg λB hi=>Zw λz=>hd B hi Q1,Ts]
 .rw[Zw e,Zw Q1,Sk]
theorem uj{L:Nat}{g t:Nat->Int}(h:g i<0\/(L:Int)<=g i):rR L s g t i=rR L s g t (i+1):=by refine Sg λj a=>?_;show _=nm (iw (Sx.su i _+if g i=(j:Int) then t i else 0) s);have:=Sm.mp a;rw[Zw Q1,Sk]
theorem sZ{xs:List A}{k:Int}{a:A}(hl:aD Z i=some (.lst xs))(h0:0<=k)(h1:k<xs.length):PN i (.fr a) (.fr (.int k)) Z=some (.nx,setAt Z i (.lst (xs.set k.toNat a))):=by
 show (match some (A.int k),aD Z i with|some (.int k),some (.lst xs)=>(match L2.fV xs.length k with|some j=>some (Fl.nx,setAt Z i (.lst (xs.set j a)))|none=>none)|_,_=>none)=_;rw[hl];dsimp only;have e:L2.fV xs.length k=some k.toNat:=by unfold L2.fV;rw[Zv h0,Zv h1]
 simp only[e]
abbrev E6(o:A)(ts:List Int)(xs:List A)(x3 x4:Sl):List Sl:=[.fr o,.fr (lI ts),.lv (.lst xs),x3,x4]
theorem ur{ys:List Int}{a:A}(h:(pd (xs.map A.int) (ys.map A.int))[i]?=some a):i<xs.length/\i<ys.length/\a=.tup [.int (xs.getD i 0),.int (ys.getD i 0)]:=by
 rw[gi,RN] at h;cases e:(xs.zip ys)[i]? with
 |none=>rw[e] at h;cases h
 |some p=>rw[e] at h;cases h;simp only[S4] at e;obtain⟨e1,e2⟩:=e;exact⟨(Q4.mp e1).1,(Q4.mp e2).1,by simp[RL,e1,e2]⟩
theorem vF{L:Nat}{m:Mi Rr}(hm:m S=some (.ok (.fr (.int L)),S))(hl:L<=100)(i:Nat)(hi:S.length=i):aI 1 (bq m) (aL i) aG (mC (.tup [.int 0,.int 1])) S=some (.ok (.nw (.lst ((Rp L).map λ_=>nm (0,1)))),S):=by refine a6 (dz hm Q1) ?_;exact aU (k:=λ(j:Nat)=>A.int (0+(j:Int))) (λ_=>nm (0,1)) hi (by simp;lia) λj _=>⟨_,rfl,rfl⟩
variable{ts:List Int}
section
variable{n m N:Nat}{b:Sx.Bo}(h:Bb n m N b)
include h
theorem rF(T:m<=ts.length)(x:∀i,i<m->0<=b.Bq i)(hd:∀i B,i<m->B<i->b.Bq B≠b.Bq i):eN bZ [bA n m b,lI ts] (nS n b.s λj=>Sx.su m λi=>if b.Bq i=(j:Int) then ts.getD i 0 else 0):=by
 have ne:b.s≠0:=by have:=h.pos;exact R5 ‹_›
 have hn:=h.hn;refine eN.of (Wp.df (Wp.st (U:=E6 (bA n m b) ts (rR n b.s b.Bq (λi=>ts.getD i 0) 0) .un .un) (aY (vF rfl Z4 5 rfl) rfl rfl rfl (by rw[Nk ne];rfl)) (Wp.sq (Wp.fr (λi Z=>X2 λ(x3 x4:Sl)=>N3 (Z=E6 (bA n m b) ts (rR n b.s b.Bq (λi=>ts.getD i 0) i) x3 x4) (np x3=true) (np x4=true)) rfl ⟨_,_,rfl,rfl,rfl⟩ ?_ ?_))))
 .rintro i a Z ha ⟨x3,x4,rfl,h3,h4⟩;obtain⟨k,Q,rfl⟩:=ur ha;simp only[h.sh.dn] at k;refine⟨_,ue (S:=[.fr (bA n m b),.fr (lI ts),.lv (.lst (rR n b.s b.Bq (λi=>ts.getD i 0) i))]) rfl h3 h4,?_⟩;have w:=x i k;have P:∀t,decide (b.Bq i<(n:Int))=t->aq (aA pj (ae 3) AT) (E6 (bA n m b) ts (rR n b.s b.Bq (λi=>ts.getD i 0) i) (.fr (.int (b.Bq i))) (.fr (.int (ts.getD i 0))))=some (.ok t,E6 (bA n m b) ts (rR n b.s b.Bq (λi=>ts.getD i 0) i) (.fr (.int (b.Bq i))) (.fr (.int (ts.getD i 0)))):=λt T=>aE (ao rfl rfl (jD T _));by_cases c:b.Bq i<(n:Int)
  .refine Wp.en (d0 (P true (Zy c)) (nV (aJ (af rfl (af rfl rfl)) (cI (AL ne (h.bs.mono Z1)) _)) rfl rfl (sZ rfl w (by simpa using c)))) ⟨.inl rfl,.fr (.int (b.Bq i)),.fr (.int (ts.getD i 0)),?_,rfl,rfl⟩;rw[yS (hd i · k) w];rfl
  .refine Wp.en (cZ (P false (Zx c)) rfl) ⟨.inl rfl,.fr (.int (b.Bq i)),.fr (.int (ts.getD i 0)),?_,rfl,rfl⟩;rw[uj (.inr (by exact XT.mp ‹_›))]
 .rintro O ⟨x3,x4,rfl,h3,h4⟩;rw[show (pd (b.dn.map A.int) (ts.map A.int)).length=m by rw[gi,Q7,TL,h.sh.dn];lia];exact⟨rfl,Wp.en (aV rfl rfl) ⟨rfl,by simp only[Rt,TU,u9,FA,h3,h4,UN]⟩⟩
theorem AD(j:N<=ts.length)(hd:∀i B,i<N->B<i->b.Aq B≠b.Aq i)(E:∀i,i<N->b.Aq i<(n+m:Nat)):eN a7 [bA n m b,lI ts] (nS m b.s λk=>Sx.su N λl=>if b.Aq l=((n+k:Nat):Int) then ts.getD l 0 else 0):=by
 have ne:b.s≠0:=by have:=h.pos;lia
 have hm:=h.hm;have conv:∀i,rR m b.s (λl=>b.Aq l-n) (λi=>ts.getD i 0) i=(Rp m).map λk=>nm (iw (Sx.su i λl=>if b.Aq l=((n+k:Nat):Int) then ts.getD l 0 else 0) b.s):=λi=>by
  refine Sg λk _=>?_
  congr 2
  refine Sx.aS λl _=>?_;by_cases e:b.Aq l=((n+k:Nat):Int)
  .rw[Zv e,Zv (show b.Aq l-n=(k:Int) by lia)]
  .rw[Zw e,Zw (show ¬ b.Aq l-n=(k:Int) by lia)]
 unfold nS;rw[<-conv];refine eN.of (Wp.df (Wp.st (U:=E6 (bA n m b) ts (rR m b.s (λl=>b.Aq l-n) (λi=>ts.getD i 0) 0) .un .un) (aY (vF rfl Q1 5 rfl) rfl rfl rfl (by rw[Nk ne];rfl)) (Wp.sq (Wp.fr (λi Z=>X2 λ(x3 x4:Sl)=>N3 (Z=E6 (bA n m b) ts (rR m b.s (λl=>b.Aq l-n) (λi=>ts.getD i 0) i) x3 x4) (np x3=true) (np x4=true)) rfl ⟨_,_,rfl,rfl,rfl⟩ ?_ ?_))))
 .rintro i a Z ha ⟨x3,x4,rfl,h3,h4⟩;obtain⟨y,Q,rfl⟩:=ur ha;rw[h.sh.ac] at y;refine⟨_,ue (S:=[.fr (bA n m b),.fr (lI ts),.lv (.lst (rR m b.s (λl=>b.Aq l-n) (λi=>ts.getD i 0) i))]) (tl:=[]) rfl h3 h4,?_⟩;have K:=E i y;have P:∀t,decide ((n:Int)<=b.Aq i)=t->aq (aA Fv (ae 3) AT) (E6 (bA n m b) ts (rR m b.s (λl=>b.Aq l-n) (λi=>ts.getD i 0) i) (.fr (.int (b.Aq i))) (.fr (.int (ts.getD i 0))))=some (.ok t,E6 (bA n m b) ts (rR m b.s (λl=>b.Aq l-n) (λi=>ts.getD i 0) i) (.fr (.int (b.Aq i))) (.fr (.int (ts.getD i 0)))):=λt j=>aE (ao rfl rfl (by rw[<-j];rfl));by_cases c:(n:Int)<=b.Aq i
  .refine Wp.en (d0 (P true (Zy c)) (nV (aJ (af rfl (af rfl rfl)) (cI (AL (t:=ts.getD i 0) ne (h.bs.mono Z1)) _)) rfl (ao rfl rfl rfl) (sZ (k:=b.Aq i-n) rfl Q1 (by simp;lia)))) ⟨.inl rfl,.fr (.int (b.Aq i)),.fr (.int (ts.getD i 0)),?_,rfl,rfl⟩;rw[<-yS (g:=λl=>b.Aq l-n) (t:=λi=>ts.getD i 0) (i:=i) (λB x=>by have:=hd i B y x;show b.Aq B-n≠b.Aq i-n;lia) (by show 0<=b.Aq i-n;lia)];rfl
  .refine Wp.en (cZ (P false (Zx c)) rfl) ⟨.inl rfl,.fr (.int (b.Aq i)),.fr (.int (ts.getD i 0)),?_,rfl,rfl⟩;rw[<-uj (g:=λl=>b.Aq l-n) (.inl (by show b.Aq i-n<0;lia))]
 .rintro O ⟨x3,x4,rfl,h3,h4⟩;rw[show (pd (b.ac.map A.int) (ts.map A.int)).length=N by rw[gi,Q7,TL,h.sh.ac];lia];exact⟨rfl,Wp.en (aV rfl rfl) ⟨rfl,by simp only[Rt,TU,u9,FA,h3,h4,UN]⟩⟩
end
section
variable{P:Sx.Pb}{N:Nat}{b:Sx.Bo}
theorem Gd.Qb(h:Gd P N b)(i B:Nat)(hi:i<P.m)(a:B<i):b.Bq B≠b.Bq i:=λe=>by
 have:=Sx.getD_inj (Rj.mp h.ok.nd).2.1 (by rw[h.ok.sh.dn];exact SJ ‹_› ‹_›) (by rw[h.ok.sh.dn];lia) e
 lia
theorem Gd.Qg(h:Gd P N b)(i B:Nat)(hi:i<N)(a:B<i):b.Aq B≠b.Aq i:=λe=>by
 have:=h.ok.Ai (show B<N by exact SJ ‹_› ‹_›) hi e
 lia
theorem Gd.B0(h:Gd P P.n b)(i:Nat)(hi:i<P.m):0<=b.Bq i:=by have:=(h.ok.nm _).mp (Q2 b.ac (h.ok.Bm hi));rw[Zv rfl] at this;exact this.1
theorem Gd.Alt(h:Gd P N b)(i:Nat)(hi:i<N):b.Aq i<(P.n+P.m:Nat):=(h.ok.v7 (Q8 b.dn (h.ok.Am hi))).2
theorem Bb.Mu{n m:Nat}(h:Bb n m N b){f:List Int->Int}(hi:i<m):(b.g.map f).getD i 0=f (b.g.getD i []):=Sx.getD_map (by rw[h.sh.g];lia)
theorem Ef(h:Gd P P.n b):eN a5 [bA P.n P.m b] (nS P.n b.s λj=>Sx.vl P b P.n j):=by
 have hm:=h.bb.hm;have G:=h.bb.sh.g;have Q:=aU (e:=mix (ae 1) (aT bY (au 1))) (k:=lI) (S:=[.fr (bA P.n P.m b)]) (λr=>.int (r.getD P.n 0)) rfl Q1 λr hr=>⟨_,ao rfl rfl (bP (.inl rfl) (oZ (h.bb.sh.r r hr))),rfl⟩
 have p:fB (aI 1 (cX AC) (aL 1) aG (mix (ae 1) (aT bY (au 1)))) [.fr (bA P.n P.m b)]=some (.ok (.fr (lI (b.g.map λ(r:List Int)=>r.getD P.n 0))),[.fr (bA P.n P.m b)]):=by refine jC (a6 rfl Q) ?_;unfold lI;rw[RK];rfl
 have k:=(rF h.bb (ts:=b.g.map λr=>r.getD P.n 0) (by rw[Q7];lia) h.B0 h.Qb).v;have eq:nS P.n b.s (λj=>Sx.su P.m λi=>if b.Bq i=(j:Int) then (b.g.map λr=>r.getD P.n 0).getD i 0 else 0)=nS P.n b.s λj=>Sx.vl P b P.n j:=by
  unfold nS
  congr 1
  refine Sg λj _=>?_
  congr 2
  unfold Sx.vl;dsimp only;rw[Zw (λz=>absurd z.1 (RB _)),Sk];refine Sx.aS λi hi=>?_;rw[h.bb.Mu hi,show Sx.qs P.n P.n=1 from Zw (RB _),Su];rfl
 simp only[eq] at k;exact eN.of (Wp.df (Wp.en (aV (aJ (af (jJ rfl rfl) (af p rfl)) (cI k _)) rfl) ⟨rfl,rfl⟩))
theorem HQ(h:s≠0):iw s s=(1,1):=by have:=ox (q:=(1,1)) ⟨by decide,by decide⟩ h;simpa using this
theorem MG(h:Gd P P.n b)(hc:c<P.n):eN cQ [bA P.n P.m b,.int c] (nS P.n b.s λj=>Sx.vl P b c j):=by
 have ne:b.s≠0:=by have:=h.bb.pos;exact R5 ‹_›
 have hm:=h.bb.hm;have G:=h.bb.sh.g;have Q:=aU (e:=aT bY (mix (ae 3) (ae 1))) (ts:=b.g) (k:=lI) (S:=[.fr (bA P.n P.m b),.fr (.int c),.un]) (λr=>.int (-(r.getD c 0))) rfl Q1 λr hr=>⟨.fr (.int (-(r.getD c 0))),eJ (ao rfl rfl (bP (.inl rfl) (gC (by rw[h.bb.sh.r r hr];lia)))) rfl,rfl⟩
 have p:fB (aI 1 (cX AC) (aL 3) aG (aT bY (mix (ae 3) (ae 1)))) [.fr (bA P.n P.m b),.fr (.int c),.un]=some (.ok (.fr (lI (b.g.map λ(r:List Int)=>-(r.getD c 0)))),[.fr (bA P.n P.m b),.fr (.int c),.un]):=by refine jC (a6 rfl Q) ?_;unfold lI;rw[RK];rfl
 have k:=(rF h.bb (ts:=b.g.map λr=>-(r.getD c 0)) (by rw[Q7];lia) h.B0 h.Qb).v;have eq:∀j:Nat,(Sx.su P.m λi=>if b.Bq i=(j:Int) then (b.g.map λr=>-(r.getD c 0)).getD i 0 else 0)=Sx.su P.m λi=>if b.Bq i=(j:Int) then Sx.qs P.n c*b.Gq i c else 0:=λj=>Sx.aS λi hi=>by rw[h.bb.Mu hi,show Sx.qs P.n c = -1 from Zv hc,TQ];rfl
 simp only[eq] at k;have s2:aM 2 (bK eD (bz bZ (bN (bX "Board" "spread_down" (ae 0)) (fB (aI 1 (cX AC) (aL 3) aG (aT bY (mix (ae 3) (ae 1)))))))) [.fr (bA P.n P.m b),.fr (.int c),.un]=some (.nx,[.fr (bA P.n P.m b),.fr (.int c),.lv (.lst ((Rp P.n).map λ(j:Nat)=>nm (iw (Sx.su P.m λi=>if b.Bq i=(j:Int) then Sx.qs P.n c*b.Gq i c else 0) b.s)))]):=
  aY (eJ (aJ (af (jJ rfl rfl) (af p rfl)) (cI k _)) (oO (r:=.nw (.lst _)) rfl rfl)) rfl rfl rfl rfl
 have X:∀x,mix (aT (ay ["Board"] "across") (ae 0)) (ae 1) [.fr (bA P.n P.m b),.fr (.int c),x]=some (.ok (.fr (.int (b.Aq c))),[.fr (bA P.n P.m b),.fr (.int c),x]):=λx=>ao rfl rfl (bP (.inl rfl) (gC (by rw[h.bb.sh.ac];exact hc)));have y:=(h.ok.nm _).mp (Q8 b.dn (h.ok.Am hc));rw[Zv rfl] at y;refine eN.of (Wp.df (Wp.st s2 ?_));have o:∀t x,decide (b.Aq c<(P.n:Int))=t->aq (aA pj (mix (aT (ay ["Board"] "across") (ae 0)) (ae 1)) AT) [.fr (bA P.n P.m b),.fr (.int c),x]=some (.ok t,[.fr (bA P.n P.m b),.fr (.int c),x]):=λt x T=>aE (ao (X x) rfl (jD T _));by_cases U:b.Aq c<(P.n:Int)
 .refine Wp.st (d0 (o true _ (Zy U)) (nV rfl rfl (X _) (sZ (a:=nm (1,1)) (k:=b.Aq c) rfl y.1 (by simpa using U)))) (Wp.en (aV rfl rfl) ⟨?_,rfl⟩);rw[ud]
  congr 3
  refine Sg λj _=>?_;unfold Sx.vl;dsimp only;by_cases e:j=(b.Aq c).toNat
  .rw[Zv e,Zv ⟨hc,by lia⟩,Sx.fg λi hi=>Zw λz=>h.ok.AB hc hi Q1,Ts,HQ ne]
  .rw[Zw e,Zw λz=>by lia,Sk]
 .refine Wp.st (cZ (o false _ (Zx U)) rfl) (Wp.en (aV rfl rfl) ⟨?_,rfl⟩);show Fl.rt (.fr (.tup _))=_
  congr 3
  refine Sg λj Z=>?_;have:=Sm.mp Z;unfold Sx.vl;dsimp only;rw[Zw λz=>by lia,Sk]
theorem MN(h:Gd P N b)(j:N<=ts.length):eN a7 [bA P.n P.m b,lI ts] (nS P.m b.s λk=>Sx.su N λl=>if b.Aq l=((P.n+k:Nat):Int) then ts.getD l 0 else 0):=AD h.bb j h.Qg h.Alt
end
noncomputable abbrev oB(n m:Nat)(s:Int)(g:A)(ac dn:List Int):LO:=.nob "Board" [("long",.int n),("many",.int m),("scale",.int s),("grid",g)] [("across",ac.map A.int),("down",dn.map A.int)]
theorem A4(n m:Nat)(b:Sx.Bo):bO n m b=oB n m b.s (gI b.g) b.ac b.dn:=rfl
theorem kN{n:Nat}(h:j<n):L2.fV n (j:Int)=some j:=by unfold L2.fV;rw[Zv Z3,Zv Q1];rfl
abbrev fX(n m:Nat)(s:Int)(g:A)(ac dn:List Int)(a c:Nat)(x3 x4 x5:Sl):List Sl:=[.pv (oB n m s g ac dn),.fr (.int a),.fr (.int c),x3,x4,x5]
section
variable{n m N:Nat}{s:Int}{g:A}{ac dn:List Int}{a c:Nat}{x3 x4 x5:Sl}
theorem rb{s':Int}(he:e (fX n m s g ac dn a c x3 x4 x5)=some (.ok (.fr (.int s')),fX n m s g ac dn a c x3 x4 x5)):dS ["Board"] 0 "scale" e (fX n m s g ac dn a c x3 x4 x5)=some (.nx,fX n m s' g ac dn a c x3 x4 x5):=sk he rfl
theorem ui{g':A}{h:Sl}(he:e (fX n m s g ac dn a c x3 x4 x5)=some (.ok r,fX n m s g ac dn a c x3 x4 x5))(hf:bE r (fX n m s g ac dn a c x3 x4 x5)=some (g',fX n m s g ac dn a c x3 h x5)):dS ["Board"] 0 "grid" e (fX n m s g ac dn a c x3 x4 x5)=some (.nx,fX n m s g' ac dn a c x3 h x5):=sk he (by rw[hf];rfl)
theorem Pm(hc:c<ac.length)(h5:np x5=true):aM 5 (oX ["Board"] 0 "across" (Bt 2)) (fX n m s g ac dn a c x3 x4 x5)=some (.nx,fX n m s g ac dn a c x3 x4 (.fr (.int (ac.getD c 0)))):=by refine aY (r:=.fr (.int (ac.getD c 0))) (U:=fX n m s g ac dn a c x3 x4 x5) ?_ rfl rfl h5 rfl;show (match gU (ac.map A.int) (c:Int) with|some a=>some (RU (Rr.fr a),_)|none=>none)=_;simp only[gC hc]
theorem KN(ha:a<dn.length)(hc:c<ac.length):eY ["Board"] 0 "across" 2 (oX ["Board"] 0 "down" (Bt 1)) (fX n m s g ac dn a c x3 x4 x5)=some (.nx,fX n m s g (ac.set c (dn.getD a 0)) dn a c x3 x4 x5):=by
 refine sk (x:=.fr (.int (dn.getD a 0))) (U:=fX n m s g ac dn a c x3 x4 x5) ?_ ?_
 .show (match gU (dn.map A.int) (a:Int) with|some a=>some (RU (Rr.fr a),_)|none=>none)=_;rw[gC ha]
 .show (match L2.fV (ac.map A.int).length (c:Int) with|some n=>some (Fl.nx,jN _ 0 "across" ((ac.map A.int).set n _))|none=>none)=_;rw[kN (by simpa using hc)];show some (Fl.nx,[Sl.pv (LO.nob "Board" _ [("across",(ac.map A.int).set c (.int (dn.getD a 0))),("down",dn.map A.int)]),_,_,_,_,_])=_;rw[<-Ul]
theorem MI{v:Int}(ha:a<dn.length):eY ["Board"] 0 "down" 1 (ae 5) (fX n m s g ac dn a c x3 x4 (.fr (.int v)))=some (.nx,fX n m s g ac (dn.set a v) a c x3 x4 (.fr (.int v))):=by show (match L2.fV (dn.map A.int).length (a:Int) with|some n=>some (Fl.nx,jN _ 0 "down" ((dn.map A.int).set n _))|none=>none)=_;rw[kN (by simpa using ha)];show some (Fl.nx,[Sl.pv (LO.nob "Board" _ [("across",ac.map A.int),("down",(dn.map A.int).set a (.int v))]),_,_,_,_,_])=_;rw[<-Ul]
theorem G9{xs:List A}(ha:a<xs.length)(hc:c<pr.length):u0 ["Board"] 4 1 2 0 "scale" (bK eD (ae 3)) (fX n m s g ac dn a c (.fr (lI pr)) (.lv (.lst xs)) x5)=some (.nx,fX n m s g ac dn a c (.fr (lI pr)) (.lv (.lst (xs.set a (lI (pr.set c s))))) x5):=by show (match L2.fV xs.length (a:Int),L2.fV (pr.map A.int).length (c:Int) with|some n,some q=>some (Fl.nx,setAt _ 4 (.lst (xs.set n (.lst ((pr.map A.int).set q (.int s))))))|_,_=>none)=_;rw[kN ha,kN (by simpa using hc)];show some (Fl.nx,[_,_,_,_,Sl.lv (.lst (xs.set a (.lst ((pr.map A.int).set c (.int s))))),_])=_;rw[<-Ul]
end
theorem BR{b:Sx.Bo}{a:Nat}:(b.g.map λrow=>lI (Sx.j7 row (b.g.getD a []) c b.s)).set a (lI ((b.g.getD a []).set c b.s))=(b.raw a c).map lI:=by unfold Sx.Bo.raw;simp only[Ul,RK];rfl
theorem IE{n m:Nat}{b:Sx.Bo}(h:Bb n m N b){a:Nat}(ha:a<m)(hc:c<N):dW bS (bO n m b) [.int a,.int c] (.fr .non) (bO n m (b.turn a c)):=by
 have hm:=h.hm;have hN:=h.hN;have G:=h.sh.g;have hr:=h.sh.row (show a<=m by exact Ru ‹_›);have ne:b.s≠0:=by have:=h.pos;exact R5 ‹_›
 have F:aM 3 (mix A_ (ae 1)) (fX n m b.s (gI b.g) b.ac b.dn a c .un .un .un)=some (.nx,fX n m b.s (gI b.g) b.ac b.dn a c (.fr (lI (b.g.getD a []))) .un .un):=aY (ao (cK rfl) rfl (bP (.inl rfl) (Fh Q1))) rfl rfl rfl rfl;have mem:b.g.getD a []∈b.g:=Sx.getD_mem Q1;have j:=aU (e:=bz eG (BA (ai 6) (ai 3) (ai 2) BD)) (ts:=b.g) (k:=lI) (S:=fX n m b.s (gI b.g) b.ac b.dn a c (.fr (lI (b.g.getD a []))) .un .un) (λrow=>lI (Sx.j7 row (b.g.getD a []) c b.s)) rfl Q1 λrow z=>⟨.nw (.lst ((Sx.j7 row (b.g.getD a []) c b.s).map A.int)),aJ (af rfl (af rfl (af rfl (af (cK rfl) rfl)))) (i9 (HI (N:=N) (h.sh.r row z) hr Q1 Q1 ne h.bs (h.bg row z) (h.bg _ mem)) _),rfl⟩
 have H:aM 4 (aI 1 (cX A_) (aL 6) aG (bz eG (BA (ai 6) (ai 3) (ai 2) BD))) (fX n m b.s (gI b.g) b.ac b.dn a c (.fr (lI (b.g.getD a []))) .un .un)=some (.nx,fX n m b.s (gI b.g) b.ac b.dn a c (.fr (lI (b.g.getD a []))) (.lv (.lst (b.g.map λrow=>lI (Sx.j7 row (b.g.getD a []) c b.s)))) .un):=
  aY (a6 (AE (cK rfl) rfl) j) rfl rfl rfl rfl
 have x:=G9 (n:=n) (m:=m) (s:=b.s) (g:=gI b.g) (ac:=b.ac) (dn:=b.dn) (a:=a) (c:=c) (x5:=.un) (xs:=b.g.map λrow=>lI (Sx.j7 row (b.g.getD a []) c b.s)) (pr:=b.g.getD a []) (by rw[Q7];lia) Q1;rw[BR] at x;have q:dS ["Board"] 0 "scale" (mix (ae 3) (ae 2)) (fX n m b.s (gI b.g) b.ac b.dn a c (.fr (lI (b.g.getD a []))) (.lv (.lst ((b.raw a c).map lI))) .un)=some (.nx,fX n m (b.Gq a c) (gI b.g) b.ac b.dn a c (.fr (lI (b.g.getD a []))) (.lv (.lst ((b.raw a c).map lI))) .un):=rb (ao rfl rfl (bP (.inl rfl) (gC Q1)));have E:dS ["Board"] 0 "grid" (ae 4) (fX n m (b.Gq a c) (gI b.g) b.ac b.dn a c (.fr (lI (b.g.getD a []))) (.lv (.lst ((b.raw a c).map lI))) .un)=some (.nx,fX n m (b.Gq a c) (gI (b.raw a c)) b.ac b.dn a c (.fr (lI (b.g.getD a []))) (.fr (.lst ((b.raw a c).map lI))) .un):=ui rfl rfl;have o:∀t,decide (b.Gq a c<0)=t->aq (aA pj BD (au 0)) (fX n m (b.Gq a c) (gI (b.raw a c)) b.ac b.dn a c (.fr (lI (b.g.getD a []))) (.fr (.lst ((b.raw a c).map lI))) .un)=some (.ok t,fX n m (b.Gq a c) (gI (b.raw a c)) b.ac b.dn a c (.fr (lI (b.g.getD a []))) (.fr (.lst ((b.raw a c).map lI))) .un):=λt T=>aE (ao (cK rfl) rfl (jD T _));have tail:∀(s:Int)(g:A)(x3 x4:Sl),Wp (aC (aM 5 (oX ["Board"] 0 "across" (Bt 2))) (aC (eY ["Board"] 0 "across" 2 (oX ["Board"] 0 "down" (Bt 1))) (eY ["Board"] 0 "down" 1 (ae 5)))) (fX n m s g b.ac b.dn a c x3 x4 .un) λf Z=>f=.nx/\∃U,Z=.pv (oB n m s g (b.ac.set c (b.dn.getD a 0)) (b.dn.set a (b.ac.getD c 0)))::U:=λs g x3 x4=>Wp.st (Pm (by rw[h.sh.ac];exact hc) rfl) (Wp.st (KN (by rw[h.sh.dn];exact ha) (by rw[h.sh.ac];exact hc)) (Wp.en (MI (by rw[h.sh.dn];exact ha)) ⟨rfl,_,rfl⟩))
 suffices ∃s o',dW bS (bO n m b) [.int a,.int c] s o'/\(s=.fr .non/\o'=bO n m (b.turn a c)) by obtain⟨s,o',v,rfl,rfl⟩:=this;exact v
 refine dW.of (Wp.df (Wp.st F (Wp.st H (Wp.st x (Wp.st q (Wp.st E ?_))))));by_cases C:b.Gq a c<0
 .have p:dS ["Board"] 0 "scale" (aT bY BD) (fX n m (b.Gq a c) (gI (b.raw a c)) b.ac b.dn a c (.fr (lI (b.g.getD a []))) (.fr (.lst ((b.raw a c).map lI))) .un)=some (.nx,fX n m (-b.Gq a c) (gI (b.raw a c)) b.ac b.dn a c (.fr (lI (b.g.getD a []))) (.fr (.lst ((b.raw a c).map lI))) .un):=rb (eJ (cK rfl) rfl);have P:(b.raw a c).length=m+1:=by simp[Sx.Bo.raw,G]
  have X:=aU (e:=bz bH (cJ (ai 6))) (ts:=b.raw a c) (k:=lI) (S:=fX n m (-b.Gq a c) (gI (b.raw a c)) b.ac b.dn a c (.fr (lI (b.g.getD a []))) (.fr (.lst ((b.raw a c).map lI))) .un) (λrow=>lI (Sx.iS row)) rfl Q1 λrow z=>⟨.nw (.lst ((Sx.iS row).map A.int)),aJ (af rfl rfl) (i9 (E8 (by have:=h.sh.raw (c:=c) (show a<=m by lia) row z;lia)) _),rfl⟩
  have i:dS ["Board"] 0 "grid" (aI 1 (cX (ae 4)) (aL 6) aG (bz bH (cJ (ai 6)))) (fX n m (-b.Gq a c) (gI (b.raw a c)) b.ac b.dn a c (.fr (lI (b.g.getD a []))) (.fr (.lst ((b.raw a c).map lI))) .un)=some (.nx,fX n m (-b.Gq a c) (gI ((b.raw a c).map Sx.iS)) b.ac b.dn a c (.fr (lI (b.g.getD a []))) (.fr (.lst ((b.raw a c).map lI))) .un):=by refine ui (a6 rfl X) ?_;unfold gI;rw[RK];rfl
  refine Wp.st (d0 (o true (Zy C)) (fm p i)) (Wp.mono (tail _ _ _ _) ?_);rintro f Z ⟨rfl,U,rfl⟩;refine⟨_,_,U,rfl,rfl,rfl,?_⟩;rw[A4];unfold Sx.Bo.turn;simp only[Zv C]
 .refine Wp.st (cZ (o false (Zx C)) rfl) (Wp.mono (tail _ _ _ _) ?_);rintro f Z ⟨rfl,U,rfl⟩;refine⟨_,_,U,rfl,rfl,rfl,?_⟩;rw[A4];unfold Sx.Bo.turn;simp only[Zw C]
theorem tG{xs:List A}{k:Nat}(h:k<=xs.length):gP xs none (some (k:Int))=xs.take k:=by
 have e:HT.dk xs.length xs.length (some (k:Int))=k:=by rw[HT.uy];lia
 have Q:HT.dk xs.length 0 none=0:=rfl;unfold gP;rw[e,Q,VV,WS]
theorem tq{xs:List A}{k:Nat}(h:k<=xs.length):gP xs (some (k:Int)) none=xs.drop k:=by
 have e:HT.dk xs.length 0 (some (k:Int))=k:=by rw[HT.uy];lia
 have Q:HT.dk xs.length xs.length none=xs.length:=rfl;unfold gP;rw[e,Q,VP Z3]
theorem j8{xs ys:List A}(h:xs.length+ys.length<=100000)(Z:List Sl):jU aQ (.nw (.lst xs)) (.nw (.lst ys)) Z=some (.ok (.nw (.lst (xs++ys))),Z):=fu (o:=none) rfl rfl (Zv h)
theorem rq:∀xs:List Int,CS (xs.map A.int)=true
 |[]=>rfl
 |x::xs=>by show (pl (.int x)&&CS (xs.map A.int))=true;rw[rq xs];rfl
theorem x9{m:Mi Rr}(h1:nJ i Z=some o)(h2:m (Z.set i (.fr o.a))=some (.ok r,Z.set i (.fr o.a)))(h3:Ig i Z=true)(h4:Pj r=true):jI i m Z=some r:=by
 delta jI
 rw[h1]
 dsimp only
 rw[h2]
 exact Zv ⟨rfl,h3,h4⟩
theorem C0{cs:List Str}{f:Str}{m:Mi Rr}{xs:List A}{a:A}(h1:ownAt cs Z i f=some xs)(h2:jI i m Z=some r)(h3:bE r Z=some (a,U))(h4:qe cs U i f a=some Z'):nX cs i f m Z=some (.ok (.fr .non),Z'):=by
 delta nX
 rw[h1,h2]
 dsimp only
 rw[h3]
 dsimp only
 rw[h4]
noncomputable def eB(c:List Int)(R:List (List Int))(L:List Int):Sx.Pb:=⟨c.length,R.length,λj=>c.getD j 0,λi j=>(R.getD i []).getD j 0,λi=>L.getD i 0⟩
theorem mJ{α:Type}{f:Int->α}:∀xs:List Int,(Rp xs.length).map (λj=>f (xs.getD j 0))=xs.map f
 |[]=>rfl
 |x::xs=>by simp only[Rb,VJ,RO,RK,RO,<-mJ xs];rfl
variable{R:List (List Int)}{L:List Int}
theorem Kw{M:Nat}{c:List Int}(f:kE M c R L):(Sx.hU (eB c R L)).g.map lI=((R.zip L).map λp=>lI (p.1++[p.2]))++[lI (c.map (λx=>-x)++[0])]:=by
 delta Sx.hU eB
 simp only[RP,mJ]
 congr 1
 refine WB (by simp[f.l]) λi h1 h2=>?_
 have hi:i<R.length:=by simpa using h1
 have h:i<L.length:=by rw[f.l];exact hi
 simp only[WC,UP,List.getElem_zip]
 have e1:R.getD i []=R[i]:=by simp[RL,hi]
 have e2:L.getD i 0=L[i]:=by simp[RL,h]
 have T:=f.r R[i] (List.getElem_mem hi)
 simp only[e1,e2,<-T,mJ (f:=λx=>x),W9]
variable{Y:List Sl}
theorem Pg{cn:Str}{as:List A}(h:f (.pv (.obj cn [])::as.map Sl.fr)=some (.rt (.fr .non),.pv o::Y))(Z:List Sl):uA cn f [] (as.map Rr.fr) Z=some (.ok (.nw o),Z):=by unfold uA;rw[SY,RX,gJ];simp only[jO,h];have:=hY Z as (ax (as.map Sl.fr).length Y) Z (by rw[bC,Q7]);rw[this]
theorem F4{m:Mi Rr}{n:Nat}(h:m Z=some (.ok (.fr (.int n)),Z))(hn:n<=100):fh m Z=some (.ok (.nw (.lst (bp 0 n))),Z):=by refine bk h ?_;show (if CW 0 (n:Int)=true then some (RU (Rr.nw (.lst (bp 0 ((n:Int)-0).toNat))),Z) else none)=_;rw[Zv (show CW 0 (n:Int)=true from Zy Q1),show ((n:Int)-0).toNat=n by rfl]
theorem IY(h:ma Z=some (.ok (.fr (.int i)),Z))(k:mb Z=some (.ok (.fr (.int j)),Z))(hi:i<=100)(a:j<=100):lQ ma mb Z=some (.ok (.nw (.lst (bp i (j-i)))),Z):=by refine bk h (bk k ?_);show (if CW (i:Int) (j:Int)=true then some (RU (Rr.nw (.lst (bp i ((j:Int)-i).toNat))),Z) else none)=_;rw[Zv (show CW (i:Int) (j:Int)=true from Zy Q1),show ((j:Int)-i).toNat=j-i by lia]
theorem xo{M:Nat}{c:List Int}(f:kE M c R L)(Z:List Sl):uA "Board" dA [] [.fr (lI c),.fr (gI R),.fr (lI L)] Z=some (.ok (.nw (bO c.length R.length (Sx.hU (eB c R L)))),Z):=by
 have hn:=f.n;have hm:=f.m
 suffices ∃Y,dA (.pv (.obj "Board" [])::[lI c,gI R,lI L].map Sl.fr)=some (.rt (.fr .non),.pv (bO c.length R.length (Sx.hU (eB c R L)))::Y) by obtain⟨Y,e⟩:=this;exact Pg (as:=[lI c,gI R,lI L]) e Z
 have go:Wp dA (.pv (.obj "Board" [])::[lI c,gI R,lI L].map Sl.fr) λg Z=>g=.rt (.fr .non)/\∃Y,Z=.pv (bO c.length R.length (Sx.hU (eB c R L)))::Y:=by
  have z:dS ["Board"] 0 "long" (bK cM (ae 1)) [.pv (.obj "Board" []),.fr (lI c),.fr (gI R),.fr (lI L)]=some (.nx,[.pv (.obj "Board" [("long",.int c.length)]),.fr (lI c),.fr (gI R),.fr (lI L)]):=by refine sk (x:=.fr (.int c.length)) (U:=[.pv (.obj "Board" []),.fr (lI c),.fr (gI R),.fr (lI L)]) ?_ rfl;show some (RU (Rr.fr (.int (c.map A.int).length)),_)=_;rw[Q7]
  have q:dS ["Board"] 0 "many" (bK cM (ae 2)) [.pv (.obj "Board" [("long",.int c.length)]),.fr (lI c),.fr (gI R),.fr (lI L)]=some (.nx,[.pv (.obj "Board" [("long",.int c.length),("many",.int R.length)]),.fr (lI c),.fr (gI R),.fr (lI L)]):=by refine sk (x:=.fr (.int R.length)) (U:=[.pv (.obj "Board" [("long",.int c.length)]),.fr (lI c),.fr (gI R),.fr (lI L)]) ?_ rfl;show some (RU (Rr.fr (.int (R.map lI).length)),_)=_;rw[Q7]
  have H:kb ["Board"] 0 "across" (fh A') [.pv (.obj "Board" [("long",.int c.length),("many",.int R.length),("scale",.int 1)]),.fr (lI c),.fr (gI R),.fr (lI L)]=some (.nx,[.pv (.nob "Board" [("long",.int c.length),("many",.int R.length),("scale",.int 1)] [("across",bp 0 c.length)]),.fr (lI c),.fr (gI R),.fr (lI L)]):=sk (F4 (kS rfl rfl) Z4) rfl;have b:kb ["Board"] 0 "down" (lQ A' (aA aQ A' (a9 (aW ["Board"] 0 "many") A1))) [.pv (.nob "Board" [("long",.int c.length),("many",.int R.length),("scale",.int 1)] [("across",bp 0 c.length)]),.fr (lI c),.fr (gI R),.fr (lI L)]=some (.nx,[.pv (.nob "Board" [("long",.int c.length),("many",.int R.length),("scale",.int 1)] [("across",bp 0 c.length),("down",bp c.length R.length)]),.fr (lI c),.fr (gI R),.fr (lI L)]):=by have:=IY (Z:=[.pv (.nob "Board" [("long",.int c.length),("many",.int R.length),("scale",.int 1)] [("across",bp 0 c.length)]),.fr (lI c),.fr (gI R),.fr (lI L)]) (i:=c.length) (j:=c.length+R.length) (ma:=a9 (aW ["Board"] 0 "long") AT) (mb:=aA aQ A' (a9 (aW ["Board"] 0 "many") A1)) (cK rfl) (ao (cK rfl) (cK rfl) rfl) Z4 Q1;rw[show c.length+R.length-c.length=R.length by lia] at this;exact sk this rfl
  have C:=nU (i:=4) (e:=aA aQ (bK eD (ae 4)) (aP (cJ (ae 5)))) (ts:=R.zip L) (S:=[.pv (.nob "Board" [("long",.int c.length),("many",.int R.length),("scale",.int 1)] [("across",bp 0 c.length),("down",bp c.length R.length)]),.fr (lI c),.fr (gI R),.fr (lI L)]) (λp=>lI p.1) (λp=>.int p.2) (λp=>lI (p.1++[p.2])) rfl (by simp;lia) λp hp=>by have P:=f.r p.1 (Td hp).1;refine⟨_,ao (eJ rfl (oO (r:=.nw (.lst (p.1.map A.int))) rfl rfl)) (dD (rs:=[.fr (.int p.2)]) rfl rfl) (j8 (by simp;lia) _),?_⟩;show some (A.lst (p.1.map A.int++[.int p.2]),_)=_;unfold lI;rw[RP];rfl
  have X:kb ["Board"] 0 "grid" (aI 2 (lJ (ae 2) (ae 3)) (G2 4 5) aG (aA aQ (bK eD (ae 4)) (aP (cJ (ae 5))))) [.pv (.nob "Board" [("long",.int c.length),("many",.int R.length),("scale",.int 1)] [("across",bp 0 c.length),("down",bp c.length R.length)]),.fr (lI c),.fr (gI R),.fr (lI L)]=some (.nx,[.pv (.nob "Board" [("long",.int c.length),("many",.int R.length),("scale",.int 1)] [("across",bp 0 c.length),("down",bp c.length R.length),("grid",(R.zip L).map λp=>lI (p.1++[p.2]))]),.fr (lI c),.fr (gI R),.fr (lI L)]):=by refine sk (a6 (as:=(R.zip L).map λp=>A.tup [lI p.1,.int p.2]) ?_ C) rfl;rw[<-gi];rfl
  refine Wp.df (Wp.st z (Wp.st q (Wp.st rfl (Wp.st H (Wp.st b (Wp.st X (Wp.en (f:=.nx) (U:=[.pv (.nob "Board" [("long",.int c.length),("many",.int R.length),("scale",.int 1),("grid",.lst (((R.zip L).map λp=>lI (p.1++[p.2]))++[lI (c.map (λx=>-x)++[0])]))] [("across",bp 0 c.length),("down",bp c.length R.length)]),.fr (lI c),.fr (gI R),.fr (lI L)]) (uY (r:=.fr .non) ?_) ⟨rfl,[.fr (lI c),.fr (gI R),.fr (lI L)],?_⟩)))))))
  .have D:=aU (e:=aT bY (ae 4)) (ts:=c) (k:=A.int) (S:=[.fr (.obj "Board" [("long",.int c.length),("many",.int R.length),("scale",.int 1),("across",.lst (bp 0 c.length)),("down",.lst (bp c.length R.length)),("grid",.lst ((R.zip L).map λp=>lI (p.1++[p.2])))]),.fr (lI c),.fr (gI R),.fr (lI L)]) (λx=>.int (-x)) rfl Q1 λx _=>⟨_,rfl,rfl⟩
   rw[show (c.map λx=>A.int (-x))=(c.map λx=>-x).map A.int by rw[RK];rfl] at D;have Q:(c.map (λx=>-x)++[0]).map A.int=(c.map λx=>-x).map A.int++[A.int 0]:=by rw[RP];rfl
   have lv:jI 0 (aA aQ (aI 1 (cX (ae 1)) (aL 4) aG (aT bY (ae 4))) (aP (cJ (au 0)))) [.pv (.nob "Board" [("long",.int c.length),("many",.int R.length),("scale",.int 1)] [("across",bp 0 c.length),("down",bp c.length R.length),("grid",(R.zip L).map λp=>lI (p.1++[p.2]))]),.fr (lI c),.fr (gI R),.fr (lI L)]=some (.nw (.lst ((c.map (λx=>-x)++[0]).map A.int))):=by have h:=rq (c.map (λx=>-x)++[0]);rw[Q] at h ⊢;exact x9 rfl (ao (a6 rfl D) (dD (rs:=[.fr (.int 0)]) rfl rfl) (j8 (by simp;lia) _)) rfl h
   refine C0 rfl lv rfl ?_;show (if ((R.zip L).map λp=>lI (p.1++[p.2])).length<=100000 then _ else none)=_;rw[Zv (by simp;lia)];rfl
  .rw[A4];unfold gI;rw[Kw f];have V:bp 0 c.length=(Sx.hU (eB c R L)).ac.map A.int:=by show _=((Rp c.length).map UD).map A.int;unfold bp;rw[RK];exact Sg λi _=>by show A.int (0+(i:Int))=A.int (i:Int);rw[Ts]
   have G:bp c.length R.length=(Sx.hU (eB c R L)).dn.map A.int:=by show _=((Rp R.length).map λi=>((c.length+i:Nat):Int)).map A.int;unfold bp;rw[RK];rfl
   rw[V,G];rfl
 obtain⟨g,Z,e,rfl,Y,rfl⟩:=go;exact⟨Y,e⟩
theorem lU{t:Mi Bool}{b:Ms}(P:Nat->List Sl->Prop)(Q:Fl->List Sl->Prop)(hs:∀k Z,P k Z->(∃U,t Z=some (.ok false,U)/\Q .nx U)\/∃U,t Z=some (.ok true,U)/\Wp b U λf Z'=>(f=.nx/\∃v,v<k/\P v Z')\/X2 λ(s:Sl)(_:Unit)=>f=.rt s/\Q (.rt s) Z'):∀n k Z,P k Z->k<n->∃f O,dC t b n Z=some (f,O)/\Q f O
 |0,_,_,_,h=>absurd h (Sn _)
 |n+1,k,Z,p,h=>by
  rcases hs k Z p with ⟨U,e,q⟩|⟨U,e,f,Z',e2,z⟩
  .exact⟨.nx,U,by unfold dC;rw[e],q⟩
  .rcases z with ⟨rfl,v,hk,S⟩|⟨s,_,rfl,q⟩
   .obtain⟨f,O,L,q⟩:=lU P Q hs n v Z' S Q1;exact⟨f,O,by unfold dC;rw[e];dsimp only;rw[e2];exact L,q⟩
   .exact⟨.rt s,Z',by unfold dC;rw[e];dsimp only;rw[e2],q⟩
theorem rE{s:Sl}(c:rs.all Bs=true)(h:dW f o (rs.map vA) s o')(hr:jm s=some r)(hl:aD Z i=some o):dr f [] (.rf i::rs) Z=some (.ok r,setAt Z i o'):=by
 simp only[<-eH h hr hl];have G:((rs.map vA).map Rr.fr).all Bs=true:=by simp only[VL];simp[Bs]
 have e:∀Z,bU (.rf i::rs) Z=bU (.rf i::(rs.map vA).map Rr.fr) Z:=λZ=>by
  unfold bU;cases take1 (.rf i) Z with
  |none=>rfl
  |some p=>dsimp only;rw[kM _ _ c,kM _ _ G];rw[show ((rs.map vA).map Rr.fr).map vA=rs.map vA by rw[RK];exact W9 _]
 have e2:∀S ss Z,putL S (.rf i::rs) ss Z=putL S (.rf i::(rs.map vA).map Rr.fr) ss Z:=λS ss Z=>by
  cases ss with
  |nil=>rfl
  |cons s ss=>
   unfold putL;have key:∀(rs ts:List Rr)(ss:List Sl),rs.length=ts.length->rs.all Bs=true->ts.all Bs=true->putL S rs ss Z=putL S ts ss Z:=by
    intro rs;induction rs with
    |nil=>intro ts ss hl _ _;cases ts with
     |nil=>rfl
     |cons t ts=>cases hl
    |cons r rs l=>intro ts ss hl h1 h2;cases ts with
     |nil=>cases hl
     |cons t ts=>
      simp only[Rt,QZ] at h1 h2;cases ss with
      |nil=>rfl
      |cons s ss=>
       unfold putL;rw[l ts ss (Vq hl) h1.2 h2.2];cases putL S ts ss Z with
       |none=>rfl
       |some U=>
        cases r with
        |rf i=>cases h1.1
        |fr a=>cases t with
         |rf i=>cases h2.1
         |fr a=>rfl
         |nw a=>rfl
        |nw a=>cases t with
         |rf i=>cases h2.1
         |fr a=>rfl
         |nw a=>rfl
   rw[key rs ((rs.map vA).map Rr.fr) ss Z3 c G]
 unfold dr;simp only[SY,RX,e,e2]
theorem hW:∀(n:Nat){Z:List Sl},Z.all np=true->ax n Z=Q3 n .un
 |0,_,_=>rfl
 |n+1,[],_=>by rw[ax,hW n rfl];rfl
 |n+1,s::Z,h=>by
  simp only[Rt,QZ] at h;cases s with
  |pv o=>cases h.1
  |un=>rw[ax,hW n h.2];rfl;intro o z;cases z
  |fr a=>rw[ax,hW n h.2];rfl;intro o z;cases z
  |lv a=>rw[ax,hW n h.2];rfl;intro o z;cases z
  |cf a=>rw[ax,hW n h.2];rfl;intro o z;cases z
theorem D7(n:Nat):(Q3 n Sl.un).all xk=true:=by rw[R8];intro x hx;rw[Tc hx];rfl
theorem lz{c:Str}{fs:List (Str×A)}{ls:List (Str×List A)}{as:List A}{a:A}(h:eN f ((LO.nob c fs ls).a::as) a)(hp:pl a=true):dW (cS 0 f) (.nob c fs ls) as (.fr a) (.nob c fs ls):=by
 obtain⟨Z,h1,h2⟩:=h;refine⟨(Q3 as.length .un),?_⟩;show (match f (.fr (LO.nob c fs ls).a::as.map Sl.fr) with
  |some (.rt s,T)=>if Bl (ax (as.map Sl.fr).length.succ T)[0]?&&(s::ax (as.map Sl.fr).length.succ T).all xk then some (Fl.rt s,(ax (as.map Sl.fr).length.succ T).set 0 (.pv (.nob c fs ls))) else none
  |some (.ex x,T)=>_
  | _=>none)=_
 rw[show f (.fr (LO.nob c fs ls).a::as.map Sl.fr)=some (.rt (.fr a),Z) from h1];dsimp only;rw[hW _ h2,Q7];have e:(Bl (Q3 as.length.succ Sl.un)[0]?&&(Sl.fr a::Q3 as.length.succ Sl.un).all xk)=true:=by rw[QZ,Rt,D7];exact⟨rfl,by rw[Ta];exact hp⟩
 rw[Zv e];rfl
theorem Ac{c:Str}{fs:List (Str×A)}{ls:List (Str×List A)}{as:List A}{s:Sl}(h:dW f (.nob c fs ls) as s o):dW f (.nob c fs ls) as s o:=h
theorem zx{I:List A}{ms:Mi (List Rr)}(h:ms Z=some (.ok rs,U))(c:dr f I rs U=none):bj f I ms Z=none:=bk h c
theorem zy(n:Nat)(s:Int)(v:Nat->Int):pl (nS n s v)=true:=by
 show CS ((Rp n).map λj=>nm (iw (v j) s))=true;generalize Rp n=l;induction l with
 |nil=>rfl
 |cons x l u=>show (pl (nm (iw (v x) s))&&CS _)=true;rw[u];rfl
section
variable{M:Nat}{c:List Int}{R:List (List Int)}{L:List Int}(fF:kE M c R L){N:Nat}{b:Sx.Bo}
include fF
theorem Mv:(eB c R L).Le M:=⟨fF.m0,λj a=>fF.bc _ (fe a),λi j hi a=>by have m:=Sx.getD_mem hi;exact fF.br _ m _ (fe (by rw[fF.r _ m];exact a)),λi hi=>fF.bl _ (fe (by rw[fF.l];exact hi))⟩
theorem Lc(h:Sx.Ok (eB c R L) N b):Gd (eB c R L) N b:=by
 have hN:N=c.length\/N=c.length+1:=h.hN;have hn:=fF.n;have hm:=fF.m;have fb:=fF.fb;refine⟨h,h.sh,by lia,hn,hm,λr hr x hx=>?_,Tg (h.OC (Mv fF)) fb,h.pos⟩;obtain⟨i,hi,rfl⟩:=S8 hr;obtain⟨l,hl,rfl⟩:=S8 hx;have k:i<=R.length:=by have:=h.sh.g;show i<=(eB c R L).m;lia
 have z:l<=N:=by have:=h.sh.r _ hr;lia
 have e:b.Gq i l=b.g[i][l]:=by simp[Sx.Bo.Gq,RL,hi,hl]
 have:=h.Oa (Mv fF) k z;simp only[e] at this;exact Tg this fb
end
theorem xF{P:Sx.Pb}{b:Sx.Bo}(h:Gd P N b)(hc:c<=N)(u:Int):L2.Bd 2900 (Sx.vl P b c u):=by
 have hm:=h.bb.hm;have z:L2.Bd 1400 (0:Int):=TH Z1;have h1:L2.Bd 1410 (Sx.su P.m λi=>if b.Bq i=u then Sx.qs P.n c*b.Gq i c else 0):=Fw (λi hi=>by
  by_cases e:b.Bq i=u
  .rw[Zv e];have:=h.bb.gb (i:=i) (by exact Ru ‹_›) hc;unfold Sx.qs;split
   .rw[TQ];exact this.neg
   .rw[Su];exact this
  .rw[Zw e];exact z) Z4
 refine(L2.Bd.add h1 (?_:L2.Bd 1400 _)).mono (show max 1410 1400+1<=2900 by decide);split
 .exact h.bb.bs
 .exact z
theorem Kq{P:Sx.Pb}{b:Sx.Bo}(h:Gd P N b){r:Nat}(hr:r<=P.m)(u:Int):L2.Bd 2900 (Sx.Fc N b r u):=by
 have hN:=h.bb.hN;refine L2.Bd.mono (Fw (b:=1400) (λl hl=>?_) Z4) Z1;by_cases e:b.Aq l=u
 .rw[Zv e];exact h.bb.gb hr (by exact Ru ‹_›)
 .rw[Zw e];exact TH Z1
theorem qZ:∀k,(Sx.allB k).length=2^k
 |0=>rfl
 |k+1=>by show ((Sx.allB k).map _++(Sx.allB k).map _).length=_;simp only[Rn,Q7,Q7,qZ k,Xl];lia
theorem Hn{P:Sx.Pb}(hn:P.n<=48)(hm:P.m<=48)(K:Sx.Bo->Prop)(ob:Sx.Bo->Nat->Int)(b:Sx.Bo):Sx.ms P K ob b<GD:=by refine Tg List.countP_le_length ?_;rw[qZ];exact Nat.pow_lt_pow_right Z1 Q1
abbrev Ie(n m:Nat)(b:Sx.Bo)(x1 x2 x3:Sl):List Sl:=[.pv (bO n m b),x1,x2,x3]
abbrev EU:Mi Rr:=a9 (aW ["Board"] 0 "grid") AC
abbrev PJ:Mi Rr:=a9 (aW ["Board"] 0 "scale") At
abbrev NU:Mi Rr:=a9 (bz a5 (cJ (bD "Board" "point" 0))) (a9 (bj (cS 0 a5) [] (cJ (bD "Board" "point" 0))) (bz a5 (cJ (bX "Board" "point" (ae 0)))))
abbrev O3(e:Mi Rr):Mi Rr:=a9 (bz a7 (bN (bD "Board" "prices" 0) e)) (a9 (bj (cS 0 a7) [] (bN (bD "Board" "prices" 0) e)) (bz a7 (bN (bX "Board" "prices" (ae 0)) e)))
abbrev P4:Mi Rr:=a9 (bz cQ (bN (bD "Board" "way" 0) (ai 1))) (a9 (bj (cS 0 cQ) [] (bN (bD "Board" "way" 0) (ai 1))) (bz cQ (bN (bX "Board" "way" (ae 0)) (ai 1))))
section
variable{P:Sx.Pb}{N:Nat}{b:Sx.Bo}{xs:List Sl}
theorem OS(n m:Nat):EU (.pv (bO n m b)::xs)=some (.ok (.fr (gI b.g)),.pv (bO n m b)::xs):=cK rfl
theorem pG{n m:Nat}(h:Bb n m N b):mix EU (aT bY (au 1)) (.pv (bO n m b)::xs)=some (.ok (.fr (lI (b.g.getD m []))),.pv (bO n m b)::xs):=ao (OS n m) rfl (bP (.inl rfl) (BF h.sh.g))
theorem Oy(h:Gd P P.n b):NU (.pv (bO P.n P.m b)::xs)=some (.ok (.fr (nS P.n b.s λj=>Sx.vl P b P.n j)),.pv (bO P.n P.m b)::xs):=
 kS rfl (cK (aJ rfl (eH (lz (as:=[]) (Ef h) (zy _ _ _)) rfl rfl)))
theorem N9(h:Gd P P.n b)(hc:c<P.n){ys:List Sl}:P4 (.pv (bO P.n P.m b)::.fr (.int c)::ys)=some (.ok (.fr (nS P.n b.s λj=>Sx.vl P b c j)),.pv (bO P.n P.m b)::.fr (.int c)::ys):=
 kS rfl (cK (aJ rfl (eH (lz (as:=[.int c]) (MG h hc) (zy _ _ _)) rfl rfl)))
theorem Og(h:Gd P N b)(j:N<=ts.length)(he:e (.pv (bO P.n P.m b)::xs)=some (.ok r,.pv (bO P.n P.m b)::xs))(hr:Bs r=true)(t:vA r=lI ts):O3 e (.pv (bO P.n P.m b)::xs)=some (.ok (.fr (nS P.m b.s λk=>Sx.su N λl=>if b.Aq l=((P.n+k:Nat):Int) then ts.getD l 0 else 0)),.pv (bO P.n P.m b)::xs):=by
 have f:dW (cS 0 a7) (bO P.n P.m b) [lI ts] (.fr (nS P.m b.s λk=>Sx.su N λl=>if b.Aq l=((P.n+k:Nat):Int) then ts.getD l 0 else 0)) (bO P.n P.m b):=lz (MN h j) (zy _ _ _);have hc:=rE (i:=0) (Z:=.pv (bO P.n P.m b)::xs) (by simp only[Rt,hr];rfl) (show dW _ _ ([r].map vA) _ _ by rw[RO,t];exact f) rfl rfl;refine kS (zx (af rfl (af he rfl)) ?_) (cK (aJ (af rfl (af he rfl)) hc));cases r with
 |rf i=>cases hr
 |fr a=>rfl
 |nw o=>rfl
end
theorem D8{n m:Nat}{b:Sx.Bo}(h:Bb n m N b)(G:gs.length<=N)(bg:∀x∈gs,L2.Bd 1400 x){xs:List Sl}(he:e (.pv (bO n m b)::xs)=some (.ok r,.pv (bO n m b)::xs))(hr:Bs r=true)(t:vA r=lI gs):
  ∃f,bj (cS 0 cg) [] (bN (ae 0) e) (.pv (bO n m b)::xs)=some (.ok (.fr f),.pv (bO n m b)::xs)/\((f=.non/\∀j,j<gs.length->gs.getD j 0<=0)\/∃k:Nat,f=.int k/\k<gs.length/\0<gs.getD k 0):=by
 obtain⟨f,v,z⟩:=GF h G bg;have hp:pl f=true:=by rcases z with ⟨rfl,_⟩|⟨k,rfl,_⟩<;>rfl
 have S:dW (cS 0 cg) (bO n m b) [lI gs] (.fr f) (bO n m b):=Ac (lz (as:=[lI gs]) v hp);exact⟨f,aJ (rs:=[.rf 0,r]) (af rfl (af he rfl)) (rE (rs:=[r]) (by rw[Rt,hr];rfl) (show dW _ _ ([r].map vA) _ _ by rw[RO,t];exact S) rfl rfl),z⟩
theorem Dp{P:Sx.Pb}{b:Sx.Bo}(h:Gd P N b)(hc:c<N){xs:List Sl}(a:(.pv (bO P.n P.m b)::xs)[j]?=some (.fr (.int c))):
  ∃f:Option Nat,bj (cS 0 cE) [] (bN (ae 0) (ai j)) (.pv (bO P.n P.m b)::xs)=some (.ok (.fr (oA f)),.pv (bO P.n P.m b)::xs)/\Sx.pD P N b c P.m f:=by
 obtain⟨f,v,z⟩:=v8 h hc;have hp:pl (oA f)=true:=by cases f<;>rfl
 have G:dW (cS 0 cE) (bO P.n P.m b) [.int c] (.fr (oA f)) (bO P.n P.m b):=Ac (lz v hp);exact⟨f,aJ (af rfl (af (CG a) rfl)) (eH (as:=[.int c]) G rfl rfl),z⟩
theorem Hx{r:List Int}(h:j<r.length):(Sx.iS r).getD j 0 =-r.getD j 0:=Sx.getD_map h
theorem GQ{r:List Int}{k:Nat}(h:j<k):(r.take k).getD j 0=r.getD j 0:=by simp[RL,h]
abbrev NT:Ms:=aC (aM 1 (bj (cS 0 cg) [] (bN (ae 0) (bz bH (cJ (fB (cO (mix EU (aT bY (au 1))) aK (bx (aT bY (au 1)))))))))) (aC (iq (aq (aA (rZ false) (ae 1) (mC .non))) (aC (aM 2 (bz cj (bN (mix (mix EU (aT bY (au 1))) (aT bY (au 1))) PJ))) (bV (cL (BA (mC (.str "best")) (ae 2) NU (O3 (mix EU (aT bY (au 1)))))))) bJ) (aC (aM 3 (bj (cS 0 cE) [] (bN (ae 0) (ai 1)))) (aC (iq (aq (aA (rZ false) (ae 3) (mC .non))) (bV (cL (dJ (mC (.str "open")) NU P4))) bJ) (dU (a9 (bz bS (dJ (bD "Board" "turn" 0) (ai 3) (ai 1))) (a9 (bj (cS 0 bS) [] (dJ (bD "Board" "turn" 0) (ai 3) (ai 1))) (bz bS (dJ (bX "Board" "turn" (ae 0)) (ai 3) (ai 1)))))))))
variable{x1 x2 x3:Sl}
section
variable{M:Nat}{c:List Int}{R:List (List Int)}{L:List Int}(fF:kE M c R L)
include fF
theorem CV{b:Sx.Bo}(K:Sx.K2 (eB c R L) b)(h1:np x1=true)(h2:np x2=true)(h3:np x3=true):Wp NT (Ie c.length R.length b x1 x2 x3) λg Z=>
  (g=.nx/\∃F x1 x2 x3,Z=Ie c.length R.length F x1 x2 x3/\(np x1=true/\np x2=true/\np x3=true)/\Sx.K2 (eB c R L) F/\Sx.ms (eB c R L) (Sx.K2 (eB c R L)) (Sx.MB (eB c R L)) F<Sx.ms (eB c R L) (Sx.K2 (eB c R L)) (Sx.MB (eB c R L)) b) \/
  ∃t F xs,g=.rt (.fr t)/\Told c R L t/\Z=.pv (bO c.length R.length F)::xs:=by
 have ok:=K.1;have gd:=Lc fF ok;have bb:Bb c.length R.length c.length b:=gd.bb;have hn:=fF.n;have h:(b.g.getD R.length []).length=c.length+1:=bb.sh.row (Q9 _);have gs:∀xs:List Sl,bz bH (cJ (fB (cO (mix EU (aT bY (au 1))) aK (bx (aT bY (au 1)))))) (.pv (bO c.length R.length b)::xs)=some (.ok (.nw (.lst ((Sx.iS ((b.g.getD R.length []).take c.length)).map A.int))),.pv (bO c.length R.length b)::xs):=λxs=>by refine aJ (rs:=[.fr (lI ((b.g.getD R.length []).take c.length))]) (af (jC (vp (pG bb) (n:=c.length) (by simpa using h)) ?_) rfl) (i9 (E8 (by rw[So,h];lia)) _);rw[<-Ub];rfl
 have gl:(Sx.iS ((b.g.getD R.length []).take c.length)).length=c.length:=by simp only[Sx.iS,Q7,So,h];simp
 have m:∀j,j<c.length->(Sx.iS ((b.g.getD R.length []).take c.length)).getD j 0 =-b.Gq R.length j:=λj D=>by rw[Hx (by rw[So,h];lia),GQ D];rfl
 obtain⟨v,o,E⟩:=D8 bb (gs:=Sx.iS ((b.g.getD R.length []).take c.length)) Q1 (λx hx=>by obtain⟨y,hy,rfl⟩:=RY.mp hx;exact(bb.bg _ (Sx.getD_mem (by rw[bb.sh.g];lia)) y (SW hy)).neg) (gs [x1,x2,x3]) rfl rfl
 refine Wp.st (aY o rfl rfl h1 rfl) ?_;rw[gl] at E;have ne:b.s≠0:=by have:=bb.pos;lia
 have O:L2.Bd 2900 b.s:=bb.bs.mono Z1;have kp:=ok.keeps K.2;have z:∀xs:List Sl,NU (.pv (bO c.length R.length b)::xs)=some (.ok (.fr (nS c.length b.s λj=>Sx.vl (eB c R L) b c.length j)),.pv (bO c.length R.length b)::xs):=λxs=>Oy (P:=eB c R L) gd;have C:∀xs:List Sl,O3 (mix EU (aT bY (au 1))) (.pv (bO c.length R.length b)::xs)=some (.ok (.fr (nS R.length b.s λk=>Sx.Fc c.length b R.length ((c.length+k:Nat):Int))),.pv (bO c.length R.length b)::xs):=λxs=>Og (P:=eB c R L) gd (ts:=b.g.getD R.length []) (by rw[h];show c.length<=_;lia) (pG bb) rfl rfl;rcases E with ⟨rfl,E⟩|⟨k,rfl,hk,E⟩
 .obtain⟨f,Q,X,w⟩:=Sx.An ok λl hl=>by have hl:l<c.length:=hl;have:=E l hl;rw[m l hl] at this;show 0<=b.Gq R.length l;lia
  have s2:∀x2,np x2=true->aM 2 (bz cj (bN (mix (mix EU (aT bY (au 1))) (aT bY (au 1))) PJ)) (Ie c.length R.length b (.fr .non) x2 x3)=some (.nx,Ie c.length R.length b (.fr .non) (.fr (nm (iw (b.Gq R.length c.length) b.s))) x3):=λx2 h2=>aY (aJ (af (ao (pG bb) rfl (bP (.inl rfl) (oZ h))) (af (cK rfl) rfl)) (cI (AL ne (bb.bs.mono Z1)) _)) rfl rfl h2 rfl
  refine Wp.sr (d0 rfl (fm (s2 _ h2) (aV (da (af rfl (af rfl (af (z _) (af (C _) rfl)))) rfl) rfl))) (.inr ⟨_,b,_,rfl,?_,rfl⟩);refine Told.best bb.pos O (λj D=>xF gd (Q9 _) _) (λk hk=>Kq gd (Q9 _) _) ((bb.gb (Q9 _) (Q9 _)).mono Z1) kp.nn (λk _=>Q k) (λi hi=>by rw[RJ];exact kp.le i hi) (λj D=>?_) f ?_
  .rw[RJ];refine Um (X j D) (Tt (Sx.aS λk _=>RJ _ _))
  .exact Eq.trans (Sx.aS λk _=>RJ _ _) w
 .rw[m k hk] at E;obtain⟨H,T,d⟩:=Dp gd (c:=k) hk (xs:=[.fr (.int k),x2,x3]) (j:=1) rfl;refine Wp.st (cZ rfl rfl) (Wp.st (aY T rfl rfl h3 rfl) ?_);cases H with
  |none=>obtain⟨I,o2⟩:=Sx.AR ok hk (show b.Gq R.length k<0 by lia) d;refine Wp.sr (d0 rfl (aV (da (af rfl (af (z _) (af (N9 (P:=eB c R L) gd hk) rfl))) rfl) rfl)) (.inr ⟨_,b,_,rfl,?_,rfl⟩);exact Told.opn bb.pos O (λj D=>xF gd (Q9 _) _) (λj D=>xF gd (Ru hk) _) kp.nn I.nn (λi hi=>by rw[RJ];exact kp.le i hi) (λi hi=>by have:=I.le i hi;rwa[show ({ eB c R L with L:=λ_=>0 }:Sx.Pb).L i=0 from rfl,RQ] at this) o2
  |some a=>obtain⟨ha,hp,hl⟩:=d;obtain⟨q,lt⟩:=Sx.Jz K ha hk hp (show b.Gq R.length k<0 by lia) hl;have V:=eH (i:=0) (Z:=Ie c.length R.length b (.fr (.int k)) x2 (.fr (.int a))) (IE bb (a:=a) (c:=k) ha hk) rfl rfl;refine Wp.st (cZ rfl rfl) (Wp.en (uY (cK (aJ (rs:=[.rf 0,.fr (.int a),.fr (.int k)]) rfl V))) (.inl ⟨rfl,b.turn a k,.fr (.int k),x2,.fr (.int a),rfl,⟨rfl,h2,rfl⟩,q,lt⟩))
theorem wQ{b:Sx.Bo}(K:Sx.K2 (eB c R L) b):∃t F,dW ie (bO c.length R.length b) [] (.fr t) (bO c.length R.length F)/\Told c R L t:=by
 suffices ∃s o',dW ie (bO c.length R.length b) [] s o'/\∃t F,s=.fr t/\o'=bO c.length R.length F/\Told c R L t by obtain⟨s,o',v,t,F,rfl,rfl,h⟩:=this;exact⟨t,F,v,h⟩
 obtain⟨g,O,e,t,F,xs,rfl,j,rfl⟩:=lU (t:=aq (mC (.bl true)))
  (λk Z=>∃F x1 x2 x3,Z=Ie c.length R.length F x1 x2 x3/\(np x1=true/\np x2=true/\np x3=true)/\Sx.K2 (eB c R L) F/\k=Sx.ms (eB c R L) (Sx.K2 (eB c R L)) (Sx.MB (eB c R L)) F)
  (λg Z=>∃t F xs,g=.rt (.fr t)/\Told c R L t/\Z=.pv (bO c.length R.length F)::xs) (by
   rintro k Z ⟨V,x1,x2,x3,rfl,⟨h1,h2,h3⟩,i,rfl⟩;refine .inr ⟨_,rfl,Wp.mono (CV fF i h1 h2 h3) ?_⟩;rintro g Z' (⟨rfl,r,H,B,x,rfl,hy,K2,lt⟩|⟨t,r,ys,rfl,j,rfl⟩)
   .exact .inl ⟨rfl,_,lt,r,H,B,x,rfl,hy,K2,rfl⟩
   .exact .inr ⟨_,(),rfl,t,r,ys,rfl,j,rfl⟩) GD _ (Ie c.length R.length b .un .un .un) ⟨b,_,_,_,rfl,⟨rfl,rfl,rfl⟩,K,rfl⟩ (Hn fF.n fF.m _ _ _)
 exact dW.of (Wp.df (Wp.en (Ep e) ⟨_,_,xs,rfl,rfl,t,F,rfl,rfl,j⟩))
end
theorem nD:∀bs:List Bool,gO (bs.map A.bl)=some bs
 |[]=>rfl
 |b::bs=>by simp only[RO,gO,nD bs]
theorem A3(ts:List T)(p:T->Bool):ke (λbs=>V0 bs id) (.lst (ts.map λx=>.bl (p x)))=some (.fr (.bl (ts.any p))):=by
 have e:(ts.map λx=>A.bl (p x))=(ts.map p).map A.bl:=by rw[RK];rfl
 unfold ke;dsimp only;rw[e,nD];dsimp only;rw[VM];rfl
section
variable{M:Nat}{c:List Int}{R:List (List Int)}{L:List Int}(fF:kE M c R L)(hL:∀i,i<R.length->0<=L.getD i 0)
include fF hL
abbrev Me(c:List Int)(R:List (List Int))(L:List Int)(b:Sx.Bo)(x4:Sl):List Sl:=[.fr (lI c),.fr (gI R),.fr (lI L),.lv (bO c.length R.length b),x4]
theorem zw:∃t,Val qk [lI c,gI R,lI L] t/\Told c R L t:=by
 have hm:=fF.m;have hl:=fF.l;have F:aM 3 (ot "Board" dA [] (dJ (ai 0) (ai 1) (ai 2))) [.fr (lI c),.fr (gI R),.fr (lI L),.un,.un]=some (.nx,Me c R L (Sx.hU (eB c R L)) .un):=aY (BI (af rfl (af rfl (af rfl rfl))) (xo fF _)) rfl rfl rfl rfl;have ex:=aU (e:=aA pj (ae 5) (au 0)) (ts:=L) (k:=A.int) (S:=Me c R L (Sx.hU (eB c R L)) .un) (λx=>.bl (decide (x<0))) rfl Q1 λx hx=>⟨_,ao rfl rfl (jD rfl _),rfl⟩
 have an:∀t,L.any (λx=>decide (x<0))=t->aq (bK (ke λbs=>V0 bs id) (aI 1 (cX (ae 2)) (aL 5) aG (aA pj (ae 5) (au 0)))) (Me c R L (Sx.hU (eB c R L)) .un)=some (.ok t,Me c R L (Sx.hU (eB c R L)) .un):=λt j=>by exact aE (eJ (a6 rfl ex) (oO rfl (by rw[A3,j])))
 have fin:∀b x4,Sx.K2 (eB c R L) b->np x4=true->∃t,Wp (bV (bz ie (cJ (ae 3)))) (Me c R L b x4) (λg _=>g=.rt (.fr t))/\Told c R L t:=λb x4 K h4=>by obtain⟨t,z,v,j⟩:=wQ fF K;exact⟨t,Wp.en (aV (aJ rfl (eH v rfl rfl)) rfl) rfl,j⟩
 have Q:L.any (λx=>decide (x<0))=false:=by rw[T5];intro x hx;obtain⟨i,hi,rfl⟩:=S8 hx;have:=hL i Q1;simp only[RL,Ry hi,UZ] at this;simp;exact this
 obtain⟨t,w,j⟩:=fin _ .un ⟨Sx.J3 (eB c R L),Sx.Hj hL⟩ rfl;exact⟨t,Val.of (Wp.df (Wp.st F (Wp.st (cZ (an false Q) rfl) (Wp.mono w λg _ e=>by rw[e])))),j⟩
theorem Cm:∃t,eN aN [lI c,gI R,lI L] t/\Told c R L t:=by
 have hn:=fF.n;have hm:=fF.m;obtain⟨t,v,j⟩:=zw fF hL;have lc:∀Z,bK cM (ae 0) (.fr (lI c)::Z)=some (.ok (.fr (.int c.length)),.fr (lI c)::Z):=λZ=>by show some (RU (Rr.fr (.int (c.map A.int).length)),_)=_;rw[Q7]
 have h:bK cM (ae 1) [.fr (lI c),.fr (gI R),.fr (lI L)]=some (.ok (.fr (.int R.length)),[.fr (lI c),.fr (gI R),.fr (lI L)]):=by show some (RU (Rr.fr (.int (R.map lI).length)),_)=_;rw[Q7]
 have C:bK cM (ae 2) [.fr (lI c),.fr (gI R),.fr (lI L)]=some (.ok (.fr (.int R.length)),[.fr (lI c),.fr (gI R),.fr (lI L)]):=by show some (RU (Rr.fr (.int (L.map A.int).length)),_)=_;rw[Q7,fF.l]
 have ne:∀(i:Nat) Z,jU fS (.fr (.int i)) (.fr (.int i)) Z=some (.ok (.fr (.bl false)),Z):=λi Z=>by
  have e:fS (.int i) (.int i)=some (.fr (.bl false)):=by unfold fS;simp only[kK,Zy rfl];rfl
  exact fu (o:=none) rfl rfl e
 have ex:=aU (e:=aA fS (bK cM (ae 3)) (bK cM (ae 0))) (ts:=R) (k:=lI) (S:=[.fr (lI c),.fr (gI R),.fr (lI L)]) (λx=>.bl false) rfl Z4 λr hr=>by
  have F:bK cM (ae 3) ([.fr (lI c),.fr (gI R),.fr (lI L)]++[.fr (lI r)])=some (.ok (.fr (.int c.length)),[.fr (lI c),.fr (gI R),.fr (lI L)]++[.fr (lI r)]):=by show some (RU (Rr.fr (.int (r.map A.int).length)),_)=_;rw[Q7,fF.r r hr]
  exact⟨_,ao F (lc _) (ne _ _),rfl⟩
 refine⟨t,eN.of (Wp.df (Wp.st (cZ (iW (aE (ao (lc _) rfl (iB (b:=false) (Zx Q1) _))) (aE (ao h rfl (iB (b:=false) (Zx Q1) _)))) rfl) (Wp.st (cZ (aE (ao C h (ne _ _))) rfl) (Wp.st (cZ (aE (eJ (a6 rfl ex) (oO (r:=.fr (.bl false)) rfl ?_))) rfl) (Wp.en (aV (aJ rfl (cI v _)) rfl) ⟨rfl,rfl⟩))))),j⟩;rw[A3 R λ_=>false,T5.mpr Z3]
theorem lT:∃t,Val aN [lI c,gI R,lI L] t/\Told c R L t:=by obtain⟨t,v,h⟩:=Cm fF hL;exact⟨t,v.v,h⟩
end
structure Kn(c:List Int)(R:List (List Int))(L x y:List Int):Prop where
 x0:∀j,j<c.length->0<=x.getD j 0
 y0:∀k,k<R.length->0<=y.getD k 0
 hL:∀i,i<R.length->(Sx.su c.length λj=>(R.getD i []).getD j 0*x.getD j 0)<=L.getD i 0/\(y.getD i 0≠0->L.getD i 0=Sx.su c.length λj=>(R.getD i []).getD j 0*x.getD j 0)
 hc:∀j,j<c.length->c.getD j 0<=(Sx.su R.length λk=>(R.getD k []).getD j 0*y.getD k 0)/\(x.getD j 0≠0->c.getD j 0=Sx.su R.length λk=>(R.getD k []).getD j 0*y.getD k 0)
def Bv(c x:List Int):Int:=Sx.su c.length λj=>c.getD j 0*x.getD j 0
section
variable{c:List Int}{R:List (List Int)}{L x y:List Int}(K:Kn c R L x y)
include K
theorem Kn.val:(Sx.su R.length λk=>y.getD k 0*L.getD k 0)=Bv c x:=by
 have e:=Sx.oy (P:=eB c R L) (x:=λj=>x.getD j 0) (y:=λk=>y.getD k 0);have a:(Sx.su c.length λj=>(Sx.su R.length λk=>y.getD k 0*(R.getD k []).getD j 0)*x.getD j 0)=Bv c x:=Sx.aS λj Z=>by
  have D:(Sx.su R.length λk=>y.getD k 0*(R.getD k []).getD j 0)=Sx.su R.length λk=>(R.getD k []).getD j 0*y.getD k 0:=Sx.aS λk _=>RJ _ _;rw[D];by_cases z:x.getD j 0=0
  .simp only[z,RQ,RQ]
  .simp only[(K.hc j Z).2 z]
 have b:(Sx.su R.length λk=>y.getD k 0*Sx.su c.length λj=>(R.getD k []).getD j 0*x.getD j 0)=Sx.su R.length λk=>y.getD k 0*L.getD k 0:=Sx.aS λk hk=>by
  by_cases z:y.getD k 0=0
  .simp only[z,SK,SK]
  .simp only[(K.hL k hk).2 z]
 exact(b.symm.trans e.symm).trans a
theorem Kn.keeps:Sx.Keeps (eB c R L) 1 λj=>x.getD j 0:=⟨K.x0,λk hk=>by simp only[Su];exact(K.hL k hk).1⟩
theorem Kn.xh(j:Nat)(a:j<c.length):1*c.getD j 0<=Sx.su R.length λk=>y.getD k 0*(R.getD k []).getD j 0:=by rw[Su];exact Um (K.hc j a).1 (Tt (Sx.aS λk _=>RJ _ _))
theorem Kn.most{z:Nat->Int}(k:Sx.Keeps (eB c R L) s z):(Sx.su c.length λj=>c.getD j 0*z j)<=Bv c x*s:=by have:=Sx.weak (P:=eB c R L) (t:=1) (y:=λk=>y.getD k 0) k K.y0 K.xh;have e:(Sx.su (eB c R L).m λk=>y.getD k 0*(eB c R L).L k)=Bv c x:=K.val;rw[e,Su,RJ] at this;exact this
theorem Kn.closed{z:Nat->Int}(hs:0<s)(k:Sx.Keeps { eB c R L with L:=λ_=>0 } s z)(G:0<Sx.su c.length λj=>c.getD j 0*z j):False:=
 Sx.Ed k (SR hs) G Z1 K.y0 K.xh
end
theorem KR{v w:Int}(hs:0<s)(h:w=v*s):iw w s=(v,1):=by have:=ox (Ol v) (show s≠0 by exact R5 ‹_›);rw[h];simpa using this
theorem pN{c:List Int}{x y:List Int}(K:Kn c R L x y){t:A}(h:Told c R L t):X3 λ(s:Int)(Y X:Nat->Int)=>N6 (t=.tup [.str "best",nm (Bv c x,1),nS c.length s Y,nS R.length s X]) (0<s) (L2.Bd 2900 s) (V9 c.length Y/\V9 R.length X) (∀j,j<c.length->0<=Y j) (∀k,k<R.length->0<=X k):=by
 cases h with
 |@non s X hs bs hy y0 xh less=>exact(Sx.kQ K.keeps Z1 y0 (λj a=>by rw[show (Sx.su (eB c R L).m λk=>X k*(eB c R L).R k j)=Sx.su R.length λk=>(R.getD k []).getD j 0*X k from Sx.aS λk _=>RJ _ _];exact xh j a) (by rw[show (Sx.su (eB c R L).m λk=>X k*(eB c R L).L k)=Sx.su R.length λk=>L.getD k 0*X k from Sx.aS λk _=>RJ _ _];exact less)).elim
 |@opn s Y z hs bs hx hz x0 z0 keep still Dk=>exact(K.closed hs ⟨z0,λk hk=>by show _<=s*0;simp only[RQ];exact still k hk⟩ Dk).elim
 |@best s w Y X hs bs hx hy bw x0 y0 keep xh e1 e2=>have I:=K.most ⟨x0,λi hi=>by show _<=s*L.getD i 0;rw[RJ];exact keep i hi⟩;rw[e1] at I;have b:=Sx.weak K.keeps y0 (λj a=>by rw[show (Sx.su (eB c R L).m λk=>X k*(eB c R L).R k j)=Sx.su R.length λk=>(R.getD k []).getD j 0*X k from Sx.aS λk _=>RJ _ _,RJ];exact xh j a);simp only[show (Sx.su (eB c R L).m λk=>X k*(eB c R L).L k)=w from (Sx.aS λk _=>RJ _ _).trans e2,Su] at b;rw[RJ] at b;rw[KR hs (Int.le_antisymm I b)];exact⟨s,Y,X,rfl,hs,bs,⟨hx,hy⟩,x0,y0⟩
noncomputable def qu:List (List Int):=(Rp 12).map λ(k:Nat)=>(Rp 12).map λ(j:Nat)=>(if (j:Int)=(k:Int) then 1 else 0)-if (j:Int)=(k:Int)-1 then 1 else 0
noncomputable def stC:List Int:=Q3 11 0++[1]
noncomputable def gY:List (List Int):=(Rp 48).map λ(k:Nat)=>(Rp 48).map λ(j:Nat)=>if (j:Int)=(k:Int) then 1 else 0
theorem K4:∀i,i<12->∀j,j<12->(qu.getD i []).getD j 0=(if j=i then 1 else 0)-if j+1=i then 1 else 0:=by decide +kernel
theorem Lx:∀i,i<48->∀j,j<48->(gY.getD i []).getD j 0=if j=i then 1 else 0:=by decide +kernel
theorem vq{n a:Nat}(f:Nat->Int)(ha:a<n):(Sx.su n λj=>(if j=a then 1 else 0)*f j)=f a:=by rw[Sx.jM ha λi _ ne=>by rw[Zw ne,SK],Zv rfl,Su]
theorem Ij(hi:i<12)(f:Nat->Int):(Sx.su 12 λj=>(qu.getD i []).getD j 0*Sx.su (j+1) f)=f i:=by
 rw[Sx.aS λj a=>by rw[K4 i hi j a,Int.sub_mul],Sx.sH,vq (λj=>Sx.su (j+1) f) hi];cases i with
 |zero=>
  have z:(Sx.su 12 λj=>(if j+1=0 then 1 else 0)*Sx.su (j+1) f)=0:=Sx.fg λj _=>by rw[Zw Z3,SK]
  rw[z];show (0:Int)+f 0-0=f 0;simp
 |succ i=>
  have z:(Sx.su 12 λj=>(if j+1=i+1 then 1 else 0)*Sx.su (j+1) f)=Sx.su (i+1) f:=(Sx.aS (g:=λj=>(if j=i then 1 else 0)*Sx.su (j+1) f) λj _=>by simp only[Nat.add_right_cancel_iff]).trans (vq (λj=>Sx.su (j+1) f) (by exact QF));rw[z];show (Sx.su (i+1) f+f (i+1))-Sx.su (i+1) f=f (i+1)
  lia
theorem HX(hi:i<48)(f:Nat->Int):(Sx.su 48 λj=>(gY.getD i []).getD j 0*f j)=f i:=by rw[Sx.aS λj a=>by rw[Lx i hi j a]];exact vq f hi
theorem Gs:∀j,j<12->(Sx.su 12 λk=>(qu.getD k []).getD j 0*(Q3 12 (1:Int)).getD k 0)=stC.getD j 0:=by decide +kernel
theorem FT:∀j,j<48->(Sx.su 48 λk=>(gY.getD k []).getD j 0*(Q3 48 (1:Int)).getD k 0)=(Q3 48 (1:Int)).getD j 0:=by decide +kernel
theorem fW{n:Nat}(a:Int)(h:i<n):(Q3 n a).getD i 0=a:=by simp[RL,h]
abbrev xn(L:List Int):List Int:=(Rp 12).map λj=>Sx.su (j+1) λi=>L.getD i 0
theorem sL(L:List Int)(h:j<12):(xn L).getD j 0=Sx.su (j+1) λi=>L.getD i 0:=by simp[RL,h]
theorem Ld(h:∀i,i<12->0<=L.getD i 0):Kn stC qu L (xn L) (Q3 12 1) where
 x0 j a:=by rw[sL L a];exact Sx.nZ λi hi=>h i (by have:j<12:=a;exact Rh ‹_› ‹_›)
 y0 k hk:=by rw[fW 1 (show k<12 from hk)];decide
 hL i hi:=by have e:(Sx.su stC.length λj=>(qu.getD i []).getD j 0*(xn L).getD j 0)=L.getD i 0:=(Sx.aS λj a=>by rw[sL L a]).trans (Ij hi λi=>L.getD i 0);exact⟨Tt e,λ_=>e.symm⟩
 hc j a:=by have e:=Gs j a;exact⟨Tt e.symm,λ_=>e.symm⟩
theorem GR(L:List Int):Bv stC (xn L)=Sx.su 12 λi=>L.getD i 0:=by
 unfold Bv;have e:(Sx.su stC.length λj=>stC.getD j 0*(xn L).getD j 0)=Sx.su 12 λj=>(if j=11 then 1 else 0)*Sx.su (j+1) λi=>L.getD i 0:=Sx.aS λj a=>by simp only[sL L a,show stC.getD j 0=if j=11 then 1 else 0 from (show ∀j,j<12->stC.getD j 0=if j=11 then 1 else 0 by decide +kernel) j a]
 rw[e];exact vq (λj=>Sx.su (j+1) λi=>L.getD i 0) Z1
theorem Kt(h:∀i,i<48->0<=L.getD i 0):Kn (Q3 48 1) gY L L (Q3 48 1) where
 x0:=h
 y0 k hk:=by rw[fW 1 (show k<48 from hk)];decide
 hL i hi:=by have e:=HX hi λj=>L.getD j 0;exact⟨Tt e,λ_=>e.symm⟩
 hc j hj:=by have e:=FT j hj;exact⟨Tt e.symm,λ_=>e.symm⟩
theorem Ki:Kn (Q3 48 0) gY (Q3 48 1) (Q3 48 0) (Q3 48 0) where
 x0 j a:=by rw[fW 0 (show j<48 from a)];exact SX _
 y0 k hk:=by rw[fW 0 (show k<48 from hk)];exact SX _
 hL i hi:=by have hi:i<48:=hi;refine⟨?_,λz=>absurd (fW 0 hi) z⟩;rw[Sx.fg λj a=>by simp only[fW 0 (show j<48 from a),RQ],fW 1 hi];decide
 hc j a:=by have a:j<48:=a;refine⟨?_,λz=>absurd (fW 0 a) z⟩;rw[Sx.fg λk hk=>by simp only[fW 0 (show k<48 from hk),RQ],fW 0 a];exact SX _
def EE(E:Mi Rr)(Pr:Int->Prop):Prop:=∀(n:Int)(o:LO),Wl n o->n<2^36->X2 λ(r:Int)(o':LO)=>N3 (∀a0 a1 Z,E (a0::a1::.lv o::Z)=some (.ok (.fr (.int r)),a0::a1::.lv o'::Z)) (Pr r) (Wl (n+1) o')
theorem Pk{n:Int}(m:Int)(w:Wl n o)(hn:n<2^40)(m0:0<m)(I:m<2^64):X2 λ(r:Int)(o':LO)=>N4 (∀a0 a1 Z,dr aB [] [.rf 2,.fr (.int m)] (a0::a1::.lv o::Z)=some (.ok (.fr (.int r)),a0::a1::.lv o'::Z)) (0<=r) (r<m) (Wl (n+1) o'):=by obtain⟨r,o',h,h1,h2,h3⟩:=sW w hn m0 I;exact⟨r,o',λa0 a1 Z=>eH h rfl rfl,h1,h2,h3⟩
theorem se(m:Int)(m0:0<m)(I:m<2^64):EE (bz aB (bN (ae 2) (au m))) λr=>0<=r/\r<m:=λn o w hn=>by obtain⟨r,o',e,h0,h1,v⟩:=Pk m w (by exact Kf) m0 I;exact⟨r,o',λa0 a1 Z=>aJ (rs:=[.rf 2,.fr (.int m)]) rfl (e _ _ _),⟨h0,h1⟩,v⟩
variable{a0 a1:Sl}
theorem yH{E:Mi Rr}{Pr:Int->Prop}(h:EE E Pr){rest:List Sl}(hi:rest.length+3=i){n:Int}(w:Wl n o){as:List A}(hk:as.length<=20)(hn:n<2^34){mi:Mi (List A)}(hm:mi Y=some (.ok as,a0::a1::.lv o::rest)):
  X2 λ(ns:List Int)(o':LO)=>N4 (aI 1 mi (aL i) aG E Y=some (.ok (.nw (.lst (ns.map A.int))),a0::a1::.lv o'::rest)) (ns.length=as.length) (∀x∈ns,Pr x) (Wl (n+as.length) o'):=by
 obtain⟨ys,O,h1,o',x,ns,rfl,_,f,rfl,h4,h5⟩:=gZ (G:=aL i) (t:=aG) (e:=E) (as:=as) (Z:=(a0::a1::.lv o::rest)++[.un])
  (λj acc Z=>X3 λ(o':LO)(x:Sl)(ns:List Int)=>N6 (Z=(a0::a1::.lv o'::rest)++[x]) (np x=true) (Wl (n+j) o') (acc=ns.map A.int) (ns.length=j) (∀x∈ns,Pr x)) ⟨o,.un,[],rfl,rfl,by simpa using w,rfl,rfl,λx hx=>by cases hx⟩ (by
   rintro j q acc Z N ⟨R,x,ns,rfl,hx,f,rfl,h4,h5⟩;have a:=(Q4.mp N).1;obtain⟨r,o2,v,hr,m⟩:=h _ _ f Q1;have b:aL i q ((a0::a1::.lv R::rest)++[x])=some ((a0::a1::.lv R::rest)++[.fr q]):=iE (i:=i) (S:=a0::a1::.lv R::rest) (tl:=[]) (by simp;lia) hx;refine⟨(a0::a1::.lv R::rest)++[.fr q],b,.inl ⟨_,.fr (.int r),(a0::a1::.lv o2::rest)++[.fr q],.int r,_,rfl,v _ _ _,rfl,o2,_,ns++[r],rfl,rfl,m.mono Q1,by simp only[RP];rfl,by simp[h4],λy hy=>?_⟩⟩;rcases Rf.mp hy with z|z
   .exact h5 y z
   .rw[RC.mp z];exact hr)
 have e:=qz (n:=1) Z4 h1;refine⟨ns,o',a6 hm (e.trans ?_),h4,h5,f⟩;rw[show (a0::a1::Sl.lv o::rest).length=(a0::a1::Sl.lv o'::rest).length from rfl,List.take_left' rfl]
theorem Wp.sx{m n:Ms}{x:Str}(h:m Z=some (.ex x,U))(q:Q (.ex x) U):Wp (aC m n) Z Q:=⟨_,_,by unfold aC;rw[h],q⟩
theorem uK{x:Str}{a:A}(Z:List Sl):jR x (cJ (mC a)) Z=some (.ex x,Z):=rfl
inductive yz(c:List Int)(R:List (List Int))(L:List Int):Prop
 |long(h:48<c.length\/48<R.length)
 |lim(h1:c.length<=48)(h2:R.length<=48)(h:L.length≠R.length)
 |row(h1:c.length<=48)(h2:R.length<=48)(h3:L.length=R.length)(r:List Int)(hr:r∈R)(h:r.length≠c.length)
theorem sT{b:Bool}(h:decide (i=j)=b)(Z:List Sl):jU fS (.fr (.int i)) (.fr (.int j)) Z=some (.ok (.fr (.bl (!b))),Z):=by
 have e:fS (.int i) (.int j)=some (.fr (.bl (!b))):=by unfold fS;simp only[kK,<-h,show decide ((i:Int)=(j:Int))=decide (i=j) from decide_eq_decide.mpr Q1]
 exact fu (o:=none) rfl rfl e
theorem HN{c:List Int}(hc:c.length<=60)(s:R.length<=60)(h:yz c R L):qq aN [lI c,gI R,lI L] "NoProgram" := by
 have lc:∀Z,bK cM (ae 0) (.fr (lI c)::Z)=some (.ok (.fr (.int c.length)),.fr (lI c)::Z):=λZ=>by show some (RU (Rr.fr (.int (c.map A.int).length)),_)=_;rw[Q7]
 have o:bK cM (ae 1) [.fr (lI c),.fr (gI R),.fr (lI L)]=some (.ok (.fr (.int R.length)),[.fr (lI c),.fr (gI R),.fr (lI L)]):=by show some (RU (Rr.fr (.int (R.map lI).length)),_)=_;rw[Q7]
 have C:bK cM (ae 2) [.fr (lI c),.fr (gI R),.fr (lI L)]=some (.ok (.fr (.int L.length)),[.fr (lI c),.fr (gI R),.fr (lI L)]):=by show some (RU (Rr.fr (.int (L.map A.int).length)),_)=_;rw[Q7]
 have m:∀b,decide (48<c.length)=b->aq (aA rQ (bK cM (ae 0)) (au 48)) [.fr (lI c),.fr (gI R),.fr (lI L)]=some (.ok b,[.fr (lI c),.fr (gI R),.fr (lI L)]):=λb d=>aE (ao (lc _) rfl (iB (by simp only[<-d];exact decide_eq_decide.mpr Q1) _));have P:∀b,decide (48<R.length)=b->aq (aA rQ (bK cM (ae 1)) (au 48)) [.fr (lI c),.fr (gI R),.fr (lI L)]=some (.ok b,[.fr (lI c),.fr (gI R),.fr (lI L)]):=λb d=>aE (ao o rfl (iB (by simp only[<-d];exact decide_eq_decide.mpr Q1) _));have i:∀n:Nat,n<=48->decide (48<n)=false:=λn h=>Zx Q1;cases h with
 |long h=>
  by_cases z:48<c.length
  .exact qq.of (Wp.df (Wp.sx (d0 (yf (m true (Zy z))) (uK _)) rfl))
  .exact qq.of (Wp.df (Wp.sx (d0 (iW (m false (Zx z)) (P true (Zy Q1))) (uK _)) rfl))
 |lim h1 h2 h=>exact qq.of (Wp.df (Wp.st (cZ (iW (m false (i _ h1)) (P false (i _ h2))) rfl) (Wp.sx (d0 (aE (ao C o (sT (b:=false) (Zx h) _))) (uK _)) rfl)))
 |row h1 h2 h3 r hr h=>
  have ex:=aU (e:=aA fS (bK cM (ae 3)) (bK cM (ae 0))) (ts:=R) (k:=lI) (S:=[.fr (lI c),.fr (gI R),.fr (lI L)]) (λx=>.bl (!decide (x.length=c.length))) rfl Q1 λr hr=>by
   have F:bK cM (ae 3) ([.fr (lI c),.fr (gI R),.fr (lI L)]++[.fr (lI r)])=some (.ok (.fr (.int r.length)),[.fr (lI c),.fr (gI R),.fr (lI L)]++[.fr (lI r)]):=by show some (RU (Rr.fr (.int (r.map A.int).length)),_)=_;rw[Q7]
   exact⟨_,ao F (lc _) (sT rfl _),rfl⟩
  refine qq.of (Wp.df (Wp.st (cZ (iW (m false (i _ h1)) (P false (i _ h2))) rfl) (Wp.st (cZ (aE (ao C o (sT (b:=true) (Zy h3) _))) rfl) (Wp.sx (d0 (aE (eJ (a6 rfl ex) (oO (r:=.fr (.bl true)) rfl ?_))) (uK _)) rfl))));rw[A3 R λx=>!decide (x.length=c.length),WA.mpr ⟨r,hr,by simp[h]⟩]
abbrev PD:Ms:=dU (bz aN (gG (dJ (ai 0) (ai 1) (ai 2))))
abbrev Px:Ms:=aC (aM 3 (aP (bN (bK (eA (zF [("NoProgram",true)])) (ae 4)) (bK (eA (zF [("NoProgram",true)])) (ae 4))))) (aC (dU (tH 3 (iu 3 (bK (eA (gS [[("NoProgram",false)],[("NoProgram",false)],[("NoProgram",false)],[("NoProgram",false)],[("NoProgram",false)],[("NoProgram",false)],[("NoProgram",false)]])) (ae 4))))) (dU (tH 3 (iu 3 (bK (eA (gS [[("NoProgram",false)],[("NoProgram",false)],[("NoProgram",false)],[("NoProgram",false)],[("NoProgram",false)],[("NoProgram",false)]])) (ae 4))))))
abbrev uv(c:List Int)(R:List (List Int))(L:List Int)(x3 x4:Sl):List Sl:=[.fr (lI c),.fr (gI R),.fr (lI L),x3,x4]
theorem j6{c:List Int}(hc:c.length<=60)(s:R.length<=60)(h:yz c R L):Val a8 [lI c,gI R,lI L] (.bl true):=by
 have x:dr aN [] [.fr (lI c),.fr (gI R),.fr (lI L)] (uv c R L (.lv (.lst [])) .un)=some (.error "NoProgram",uv c R L (.lv (.lst [])) .un):=DO (HN hc s h) _;have h1:PD (uv c R L (.lv (.lst [])) .un)=some (.ex "NoProgram",uv c R L (.lv (.lst [])) .un):=by have e:gG (dJ (ai 0) (ai 1) (ai 2)) (uv c R L (.lv (.lst [])) .un)=some (.ok [.fr (lI c),.fr (gI R),.fr (lI L)],uv c R L (.lv (.lst [])) .un):=rfl;show dU (bj aN [] (gG (dJ (ai 0) (ai 1) (ai 2)))) (uv c R L (.lv (.lst [])) .un)=_;rw[Gv,F3,e];dsimp only;rw[x]
 have k:Px (uv c R L (.lv (.lst [])) (.fr (.exc "NoProgram")))=some (.nx,uv c R L (.lv (.lst [.bl true,.bl true,.bl false,.bl false])) (.fr (.exc "NoProgram"))):=rfl;have e:wX 4 (HY ["NoProgram"]) PD Px (uv c R L (.lv (.lst [])) .un)=some (.nx,uv c R L (.lv (.lst [.bl true,.bl true,.bl false,.bl false])) .un):=by rw[Lf,h1];dsimp only;rw[Zv Z2,show put 4 (.fr (.exc "NoProgram")) (uv c R L (.lv (.lst [])) .un)=some (uv c R L (.lv (.lst [])) (.fr (.exc "NoProgram"))) from rfl];dsimp only;rw[k];rfl
 refine Val.of (Wp.df (Wp.st (U:=uv c R L (.lv (.lst [])) .un) rfl (Wp.st e (Wp.en (aV (ao rfl rfl (fu (o:=none) (r:=.fr (.bl true)) rfl rfl ?_)) rfl) rfl))));unfold dR;rw[jd (Dt.lst (n:=39) (.cons (.bl _) (.cons (.bl _) (.cons (.bl _) (.cons (.bl _) .nil)))))]
theorem rl{xs ys:List A}(h:xs.length+ys.length<=100000)(Z:List Sl):jU aQ (.fr (.lst xs)) (.nw (.lst ys)) Z=some (.ok (.nw (.lst (xs++ys))),Z):=fu (o:=none) rfl rfl (Zv h)
theorem Gf{x:A}{xs:List A}(h:vm 39 (x::xs)):qc (.lst (x::xs)) (.lst [])=some false:=by
 obtain⟨ds,h1,h2⟩:=h;have Q:iy []=some []:=by simp only[iy]
 unfold qc;rw[toD,toD,h1,Q];have:D.depth (.lst ds)<=40:=by simp only[D.depth];exact Oe
 dsimp only;rw[Zv this];dsimp only [iy] at h1;cases e1:toD x with
 |none=>rw[e1] at h1;cases h1
 |some d=>
  rw[e1] at h1;cases e2:iy xs with
  |none=>rw[e2] at h1;cases h1
  |some es=>rw[e2] at h1;cases h1;rfl
theorem yK(L:List Int):qc (lI L) (.lst [])=some (decide (L=[])):=by
 cases L with
 |nil=>exact jd (a:=.lst []) (Dt.lst (n:=39) .nil)
 | cons x xs=>exact Gf (x:=.int x) (xs:=xs.map A.int) (vm.of λa ha=>by
   rcases Rc.mp ha with rfl|ha
   .exact .int _
   .obtain⟨z,_,rfl⟩:=RY.mp ha;exact .int _)
abbrev i6(o:LO)(c:List Int)(R:List (List Int))(L:List Int)(x4 x5:Sl):List Sl:=[.pv o,.fr (lI c),.fr (gI R),.fr (lI L),x4,x5]
abbrev Qo(X:Mi Rr):Mi Rr:=aA aQ (aA aQ (cO (ae 2) aK (bx (ae 5))) (aP (cJ X))) (cO (ae 2) (bx (ae 5)) aK)
section
variable{c:List Int}{R:List (List Int)}{L:List Int}(hc:c.length<=40)(hR:R.length<=40)(hL:L.length=R.length)
include hc hR hL
theorem GA{k:Nat}(hk:k<=R.length){X:Mi Rr}{q:List Int}(P:X (i6 o c R L x4 (.fr (.int k)))=some (.ok r,i6 o c R L x4 (.fr (.int k))))(hr:lstK [r] (i6 o c R L x4 (.fr (.int k)))=some (.ok (.nw (.lst [lI q])),i6 o c R L x4 (.fr (.int k)))):Qo X (i6 o c R L x4 (.fr (.int k)))=some (.ok (.nw (.lst ((R.take k++q::R.drop k).map lI))),i6 o c R L x4 (.fr (.int k))):=by
 have Z:k<=(R.map lI).length:=by rw[Q7];exact hk
 have e1:cO (ae 2) aK (bx (ae 5)) (i6 o c R L x4 (.fr (.int k)))=some (.ok (.nw (.lst ((R.map lI).take k))),i6 o c R L x4 (.fr (.int k))):=by refine bk rfl (bk rfl (bk rfl ?_));show some (RU (Rr.nw (.lst (gP (R.map lI) none (some (k:Int))))),_)=_;rw[tG Z]
 have e2:cO (ae 2) (bx (ae 5)) aK (i6 o c R L x4 (.fr (.int k)))=some (.ok (.nw (.lst ((R.map lI).drop k))),i6 o c R L x4 (.fr (.int k))):=by refine bk rfl (bk rfl (bk rfl ?_));show some (RU (Rr.nw (.lst (gP (R.map lI) (some (k:Int)) none))),_)=_;rw[tq Z]
 refine(ao (ao e1 (dD (af P rfl) hr) (j8 (by simp;lia) _)) e2 (j8 (by simp;lia) _)).trans ?_;simp only[RP,RO,Ub,VA,Q6];rfl
theorem Gy{n:Int}(w:Wl n o)(hn:n<2^34):∃(C:List (List Int))(L':List Int)(o':LO),N4 (dW fc o [lI c,gI R,lI L] (.fr (.tup [lI c,gI C,lI L'])) o') (yz c C L') (C.length<=41/\L'.length<=41) (Wl (n+2) o'):=by
 suffices ∃s o',dW fc o [lI c,gI R,lI L] s o'/\∃(C:List (List Int))(L':List Int),N4 (s=.fr (.tup [lI c,gI C,lI L'])) (yz c C L') (C.length<=41/\L'.length<=41) (Wl (n+2) o') by obtain⟨s,o',v,C,L',rfl,h1,h2,h3⟩:=this;exact⟨C,L',o',v,h1,h2,h3⟩
 obtain⟨V,I,e1,a1,K,J⟩:=tk 4 w (by exact Kf) Z1 Z1
 obtain⟨H,o2,e2,T,N,G⟩:=tk ((R.length:Int)+1) J (by exact NR) Z3 Q1
 obtain⟨k,rfl⟩:∃k:Nat,H=k:=⟨H.toNat,by lia⟩
 have hk:k<=R.length:=by lia
 have g:bK cM (ae 2) (i6 I c R L (.fr (.int V)) .un)=some (.ok (.fr (.int R.length)),i6 I c R L (.fr (.int V)) .un):=by show some (RU (Rr.fr (.int (R.map lI).length)),_)=_;rw[Q7]
 refine dW.of (Wp.df (Wp.st (U:=i6 I c R L (.fr (.int V)) .un) (aY (aJ (af rfl (af rfl rfl)) (e1 _)) rfl rfl rfl rfl) ?_))
 refine Wp.st (U:=i6 o2 c R L (.fr (.int V)) (.fr (.int k))) (aY (aJ (rs:=[.rf 0,.fr (.int ((R.length:Int)+1))]) (af rfl (af (jC (ao g rfl rfl) rfl) rfl)) (e2 _)) rfl rfl rfl rfl) ?_
 have E:∀(v:Int) b,decide (V=v)=b->aq (aA dR (ae 4) (au v)) (i6 o2 c R L (.fr (.int V)) (.fr (.int k)))=some (.ok b,i6 o2 c R L (.fr (.int V)) (.fr (.int k))):=λv b d=>aE (ao rfl rfl (eI d _))
 have O:∀b,decide (L=[])=b->aq (aA fS (ae 3) (aP dy)) (i6 o2 c R L (.fr (.int V)) (.fr (.int k)))=some (.ok (!b),i6 o2 c R L (.fr (.int V)) (.fr (.int k))):=λb d=>aE (ao rfl (dD (rs:=[]) rfl rfl) (fu (o:=none) rfl rfl (by unfold fS;rw[yK,d])))
 have Y:∀b,decide (c=[])=b->aq (aA dR (ae 1) (aP dy)) (i6 o2 c R L (.fr (.int V)) (.fr (.int k)))=some (.ok b,i6 o2 c R L (.fr (.int V)) (.fr (.int k))):=λb d=>aE (ao rfl (dD (rs:=[]) rfl rfl) (fu (o:=none) rfl rfl (by unfold dR;rw[yK,d])))
 have p:∀v:Int,aA aQ (ae 3) (aP (cJ (au v))) (i6 o2 c R L (.fr (.int V)) (.fr (.int k)))=some (.ok (.nw (.lst ((L++[v]).map A.int))),i6 o2 c R L (.fr (.int V)) (.fr (.int k))):=λv=>by refine(ao rfl (dD (rs:=[.fr (.int v)]) rfl rfl) (rl (xs:=L.map A.int) (ys:=[.int v]) (by simp;lia) _)).trans ?_;rw[RP];rfl
 have i:∀q:List Int,(R.take k++q::R.drop k).length=R.length+1:=λq=>by simp;lia
 have u:∀q:List Int,q∈R.take k++q::R.drop k:=λq=>by simp
 have m:∀v:Int,(L++[v]).length=R.length+1:=λv=>by simp[hL]
 have bad:∀(q:List Int)(v:Int),q.length≠c.length->yz c (R.take k++q::R.drop k) (L++[v]):=λq v h=>.row Q1 (by rw[i];lia) (by rw[i,m]) q (u q) h
 by_cases f:V=0
 .exact Wp.sr (d0 (E 0 true (Zy f)) (aV (da (af rfl (af rfl (af (p 1) rfl))) rfl) rfl)) ⟨_,o2,_,rfl,rfl,R,L++[1],rfl,.lim Q1 Q1 (by have:=m 1;lia),⟨by lia,by have:=m 1;lia⟩,G.mono Q1⟩
 refine Wp.st (cZ (E 0 false (Zx f)) rfl) ?_
 by_cases P:V=1/\L≠[]
 .have hl:1<=L.length:=by
   cases L with
   |nil=>exact absurd rfl P.2
   |cons x xs=>simp
  have e:cO (ae 3) (bx (au 1)) aK (i6 o2 c R L (.fr (.int V)) (.fr (.int k)))=some (.ok (.nw (.lst ((L.drop 1).map A.int))),i6 o2 c R L (.fr (.int V)) (.fr (.int k))):=by refine bk rfl (bk rfl (bk rfl ?_));show some (RU (Rr.nw (.lst (gP (L.map A.int) (some ((1:Nat):Int)) none))),_)=_;rw[tq (by rw[Q7];exact hl),VA]
  exact Wp.sr (d0 (jq (E 1 true (Zy P.1)) (O false (Zx P.2))) (aV (da (af rfl (af rfl (af e rfl))) rfl) rfl)) ⟨_,o2,_,rfl,rfl,R,L.drop 1,rfl,.lim Q1 Q1 (by simp;lia),⟨by lia,by simp;lia⟩,G.mono Q1⟩
 have B:jG (aq (aA dR (ae 4) (au 1))) (aq (aA fS (ae 3) (aP dy))) (i6 o2 c R L (.fr (.int V)) (.fr (.int k)))=some (.ok false,i6 o2 c R L (.fr (.int V)) (.fr (.int k))):=by
  by_cases z:V=1
  .exact jq (E 1 true (Zy z)) (O true (Zy (Classical.byContradiction λy=>P ⟨z,y⟩)))
  .exact oW (E 1 false (Zx z))
 refine Wp.st (cZ B rfl) ?_
 by_cases D:V=2
 .have r:aA aQ (ae 1) (aP (cJ (au 1))) (i6 o2 c R L (.fr (.int V)) (.fr (.int k)))=some (.ok (.nw (.lst ((c++[1]).map A.int))),i6 o2 c R L (.fr (.int V)) (.fr (.int k))):=by refine(ao rfl (dD (rs:=[.fr (.int 1)]) rfl rfl) (rl (xs:=c.map A.int) (ys:=[.int 1]) (by simp;lia) _)).trans ?_;rw[RP];rfl
  exact Wp.sr (d0 (E 2 true (Zy D)) (aV (da (af rfl (af (GA hc hR hL hk (q:=c++[1]) r rfl) (af (p 1) rfl))) rfl) rfl)) ⟨_,o2,_,rfl,rfl,R.take k++(c++[1])::R.drop k,L++[1],rfl,bad _ _ Z3,⟨by rw[i];lia,by rw[m];lia⟩,G.mono Q1⟩
 refine Wp.st (cZ (E 2 false (Zx D)) rfl) ?_
 by_cases Z:c=[]
 .exact Wp.sr (d0 (Y true (Zy Z)) (aV (da (af rfl (af (GA hc hR hL hk (q:=[0]) (X:=aP (cJ (au 0))) (dD (rs:=[.fr (.int 0)]) rfl rfl) rfl) (af (p 0) rfl))) rfl) rfl)) ⟨_,o2,_,rfl,rfl,R.take k++[0]::R.drop k,L++[0],rfl,bad _ _ (by rw[Z];simp),⟨by rw[i];lia,by rw[m];lia⟩,G.mono Q1⟩
 .have hl:1<=c.length:=by
   cases c with
   |nil=>exact absurd rfl Z
   |cons x xs=>simp
  have r:cO (ae 1) (bx (au 1)) aK (i6 o2 c R L (.fr (.int V)) (.fr (.int k)))=some (.ok (.nw (.lst ((c.drop 1).map A.int))),i6 o2 c R L (.fr (.int V)) (.fr (.int k))):=by refine bk rfl (bk rfl (bk rfl ?_));show some (RU (Rr.nw (.lst (gP (c.map A.int) (some ((1:Nat):Int)) none))),_)=_;rw[tq (by rw[Q7];exact hl),VA]
  exact Wp.st (cZ (Y false (Zx Z)) rfl) (Wp.en (aV (da (af rfl (af (GA hc hR hL hk (q:=c.drop 1) r rfl) (af (p 1) rfl))) rfl) rfl) ⟨_,o2,_,rfl,rfl,R.take k++c.drop 1::R.drop k,L++[1],rfl,bad _ _ (by simp;lia),⟨by rw[i];lia,by rw[m];lia⟩,G.mono Q1⟩)
end
abbrev NY:Ms:=aC (uQ (aq (aA (pK true) (mix (bz aN (dJ (ai 3) (ai 4) (ai 5))) (au 0)) (aP (bN (mC (.str "best")) (mC (.str "open"))))))) (aC (aM 7 (bz fc (BA (ae 2) (ai 3) (ai 4) (ai 5)))) (aC (aM 8 (cL (dJ (bK eD (mix (ae 7) (au 0))) (aI 1 (cX (mix (ae 7) (au 1))) (aL 9) aG (bK eD (ae 9))) (bK eD (mix (ae 7) (au 2)))))) (uQ (xl (mx (aq (bz a8 (dJ (mix (ae 7) (au 0)) (mix (ae 7) (au 1)) (mix (ae 7) (au 2)))))) (aq (aA fS (ae 7) (ae 8)))))))
abbrev OM:Ms:=aC (aM 2 (bz ba (bN (ai 0) (ai 1)))) (aC (aM 3 (aI 1 (bq (bz aB (bN (ae 2) (au 6)))) (aL 9) aG (bz aB (bN (ae 2) (au 2))))) (aC (aM 4 (aI 1 (bq (bz aB (bN (ae 2) (au 6)))) (aL 9) aG (aI 1 (cX (ae 3)) (aL 10) aG (bz aB (bN (ae 2) (au 2)))))) (aC (aM 5 (aI 1 (cX (ae 4)) (aL 9) aG (bz aB (bN (ae 2) (au 2))))) (iA (bq (au 2)) (aL 6) NY))))
abbrev Qd:Ms:=aC (uQ (xl (mx (aq (bz a8 (dJ (aA cY (aP (cJ (au 0))) (au 49)) (fB (aP dy)) (fB (aP dy)))))) (mx (aq (bz a8 (dJ (fB (aP dy)) (fB (aI 1 (bq (au 49)) (aL 9) aG (aP dy))) (aA cY (aP (cJ (au 0))) (au 49)))))))) (aC (aM 4 (aI 1 (bq (au 12)) (aL 9) aG (aI 1 (bq (au 12)) (aL 10) aG (aA iR (bK fO (aA dR (ae 10) (ae 9))) (bK fO (aA dR (ae 10) (aA iR (ae 9) (au 1)))))))) (aC (aM 5 (aI 1 (bq (au 12)) (aL 9) aG (aA aQ (aA aQ (aA mS (au 10) (au 28)) (ae 9)) (d6 aB [] (bN (bz ba (bN (ai 0) (au 1))) (au 9)))))) (aC (uQ (aq (aA fS (cO (bz aN (dJ (fB (aA aQ (aA cY (aP (cJ (au 0))) (au 11)) (aP (cJ (au 1))))) (ai 4) (ai 5))) aK (bx (au 2))) (cL (bN (mC (.str "best")) (cL (bN (bK mV (ae 5)) (au 1)))))))) (aC (aM 4 (aI 1 (bq (au 48)) (aL 9) aG (aI 1 (bq (au 48)) (aL 10) aG (bK fO (aA dR (ae 10) (ae 9)))))) (aC (uQ (jG (aq (aA dR (d6 aB [] (bN (bz ba (bN (ai 0) (au 2))) (au 8))) (au 3))) (aq (aA fS (cO (bz aN (dJ (aA cY (aP (cJ (au 1))) (au 48)) (ai 4) (fB (fh (au 48))))) aK (bx (au 2))) (cL (bN (mC (.str "best")) (cL (bN (au 1128) (au 1))))))))) (bV (kh (aA dR (mix (bz aN (dJ (aA cY (aP (cJ (au 1))) (au 48)) (fB (cO (ae 4) aK (bx (au 3)))) (aA cY (aP (cJ (au 1))) (au 3)))) (au 0)) (mC (.str "open"))) (aA dR (mix (bz aN (dJ (aA cY (aP (cJ (au 0))) (au 48)) (ai 4) (aA cY (aP (cJ (au 1))) (au 48)))) (au 1)) (cL (bN (au 0) (au 1)))))))))))
abbrev c7(sc:A)(x1 x2 x3 x4 x5 x6 x7 x8:Sl):List Sl:=[.fr sc,x1,x2,x3,x4,x5,x6,x7,x8]
theorem NJ{w:A}{as:List A}(h:Z[i]?=some (.fr (.tup (w::as)))):mix (ae i) (au 0) Z=some (.ok (.fr w),Z):=by
 have e:ae i Z=some (.ok (.fr (.tup (w::as))),Z):=by unfold ae;simp only[h]
 exact ao e rfl (bP (.inr rfl) (eE (j:=0) rfl))
theorem Na{w a:A}{as:List A}(h:Z[i]?=some (.fr (.tup (w::a::as)))):mix (ae i) (au 1) Z=some (.ok (.fr a),Z):=by
 have e:ae i Z=some (.ok (.fr (.tup (w::a::as))),Z):=by unfold ae;simp only[h]
 exact ao e rfl (bP (.inr rfl) (eE (j:=1) rfl))
theorem KO{w v a:A}{as:List A}(h:Z[i]?=some (.fr (.tup (w::v::a::as)))):mix (ae i) (au 2) Z=some (.ok (.fr a),Z):=by
 have e:ae i Z=some (.ok (.fr (.tup (w::v::a::as))),Z):=by unfold ae;simp only[h]
 exact ao e rfl (bP (.inr rfl) (eE (j:=2) rfl))
def LF(x:Sl)(as:List A):Prop:=x=.lv (.lst as)\/x=.fr (.lst as)
theorem LF.np{x:Sl}{as:List A}(h:LF x as):np x=true:=by rcases h with rfl|rfl<;>rfl
theorem O2(n:Nat)(r:List Int):Dt (n+1) (lI r):=Dt.lst (vm.of λa ha=>by obtain⟨j,_,rfl⟩:=RY.mp ha;exact Dt.int _)
theorem QN(n:Nat)(g:List (List Int)):Dt (n+2) (gI g):=Dt.lst (vm.of λa ha=>by obtain⟨r,_,rfl⟩:=RY.mp ha;exact O2 n r)
theorem Ju{c:List Int}{t:A}(h:Told c R L t)(hL:∀i,i<R.length->0<=L.getD i 0):∃w as,t=.tup (.str w::as)/\(w = "best" \/ w = "open"):=by
 cases h with
 |best=>exact⟨_,_,rfl,.inl rfl⟩
 |opn=>exact⟨_,_,rfl,.inr rfl⟩
 |non hs bs hy y0 xh less=>have:=Sx.nZ λk hk=>WZ (hL k hk) (y0 k hk);lia
theorem KJ:∀n,n<=5->Sx.zg (n+2)*1^(n+2)<2^1400:=by decide +kernel
theorem LS{w:Str}(h:w = "best" \/ w = "open")(Z:List Sl):jU (pK true) (.fr (.str w)) (.nw (.lst [.str "best",.str "open"])) Z=some (.ok (.fr (.bl false)),Z):=by refine fu (o:=none) rfl rfl ?_;rcases h with rfl|rfl<;>rfl
variable{x6 x7 x8:Sl}
section
variable{c:List Int}{R:List (List Int)}{L:List Int}(hc:c.length<=5)(hR:R.length<=5)(hl:L.length=R.length)(hr:∀r∈R,r.length=c.length)(bc:∀x∈c,0<=x/\x<2)(bR:∀r∈R,∀x∈r,0<=x/\x<2)(bL:∀x∈L,0<=x/\x<2)
include hc hR hl hr bc bR bL
theorem Dr{sc:A}{n:Int}(w:Wl n o)(hn:n<2^30)(h3:LF x3 (c.map A.int))(h4:LF x4 (R.map lI))(h5:LF x5 (L.map A.int))(q:np x7=true)(Q:np x8=true):
  Wp NY (c7 sc x1 (.lv o) x3 x4 x5 x6 x7 x8) λf Z=>f=.nx/\∃o' x7 x8,Z=c7 sc x1 (.lv o') (.fr (lI c)) (.fr (gI R)) (.fr (lI L)) x6 x7 x8/\Wl (n+2) o'/\np x7=true/\np x8=true:=by
 have f:kE 1 c R L:=⟨by exact mK,by exact mK,hl,hr,λx hx=>by have:=bc x hx;lia,λr h x hx=>by have:=bR r h x hx;lia,λx hx=>by have:=bL x hx;lia,by decide,KJ _ hc⟩
 have m:∀i,i<R.length->0<=L.getD i 0:=λi hi=>(bL _ (fe Q1)).1;obtain⟨t,z,T⟩:=lT f m;obtain⟨F,as,rfl,G⟩:=Ju T m;have P:ai 3 (c7 sc x1 (.lv o) x3 x4 x5 x6 x7 x8)=some (.ok (.fr (lI c)),c7 sc x1 (.lv o) (.fr (lI c)) x4 x5 x6 x7 x8):=by rcases h3 with rfl|rfl<;>rfl
 have J:ai 4 (c7 sc x1 (.lv o) (.fr (lI c)) x4 x5 x6 x7 x8)=some (.ok (.fr (gI R)),c7 sc x1 (.lv o) (.fr (lI c)) (.fr (gI R)) x5 x6 x7 x8):=by rcases h4 with rfl|rfl<;>rfl
 have V:ai 5 (c7 sc x1 (.lv o) (.fr (lI c)) (.fr (gI R)) x5 x6 x7 x8)=some (.ok (.fr (lI L)),c7 sc x1 (.lv o) (.fr (lI c)) (.fr (gI R)) (.fr (lI L)) x6 x7 x8):=by rcases h5 with rfl|rfl<;>rfl
 refine Wp.st (U:=c7 sc x1 (.lv o) (.fr (lI c)) (.fr (gI R)) (.fr (lI L)) x6 x7 x8) (cZ (aE (ao (ao (aJ (af P (af J (af V rfl))) (cI z _)) rfl (bP (.inr rfl) (eE (j:=0) rfl))) (dD (rs:=[.fr (.str "best"),.fr (.str "open")]) rfl rfl) (LS G _))) rfl) ?_;obtain⟨C,L',o',X,d,E,v⟩:=Gy (c:=c) Z4 Z4 hl w (by exact Kf);refine Wp.st (U:=c7 sc x1 (.lv o') (.fr (lI c)) (.fr (gI R)) (.fr (lI L)) x6 (.fr (.tup [lI c,gI C,lI L'])) x8) (aY (aJ (rs:=[.rf 2,.fr (lI c),.fr (gI R),.fr (lI L)]) (af rfl (af rfl (af rfl (af rfl rfl)))) (eH (as:=[lI c,gI R,lI L]) (i:=2) X rfl rfl)) rfl rfl q rfl) ?_;have D:=aU (e:=bK eD (ae 9)) (ts:=C) (k:=lI) (S:=c7 sc x1 (.lv o') (.fr (lI c)) (.fr (gI R)) (.fr (lI L)) x6 (.fr (.tup [lI c,gI C,lI L'])) x8) lI rfl Q1 λr hr=>⟨.nw (.lst (r.map A.int)),rfl,rfl⟩
 refine Wp.st (U:=c7 sc x1 (.lv o') (.fr (lI c)) (.fr (gI R)) (.fr (lI L)) x6 (.fr (.tup [lI c,gI C,lI L'])) (.fr (.tup [lI c,gI C,lI L']))) (aY (da (rs:=[.nw (.lst (c.map A.int)),.nw (.lst (C.map lI)),.nw (.lst (L'.map A.int))]) (af (eJ (NJ rfl) (oO rfl rfl)) (af (a6 (AE (Na rfl) rfl) D) (af (eJ (KO rfl) (oO rfl rfl)) rfl))) rfl) rfl rfl Q rfl) ?_;have y:Dt 40 (.tup [lI c,gI C,lI L']):=Dt.tup (n:=39) (.cons (O2 38 c) (.cons (QN 37 C) (.cons (O2 38 L') .nil)));exact Wp.en (cZ (iW (tx (b:=true) (aE (aJ (af (NJ rfl) (af (Na rfl) (af (KO rfl) rfl))) (cI (j6 Z4 Q1 d) _)))) (aE (ao rfl rfl (fu (o:=none) (r:=.fr (.bl false)) rfl rfl (by unfold fS;rw[jd y];rfl))))) rfl) ⟨rfl,o',_,_,rfl,v,rfl,rfl⟩
end
theorem HB{c:List Int}(hc:c.length<=5){n:Int}(w:Wl n o)(hn:n<2^30){as:List A}(hk:as.length<=5)(h3:LF x3 (c.map A.int)){mi:Mi (List A)}(hm:mi Y=some (.ok as,[a0,a1,.lv o,x3,x4,x5,x6,x7,x8])):
  ∃(R:List (List Int))(o':LO)(b:Sl),N4 (aI 1 mi (aL 9) aG (aI 1 (cX (ae 3)) (aL 10) aG (bz aB (bN (ae 2) (au 2)))) Y=some (.ok (.nw (.lst (R.map lI))),[a0,a1,.lv o',b,x4,x5,x6,x7,x8])) (R.length=as.length/\LF b (c.map A.int)) (∀r∈R,r.length=c.length/\∀x∈r,0<=x/\x<2) (Wl (n+5*as.length) o'):=by
 obtain⟨ys,O,h1,o',h,x,R,rfl,_,⟨f,hy⟩,rfl,h4,h5⟩:=gZ (G:=aL 9) (t:=aG) (e:=aI 1 (cX (ae 3)) (aL 10) aG (bz aB (bN (ae 2) (au 2)))) (as:=as) (Z:=[a0,a1,.lv o,x3,x4,x5,x6,x7,x8,.un])
  (λj acc Z=>∃(o':LO)(h x:Sl)(R:List (List Int)),N6 (Z=[a0,a1,.lv o',h,x4,x5,x6,x7,x8,x]) (np x=true) (Wl (n+5*j) o'/\LF h (c.map A.int)) (acc=R.map lI) (R.length=j) (∀r∈R,r.length=c.length/\∀x∈r,0<=x/\x<2)) ⟨o,x3,.un,[],rfl,rfl,⟨by simpa using w,h3⟩,rfl,rfl,λx hx=>by cases hx⟩ (by
   rintro j q acc Z N ⟨I,h,x,R,rfl,hx,⟨f,hy⟩,rfl,h4,h5⟩;have a:=(Q4.mp N).1;have es:cX (ae 3) [a0,a1,.lv I,h,x4,x5,x6,x7,x8,.fr q]=some (.ok (c.map A.int),[a0,a1,.lv I,.fr (lI c),x4,x5,x6,x7,x8,.fr q]):=by rcases hy with rfl|rfl<;>rfl
   obtain⟨ns,o2,e,hl,d,m⟩:=yH (se 2 Z1 Z1) (rest:=[.fr (lI c),x4,x5,x6,x7,x8,.fr q]) (i:=10) rfl f (as:=c.map A.int) (by simp;exact mK) Q1 es;rw[Q7] at hl m;refine⟨[a0,a1,.lv I,h,x4,x5,x6,x7,x8,.fr q],iE (S:=[a0,a1,.lv I,h,x4,x5,x6,x7,x8]) (tl:=[]) rfl hx,.inl ⟨_,.nw (.lst (ns.map A.int)),[a0,a1,.lv o2,.fr (lI c),x4,x5,x6,x7,x8,.fr q],lI ns,_,rfl,e,rfl,o2,_,_,R++[ns],rfl,rfl,⟨m.mono Q1,.inr rfl⟩,by rw[RP];rfl,by simp[h4],λy hy=>?_⟩⟩;rcases Rf.mp hy with z|z
   .exact h5 y z
   .rw[RC.mp z];exact⟨hl,d⟩)
 exact⟨R,o',h,a6 hm ((qz (n:=1) (Z:=[a0,a1,.lv o,x3,x4,x5,x6,x7,x8]) Z4 h1).trans rfl),⟨h4,hy⟩,h5,f⟩
theorem BB{ns:List Int}{i:Int}(t:0<=i)(K:i<=1000)(h2:np x2=true)(h3:np x3=true)(h4:np x4=true)(h5:np x5=true)(I:np x6=true)(T:np x7=true)(Q:np x8=true):
  Wp OM (c7 (.lst (ns.map A.int)) (.fr (.int i)) x2 x3 x4 x5 x6 x7 x8) λf Z=>f=.nx/\∃x2 x3 x4 x5 x6 x7 x8,Z=c7 (.lst (ns.map A.int)) (.fr (.int i)) x2 x3 x4 x5 x6 x7 x8/\(np x2=true/\np x3=true/\np x4=true/\np x5=true/\np x6=true/\np x7=true/\np x8=true):=by
 obtain⟨o,C,J⟩:=AS ns i t K;generalize A.lst (ns.map A.int)=sc at C ⊢;refine Wp.st (U:=c7 sc (.fr (.int i)) (.lv o) x3 x4 x5 x6 x7 x8) (aY (aJ (af rfl (af rfl rfl)) (i9 C _)) rfl rfl h2 rfl) ?_;obtain⟨V,o1,e1,a1,b1,N⟩:=Pk 6 J Z1 Z1 Z1;obtain⟨n,rfl⟩:∃n:Nat,V=n:=⟨V.toNat,by lia⟩
 obtain⟨c,o2,e2,lc,bc,G⟩:=yH (se 2 Z1 Z1) (Y:=c7 sc (.fr (.int i)) (.lv o) x3 x4 x5 x6 x7 x8) (rest:=[x3,x4,x5,x6,x7,x8]) (i:=9) rfl N (as:=bp 0 n) (by rw[hV];lia) Z1 (mi:=bq (bz aB (bN (ae 2) (au 6)))) (dz (aJ (rs:=[.rf 2,.fr (.int 6)]) rfl (e1 _ _ _)) Q1);simp only[hV] at lc G;refine Wp.st (U:=c7 sc (.fr (.int i)) (.lv o2) (.lv (.lst (c.map A.int))) x4 x5 x6 x7 x8) (aY e2 rfl rfl h3 rfl) ?_;obtain⟨H,o3,D,a3,b3,B⟩:=Pk 6 G Q1 Z1 Z1;obtain⟨m,rfl⟩:∃n:Nat,H=n:=⟨H.toNat,by lia⟩
 obtain⟨R,E,h,a,⟨d,l3⟩,u,F⟩:=HB (a0:=.fr sc) (a1:=.fr (.int i)) (x4:=x4) (x5:=x5) (x6:=x6) (x7:=x7) (x8:=x8) (c:=c) Q1 B Q1 (as:=bp 0 m) (by rw[hV];lia) (.inl rfl) (Y:=c7 sc (.fr (.int i)) (.lv o2) (.lv (.lst (c.map A.int))) x4 x5 x6 x7 x8) (mi:=bq (bz aB (bN (ae 2) (au 6)))) (dz (aJ (rs:=[.rf 2,.fr (.int 6)]) rfl (D _ _ _)) Q1);rw[hV] at d F;refine Wp.st (U:=c7 sc (.fr (.int i)) (.lv E) h (.lv (.lst (R.map lI))) x5 x6 x7 x8) (aY a rfl rfl h4 rfl) ?_;obtain⟨L,e,e5,g,bL,P⟩:=yH (se 2 Z1 Z1) (Y:=c7 sc (.fr (.int i)) (.lv E) h (.lv (.lst (R.map lI))) x5 x6 x7 x8) (rest:=[h,.fr (gI R),x5,x6,x7,x8]) (i:=9) rfl F (as:=R.map lI) (by rw[Q7];lia) Q1 (mi:=cX (ae 4)) rfl;rw[Q7] at g P;refine Wp.st (U:=c7 sc (.fr (.int i)) (.lv e) h (.fr (gI R)) (.lv (.lst (L.map A.int))) x6 x7 x8) (aY e5 rfl rfl h5 rfl) ?_;refine Wp.fr (b:=NY) (as:=bp 0 2) (λj Z=>∃(o':LO)(x3 x4 x5 x6 x7 x8:Sl),Z=c7 sc (.fr (.int i)) (.lv o') x3 x4 x5 x6 x7 x8/\Wl (20000+2*j) o'/\(LF x3 (c.map A.int)/\LF x4 (R.map lI)/\LF x5 (L.map A.int))/\np x6=true/\np x7=true/\np x8=true) (dz (n:=2) rfl Z1) ⟨e,h,_,_,_,_,_,rfl,P.mono Q1,⟨l3,.inr rfl,.inl rfl⟩,I,T,Q⟩ ?_ ?_
 .rintro j q Z hq ⟨o',x,z,s,z6,v,y,rfl,w,⟨k3,l,k5⟩,p,X,k⟩;obtain⟨hj,rfl⟩:=Ab hq;refine⟨c7 sc (.fr (.int i)) (.lv o') x z s (.fr (.int (j:Nat))) v y,iE (S:=[.fr sc,.fr (.int i),.lv o',x,z,s]) (tl:=[v,y]) rfl p,Wp.mono (Dr Q1 Q1 g (λr hr=>(u r hr).1) bc (λr hr=>(u r hr).2) bL w Q1 k3 l k5 X k) ?_⟩;rintro f Z ⟨rfl,o2,y7,y8,rfl,w',X,k⟩;exact⟨.inl rfl,o2,_,_,_,_,_,_,rfl,w'.mono Q1,⟨.inr rfl,.inr rfl,.inr rfl⟩,rfl,X,k⟩
 .rintro O ⟨o',x,z,s,z6,v,y,rfl,w,⟨k3,l,k5⟩,p,X,k⟩;exact⟨rfl,_,_,_,_,_,_,_,rfl,rfl,k3.np,l.np,k5.np,p,X,k⟩
theorem wJ{ma:Mi (List Rr)}{a:A}{s:Sl}(h:ma Z=some (.ok [.nw o,.fr a],U))(v:dW f o [a] s o')(hr:jm s=some r):d6 f [] ma Z=some (.ok r,U):=by
 obtain⟨T,e⟩:=v;refine bk h ?_;show (match f [.pv o,.fr a] with
  | some (.rt s,T)=>(match jm s,putL U [.nw o,.fr a] (ax 2 T) U with
   |some r,some O=>some ((RU r:Except Str Rr),O)
   | _,_=>none)
  | some (.ex x,T)=>(match putL U [.nw o,.fr a] (ax 2 T) U with
   |some O=>some (.error x,O)
   | none=>none)
  | _=>none)=_
 have e:f [.pv o,.fr a]=some (.rt s,.pv o'::T):=e;rw[e];dsimp only;rw[hr];cases T with
 |nil=>rfl
 |cons x xs=>cases x<;>rfl
theorem B5{v:Int}{k:Nat}(h:k<=1000)(Z:List Sl):jU cY (.nw (.lst [.int v])) (.fr (.int k)) Z=some (.ok (.nw (.lst ((Q3 k v).map A.int))),Z):=by refine fu (o:=none) rfl rfl ?_;show (if 0<=(k:Int)/\(k:Int)<=1000/\[A.int v].length<=100 then some (Rr.nw (.lst (Q3 (k:Int).toNat [A.int v]).flatten)) else none)=_;rw[Zv ⟨by simp,by lia,(by decide:1<=100)⟩,Ua,List.flatten_replicate_singleton,List.map_replicate]
theorem gN(v:Int)(k:Nat)(h:k<=1000)(Z:List Sl):aA cY (aP (cJ (au v))) (au k) Z=some (.ok (.nw (.lst ((Q3 k v).map A.int))),Z):=ao (dD (rs:=[.fr (.int v)]) rfl rfl) rfl (B5 h _)
theorem CL(hl:L.length=12)(h:∀x∈L,x.natAbs<=2*10^28):kE (2*10^28) stC qu L where
 n:=by decide
 m:=by decide
 l:=hl
 r:=by decide +kernel
 bc x hx:=RG ((show ∀x∈stC,x.natAbs<=1 by decide +kernel) x hx) Z1
 br r hr x hx:=RG ((show ∀r∈qu,∀x∈r,x.natAbs<=1 by decide +kernel) r hr x hx) Z1
 bl:=h
 m0:=by decide
 fb:=by decide +kernel
theorem QQ:Sx.zg (48+2)*48^(48+2)<2^1400:=by decide +kernel
theorem FC:∀r∈gY,r.length=48/\∀x∈r,x.natAbs<=1:=by decide +kernel
theorem Lz{n:Nat}{a x:Int}(h:x∈Q3 n a):x=a:=Tc h
theorem oM{a:Int}(ha:a.natAbs<=48){k:Nat}(hk:k<=48)(hl:L.length=(gY.take k).length)(h:∀x∈L,x.natAbs<=48):kE 48 (Q3 48 a) (gY.take k) L where
 n:=by exact RM _
 m:=by simp;lia
 l:=hl
 r r hr:=by rw[Tv];exact(FC r (SW hr)).1
 bc x hx:=by rw[Lz hx];exact ha
 br r hr x hx:=RG ((FC r (SW hr)).2 x hx) Z1
 bl:=h
 m0:=by decide
 fb:=by rw[Tv];exact QQ
theorem yk:gY.take 48=gY:=by rw[VP];decide
theorem Gu{t:A}(h:Told (Q3 48 1) (gY.take 3) (Q3 3 1) t):∃as,t=.tup (.str "open" :: as):=by
 cases h with
 |best hs bs hx hy bw x0 y0 keep xh e1 e2=>
  have z:=xh 3 Z1;rw[Sx.fg λk hk=>by rw[(show ∀k,k<(gY.take 3).length->((gY.take 3).getD k []).getD 3 0=0 by decide +kernel) k hk,SK],fW 1 Z1] at z
  lia
 |opn=>exact⟨_,rfl⟩
 |non hs bs hy y0 xh less=>
  have:=Sx.nZ λk (hk:k<(gY.take 3).length)=>WZ (show 0<=(Q3 3 (1:Int)).getD k 0 by rw[fW 1 (show k<3 from hk)];decide) (y0 k hk)
  lia
theorem uX(f:Nat->Int):∀n:Nat,((Rp n).map f).sum=Sx.su n f
 |0=>rfl
 |n+1=>by simp only[List.range_succ,RP,WI,uX f n];show _+([f n].sum)=Sx.su n f+f n;simp
theorem GK(L:List Int):mV (lI L)=some (.fr (.int L.sum)):=by unfold mV;dsimp only;rw[kW]
theorem Li(sc:A)(x1 x2 x3 x4 x5 x6 x7 x8:Sl):aI 1 (bq (au 12)) (aL 9) aG (aI 1 (bq (au 12)) (aL 10) aG (aA iR (bK fO (aA dR (ae 10) (ae 9))) (bK fO (aA dR (ae 10) (aA iR (ae 9) (au 1)))))) (c7 sc x1 x2 x3 x4 x5 x6 x7 x8)=some (.ok (.nw (.lst (qu.map lI))),c7 sc x1 x2 x3 x4 x5 x6 x7 x8):=by
 have e:=aU (e:=aI 1 (bq (au 12)) (aL 10) aG (aA iR (bK fO (aA dR (ae 10) (ae 9))) (bK fO (aA dR (ae 10) (aA iR (ae 9) (au 1)))))) (ts:=Rp 12) (k:=λ(k:Nat)=>A.int (0+(k:Nat))) (S:=c7 sc x1 x2 x3 x4 x5 x6 x7 x8) (i:=9) (λ(k:Nat)=>lI ((Rp 12).map λ(j:Nat)=>(if (j:Int)=(k:Int) then 1 else 0)-if (j:Int)=(k:Int)-1 then 1 else 0)) rfl Z1 λk hk=>by
  have e2:=aU (e:=aA iR (bK fO (aA dR (ae 10) (ae 9))) (bK fO (aA dR (ae 10) (aA iR (ae 9) (au 1))))) (ts:=Rp 12) (k:=λ(j:Nat)=>A.int (0+(j:Nat))) (S:=c7 sc x1 x2 x3 x4 x5 x6 x7 x8++[.fr (.int (0+(k:Nat)))]) (i:=10) (λ(j:Nat)=>A.int ((if (j:Int)=(k:Int) then 1 else 0)-if (j:Int)=(k:Int)-1 then 1 else 0)) rfl Z1 λj a=>by refine⟨_,ao (eJ (ao rfl rfl (eI rfl _)) rfl) (eJ (ao rfl (ao rfl rfl rfl) (eI rfl _)) rfl) rfl,?_⟩;show some (A.int _,_)=some (A.int _,_);simp only[Ts,decide_eq_true_eq]
  exact⟨_,a6 (dz (n:=12) rfl Z1) e2,by show some (A.lst _,_)=some (A.lst _,_);rw[RK];rfl⟩
 refine a6 (dz (n:=12) rfl Z1) (e.trans ?_);unfold qu;rw[RK];rfl
theorem LK(sc:A)(x1 x2 x3 x4 x5 x6 x7 x8:Sl):aI 1 (bq (au 48)) (aL 9) aG (aI 1 (bq (au 48)) (aL 10) aG (bK fO (aA dR (ae 10) (ae 9)))) (c7 sc x1 x2 x3 x4 x5 x6 x7 x8)=some (.ok (.nw (.lst (gY.map lI))),c7 sc x1 x2 x3 x4 x5 x6 x7 x8):=by
 have e:=aU (e:=aI 1 (bq (au 48)) (aL 10) aG (bK fO (aA dR (ae 10) (ae 9)))) (ts:=Rp 48) (k:=λ(k:Nat)=>A.int (0+(k:Nat))) (S:=c7 sc x1 x2 x3 x4 x5 x6 x7 x8) (i:=9) (λ(k:Nat)=>lI ((Rp 48).map λ(j:Nat)=>if (j:Int)=(k:Int) then 1 else 0)) rfl Z1 λk hk=>by
  have e2:=aU (e:=bK fO (aA dR (ae 10) (ae 9))) (ts:=Rp 48) (k:=λ(j:Nat)=>A.int (0+(j:Nat))) (S:=c7 sc x1 x2 x3 x4 x5 x6 x7 x8++[.fr (.int (0+(k:Nat)))]) (i:=10) (λ(j:Nat)=>A.int (if (j:Int)=(k:Int) then 1 else 0)) rfl Z1 λj a=>by refine⟨_,eJ (ao rfl rfl (eI rfl _)) rfl,?_⟩;show some (A.int _,_)=some (A.int _,_);simp only[Ts,decide_eq_true_eq]
  exact⟨_,a6 (dz (n:=48) rfl Z1) e2,by show some (A.lst _,_)=some (A.lst _,_);rw[RK];rfl⟩
 refine a6 (dz (n:=48) rfl Z1) (e.trans ?_);unfold gY;rw[RK];rfl
theorem Ny{i:Int}:∀Z,jU fS (.fr (.tup [.str "best",nm (i,1)])) (.fr (.tup [.str "best",nm (i,1)])) Z=some (.ok (.fr (.bl false)),Z):=λZ=>fu (o:=none) rfl rfl (by unfold fS;rw[jd (Dt.tup (n:=39) (.cons (.str _) (.cons (Dt.nm _) .nil)))];rfl)
section
variable{ns:List Int}{x1 x2 x3 x4 x5 x6 x7 x8:Sl}
theorem Qx:uQ (xl (mx (aq (bz a8 (dJ (aA cY (aP (cJ (au 0))) (au 49)) (fB (aP dy)) (fB (aP dy)))))) (mx (aq (bz a8 (dJ (fB (aP dy)) (fB (aI 1 (bq (au 49)) (aL 9) aG (aP dy))) (aA cY (aP (cJ (au 0))) (au 49))))))) (c7 (lI ns) x1 x2 x3 x4 x5 x6 x7 x8)=some (.nx,c7 (lI ns) x1 x2 x3 x4 x5 x6 x7 x8):=by
 have C:=j6 (c:=Q3 49 0) (R:=[]) (L:=[]) Z1 Z3 (.long (.inl Z1));have h:=j6 (c:=[]) (R:=(Rp 49).map λ_=>[]) (L:=Q3 49 0) Z3 Z1 (.long (.inr Z1));have D:=aU (e:=aP dy) (ts:=Rp 49) (k:=λ(k:Nat)=>A.int (0+(k:Nat))) (S:=c7 (lI ns) x1 x2 x3 x4 x5 x6 x7 x8) (i:=9) (λ(k:Nat)=>lI []) rfl Z1 λk hk=>⟨_,dD (rs:=[]) rfl rfl,rfl⟩
 have p:fB (aI 1 (bq (au 49)) (aL 9) aG (aP dy)) (c7 (lI ns) x1 x2 x3 x4 x5 x6 x7 x8)=some (.ok (.fr (gI ((Rp 49).map λ_=>[]))),c7 (lI ns) x1 x2 x3 x4 x5 x6 x7 x8):=by refine jC (a6 (dz (n:=49) rfl Z1) D) ?_;unfold gI;rw[RK];rfl
 have Q:fB (aP dy) (c7 (lI ns) x1 x2 x3 x4 x5 x6 x7 x8)=some (.ok (.fr (.lst [])),c7 (lI ns) x1 x2 x3 x4 x5 x6 x7 x8):=jC (dD (rs:=[]) rfl rfl) rfl;exact cZ (iW (tx (b:=true) (aE (aJ (af (gN 0 49 Z1 _) (af Q (af Q rfl))) (jk rfl C _)))) (tx (b:=true) (aE (aJ (af Q (af p (af (gN 0 49 Z1 _) rfl))) (jk rfl h _))))) rfl
theorem LV(k:Int)(k0:0<=k)(k1:k<=1000)(m:Int)(m0:0<m)(I:m<2^64):∃r:Int,(∀Z,d6 aB [] (bN (bz ba (bN (ai 0) (mC (.int k)))) (mC (.int m))) (.fr (lI ns)::Z)=some (.ok (.fr (.int r)),.fr (lI ns)::Z))/\0<=r/\r<m:=by obtain⟨o,c,w⟩:=AS ns k k0 k1;obtain⟨r,o',v,h0,h1,_⟩:=sW w Z1 m0 I;exact⟨r,λZ=>wJ (af (aJ (rs:=[.fr (lI ns),.fr (.int k)]) rfl (i9 c _)) (af rfl rfl)) v rfl,h0,h1⟩
noncomputable abbrev uI(r:Int):List Int:=(Rp 12).map λ(k:Nat)=>10000000000000000000000000000+(0+(k:Int))+r
theorem Qf:∃r:Int,aI 1 (bq (au 12)) (aL 9) aG (aA aQ (aA aQ (aA mS (au 10) (au 28)) (ae 9)) (d6 aB [] (bN (bz ba (bN (ai 0) (au 1))) (au 9)))) (c7 (lI ns) x1 x2 x3 x4 x5 x6 x7 x8)=some (.ok (.nw (.lst ((uI r).map A.int))),c7 (lI ns) x1 x2 x3 x4 x5 x6 x7 x8)/\0<=r/\r<9:=by
 obtain⟨r,e,h0,h1⟩:=LV (ns:=ns) 1 Z1 Z1 9 Z1 Z1;refine⟨r,?_,h0,h1⟩;have D:=aU (e:=aA aQ (aA aQ (aA mS (au 10) (au 28)) (ae 9)) (d6 aB [] (bN (bz ba (bN (ai 0) (au 1))) (au 9)))) (ts:=Rp 12) (k:=λ(k:Nat)=>A.int (0+(k:Nat))) (S:=c7 (lI ns) x1 x2 x3 x4 x5 x6 x7 x8) (i:=9) (λ(k:Nat)=>A.int (10000000000000000000000000000+(0+(k:Int))+r)) rfl Z1 λk hk=>⟨_,ao (ao (pw 28 10000000000000000000000000000 Z1 Z1 _) rfl rfl) (e _) rfl,rfl⟩
 refine a6 (dz (n:=12) rfl Z1) (D.trans ?_);rw[RK];rfl
theorem EZ(r:Int)(h:i<12):(uI r).getD i 0=10000000000000000000000000000+(0+(i:Int))+r:=by simp[RL,h]
theorem Ib(r:Int):Bv stC (xn (uI r))=(uI r).sum:=by simp only[GR,uX];exact Sx.aS λi hi=>EZ r hi
theorem N8{r:Int}(h0:0<=r)(h1:r<9):uQ (aq (aA fS (cO (bz aN (dJ (fB (aA aQ (aA cY (aP (cJ (au 0))) (au 11)) (aP (cJ (au 1))))) (ai 4) (ai 5))) aK (bx (au 2))) (cL (bN (mC (.str "best")) (cL (bN (bK mV (ae 5)) (au 1))))))) (c7 (lI ns) x1 x2 x3 (.lv (.lst (qu.map lI))) (.lv (.lst ((uI r).map A.int))) x6 x7 x8)=some (.nx,c7 (lI ns) x1 x2 x3 (.fr (gI qu)) (.fr (lI (uI r))) x6 x7 x8):=by
 have pos:∀i,i<12->0<=(uI r).getD i 0:=λi hi=>by rw[EZ r hi];lia
 have f:kE (2*10^28) stC qu (uI r):=CL (by rfl) λx hx=>by obtain⟨k,hk,rfl⟩:=RY.mp hx;have:=Sm.mp hk;lia
 obtain⟨t,v,j⟩:=lT f pos;obtain⟨s,Y,X,rfl,-⟩:=pN (Ld pos) j;rw[Ib] at v;have L:fB (aA aQ (aA cY (aP (cJ (au 0))) (au 11)) (aP (cJ (au 1)))) (c7 (lI ns) x1 x2 x3 (.lv (.lst (qu.map lI))) (.lv (.lst ((uI r).map A.int))) x6 x7 x8)=some (.ok (.fr (lI stC)),c7 (lI ns) x1 x2 x3 (.lv (.lst (qu.map lI))) (.lv (.lst ((uI r).map A.int))) x6 x7 x8):=by refine jC (ao (gN 0 11 Z1 _) (dD (rs:=[.fr (.int 1)]) rfl rfl) (j8 Z1 _)) ?_;rfl
 refine cZ (aE (ao (bk (aJ (af L (af rfl (af rfl rfl))) (cI v _)) (bk rfl (bk rfl rfl))) (da (af rfl (af (da (af (eJ rfl (oO (r:=.fr (.int (uI r).sum)) rfl (GK _))) (af rfl rfl)) rfl) rfl)) rfl) (Ny _))) rfl
noncomputable abbrev J6:List Int:=(Rp 48).map λ(k:Nat)=>0+(k:Int)
theorem OA:uQ (jG (aq (aA dR (d6 aB [] (bN (bz ba (bN (ai 0) (au 2))) (au 8))) (au 3))) (aq (aA fS (cO (bz aN (dJ (aA cY (aP (cJ (au 1))) (au 48)) (ai 4) (fB (fh (au 48))))) aK (bx (au 2))) (cL (bN (mC (.str "best")) (cL (bN (au 1128) (au 1)))))))) (c7 (lI ns) x1 x2 x3 (.lv (.lst (gY.map lI))) x5 x6 x7 x8)=some (.nx,c7 (lI ns) x1 x2 x3 (.lv (.lst (gY.map lI))) x5 x6 x7 x8)\/uQ (jG (aq (aA dR (d6 aB [] (bN (bz ba (bN (ai 0) (au 2))) (au 8))) (au 3))) (aq (aA fS (cO (bz aN (dJ (aA cY (aP (cJ (au 1))) (au 48)) (ai 4) (fB (fh (au 48))))) aK (bx (au 2))) (cL (bN (mC (.str "best")) (cL (bN (au 1128) (au 1)))))))) (c7 (lI ns) x1 x2 x3 (.lv (.lst (gY.map lI))) x5 x6 x7 x8)=some (.nx,c7 (lI ns) x1 x2 x3 (.fr (gI gY)) x5 x6 x7 x8):=by
 obtain⟨r,e,h0,h1⟩:=LV (ns:=ns) 2 Z1 Z1 8 Z1 Z1;by_cases c:r=3
 .right;have pos:∀i,i<48->0<=J6.getD i 0:=by decide +kernel
  have f:kE 48 (Q3 48 1) gY J6:=by have:=oM (a:=1) Z1 (k:=48) (L:=J6) Z1 Z1 Z2;rw[yk] at this;exact this
  obtain⟨t,v,j⟩:=lT f pos;obtain⟨s,Y,X,rfl,-⟩:=pN (Kt pos) j;rw[show Bv (Q3 48 1) J6=1128 by decide +kernel] at v;have o:fB (fh (au 48)) (c7 (lI ns) x1 x2 x3 (.fr (gI gY)) x5 x6 x7 x8)=some (.ok (.fr (lI J6)),c7 (lI ns) x1 x2 x3 (.fr (gI gY)) x5 x6 x7 x8):=by
   refine jC (x:=.nw (.lst (bp 0 48))) (U:=c7 (lI ns) x1 x2 x3 (.fr (gI gY)) x5 x6 x7 x8) (bk rfl ?_) ?_
   .show (if CW 0 48=true then some (RU (Rr.nw (.lst (bp 0 ((48:Int)-0).toNat))),_) else none)=_;rw[Zv Z1];rfl
   .delta lI J6
    rw[RK];rfl
  exact cZ (jq (aE (ao (e _) rfl (eI (Zy c) _))) (aE (ao (bk (aJ (af (gN 1 48 Z1 _) (af rfl (af o rfl))) (jk rfl v _)) (bk rfl (bk rfl rfl))) (da (af rfl (af (da (af rfl (af rfl rfl)) rfl) rfl)) rfl) (Ny _)))) rfl
 .left;exact cZ (oW (aE (ao (e _) rfl (eI (Zx c) _)))) rfl
theorem LW(h4:LF x4 (gY.map lI)):Wp (bV (kh (aA dR (mix (bz aN (dJ (aA cY (aP (cJ (au 1))) (au 48)) (fB (cO (ae 4) aK (bx (au 3)))) (aA cY (aP (cJ (au 1))) (au 3)))) (au 0)) (mC (.str "open"))) (aA dR (mix (bz aN (dJ (aA cY (aP (cJ (au 0))) (au 48)) (ai 4) (aA cY (aP (cJ (au 1))) (au 48)))) (au 1)) (cL (bN (au 0) (au 1)))))) (c7 (lI ns) x1 x2 x3 x4 x5 x6 x7 x8) λf _=>f=.rt (.fr (.bl true)):=by
 have y:kE 48 (Q3 48 1) (gY.take 3) (Q3 3 1):=oM (a:=1) Z1 (k:=3) Z1 Z1 Z1;obtain⟨t,C,T⟩:=lT y Z2;obtain⟨as,rfl⟩:=Gu T;have F:kE 48 (Q3 48 0) gY (Q3 48 1):=by have:=oM (a:=0) Z1 (k:=48) (L:=Q3 48 1) Z1 Z1 Z1;rw[yk] at this;exact this
 obtain⟨E,h,c⟩:=lT F Z2;obtain⟨s,Y,X,rfl,-⟩:=pN Ki c;rw[show Bv (Q3 48 0) (Q3 48 0)=0 by decide +kernel] at h;have A:fB (cO (ae 4) aK (bx (au 3))) (c7 (lI ns) x1 x2 x3 x4 x5 x6 x7 x8)=some (.ok (.fr (gI (gY.take 3))),c7 (lI ns) x1 x2 x3 x4 x5 x6 x7 x8):=by
  have e:cO (ae 4) aK (bx (au 3)) (c7 (lI ns) x1 x2 x3 x4 x5 x6 x7 x8)=some (.ok (.nw (.lst ((gY.take 3).map lI))),c7 (lI ns) x1 x2 x3 x4 x5 x6 x7 x8):=by
   rcases h4 with rfl|rfl
   .refine bk rfl (bk rfl (bk rfl ?_));show some (RU (Rr.nw (.lst (gP (gY.map lI) none (some ((3:Nat):Int))))),_)=_;rw[tG (by rw[Q7];decide),Ub]
   .refine bk rfl (bk rfl (bk rfl ?_));show some (RU (Rr.nw (.lst (gP (gY.map lI) none (some ((3:Nat):Int))))),_)=_;rw[tG (by rw[Q7];decide),Ub]
  exact jC e rfl
 have Q:ai 4 (c7 (lI ns) x1 x2 x3 x4 x5 x6 x7 x8)=some (.ok (.fr (gI gY)),c7 (lI ns) x1 x2 x3 (.fr (gI gY)) x5 x6 x7 x8):=by rcases h4 with rfl|rfl<;>rfl
 have P:aq (aA dR (mix (bz aN (dJ (aA cY (aP (cJ (au 1))) (au 48)) (fB (cO (ae 4) aK (bx (au 3)))) (aA cY (aP (cJ (au 1))) (au 3)))) (au 0)) (mC (.str "open"))) (c7 (lI ns) x1 x2 x3 x4 x5 x6 x7 x8)=some (.ok true,c7 (lI ns) x1 x2 x3 x4 x5 x6 x7 x8):=
  aE (ao (ao (aJ (af (gN 1 48 Z1 _) (af A (af (gN 1 3 Z1 _) rfl))) (jk rfl C _)) rfl (bP (.inr rfl) (eE (j:=0) rfl))) rfl (fu (o:=none) (r:=.fr (.bl true)) rfl rfl (by unfold dR;rw[Cq];rfl)))
 refine Wp.en (aV (A9 P (ao (ao (aJ (af (gN 0 48 Z1 _) (af Q (af (gN 1 48 Z1 _) rfl))) (jk rfl h _)) rfl (bP (.inr rfl) (eE (j:=1) rfl))) (da (af rfl (af rfl rfl)) rfl) (fu (o:=none) (r:=.fr (.bl true)) rfl rfl ?_))) rfl) rfl;show dR (nm (0,1)) (nm (0,1))=_;unfold dR;rw[BU]
theorem Nv(h4:np x4=true)(h5:np x5=true):Wp Qd (c7 (lI ns) x1 x2 x3 x4 x5 x6 x7 x8) λf _=>f=.rt (.fr (.bl true)):=by
 refine Wp.st Qx (Wp.st (U:=c7 (lI ns) x1 x2 x3 (.lv (.lst (qu.map lI))) x5 x6 x7 x8) (aY (Li _ _ _ _ _ _ _ _ _) rfl rfl h4 rfl) ?_);obtain⟨r,i,h0,h1⟩:=Qf (ns:=ns) (x1:=x1) (x2:=x2) (x3:=x3) (x4:=.lv (.lst (qu.map lI))) (x5:=x5) (x6:=x6) (x7:=x7) (x8:=x8);refine Wp.st (U:=c7 (lI ns) x1 x2 x3 (.lv (.lst (qu.map lI))) (.lv (.lst ((uI r).map A.int))) x6 x7 x8) (aY i rfl rfl h5 rfl) ?_;refine Wp.st (N8 h0 h1) (Wp.st (U:=c7 (lI ns) x1 x2 x3 (.lv (.lst (gY.map lI))) (.fr (lI (uI r))) x6 x7 x8) (aY (LK _ _ _ _ _ _ _ _ _) rfl rfl rfl rfl) ?_);rcases OA (ns:=ns) (x1:=x1) (x2:=x2) (x3:=x3) (x5:=.fr (lI (uI r))) (x6:=x6) (x7:=x7) (x8:=x8) with e|e
 .exact Wp.st e (LW (.inl rfl))
 .exact Wp.st e (LW (.inr rfl))
end
theorem Cv:∀j,j<=61->Iv 0 ((j:Nat):Int) 6=true/\A8 0 ((j:Nat):Int) 6<=11:=by decide +kernel
theorem law_true:∀ns:List Int,ns.length<=63->∃Z,mQ.M [.fr (.lst (ns.map A.int))]=some (.rt (.fr (.bl true)),Z):=by
 intro ns I;show ∃Z,Nw [.fr (.lst (ns.map A.int))]=some (.rt (.fr (.bl true)),Z);obtain⟨j,K,D⟩:∃j:Nat,(∀Z,aA aQ (Fi vZ (bK cM (ae 0)) (au 60)) (au 1) (.fr (.lst (ns.map A.int))::Z)=some (.ok (.fr (.int j)),.fr (.lst (ns.map A.int))::Z))/\j<=61:=by
  refine⟨min ns.length 60+1,λZ=>?_,by lia⟩;refine ao (x:=.fr (.int (if (60:Int)<((ns.map A.int).length:Int) then 60 else ((ns.map A.int).length:Int)))) (y:=.fr (.int 1)) rfl rfl (fu (o:=none) rfl rfl ?_);show some (Rr.fr (.int ((if (60:Int)<((ns.map A.int).length:Int) then 60 else ((ns.map A.int).length:Int))+1)))=_;rw[Q7]
  congr 3
  split<;>lia
 obtain⟨s1,s2⟩:=Cv j D;have v:qv (au 0) (aA aQ (Fi vZ (bK cM (ae 0)) (au 60)) (au 1)) (au 6) (c7 (.lst (ns.map A.int)) .un .un .un .un .un .un .un .un)=some (.ok (qQ 0 6 (A8 0 j 6)),c7 (.lst (ns.map A.int)) .un .un .un .un .un .un .un .un):=by refine bk (x:=.fr (.int 0)) rfl (bk (K _) (bk (x:=.fr (.int 6)) rfl ?_));show (if Iv 0 (j:Int) 6=true then some (RU (qQ 0 6 (A8 0 j 6)),_) else none)=_;rw[Zv s1]
 suffices Wp (dm 8 (aC (iA (qv (au 0) (aA aQ (Fi vZ (bK cM (ae 0)) (au 60)) (au 1)) (au 6)) (aL 1) OM) Qd)) [.fr (.lst (ns.map A.int))] λg _=>g=.rt (.fr (.bl true)) by obtain⟨f,Z,e,rfl⟩:=this;exact⟨Z,e⟩
 refine Wp.df (Wp.sq (Wp.QH (b:=OM) (qQ 0 6 (A8 0 j 6)) (λZ=>∃x1 x2 x3 x4 x5 x6 x7 x8,Z=c7 (.lst (ns.map A.int)) x1 x2 x3 x4 x5 x6 x7 x8/\np x1=true/\(np x2=true/\np x3=true/\np x4=true/\np x5=true/\np x6=true/\np x7=true/\np x8=true)) v ⟨_,_,_,_,_,_,_,_,rfl,rfl,rfl,rfl,rfl,rfl,rfl,rfl,rfl⟩ ?_ ?_))
 .rintro a ha Z ⟨x1,x2,x3,x4,x5,x6,x7,x8,rfl,h1,h2,h3,h4,h5,c,m,Q⟩;obtain⟨i,hi,rfl⟩:=RY.mp ha;have hi:=Sm.mp hi;refine⟨_,iE (S:=[.fr (.lst (ns.map A.int))]) (tl:=[x2,x3,x4,x5,x6,x7,x8]) rfl h1,Wp.mono (BB (i:=0+(i:Nat)*6) Q1 Q1 h2 h3 h4 h5 c m Q) ?_⟩;rintro f Z' ⟨rfl,H,k,z,q,r,s,w,rfl,hy⟩;exact⟨.inl rfl,_,H,k,z,q,r,s,w,rfl,rfl,hy⟩
 .rintro O ⟨x1,x2,x3,x4,x5,x6,x7,x8,rfl,h0,h⟩;exact⟨rfl,Wp.mono (Nv h.2.2.1 h.2.2.2.1) λf _ e=>by rw[e]⟩
end W
set_option maxHeartbeats 4000000
theorem PySem.Challenge.cw_fitwhatever_k36_no_program_holds : PySem.Challenge.rw_fitwhatever_k36_no_program.Holds :=
 W.fin W.law_true
#print axioms PySem.Challenge.cw_fitwhatever_k36_no_program_holds
