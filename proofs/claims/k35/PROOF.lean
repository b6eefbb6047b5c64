import PyProof.Rows.All
import Wide.All
import OpenK.AllK
import Wide.FinOn
import Lean
import PyProof.EqAt
import PyProof.EqKinds
import PyProof.TupleCall
import PyProof.StrLaws
import PySem.Challenge.RW_fitwhatever_k35_programs_put_otherwise
set_option genSizeOf false
set_option genInjectivity false
set_option bootstrap.genMatcherCode false
set_option compiler.extract_closed false
open Bool renaming and_eq_true->Qq,not_eq_true'->Q7,false_ne_true->Rk,or_eq_true->R5,and_true->SH,and_false->Uj,and_self->Uv,false_and->U2,and_eq_true_iff->VB,eq_iff_iff->Wa
open PySem.W renaming Frag->Qr,findIn->RG,emptyDict->RN,keepIn->RX,kitOne->RY,instObj->R3,plainGet->SS,hasDictIn->Ts,methodCall_KW->TR,lookIn->T9,codeIn->Ub,plainGet_of->Ui,callWith_K->Uk,methodObj->Uq,isFn->Ur,plainOver->Us,fnOf->Ut,takerIn->UL,makesIn->UM,cellsFrom_some->U7,nsIn->U8,handedIn->VG,OpenLaw->VS,WalkO->V2,Hook->Wf,SharedT->YQ
open List renaming mem_append_right->Qs,length_map->Qt,mem_append_left->Qu,getElem?_eq_some_iff->Qv,append_assoc->Qw,mem_append->Qx,size_toArray->Qy,mem_cons_of_mem->Qz,mem_cons->QC,replicate->QD,nodup_append->QE,length_cons->QF,mem_cons_self->QH,lookup_cons->QI,range->QK,getElem?_set_self->QN,length_append->QO,getElem?_eq_getElem->QP,mem_singleton->QR,all_cons->QV,getD->QX,getElem?_set_ne->QY,map_append->QZ,getElem?_map->Q0,mem_map->Q2,nodup_cons->Q3,map_map->Q6,mem_range->Rb,map_cons->Rf,eraseIdx_eq_take_drop_succ->Ri,getElem?_append_right->Rl,lookup_append->Rm,map_congr_left->Rp,mem_of_getElem?->Rq,length_take->Rt,not_mem_nil->Ru,append_nil->Rx,idxOf_lt_length_of_mem->RD,getElem?_append_left->RE,getElem_of_mem->RF,length_range->RH,isEmpty_iff->RM,getElem?_eq_none->RQ,perm_middle->RS,all_eq_true->RT,mem_of_mem_take->RU,getD_eq_getElem?_getD->R0,take_append_drop->R1,ext_getElem?->R6,getElem?_range->Sf,map_take->Sk,contains_iff_mem->Sn,cons_append->Sv,getElem?_eq_none_iff->Sy,getElem?_zip_eq_some->Sz,drop_eq_getElem_cons->SA,replicate_succ->SE,perm_iff_count->SF,eq_of_mem_replicate->SI,of_mem_zip->SJ,zip_cons_cons->SM,count_append->SQ,filter_eq_nil_iff->SR,length_singleton->S0,perm_append_comm->S1,getElem_mem->S2,lookup->S5,length_zip->Te,take_left'->Tf,filterMap_cons->Tg,map_nil->Ti,all_nil->Tn,sublist_append_right->Tw,any_eq_false->Tx,flatten_cons->Tz,reverse_cons->TB,take_add_one->TC,getElem?_take_of_lt->TJ,getElem?_replicate->TM,length_drop->TN,drop_length->TQ,range_succ_eq_map->TZ,take_of_length_le->T3,getElem_cons_drop->T4,map_set->T5,mem_filter->T7,nil_append->Uc,length_replicate->Ug,set_append_right->Uh,mem_filterMap->Uw,foldl->Ux,getElem_idxOf->Uz,getElem_range->UA,set_eq_take_append_cons_drop->UE,take_sublist->UH,all_map->UI,nodup_range->UR,ext_getElem->US,length_set->UW,sum_cons->Vi,map_drop->Vj,getElem?_cons_zero->Vn,any_map->Vr,getElem?_toArray->Vu,countP_le_length->Vx,any->VA,length_eraseIdx->VD,length_pos_iff->VL,getD_cons_zero->VN,getElem_inj->VX,map_reverse->VY,take_length->V0,drop->V3,countP_cons->V5,any_eq_true->V6,getElem_map->V7,forIn_cons->Wb,sum_append->Wd,append_inj->We,drop_left'->Wg,map->Wj,drop_zero->Wo,any_cons->Wr,drop_nil->Wu,map_id'->WG,length->WK,take->Xn
open Nat renaming le_refl->QB,le_of_lt->QJ,lt_of_lt_of_le->QL,lt_succ_of_lt->QQ,lt_irrefl->QU,le_trans->Q4,ne_of_lt->Q8,lt_succ_self->Rc,lt_succ_of_le->Rj,le_of_ble_eq_true->RB,lt_of_le_of_lt->RL,zero_le->RP,not_lt_zero->RV,le_add_right->RZ,ble->R8,sub_self->SD,lt_trans->SX,pow_le_pow_right->S7,pow_pos->Ta,mul_comm->To,not_lt->Tt,le_of_lt_succ->TH,succ_le_succ->TV,add_sub_cancel_left->TY,ne_of_gt->T8,le_of_eq->Ua,zero_add->Ud,succ_pos->Ue,le_succ->Ul,mul_le_mul->Um,succ_ne_zero->UU,eq_of_mul_eq_mul_left->Vd,mul_assoc->Vm,min_self->Vt,sub_zero->Vv,lt_of_succ_lt_succ->Vw,log2_lt->VI,pow_add->VJ,one_mul->VO,le_succ_of_le->VZ,lt_trichotomy->V4,le_max_right->V8,le_max_left->Wi,succ_mul->WO,pow_succ->WS
open PySem.Heap renaming get?_push_of_some->QG,lt_size->QM,get?_push_size->Q5,size_push->Sr,SameBut->UG,get?_update_other->Vp
open Option.some renaming inj->QW,injEq->Vh
open Int renaming mul_zero->Q9,ne_of_gt->Rg,mul_comm->Rh,le_of_lt->Rw,natAbs_mul->Ry,one_mul->RI,add_zero->RK,eq_of_mul_eq_mul_right->RO,neg_one_mul->RW,mul_assoc->Sa,le_refl->Sg,zero_mul->Si,mul_fdiv_cancel_left->SK,mul_one->SN,negSucc->SO,toNat_natCast->SU,fmod_nonneg_of_pos->SV,ofNat->S4,gcd->S6,mul_le_mul_of_nonneg_left->S9,gcd_pos_of_ne_zero_right->Th,zero_add->Tp,le_trans->T6,mul_ediv_cancel'->Uo,mul_pos->Up,lt_or_gt_of_ne->UC,fmod_lt_of_pos->UD,gcd_comm->UN,gcd_dvd_right->UO,le_of_eq->UQ,mul_add->UX,mul_ne_zero->U0,fdiv_eq_ediv_of_dvd->Vs,natAbs_dvd_natAbs->Vz,gcd_zero_right->VV,gcd_dvd_left->Wc,mul_eq_zero->Wn,natAbs_neg->Ws,add_nonneg->Wv,lt_or_le->WR,neg_dvd->WX,natAbs->Xl,not_lt->Xm
open Except renaming ok->Rn
open Option renaming isNone_iff_eq_none->Rv,getD_some->SY,getD_none->VQ,map_some->VU
open Ne renaming symm->Rz
open PySem.F renaming plainAttrs_list->RC,slot_list_append->Tu,type_list_append->Tv,slot_list_index->TF,slot_list_insert->U1,type_list_index->U5,slot_list_pop->Vf,type_list_pop->Vg,slot_int_rmul->WD
open PyProof.Rows renaming callWith_type1->RJ,slot_tuple_getitem->SG,callWith_builtin1->WV,list_addW->WY,Call_->WZ,zipApart_new->W0,envOfC->Xg,assignInOrder_cons->X7,AllBare->X9,boot_range->Yp,subscriptTail_builtinR->Yt,envOfC->Yx,assignInOrder_nil->YE,IntsAre->YO
open PySem.Builtin.Range renaming rangeSize->R4,small->TL
open False renaming elim->R7
open Rat renaming divInt_eq_divInt_iff->R9,divInt->Xj
open PySem renaming mem_of_lookup->Sb,Str->U9,Within->Vk,call->VH,starEach->Xo,wpAny_bind->Xp,bootBuiltins->Xq,attributeBase->Xr,wpAny_pure->Xs,wpAny->Xu,model->Xv,backTo->Xw,mainGlobals->Xx,keywordEach->Xy,World->Xz,Around->XA,Keyword->XB,FuncData->XC,backToKw->XD,behindInMarks->XE,assignEach->XF,foldedSetIterable->XG,swapsWith->XH,sizeLine_eq->XI,compareOp->XJ,wpAny_passesOwn->XM,wpAny_newObj_type->XN,swappedStores->XO,wpAny_truthy_bool->XQ,wpAny_pyIter_list->XR,seqIndex?->XT,binaryOp->XU,wpAny_mono->XW,wpAny_Call_Name_kw->XX,methodCallForm->XY,swapsWithSole->XZ,intItems->X0,wpAny_execs_nil->X1,letOwnedTupleGo->X4,CmpOp->X6,call_meets->X8,standAt->Yb,codeAny->Yc,sliceBounds->Yd,wpAny_holding->Ye,wpAny_standAt->Yg,wpAny_comprehension_free->Yh,Comprehension->Yi,PassesOwn->Yj,getMethod->Yk,treeTable->Yl,builtinsNs->Ym,wpAny_pyNext_range_end->Yn,wpAny_pyIter_rangeiter->Yo,BindsTo->Yr,codeAny_mono->Ys,callerA->Yu,wpAny_loadPart'->Yv,wpAny_isTrue_Compare1->Yw,intItems_at->Yy,assignInOrder->Yz,sysModules->YA,wpAny_pyIter_range->YB,IsPart->YC,wpAny_assign_Name->YD,callWith->YF,seqIndex_neg->YG,wpAny_pyIter_enum->YH,FuncBody->YI,isTrue->YJ,IsRangeIter->YK,wpAny_field->YL,seqIndex_of->YM,getItem->YN,wpAny_Name->YR,bindName->YS,Operator->YT,bindL->YU,bindC->YV,typeIs_int->YW,IntMulOk->YX
open PySem.Value renaming ref->Se,int->TK,none->VE,bool->VF,str->VT,bytes->Ww,float->Wx,type->WH
open PySem.Builtin.Slice renaming slicePlaces->Sj,sliceAdjust->S3,sliceApplied->Uu,slicePartIndex->WL,sliceFields->WM
open PySem.Builtin.Tuple renaming tupleExact->So,tupleItemsOf->WN
open ForInStep renaming yield->Ss
open PySem.NameKind renaming free->Su
open List.Sublist renaming append->SW,refl->S8
open Array renaming length_toList->Tc,getElem?_eq_getElem->U4,toList->Vl,getElem?_toList->Vq,toList_inj->VW
open PySem.Builtin.List renaming listTooLong->Td,listFitsIndex->Uy
open PySem.MeetsSeq renaming plain_index_loop->Tj,entry_index_loop->UT
open PySem.SeqAt renaming EqAt->TU
open PySem.Obj renaming mapSeq->UB
open Sum renaming inl->UJ,inr->UK
open PySem.Builtin renaming divisionGoesByPylong->UP
open PySem.Calls renaming Name_function_global->UY,call_len_list->Vy
open PySem.Walks renaming list->UZ,range->Wz
open PySem.Builtin.Int renaming intBits->U3
open List.Pairwise renaming map->U6,nil->WQ
open PySem.SeqAt.EqAt renaming int_str->Va,str_int->Vb
open PySem.Around renaming under->Vc
open PySem.Code renaming isFrame->Vo,frames->WJ
open List.Perm renaming trans->VC,swap->VM
open True renaming intro->VP
open Nat.succ renaming inj->V1
open PySem.IsRange renaming new->Wh
open PySem.W.SharedT renaming abs->Wm
open PySem.AutoListH renaming list_insert_list_int_val_1->Wt
open PySem.CmpOp renaming NotIn->Wy,In->Xh
open PySem.Heap.IsSliceOf renaming new->WA
open PySem.W.WShape renaming has->WB
open Or renaming inr->WC
open Eq renaming trans->WE
open PySem.W.Looks renaming here->WI
open PySem.StrLaws renaming seqIndex_nonneg->WT
open PySem.Within renaming cons->WU
open PySem.W.WData renaming int->WW
open PySem.W.Fast renaming tw11892475500146522536->W2,tw14364793385576792824->W3,tw6613529449190102663->W4,tw10156331382660048174->W5,tw10274390034422433532->W6,tw14289696077712309145->W7,tw4187177175401517315->W8,te11892475500146522536->W9,te14364793385576792824->Xa,te6613529449190102663->Xb,te10156331382660048174->Xc,te10274390034422433532->Xd,te14289696077712309145->Xe,te4187177175401517315->Xf
open PySem.Flow renaming next->Xi
open Nat.Coprime renaming dvd_of_dvd_mul_left->Xk
theorem Q1{p:Prop}(h:p:=by lia):p:=h
theorem Z2{p:Prop}(h:p:=by decide):p:=h
theorem Z3{p:Prop}(h:p:=by decide +kernel):p:=h
theorem Z4{p:Prop}(h:p:=by simp):p:=h
theorem YY:type_of% @if_pos:=@if_pos
theorem YZ:type_of% @if_neg:=@if_neg
theorem Y0:type_of% @decide_eq_false:=@decide_eq_false
theorem Y1:type_of% @decide_eq_true:=@decide_eq_true
theorem Y2:type_of% @congrArg:=@congrArg
theorem Y3:type_of% @beq_iff_eq:=@beq_iff_eq
theorem Y4:type_of% @of_decide_eq_true:=@of_decide_eq_true
set_option linter.all false
variable{b:Int}
theorem Kd{n a:Int}(h:n<a:=by assumption)(d:decide (a<=b)=true:=by decide):n<b:=Int.lt_of_lt_of_le h (Y4 d)
variable{k:Int}
theorem Ny{n a:Int}(h:n<a:=by assumption)(d:decide (a+k<=b)=true:=by decide):n+k<b:=Kd (Int.add_lt_add_right h k) d
variable{l:Int}
theorem PQ{n a:Int}(h:n<a:=by assumption)(d:decide (a+k+l<=b)=true:=by decide):n+k+l<b:=Ny (Ny h (Y1 (Sg _))) d
theorem Qp{n a p:Int}(h:n<a:=by assumption)(d:decide (a+k+l+p<=b)=true:=by decide):n+k+l+p<b:=PQ (Ny h (Y1 (Sg _))) d
theorem Qo{n a:Int}(h:n<=a:=by assumption)(d:decide (a<=b)=true:=by decide):n<=b:=T6 h (Y4 d)
variable{m:Int}
theorem PH{n:Int}(d:decide (k<=m)=true:=by decide):n+k<=n+m:=Int.add_le_add_left (Y4 d) n
theorem Qm{n:Int}(d:decide (k+l<=m)=true:=by decide):n+k+l<=n+m:=Int.add_assoc n k l▸PH d
variable{x y z:Nat}
theorem vZ(h:x<=y:=by assumption)(d:decide (y<=z)=true:=by decide):x<=z:=Q4 h (Y4 d)
theorem Z5{p:Prop}(h:p:=by exact vZ):p:=h
theorem Pq{c:Nat}(h:x<=y:=by assumption)(d:decide (y+c<=z)=true:=by decide):x+c<=z:=vZ (Nat.add_le_add_right h c) d
theorem O8(h:x<=y:=by assumption)(d:decide (y<z)=true:=by decide):x<z:=RL h (Y4 d)
theorem Qe(h:x<y:=by assumption)(d:decide (y<=z)=true:=by decide):x<z:=QL h (Y4 d)
theorem Qi(d:decide (y<=z)=true:=by decide):x+y<=x+z:=Nat.add_le_add_left (Y4 d) x
theorem Qn(h:x<y:=by assumption)(d:decide (y<=z+1)=true:=by decide):x<=z:=TH (Qe h d)
variable{P:Prop}
theorem cy{α:Type}{x:α}(h:none=some x):P:=nomatch h
theorem yI(h:false=true):P:=nomatch h
set_option Elab.async false
set_option maxRecDepth 100000
abbrev fg(x:U9):Prop:=(x==("__debug__" : U9))=false
abbrev km(x:U9):Prop:=(x==("__classdict__" : U9))=false
noncomputable section
namespace L2
open PySem PySem.Spec PyProof.Rows
noncomputable abbrev Key:=Sum Int Str
noncomputable def Fg:Key->Value->Bool
 | .inl k,v=>Value.isInt k v
 | .inr x,v=>Value.isStrOf x v
noncomputable def Ol(w:Xz):Key->Int
 | .inl k=>hashInt k
 | .inr x=>hashStr w x
theorem cv:∀{k:Key}{v:Value},Fg k v=true->(∃i t,k=UJ i/\v=TK i t)\/(∃x t,k=UK x/\v=VT x t)
 | .inl i,v,h=>by obtain⟨t,e⟩:=Value.isInt_shape (k:=i) (v:=v) h;exact .inl ⟨i,t,rfl,e⟩
 | .inr x,v,h=>by obtain⟨t,e⟩:=Value.isStrOf_shape (x:=x) (v:=v) h;exact .inr ⟨x,t,rfl,e⟩
theorem Jq(a b:Int):decide ((UJ a:Key)=UJ b)=(a==b):=by
 by_cases e:a=b
 .subst e;simp
 .have h:¬ (UJ a:Key)=UJ b:=λq=>e (UJ.inj q);rw[Y0 h];exact(beq_eq_false_iff_ne.mpr e).symm
theorem Iz(a b:Str):decide ((UK a:Key)=UK b)=decide (a=b):=by
 by_cases e:a=b
 .subst e;simp
 .have h:¬ (UK a:Key)=UK b:=λq=>e (UK.inj q);simp only[Y0 h,Y0 e]
theorem Hf(a:Int)(b:Str):decide ((UJ a:Key)=UK b)=false:=Y0 (λq=>nomatch q)
theorem IG(a:Str)(b:Int):decide ((UK a:Key)=UJ b)=false:=Y0 (λq=>nomatch q)
def gZ(prog:Program)(w:Xz):PySem.KeyKind prog w Key where
 is:=Fg
 hash:=Ol w
 inj:=λv a b f d=>by
  rcases cv f with ⟨i,t,rfl,rfl⟩|⟨x,t,rfl,rfl⟩
  .rcases cv d with ⟨j,u,rfl,e⟩|⟨y,u,rfl,e⟩
   .injection e with e1 _;rw[e1]
   .exact nomatch e
  .rcases cv d with ⟨j,u,rfl,e⟩|⟨y,u,rfl,e⟩
   .exact nomatch e
   .injection e with e1 _;rw[e1]
 byValue:=λk v h=>by rcases cv h with ⟨i,t,rfl,rfl⟩|⟨x,t,rfl,rfl⟩<;>rfl
 pyHash:=λc h=>by
  rcases cv c with ⟨i,t,rfl,rfl⟩|⟨x,t,rfl,rfl⟩
  .exact wpAny_pyHash_int h
  .exact wpAny_pyHash_str h
 eqBool:=λg c h=>by
  rcases cv g with ⟨i,t,rfl,rfl⟩|⟨x,t,rfl,rfl⟩
  .rcases cv c with ⟨j,u,rfl,rfl⟩|⟨y,u,rfl,rfl⟩
   .rw[Jq] at h;exact wpAny_eqBool_int h
   .rw[Hf] at h;exact Va i t y u _ _ _ _ h
  .rcases cv c with ⟨j,u,rfl,rfl⟩|⟨y,u,rfl,rfl⟩
   .rw[IG] at h;exact Vb x t j u _ _ _ _ h
   .rw[Iz] at h;exact wpAny_eqBool_str h
 «strs»:=λk x t v h=>by
  rcases cv h with ⟨i,u,rfl,e⟩|⟨y,u,rfl,e⟩
  .exact nomatch e
  .injection e with e1 _;subst e1;cases v<;>rfl
inductive V where
 |non|bl(b:Bool)|int(i:Int)|str(x:Str)|byt(b:Array UInt8)|flt(b:UInt64)|ref(a:Addr)|ty(n:String)
 deriving DecidableEq
def RelV:V->Value->Prop
 | .non,u=>u=VE
 | .bl b,u=>u=VF b
 | .int i,u=>∃t,u=TK i t
 | .str x,u=>∃t,u=VT x t
 | .byt b,u=>∃t,u=Ww b t
 | .flt b,u=>∃t,u=Wx b t
 | .ref a,u=>u=Se a
 | .ty n,u=>u=WH n
abbrev Vals:List V->List Value->Prop:=Paired RelV
theorem Vals.length{xs:List V}{us:List Value}(r:Vals xs us):xs.length=us.length:=Paired.length r
theorem Vals.get:∀{xs:List V}{us:List Value}{i:Nat}{x:V},Vals xs us->xs[i]?=some x->∃u,us[i]?=some u/\RelV x u
 |_,_,_,_,.nil,e=>by simp at e
 |_,_,0,_,.cons r _,e=>by simp at e;subst e;exact⟨_,rfl,r⟩
 |_,_,i+1,x,.cons _ t,e=>by obtain⟨u,h1,h2⟩:=Vals.get (i:=i) (x:=x) t (by simpa using e);exact⟨u,by simpa using h1,h2⟩
theorem Vals.set{x:V}{u:Value}(r:RelV x u):∀{xs:List V}{us:List Value}(i:Nat),Vals xs us->Vals (xs.set i x) (us.set i u)
 |_,_,_,.nil=>.nil
 |_,_,0,.cons _ t=>.cons r t
 |_,_,i+1,.cons q t=>.cons q (Vals.set r i t)
theorem Vals.append:∀{xs ys:List V}{us ws:List Value},Vals xs us->Vals ys ws->Vals (xs++ys) (us++ws)
 |_,_,_,_,.nil,s=>s
 |_,_,_,_,.cons r t,s=>.cons r (Vals.append t s)
theorem Vals.take:∀{xs:List V}{us:List Value}(n:Nat),Vals xs us->Vals (xs.take n) (us.take n)
 |_,_,0,_=>.nil
 |_,_,_+1,.nil=>.nil
 |_,_,n+1,.cons r t=>.cons r (Vals.take n t)
theorem Vals.drop:∀{xs:List V}{us:List Value}(n:Nat),Vals xs us->Vals (xs.drop n) (us.drop n)
 |_,_,0,r=>r
 |_,_,_+1,.nil=>.nil
 |_,_,n+1,.cons _ t=>Vals.drop n t
theorem Vals.none_of:∀{xs:List V}{us:List Value}{i:Nat},Vals xs us->xs[i]?=none->us[i]?=none:=λ{xs us i} r e=>by have h1:=r.length;have h2:xs.length<=i:=Sy.mp e;exact Sy.mpr Q1
def mN:Option V->Option Value->Prop
 |some v,some u=>RelV v u
 |none,none=>True
 |_,_=>False
def KV{a:Type}:List (a×V)->List (a×Value)->Prop:=Paired λ(p:a×V)(q:a×Value)=>p.1=q.1/\RelV p.2 q.2
noncomputable def kV:Key->V
 | .inl i=>.int i
 | .inr x=>.str x
inductive HO where
  |lst(xs:List V)
  |tup(xs:List V)
  |dK(kvs:List (Key×V))|dT(kvs:List (List Key×V))
  |set(S:Int->Bool)(n:Nat)
  |ins(C dx:Addr)(fs:List (Str×V))
  |own(x:Addr)
  |xd(fs:List (Str×V))
  |met(f x:Addr)
  |xR(lo hi:Int)
  |frz(o:Obj)(u:HO)
  |tbl(ps:Array Value)
  |ext(Z:Heap->Prop)
 |exd(Z:Heap->Prop)
noncomputable abbrev Hp:=Addr->Option HO
noncomputable def upd(H:Hp)(a:Addr)(o:HO):Hp:=λb=>if b=a then some o else H b
variable{H:Hp}
theorem aM{a:Addr}{o:HO}:upd H a o a=some o:=by unfold upd;rw[YY rfl]
theorem aj{a b:Addr}{o:HO}(h:b≠a):upd H a o b=H b:=by unfold upd;rw[YZ h]
theorem uJ{a:Addr}{o u:HO}:upd (upd H a o) a u=upd H a u:=by funext b;unfold upd;split<;>rfl
theorem aI{a b:Addr}{o:HO}(h:H a=some o)(h':H b=none):a≠b:=by intro e;subst e;rw[h] at h';cases h'
variable{h:Heap}
section
variable(P:Program)(w:Xz)
def iH(h:Heap)(a:Addr)(items:Array Value):Prop:=∃o,h.get? a=some o/\o.cls=.type "tuple" /\ ∃n,o.data=.seq items n/\o.dict=none
theorem iH.t{a:Addr}{items:Array Value}(x:iH h a items):IsTup h a items:=let ⟨o,e,c,n,d,_⟩:=x;⟨o,e,c,n,d⟩
theorem iH.new(h:Heap)(items:Array Value):iH (h.push { cls:=.type "tuple",data:=.seq items }) h.objs.size items:=⟨_,Q5 _ rfl,rfl,_,rfl,rfl⟩
def dH(H:Hp)(h:Heap)(a:Addr):HO->Prop
 | .lst xs=>xs.length<=sizeLine/\∃(b:List Value)(n:Nat),Vals xs b/\h.get? a=some { cls:=.type "list",data:=.seq b.toArray n }
 | .tup xs=>xs.length<=sizeLine/\∃b:List Value,Vals xs b/\iH h a b.toArray
 | .dK kvs=>kvs.length<=sizeLine/\(a==YA)=false/\∃vs,KV kvs vs/\h.DictOf (gZ P w) a vs
 | .dT kvs=>kvs.length<=sizeLine/\(a==YA)=false/\∃xs:List (List Key×Addr×Value),
   Paired (λ(p:List Key×V)(q:List Key×Addr×Value)=>p.1=q.1/\H q.2.1=some (.tup (p.1.map kV))/\RelV p.2 q.2.2) kvs xs /\
   ∃o es e,h.get? a=some o/\o.ExactDict/\o.data=.dict es e/\es.toList=xs.map (entryOfKey (tupleKind (gZ P w)))/\(xs.map (·.1)).Nodup
 | .set S n=>h.SetOf (intKind P w) a S n
 | .ins C dx fs=>H dx=some (.own a)/\fs.length<=1000/\dx≠a/\h.get? a=some (R3 C dx) /\
   ∃mA,h.Ns1 dx mA/\(∀f,mN (fs.lookup f) (mA f))/\Vk mA (fs.map (·.1))
 | .own _=>∃o,h.get? a=some o
 | .xd fs=>∃mA,h.Ns1 a mA/\∀f,mN (fs.lookup f) (mA f)
 | .xR lo hi=>∃t u v,h.get? a=some { cls:=.type "range",data:=.fields #[.int lo t,.int hi u,.int 1 v] }
 | .frz o u=>h.get? a=some o/\dH H h a u
 | .tbl ps=>h.get? a=some { cls:=.none,data:=.fields ps }
 | .met f x=>h.get? a=some (Uq (.ref f) (.ref x))
 | .ext Z=>Z h/\(∃o,h.get? a=some o)/\∀h1 h2:Heap,Z h1->(∀o,h1.get? a=some o->h2.get? a=some o)->Z h2
 | .exd Z=>Z h/\(∃o,h.get? a=some o)/\∀h1 h2:Heap,Z h1->(∀o,h1.get? a=some o->h2.get? a=some o)->Z h2
def kv(H:Hp)(h:Heap):Prop:=∀a o,H a=some o->dH P w H h a o
end
section
variable{P:Program}{w:Xz}{H H':Hp}{h h':Heap}{a:Addr}{o:HO}
theorem dH.lt(x:dH P w H h a o):a<h.objs.size:=by
 cases o with
 |lst xs=>obtain⟨_,_,_,_,e⟩:=x;exact QM e
 |tup xs=>obtain⟨_,_,_,p⟩:=x;exact p.t.lt
 |dK kvs=>obtain⟨_,_,_,_,o,_,_,e,_⟩:=x;exact QM e
 |dT kvs=>obtain⟨_,_,_,_,o,_,_,e,_⟩:=x;exact QM e
 |set S n=>obtain⟨o,_,_,_,e,_⟩:=x;exact QM e
 |ins C dx fs=>obtain⟨_,_,_,e,_⟩:=x;exact QM e
 |own y=>obtain⟨_,e⟩:=x;exact QM e
 |xd fs=>obtain⟨_,⟨_,_,_,e,_⟩,_⟩:=x;exact QM e
 |xR lo hi=>obtain⟨_,_,_,e⟩:=x;exact QM e
 |frz ob u=>obtain⟨e,_⟩:=x;exact QM e
 |tbl ps=>exact QM (show h.get? a=some _ from x)
 |met f y=>exact QM (show h.get? a=some _ from x)
 |ext Z=>obtain⟨_,⟨_,e⟩,_⟩:=x;exact QM e
 |exd Z=>obtain⟨_,⟨_,e⟩,_⟩:=x;exact QM e
theorem Paired.Kq{α β:Type}{F G:α->β->Prop}:∀{l₁:List α}{l₂:List β},Paired F l₁ l₂->(∀a b,F a b->G a b)->Paired G l₁ l₂
 |_,_,.nil,_=>.nil
 |_,_,.cons r t,f=>.cons (f _ _ r) (Paired.Kq t f)
theorem dH.jt(x:dH P w H h a o)(k:∀b u,(b=a\/H b=some (.own a))->h.get? b=some u->h'.get? b=some u)
  (ho:∀b,H b=some (.own a)->H' b=some (.own a))(l:∀b xs,H b=some (.tup xs)->H' b=some (.tup xs)):dH P w H' h' a o:=by
 induction o with
 |lst xs=>obtain⟨z,j,n,r,e⟩:=x;exact⟨z,j,n,r,k _ _ (.inl rfl) e⟩
 |tup xs=>obtain⟨z,j,r,ob,e,c⟩:=x;exact⟨z,j,r,ob,k _ _ (.inl rfl) e,c⟩
 |dK kvs=>obtain⟨z,y,vs,r,ob,es,i,e,c⟩:=x;exact⟨z,y,vs,r,ob,es,i,k _ _ (.inl rfl) e,c⟩
 |dT kvs=>obtain⟨z,y,xs,r,ob,es,i,e,c⟩:=x;exact⟨z,y,xs,Paired.Kq r λp q z=>⟨z.1,l _ _ z.2.1,z.2.2⟩,ob,es,i,k _ _ (.inl rfl) e,c⟩
 |set S n=>obtain⟨ob,es,i,t,e,c⟩:=x;exact⟨ob,es,i,t,k _ _ (.inl rfl) e,c⟩
 |ins C dx fs=>obtain⟨d,z,ne,e,mA,⟨od,es,i,e2,c⟩,r⟩:=x;exact⟨ho _ d,z,ne,k _ _ (.inl rfl) e,mA,⟨od,es,i,k _ _ (.inr d) e2,c⟩,r⟩
 |own y=>obtain⟨ob,e⟩:=x;exact⟨ob,k _ _ (.inl rfl) e⟩
 |xd fs=>obtain⟨mA,⟨od,es,i,e,c⟩,r⟩:=x;exact⟨mA,⟨od,es,i,k _ _ (.inl rfl) e,c⟩,r⟩
 |xR lo hi=>obtain⟨t,u,v,e⟩:=x;exact⟨t,u,v,k _ _ (.inl rfl) e⟩
 |frz ob u m=>obtain⟨e,q⟩:=x;exact⟨k _ _ (.inl rfl) e,m q⟩
 |tbl ps=>have e:h.get? a=some { cls:=.none,data:=.fields ps }:=x;show h'.get? a=some { cls:=.none,data:=.fields ps };exact k a _ (.inl rfl) e
 |met f y=>have e:h.get? a=some (Uq (.ref f) (.ref y)):=x;show h'.get? a=some (Uq (.ref f) (.ref y));exact k a _ (.inl rfl) e
 |ext Z=>obtain⟨p,⟨o,e⟩,st⟩:=x;exact⟨st _ _ p λo q=>k _ _ (.inl rfl) q,⟨o,k _ _ (.inl rfl) e⟩,st⟩
 |exd Z=>obtain⟨p,⟨o,e⟩,st⟩:=x;exact⟨st _ _ p λo q=>k _ _ (.inl rfl) q,⟨o,k _ _ (.inl rfl) e⟩,st⟩
theorem kv.lt(x:kv P w H h)(e:H a=some o):a<h.objs.size:=(x a o e).lt
theorem kv.fresh(x:kv P w H h)(e:h.objs.size<=a):H a=none:=by
 cases q:H a with
 |none=>rfl
 |some u=>exact absurd (QL (x.lt q) e) (QU _)
theorem kv.kept(x:kv P w H h)(k:∀b u,h.get? b=some u->h'.get? b=some u):kv P w H h':=λa o e=>(x a o e).jt (λb u _ q=>k b u q) (λ_ q=>q) λ_ _ q=>q
theorem kv.laid(x:kv P w H h)(k:∀b u,h.get? b=some u->h'.get? b=some u)(hp:h.objs.size<=a)(new:dH P w (upd H a o) h' a o):kv P w (upd H a o) h':=λb u e=>by
 have hn:=x.fresh hp;by_cases d:b=a
 .subst d;rw[aM] at e;cases e;exact new
 .rw[aj d] at e;exact(x b u e).jt (λc v _ q=>k c v q) (λc q=>by rw[aj (aI q hn)];exact q) λc xs q=>by rw[aj (aI q hn)];exact q
end
def Rd(H:Hp)(a:Addr)(u:HO):Prop:=H a=some u\/∃o,H a=some (.frz o u)
variable{w:Xz}
theorem Rd.ok{P:Program}{a:Addr}{u:HO}(r:Rd H a u)(x:kv P w H h):dH P w H h a u:=by
 rcases r with r|⟨o,r⟩
 .exact x a u r
 .obtain⟨_,q⟩:=x a _ r;exact q
def NH:Option HO->Prop
 |some (.lst _)=>True
 |some (.dK _)=>True
 |some (.dT _)=>True
 |some (.set _ _)=>True
 |some (.ins _ _ _)=>True
 |some (.ext _)=>True
 |some (.exd _)=>True
 |_=>False
section
variable{P:Program}{w:Xz}{H:Hp}{h h':Heap}{x e:Addr}{o':HO}
theorem kv.write(ok:kv P w H h)(mu:NH (H x))(he:e=x\/H e=some (.own x))(k:∀b u,b≠e->h.get? b=some u->h'.get? b=some u)(s:∃u,h'.get? e=some u)
  (new:dH P w (upd H x o') h' x o'):kv P w (upd H x o') h':=λb u q=>by
 have o:∀c y,H c=some (.own y)->c≠x:=λc y r z=>by subst z;rw[r] at mu;exact mu
 have p:∀c xs,H c=some (.tup xs)->c≠x:=λc xs r z=>by subst z;rw[r] at mu;exact mu
 by_cases d:b=x
 .subst d;rw[aM] at q;cases q;exact new
 .rw[aj d] at q;by_cases n:b=e
  .have t:H b=some (.own x):=by
    rcases he with z|z
    .exact absurd (n.trans z) d
    .rw[n];exact z
   rw[q] at t;cases t;obtain⟨v,A⟩:=s;exact⟨v,by rw[n];exact A⟩
  .refine(ok b u q).jt (λc v hc r=>k c v ?_ r) (λc r=>by rw[aj (o c b r)];exact r) λc xs r=>by rw[aj (p c xs r)];exact r
   rcases hc with rfl|hc
   .exact n
   .rintro rfl;rcases he with z|z
    .exact o c b hc z
    .rw[hc] at z;cases z;exact d rfl
end
structure Un(fs ex:List Addr)(H H':Hp)(h h':Heap):Prop where
 keep:∀b o,h.get? b=some o->H b=none->b∉fs->b∉ex->h'.get? b=some o
 slot:∀b o,h.get? b=some o->H b=none->b∈fs->b∉ex->∃sl,h'.get? b=some { o with slots:=sl }
 free:∀b o,h.get? b=some o->H b=none->b∉ex->H' b=none
 there:∀b o,h.get? b=some o->b∉ex->∃o',h'.get? b=some o'
 tups:∀b xs,H b=some (.tup xs)->H' b=some (.tup xs)
 frzs:∀b o u,H b=some (.frz o u)->H' b=some (.frz o u)
 tbls:∀b ps,H b=some (.tbl ps)->∃more,H' b=some (.tbl (ps++more))
section
variable{fs Z1 ex ex':List Addr}{H H1 H2:Hp}{h h1 h2 h':Heap}{a x e:Addr}{o:HO}
theorem Un.any(u:Un fs ex H H1 h h1){b:Addr}{ob:Obj}(q:h.get? b=some ob)(n:H b=none)(hx:b∉ex):∃sl,h1.get? b=some { ob with slots:=sl }:=by
 by_cases d:b∈fs
 .exact u.slot b ob q n d hx
 .exact⟨ob.slots,u.keep b ob q n d hx⟩
theorem Un.kept(k:∀b u,h.get? b=some u->h'.get? b=some u):Un fs ex H H h h':=
 ⟨λb ob q _ _ _=>k b ob q,λb ob q _ _ _=>⟨ob.slots,k b ob q⟩,λ_ _ _ n _=>n,λb ob q _=>⟨ob,k b ob q⟩,λ_ _ q=>q,λ_ _ _ q=>q,λ_ ps q=>⟨#[],by rw[q];rfl⟩⟩
theorem Un.refl:Un fs ex H H h h:=Un.kept λ_ _ q=>q
theorem Un.laid(k:∀b u,h.get? b=some u->h'.get? b=some u)(hp:h.objs.size<=a)(hn:H a=none):Un fs ex H (upd H a o) h h' where
 keep:=λb u q _ _ _=>k b u q
 slot:=λb u q _ _ _=>⟨u.slots,k b u q⟩
 free:=λb u q n _=>by rw[aj (Q8 (QL (QM q) hp))];exact n
 there:=λb u q _=>⟨u,k b u q⟩
 tups:=λb xs q=>by rw[aj (aI q hn)];exact q
 frzs:=λb u xs q=>by rw[aj (aI q hn)];exact q
 tbls:=λb ps q=>⟨#[],by rw[aj (aI q hn),q];simp⟩
theorem Un.write(mu:NH (H x))(he:e=x\/H e=some (.own x))(k:∀b u,b≠e->h.get? b=some u->h'.get? b=some u)(s:∃u,h'.get? e=some u):Un fs ex H (upd H x o) h h':=by
 have hx:∀b,H b=none->b≠x:=λb n z=>by subst z;rw[n] at mu;exact mu
 have d:∀b,H b=none->b≠e:=λb n z=>by
  subst z;rcases he with r|r
  .exact hx b n r
  .rw[n] at r;cases r
 have hm:∀b u,H b=some u->¬ NH (some u)->b≠x:=λb u q nm z=>by subst z;rw[q] at mu;exact nm mu
 refine⟨λb u q n _ _=>k b u (d b n) q,λb u q n _ _=>⟨u.slots,k b u (d b n) q⟩,λb u q n _=>by rw[aj (hx b n)];exact n,λb u q _=>?_,
  λb xs q=>by rw[aj (hm b _ q λz=>z)];exact q,λb u xs q=>by rw[aj (hm b _ q λz=>z)];exact q,λb ps q=>⟨#[],by rw[aj (hm b _ q λz=>z),q];simp⟩⟩
 by_cases v:b=e
 .subst v;exact s
 .exact⟨u,k b u v q⟩
end
noncomputable def Nu(h:Heap)(H:Hp):List Addr:=(QK h.objs.size).filter λa=>(H a).isSome
def pW(h:Heap)(H:Hp):Heap:=PySem.W.hideAll h (Nu h H)
theorem xc(h:Heap)(H:Hp):(pW h H).objs.size=h.objs.size:=PySem.W.hideAll_size _ _
variable{o:Obj}
theorem Ay{b:Addr}(e:h.get? b=some o)(n:H b=none):(pW h H).get? b=some o:=
 PySem.W.hideAll_get _ e λhm=>by have q:(H b).isSome=true:=(T7.mp hm).2;rw[n] at q;simp at q
theorem Eg{b:Addr}(e:(pW h H).get? b=some o):h.get? b=some o/\H b=none:=by
 have k:h.get? b=some o:=PySem.W.of_hideAll (Nu h H) e;refine⟨k,?_⟩;cases q:H b with
 |none=>rfl
 |some x=>have hm:b∈Nu h H:=T7.mpr ⟨Rb.mpr (QM k),by simp[q]⟩;have z:(pW h H).get? b=none:=PySem.W.hideAll_none (Nu h H) hm;rw[z] at e;cases e
noncomputable def Dk(g h:Heap)(L:Addr):List (Addr×Obj):=(QK h.objs.size).filterMap λa=>if a=L\/(g.get? a).isSome=true then none else (h.get? a).map λo=>(a,o)
def rest(g h:Heap)(L d:Addr):List (Addr×Obj):=(Dk g h L).filter λp=>decide (p.1≠d)
structure Mod(K:Qr)(mg:Str->Option Value)(base:Heap):Prop where
 kin:K.In base
 glob:base.Ns Xx mg
 blt:∃mb,base.Ns Ym mb/\∀x:Str,x ≠ "__name__" -> mb x=Xq x
 nolimit:base.NoLimit
structure Cx where
 prog:Program
 w:Xz
 K:Qr
 mg:Str->Option Value
 base:Heap
 A:XA
 N:List Str
 s₀:Shared
 H₀:Hp
 env:Env
 outer:List Env
 stack:List Env
 ex:List Addr
 fn:Str->Bool
 calm:Bool
 pn:List (Addr×Obj)
 xe:Value->Shared->Prop
noncomputable def kD(l:List Env):List Addr:=l.filterMap (·.frame)
abbrev Cx.fs(X:Cx):List Addr:=kD X.outer
def jh(sc:Scope)(x:Str):Prop:=sc.names.lookup x=some .local\/sc.names.lookup x=some .cell\/sc.names.lookup x=some .free
def Loc(sc:Scope)(x:Str):Prop:=sc.names.lookup x=some .local\/sc.names.lookup x=some .cell
def Look(env:Env)(h:Heap)(m:Str->Option Value)(x:Str)(u:Value):Prop:=
 (env.kindOf x=some .local/\m x=some u)\/((env.kindOf x=some .cell\/env.kindOf x=some .free)/\∃c,env.cells.lookup x=some c/\h.IsCell c (some u))
structure Cx.Ok(X:Cx):Prop where
 mod:Mod X.K X.mg X.base
 kind:X.env.scope.kind=.function
 glob:X.env.globals=Xx
 blt:X.env.builtins=Ym
 above:X.s₀.heap.objs.size<=X.env.locals
 inj:∀x y c,X.env.cells.lookup x=some c->X.env.cells.lookup y=some c->x=y
 has:∀x,(X.env.kindOf x=some .cell\/X.env.kindOf x=some .free)->∃c,X.env.cells.lookup x=some c
 cab:∀x c,X.fn x=true->X.env.cells.lookup x=some c->X.s₀.heap.objs.size<=c
 hd:X.calm=true->X.A.handled=none
 frames:X.A.frames=some X.stack
 stk:X.stack=X.outer\/(X.stack=X.env::X.outer/\X.env.frame=some X.env.locals)
 exf:∀b∈X.ex,b≠X.env.locals/\∀x c,X.env.cells.lookup x=some c->c≠b
 bs:∀b o,X.base.get? b=some o->X.s₀.heap.get? b=some o/\X.H₀ b=none
 bsz:X.base.objs.size<=X.s₀.heap.objs.size
 noex:∀b o,X.base.get? b=some o->b∉X.ex
 exfs:∀b∈X.ex,b∉X.fs
 mL:X.s₀.heap.FunFrames X.base X.outer
 frf:∀b∈X.fs,X.H₀ b=none
structure Inv(X:Cx)(pins:List (Addr×Obj))(Y:List (Option V))(H:Hp)(s:Shared):Prop where
 ok:X.Ok
 os:s.os=X.s₀.os
 bare:X9 s.gens
 base:Un X.fs X.ex X.H₀ H X.s₀.heap s.heap
 loc:∃m,s.heap.Ns X.env.locals m/\∀(i:Nat)(x:Str)(v:V),X.N[i]?=some x->Y[i]?=some (some v)->jh X.env.scope x->∃u,RelV v u/\Look X.env s.heap m x u
 cell:∀x c,X.env.cells.lookup x=some c->∃v,s.heap.IsCell c v
 free:H X.env.locals=none
 freeC:∀x c,X.env.cells.lookup x=some c->H c=none
 pin:∀p∈X.pn++pins,s.heap.get? p.1=some p.2/\H p.1=none/\p.1≠X.env.locals/\p.1∉X.fs/\∀v,p.2.data≠.cell v
 hok:kv X.prog X.w H s.heap
 len:Y.length=X.N.length
variable{g':Array GenState}{t' i j:Nat}{d':Drawn}{ch:List Addr}{it:Addr}{N:List Str}{E:Value->Shared->Prop}{u:Value}
section
variable{X:Cx}{pins:List (Addr×Obj)}{Y:List (Option V)}{H H':Hp}{s:Shared}{h':Heap}
theorem Cx.Ok.NY(ok:X.Ok){b:Addr}(e:X.base.get? b=some o):b∉X.fs:=λd=>by have:=(ok.mL.mem d).1;rw[e] at this;cases this
theorem Inv.bs(I:Inv X pins Y H s):∀b o,X.base.get? b=some o->s.heap.get? b=some o/\H b=none:=λb o e=>⟨I.base.keep b o (I.ok.bs b o e).1 (I.ok.bs b o e).2 (I.ok.NY e) (I.ok.noex b o e),I.base.free b o (I.ok.bs b o e).1 (I.ok.bs b o e).2 (I.ok.noex b o e)⟩
theorem Inv.bk(I:Inv X pins Y H s):∀b o,X.base.get? b=some o->s.heap.get? b=some o:=λb o e=>(I.bs b o e).1
theorem Inv.mod(I:Inv X pins Y H s):Mod X.K X.mg X.base:=I.ok.mod
theorem Inv.sO(I:Inv X pins Y H s):X.K.In s.heap:=I.ok.mod.kin.keeps I.bk
theorem Inv.lt(I:Inv X pins Y H s):X.env.locals<s.heap.objs.size:=let ⟨_,hn,_⟩:=I.loc;hn.lt
theorem Inv.sz(I:Inv X pins Y H s):X.s₀.heap.objs.size<=s.heap.objs.size:=Q4 I.ok.above (QJ I.lt)
theorem Inv.KS(I:Inv X pins Y H s){a:Addr}(h:s.heap.objs.size<=a):a∉X.fs:=λd=>by obtain⟨_,o,ho,_⟩:=I.ok.mL.mem d;exact absurd (QL (QM ho) (Q4 I.sz h)) (QU _)
theorem Inv.GG(I:Inv X pins Y H s):∀x c,X.env.cells.lookup x=some c->c≠X.env.locals:=λx c e z=>by obtain⟨v,o,ho,hd⟩:=I.cell x c e;obtain⟨m,⟨o',es,i,h,q,_⟩,_⟩:=I.loc;simp only[z,h] at ho;cases ho;rw[q] at hd;cases hd
theorem Inv.mL(I:Inv X pins Y H s):s.heap.FunFrames X.base X.outer:=by
 have all:∀(l:List Env),(∀b∈kD l,b∈X.fs)->X.s₀.heap.FunFrames X.base l->s.heap.FunFrames X.base l:=by
  intro l;induction l with
  |nil=>intro _ _;trivial
  |cons env r m=>intro hs hl;obtain⟨hk,⟨L,o,hf,hn,ho,hd⟩,w⟩:=hl;have u:L∈X.fs:=hs L (by unfold kD;simp only[Tg,hf];exact QH);obtain⟨sl,e⟩:=I.base.slot L o ho (I.ok.frf L u) u λz=>I.ok.exfs L z u;exact⟨hk,⟨L,_,hf,hn,e,hd⟩,m (λb d=>hs b (by unfold kD;simp only[Tg,hf];exact Qz _ d)) w⟩
 exact all X.outer (λ_ d=>d) I.ok.mL
theorem Inv.stack(I:Inv X pins Y H s):s.heap.FunFrames X.base X.stack:=by
 rcases I.ok.stk with e|⟨e,hf⟩
 .rw[e];exact I.mL
 .rw[e];obtain⟨m,hn,_⟩:=I.loc;refine .cons (by rw[I.ok.kind];decide) hf hn ?_ I.mL;exact Heap.get?_none_of_le (Q4 I.ok.bsz I.ok.above)
theorem Inv.jJ(I:Inv X pins Y H s):∀b∈kD X.stack,b∈X.env.locals::X.fs:=λb d=>by
 rcases I.ok.stk with e|⟨e,hf⟩
 .rw[e] at d;exact Qz _ d
 .rw[e] at d;unfold kD at d;simp only[Tg,hf] at d;exact d
theorem Inv.vb(I:Inv X pins Y H s):∀b∈kD X.stack,H b=none:=λb d=>by
 rcases QC.mp (I.jJ b d) with e|d
 .rw[e];exact I.free
 .obtain⟨_,o,ho,_⟩:=I.ok.mL.mem d;exact I.base.free b o ho (I.ok.frf b d) λz=>I.ok.exfs b z d
theorem Inv.step(I:Inv X pins Y H s)
  (y:∀b∈ch,(b∈X.ex\/X.s₀.heap.objs.size<=b)/\b≠X.env.locals/\(∀x c,X.env.cells.lookup x=some c->c≠b)/\∀p∈X.pn++pins,p.1≠b)
  (keep:∀b o,b≠X.env.locals->b∉X.fs->b∉ch->s.heap.get? b=some o->H b=none->h'.get? b=some o)
  (slot:∀b o,b≠X.env.locals->b∈X.fs->b∉ch->s.heap.get? b=some o->H b=none->∃sl,h'.get? b=some { o with slots:=sl })(free:∀b o,b∉ch->s.heap.get? b=some o->H b=none->H' b=none)
  (there:∀b o,b∉ch->s.heap.get? b=some o->∃o',h'.get? b=some o')
  (tups:∀b xs,H b=some (.tup xs)->H' b=some (.tup xs))(frzs:∀b o u,H b=some (.frz o u)->H' b=some (.frz o u))(tbls:∀b ps,H b=some (.tbl ps)->∃more,H' b=some (.tbl (ps++more)))
  (ns:∀m,s.heap.Ns X.env.locals m->h'.Ns X.env.locals m)(hok:kv X.prog X.w H' h')(J:X9 g'):
  Inv X pins Y H' { s with heap:=h',gens:=g',drawn:=d',toks:=t' }:=by
 have F:∀b o,X.s₀.heap.get? b=some o->b≠X.env.locals:=λb o e=>Q8 (QL (QM e) I.ok.above);have D:∀b o,X.s₀.heap.get? b=some o->b∉X.ex->b∉ch:=λb o e hx E=>by
  rcases(y b E).1 with z|z
  .exact hx z
  .exact absurd (QL (QM e) z) (QU _)
 have B:∀x c,X.env.cells.lookup x=some c->∀v,s.heap.IsCell c v->h'.IsCell c v:=λx c e v ⟨o,ho,hd⟩=>by
  have C:c∉ch:=λz=>(y c z).2.2.1 x c e rfl;by_cases hc:c∈X.fs
  .obtain⟨sl,q⟩:=slot c o (I.GG x c e) hc C ho (I.freeC x c e);exact⟨_,q,hd⟩
  .exact⟨o,keep c o (I.GG x c e) hc C ho (I.freeC x c e),hd⟩
 refine⟨I.ok,I.os,J,⟨λb o e n E hx=>?_,λb o e n E hx=>?_,λb o e n hx=>?_,λb o e hx=>?_,λb xs e=>tups b xs (I.base.tups b xs e),λb o xs e=>frzs b o xs (I.base.frzs b o xs e),λb ps e=>?_⟩,?_,λx c e=>?_,?_,λx c e=>?_,λp hp=>?_,hok,I.len⟩
 .exact keep b o (F b o e) E (D b o e hx) (I.base.keep b o e n E hx) (I.base.free b o e n hx)
 .obtain⟨sl,e1⟩:=I.base.slot b o e n E hx;obtain⟨G,e2⟩:=slot b _ (F b o e) E (D b o e hx) e1 (I.base.free b o e n hx);exact⟨G,e2⟩
 .obtain⟨o',e1⟩:=I.base.there b o e hx;exact free b o' (D b o e hx) e1 (I.base.free b o e n hx)
 .obtain⟨o',e1⟩:=I.base.there b o e hx;exact there b o' (D b o e hx) e1
 .obtain⟨K,e1⟩:=I.base.tbls b ps e;obtain⟨L,e2⟩:=tbls b _ e1;exact⟨K++L,by rw[e2,Array.append_assoc]⟩
 .obtain⟨m,hn,hl⟩:=I.loc;refine⟨m,ns m hn,λi x v e1 e2 N=>?_⟩;obtain⟨u,r,l⟩:=hl i x v e1 e2 N;refine⟨u,r,?_⟩;rcases l with l|⟨k,c,e,z⟩
  .exact .inl l
  .exact .inr ⟨k,c,e,B x c e _ z⟩
 .obtain⟨v,z⟩:=I.cell x c e;exact⟨v,B x c e v z⟩
 .obtain⟨m,⟨o,_,_,ho,_⟩,_⟩:=I.loc;exact free _ o (λz=>(y _ z).2.1 rfl) ho I.free
 .obtain⟨v,o,ho,hd⟩:=I.cell x c e;exact free c o (λz=>(y c z).2.2.1 x c e rfl) ho (I.freeC x c e)
 .obtain⟨e,n,ne,nf,d⟩:=I.pin p hp;have C:p.1∉ch:=λz=>(y p.1 z).2.2.2 p hp rfl;exact⟨keep p.1 p.2 ne nf C e n,free p.1 p.2 C e n,ne,nf,d⟩
theorem Inv.un(I:Inv X pins Y H s)(u:Un X.fs [] H H' s.heap h')(hok:kv X.prog X.w H' h'):Inv X pins Y H' { s with heap:=h',toks:=t' }:=by
 obtain⟨m,⟨o,es,i,ho,r⟩,_⟩:=id I.loc;obtain⟨sl,P⟩:=u.any ho I.free Z4;exact I.step (g':=s.gens) (d':=s.drawn) (ch:=[]) (λ_ z=>nomatch z) (λb o _ d _ e n=>u.keep b o e n d Z4) (λb o _ d _ e n=>u.slot b o e n d Z4) (λb o _ e n=>u.free b o e n Z4) (λb o _ e=>u.there b o e Z4) u.tups u.frzs u.tbls (λQ hm=>by obtain⟨o',x,O,h,r'⟩:=hm;rw[ho] at h;cases h;exact⟨_,x,O,P,r'⟩) hok I.bare
theorem Inv.call(I:Inv X pins Y H s)(u:Un (kD X.stack) ch H H' s.heap h')(hok:kv X.prog X.w H' h')(J:X9 g')
  (y:∀b∈ch,(b∈X.ex\/X.s₀.heap.objs.size<=b)/\b≠X.env.locals/\(∀x c,X.env.cells.lookup x=some c->c≠b)/\∀p∈X.pn++pins,p.1≠b):
  Inv X pins Y H' { s with heap:=h',gens:=g',drawn:=d',toks:=t' }:=by
 obtain⟨m,⟨o,es,i,ho,r⟩,_⟩:=id I.loc;obtain⟨sl,P⟩:=u.any ho I.free λz=>(y _ z).2.1 rfl;exact I.step (ch:=ch) y (λb o P d hc e n=>u.keep b o e n (λz=>(QC.mp (I.jJ b z)).elim P d) hc) (λb o _ _ hc e n=>u.any e n hc) (λb o hc e n=>u.free b o e n hc) (λb o hc e=>u.there b o e hc) u.tups u.frzs u.tbls (λQ hm=>by obtain⟨o',R,O,h,r'⟩:=hm;rw[ho] at h;cases h;exact⟨_,R,O,P,r'⟩) hok J
theorem Inv.turned(I:Inv X pins Y H s)(k:∀b o,b≠it->s.heap.get? b=some o->h'.get? b=some o)(hn:H it=none)(P:it≠X.env.locals)
  (h1:it∈X.ex\/X.s₀.heap.objs.size<=it)(h2:∀x c,X.env.cells.lookup x=some c->c≠it)(h3:∀p∈X.pn++pins,p.1≠it):Inv X pins Y H { s with heap:=h',toks:=t' }:=by
 have S:∀b u,H b=some u->b≠it:=λb u e z=>by rw[z,hn] at e;cases e
 refine I.step (g':=s.gens) (d':=s.drawn) (ch:=[it]) (λb d=>?_) (λb o _ _ hc e _=>k b o (λz=>hc (by simp[z])) e) (λb o _ _ hc e _=>⟨o.slots,k b o (λz=>hc (by simp[z])) e⟩) (λ_ _ _ _ n=>n)
  (λb o hc e=>⟨o,k b o (λz=>hc (by simp[z])) e⟩) (λ_ _ e=>e) (λ_ _ _ e=>e) (λb ps e=>⟨#[],by rw[e];simp⟩) (λm hm=>?_) (λb u e=>?_) I.bare
 .have e:b=it:=by simpa using d
  subst e;exact⟨h1,P,h2,h3⟩
 .obtain⟨o,es,i,ho,r⟩:=hm;exact⟨o,es,i,k _ o (Rz P) ho,r⟩
 .refine(I.hok b u e).jt (λc v hc q=>k c v ?_ q) (λ_ q=>q) λ_ _ q=>q;rcases hc with z|z
  .rw[z];exact S b u e
  .exact S c _ z
theorem Inv.tok(I:Inv X pins Y H s)(t:Nat):Inv X pins Y H { s with toks:=t }:=I.un (h':=s.heap) (t':=t) Un.refl I.hok
theorem Inv.kept{t':Nat}(I:Inv X pins Y H s)(k:∀b u,s.heap.get? b=some u->h'.get? b=some u):Inv X pins Y H { s with heap:=h',toks:=t' }:=I.un (Un.kept k) (I.hok.kept k)
theorem Inv.laid{a:Addr}{o:HO}{t':Nat}(I:Inv X pins Y H s)(k:∀b u,s.heap.get? b=some u->h'.get? b=some u)(hp:s.heap.objs.size<=a)(new:dH X.prog X.w (upd H a o) h' a o):
  Inv X pins Y (upd H a o) { s with heap:=h',toks:=t' }:=I.un (Un.laid k hp (I.hok.fresh hp)) (I.hok.laid k hp new)
theorem Inv.write{x e:Addr}{o:HO}{t':Nat}(I:Inv X pins Y H s)(mu:NH (H x))(he:e=x\/H e=some (.own x))(k:∀b u,b≠e->s.heap.get? b=some u->h'.get? b=some u)(r:∃u,h'.get? e=some u)
  (new:dH X.prog X.w (upd H x o) h' x o):Inv X pins Y (upd H x o) { s with heap:=h',toks:=t' }:=I.un (Un.write mu he k r) (I.hok.write mu he k r new)
theorem Inv.pI{T:List (Addr×Obj)}(I:Inv X pins Y H s)(h:∀p∈T,s.heap.get? p.1=some p.2/\H p.1=none/\p.1≠X.env.locals/\p.1∉X.fs/\∀v,p.2.data≠.cell v):Inv X T Y H s:=
 ⟨I.ok,I.os,I.bare,I.base,I.loc,I.cell,I.free,I.freeC,λp hp=>(Qx.mp hp).elim (λz=>I.pin p (Qu _ z)) (h p),I.hok,I.len⟩
theorem qo(hN:N.Nodup){x:Str}(a:N[i]?=some x)(b:N[j]?=some x):i=j:=by obtain⟨h1,e1⟩:=Qv.mp a;obtain⟨h2,e2⟩:=Qv.mp b;exact(VX hN).mp (e1.trans e2.symm)
theorem ot{M:Model}{A:XA}{x:Str}{v:V}{Q:Unit->Shared->Prop}(I:Inv X pins Y H s)(hN:X.N.Nodup)(hi:X.N[i]?=some x)(hx:Loc X.env.scope x)(r:RelV v u)
  (h:∀s',Inv X pins (Y.set i (some v)) H s'->(∃a,UG a s.heap s'.heap/\(a=X.env.locals\/X.env.cells.lookup x=some a))->Q () s')(hf:X.fn x=true\/X.env.scope.names.lookup x=some .local:=by first|exact .inl rfl|exact .inr rfl|assumption):Xu M A (storeName X.env x u) Q E s:=by
 obtain⟨m,hn,hl⟩:=id I.loc;have hcls:(X.env.scope.kind==.class || (X.env.scope.kind==.module&&X.env.locals != X.env.globals))=false:=by rw[I.ok.kind];rfl
 have hiσ:i<Y.length:=by rw[I.len];exact(Qv.mp hi).1
 have GG:=I.GG;have tracked:∀{a:Addr}{h':Heap},(∃o,s.heap.get? a=some o/\H a=none)->UG a s.heap h'->kv X.prog X.w H h':=λ{a h'} ha hs b ob e=>by
  obtain⟨_,_,hfree⟩:=ha;refine(I.hok b ob e).jt (λc w' hc q=>(hs.2 c ?_).trans q) (λ_ q=>q) λ_ _ q=>q;rintro rfl;rcases hc with rfl|hc
  .rw[hfree] at e;cases e
  .rw[hfree] at hc;cases hc
 rcases hx with hk|hk
 .refine wpAny_storeName_local hk hn (λh' hn' hs=>?_) hcls;obtain⟨oL,_,_,hoL,_⟩:=id hn;refine h _ ⟨I.ok,I.os,I.bare,⟨λb o e n hb hx=>?_,λb o e n hb hx=>?_,I.base.free,λb o e hx=>?_,I.base.tups,I.base.frzs,I.base.tbls⟩,⟨_,hn',λj y v' e1 e2 e3=>?_⟩,λy c e=>?_,I.free,I.freeC,λp hp=>?_,tracked ⟨oL,hoL,I.free⟩ hs,by simpa using I.len⟩ ⟨_,hs,.inl rfl⟩
  .exact(hs.2 b (Q8 (QL (QM e) I.ok.above))).trans (I.base.keep b o e n hb hx)
  .obtain⟨sl,e1⟩:=I.base.slot b o e n hb hx;exact⟨sl,(hs.2 b (Q8 (QL (QM e) I.ok.above))).trans e1⟩
  .obtain⟨o',e1⟩:=I.base.there b o e hx;exact⟨o',(hs.2 b (Q8 (QL (QM e) I.ok.above))).trans e1⟩
  .by_cases hj:j=i
   .subst hj;rw[hi] at e1;cases e1;rw[QN hiσ] at e2;cases e2;exact⟨u,r,.inl ⟨hk,by simp⟩⟩
   .rw[QY (Rz hj)] at e2;obtain⟨u',r',q⟩:=hl j y v' e1 e2 e3;refine⟨u',r',?_⟩;rcases q with ⟨k,e⟩|⟨k,c,e,z⟩
    .refine .inl ⟨k,?_⟩;have:y≠x:=λe=>hj (qo hN e1 (e▸hi));simp[this,e]
    .exact .inr ⟨k,c,e,z.sameBut hs (GG y c e)⟩
  .obtain⟨w',z⟩:=I.cell y c e;exact⟨w',z.sameBut hs (GG y c e)⟩
  .obtain⟨e,n,ne,nf,d⟩:=I.pin p hp;exact⟨(hs.2 p.1 ne).trans e,n,ne,nf,d⟩
 .have hfn:X.fn x=true:=by
   rcases hf with z|z
   .exact z
   .rw[z] at hk;cases hk
  obtain⟨c,hc⟩:=I.ok.has x (.inl hk);obtain⟨w',z⟩:=I.cell x c hc;refine wpAny_storeName_cell I.ok.kind hk hc z (λh' hc' hs=>?_);obtain⟨oc,hoc,hocd⟩:=id z;refine h { s with heap:=h' } ⟨I.ok,I.os,I.bare,⟨λb o e n hb hx=>?_,λb o e n hb hx=>?_,I.base.free,λb o e hx=>?_,I.base.tups,I.base.frzs,I.base.tbls⟩,⟨m,hn.sameBut hs (Rz (GG x c hc)),λj y v' e1 e2 e3=>?_⟩,λy c' e=>?_,I.free,I.freeC,λp hp=>?_,tracked ⟨oc,hoc,I.freeC x c hc⟩ hs,by simpa using I.len⟩ ⟨c,hs,.inr hc⟩
  .exact(hs.2 b (Q8 (QL (QM e) (I.ok.cab x c hfn hc)))).trans (I.base.keep b o e n hb hx)
  .obtain⟨sl,e1⟩:=I.base.slot b o e n hb hx;exact⟨sl,(hs.2 b (Q8 (QL (QM e) (I.ok.cab x c hfn hc)))).trans e1⟩
  .obtain⟨o',e1⟩:=I.base.there b o e hx;exact⟨o',(hs.2 b (Q8 (QL (QM e) (I.ok.cab x c hfn hc)))).trans e1⟩
  .by_cases hj:j=i
   .subst hj;rw[hi] at e1;cases e1;rw[QN hiσ] at e2;cases e2;exact⟨u,r,.inr ⟨.inl hk,c,hc,hc'⟩⟩
   .rw[QY (Rz hj)] at e2;obtain⟨u',r',q⟩:=hl j y v' e1 e2 e3;refine⟨u',r',?_⟩;rcases q with q|⟨k,c',e,z'⟩
    .exact .inl q
    .refine .inr ⟨k,c',e,z'.sameBut hs ?_⟩;rintro rfl;exact hj (qo hN e1 (I.ok.inj _ _ _ e hc▸hi))
  .by_cases hcc:c'=c
   .subst hcc;exact⟨_,hc'⟩
   .obtain⟨w2,z2⟩:=I.cell y c' e;exact⟨w2,z2.sameBut hs hcc⟩
  .obtain⟨e,n,ne,nf,d⟩:=I.pin p hp;refine⟨(hs.2 p.1 ?_).trans e,n,ne,nf,d⟩;intro q;rw[q,hoc] at e;have q':oc=p.2:=QW e;exact d w' (by rw[<-q'];exact hocd)
theorem i7{M:Model}{A:XA}{x:Str}{v:V}{Q:Unit->Shared->Prop}(I:Inv X pins Y H s)(hN:X.N.Nodup)(hi:X.N[i]?=some x)(hx:Loc X.env.scope x)(r:RelV v u)
  (h:∀s',Inv X pins (Y.set i (some v)) H s'->Q () s')(hf:X.fn x=true\/X.env.scope.names.lookup x=some .local:=by first|exact .inl rfl|exact .inr rfl|assumption):Xu M A (storeName X.env x u) Q E s:=
 ot I hN hi hx r (λs' I' _=>h s' I') hf
theorem Inv.Mu{s':Shared}(I:Inv X pins Y H s)(ho:s'.os=s.os)(u:Un (kD X.stack) ch H H' s.heap s'.heap)(hok:kv X.prog X.w H' s'.heap)(J:X9 s'.gens)
  (y:∀b∈ch,(b∈X.ex\/X.s₀.heap.objs.size<=b)/\b≠X.env.locals/\(∀x c,X.env.cells.lookup x=some c->c≠b)/\∀p∈X.pn++pins,p.1≠b):Inv X pins Y H' s':=by
 obtain⟨h',g',d',t',o'⟩:=s';have e:o'=s.os:=ho;subst e;exact I.call (g':=g') (t':=t') (d':=d') u hok J y
end
abbrev XK:=Value->Option Addr->Hp->Prop
noncomputable abbrev St:=List (Option V)
abbrev VK:=V->Hp->Prop
abbrev TE:=St->Hp->VK->Prop
abbrev TT:=St->Hp->(Bool->Hp->Prop)->Prop
abbrev TA:=St->Hp->(List V->Hp->Prop)->Prop
structure Ends where
 nx:St->Hp->Prop
 rt:VK
 bk:St->Hp->Prop:=λ_ _=>False
 ct:St->Hp->Prop:=λ_ _=>False
abbrev TS:=Ends->St->Hp->Prop
inductive EP(X:Cx)(pins:List (Addr×Obj))(Y:St)(Q:VK)(u:Value)(s':Shared):Prop
 |mk(v:V)(H':Hp)(i:Inv X pins Y H' s')(r:RelV v u)(q:Q v H')
inductive TP(X:Cx)(pins:List (Addr×Obj))(Y:St)(Q:Bool->Hp->Prop)(b:Bool)(s':Shared):Prop
 |mk(H':Hp)(i:Inv X pins Y H' s')(q:Q b H')
inductive AP(X:Cx)(pins:List (Addr×Obj))(Y:St)(Q:List V->Hp->Prop)(us:List Value)(s':Shared):Prop
 |mk(vs:List V)(H':Hp)(i:Inv X pins Y H' s')(r:Vals vs us)(q:Q vs H')
def SP(X:Cx)(pins:List (Addr×Obj))(D:Ends)(f:Flow)(s':Shared):Prop:=
 match f with
 | .next=>∃j H',Inv X pins j H' s'/\D.nx j H'
 | .brk=>∃j H',Inv X pins j H' s'/\D.bk j H'
 | .cont=>∃j H',Inv X pins j H' s'/\D.ct j H'
 | .ret u=>∃v j H',Inv X pins j H' s'/\RelV v u/\D.rt v H'
def PE(X:Cx)(e:Expr)(t:TE):Prop:=
 ∀(pins:List (Addr×Obj))(s:Shared)(Y:St)(H:Hp)(Q:VK),Inv X pins Y H s->t Y H Q->Xu (Xv X.prog X.w) X.A (eval e X.env) (EP X pins Y Q) X.xe s
def PT(X:Cx)(e:Expr)(t:TT):Prop:=
 ∀(pins:List (Addr×Obj))(s:Shared)(Y:St)(H:Hp)(Q:Bool->Hp->Prop),Inv X pins Y H s->t Y H Q->Xu (Xv X.prog X.w) X.A (YJ e X.env (eval e X.env)) (TP X pins Y Q) X.xe s
def PW(X:Cx)(e:Expr)(t:TT):Prop:=
 ∀(z:Sem Value)(pins:List (Addr×Obj))(s:Shared)(Y:St)(H:Hp)(Q:Bool->Hp->Prop),Inv X pins Y H s->t Y H Q->Xu (Xv X.prog X.w) X.A (YJ e X.env z) (TP X pins Y Q) X.xe s
variable{X:Cx}{e:Expr}
theorem PW.pt{t:TT}(h:PW X e t):PT X e t:=h _
def PA(X:Cx)(es:List Expr)(t:TA):Prop:=
 ∀(pos:Pos)(pins:List (Addr×Obj))(s:Shared)(Y:St)(H:Hp)(Q:List V->Hp->Prop),Inv X pins Y H s->t Y H Q->Xu (Xv X.prog X.w) X.A (spliced (Xw pos (Xo es X.env))) (AP X pins Y Q) X.xe s
def PS(X:Cx)(st:Stmt)(t:TS):Prop:=
 ∀(pins:List (Addr×Obj))(s:Shared)(Y:St)(H:Hp)(D:Ends),Inv X pins Y H s->t D Y H->Xu (Xv X.prog X.w) X.A (exec st X.env) (SP X pins D) X.xe s
def qZ(X:Cx)(st:List Stmt)(t:TS):Prop:=
 ∀(pins:List (Addr×Obj))(s:Shared)(Y:St)(H:Hp)(D:Ends),Inv X pins Y H s->t D Y H->Xu (Xv X.prog X.w) X.A (execs st X.env) (SP X pins D) X.xe s
variable{α:Type}{s:Shared}
theorem cC{t:Sem α}{Q H:α->Shared->Prop}{M:Model}{A:XA}(h:Xu M A t Q E s)(I:∀a s,Q a s->H a s):Xu M A t H E s:=XW h I λ_ _ x=>x
variable{pins:List (Addr×Obj)}{Y:St}{R:V->V->Hp->Prop}{pos:Pos}{Q:Value->Shared->Prop}{op:X6}{c:Expr}
section
variable{X:Cx}
theorem bin{a b:Expr}{ta tb:TE}(c:PE X a ta)(d:PE X b tb)(I:Inv X pins Y H s)(h:ta Y H λx V=>tb Y V λy U=>R x y U)
  {Q:α->Shared->Prop}{f:Value->Value->Sem α}
  (hf:∀v u s2 x y U,Inv X pins Y U s2->RelV x v->RelV y u->R x y U->Xu (Xv X.prog X.w) X.A (f v u) Q X.xe s2):
  Xu (Xv X.prog X.w) X.A (eval a X.env) (λv Z=>Xu (Xv X.prog X.w) X.A (eval b X.env) (λu T=>Xu (Xv X.prog X.w) X.A (f v u) Q X.xe T) X.xe Z) X.xe s:=by
 refine cC (c pins s Y H _ I h) λv s1 ⟨x,V,e,g,j⟩=>?_;refine cC (d pins s1 Y V _ e j) λu s2 ⟨y,U,k,l,n⟩=>?_;exact hf v u s2 x y U k g l n
noncomputable def lE(i:Nat):TE:=λY H Q=>∃v,Y[i]?=some (some v)/\Q v H
noncomputable def tC(v:V):TE:=λ_ H Q=>Q v H
theorem bH{x:Str}(hN:X.N[i]?=some x)(hv:jh X.env.scope x)(hd:fg x:=by decide)(hcd:km x:=by decide):PE X (.Name x pos) (lE i):=by
 intro pins s Y H Q I h;obtain⟨v,e,h⟩:=h;obtain⟨m,hn,hl⟩:=I.loc;obtain⟨u,r,l⟩:=hl i x v hN e hv;have fin:EP X pins Y Q u s:=⟨v,H,I,r,h⟩
 rcases l with ⟨hk,hm⟩|⟨hk,c,hc,hcell⟩
 .exact YR (wpAny_loadName_local I.ok.kind hk hn hm fin) hd
 .rcases hk with hk|hk
  .exact YR (wpAny_loadName_cell I.ok.kind hk hc hcell fin) hd
  .exact YR (wpAny_loadName_free I.ok.kind hk hc hcell fin hcd) hd
theorem Js{i j pos}:PE X (.Constant (.int i) j pos) (tC (.int i)):=λ_ _ _ H _ I h=>wpAny_Constant_int ⟨.int i,H,I.tok _,⟨_,rfl⟩,h⟩
theorem KQ{b j pos}:PE X (.Constant (.bool b) j pos) (tC (.bl b)):=λ_ _ _ H _ I h=>Constant_bool ⟨.bl b,H,I,rfl,h⟩
theorem Im{j pos}:PE X (.Constant .none j pos) (tC .non):=λ_ _ _ H _ I h=>Constant_none ⟨.non,H,I,rfl,h⟩
theorem HW{x j pos}:PE X (.Constant (.str x) j pos) (tC (.str x)):=λ_ _ _ H _ I h=>Calls.Constant_str ⟨.str x,H,I.tok _,⟨_,rfl⟩,h⟩
def Gl(X:Cx)(x:Str):Prop:=X.env.kindOf x=some .globalImplicit
theorem pd{x:Str}(I:Inv X pins Y H s)(hg:Gl X x)(hm:X.mg x=some u)(h:Q u s)
  (hd:fg x:=by decide):Xu (Xv X.prog X.w) X.A (eval (.Name x pos) X.env) Q E s:=
 UY I.ok.kind hg (Calls.loadGlobal_global (by rw[I.ok.glob];exact I.mod.glob.keeps I.bk) hm h) hd
theorem gz{x:Str}(I:Inv X pins Y H s)(hg:Gl X x)(hm:X.mg x=none)(hv:Xq x=some u)(h:Q u s)
  (hn:x ≠ "__name__" := by decide)(hd:fg x:=by decide):Xu (Xv X.prog X.w) X.A (eval (.Name x pos) X.env) Q E s:=by
 obtain⟨mb,h1,h2⟩:=I.mod.blt;exact UY I.ok.kind hg (Calls.loadGlobal_builtin (by rw[I.ok.glob];exact I.mod.glob.keeps I.bk) hm (by rw[I.ok.blt];exact h1.keeps I.bk) ((h2 x hn).trans hv) h) hd
theorem u3{x:Str}{v:V}(hg:Gl X x)(hm:X.mg x=some u)(r:RelV v u)(hd:fg x:=by decide):PE X (.Name x pos) (tC v):=
 λ_ _ _ H _ I h=>pd I hg hm ⟨v,H,I,r,h⟩ hd
theorem CJ{x:Str}{v:V}(hg:Gl X x)(hm:X.mg x=none)(hv:Xq x=some u)(r:RelV v u)(hn:x ≠ "__name__" := by decide)(hd:fg x:=by decide):PE X (.Name x pos) (tC v):=
 λ_ _ _ H _ I h=>gz I hg hm hv ⟨v,H,I,r,h⟩ hn hd
variable{a b:Expr}{ta tb:TE}{pos:Pos}
def PC(X:Cx)(op:X6)(a b:Expr)(t:TE):Prop:=
 ∀(pins:List (Addr×Obj))(s:Shared)(Y:St)(H:Hp)(Q:VK),Inv X pins Y H s->t Y H Q->
  Xu (Xv X.prog X.w) X.A (eval a X.env) (λv Z=>Xu (Xv X.prog X.w) X.A (eval b X.env) (λu T=>Xu (Xv X.prog X.w) X.A (XJ op v u) (EP X pins Y Q) X.xe T) X.xe Z) X.xe s
theorem ya(b:Expr)(h:op≠.In)(h2:op≠.NotIn):XE op b=false:=by
 have e1:(op==Xh)=false:=by cases op<;>first|rfl|exact absurd rfl h
 have e2:(op==Wy)=false:=by cases op<;>first|rfl|exact absurd rfl h2
 cases b<;>simp[XE,e1,e2]
noncomputable def tB(t:TE):TT:=λY H Q=>t Y H λx V=>∃c,x=.bl c/\Q c V
theorem O1{t:TE}(h:PC X op a b t)(h1:XE op b=false:=by first|exact ya _ Z2 Z2|rfl):PT X (.Compare a [op] [b] pos) (tB t):=by intro pins s Y H Q I hw;refine Yw (cC (h pins s Y H _ I hw) λv s1 h1=>cC h1 λu s2 h2=>cC h2 λc s3 ⟨x,H1,I1,r1,q1⟩=>?_) h1;obtain⟨d,rfl,q⟩:=q1;cases r1;exact XQ ⟨H1,I1,q⟩
theorem JD{t:TE}(h:PE X e t)(he:∀whole,YJ e X.env whole=(do let v <- whole;Yb e.pos;holding [v] (truthy v)):=by intro _;rfl):PT X e (tB t):=by intro pins s Y H Q I hw;refine isTrue_plain (cC (h pins s Y H _ I hw) λv s1 ⟨x,H1,I1,r1,q1⟩=>?_) (he _);obtain⟨d,rfl,q⟩:=q1;cases r1;exact XQ ⟨H1,I1,q⟩
variable{tA tB':TT}{rest:List Expr}
noncomputable def Om(t u:TT):TT:=λY H Q=>t Y H λc V=>if c=true then u Y V Q else Q false V
noncomputable def Qb(t u:TT):TT:=λY H Q=>t Y H λc V=>if c=true then Q true V else u Y V Q
noncomputable def N9(t:TT):TT:=λY H Q=>t Y H λc V=>Q (!c) V
theorem DO(f:PT X a tA):PW X (.BoolOp .And [a] pos) tA:=by
 intro Z pins s Y H Q I h;refine isTrue_and (cC (f pins s Y H Q I h) λc s1 e=>?_);cases c with
 |true=>exact isTrue_and_nil e
 |false=>exact e
theorem Ib(f:PT X a tA):PW X (.BoolOp .Or [a] pos) tA:=by
 intro Z pins s Y H Q I h;refine isTrue_or (cC (f pins s Y H Q I h) λc s1 e=>?_);cases c with
 |false=>exact isTrue_or_nil e
 |true=>exact e
theorem Hg(f:PT X a tA)(d:PW X (.BoolOp .And (b::rest) pos) tB'):PW X (.BoolOp .And (a::b::rest) pos) (Om tA tB'):=by
 intro Z pins s Y H Q I h;refine isTrue_and (cC (f pins s Y H _ I h) λc s1 ⟨V,e,j⟩=>?_);cases c with
 |true=>exact d Z pins s1 Y V Q e j
 |false=>exact⟨V,e,j⟩
theorem Lv(f:PT X a tA)(d:PW X (.BoolOp .Or (b::rest) pos) tB'):PW X (.BoolOp .Or (a::b::rest) pos) (Qb tA tB'):=by
 intro Z pins s Y H Q I h;refine isTrue_or (cC (f pins s Y H _ I h) λc s1 ⟨V,e,j⟩=>?_);cases c with
 |true=>exact⟨V,e,j⟩
 |false=>exact d Z pins s1 Y V Q e j
theorem HM(f:PT X a tA):PT X (.UnaryOp .Not a pos) (N9 tA):=by intro pins s Y H Q I h;exact isTrue_not (cC (f pins s Y H (λc V=>Q (!c) V) I h) λc s' ⟨H',i,q⟩=>⟨H',i,q⟩)
noncomputable def Mw(ta tb:TE):TE:=λY H Q=>ta Y H λx V=>∃c,x=.bl c/\if c=true then tb Y V Q else Q (.bl false) V
noncomputable def Lh(ta:TE):TE:=λY H Q=>ta Y H λx V=>∃c,x=.bl c/\Q (.bl (!c)) V
theorem HA{op}{t:TE}(h:PE X a t):PE X (.BoolOp op [a] pos) t:=λpins s Y H Q I b=>BoolOp_one (h pins s Y H Q I b)
theorem GP(f:PE X a ta)(d:PE X (.BoolOp .And (b::rest) pos) tb):PE X (.BoolOp .And (a::b::rest) pos) (Mw ta tb):=by
 intro pins s Y H Q I h;refine BoolOp_and (cC (f pins s Y H _ I h) λv s1 ⟨x,V,e,g,j⟩=>?_);obtain⟨c,rfl,j⟩:=j;cases g;refine XQ ?_;cases c with
 |true=>exact d pins s1 Y V Q e j
 |false=>exact⟨.bl false,V,e,rfl,j⟩
theorem G6(f:PE X a ta):PE X (.UnaryOp .Not a pos) (Lh ta):=by intro pins s Y H Q I h;refine UnaryOp_ (cC (f pins s Y H _ I h) λv s1 ⟨x,V,e,g,j⟩=>?_);obtain⟨c,rfl,j⟩:=j;cases g;exact not_of (XQ ⟨.bl (!c),V,e,rfl,j⟩)
noncomputable def Qd(t:TT)(ta tb:TE):TE:=λY H Q=>t Y H λc V=>if c=true then ta Y V Q else tb Y V Q
theorem Bv(hc:PT X c tA)(f:PE X a ta)(E:PE X b tb):PE X (.IfExp c a b pos) (Qd tA ta tb):=by
 intro pins s Y H Q I h;refine wpAny_IfExp (cC (hc pins s Y H _ I h) λd s1 ⟨V,e,j⟩=>?_);cases d with
 |true=>exact f pins s1 Y V Q e j
 |false=>exact E pins s1 Y V Q e j
end
def dM(K:Qr)(H:Hp)(a:Addr)(xs:List V):Prop:=
 Rd H a (.lst xs) \/
  ∃(o:Obj)(b:Array Value)(n:Nat),K.lookup a=some o/\o.cls=.type "list" /\ o.dict=none/\o.data=.seq b n/\b.size<=sizeLine/\Vals xs b.toList
def iL(K:Qr)(H:Hp)(a:Addr)(xs:List V):Prop:=
 Rd H a (.tup xs) \/
  ∃(o:Obj)(b:Array Value)(n:Nat),K.lookup a=some o/\(o.cls=.type "tuple" /\ o.dict=none)/\o.data=.seq b n/\b.size<=sizeLine/\Vals xs b.toList
noncomputable def N5:Value->Option V
 | .none=>some .non
 | .bool b=>some (.bl b)
 | .int i _=>some (.int i)
 | .str x _=>some (.str x)
 | .bytes b _=>some (.byt b)
 | .float b _=>some (.flt b)
 | .ref a=>some (.ref a)
 | .type n=>some (.ty n)
 |_=>none
theorem RelV.abs{x:V}(r:RelV x u):N5 u=some x:=by
 cases x with
 |non=>cases r;rfl
 |bl _=>cases r;rfl
 |int _=>obtain⟨t,rfl⟩:=r;rfl
 |str _=>obtain⟨t,rfl⟩:=r;rfl
 |byt _=>obtain⟨t,rfl⟩:=r;rfl
 |flt _=>obtain⟨t,rfl⟩:=r;rfl
 |ref _=>cases r;rfl
 |ty _=>cases r;rfl
theorem RelV.inj{x y:V}(r:RelV x u)(q:RelV y u):x=y:=QW (r.abs.symm.trans q.abs)
theorem Vals.inj:∀{xs ys:List V}{us:List Value},Vals xs us->Vals ys us->xs=ys
 |_,_,_,.nil,.nil=>rfl
 |_,_,_,.cons r t,.cons r' t'=>by simp only[r.inj r',Vals.inj t t']
variable{K:Qr}
section
variable{X:Cx}{pins:List (Addr×Obj)}{Y:St}{H:Hp}{s:Shared}{a:Addr}{xs ys:List V}
theorem dM.of(h:H a=some (.lst xs)):dM K H a xs:=.inl (.inl h)
theorem Inv.list(I:Inv X pins Y H s)(h:dM X.K H a xs):∃b:List Value,Vals xs b/\PlainL s.heap a b.toArray/\xs.length<=sizeLine:=by
 rcases h with h|⟨o,b,n,hk,hc,hd,hs,hz,r⟩
 .obtain⟨z,b,n,r,e⟩:=h.ok I.hok;exact⟨b,r,⟨_,n,e,rfl,rfl,rfl⟩,z⟩
 .refine⟨b.toList,r,⟨o,n,I.sO a o hk,hc,hd,by simpa using hs⟩,?_⟩;have e:=r.length;simp only[Tc] at e
  lia
theorem Inv.tuple(I:Inv X pins Y H s)(h:iL X.K H a xs):∃b:List Value,Vals xs b/\IsTup s.heap a b.toArray/\xs.length<=sizeLine:=by
 rcases h with h|⟨o,b,n,hk,hc,hs,hz,r⟩
 .obtain⟨z,b,r,p⟩:=h.ok I.hok;exact⟨b,r,p.t,z⟩
 .refine⟨b.toList,r,⟨o,I.sO a o hk,hc.1,n,by simpa using hs⟩,?_⟩;have e:=r.length;simp only[Tc] at e;lia
theorem Inv.gp(I:Inv X pins Y H s)(h:dM X.K H a xs)(h':dM X.K H a ys):xs=ys:=by
 obtain⟨b,r,⟨o,n,e,_,_,d⟩,_⟩:=I.list h;obtain⟨its',r',⟨o',p,k,_,_,d'⟩,_⟩:=I.list h';rw[e] at k;cases k;rw[d] at d';injection d' with d1 _;have:b=its':=by simpa using Y2 Vl d1
 subst this;exact r.inj r'
theorem Inv.om(I:Inv X pins Y H s)(h:iL X.K H a xs)(h':iL X.K H a ys):xs=ys:=by
 obtain⟨b,r,⟨o,e,_,n,d⟩,_⟩:=I.tuple h;obtain⟨its',r',⟨o',k,_,p,d'⟩,_⟩:=I.tuple h';rw[e] at k;cases k;rw[d] at d';injection d' with d1 _;have:b=its':=by simpa using Y2 Vl d1
 subst this;exact r.inj r'
end
variable{tc:TT}
section
variable{X:Cx}{st:Stmt}{rest:List Stmt}{t u:TS}{e:Expr}{te:TE}{pos:Pos}
noncomputable def MM:TS:=λD Y H=>D.nx Y H
noncomputable def A3(t u:TS):TS:=λD Y H=>t { D with nx:=u D } Y H
theorem Ck:qZ X [] MM:=λ_ _ Y H _ I h=>X1 ⟨Y,H,I,h⟩
theorem lC(h1:PS X st t)(h2:qZ X rest u):qZ X (st::rest) (A3 t u):=by
 intro pins s Y H D I h;refine wpAny_execs_cons (cC (h1 pins s Y H { D with nx:=u D } I h) λf s1 q=>?_);cases f with
 |next=>obtain⟨j,H',a,q⟩:=q;exact h2 pins s1 j H' D a q
 |ret v=>exact q
 |brk=>exact q
 |cont=>exact q
theorem Ef(h1:PS X st t):qZ X [st] t:=by
 intro pins s Y H D I h;refine wpAny_execs_cons (cC (h1 pins s Y H D I h) λf s1 q=>?_);cases f with
 |next=>exact X1 q
 |ret v=>exact q
 |brk=>exact q
 |cont=>exact q
theorem Inv.quiet(I:Inv X pins Y H s):interactive X.env=false:=by simp[interactive,I.ok.kind]
noncomputable def Nl(te:TE):TS:=λD Y H=>te Y H λ_ V=>D.nx Y V
theorem Dx(he:PE X e te)(hs:XH e none pos.line X.env=pure false:=by rfl):PS X (.Expr e pos) (Nl te):=by intro pins s Y H D I h;exact wpAny_Expr_any (cC (he pins s Y H _ I h) λv s1 ⟨x,H1,I1,r1,q1⟩=>⟨Y,H1,I1,q1⟩) I.quiet hs
noncomputable def Oj(te:TE):TS:=λD Y H=>te Y H D.rt
theorem Gw(he:PE X e te):PS X (.Return (some e) pos) (Oj te):=by intro pins s Y H D I h;exact wpAny_Return_some (cC (he pins s Y H _ I h) λv s1 ⟨x,V,o,g,j⟩=>⟨x,Y,V,o,g,j⟩)
noncomputable def Ly:TS:=λD _ H=>D.rt .non H
theorem DP:PS X (.Return none pos) Ly:=λ_ _ Y H _ I h=>wpAny_Return_none ⟨.non,Y,H,I,rfl,h⟩
noncomputable def OB(c:TT)(t u:TS):TS:=λD Y H=>c Y H λb V=>if b=true then t D Y V else u D Y V
theorem Np{a b:List Stmt}(hc:PT X c tc)(f:qZ X a t)(E:qZ X b u):PS X (.If c a b pos) (OB tc t u):=by
 intro pins s Y H D I h;refine wpAny_If (cC (hc pins s Y H _ I h) λd s1 ⟨V,e,j⟩=>?_);cases d with
 |true=>exact f pins s1 Y V D e j
 |false=>exact E pins s1 Y V D e j
end
abbrev TG:=V->St->Hp->(St->Hp->Prop)->Prop
abbrev FV:=List V->St->Hp->(St->Hp->Prop)->Prop
def PG(X:Cx)(q:Expr)(t:TG):Prop:=
 ∀(pins:List (Addr×Obj))(s:Shared)(Y:St)(H:Hp)(v:V)(u:Value)(Q:St->Hp->Prop),Inv X pins Y H s->RelV v u->t v Y H Q->
  Xu (Xv X.prog X.w) X.A (assign q X.env u) (λ_ s'=>∃j H',Inv X pins j H' s'/\Q j H') X.xe s
def Hn(X:Cx)(ts:List Expr)(t:FV):Prop:=
 ∀(pins:List (Addr×Obj))(s:Shared)(Y:St)(H:Hp)(vs:List V)(us:List Value)(Q:St->Hp->Prop),Inv X pins Y H s->Vals vs us->t vs Y H Q->
  Xu (Xv X.prog X.w) X.A (Yz ((XF ts X.env).map (·.2)) us) (λ_ s'=>∃j H',Inv X pins j H' s'/\Q j H') X.xe s
abbrev JL:=V->V->V->Hp->(Hp->Prop)->Prop
def KY(X:Cx)(t:JL):Prop:=
 ∀(pins:List (Addr×Obj))(s:Shared)(Y:St)(H:Hp)(o i v:V)(r x u:Value)(Q:Hp->Prop),Inv X pins Y H s->RelV o r->RelV i x->RelV v u->t o i v H Q->
  Xu (Xv X.prog X.w) X.A (setItem r x u) (λ_ s'=>∃H',Inv X pins Y H' s'/\Q H') X.xe s
variable{es:List Expr}{tg:Expr}{te:TE}
section
variable{X:Cx}{pos:Pos}
noncomputable def xW(i:Nat):TG:=λv Y H Q=>Q (Y.set i (some v)) H
theorem CP{x:Str}(hN:X.N.Nodup)(hi:X.N[i]?=some x)(hx:Loc X.env.scope x)(hf:X.fn x=true\/X.env.scope.names.lookup x=some .local:=by first|exact .inl rfl|exact .inr rfl|assumption):PG X (.Name x pos) (xW i):=by intro pins s Y H v u Q I r h;exact YD (i7 I hN hi hx r (λs' I'=>⟨_,H,I',h⟩) hf)
noncomputable def Oo:FV:=λvs Y H Q=>vs=[]/\Q Y H
noncomputable def FT(t:TG)(u:FV):FV:=λvs Y H Q=>∃v r,vs=v::r/\t v Y H λj H'=>u r j H' Q
theorem Dd:Hn X [] Oo:=by intro pins s Y H vs us Q I r h;obtain⟨e,h⟩:=h;subst e;cases r;exact YE ⟨Y,H,I,h⟩
theorem zf{t:TG}{u:FV}(h1:PG X e t)(h2:Hn X es u)
  (hs:(XF (e::es) X.env).map (·.2)=assign e X.env::(XF es X.env).map (·.2):=by rfl):Hn X (e::es) (FT t u):=by
 intro pins s Y H vs us Q I r h;obtain⟨v,vr,e1,h⟩:=h;subst e1;cases r with
 |cons r rr=>rw[hs];refine X7 (cC (h1 pins s Y H _ _ _ I r h) λ_ s1 ⟨σ1,H1,I1,q1⟩=>?_);exact h2 pins s1 σ1 H1 _ _ Q I1 rr q1
noncomputable def OQ(K:Qr)(n:Nat)(t:FV):TG:=λv Y H Q=>∃a xs,v=.ref a/\iL K H a xs/\xs.length=n/\t xs Y H Q
theorem Ip{k:Nat}{t:FV}{n:Nat}(hc:X.calm=true)(h:Hn X es t)
  (hn:(XF es X.env).length=n:=by rfl)(hst:(XF es X.env).findIdx? (·.1)=none:=by rfl):PG X (.Tuple es k pos) (OQ X.K n t):=by
 intro pins s Y H v u Q I r hw;obtain⟨a,xs,e1,hq,hl,hw⟩:=hw;subst e1;cases r;obtain⟨its,rv,ht,hz⟩:=I.tuple hq;refine assign_Tuple_tuple (I.ok.hd hc) ht (by simp[hn,<-hl,rv.length]) hst λh' hx=>?_;have I1:Inv X pins Y H { s with heap:=h' }:=I.kept (t':=s.toks) λb o e=>hx b o (Q8 (QM e)) e;exact h pins _ Y H xs _ Q I1 (by simpa using rv) hw
noncomputable def BG(X u:TE)(t:JL):TG:=λv Y H Q=>X Y H λo V=>u Y V λi U=>t o i v U λw=>Q Y w
theorem ow{o i:Expr}{to ti:TE}{t:JL}(ho:PE X o to)(hi:PE X i ti)(hs:KY X t)
  (ha:∀v,assign (.Subscript o i pos) X.env v=(do
   let ov <- holding [v] (eval o X.env)
   let iv <- holding [v,ov] (eval i X.env)
   Yb pos
   holding [v,ov,iv] (setItem ov iv v)
   release [v,ov,iv] []):=by intro _;rfl):PG X (.Subscript o i pos) (BG to ti t):=by
 intro pins s Y H v u Q I r h;rw[ha];refine Xp (Ye (cC (ho pins s Y H _ I h) λov s1 ⟨x,H1,I1,r1,q1⟩=>?_));refine Xp (Ye (cC (hi pins s1 Y H1 _ I1 q1) λiv s2 ⟨y,H2,I2,r2,q2⟩=>?_));refine Xp (Yg (Xp (Ye (cC (hs pins s2 Y H2 x y v ov iv u _ I2 r1 r2 r q2) λ_ s3 ⟨H3,I3,q3⟩=>?_))));exact wpAny_release ⟨Y,H3,I3,q3⟩
noncomputable def rl(te:TE)(g:TG):TS:=λD Y H=>te Y H λx V=>g x Y V D.nx
theorem lF{g:TG}(he:PE X e te)(hg:PG X tg g)(hs:XZ [tg] e pos.line X.env=pure false:=by rfl)(hw:XO [tg] e X.env=pure none:=by rfl)
  (h1:(XF [tg] X.env).map (·.2)=[assign tg X.env]:=by rfl):PS X (.Assign [tg] e pos) (rl te g):=by
 intro pins s Y H D I h;refine wpAny_Assign_stores (cC (he pins s Y H _ I h) λv s1 ⟨x,H1,I1,r1,q1⟩=>?_) hs hw;rw[h1];exact cC (hg pins s1 Y H1 x v _ I1 r1 q1) λ_ s2 q=>q
theorem Ic{x:Str}{pos':Pos}(hN:X.N.Nodup)(hi:X.N[i]?=some x)(hx:Loc X.env.scope x)(he:PE X e te)(hs:XH e (some (.Name x pos')) pos.line X.env=pure false:=by rfl)(hf:X.fn x=true\/X.env.scope.names.lookup x=some .local:=by first|exact .inl rfl|exact .inr rfl|assumption):
  PS X (.Assign [.Name x pos'] e pos) (rl te (xW i)):=by
 intro pins s Y H D I h;refine wpAny_Assign_Name (cC (he pins s Y H _ I h) λv s1 ⟨y,H1,I1,r1,q1⟩=>?_) hs;exact i7 I1 hN hi hx r1 (λs2 I2=>⟨_,H1,I2,q1⟩) hf
noncomputable def MB(i j:Nat)(ta:TA):TS:=λD Y H=>ta Y H λvs V=>∃v w,vs=[v,w]/\D.nx ((Y.set i (some v)).set j (some w)) V
theorem HV{x y:Str}{a b:Expr}{ta:TA}{px py pt:Pos}{kt k2 pt2}(hc:X.calm=true)(hN:X.N.Nodup)(hi:X.N[i]?=some x)(hj:X.N[j]?=some y)(hij:i≠j)
  (hx:X.env.scope.names.lookup x=some .local)(hy:X.env.scope.names.lookup y=some .local)(ha:PA X [a,b] ta)
  (hw:XO [.Tuple [.Name x px,.Name y py] kt pt] (.Tuple [a,b] k2 pt2) X.env=pure (some [x,y]))
  (hs:XZ [.Tuple [.Name x px,.Name y py] kt pt] (.Tuple [a,b] k2 pt2) pos.line X.env=pure false:=by rfl):
  PS X (.Assign [.Tuple [.Name x px,.Name y py] kt pt] (.Tuple [a,b] k2 pt2) pos) (MB i j ta):=by
 intro pins s Y H D I h;simp only[exec_Assign_arm];refine Xp (Yg ?_);rw[hs];refine Xp (Xs ?_);rw[YZ Z2];refine Xp (Tuple_ (cC (ha _ pins s Y H _ I h) λus s1 ⟨vs,H1,I1,r1,q1⟩=>?_));obtain⟨v,w,e1,q1⟩:=q1;subst e1;obtain⟨u1,u2,rfl,rv,rw'⟩:∃u1 u2,us=[u1,u2]/\RelV v u1/\RelV w u2:=by
  cases r1 with
  |cons p q=>
   cases q with
   |cons p' q'=>cases q';exact⟨_,_,rfl,p,p'⟩
 refine XN ?_ (by show 2<=sizeLine;decide);have I2:Inv X pins Y H1 { s1 with heap:=s1.heap.push { cls:=.type "tuple",data:=.seq [u1,u2].toArray } }:=I1.kept (t':=s1.toks) λb o e=>QG _ e;rw[hw];refine Xp (Xs ?_);show Xu (Xv X.prog X.w) X.A (do rule "assign.swapped-stores";let items <- unpackItems (.ref s1.heap.objs.size) 2 none;Yz [λv=>YS X.env y v,λv=>YS X.env x v] items.reverse;pure Xi) _ _ _;refine Xp (wpAny_rule (Xp (unpackItems_tuple (items:=#[u1,u2]) (I.ok.hd hc) (IsTup.new s1.heap _) λh' hx'=>?_)));have I3:=I2.kept (h':=h') (t':=s1.toks) λb o e=>hx' b o (Q8 (QM e)) e;show Xu _ _ (Yz [λv=>YS X.env y v,λv=>YS X.env x v] [u2,u1] >>= λ_=>pure Xi) _ _ _;refine Xp (X7 (wpAny_bindName (i7 I3 hN hj (.inl hy) rw' (λs2 I4=>?_) (.inr hy))));refine X7 (wpAny_bindName (i7 I4 hN hi (.inl hx) rv (fun s3 I5=>YE (Xs ?_)) (.inr hx)));rw [List.set_comm _ _ (Rz hij)] at I5;exact ⟨_,H1,I5,q1⟩
end
variable{body:List Stmt}{tb:TS}
section
variable {X:Cx} {pos:Pos}
def JR (c:TT) (tb:TS):TS:=fun D Y H=>∃ W:Nat → St → Hp → Prop,(∃ m,W m Y H) ∧ ∀ m Y H,W m Y H →
 c Y H fun b H1=>if b = true then ∃ N:St → Hp → Prop,(∀ j H',N j H' → ∃ Q,Q < m ∧ W Q j H') ∧ tb { D with nx:=N,ct:=N,bk:=D.nx } Y H1 else D.nx Y H1
theorem AL     (hp:Yj (Xv X.prog X.w) X.A X.env X.xe) (hc:PT X c tc) (d:qZ X body tb):PS X (.While c body [] pos) (JR tc tb):=by
 intro pins s Y H D I h;obtain ⟨W,⟨R,S⟩,turn⟩:=h;refine wpAny_While (codeAny_whileLoop (fun n s'=>∃ j H',Inv X pins j H' s' ∧ W n j H') ?_ R ⟨Y,H,I,S⟩);rintro n s1 ⟨t,L,e,T⟩;refine XM hp (cC (hc pins s1 t L _ e (turn n t L T)) λb s2 ⟨U,k,B⟩=>?_);cases b with
 |true=>
  obtain⟨N,hN,B⟩:=B;dsimp only [YY rfl];refine XM hp (cC (d pins s2 t U _ k B) λf a C=>?_);cases f with
  |next=>obtain⟨V,z,F,G⟩:=C;obtain⟨Q,hm,K⟩:=hN V z G;exact⟨Q,hm,V,z,F,K⟩
  |cont=>obtain⟨V,z,F,G⟩:=C;obtain⟨Q,hm,K⟩:=hN V z G;exact⟨Q,hm,V,z,F,K⟩
  |brk=>exact C
  |ret v=>exact C
 |false=>dsimp only [YZ Rk];exact X1 ⟨t,U,k,B⟩
end
structure It where
 go:Nat->Hp->Prop
 yld:Nat->Hp->V->Hp->Prop
 stop:Nat->Hp->Prop
def mP(X:Cx)(pins:List (Addr×Obj))(H:Hp)(b:Addr):Prop:=
 H b=none/\b≠X.env.locals/\b∉X.fs/\(b∈X.ex\/X.s₀.heap.objs.size<=b)/\(∀x c,X.env.cells.lookup x=some c->c≠b)/\∀p∈X.pn++pins,p.1≠b
theorem Inv.wt{H':Hp}{b:Addr}(I:Inv X pins Y H s)(d:s.heap.objs.size<=b)(hn:H' b=none):mP X pins H' b:=by
 refine⟨hn,T8 (QL I.lt d),I.KS d,.inr (Q4 I.sz d),λx c e z=>?_,λp hp z=>?_⟩
 .obtain⟨v,q⟩:=I.cell x c e;exact absurd (QL q.lt (by simp only[z];exact d)) (QU _)
 .exact absurd (QL (QM (I.pin p hp).1) (by simp only[z];exact d)) (QU _)
structure Turn(P:Program)(w:Xz)(K:Qr)(tg:Expr)(J:It)(fp:List Addr)(it:Addr)(tn:Nat->Heap->Prop):Prop where
 mem:it∈fp
 obj:∀i h,tn i h->∀b∈fp,∃o,h.get? b=some o/\∀v,o.data≠.cell v
 keep:∀i h h',tn i h->(∀b∈fp,∀o,h.get? b=some o->h'.get? b=some o)->tn i h'
 item:∀(X:Cx),X.prog=P->X.w=w->X.K=K->X.calm=true->∀(i:Nat)(pins:List (Addr×Obj))(s:Shared)(Y:St)(H:Hp)(E:Value->Shared->Prop),Inv X pins Y H s->(∀b∈fp,mP X pins H b)->tn i s.heap->J.go i H->
  Xu (Xv P w) X.A (pyNext (.ref it)) (λr s1=>∃u,r=some u /\
   Xu (Xv P w) X.A (X4 tg (.ref it) u) (λ_ s2=>∃x H',Inv X pins Y H' s2/\RelV x u/\J.yld i H x H'/\tn (i+1) s2.heap/\∀b∈fp,H' b=none) E s1) E s
 done:∀(X:Cx),X.prog=P->X.w=w->X.K=K->X.calm=true->∀(i:Nat)(pins:List (Addr×Obj))(s:Shared)(Y:St)(H:Hp)(E:Value->Shared->Prop),Inv X pins Y H s->(∀b∈fp,mP X pins H b)->tn i s.heap->J.stop i H->
  Xu (Xv P w) X.A (pyNext (.ref it)) (λr s1=>r=none/\Inv X pins Y H s1) E s
 self:∀(A:XA)(i:Nat)(s:Shared)(Q:Value->Shared->Prop)(E:Value->Shared->Prop),tn i s.heap->Q (.ref it) s->Xu (Xv P w) A (pyIter (.ref it)) Q E s
abbrev TI:=St->Hp->(It->Hp->Prop)->Prop
def NF(X:Cx)(pins:List (Addr×Obj))(Y:St)(tg:Expr)(R:It->Hp->Prop)(v:Value)(s2:Shared):Prop:=
 ∃(it:Addr)(fp:List Addr)(tn:Nat->Heap->Prop)(J:It)(H':Hp),v=.ref it/\Inv X pins Y H' s2/\Turn X.prog X.w X.K tg J fp it tn/\tn 0 s2.heap/\(∀b∈fp,mP X pins H' b)/\R J H'
def PI(X:Cx)(tg iter:Expr)(D:TI):Prop:=
 ∀(pins:List (Addr×Obj))(s:Shared)(Y:St)(H:Hp)(R:It->Hp->Prop),Inv X pins Y H s->D Y H R->
  Xu (Xv X.prog X.w) X.A (eval iter X.env) (λv s1=>Xu (Xv X.prog X.w) X.A (pyIter v) (NF X pins Y tg R) X.xe s1) X.xe s
theorem uT{M:Model}{A:XA}{n:String}{vs:Array Value}{Q:Unit->Shared->Prop}(ho:s.heap.get? it=some o)(hc:o.cls=.type n)(hd:o.data=.fields vs)
    (hn:["enumerate", "zip", "dict_itemiterator", "dict_reverseitemiterator", "odict_iterator", "itertools.zip_longest", "itertools.pairwise"].contains n=false)(I:Q () s):Xu M A (X4 tg (.ref it) u) Q E s:=by
  unfold X4;cases tg<;>first
    |exact Xs I
    | (cases u<;>first
        |exact Xs I
        | (refine Xp (wpAny_load ho ?_)
           rw[hc,hd]
           show Xu M A (if (["enumerate", "zip", "dict_itemiterator", "dict_reverseitemiterator", "odict_iterator", "itertools.zip_longest", "itertools.pairwise"].contains n&&vs[0]?==some (rawInt _))=true then _ else _) Q E s
           rw[YZ (by intro h;rw[hn,U2] at h;cases h)]
           exact Xs I))
noncomputable def PJ(K:Qr)(a:Addr):It:=
 ⟨λi H=>∃xs x,dM K H a xs/\xs[i]?=some x,λi H x H'=>H'=H/\∀xs,dM K H a xs->xs[i]?=some x,λi H=>∃xs,dM K H a xs/\xs.length<=i⟩
noncomputable def Px(K:Qr)(a:Addr):It:=
 ⟨λi H=>∃xs x,iL K H a xs/\xs[i]?=some x,λi H x H'=>H'=H/\∀xs,iL K H a xs->xs[i]?=some x,λi H=>∃xs,iL K H a xs/\xs.length<=i⟩
noncomputable def M9(lo:Int)(n:Nat):It:=⟨λi _=>i<n,λi H x H'=>H'=H/\x=.int (lo+i),λi _=>n<=i⟩
theorem wc{P:Program}(a it:Addr):Turn P w K tg (PJ K a) [it] it (λi h=>h.IsListIter it a i) where
 mem:=by simp
 obj:=λi h st b A=>by
  have e:b=it:=by simpa using A
  subst e;obtain⟨o,e,c,d⟩:=st;exact⟨o,e,λv z=>by rw[d] at z;cases z⟩
 keep:=λi h h' st k=>st.at λo e=>k it Z4 o e
 item:=by intro X m n q hc i pins s Y H E I hf st J;subst m n q;obtain⟨xs,x,l,hx⟩:=J;obtain⟨j,r,p,hz⟩:=I.list l;obtain⟨u,g,G⟩:=r.get hx;obtain⟨t,B,L,C,D,F⟩:=hf it Z4;refine wpAny_pyNext_list_item st p.isList (x:=u) (by simpa using g) λh' N sb=>?_;have O:Inv X pins Y H { s with heap:=h' }:=I.turned (t':=s.toks) (λb o A e=>(sb.2 b A).trans e) t B C D F;obtain⟨o,e,c,d⟩:=id N;exact⟨u,rfl,uT (s:={ s with heap:=h' }) e c d Z2 ⟨x,H,O,G,⟨rfl,λys hy=>by rw[I.gp hy l];exact hx⟩,N,λb A=>(hf b A).1⟩⟩
 done:=by intro X m n q hc i pins s Y H E I hf st J;subst m n q;obtain⟨xs,l,hx⟩:=J;obtain⟨j,r,p,hz⟩:=I.list l;obtain⟨t,B,L,C,D,F⟩:=hf it Z4;have hl:=r.length;exact wpAny_pyNext_list_end (I.ok.hd hc) st p.isList (by simp;lia) λh' R=>⟨rfl,I.turned (t':=s.toks) (λb o A e=>R b o A e) t B C D F⟩
 self:=λ_ _ _ _ _ st h=>wpAny_pyIter_listiter st h
theorem ue{P:Program}(a it:Addr):Turn P w K tg (Px K a) [it] it (λi h=>h.IsTupleIter it a i) where
 mem:=by simp
 obj:=λi h st b A=>by
  have e:b=it:=by simpa using A
  subst e;obtain⟨o,e,c,d⟩:=st;exact⟨o,e,λv z=>by rw[d] at z;cases z⟩
 keep:=λi h h' st k=>st.at λo e=>k it Z4 o e
 item:=by intro X m n q hc i pins s Y H E I hf st J;subst m n q;obtain⟨xs,x,l,hx⟩:=J;obtain⟨j,r,p,hz⟩:=I.tuple l;obtain⟨u,g,G⟩:=r.get hx;obtain⟨t,B,L,C,D,F⟩:=hf it Z4;refine wpAny_pyNext_tuple_item st (show s.heap.IsTuple a j.toArray from p) (x:=u) (by simpa using g) λh' N sb=>?_;have O:Inv X pins Y H { s with heap:=h' }:=I.turned (t':=s.toks) (λb o A e=>(sb.2 b A).trans e) t B C D F;obtain⟨o,e,c,d⟩:=id N;exact⟨u,rfl,uT (s:={ s with heap:=h' }) e c d Z2 ⟨x,H,O,G,⟨rfl,λys hy=>by rw[I.om hy l];exact hx⟩,N,λb A=>(hf b A).1⟩⟩
 done:=by intro X m n q hc i pins s Y H E I hf st J;subst m n q;obtain⟨xs,l,hx⟩:=J;obtain⟨j,r,p,hz⟩:=I.tuple l;obtain⟨t,B,L,C,D,F⟩:=hf it Z4;have hl:=r.length;exact wpAny_pyNext_tuple_end (I.ok.hd hc) st (show s.heap.IsTuple a j.toArray from p) (by simp;lia) λh' R=>⟨rfl,I.turned (t':=s.toks) (λb o A e=>R b o A e) t B C D F⟩
 self:=λ_ _ _ _ _ st h=>wpAny_pyIter_tupleiter st h
theorem tI{P:Program}(it:Addr)(lo:Int)(n:Nat):Turn P w K tg (M9 lo n) [it] it (λi h=>YK h it (lo+(i:Nat)*1) ((n:Int)-(i:Nat)) 1) where
 mem:=by simp
 obj:=λi h st b d=>by
  have e:b=it:=by simpa using d
  subst e;exact⟨_,st,λv z=>by have x:Data.fields _=Data.cell v:=z;cases x⟩
 keep:=λi h h' st k=>k it Z4 _ st
 item:=by intro X m c q hc i pins s Y H E I hf st J;subst m c q;obtain⟨u,B,L,C,D,F⟩:=hf it Z4;have W:=Wz (prog:=X.prog) (w:=X.w) (I.ok.hd hc) it lo 1 n;refine W.item i s _ _ J st λv h' tk A N S=>?_;obtain⟨t,rfl⟩:=A;have O:Inv X pins Y H { s with heap:=h',toks:=tk }:=I.turned (λb o d e=>S b o (by simpa using d) e) u B C D F;refine⟨_,rfl,uT (s:={ s with heap:=h',toks:=tk }) (n:= "range_iterator") N rfl rfl Z2 ⟨.int (lo+i),H,O,⟨t,?_⟩,⟨rfl,rfl⟩,N,λb d=>(hf b d).1⟩⟩;rw[SN]
 done:=by intro X m c q hc i pins s Y H E I hf st J;subst m c q;obtain⟨u,B,L,C,D,F⟩:=hf it Z4;exact Yn (I.ok.hd hc) st (by have:n<=i:=J;lia) λh' R=>⟨rfl,I.turned (t':=s.toks) (λb o d e=>R b o d e) u B C D F⟩
 self:=λ_ _ _ _ _ st h=>Yo st h
variable{p:Pos}{fp:List Addr}
section
variable{X:Cx}{tg:Expr}
theorem rO{R:It->Hp->Prop}{lo hi:Int}{t u v:Tok}{tk:Nat}(I:Inv X pins Y H s)(h1:-(2^62)<=lo)(h2:lo<2^62)(h3:-(2^62)<=hi)(h4:hi<2^62)
  (q:R (M9 lo (hi-lo).toNat) H):Xu (Xv X.prog X.w) X.A (pyIter (.ref s.heap.objs.size)) (NF X pins Y tg R) E { s with heap:=s.heap.push { cls:=.type "range",data:=.fields #[.int lo t,.int hi u,.int 1 v] },toks:=tk }:=by
 refine YB (Wh ..) (small_one h1 h2 h3 h4) ?_;have O:Inv X pins Y H { s with heap:=s.heap.push { cls:=.type "range",data:=.fields #[.int lo t,.int hi u,.int 1 v] },toks:=tk }:=I.kept λb o e=>QG _ e;refine⟨(s.heap.push { cls:=.type "range",data:=.fields #[.int lo t,.int hi u,.int 1 v] }).objs.size,[(s.heap.push { cls:=.type "range",data:=.fields #[.int lo t,.int hi u,.int 1 v] }).objs.size],_,_,H,rfl,
  O.kept (t':=tk) λb o e=>QG _ e,tI _ lo (hi-lo).toNat,?_,λb d=>?_,q⟩
 .have e1:lo+((0:Nat):Int)*1=lo:=by simp
  have e2:(((hi-lo).toNat:Nat):Int)-((0:Nat):Int)=R4 lo hi 1:=by rw[rangeSize_one];split<;>lia
  show YK _ _ (lo+((0:Nat):Int)*1) ((((hi-lo).toNat:Nat):Int)-((0:Nat):Int)) 1;rw[e1,e2];exact Q5 _ rfl
 .have e:b=(s.heap.push { cls:=.type "range",data:=.fields #[.int lo t,.int hi u,.int 1 v] }).objs.size:=by simpa using d
  subst e;exact O.wt (QB _) (O.hok.fresh (QB _))
def Nj(ta:TA):TI:=λY H R=>ta Y H λvs V=>∃j:Int,vs=[.int j] /\ -(2^62)<=j/\j<2^62/\R (M9 0 j.toNat) V
def LD(ta:TA):TI:=λY H R=>ta Y H λvs V=>∃i j:Int,vs=[.int i,.int j]/\(-(2^62)<=i/\i<2^62 /\ -(2^62)<=j/\j<2^62)/\R (M9 i (j-i).toNat) V
theorem xh{a:Expr}{ta:TA}(hg:Gl X "range")(hm:X.mg "range" = none)(ha:PA X [a] ta)(hs:Xo [a] X.env=[(false,eval a X.env)]:=by rfl):PI X tg (.Call (.Name "range" p) [a] [] pos) (Nj ta):=by
 intro pins s Y H R I h;refine Call_ (gz I hg hm Yp (RJ (cC (ha pos pins s Y H _ I h) λus s1 ⟨vs,H1,I1,r1,q1⟩=>?_) hs rfl));obtain⟨j,e,q1,q2,q⟩:=q1;subst e;cases r1 with
 |cons r rr=>cases rr;obtain⟨t,rfl⟩:=r;exact call_range_1 (rO I1 Z2 Z2 q1 q2 (by simpa using q))
theorem xl{a b:Expr}{ta:TA}(hg:Gl X "range")(hm:X.mg "range" = none)(ha:PA X [a,b] ta)(hs:Xo [a,b] X.env=[(false,eval a X.env),(false,eval b X.env)]:=by rfl)(hs2:Xo [b] X.env=[(false,eval b X.env)]:=by rfl):
  PI X tg (.Call (.Name "range" p) [a,b] [] pos) (LD ta):=by
 intro pins s Y H R I h;refine Call_ (gz I hg hm Yp (RJ (cC (ha pos pins s Y H _ I h) λus s1 ⟨vs,H1,I1,r1,q1⟩=>?_) (by simp only[hs,hs2]) (by rw[hs2];rfl)));obtain⟨i,j,e,⟨q1,q2,q3,q4⟩,q⟩:=q1;subst e;cases r1 with
 |cons r rr=>
  cases rr with
  |cons r' rr=>cases rr;obtain⟨t,rfl⟩:=r;obtain⟨t',rfl⟩:=r';exact call_range_2 (rO I1 q1 q2 q3 q4 q)
def OM(X:TI)(g:TG)(tb:TS):TS:=λD Y H=>X Y H λJ V=>∃W:Nat->Nat->St->Hp->Prop,(∃m,W 0 m Y V)/\∀i m Y H,W i m Y H->
 (J.stop i H/\D.nx Y H)\/(J.go i H/\∃N:St->Hp->Prop,(∀j H',N j H'->∃Q,Q<m/\W (i+1) Q j H')/\∀x H',J.yld i H x H'->g x Y H' λP U=>tb { D with nx:=N,ct:=N,bk:=D.nx } P U)
noncomputable def mj(fp:List Addr)(h:Heap):List (Addr×Obj):=fp.filterMap λb=>(h.get? b).map λo=>(b,o)
theorem f6{b:Addr}(d:b∈fp)(e:h.get? b=some o):(b,o)∈mj fp h:=Uw.mpr ⟨b,d,by rw[e];rfl⟩
theorem xC{p:Addr×Obj}(hp:p∈mj fp h):p.1∈fp/\h.get? p.1=some p.2:=by
 obtain⟨b,d,e⟩:=Uw.mp hp;cases q:h.get? b with
 |none=>rw[q] at e;cases e
 |some o=>rw[q] at e;have k:(b,o)=p:=QW e;subst k;exact⟨d,q⟩
theorem Inv.pinned(I:Inv X pins Y H s)(hf:∀b∈fp,mP X pins H b)(ho:∀b∈fp,∃o,s.heap.get? b=some o/\∀v,o.data≠.cell v):Inv X (pins++mj fp s.heap) Y H s:=
 I.pI λp hp=>(Qx.mp hp).elim (λz=>I.pin p (Qs _ z)) λz=>by obtain⟨E,e⟩:=xC z;obtain⟨t,B,L,_⟩:=hf p.1 E;obtain⟨o,k,d⟩:=ho p.1 E;rw[e] at k;cases k;exact⟨e,t,B,L,d⟩
theorem Inv.d5{pl:List (Addr×Obj)}(I:Inv X (pins++pl) Y H s):Inv X pins Y H s:=I.pI λp hp=>I.pin p (Qs _ (Qu _ hp))
theorem IV{iter:Expr}{wi:TI}{g:TG}(hp:Yj (Xv X.prog X.w) X.A X.env X.xe)(hc:X.calm=true)(hi:PI X tg iter wi)(hg:PG X tg g)(hb:qZ X body tb)
  (hs:∀x,XG iter X.env x=pure x:=by intro _;rfl):PS X (.For tg iter body [] pos) (OM wi g tb):=by
 intro pins s Y H D I h;refine wpAny_For (cC (hi pins s Y H _ I h) λv s1 h1=>cC h1 λitv s2 h2=>?_) hs;obtain⟨it,fp,tn,J,H2,e,I2,T,st2,f2,W,⟨m0,w0⟩,turn⟩:=h2;subst e;have stat:∀{H':Hp},(∀b∈fp,H' b=none)->∀b∈fp,mP X pins H' b:=λhn b hb=>⟨hn b hb,(f2 b hb).2⟩
 refine codeAny_forLoop_any (λn s'=>∃i j H',Inv X pins j H' s'/\tn i s'.heap/\(∀b∈fp,H' b=none)/\W i n j H') ?_ m0 ⟨0,Y,H2,I2,st2,λb hb=>(f2 b hb).1,w0⟩;rintro n s3 ⟨i,V,H3,I3,st3,fr3,w3⟩;rcases turn i n V H3 w3 with ⟨stop,qn⟩|⟨go,N,hN,step⟩
 .refine XM hp (cC (T.done X rfl rfl rfl hc i pins s3 V H3 X.xe I3 (stat fr3) st3 stop) λr s4 ⟨hr,I4⟩=>?_);subst hr;exact X1 ⟨V,H3,I4,qn⟩
 .refine XM hp (cC (T.item X rfl rfl rfl hc i pins s3 V H3 X.xe I3 (stat fr3) st3 go) λr s4 ⟨u,hr,h4⟩=>?_);subst hr;refine XM hp (cC h4 λ_ s5 ⟨x,H5,I5,r5,y5,st5,fr5⟩=>?_);have I5':=I5.pinned (stat fr5) (T.obj _ _ st5);refine XM hp (cC (hg _ s5 V H5 x u _ I5' r5 (step x H5 y5)) λ_ s6 ⟨σ6,H6,I6,q6⟩=>?_);refine XM hp (cC (hb _ s6 σ6 H6 _ I6 q6) λf s7 q7=>?_);have again:∀{Z:St}{H7:Hp},Inv X (pins++mj fp s5.heap) Z H7 s7->N Z H7->∃m,m<n/\∃i j H',Inv X pins j H' s7/\tn i s7.heap/\(∀b∈fp,H' b=none)/\W i m j H':=λ{Z H7} I7 n7=>by obtain⟨m',hm,w7⟩:=hN Z H7 n7;refine⟨m',hm,i+1,Z,H7,I7.d5,T.keep _ _ _ st5 λb hb o e=>(I7.pin (b,o) (Qs _ (Qs _ (f6 hb e)))).1,λb hb=>?_,w7⟩;obtain⟨o,e,d⟩:=T.obj _ _ st5 b hb;exact(I7.pin (b,o) (Qs _ (Qs _ (f6 hb e)))).2.1
  cases f with
  |next=>obtain⟨Z,H7,I7,n7⟩:=q7;exact again I7 n7
  |cont=>obtain⟨Z,H7,I7,n7⟩:=q7;exact again I7 n7
  |brk=>obtain⟨Z,H7,I7,q7⟩:=q7;exact⟨Z,H7,I7.d5,q7⟩
  |ret v=>obtain⟨x7,Z,H7,I7,r7,q7⟩:=q7;exact⟨x7,Z,H7,I7.d5,r7,q7⟩
end
abbrev R2:=V->V->Hp->VK->Prop
def iC(X:Cx)(f:Value->Value->Sem Value)(r:R2):Prop:=
 ∀(pins:List (Addr×Obj))(s:Shared)(Y:St)(H:Hp)(x y:V)(v u:Value)(Q:VK),Inv X pins Y H s->RelV x v->RelV y u->r x y H Q->
  Xu (Xv X.prog X.w) X.A (f v u) (EP X pins Y Q) X.xe s
def O2(X:Cx)(f:Value->Sem Value)(r:V->Hp->VK->Prop):Prop:=
 ∀(pins:List (Addr×Obj))(s:Shared)(Y:St)(H:Hp)(x:V)(v:Value)(Q:VK),Inv X pins Y H s->RelV x v->r x H Q->
  Xu (Xv X.prog X.w) X.A (f v) (EP X pins Y Q) X.xe s
def c6(X:Cx)(f:Value)(r:List V->Hp->VK->Prop):Prop:=
 ∀(pins:List (Addr×Obj))(s:Shared)(Y:St)(H:Hp)(xs:List V)(us:List Value)(Q:VK),Inv X pins Y H s->Vals xs us->r xs H Q->
  Xu (Xv X.prog X.w) X.A (call f us) (EP X pins Y Q) X.xe s
noncomputable def JJ(r:R2)(ta tb:TE):TE:=λY H Q=>ta Y H λx V=>tb Y V λy U=>r x y U Q
noncomputable def Qh(r:V->Hp->VK->Prop)(ta:TE):TE:=λY H Q=>ta Y H λx L=>r x L Q
noncomputable def rI(C:Int->Int->Prop)(g:Int->Int->V):R2:=λx y H Q=>∃i j,x=.int i/\y=.int j/\C i j/\Q (g i j) H
noncomputable def xN(g:Int->Int->V):R2:=λx y H Q=>∃i j,x=.int i/\y=.int j/\Q (g i j) H
def rU(g:Int->V):V->Hp->VK->Prop:=λx H Q=>∃i,x=.int i/\Q (g i) H
variable{r:R2}
section
variable{X:Cx}{a b c:Expr}{ta tb tc:TE}{pos:Pos}
theorem HU(c:PE X a ta)(d:PE X b tb)(I:Inv X pins Y H s)
  (h:ta Y H λx V=>tb Y V λy U=>R x y U){f:Value->Value->Sem Value}
  (hf:∀v u s2 x y U,Inv X pins Y U s2->RelV x v->RelV y u->R x y U->Xu (Xv X.prog X.w) X.A (f v u) Q X.xe s2):
  Xu (Xv X.prog X.w) X.A (eval a X.env) (λv Z=>Xu (Xv X.prog X.w) X.A (eval b X.env) (λu T=>Xu (Xv X.prog X.w) X.A (f v u) Q X.xe T) X.xe Z) X.xe s:=by
 refine cC (c pins s Y H _ I h) λv s1 ⟨x,V,e,g,j⟩=>?_;refine cC (d pins s1 Y V _ e j) λu s2 ⟨y,U,k,l,n⟩=>?_;exact hf v u s2 x y U k g l n
theorem Na{op:YT}(ho:iC X (XU op) r)(f:PE X a ta)(d:PE X b tb):PE X (.BinOp a op b pos) (JJ r ta tb):=by intro pins s Y H Q I h;exact wpAny_BinOp (HU f d I h λv u s2 x y U k o w q=>ho pins s2 Y U x y v u Q k o w q)
theorem Ni{op:UnaryOp}{r:V->Hp->VK->Prop}(ho:O2 X (unaryOp op) r)(f:PE X a ta):PE X (.UnaryOp op a pos) (Qh r ta):=by intro pins s Y H Q I h;exact UnaryOp_ (cC (f pins s Y H _ I h) λv s1 ⟨x,L,e,g,j⟩=>ho pins s1 Y L x v Q e g j)
theorem oK{f:Value->Value->Sem Value}{C:Int->Int->Prop}{g:Int->Int->Int}
  (rule:∀(i j:Int)(t u:Tok)(s:Shared)(Q:Value->Shared->Prop)(E:Value->Shared->Prop),C i j->Q (.int (g i j) s.toks) { s with toks:=s.toks+1 }->Xu (Xv X.prog X.w) X.A (f (.int i t) (.int j u)) Q E s):
  iC X f (rI C λi j=>.int (g i j)):=by
 intro pins s Y H x y v u Q I o z h;obtain⟨i,j,rfl,rfl,hc,q⟩:=h;obtain⟨t,rfl⟩:=o;obtain⟨t',rfl⟩:=z;exact rule i j t t' s _ _ hc ⟨.int (g i j),H,I.tok _,⟨_,rfl⟩,q⟩
theorem KW{f:Value->Value->Sem Value}{g:Int->Int->Int}
  (rule:∀(i j:Int)(t u:Tok)(s:Shared)(Q:Value->Shared->Prop)(E:Value->Shared->Prop),Q (.int (g i j) s.toks) { s with toks:=s.toks+1 }->Xu (Xv X.prog X.w) X.A (f (.int i t) (.int j u)) Q E s):
  iC X f (xN λi j=>.int (g i j)):=by
 intro pins s Y H x y v u Q I o z h;obtain⟨i,j,rfl,rfl,q⟩:=h;obtain⟨t,rfl⟩:=o;obtain⟨t',rfl⟩:=z;exact rule i j t t' s _ _ ⟨.int (g i j),H,I.tok _,⟨_,rfl⟩,q⟩
theorem HQ{f:Value->Value->Sem Value}{g:Int->Int->Bool}
  (rule:∀(i j:Int)(t u:Tok)(s:Shared)(Q:Value->Shared->Prop)(E:Value->Shared->Prop),Q (.bool (g i j)) s->Xu (Xv X.prog X.w) X.A (f (.int i t) (.int j u)) Q E s):
  iC X f (xN λi j=>.bl (g i j)):=by
 intro pins s Y H x y v u Q I o z h;obtain⟨i,j,rfl,rfl,q⟩:=h;obtain⟨t,rfl⟩:=o;obtain⟨t',rfl⟩:=z;exact rule i j t t' s _ _ ⟨.bl (g i j),H,I,rfl,q⟩
def Kn(i j:Int):Prop:=0<=j/\j<=1000000/\i.natAbs<2^64
theorem Hj:iC X (XU .Add) (xN λi j=>.int (i+j)):=KW λ_ _ _ _ _ _ _ q=>add_int q
theorem Ir:iC X (XU .Sub) (xN λi j=>.int (i-j)):=KW λ_ _ _ _ _ _ _ q=>sub_int q
theorem CK:iC X (XU .Mod) (rI (λ_ j=>j≠0) λi j=>.int (i.fmod j)):=oK λ_ _ _ _ _ _ _ hc q=>mod_int' hc q
theorem GV:iC X (XU .Pow) (rI Kn λi j=>.int (i^j.toNat)):=oK λ_ _ _ _ _ _ _ hc q=>pow_int_small hc.1 hc.2.1 hc.2.2 q
theorem P8{f:Value->Sem Value}{g:Int->Int}
  (rule:∀(i:Int)(t:Tok)(s:Shared)(Q:Value->Shared->Prop)(E:Value->Shared->Prop),Q (.int (g i) s.toks) { s with toks:=s.toks+1 }->Xu (Xv X.prog X.w) X.A (f (.int i t)) Q E s):
  O2 X f (rU λi=>.int (g i)):=by
 intro pins s Y H x v Q I o h;obtain⟨i,rfl,q⟩:=h;obtain⟨t,rfl⟩:=o;exact rule i t s _ _ ⟨.int (g i),H,I.tok _,⟨_,rfl⟩,q⟩
theorem Ik:O2 X (unaryOp .USub) (rU λi=>.int (-i)):=P8 λ_ _ _ _ _ q=>neg_int q
end
variable{us:List Value}
section
variable{X:Cx}{a b c:Expr}{ta tb tc:TE}{pos:Pos}
theorem xZ{Q:VK}{k v:Bool}(I:Inv X pins Y H s)(q:Q (.bl k) H)(e:k=v):EP X pins Y Q (.bool v) s:=by subst e;exact⟨.bl k,H,I,rfl,q⟩
theorem ir:iC X (XJ .Lt) (xN λi j=>.bl (decide (i<j))):=HQ λ_ _ _ _ _ _ _ q=>lt_int q
theorem ke:iC X (XJ .Gt) (xN λi j=>.bl (decide (j<i))):=HQ λ_ _ _ _ _ _ _ q=>gt_int q
theorem ER:iC X (XJ .GtE) (xN λi j=>.bl (decide (j<=i))):=HQ λ_ _ _ _ _ _ _ q=>ge_int q
theorem BK:iC X (XJ .Is) (λx y H Q=>y=.non/\Q (.bl (decide (x=.non))) H):=by
 intro pins s Y H x y v u Q I o z h;obtain⟨rfl,q⟩:=h;cases z;refine is_none_gen (xZ I q ?_);cases x<;>first
  |(cases o;rfl)
  |(obtain⟨t,rfl⟩:=o;rfl)
theorem vd:iC X (XJ .IsNot) (λx y H Q=>y=.non/\Q (.bl (!decide (x=.non))) H):=by
 intro pins s Y H x y v u Q I o z h;obtain⟨rfl,q⟩:=h;cases z;refine isnot_none_gen (xZ I q ?_);cases x<;>first
  |(cases o;rfl)
  |(obtain⟨t,rfl⟩:=o;rfl)
theorem dA(b:Expr)(h:op≠.In:=by decide)(h2:op≠.NotIn:=by decide):XE op b=false:=by
 have e1:(op==Xh)=false:=by cases op<;>first|rfl|exact absurd rfl h
 have e2:(op==Wy)=false:=by cases op<;>first|rfl|exact absurd rfl h2
 cases b<;>simp[XE,e1,e2]
theorem DC(ho:iC X (XJ op) r)(f:PE X a ta)(d:PE X b tb)(hm:XE op b=false):PE X (.Compare a [op] [b] pos) (JJ r ta tb):=by intro pins s Y H Q I h;exact wpAny_Compare1 (HU f d I h λv u s2 x y U k o z q=>ho pins s2 Y U x y v u Q k o z q) hm
noncomputable def Nh(t:TE):TT:=λY H Q=>t Y H λx H'=>∃k,x=.bl k/\Q k H'
theorem ui(ho:iC X (XJ op) r)(f:PE X a ta)(d:PE X b tb)(hm:XE op b=false):PT X (.Compare a [op] [b] pos) (Nh (JJ r ta tb)):=by
 intro pins s Y H Q I h;refine Yw (cC (f pins s Y H _ I h) λv s1 ⟨x,V,O,g,j⟩=>cC (d pins s1 Y V _ O j) λu s2 ⟨y,U,K,l,n⟩=>cC (ho pins s2 Y U x y v u _ K g l n) λc p ⟨z,w,F,T,k,e,C⟩=>?_) hm
 subst e;cases T;exact XQ ⟨w,F,C⟩
theorem jZ:(sizeLine:Nat)<2^63:=by rw[XI];decide
theorem vals1{x:V}(r:Vals [x] us):∃u,us=[u]/\RelV x u:=by
 cases r with
 |cons g l=>cases l;exact⟨_,rfl,g⟩
theorem vals2{x y:V}(r:Vals [x,y] us):∃u w',us=[u,w']/\RelV x u/\RelV y w':=by
 cases r with
 |cons g l=>
  cases l with
  |cons T Y=>cases Y;exact⟨_,_,rfl,g,T⟩
theorem Bn:c6 X (.builtin "abs") (λxs H Q=>∃i,xs=[.int i]/\Q (.int (if i<0 then -i else i)) H):=by intro pins s Y H xs us Q I r h;obtain⟨i,rfl,q⟩:=h;obtain⟨u,rfl,t,rfl⟩:=vals1 r;exact call_abs_int λu tk=>⟨.int (if i<0 then -i else i),H,I.tok _,⟨_,rfl⟩,q⟩
theorem wy(hc:X.calm=true):c6 X (.builtin "max") (λxs H Q=>∃i j,xs=[.int i,.int j]/\Q (.int (if j > i then j else i)) H):=by
 intro pins s Y H xs us Q I r h;obtain⟨i,j,rfl,q⟩:=h;obtain⟨u,w',rfl,⟨t,rfl⟩,⟨t',rfl⟩⟩:=vals2 r;refine max_two_ints (I.ok.hd hc) λh' tk k=>⟨_,H,I.kept k,?_,q⟩
 by_cases a:j > i
 .rw[YY a,YY a];exact⟨_,rfl⟩
 .rw[YZ a,YZ a];exact⟨_,rfl⟩
theorem xD(hc:X.calm=true):c6 X (.builtin "min") (λxs H Q=>∃i j,xs=[.int i,.int j]/\Q (.int (if j<i then j else i)) H):=by
 intro pins s Y H xs us Q I r h;obtain⟨i,j,rfl,q⟩:=h;obtain⟨u,w',rfl,⟨t,rfl⟩,⟨t',rfl⟩⟩:=vals2 r;refine min_two_ints (I.ok.hd hc) λh' tk k=>⟨_,H,I.kept k,?_,q⟩
 by_cases a:j<i
 .rw[YY a,YY a];exact⟨_,rfl⟩
 .rw[YZ a,YZ a];exact⟨_,rfl⟩
theorem wR:c6 X (.type "int") (λxs H Q=>(∃i,xs=[.int i]/\Q (.int i) H)\/∃k,xs=[.bl k]/\Q (.int (if k then 1 else 0)) H):=by
 intro pins s Y H xs us Q I r h;rcases h with ⟨i,rfl,q⟩|⟨k,rfl,q⟩
 .obtain⟨u,rfl,t,rfl⟩:=vals1 r;exact call_int_int ⟨.int i,H,I,⟨_,rfl⟩,q⟩
 .obtain⟨u,rfl,g⟩:=vals1 r;cases g;exact call_int_bool ⟨.int (if k then 1 else 0),H,I.tok _,⟨_,rfl⟩,q⟩
def Nk(K:Qr)(x:V)(H:Hp)(n:Nat):Prop:=
 match x with
 | .str y=>y.length<=sizeLine/\n=y.length
 | .byt y=>y.size<=sizeLine/\n=y.size
 | .ref p=>(∃xs,dM K H p xs/\n=xs.length)\/∃xs,iL K H p xs/\n=xs.length
 |_=>False
theorem yO:c6 X (.builtin "len") (λxs H Q=>∃x n,xs=[x]/\Nk X.K x H n/\Q (.int n) H):=by
 intro pins s Y H xs us Q I r h;obtain⟨x,n,rfl,e,q⟩:=h;obtain⟨u,rfl,o⟩:=vals1 r;have hl:=jZ;have hs:sizeLine=16777216:=XI;cases x with
 |str y=>obtain⟨t,rfl⟩:=o;obtain⟨hy,k⟩:y.length<=sizeLine/\n=y.length:=e;subst k;exact len_str Q1 ⟨.int _,H,I.tok _,⟨_,rfl⟩,q⟩
 |byt y=>obtain⟨t,rfl⟩:=o;obtain⟨hy,k⟩:y.size<=sizeLine/\n=y.size:=e;subst k;exact PySem.W.len_bytes Q1 ⟨.int _,H,I.tok _,⟨_,rfl⟩,q⟩
 |ref p=>
  cases o;have k:(∃xs,dM X.K H p xs/\n=xs.length)\/∃xs,iL X.K H p xs/\n=xs.length:=e;rcases k with ⟨xs,hx,k⟩|⟨xs,hx,k⟩
  .subst k;obtain⟨b,r',pl,hz⟩:=I.list hx;have v:=r'.length;exact Vy pl.isList (by simp only[Qy];lia) ⟨.int xs.length,H,I.tok _,⟨_,by simp only[Qy];rw[v]⟩,q⟩
  .subst k;obtain⟨b,r',pl,hz⟩:=I.tuple hx;have v:=r'.length;exact len_tuple pl (by simp only[Qy];lia) ⟨.int xs.length,H,I.tok _,⟨_,by simp only[Qy];rw[v]⟩,q⟩
 |_=>exact(show False from e).elim
end
structure sX(h:Heap)(x dx C:Addr)(mA:Str->Option Value):Prop where
 obj:h.get? x=some (R3 C dx)
 ns:h.Ns1 dx mA
 ne:dx≠x
variable{dx:Addr}{mA:Str->Option Value}
theorem wM(n:h.Ns1 dx mA):∃od,h.get? dx=some od/\∀name,T9 name od=some (mA name):=by
 obtain⟨o,es,i,ho,hd,hk,_,hm⟩:=n;refine⟨o,ho,λname=>?_⟩;have e:=hm name;unfold nsFind findBy at e;rw[<-Array.find?_toList] at e;unfold T9;rw[hd];dsimp only;split
 .rename_i y q;rw[q] at e;exact Y2 some e
 .rename_i q;rw[q] at e;have a:es.toList.any (·.refKey)=false:=by rw[Tx];intro y hy;obtain⟨z,t,H⟩:=hk y (Array.mem_toList_iff.mp hy);simp[DictEntry.refKey,H]
  have a':¬ es.toList.any (·.refKey)=true:=by rw[a];exact Rk
  rw[YZ a'];exact Y2 some e
variable{C:Addr}
theorem sX.look{x:Addr}(I:sX h x dx C mA):∃od,PySem.W.InstAt h x (R3 C dx) C (some od)/\∀name,T9 name od=some (mA name):=
 let ⟨od,ho,hl⟩:=wM I.ns
 ⟨od,⟨I.obj,rfl,rfl,ho⟩,hl⟩
variable{kw:List (Str×Value)}
section
variable{prog:Program}{w:Xz}{A:XA}{E:Value->Shared->Prop}{s:Shared}{K:Qr}{x dx C f:Addr}{mA:Str->Option Value}{name:Str}{v:Value}
theorem get_map{expr:Bool}(X:K.In s.heap)(I:sX s.heap x dx C mA)(H:SS K C name=true)(u:Ts K C=true)
  (f:RG K (.ref C) name=some none)(c:mA name=some v)(Y:VG v=true)(h:Q v { s with toks:=s.toks+1 }):
  Xu (Xv prog w) A (getAttr (.ref x) name expr) Q E s:=by
 obtain⟨od,J,hl⟩:=I.look;exact PySem.W.get_value X J (Ui H).1 (PySem.W.findObj_own u f rfl (by simp only[hl,c])) Y h
theorem yS{pl:Sem Bool}{Q:Value×List Value->Shared->Prop}(X:K.In s.heap)(I:sX s.heap x dx C mA)(H:SS K C name=true)
  (hf:RG K (.ref C) name=some (some (.ref f)))(l:Ur K (.ref f)=true)(c:mA name=none)(h:Q (.ref f,[.ref x]) s):
  Xu (Xv prog w) A (Yk (.ref x) name pl) Q E s:=by
 obtain⟨od,J,hl⟩:=I.look;exact PySem.W.method_fn X J (Ui H).1 (Ui H).2 hf (Y3.mp l) (by show (T9 name od).map (·.isSome)=some false;rw[hl,c];rfl) h
theorem B3{ns:List Str}{Q:Unit->Shared->Prop}(X:K.In s.heap)(I:sX s.heap x dx C mA)
  (hs:RG K (.ref C) "__setattr__" = some (some (.builtin "object.__setattr__")))(hp:Us K C=true)(l:UL K C name=some none)(G:Ts K C=true)
  (n:Vk mA ns)(hsz:ns.length<=sizeLine)
  (h:∀h',sX h' x dx C (λy=>if y=name then some v else mA y)->UG dx s.heap h'->Q () { s with heap:=h',toks:=s.toks+2 }):
  Xu (Xv prog w) A (setAttr (.ref x) name v) Q E s:=by
 obtain⟨od,J,hl⟩:=I.look;refine PySem.W.set_plain X J hs (PySem.W.osa_open (s:={ s with toks:=s.toks+1 }) (r:=none) X J hp l λb=>?_);obtain⟨cd,hc,q⟩:=PySem.W.any_some G;have hx:s.heap.get? x=some ⟨.ref C,some dx,.plain,#[]⟩:=I.obj;refine Xp (Xs (Xp (Xp (wpAny_loadPart hx (Xp (WI (s:={ s with toks:=s.toks+1 }) (PySem.W.looks_clsIn X hc) ?_))))));rw[q];refine Xs (a:=some dx) (Xp (Xs (Xp ?_)));refine wpAny_nsSet1 (s:={ s with toks:=s.toks+1 }) I.ns λh' Y P=>?_;obtain⟨T,H,N,S,p,u⟩:=Y.count (WU name v n);refine Xp (wpAny_lookBehind S (by rw[p];exact pastItsLine_dict (Q4 u (by simp only[QF];exact Pq))) ?_);exact Xs (h _ ⟨(P.2 _ (Rz I.ne)).trans I.obj,Y,I.ne⟩ P)
theorem Bf{R:Result->Shared->Prop}{vs:List Value}(X:K.In s.heap)(hm:UM K C=true)
  (hi:RG K (.ref C) "__init__" = some (some (.ref f)))(hf:PySem.W.typeIn K (.ref f)=some (.type "function"))
  (h:Yc (Xv prog w) (A.under (.builtin "type.__call__" ⟨.ref C::vs,kw⟩)) (.call (.ref f) ⟨.ref (s.heap.objs.size+1)::vs,kw⟩) (PySem.W.InitBack (s.heap.objs.size+1) R)
   { s with heap:=(s.heap.push RN).push (R3 C s.heap.objs.size) }):
  Yc (Xv prog w) A (.call (.ref C) ⟨vs,kw⟩) R s:=by
 obtain⟨u,g,d,t,os⟩:=s;exact PySem.W.make_core (PySem.W.makes_of X hm) (PySem.W.looks_findIn X hi) (λself=>PySem.W.bind_fn X self hf) (.inl rfl) h
end
noncomputable def dY(f:Str)(v:V):List (Str×V)->List (Str×V)
 |[]=>[(f,v)]
 |(g,x)::r=>if g=f then (g,v)::r else (g,x)::dY f v r
theorem d0(f g:Str)(v:V):∀fs:List (Str×V),(dY f v fs).lookup g=if g=f then some v else fs.lookup g
 |[]=>by
  show S5 g [(f,v)]=_;by_cases h:g=f
  .have d:(g==f)=true:=Y3.mpr h;simp only[S5,d,YY h]
  .have d:(g==f)=false:=beq_eq_false_iff_ne.mpr h;simp only[S5,d,YZ h]
 |(k,x)::r=>by
  have m:=d0 f g v r;rw[show dY f v ((k,x)::r)=(if k=f then (k,v)::r else (k,x)::dY f v r) from rfl];by_cases hk:k=f
  .rw[YY hk];by_cases h:g=k
   .have d:(g==k)=true:=Y3.mpr h;simp only[S5,d,YY (h.trans hk)]
   .have d:(g==k)=false:=beq_eq_false_iff_ne.mpr h;simp only[S5,d,YZ (λe:g=f=>h (e.trans hk.symm))]
  .rw[YZ hk];by_cases h:g=k
   .have d:(g==k)=true:=Y3.mpr h;simp only[S5,d,YZ (λe:g=f=>hk (h.symm.trans e))]
   .have d:(g==k)=false:=beq_eq_false_iff_ne.mpr h;simp only[S5,d];exact m
theorem jR(f:Str)(v:V):∀fs:List (Str×V),f∈(dY f v fs).map (·.1)/\∀g,g∈fs.map (·.1)->g∈(dY f v fs).map (·.1)
 |[]=>⟨by simp[dY],λg h=>by simp at h⟩
 |(k,x)::r=>by
  obtain⟨s,I⟩:=jR f v r;rw[show dY f v ((k,x)::r)=(if k=f then (k,v)::r else (k,x)::dY f v r) from rfl];by_cases hk:k=f
  .rw[YY hk];subst hk;exact⟨by simp,λg h=>by simpa using h⟩
  .rw[YZ hk];refine⟨?_,λg h=>?_⟩
   .rw[Rf];exact Qz _ s
   .rw[Rf] at h ⊢;rcases QC.mp h with e|e
    .exact QC.mpr (.inl e)
    .exact Qz _ (I g e)
theorem fv(f:Str)(v:V):∀fs:List (Str×V),(dY f v fs).length<=fs.length+1
 |[]=>by exact Qi
 |(k,x)::r=>by
  have m:=fv f v r;rw[show dY f v ((k,x)::r)=(if k=f then (k,v)::r else (k,x)::dY f v r) from rfl];by_cases hk:k=f
  .rw[YY hk,QF,QF];exact RZ _ _
  .rw[YZ hk,QF,QF];exact Rj ‹_›
theorem mN.some_of{v:V}{o:Option Value}(r:mN (some v) o):∃u,o=some u/\RelV v u:=by
 cases o with
 |none=>exact(show False from r).elim
 |some u=>exact⟨u,rfl,r⟩
theorem mN.none_of{o:Option Value}(r:mN none o):o=none:=by
 cases o with
 |none=>rfl
 |some u=>exact(show False from r).elim
theorem wV{v:V}(r:RelV v u):VG u=true:=by
 cases v with
 |non=>cases (show u=VE from r);rfl
 |bl b=>cases (show u=VF b from r);rfl
 |int i=>obtain⟨t,e⟩:=(show ∃t,u=TK i t from r);cases e;rfl
 |str x=>obtain⟨t,e⟩:=(show ∃t,u=VT x t from r);cases e;rfl
 |byt b=>obtain⟨t,e⟩:=(show ∃t,u=Ww b t from r);cases e;rfl
 |flt b=>obtain⟨t,e⟩:=(show ∃t,u=Wx b t from r);cases e;rfl
 |ref a=>cases (show u=Se a from r);rfl
 |ty n=>cases (show u=WH n from r);rfl
section
variable{P:Program}{w:Xz}{H H':Hp}{h h':Heap}{a C dx:Addr}{fs Z1:List (Str×V)}
theorem oy(hok:kv P w H h)(e:H a=some (.ins C dx fs)):∃mA,sX h a dx C mA/\(∀f,mN (fs.lookup f) (mA f))/\Vk mA (fs.map (·.1))/\fs.length<=1000/\H dx=some (.own a):=by
 obtain⟨d,z,ne,ob,mA,n,r,q⟩:=(show dH P w H h a (.ins C dx fs) from hok a _ e)
 exact⟨mA,⟨ob,n,ne⟩,r,q,z,d⟩
end
structure gy(K:Qr)(C:Addr):Prop where
 pg:SS K C Str.empty=true
 hd:Ts K C=true
 po:Us K C=true
 sa:RG K (.ref C) "__setattr__" = some (some (.builtin "object.__setattr__"))
theorem gy.get(c:gy K C)(f:Str):SS K C f=true:=c.pg
def bU(K:Qr)(C:Addr)(f:Str):Prop:=RG K (.ref C) f=some none
theorem bU.MX{f:Str}(n:bU K C f):UL K C f=some none:=by unfold UL;rw[show RG K (.ref C) f=some none from n];rfl
structure Meth(K:Qr)(C:Addr)(m:Str)(f:Addr):Prop where
 at_:RG K (.ref C) m=some (some (.ref f))
 fn:Ur K (.ref f)=true
 kp:RX K (.ref f)=true
section
variable{X:Cx}{pins:List (Addr×Obj)}{Y:St}{H:Hp}{s:Shared}{a C dx:Addr}{fs:List (Str×V)}{f:Str}{v:V}{A:XA}{E:Value->Shared->Prop}
theorem sP{b:Bool}(I:Inv X pins Y H s)(e:H a=some (.ins C dx fs))(c:gy X.K C)(n:bU X.K C f)(l:fs.lookup f=some v)
  (h:∀u s',Inv X pins Y H s'->RelV v u->Q u s'):Xu (Xv X.prog X.w) A (getAttr (.ref a) f b) Q E s:=by
 obtain⟨mA,O,r,_,_,_⟩:=oy I.hok e;obtain⟨u,g,G⟩:=mN.some_of (v:=v) (o:=mA f) (by rw[<-l];exact r f);exact get_map I.sO O (c.get f) c.hd n g (wV G) (h u _ (I.tok _) G)
theorem iR{m:Str}{g:Addr}{pl:Sem Bool}{Q:Value×List Value->Shared->Prop}(I:Inv X pins Y H s)(e:H a=some (.ins C dx fs))(c:gy X.K C)(k:Meth X.K C m g)(l:fs.lookup m=none)
  (h:Q (.ref g,[.ref a]) s):Xu (Xv X.prog X.w) A (Yk (.ref a) m pl) Q E s:=by
 obtain⟨mA,O,r,_,_,_⟩:=oy I.hok e;have hn:mA m=none:=mN.none_of (by rw[<-l];exact r m);exact yS I.sO O (c.get m) k.at_ k.fn hn h
theorem sS{y:V}{Q:Unit->Shared->Prop}(I:Inv X pins Y H s)(e:H a=some (.ins C dx fs))(c:gy X.K C)(n:bU X.K C f)(hl:fs.length<1000)(P:RelV y u)
  (h:∀s',Inv X pins Y (upd H a (.ins C dx (dY f y fs))) s'->Q () s'):Xu (Xv X.prog X.w) A (setAttr (.ref a) f u) Q E s:=by
 obtain⟨mA,O,r,D,_,ho⟩:=oy I.hok e;have hz:(fs.map (·.1)).length<=sizeLine:=by simp only[Qt,XI];exact vZ
 refine B3 I.sO O c.sa c.po n.MX c.hd D hz λh' v sb=>h _ ?_;have hd:∃o,h'.get? dx=some o:=let ⟨o,_,_,e',_⟩:=v.ns;⟨o,e'⟩
 refine I.write (x:=a) (e:=dx) (by rw[e];exact VP) (.inr ho) (λb q d z=>(sb.2 b d).trans z) hd ?_;refine⟨by rw[aj O.ne];exact ho,?_,O.ne,v.obj,_,v.ns,λg=>?_,λg J=>?_⟩
 .have:=fv f y fs;exact Q4 ‹_› ‹_›
 .show mN ((dY f y fs).lookup g) (if g=f then some u else mA g);rw[d0];by_cases q:g=f
  .rw[YY q,YY q];exact P
  .rw[YZ q,YZ q];exact r g
 .by_cases q:g=f
  .simp only[q];exact(jR f y fs).1
  .refine(jR f y fs).2 g (D g λz=>J ?_);show (if g=f then some u else mA g)=none;rw[YZ q];exact z
theorem Inv.made(I:Inv X pins Y H s):Inv X pins Y (upd (upd H s.heap.objs.size (.own (s.heap.objs.size+1))) (s.heap.objs.size+1) (.ins C s.heap.objs.size []))
  { s with heap:=(s.heap.push RN).push (R3 C s.heap.objs.size) }:=by
 have e1:(s.heap.push RN).get? s.heap.objs.size=some RN:=Q5 s.heap rfl;have e2:((s.heap.push RN).push (R3 C s.heap.objs.size)).get? (s.heap.objs.size+1)=some (R3 C s.heap.objs.size):=by have:=Q5 (s.heap.push RN) (o:=R3 C s.heap.objs.size) rfl;rwa[Sr] at this
 have N:(s.heap.push RN).Ns s.heap.objs.size (λ_=>none):=⟨RN,#[],_,e1,rfl,(λe he=>absurd he Z4),λ_=>rfl⟩
 have O:=I.laid (a:=s.heap.objs.size) (o:=.own (s.heap.objs.size+1)) (h':=s.heap.push RN) (t':=s.toks) (λb u q=>QG _ q) (QB _) ⟨_,e1⟩;refine O.laid (a:=s.heap.objs.size+1) (o:=.ins C s.heap.objs.size []) (t':=s.toks) (λb u q=>QG _ q) (Ua (Sr _ _)) ?_;have ne:s.heap.objs.size≠s.heap.objs.size+1:=Q8 (Rc _);refine⟨by rw[aj ne,aM],RP _,ne,e2,λ_=>none,(Heap.Ns1.of_empty N).at λo q=>QG _ q,λ_=>VP,λy hy=>absurd rfl hy⟩
theorem DK{prog:Program}{env:Env}{f:Str}(d:Xr e f env (eval e env)=eval e env)
  (h:Xu (Xv prog w) A (eval e env) (λo Z=>Xu (Xv prog w) A (getAttr o f true) Q E Z) E s):Xu (Xv prog w) A (eval (.Attribute e f pos) env) Q E s:=
 Attribute_any_ h (by rw[arm_eval_Attribute,d])
end
def DM(K:Qr)(ta:TE)(f:Str):TE:=λY H Q=>ta Y H λx V=>∃a C dx fs v,x=.ref a/\V a=some (.ins C dx fs)/\gy K C/\bU K C f/\fs.lookup f=some v/\Q v V
section
variable{X:Cx}{o e value:Expr}{f:Str}{pos pos' tpos:Pos}{ta tv:TE}
theorem eZ(he:PE X e ta)(d:Xr e f X.env (eval e X.env)=eval e X.env):PE X (.Attribute e f pos) (DM X.K ta f):=by intro pins s Y H Q I h;refine DK d (cC (he pins s Y H _ I h) λu s1 ⟨x,V,O,o,a,C,dx,fs,v,ex,y,c,n,l,q⟩=>?_);subst ex;obtain rfl:u=Se a:=o;exact sP O y c n l λr s2 k G=>⟨v,V,k,G,q⟩
theorem FR{pl:Sem Bool}{m:Str}{apos:Pos}{args:List Expr}(he:PE X e te)(I:Inv X pins Y H s)
  (h:te Y H λx V=>∃a C dx fs g,x=.ref a/\V a=some (.ins C dx fs)/\gy X.K C/\Meth X.K C m g/\fs.lookup m=none /\
   ∀s1,Inv X pins Y V s1->Xu (Xv X.prog X.w) X.A (YF pos (.ref g) [.ref a] (Xw pos (Xo args X.env)) (XD pos (Xy [] X.env))) Q X.xe s1)
  (y:eval (.Call (.Attribute e m apos) args [] pos) X.env=(do
   let ov <- eval e X.env
   Yb apos.atName
   let (f,first) <- holding [ov] (Yk ov m pl)
   YF pos f first (Xw pos (Xo args X.env)) (XD pos (Xy [] X.env)))):
  Xu (Xv X.prog X.w) X.A (eval (.Call (.Attribute e m apos) args [] pos) X.env) Q X.xe s:=by
 refine TR (pl:=pl) (cC (he pins s Y H _ I h) λu s1 ⟨x,V,O,o,a,C,dx,fs,g,ex,E,c,k,l,q⟩=>?_) y;subst ex;obtain rfl:u=Se a:=o;exact iR O E c k l (q s1 O)
end
section
variable{X:Cx}{pins:List (Addr×Obj)}{Y:St}{H:Hp}{s:Shared}{A:XA}{E:Value->Shared->Prop}{Q:Value->Shared->Prop}{c:Value}{b:Bool}
inductive AZ(K:Qr)(H:Hp):V->Value->Prop where
 |non:AZ K H .non (.type "NoneType")
 |bl(x:Bool):AZ K H (.bl x) (.type "bool")
 |int(i:Int):AZ K H (.int i) (.type "int")
 |str(x:Str):AZ K H (.str x) (.type "str")
end
structure cZ(k:Nat)(A:XA):Prop where
 hd:A.handled=none
 dp:A.depth+3*k+5<recursionLimit
 un:A.units+16*k+200<cLine
theorem cZ.mono{k:Nat}{A:XA}(r:cZ k A)(h:j<=k):cZ j A:=⟨r.hd,by have:=r.dp;lia,by have:=r.un;lia⟩
theorem cZ.deeper{k:Nat}{A:XA}(r:cZ (k+1) A)(env:Env):cZ k (A.deeper env):=
 ⟨r.hd,by have:=r.dp;show A.depth+1+3*k+5<_;lia,by have:=r.un;show A.units+3+16*k+200<_;lia⟩
theorem t9{A:XA}:(A.under (.builtin "type.__call__" ⟨.ref C::us,kw⟩)).depth=A.depth+1:=by first|rfl|simp[Vc,Code.weight,Code.isCreation,Code.isGuard,Code.isCaller,WJ,Vo,guardIds]
theorem sH{A:XA}:(A.under (.builtin "type.__call__" ⟨.ref C::us,kw⟩)).units=A.units+1:=by first|rfl|simp[Vc,Code.cUnits,WJ,Vo]
theorem cZ.make{k:Nat}{A:XA}(r:cZ (k+1) A)(C:Addr)(us:List Value)(kw:List (Str×Value)):cZ k (A.under (.builtin "type.__call__" ⟨.ref C::us,kw⟩)):=
 ⟨r.hd,by have:=r.dp;rw[t9];lia,by have:=r.un;rw[sH];lia⟩
theorem cZ.depth{k:Nat}{A:XA}(r:cZ k A):A.depth<recursionLimit:=by have:=r.dp;lia
theorem cZ.units{k:Nat}{A:XA}(r:cZ k A):A.units+64<cLine:=by have:=r.un;lia
noncomputable def MF:TA:=λ_ H Q=>Q [] H
noncomputable def Ml(ta:TE)(tr:TA):TA:=λY H Q=>ta Y H λx V=>tr Y V λxs U=>Q (x::xs) U
section
variable{X:Cx}{e:Expr}{es:List Expr}{te:TE}{t:TA}{pos:Pos}
theorem bY:PA X [] MF:=λ_ _ _ _ H Q I h=>Calls.spliced_nil ⟨[],H,I,.nil,h⟩
theorem aU(ha:PE X e te)(hr:PA X es t)(hs:Xo (e::es) X.env=(false,eval e X.env)::Xo es X.env:=by rfl):PA X (e::es) (Ml te t):=by intro pos pins s Y H Q I h;rw[hs];show Xu _ _ (spliced ((false,eval e X.env)::Xw pos (Xo es X.env))) _ _ s;refine Calls.spliced_cons (cC (ha pins s Y H _ I h) λu s1 ⟨x,H1,I1,r1,q1⟩=>?_);exact cC (hr pos pins s1 Y H1 _ I1 q1) λus s2 ⟨xs,H2,I2,r2,q2⟩=>⟨x::xs,H2,I2,.cons r1 r2,q2⟩
def NT(t:TA):TE:=λY H Q=>t Y H λxs V=>xs.length<=sizeLine/\∀p,V p=none->Q (.ref p) (upd V p (.tup xs))
def NM(t:TA):TE:=λY H Q=>t Y H λxs V=>xs.length<=sizeLine/\∀p,V p=none->Q (.ref p) (upd V p (.lst xs))
theorem IA{x1}(h:PA X es t):PE X (.Tuple es x1 pos) (NT t):=by intro pins s Y H Q I l;refine wpAny_Tuple_spliced (cC (h pos pins s Y H _ I l) λus s1 ⟨xs,V,O,r,z,q⟩=>⟨by rw[<-r.length];exact z,?_⟩);have hf:V s1.heap.objs.size=none:=O.hok.fresh (QB _);refine⟨.ref s1.heap.objs.size,upd V s1.heap.objs.size (.tup xs),O.laid (t':=s1.toks) (λb u e=>QG _ e) (QB _) ?_,rfl,q _ hf⟩;exact⟨z,us,r,⟨_,Q5 _ rfl,rfl,_,rfl,rfl⟩⟩
theorem G8(h:PA X es t):PE X (.List es pos) (NM t):=by intro pins s Y H Q I l;refine wpAny_List_spliced (cC (h pos pins s Y H _ I l) λus s1 ⟨xs,V,O,r,z,q⟩=>⟨by rw[<-r.length];exact z,?_⟩);have hf:V s1.heap.objs.size=none:=O.hok.fresh (QB _);refine⟨.ref s1.heap.objs.size,upd V s1.heap.objs.size (.lst xs),O.laid (t':=s1.toks) (λb u e=>QG _ e) (QB _) ?_,rfl,q _ hf⟩;exact⟨z,us,0,r,Q5 _ rfl⟩
end
abbrev Sp:=List V->Hp->VK->XK->Prop
abbrev qk:=List Env->Hp->Shared->XK->Value->Shared->Prop
structure tW(P:Program)(w:Xz)(K:Qr)(mg:Str->Option Value)(base:Heap)(A:XA)(outer:List Env)(s:Shared)(H:Hp):Prop where
 frames:A.frames=some outer
 mod:Mod K mg base
 bs:∀b o,base.get? b=some o->s.heap.get? b=some o/\H b=none
 bsz:base.objs.size<=s.heap.objs.size
 mL:s.heap.FunFrames base outer
 frf:∀b∈kD outer,H b=none
 hok:kv P w H s.heap
 bare:X9 s.gens
def CE(outer:List Env)(P:Program)(w:Xz)(H:Hp)(s:Shared)(Q:VK)(u:Value)(s':Shared):Prop:=
 ∃v H',s'.os=s.os/\X9 s'.gens/\Un (kD outer) [] H H' s.heap s'.heap/\kv P w H' s'.heap/\RelV v u/\Q v H'
def CR(CX:qk)(outer:List Env)(P:Program)(w:Xz)(H:Hp)(s:Shared)(Q:VK)(E:XK)(r:Result)(s':Shared):Prop:=
 match r with
 | .ok (.ret u)=>CE outer P w H s Q u s'
 | .ok _=>False
 | .error e=>CX outer H s E e s'
structure dF(P:Program)(w:Xz)(K:Qr)(mg:Str->Option Value)(base:Heap)(CX:qk)(k:Nat)(f:Addr)(fd:XC)(ps:List Str)(sp:Sp):Prop where
 len:∀vs H Q E,sp vs H Q E->vs.length=ps.length
 run:∀(A:XA)(outer:List Env)(s:Shared)(H:Hp)(args:Args)(us:List Value)(vs:List V)(Q:VK)(E:XK),cZ k A->tW P w K mg base A outer s H->Yr s fd args (ps.zip us)->Vals vs us->sp vs H Q E->
  Yc (Xv P w) A (.call (.ref f) args) (CR CX outer P w H s Q E) s
theorem dF.mono{P:Program}{w:Xz}{K:Qr}{mg:Str->Option Value}{base:Heap}{CX:qk}{j k:Nat}{f:Addr}{fd:XC}{ps:List Str}{sp:Sp}(F:dF P w K mg base CX j f fd ps sp)(h:j<=k):
  dF P w K mg base CX k f fd ps sp:=⟨F.len,λA outer s H args us vs Q E X=>F.run A outer s H args us vs Q E (X.mono h)⟩
variable{mg:Str->Option Value}{base:Heap}{CX:qk}{fd:XC}{ps:List Str}
theorem dF.imp{P:Program}{k:Nat}{f:Addr}{sp x:Sp}(F:dF P w K mg base CX k f fd ps sp)
  (h:∀vs H Q E,x vs H Q E->sp vs H Q E):dF P w K mg base CX k f fd ps x:=
 ⟨λvs H Q E q=>F.len vs H Q E (h _ _ _ _ q),λA outer s H args us vs Q E X he d c hs=>F.run A outer s H args us vs Q E X he d c (h _ _ _ _ hs)⟩
variable{outer:List Env}
theorem tW.make{P:Program}{A:XA}(e:tW P w K mg base A outer s H)(C:Addr)(us:List Value)(kw:List (Str×Value)):
  tW P w K mg base (A.under (.builtin "type.__call__" ⟨.ref C::us,kw⟩)) outer s H:=⟨by first|exact e.frames|(simpa[Vc,Code.envs,Vo,pushEnvs] using e.frames),e.mod,e.bs,e.bsz,e.mL,e.frf,e.hok,e.bare⟩
section
variable{X:Cx}{pins:List (Addr×Obj)}{Y:St}{H:Hp}{s s':Shared}
theorem Inv.Kl(I:Inv X pins Y H s):tW X.prog X.w X.K X.mg X.base X.A X.stack s H:=
 ⟨I.ok.frames,I.ok.mod,I.bs,Q4 I.ok.bsz I.sz,I.stack,I.vb,I.hok,I.bare⟩
theorem Inv.after{Q:VK}(I:Inv X pins Y H s)(h:CE X.stack X.prog X.w H s Q u s'):EP X pins Y Q u s':=by obtain⟨v,H',os,bare,un,hok,r,q⟩:=h;obtain⟨G,g,d,t,K⟩:=s';obtain rfl:K=s.os:=os;exact⟨v,H',I.call (h':=G) (g':=g) (d':=d) (t':=t) (ch:=[]) un hok bare (λb z=>absurd z Z4),r,q⟩
end
noncomputable def LG(sp:Sp)(dvs:List V)(E:XK)(t:TA):TE:=λY H Q=>t Y H λvs L=>sp (vs++dvs) L Q E
def uR(C:Addr)(m:Str)(sp:Sp)(dvs:List V)(E:XK)(ta:TE)(t:TA):TE:=λY H Q=>ta Y H λx L=>∃a dx fs,x=.ref a/\L a=some (.ins C dx fs)/\fs.lookup m=none /\
 t Y L λvs U=>sp (x::(vs++dvs)) U Q E
def EI(C:Addr)(sp:Sp)(dvs:List V)(E:XK)(t:TA):TE:=λY H Q=>t Y H λvs L=>∀x dx,L x=none->L dx=none->dx≠x->
 sp (.ref x::(vs++dvs)) (upd (upd L dx (.own x)) x (.ins C dx [])) (λv U=>v=.non/\Q (.ref x) U) E
def Binds(K:Qr)(fd:XC)(ps:List Str)(ds:List Value):Prop:=
 ∀(s:Shared)(us:List Value),K.In s.heap->(us++ds).length=ps.length->Yr s fd ⟨us,[]⟩ (ps.zip (us++ds))
theorem Binds.all(h:∀us:List Value,us.length=ps.length->bindArgs fd ⟨us,[]⟩=pure (ps.zip us)):Binds K fd ps []:=λs us _ hl=>by rw[Rx] at hl ⊢;exact .of_eq (h us hl)
def Passes(CX:qk)(X:Cx)(E:XK):Prop:=∀(pins:List (Addr×Obj))(Y:St)(H:Hp)(s:Shared)(e:Value)(s':Shared),Inv X pins Y H s->CX X.stack H s E e s'->X.xe e s'
variable{vs:List V}
section
variable{X:Cx}{CX:qk}{k:Nat}{f C:Addr}{fd:XC}{ps:List Str}{sp:Sp}{dvs:List V}{ds:List Value}{E:XK}{x m:Str}{p pos apos:Pos}{e o:Expr}{es:List Expr}{ta:TE}{t:TA}
theorem sG{Q:VK}(F:dF X.prog X.w X.K X.mg X.base CX k f fd ps sp)(S:cZ k X.A)(d:Binds X.K fd ps ds)(hd:Vals dvs ds)(hx:Passes CX X E)
  (I:Inv X pins Y H s)(r:Vals vs us)(h:sp (vs++dvs) H Q E):Xu (Xv X.prog X.w) X.A (call (.ref f) us) (EP X pins Y Q) X.xe s:=by
 have x:Vals (vs++dvs) (us++ds):=r.append hd;have hl:(us++ds).length=ps.length:=by rw[<-x.length];exact F.len _ _ _ _ h
 refine wpAny_call (Ys (F.run X.A X.stack s H ⟨us,[]⟩ (us++ds) (vs++dvs) Q E S I.Kl (d s us I.sO hl) x h) λr s' l=>?_);cases r with
 |error e=>exact hx pins Y H s e s' I l
 |ok fl=>
  cases fl with
  |ret u=>exact I.after l
  |next=>exact R7 l
  |brk=>exact R7 l
  |cont=>exact R7 l
theorem Dp(F:dF X.prog X.w X.K X.mg X.base CX k f fd ps sp)(hr:cZ k X.A)(hg:Gl X x)(hm:X.mg x=some (.ref f))(hk:RX X.K (.ref f)=true)(hb:Binds X.K fd ps ds)(hd:Vals dvs ds)(hx:Passes CX X E)
  (ha:PA X (e::es) t)(hdb:fg x:=by decide)(he:Xo (e::es) X.env=(false,eval e X.env)::Xo es X.env:=by rfl)(hpl:(Xw pos (Xo es X.env)).any (·.1)=false:=by rfl):
  PE X (.Call (.Name x p) (e::es) [] pos) (LG sp dvs E t):=by
 intro pins s Y H Q I h;refine XX (pd I hg hm ?_ hdb);refine Uk (h₀:=X.base) I.ok.mod.kin hk (cC (ha pos pins s Y H _ I h) λus s1 ⟨vs,H1,I1,r,q⟩=>⟨I1.sO,?_⟩) he hpl;exact sG F hr hb hd hx I1 r q
theorem vC{pl:Sem Bool}(he:PE X o ta)(c:gy X.K C)(hm:Meth X.K C m f)(F:dF X.prog X.w X.K X.mg X.base CX k f fd ps sp)(hr:cZ k X.A)(hb:Binds X.K fd ps ds)(hd:Vals dvs ds)(hx:Passes CX X E)(ha:PA X (e::es) t)
  (hst:Xo (e::es) X.env=(false,eval e X.env)::Xo es X.env:=by rfl)(hpl:(Xw pos (Xo es X.env)).any (·.1)=false:=by rfl)
  (ht:eval (.Call (.Attribute o m apos) (e::es) [] pos) X.env=(do
   let ov <- eval o X.env
   Yb apos.atName
   let (f,first) <- holding [ov] (Yk ov m pl)
   YF pos f first (Xw pos (Xo (e::es) X.env)) (XD pos (Xy [] X.env))):=by rfl):
  PE X (.Call (.Attribute o m apos) (e::es) [] pos) (uR C m sp dvs E ta t):=by
 intro pins s Y H Q I h;refine TR (pl:=pl) (cC (he pins s Y H _ I h) λu s1 ⟨x,H1,I1,rx,a,dx,fs,ex,ea,l,q⟩=>?_) ht;subst ex;obtain rfl:u=Se a:=rx;refine iR I1 ea c hm l ?_;refine Uk (first:=[.ref a]) (h₀:=X.base) I.ok.mod.kin hm.kp (cC (ha pos pins s1 Y H1 _ I1 q) λus s2 ⟨vs,H2,I2,r,q2⟩=>⟨I2.sO,?_⟩) hst hpl;exact sG (us:=.ref a::us) (vs:=.ref a::vs) F hr hb hd hx I2 (.cons rfl r) q2
theorem qw{pl:Sem Bool}(he:PE X o ta)(c:gy X.K C)(hm:Meth X.K C m f)(F:dF X.prog X.w X.K X.mg X.base CX k f fd ps sp)(hr:cZ k X.A)(hb:Binds X.K fd ps ds)(hd:Vals dvs ds)(hx:Passes CX X E)
  (ht:eval (.Call (.Attribute o m apos) [] [] pos) X.env=(do
   let ov <- eval o X.env
   Yb apos.atName
   let (f,first) <- holding [ov] (Yk ov m pl)
   YF pos f first (Xw pos (Xo [] X.env)) (XD pos (Xy [] X.env))):=by rfl):
  PE X (.Call (.Attribute o m apos) [] [] pos) (uR C m sp dvs E ta MF):=by
 intro pins s Y H Q I h;refine TR (pl:=pl) (cC (he pins s Y H _ I h) λu s1 ⟨x,H1,I1,rx,a,dx,fs,ex,ea,l,q⟩=>?_) ht;subst ex;obtain rfl:u=Se a:=rx;refine iR I1 ea c hm l ?_;exact PySem.W.callWith_K0 (first:=[.ref a]) I1.sO hm.kp (sG (us:=[.ref a]) (vs:=[.ref a]) F hr hb hd hx I1 (.cons rfl .nil) q)
structure Mk(K:Qr)(C f:Addr):Prop where
 makes:UM K C=true
 init:RG K (.ref C) "__init__" = some (some (.ref f))
 fn:Ur K (.ref f)=true
 kp:RX K (.ref C)=true
theorem ze{Q:VK}(M:Mk X.K C f)(F:dF X.prog X.w X.K X.mg X.base CX k f fd ps sp)(S:cZ (k+1) X.A)(d:Binds X.K fd ps ds)(hd:Vals dvs ds)
  (hx:Passes CX X E)(I:Inv X pins Y H s)(r:Vals vs us)
  (h:∀x dx,H x=none->H dx=none->dx≠x->sp (.ref x::(vs++dvs)) (upd (upd H dx (.own x)) x (.ins C dx [])) (λv U=>v=.non/\Q (.ref x) U) E):
  Xu (Xv X.prog X.w) X.A (call (.ref C) us) (EP X pins Y Q) X.xe s:=by
 have l:=h (s.heap.objs.size+1) s.heap.objs.size (I.hok.fresh (Ul _)) (I.hok.fresh (QB _)) (Q8 (Rc _));have a:=Inv.made (C:=C) I;have p:Vals (V.ref (s.heap.objs.size+1)::(vs++dvs)) (Se (s.heap.objs.size+1)::(us++ds)):=.cons rfl (r.append hd);have hl:(Se (s.heap.objs.size+1)::us++ds).length=ps.length:=by have e:=p.length;simp only[F.len _ _ _ _ l] at e;exact e.symm
 refine wpAny_call (Bf (f:=f) I.sO M.makes M.init (Y3.mp M.fn) (Ys (F.run _ X.stack _ _ ⟨Se (s.heap.objs.size+1)::us,[]⟩ (Se (s.heap.objs.size+1)::(us++ds)) _ _ E (S.make C us [])
  (a.Kl.make C us []) (d _ (Se (s.heap.objs.size+1)::us) a.sO hl) p l) λr s' Z=>?_))
 cases r with
 |error e=>exact hx pins Y _ _ e s' a Z
 |ok fl=>
  cases fl with
  |ret u=>obtain⟨v,H',t,y,P,R⟩:=a.after Z;subst P;exact⟨y,⟨V.ref (s.heap.objs.size+1),H',t,rfl,R⟩⟩
  |next=>exact R7 Z
  |brk=>exact R7 Z
  |cont=>exact R7 Z
theorem Df(M:Mk X.K C f)(F:dF X.prog X.w X.K X.mg X.base CX k f fd ps sp)(hr:cZ (k+1) X.A)(hg:Gl X x)(hm:X.mg x=some (.ref C))(hb:Binds X.K fd ps ds)(hd:Vals dvs ds)(hx:Passes CX X E)
  (ha:PA X (e::es) t)(hdb:fg x:=by decide)(he:Xo (e::es) X.env=(false,eval e X.env)::Xo es X.env:=by rfl)(hpl:(Xw pos (Xo es X.env)).any (·.1)=false:=by rfl):
  PE X (.Call (.Name x p) (e::es) [] pos) (EI C sp dvs E t):=by
 intro pins s Y H Q I h;refine XX (pd I hg hm ?_ hdb);refine Uk (h₀:=X.base) I.ok.mod.kin M.kp (cC (ha pos pins s Y H _ I h) λus s1 ⟨vs,H1,I1,r,q⟩=>⟨I1.sO,?_⟩) he hpl;exact ze M F hr hb hd hx I1 r q
end
structure ja(N P:List Str)(sc:Scope):Prop where
 kind:sc.kind=.function
 co:sc.isCoroutine=false
 gen:sc.isGenerator=false
 nd:N.Nodup
 pre:N.take P.length=P
 par:∀x∈P,sc.names.lookup x=some .local\/sc.names.lookup x=some .cell
 nofree:∀y∈sc.names,y.2≠.free
theorem nL{kindOf:Str->Option NameKind}{x:Str}:∀{s:List (Str×Value)}{m:Str->Option Value},(∀v,(x,v)∉s)->YU kindOf s m x=m x
 |[],_,_=>rfl
 |(n,v)::r,m,h=>by
  unfold YU;rw[nL λw c=>h w (Qz _ c)];split
  .have:x≠n:=by rintro rfl;exact h v QH
   simp[this]
  .rfl
theorem oj{kindOf:Str->Option NameKind}{x:Str}:∀{s:List (Str×Value)}{m:Str->Option Value},(∀v,(x,v)∉s)->YV kindOf s m x=m x
 |[],_,_=>rfl
 |(n,v)::r,m,h=>by
  unfold YV;rw[oj λw c=>h w (Qz _ c)];split
  .rfl
  .have:x≠n:=by rintro rfl;exact h v QH
   simp[this]
theorem nj{kindOf:Str->Option NameKind}{x:Str}{v:Value}:∀{P:List Str}{vs:List Value}{i:Nat}{m:Str->Option Value},P.Nodup->P[i]?=some x->vs[i]?=some v->kindOf x=some .local->
  YU kindOf (P.zip vs) m x=some v
 |[],_,_,_,_,h,_,_=>by simp at h
 |_::_,[],_,_,_,_,h,_=>by simp at h
 |p::P,w::vs,0,m,nd,h1,h2,hk=>by simp at h1 h2;subst h1;subst h2;show YU kindOf ((p,w)::P.zip vs) m p=_;unfold YU;rw[nL λv c=>(Q3.mp nd).1 (SJ c).1,YY hk];simp
 |p::P,w::vs,i+1,m,nd,h1,h2,hk=>by show YU kindOf ((p,w)::P.zip vs) m x=_;unfold YU;exact nj (i:=i) (Q3.mp nd).2 (by simpa using h1) (by simpa using h2) hk
theorem oe{kindOf:Str->Option NameKind}{x:Str}{v:Value}:∀{P:List Str}{vs:List Value}{i:Nat}{m:Str->Option Value},P.Nodup->P[i]?=some x->vs[i]?=some v->kindOf x≠some .local->
  YV kindOf (P.zip vs) m x=some v
 |[],_,_,_,_,h,_,_=>by simp at h
 |_::_,[],_,_,_,_,h,_=>by simp at h
 |p::P,w::vs,0,m,nd,h1,h2,hk=>by simp at h1 h2;subst h1;subst h2;show YV kindOf ((p,w)::P.zip vs) m p=_;unfold YV;rw[oj λv c=>(Q3.mp nd).1 (SJ c).1,YZ hk];simp
 |p::P,w::vs,i+1,m,nd,h1,h2,hk=>by show YV kindOf ((p,w)::P.zip vs) m x=_;unfold YV;exact oe (i:=i) (Q3.mp nd).2 (by simpa using h1) (by simpa using h2) hk
noncomputable def start(N:List Str)(vs:List V):St:=vs.map some++QD (N.length-vs.length) none
noncomputable def tZ(CX:qk)(P:Program)(w:Xz)(K:Qr)(mg:Str->Option Value)(base:Heap)(N:List Str)(qual:Str)(scope:Scope)(f:Addr)(cd:Value)(A:XA)(outer:List Env)(s:Shared)(H:Hp)(E:XK):Cx where
 prog:=P
 w:=w
 K:=K
 mg:=mg
 base:=base
 A:=A.deeper (Yx qual scope s.heap.objs.size f cd)
 N:=N
 s₀:=s
 H₀:=H
 env:=Yx qual scope s.heap.objs.size f cd
 outer:=outer
 stack:=Yx qual scope s.heap.objs.size f cd::outer
 ex:=[]
 calm:=true
 fn:=λ_=>true
 pn:=[]
 xe:=λe s'=>Xu (Xv P w) (A.deeper (Yx qual scope s.heap.objs.size f cd)) (leaving (Yx qual scope s.heap.objs.size f cd) e) (λ_ h=>CX outer H s E e h) (λk h=>CX outer H s E k h) s'
theorem qU{sc:Scope}{n:Nat}{x:Str}(h:sc.names.lookup x=some .cell):∃c,(cellsFrom n sc.names []).lookup x=some c:=by have q:=U7 sc.names n [] (.inl h);exact Option.isSome_iff_exists.mp q
variable{scope:Scope}
theorem vV{P:Program}{qual:Str}{f:Addr}{cd:Value}{A:XA}{s1:Shared}{E:XK}
  (S:ja N ps scope)(hd:A.handled=none)(I:tW P w K mg base A outer s H)(hl:vs.length=ps.length)(r:Vals vs us)
  (x:InCallC s s.heap.objs.size (YU (Yx qual scope s.heap.objs.size f cd).kindOf (ps.zip us) λ_=>none) (cellsFrom (s.heap.objs.size+1) scope.names []) (YV (Yx qual scope s.heap.objs.size f cd).kindOf (ps.zip us) λ_=>none) s1):
  Inv (tZ CX P w K mg base N qual scope f cd A outer s H E) [] (start N vs) H s1:=by
 have Q:ps.length<=N.length:=by have:=Y2 WK S.pre;rw[Rt] at this;lia
 obtain⟨h1,tk,rfl,hk⟩:=x.done;have Y:∀b:Addr,b∉(tZ CX P w K mg base N qual scope f cd A outer s H E).ex:=λb z=>absurd (show b∈([]:List Addr) from z) Z4;refine⟨⟨I.mod,S.kind,rfl,rfl,QB _,λy z c h1 h2=>?_,λy hy=>?_,λy c _ h=>?_,λ_=>hd,XA.frames_deeper I.frames,.inr ⟨rfl,rfl⟩,λb z=>absurd z (Y b),I.bs,I.bsz,λb _ _=>Y b,λb z=>absurd z (Y b),I.mL,I.frf⟩,
  rfl,I.bare,Un.kept hk,⟨_,x.toInCall.ns,λi y v h1 h2 h3=>?_⟩,λy c h=>⟨_,x.cell y c h⟩,I.hok.fresh (QB _),λy c h=>?_,λp hp=>absurd (show p∈([]:List (Addr×Obj)) from hp) Z4,I.hok.kept hk,?_⟩
 .exact name_of_addr x.apart (Sb h1) (Sb h2)
 .have hy:scope.names.lookup y=some .cell\/scope.names.lookup y=some .free:=hy;rcases hy with hy|hy
  .exact qU hy
  .exact absurd rfl (S.nofree _ (Sb hy))
 .exact QJ (x.above y c (Sb h))
 .have hi:i<vs.length:=by
   unfold start at h2;by_cases hi:i<vs.length
   .exact hi
   .rw[Rl (by simpa using hi)] at h2;rw[TM] at h2;split at h2<;>cases h2
  have T:vs[i]?=some v:=by
   unfold start at h2;rw[RE (by simpa using hi),Q0] at h2;cases e:vs[i]? with
   |none=>rw[e] at h2;cases h2
   |some a=>rw[e] at h2;cases h2;rfl
  obtain⟨u,g,Z⟩:=r.get T;have hp:ps[i]?=some y:=by rw[<-S.pre,TJ Q1];exact h1
  have X:ps.Nodup:=by rw[<-S.pre];exact S.nd.sublist (UH _ _)
  refine⟨u,Z,?_⟩;rcases S.par y (Rq hp) with k|k
  .exact .inl ⟨k,nj X hp g k⟩
  .obtain⟨c,e⟩:=qU (n:=s.heap.objs.size+1) k;refine .inr ⟨.inl k,c,e,?_⟩;have q:=x.cell y c e;rw[oe X hp g (by show scope.names.lookup y≠_;rw[k];decide)] at q;exact q
 .exact I.hok.fresh (QJ (x.above y c (Sb h)))
 .unfold start;show _=N.length;rw[QO,Qt,Ug];lia
theorem Mb{P:Program}{k:Nat}{f:Addr}{name qual:Str}{h:Arguments}{dV kV doc pm cdv ct oc:Value}{an od:Option Addr}
  {osl:Array (Option Value)}{sp:Sp}(F:K.lookup f=some ⟨oc,od,.func (Ut name qual h body scope dV kV doc pm an cdv ct),osl⟩)(p:Ub K cdv qual=true)(S:ja N ps scope)
  (len:∀vs H Q E,sp vs H Q E->vs.length=ps.length)
  (Y:∀(A:XA)(outer:List Env)(s:Shared)(H:Hp)(vs:List V)(Q:VK)(E:XK),cZ k (A.deeper (Yx qual scope s.heap.objs.size f cdv))->sp vs H Q E->
   ∃t,qZ (tZ CX P w K mg base N qual scope f cdv A outer s H E) body t/\t { nx:=λ_ H'=>Q .non H',rt:=Q } (start N vs) H):
  dF P w K mg base CX (k+1) f (Ut name qual h body scope dV kV doc pm an cdv ct) ps sp:=by
 refine⟨len,λA outer s H args us vs Q E B a d r i=>?_⟩;have hl:=len _ _ _ _ i;have D:K.In s.heap:=a.mod.kin.keeps λb o e=>(a.bs b o e).1;have C:s.heap.NoLimit:=a.mod.nolimit.keeps λb o e=>(a.bs b o e).1;have X:∀y∈ps.zip us,scope.names.lookup y.1=some .local\/(scope.names.lookup y.1=some .cell/\((cellsFrom (s.heap.objs.size+1) scope.names []).lookup y.1).isSome=true):=λ⟨n,v⟩ hy=>by
  rcases S.par n (SJ hy).1 with q|q
  .exact .inl q
  .exact .inr ⟨q,U7 _ _ _ (.inl q)⟩
 refine codeAny_call_function B.depth (D _ _ F) rfl S.co S.gen rfl (PySem.W.codeRec_of D p) (d _ _ _ _ ?_);refine wpAny_newFunctionEnv_cells S.kind X λenv he s1 x=>?_;subst he;refine⟨C.keeps x.toInCall.keep,codeAny_func ?_⟩;obtain⟨t,l,R⟩:=Y A outer s H vs Q E (B.deeper _) i;have I:Inv (tZ CX P w K mg base N qual scope f cdv A outer s H E) [] (start N vs) H s1:=vV S B.hd a hl r x;refine XW (l [] s1 (start N vs) H _ I R) (λfl s' hs=>?_) λe s' hs=>hs;have fin:∀{j:St}{H':Hp}{v:V}{u:Value},Inv (tZ CX P w K mg base N qual scope f cdv A outer s H E) [] j H' s'->RelV v u->Q v H'->CE outer P w H s Q u s':=
  λ{j H' v u} J Z q=>⟨v,H',J.os,J.bare,J.base,J.hok,Z,q⟩
 cases fl with
 |ret u=>obtain⟨v,j,H',J,Z,q⟩:=hs;exact fin J Z q
 |next=>obtain⟨j,H',J,q⟩:=hs;exact fin (v:=V.non) (u:=VE) J rfl q
 |brk=>obtain⟨_,_,_,q⟩:=hs;exact R7 q
 |cont=>obtain⟨_,_,_,q⟩:=hs;exact R7 q
section
variable{X:Cx}{x:Str}{p pos:Pos}{e:Expr}{es:List Expr}{t:TA}{id T:String}{r:List V->Hp->VK->Prop}
noncomputable def PM(r:List V->Hp->VK->Prop)(t:TA):TE:=λY H Q=>t Y H λvs L=>r vs L Q
theorem je(hc:c6 X (.builtin id) r)(hg:Gl X x)(hm:X.mg x=none)(hv:Xq x=some (.builtin id))(ha:PA X (e::es) t)(hn:x ≠ "__name__" := by decide)(hdb:fg x:=by decide)
  (he:Xo (e::es) X.env=(false,eval e X.env)::Xo es X.env:=by rfl)(hpl:(Xw pos (Xo es X.env)).any (·.1)=false:=by rfl):PE X (.Call (.Name x p) (e::es) [] pos) (PM r t):=by
 intro pins s Y H Q I h;refine XX (gz I hg hm hv ?_ hn hdb);exact WV (cC (ha pos pins s Y H _ I h) λus s1 ⟨vs,H1,I1,r1,q1⟩=>hc pins s1 Y H1 vs us Q I1 r1 q1) he hpl
theorem fL(hc:c6 X (.type T) r)(hg:Gl X x)(hm:X.mg x=none)(hv:Xq x=some (.type T))(ha:PA X (e::es) t)(hn:x ≠ "__name__" := by decide)(hdb:fg x:=by decide)
  (he:Xo (e::es) X.env=(false,eval e X.env)::Xo es X.env:=by rfl)(hpl:(Xw pos (Xo es X.env)).any (·.1)=false:=by rfl):PE X (.Call (.Name x p) (e::es) [] pos) (PM r t):=by
 intro pins s Y H Q I h;refine XX (gz I hg hm hv ?_ hn hdb);exact RJ (cC (ha pos pins s Y H _ I h) λus s1 ⟨vs,H1,I1,r1,q1⟩=>hc pins s1 Y H1 vs us Q I1 r1 q1) he hpl
end
end L2
namespace HT
open PySem PyProof.Rows
variable{vu:Value}{lo hi:Option Int}
section
variable{prog:Program}{w:Xz}{A:XA}{E:Value->Shared->Prop}{s:Shared}
noncomputable def cM(n d:Nat):Option Int->Nat
 |none=>d
 |some v=>if v<0 then (v+(n:Int)).toNat else min v.toNat n
theorem vm(n d k:Nat):cM n d (some (k:Int))=min k n:=by show (if (k:Int)<0 then ((k:Int)+(n:Int)).toNat else min (k:Int).toNat n)=min k n;rw[YZ Z4,SU]
theorem Ha(n d:Nat)(hd:d<=n)(o:Option Int):cM n d o<=n:=by
 cases o with
 |none=>exact hd
 |some v=>
  show (if v<0 then (v+(n:Int)).toNat else min v.toNat n)<=n;by_cases c:v<0
  .rw[YY c];lia
  .rw[YZ c];exact Nat.min_le_right _ _
theorem vw(v:Int)(n d:Nat):(if v<0 then max (v+(n:Int)) 0 else min v (n:Int))=((cM n d (some v):Nat):Int):=by
 show (if v<0 then max (v+(n:Int)) 0 else min v (n:Int))=(((if v<0 then (v+(n:Int)).toNat else min v.toNat n):Nat):Int);by_cases c:v<0
 .simp only[YY c];simp
 .simp only[YZ c];lia
theorem tM(lo hi:Option Int)(n:Nat):S3 lo hi 1 (n:Int)=(((cM n 0 lo:Nat):Int),((cM n n hi:Nat):Int)):=by
 have h1:¬ ((1:Int)<0):=by decide
 unfold S3;dsimp only [h1,if_false];refine Prod.ext ?_ ?_
 .cases lo with
  |none=>rfl
  |some v=>exact vw v n 0
 .cases hi with
  |none=>rfl
  |some v=>exact vw v n n
theorem ud(i j:Nat):Sj (i:Int) (j:Int) 1=j-i:=by
 unfold Sj;have h1:(1:Int) > 0:=by decide
 simp only[h1,if_true,Int.ediv_one];split<;>lia
theorem lD{v:Value}{o:Option Int}{Q:Option Int->Shared->Prop}(p:YC v o)(h:Q o s):Xu (Xv prog w) A (WL v) Q E s:=by
 cases p with
 |none=>exact slicePart_none h
 |int i t=>exact slicePart_int h
theorem jO{sl:Addr}{vl:Value}{n:Nat}{Q:Int×Int×Nat->Shared->Prop}(hs:s.heap.IsSliceOf sl vl vu .none)(pl:YC vl lo)(r:YC vu hi)
  (h:Q (((cM n 0 lo:Nat):Int),1,cM n n hi-cM n 0 lo) s):Xu (Xv prog w) A (Uu (.ref sl) (pure (n:Int))) Q E s:=by
 obtain⟨os,I,v,K⟩:=id hs
 delta Uu WM
 refine Xp (Xp (YL I K (x:=vl) rfl (Xp (YL I K (x:=vu) rfl (Xp (YL I K (x:=.none) rfl (Xs ?_)))))));refine Xp (slicePart_none ?_);show Xu _ _ (if ((1:Int)==0)=true then _ else _) _ _ s;rw[YZ Z2];refine Xp (lD pl (Xp (lD r (Xp (Xs ?_)))));show Xu _ _ (match S3 lo hi 1 (n:Int) with|(lo,hi)=>pure (lo,(1:Int),Sj lo hi 1)) _ _ s;rw[tM lo hi n];show Xu _ _ (pure (((cM n 0 lo:Nat):Int),(1:Int),Sj ((cM n 0 lo:Nat):Int) ((cM n n hi:Nat):Int) 1)) _ _ s;rw[ud];exact Xs h
theorem Ab(xs:Array Value)(i k:Nat):((QK k).filterMap λ(m:Nat)=>xs[((i:Int)+(m:Int)*1).toNat]?).toArray=((xs.toList.drop i).take k).toArray:=by
 have e:(λ(m:Nat)=>xs[((i:Int)+(m:Int)*1).toNat]?)=λm=>xs[i+m]?:=by
  funext m
  have:((i:Int)+(m:Int)*1).toNat=i+m:=by lia
  rw[this]
 rw[e];have:=pick_run xs i k;rw[List.filterMap_map] at this;have e2:((λx=>xs[x]?)∘λx=>i+x)=λm=>xs[i+m]?:=rfl;rw[e2] at this;rw[this]
theorem i4{t sl:Addr}{items:Array Value}{vl:Value}{Q:Value->Shared->Prop}(l:IsTup s.heap t items)(hs:s.heap.IsSliceOf sl vl vu .none)(pl:YC vl lo)(r:YC vu hi)
  (n:¬ (cM items.size 0 lo=0/\cM items.size items.size hi=items.size))
  (h:Q (.ref s.heap.objs.size) { s with heap:=s.heap.push { cls:=.type "tuple",data:=.seq ((items.toList.drop (cM items.size 0 lo)).take (cM items.size items.size hi-cM items.size 0 lo)).toArray } })
  (hsz:items.size<=sizeLine):Xu (Xv prog w) A (YN (.ref t) (.ref sl)) Q E s:=by
 have x:sizeOk (.seq ((items.toList.drop (cM items.size 0 lo)).take (cM items.size items.size hi-cM items.size 0 lo)).toArray):=by show ((items.toList.drop (cM items.size 0 lo)).take (cM items.size items.size hi-cM items.size 0 lo)).toArray.size<=sizeLine;simp only[Qy,Rt,TN,Tc];lia
 have a:cM items.size items.size hi<=items.size:=Ha _ _ (QB _) hi;obtain⟨os,I,v,Y⟩:=id hs;have H:s.TypeIs (.ref sl) "slice" := ⟨os,I,v⟩
 unfold YN
 try with_reducible refine Ye ?_
 first|refine Xp (Xs ?_)|skip
 refine Xp (wpAny_sequenceKey l.typeIs Z2 ?_);refine Xp (wpAny_callSpecial?_slot (name:=Str.ofString "__getitem__") l.typeIs SG
  (wpAny_call_entry SG l.typeIs entry_tuple_getitem ?_ (args_tuple_getitem _ _)))
 show Xu _ _ (WN (.ref t) >>= _) _ _ s;refine Xp (tupleItemsOf_ l ?_);refine Xp (wpAny_typeOf H ?_);rw[YY Z2];refine Xp (jO hs pl r ?_);have K:¬ ((((cM items.size 0 lo:Nat):Int)==0&&(1:Int)==1&&(cM items.size items.size hi-cM items.size 0 lo)==items.size)=true):=by intro q;simp only[Qq,Qq] at q;have j:((cM items.size 0 lo:Nat):Int)=0:=eq_of_beq q.1.1;have B:cM items.size items.size hi-cM items.size 0 lo=items.size:=eq_of_beq q.2;exact n ⟨by lia,by lia⟩
 show Xu _ _ (if (((cM items.size 0 lo:Nat):Int)==0&&(1:Int)==1&&(cM items.size items.size hi-cM items.size 0 lo)==items.size)=true then _ else _) _ _ s;rw[YZ K,Ab]
 first
  |exact Xp (m:=So _) (XN (Xs ⟨_,rfl,Xs h⟩) x)
  |exact Xp (m:=So _) (XN (Xp (Xs (Xs ⟨_,rfl,Xs h⟩))) x)
  |exact Xp (Xp (m:=So _) (XN (Xs (Xs ⟨_,rfl,Xs h⟩)) x))
  |exact Xp (Xp (m:=So _) (XN (Xs ⟨_,rfl,Xs h⟩) x))
end
end HT
namespace L2
open PySem PySem.Spec PyProof.Rows
abbrev TO:=St->Hp->(Option Int->Hp->Prop)->Prop
def PO(X:Cx)(e:Option Expr)(t:TO):Prop:=
 ∀(pins:List (Addr×Obj))(s:Shared)(Y:St)(H:Hp)(Q:Option Int->Hp->Prop),Inv X pins Y H s->t Y H Q->
  Xu (Xv X.prog X.w) X.A (evalPart e X.env) (λu s'=>∃o H',Inv X pins Y H' s'/\YC u o/\Q o H') X.xe s
noncomputable def Ej:TO:=λ_ H Q=>Q none H
noncomputable def Mn(t:TE):TO:=λY H Q=>t Y H λx V=>∃i,x=.int i/\Q (some i) V
variable{r:V->Option Int->Option Int->Hp->VK->Prop}
section
variable{X:Cx}{e:Expr}{te:TE}{lo hi:Option Expr}{tl th:TO}{pos p2:Pos}
theorem D5:PO X none Ej:=by intro pins s Y H Q I h;simp only[evalPart_none];exact Xs ⟨none,H,I,.none,h⟩
theorem D4(h:PE X e te):PO X (some e) (Mn te):=by intro pins s Y H Q I n;simp only[evalPart_some];refine cC (h pins s Y H _ I n) λu s1 ⟨x,V,O,g,j⟩=>?_;obtain⟨i,rfl,q⟩:=j;obtain⟨t,rfl⟩:=g;exact⟨some i,V,O,.int i t,q⟩
def eH(X:Cx)(r:V->Option Int->Option Int->Hp->VK->Prop):Prop:=
 ∀(pins:List (Addr×Obj))(s:Shared)(Y:St)(H:Hp)(x:V)(v vl h:Value)(lo hi:Option Int)(sl:Addr)(Q:VK),Inv X pins Y H s->RelV x v->s.heap.IsSliceOf sl vl h .none->YC vl lo->YC h hi->r x lo hi H Q->
  ∃T id,typeLookup (.type T) "__getitem__" = pure (some (.builtin id))/\s.TypeIs v T/\Xu (Xv X.prog X.w) X.A (YN v (.ref sl)) (EP X pins Y Q) X.xe s
theorem eH.or{r':V->Option Int->Option Int->Hp->VK->Prop}(h:eH X r)(h':eH X r'):eH X (λx lo hi H Q=>r x lo hi H Q\/r' x lo hi H Q):=by
 intro pins s Y H x v vl w lo hi sl Q I o hs pl A q;rcases q with q|q
 .exact h pins s Y H x v vl w lo hi sl Q I o hs pl A q
 .exact h' pins s Y H x v vl w lo hi sl Q I o hs pl A q
noncomputable def P9(r:V->Option Int->Option Int->Hp->VK->Prop)(te:TE)(tl th:TO):TE:=λY H Q=>te Y H λx L=>tl Y L λl U=>th Y U λu w=>r x l u w Q
theorem BN(S:eH X r)(he:PE X e te)(hl:PO X lo tl)(g:PO X hi th):PE X (.Subscript e (.Slice lo hi none p2) pos) (P9 r te tl th):=by intro pins s Y H Q I h;refine Subscript_ (cC (he pins s Y H _ I h) λv s1 ⟨x,V,O,t,j⟩=>?_);refine wpAny_Slice (cC (hl pins s1 Y V _ O j) λvl s2 ⟨l,U,k,pl,n⟩=>cC (g pins s2 Y U _ k n) λE p ⟨u,z,F,y,C⟩=>?_);rw[evalPart_none];refine Xs ?_;have K:Inv X pins Y z { p with heap:=p.heap.push { cls:=.type "slice",data:=.fields #[vl,E,.none] } }:=F.kept (t':=p.toks) λb ob q=>QG _ q;obtain⟨T,id,N,P,J⟩:=S pins { p with heap:=p.heap.push { cls:=.type "slice",data:=.fields #[vl,E,.none] } } Y z x v vl E l u p.heap.objs.size Q K t (WA ..) pl y C;show Xu (Xv X.prog X.w) X.A (subscriptTail e (.Slice lo hi none p2) v (.ref p.heap.objs.size)) (EP X pins Y Q) X.xe { p with heap:=p.heap.push { cls:=.type "slice",data:=.fields #[vl,E,.none] } };exact tail_any (ops:=[.ref p.heap.objs.size,v]) P N J (by with_unfolding_all rfl)
def pQ(xs:List V)(lo hi:Option Int):List V:=(xs.drop (HT.cM xs.length 0 lo)).take (HT.cM xs.length xs.length hi-HT.cM xs.length 0 lo)
theorem j9(xs:List V)(lo hi:Option Int):(pQ xs lo hi).length<=xs.length:=by unfold pQ;simp only[Rt,TN];lia
def OD(K:Qr):V->Option Int->Option Int->Hp->VK->Prop:=λx lo hi H Q=>∃a xs,x=.ref a/\iL K H a xs /\
 ¬ (HT.cM xs.length 0 lo=0/\HT.cM xs.length xs.length hi=xs.length)/\∀p,H p=none->Q (.ref p) (upd H p (.tup (pQ xs lo hi)))
theorem F4:eH X (OD X.K):=by
 intro pins s Y H x v vl w lo hi sl Q I u hs pl y h;obtain⟨a,xs,rfl,hx,n,q⟩:=h;cases u;obtain⟨j,r,l,hz⟩:=I.tuple hx;have A:j.toArray.size=xs.length:=by rw[Qy];exact r.length.symm
 refine⟨"tuple",_,SG.lookup,l.typeIs,?_⟩;refine HT.i4 l hs pl y (by rw[A];exact n) ?_ (by rw[A];exact hz);rw[A];refine⟨.ref s.heap.objs.size,_,I.laid (t':=s.toks) (o:=.tup (pQ xs lo hi)) (λb ob q=>QG _ q) (QB _) ?_,rfl,q _ (I.hok.fresh (QB _))⟩;exact⟨Q4 (j9 xs lo hi) hz,_,(r.drop (HT.cM xs.length 0 lo)).take (HT.cM xs.length xs.length hi-HT.cM xs.length 0 lo),iH.new _ _⟩
end
noncomputable def gk(n:Nat)(i:Int):Option Nat:=if 0<=i then (if i<n then some i.toNat else none) else if -(n:Int)<=i then some (i+n).toNat else none
def gn{α:Type}(xs:List α)(i:Int):Option α:=(gk xs.length i).bind λj=>xs[j]?
variable{i:Int}{j:Nat}
theorem kK{n:Nat}(h:gk n i=some j):XT i n=some j/\j<n /\ -(n:Int)<=i/\i<n:=by
 unfold gk at h;by_cases s:0<=i
 .rw[YY s] at h;by_cases h1:i<n
  .rw[YY h1] at h;have e:i.toNat=j:=QW h;exact⟨by rw[YM s h1,e],by lia,by lia,h1⟩
  .rw[YZ h1] at h;cases h
 .rw[YZ s] at h;by_cases h1:-(n:Int)<=i
  .rw[YY h1] at h;have e:(i+n).toNat=j:=QW h;exact⟨by rw[YG Q1 h1,e],by lia,h1,by lia⟩
  .rw[YZ h1] at h;cases h
variable{α:Type}
theorem oV{xs:List α}{v:α}(h:gn xs i=some v):∃j,XT i xs.length=some j/\xs[j]?=some v/\j<xs.length /\ -(xs.length:Int)<=i/\i<xs.length:=by
 unfold gn at h;cases e:gk xs.length i with
 |none=>rw[e] at h;cases h
 |some j=>rw[e] at h;obtain⟨h1,h2,h3,h4⟩:=kK e;exact⟨j,h1,h,h2,h3,h4⟩
theorem dt{xs:List α}{v:α}(h:xs[j]?=some v):gn xs (j:Int)=some v:=by
 have a:j<xs.length:=(Qv.mp h).1;have e:gk xs.length (j:Int)=some j:=by unfold gk;rw[YY Z4,YY Q1];rfl
 unfold gn;rw[e];exact h
def jf(b:Expr):Prop:=∀o i,subscripted b false o i=operate [o,i] (YN o i)
def CL(X:Cx)(r:R2):Prop:=
 ∀(value h:Expr)(pins:List (Addr×Obj))(s:Shared)(Y:St)(H:Hp)(x y:V)(v u:Value)(Q:VK),Inv X pins Y H s->RelV x v->RelV y u->r x y H Q->
  subscripted h false v u=operate [v,u] (YN v u)->Xu (Xv X.prog X.w) X.A (subscriptTail value h v u) (EP X pins Y Q) X.xe s
def Qg(X:Cx)(id:String)(r:V->List V->Hp->VK->Prop):Prop:=
 ∀(pins:List (Addr×Obj))(s:Shared)(Y:St)(H:Hp)(x:V)(xs:List V)(v:Value)(us:List Value)(Q:VK),Inv X pins Y H s->RelV x v->Vals xs us->r x xs H Q->
  Xu (Xv X.prog X.w) X.A (call (.builtin id) (v::us)) (EP X pins Y Q) X.xe s
variable{pins:List (Addr×Obj)}{Y:St}{H:Hp}{s:Shared}{p:Addr}{xs:List V}{its its':List Value}{u:Value}
section
variable{X:Cx}{a b:Expr}{ta tb:TE}{pos:Pos}
theorem CL.or{r r':R2}(h:CL X r)(h':CL X r'):CL X (λx y H Q=>r x y H Q\/r' x y H Q):=by
 intro value A pins s Y H x y v u Q I o z q hs;rcases q with q|q
 .exact h value A pins s Y H x y v u Q I o z q hs
 .exact h' value A pins s Y H x y v u Q I o z q hs
theorem zR{r:R2}(S:CL X r)(f:PE X a ta)(d:PE X b tb)(hs:jf b):PE X (.Subscript a b pos) (JJ r ta tb):=by intro pins s Y H Q I h;exact Subscript_ (HU f d I h λv u s2 x y U k o z q=>S a b pins s2 Y U x y v u Q k o z q (hs _ _))
def HS(K:Qr):R2:=λx y H Q=>∃p xs i v,x=.ref p/\y=.int i/\dM K H p xs/\gn xs i=some v/\Q v H
def K6(K:Qr):R2:=λx y H Q=>∃p xs i v,x=.ref p/\y=.int i/\iL K H p xs/\gn xs i=some v/\Q v H
def Mm:R2:=λx y H Q=>∃z i c,x=.str z/\y=.int i/\z.length<=sizeLine/\gn z.cps.toList i=some c/\Q (.str ⟨#[c]⟩) H
theorem pB:CL X (HS X.K):=by
 intro value A pins s Y H x y v u Q I o P h hs;obtain⟨p,xs,i,z,rfl,rfl,l,he,q⟩:=h;cases o;obtain⟨t,rfl⟩:=P;obtain⟨its,r,pl,hz⟩:=I.list l;obtain⟨j,h1,h2,h3,h4,h5⟩:=oV he;obtain⟨w,T,E⟩:=r.get h2;have hl:=r.length;have hn:=jZ;have fin:EP X pins Y Q w s:=⟨z,H,I,E,q⟩
 by_cases m:0<=i
 .have a:i.toNat=j:=by rw[YM m h5] at h1;exact QW h1
  exact item_listR pl.isList m Q1 (by rw[a];simpa using T) fin hs
 .have a:(i+(its.toArray.size:Int)).toNat=j:=by rw[YG Q1 h4] at h1;rw[Qy,<-hl];exact QW h1
  exact Yt (x:=w) pl.isList.typeIs slot_list_getitem.lookup
   (wpAny_getItem_list_neg (Q:=λr s'=>r=w/\EP X pins Y Q r s') pl.isList Q1 (by rw[Qy]<;>lia) Q1 (by rw[a];simpa using T) ⟨rfl,fin⟩) hs
theorem Il:CL X (K6 X.K):=by
 intro value A pins s Y H x y v u Q I o P h hs;obtain⟨p,xs,i,z,rfl,rfl,l,he,q⟩:=h;cases o;obtain⟨t,rfl⟩:=P;obtain⟨its,r,pl,hz⟩:=I.tuple l;obtain⟨j,h1,h2,h3,h4,h5⟩:=oV he;obtain⟨w,T,E⟩:=r.get h2;have hl:=r.length;have hn:=jZ;have fin:EP X pins Y Q w s:=⟨z,H,I,E,q⟩
 exact Yt (x:=w) pl.typeIs slot_tuple_getitem.lookup
  (getItem_tuple (j:=j) (Q:=λr s'=>r=w/\EP X pins Y Q r s') pl Q1 Q1 (by rw[Qy,<-hl];exact h1) (by simpa using T) ⟨rfl,fin⟩) hs
theorem Hz:CL X Mm:=by
 intro value A pins s Y H x y v u Q I o P h hs;obtain⟨z,i,c,rfl,rfl,hz,he,q⟩:=h;obtain⟨t,rfl⟩:=o;obtain⟨t',rfl⟩:=P;obtain⟨j,h1,h2,h3,h4,h5⟩:=oV he;have hl:z.cps.toList.length=z.length:=by rfl
 rw[hl] at h1 h4 h5;have hn:=jZ;exact tail_any (typeIs_str s z t) slot_str_getitem.lookup (getItem_str (c:=c) (by have e1:decide (i < -(2^63:Int))=false:=Y0 Q1;have e2:decide (i≥2^63)=false:=Y0 Q1;rw[e1,e2,Bool.or_false]) (by rw[h1];simpa using h2) ⟨.str ⟨#[c]⟩,H,I.tok _,⟨_,rfl⟩,q⟩) hs
def PK(K:Qr):R2:=λx y H Q=>HS K x y H Q\/K6 K x y H Q\/Mm x y H Q
theorem IW:CL X (PK X.K):=pB.or (Il.or Hz)
theorem sT(its:List Value)(n j:Nat)(u:Value):UB (·.setIfInBounds j u) { cls:=.type "list",data:=.seq its.toArray n }={ cls:=.type "list",data:=.seq (its.set j u).toArray n }:=by simp[UB]
theorem Inv.lst(I:Inv X pins Y H s)(h:H p=some (.lst xs)):
  ∃(its:List Value)(n:Nat),Vals xs its/\s.heap.get? p=some { cls:=.type "list",data:=.seq its.toArray n }/\xs.length<=sizeLine:=by
 obtain⟨z,its,n,r,e⟩:=I.hok p _ h;exact⟨its,n,r,e,z⟩
theorem Inv.Kb{ys:List V}{n Q:Nat}{f:Obj->Obj}(I:Inv X pins Y H s)(h:H p=some (.lst xs))
  (ho:s.heap.get? p=some { cls:=.type "list",data:=.seq its.toArray n })(hf:f { cls:=.type "list",data:=.seq its.toArray n }={ cls:=.type "list",data:=.seq its'.toArray Q })(r:Vals ys its')(hz:ys.length<=sizeLine)(t:Nat):
  Inv X pins Y (upd H p (.lst ys)) { s with heap:=s.heap.update p f,toks:=t }:=by
 have e:(s.heap.update p f).get? p=some { cls:=.type "list",data:=.seq its'.toArray Q }:=by rw[Heap.get?_update_self f ho (by rw[hf]<;>rfl),hf]
 refine I.write (x:=p) (e:=p) (by rw[h];trivial) (.inl rfl) (λb u d q=>(Vp _ _ (Rz d)).trans q) ⟨_,e⟩ ?_;exact⟨hz,its',Q,r,e⟩
def qp:V->V->V->Hp->(Hp->Prop)->Prop:=λo i v H Q=>∃p xs k j,o=.ref p/\i=.int k/\H p=some (.lst xs)/\gk xs.length k=some j/\Q (upd H p (.lst (xs.set j v)))
theorem set_list:KY X qp:=by
 intro pins s Y H o i v K N u Q I x w Z h;obtain⟨p,xs,k,j,rfl,rfl,hp,D,q⟩:=h;cases x;obtain⟨t,rfl⟩:=w;obtain⟨its,n,r,ho,hz⟩:=I.lst hp;obtain⟨h1,h2,h3,h4⟩:=kK D;have hl:=r.length;have hn:=jZ;have a:Inv X pins Y (upd H p (.lst (xs.set j v))) { s with heap:=s.heap.update p (UB (·.setIfInBounds j u)) }:=
  I.Kb hp ho (sT its n j u) (r.set Z j) (by rw[UW];exact hz) s.toks
 by_cases m:0<=k
 .have hk:k.toNat=j:=by rw[YM m h4] at h1;exact QW h1
  exact PySem.W.ki_setAt ho m Q1 (by rw[Qy,<-hl];exact h4) (by rw[hk];exact⟨_,a,q⟩)
 .have hk:(k+(its.toArray.size:Int)).toNat=j:=by rw[YG Q1 h3] at h1;rw[Qy,<-hl];exact QW h1
  exact PySem.W.ki_setBack ho Q1 (by rw[Qy,<-hl];exact h3) Q1 (by rw[hk];exact⟨_,a,q⟩)
theorem oT(lo hi:Option Int)(n:Nat):(Yd lo hi none n).1=((HT.cM n 0 lo:Nat):Int)/\(Yd lo hi none n).2.1=((HT.cM n n hi:Nat):Int)/\(Yd lo hi none n).2.2=1:=by
 refine⟨?_,?_,rfl⟩
 .cases lo with
  |none=>rfl
  |some i=>
   simp only[Yd,HT.cM,VQ,show (1:Int) > 0 by decide,if_true];by_cases h:i<0
   .simp only[h,if_true]<;>lia
   .simp only[h,if_false]<;>lia
 .cases hi with
  |none=>rfl
  |some i=>
   simp only[Yd,HT.cM,VQ,show (1:Int) > 0 by decide,if_true];by_cases h:i<0
   .simp only[h,if_true]<;>lia
   .simp only[h,if_false]<;>lia
theorem mQ(its:List Value)(lo hi:Option Int):slicePick its.toArray lo hi none=((its.drop (HT.cM its.length 0 lo)).take (HT.cM its.length its.length hi-HT.cM its.length 0 lo)).toArray:=by obtain⟨h1,h2,h3⟩:=oT lo hi its.toArray.size;unfold slicePick;simp only[h1,h2,h3];rw[sliceRange_one,pick_run,Qy]<;>rfl
def OI(K:Qr):V->Option Int->Option Int->Hp->VK->Prop:=λx lo hi H Q=>∃a xs,x=.ref a/\dM K H a xs/\∀p,H p=none->Q (.ref p) (upd H p (.lst (pQ xs lo hi)))
theorem Cy:eH X (OI X.K):=by intro pins s Y H x v vl w lo hi sl Q I u hs pl y h;obtain⟨a,xs,rfl,hx,q⟩:=h;cases u;obtain⟨its,r,l,hz⟩:=I.list hx;have A:=r.length;refine⟨"list",_,slot_list_getitem.lookup,l.isList.typeIs,?_⟩;refine wpAny_getItem_list_slice l.isList hs pl y .none Z2 ?_ (by rw[Qy]<;>lia);rw[mQ,<-A];refine⟨.ref s.heap.objs.size,_,I.laid (t':=s.toks) (o:=.lst (pQ xs lo hi)) (λb ob q=>QG _ q) (QB _) ?_,rfl,q _ (I.hok.fresh (QB _))⟩;exact⟨Q4 (j9 xs lo hi) hz,_,0,(r.drop (HT.cM xs.length 0 lo)).take (HT.cM xs.length xs.length hi-HT.cM xs.length 0 lo),Q5 _ rfl⟩
noncomputable def gO:V->Bool
 | .non=>true
 | .bl _=>true
 | .int _=>true
 | .str _=>true
 |_=>false
noncomputable def FE:V->V->Bool
 | .non,.non=>true
 | .bl a,.bl b=>a==b
 | .bl a,.int b=>(if a then 1 else 0)==b
 | .int a,.bl b=>a==(if b then 1 else 0)
 | .int a,.int b=>a==b
 | .str a,.str b=>a==b
 |_,_=>false
theorem cQ{A:XA}{y x:V}{v:Value}(z:RelV y u)(o:RelV x v)(q:gO y=true)(fx:gO x=true):TU A s u v (FE y x):=by
 cases y with
 |non=>
  cases z;cases x with
  |non=>cases o;exact TU.same _
  |bl b=>cases o;exact TU.none_bool b
  |int b=>obtain⟨t,rfl⟩:=o;exact TU.none_int b t
  |str b=>obtain⟨t,rfl⟩:=o;exact TU.none_str b t
  |_=>exact absurd (show false=true from fx) Rk
 |bl a=>
  cases z;cases x with
  |non=>cases o;exact TU.bool_none a
  |bl b=>cases o;exact TU.bool_bool a b
  |int b=>obtain⟨t,rfl⟩:=o;exact TU.bool_int a b t
  |str b=>obtain⟨t,rfl⟩:=o;exact TU.bool_str a b t
  |_=>exact absurd (show false=true from fx) Rk
 |int a=>
  obtain⟨t',rfl⟩:=z;cases x with
  |non=>cases o;exact TU.int_none a t'
  |bl b=>cases o;exact TU.int_bool a t' b
  |int b=>obtain⟨t,rfl⟩:=o;exact TU.int_int a t' b t
  |str b=>obtain⟨t,rfl⟩:=o;exact Va a t' b t
  |_=>exact absurd (show false=true from fx) Rk
 |str a=>
  obtain⟨t',rfl⟩:=z;cases x with
  |non=>cases o;exact TU.str_none a t'
  |bl b=>cases o;exact TU.str_bool a t' b
  |int b=>obtain⟨t,rfl⟩:=o;exact Vb a t' b t
  |str b=>obtain⟨t,rfl⟩:=o;exact TU.str_str a t' b t
  |_=>exact absurd (show false=true from fx) Rk
 |_=>exact absurd (show false=true from q) Rk
def tN(x:V)(u:Value):Bool:=match u with
 | .none=>FE .non x
 | .bool b=>FE (.bl b) x
 | .int i _=>FE (.int i) x
 | .str z _=>FE (.str z) x
 |_=>false
theorem Bt{x y:V}(r:RelV y u)(f:gO y=true):tN x u=FE y x:=by
 cases y with
 |non=>cases r;rfl
 |bl b=>cases r;rfl
 |int i=>obtain⟨t,rfl⟩:=r;rfl
 |str z=>obtain⟨t,rfl⟩:=r;rfl
 |_=>exact absurd (show false=true from f) Rk
theorem i5{x:V}:∀{xs:List V}{us:List Value},Vals xs us->xs.all gO=true->us.any (tN x)=xs.any λy=>FE y x
 |_,_,.nil,_=>rfl
 |y::xs,u::us,.cons r t,f=>by simp only[QV,Qq] at f;simp only[Wr,Wr,Bt r f.1,i5 t f.2]
theorem gw{A:XA}{s:Shared}{x:V}{v:Value}(o:RelV x v)(fx:gO x=true):∀{xs:List V}{us:List Value},Vals xs us->xs.all gO=true->∀u∈us,TU A s u v (tN x u)
 |_,_,.nil,_=>λu g=>by cases g
 |y::xs,u::us,.cons r t,f=>λH g=>by
  simp only[QV,Qq] at f;rcases QC.mp g with rfl|g
  .rw[Bt r f.1];exact cQ r o f.1 fx
  .exact gw o fx t f.2 H g
def Fn(x:V)(xs:List V):Bool:=xs.any λy=>FE y x
def Me(K:Qr)(neg:Bool):R2:=λx y H Q=>∃p xs,y=.ref p/\(dM K H p xs\/iL K H p xs)/\gO x=true/\xs.all gO=true/\Q (.bl (if neg then !Fn x xs else Fn x xs)) H
theorem jQ:iC X (XJ .In) (Me X.K false):=by
 intro pins s Y H x y v u Q I o z h;obtain⟨p,xs,rfl,l,fx,fs,q⟩:=h;cases z;rcases l with l|l
 .obtain⟨its,r,pl,hz⟩:=I.list l;refine SeqAt.in_listAt (tN x) pl.isList (λw n=>gw o fx r fs w (by simpa using n)) ⟨.bl _,H,I,rfl,?_⟩;rw[show its.toArray.any (tN x)=its.any (tN x) by simp,i5 r fs];exact q
 .obtain⟨its,r,pl,hz⟩:=I.tuple l;refine SeqAt.in_tupleAt (tN x) pl (λw n=>gw o fx r fs w (by simpa using n)) ⟨.bl _,H,I,rfl,?_⟩;rw[show its.toArray.any (tN x)=its.any (tN x) by simp,i5 r fs];exact q
theorem jm:iC X (XJ .NotIn) (Me X.K true):=by
 intro pins s Y H x y v u Q I o z h;obtain⟨p,xs,rfl,l,fx,fs,q⟩:=h;cases z;rcases l with l|l
 .obtain⟨its,r,pl,hz⟩:=I.list l;refine SeqAt.notIn_listAt (tN x) pl.isList (λw n=>gw o fx r fs w (by simpa using n)) ⟨.bl _,H,I,rfl,?_⟩;rw[show its.toArray.any (tN x)=its.any (tN x) by simp,i5 r fs];exact q
 .obtain⟨its,r,pl,hz⟩:=I.tuple l;refine SeqAt.notIn_tupleAt (tN x) pl (λw n=>gw o fx r fs w (by simpa using n)) ⟨.bl _,H,I,rfl,?_⟩;rw[show its.toArray.any (tN x)=its.any (tN x) by simp,i5 r fs];exact q
theorem pE:c6 X (.builtin "len") (λxs H Q=>∃p ys,xs=[.ref p]/\(dM X.K H p ys\/iL X.K H p ys)/\Q (.int ys.length) H):=by
 intro pins s Y H xs us Q I r h;obtain⟨p,ys,rfl,l,q⟩:=h;obtain⟨u,rfl,o⟩:=vals1 r;cases o;have hn:=jZ;rcases l with l|l
 .obtain⟨its,r',pl,hz⟩:=I.list l;have A:=r'.length;exact Vy pl.isList (by simp only[Qy]<;>lia) ⟨.int ys.length,H,I.tok _,⟨s.toks+1,by rw[Qy,A]⟩,q⟩
 .obtain⟨its,r',pl,hz⟩:=I.tuple l;have A:=r'.length;exact len_tuple pl (by simp only[Qy]<;>lia) ⟨.int ys.length,H,I.tok _,⟨s.toks+1,by rw[Qy,A]⟩,q⟩
theorem ou:c6 X (.type "list") (λxs H Q=>∃p ys,xs=[.ref p]/\(dM X.K H p ys\/iL X.K H p ys)/\∀l,H l=none->Q (.ref l) (upd H l (.lst ys))):=by
 intro pins s Y H xs us Q I r h;obtain⟨p,ys,rfl,R,q⟩:=h;obtain⟨u,rfl,t⟩:=vals1 r;cases t;have fin:∀(its:List Value),Vals ys its->ys.length<=sizeLine->∀(h':Heap)(i:Nat),(∀b o',s.heap.get? b=some o'->h'.get? b=some o')->
   h'.get? s.heap.objs.size=some { cls:=.type "list",dict:=none,data:=.seq its.toArray i,slots:=#[] }->EP X pins Y Q (.ref s.heap.objs.size) { s with heap:=h' }:=λits r' hz h' i kp e=>
  ⟨.ref s.heap.objs.size,_,I.laid (t':=s.toks) kp (QB _) (show dH X.prog X.w _ h' _ (.lst ys) from ⟨hz,its,i,r',e⟩),rfl,q _ (I.hok.fresh (QB _))⟩
 rcases R with R|R
 .obtain⟨its,r',pl,hz⟩:=I.list R;have A:=r'.length;obtain⟨o,ho,hc,n,hd⟩:=pl.isList;exact call_list_seq p (.inl rfl) ho hc hd (λh' i kp e=>fin its r' hz h' i kp e) (by simp only[Qy]<;>lia)
 .obtain⟨its,r',pl,hz⟩:=I.tuple R;have A:=r'.length;obtain⟨o,ho,hc,n,hd⟩:=pl;exact call_list_seq p (.inr rfl) ho hc hd (λh' i kp e=>fin its r' hz h' i kp e) (by simp only[Qy]<;>lia)
theorem mU:c6 X (.type "tuple") (λxs H Q=>∃p ys,xs=[.ref p]/\((dM X.K H p ys/\∀l,H l=none->Q (.ref l) (upd H l (.tup ys)))\/(iL X.K H p ys/\Q (.ref p) H))):=by
 intro pins s Y H xs us Q I r h;obtain⟨p,ys,rfl,h⟩:=h;obtain⟨u,rfl,t⟩:=vals1 r;cases t;rcases h with ⟨R,q⟩|⟨R,q⟩
 .obtain⟨its,r',pl,hz⟩:=I.list R;have A:=r'.length;refine call_tuple_list pl.isList (λh' kp=>?_) (by rw[Qy]<;>lia);have O:Inv X pins Y H { s with heap:=h' }:=I.kept (t':=s.toks) kp;have k:Inv X pins Y (upd H h'.objs.size (.tup ys)) { s with heap:=h'.push { cls:=.type "tuple",data:=.seq its.toArray } }:=
   O.laid (t':=s.toks) (λb o e=>QG _ e) (QB _) (show dH X.prog X.w _ _ _ (.tup ys) from ⟨hz,its,r',iH.new _ _⟩)
  exact⟨.ref h'.objs.size,_,k,rfl,q _ (O.hok.fresh (QB _))⟩
 .obtain⟨its,r',pl,hz⟩:=I.tuple R;exact call_tuple_same pl ⟨.ref p,H,I,rfl,q⟩
def Pk(K:Qr)(T:String)(x:V)(H:Hp):Prop:=match x with
 | .str _=>T = "str"
 | .int _=>T = "int"
 | .ref p=>(T = "list" /\ ∃xs,dM K H p xs)\/(T = "tuple" /\ ∃o,K.lookup p=some o/\o.cls=.type "tuple" /\ o.dict=none) \/
   (T = "dict" /\ ((∃kvs,H p=some (.dK kvs))\/∃kvs,H p=some (.dT kvs)))\/(T = "set" /\ ∃S n,H p=some (.set S n))
 |_=>False
theorem Jl{T:String}{x:V}{v:Value}(I:Inv X pins Y H s)(r:RelV x v)(ty:Pk X.K T x H):
  s.TypeIs v T/\∀a,v=.ref a->∃ob,s.heap.get? a=some ob/\ob.dict=none:=by
 cases x with
 |str z=>obtain⟨t,rfl⟩:=r;cases (show T = "str" from ty);exact⟨typeIs_str s z t,λ_ e=>nomatch e⟩
 |int i=>obtain⟨t,rfl⟩:=r;cases (show T = "int" from ty);exact⟨YW s i t,λ_ e=>nomatch e⟩
 |ref p=>
  cases r;rcases ty with ⟨rfl,xs,l⟩|⟨rfl,o,hk,hc,hd⟩|⟨rfl,hk⟩|⟨rfl,S,n,hk⟩
  .obtain⟨its,_,pl,_⟩:=I.list l;refine⟨pl.isList.typeIs,λa e=>?_⟩;cases e;obtain⟨o,n,e,c,hd,_⟩:=pl;exact⟨o,e,hd⟩
  .refine⟨⟨o,I.sO p o hk,hc⟩,λa e=>?_⟩;cases e;exact⟨o,I.sO _ o hk,hd⟩
  .have z:∃o,s.heap.get? p=some o/\o.ExactDict:=by
    rcases hk with ⟨kvs,hk⟩|⟨kvs,hk⟩
    .obtain⟨_,_,_,_,o,_,_,e,ex,_⟩:=I.hok p _ hk;exact⟨o,e,ex⟩
    .obtain⟨_,_,_,_,o,_,_,e,ex,_⟩:=I.hok p _ hk;exact⟨o,e,ex⟩
   obtain⟨o,e,ex⟩:=z;refine⟨⟨o,e,ex.1⟩,λa e2=>?_⟩;cases e2;exact⟨o,e,ex.2.1⟩
  .obtain⟨o,_,_,_,e,ex,_⟩:=I.hok p _ hk;refine⟨⟨o,e,ex.1⟩,λa e2=>?_⟩;cases e2;exact⟨o,e,ex.2.1⟩
 |_=>exact R7 ty
noncomputable def PX(K:Qr)(T:String)(r:V->List V->Hp->VK->Prop)(X:TE)(t:TA):TE:=λY H Q=>X Y H λx L=>Pk K T x L/\t Y L λxs U=>r x xs U Q
variable{o e:Expr}{es:List Expr}{to:TE}{t:TA}{name:Str}{apos cpos:Pos}{T id:String}{r:V->List V->Hp->VK->Prop}
theorem kb(pa:PlainAttrs T)(slot:Slot T name id)(hty:typeOf (.builtin id)=pure (.type "method_descriptor"))(hm:Qg X id r)(ho:PE X o to)(ha:PA X (e::es) t)
  (hbase:Xr o name X.env (eval o X.env)=eval o X.env:=by rfl)
  (hfew:((Xw cpos (Xo (e::es) X.env)).all (λx=>!x.1)&&(XD cpos (Xy [] X.env)).all (λx=>x.1.isSome)
   && decide ((e::es).length+([]:List XB).length+(if ([]:List XB).isEmpty then 0 else 1)<30))=true:=by rfl)
  (hline:(apos.endLine==cpos.line)=true:=by rfl) (hs:Xo (e::es) X.env=(false,eval e X.env)::Xo es X.env:=by rfl) (hplain:(Xw cpos (Xo es X.env)).any (·.1)=false:=by rfl):
  PE X (.Call (.Attribute o name apos) (e::es) [] cpos) (PX X.K T r to t):=by
 intro pins s Y H Q I h;refine wpAny_Call_method_late hbase hfew hline rfl (cC (ho pins s Y H _ I h) λv s1 ⟨x,H1,I1,r1,ty,q1⟩=>?_);obtain⟨h1,h2⟩:=Jl I1 r1 ty;refine⟨T,id,pa,slot,hty,h1,h2,?_⟩;have hA:=ha cpos pins s1 Y H1 _ I1 q1;rw[hs] at hA ⊢;refine Calls.callWith_builtin (by show (false || (Xw cpos (Xo es X.env)).any (·.1))=false;rw[hplain]<;>rfl) (Calls.evalArgs_plain ?_);exact cC hA λus s2 ⟨vs,H2,I2,r2,q2⟩=>hm pins s2 Y H2 x vs v us Q I2 r1 r2 q2
end
def NG(X:Cx)(id:String)(r:V->List V->Hp->VK->Prop):Prop:=
 ∀(pins:List (Addr×Obj))(s:Shared)(Y:St)(H:Hp)(x:V)(xs:List V)(v:Value)(us:List Value)(Q:VK),Inv X pins Y H s->RelV x v->Vals xs us->r x xs H Q->
  Xu (Xv X.prog X.w) X.A (call (.builtin id) (v::us)) (EP X pins Y Q) X.xe s
theorem Vals.one:∀{x:V}{us:List Value},Vals [x] us->∃u,us=[u]/\RelV x u
 |_,_,.cons r .nil=>⟨_,rfl,r⟩
theorem Vals.two:∀{x y:V}{us:List Value},Vals [x,y] us->∃u v,us=[u,v]/\RelV x u/\RelV y v
 |_,_,_,.cons r (.cons q .nil)=>⟨_,_,rfl,r,q⟩
theorem Vals.eraseIdx:∀{xs:List V}{us:List Value}(i:Nat),Vals xs us->Vals (xs.eraseIdx i) (us.eraseIdx i)
 |_,_,_,.nil=>.nil
 |_,_,0,.cons _ t=>t
 |_,_,i+1,.cons r t=>.cons r (Vals.eraseIdx i t)
theorem Vals.rep{xs:List V}{us:List Value}(h:Vals xs us):∀k:Nat,Vals (QD k xs).flatten (QD k us).flatten
 |0=>.nil
 |k+1=>by simp only[SE,SE,Tz,Tz];exact Vals.append h (Vals.rep h k)
theorem nC{α:Type}:∀(l:List α)(i:Nat),(l.eraseIdx i).length<=l.length
 |[],_=>QB _
 |_::_,0=>Ul _
 |_::r,i+1=>TV (nC r i)
theorem foldl_rep(its:List Value):∀(k:Nat)(acc:List Value),
  Ux (λs I=>s++I) acc.toArray (QD k its.toArray)=(acc++(QD k its).flatten).toArray
 |0,acc=>by simp
 |k+1,acc=>by
  have e:acc.toArray++its.toArray=(acc++its).toArray:=by simp
  have e2:(acc++its)++(QD k its).flatten=acc++(QD (k+1) its).flatten:=by simp only[SE,Tz,Qw]
  rw[<-e2,<-foldl_rep its k (acc++its),<-e,SE,List.foldl_cons]
variable{t':Nat}
section
variable{X:Cx}{pins:List (Addr×Obj)}{Y:St}{H:Hp}{s:Shared}{l b:Addr}{xs ys zs:List V}
theorem Inv.Ka{n:Nat}{f:Array Value->Array Value}(I:Inv X pins Y H s)(h:H l=some (.lst xs))
  (e:s.heap.get? l=some { cls:=.type "list",data:=.seq its.toArray n })(hf:f its.toArray=its'.toArray)(c:Vals ys its')(hz:ys.length<=sizeLine):
  Inv X pins Y (upd H l (.lst ys)) { s with heap:=s.heap.update l (UB f),toks:=t' }:=by
 have q:=PySem.IsL.update e f;rw[hf] at q;refine I.write (x:=l) (e:=l) (by rw[h];exact trivial) (.inl rfl) (λr u d g=>(Vp s.heap (UB f) (Rz d)).trans g) ⟨_,q⟩ ?_;exact⟨hz,its',_,c,q⟩
theorem Inv.Ja(I:Inv X pins Y H s)(c:Vals ys its)(hz:ys.length<=sizeLine):
  Inv X pins Y (upd H s.heap.objs.size (.lst ys)) { s with heap:=s.heap.push { cls:=.type "list",data:=.seq its.toArray },toks:=t' }:=
 I.laid (λ_ _ q=>QG _ q) (QB _) ⟨hz,its,0,c,Q5 _ rfl⟩
theorem Inv.fresh(I:Inv X pins Y H s):H s.heap.objs.size=none:=I.hok.fresh (QB _)
theorem Inv.A1(I:Inv X pins Y H s)(h:H l=some (.lst xs)):xs.length<=sizeLine/\∃(its:List Value)(n:Nat),Vals xs its/\xs.length=its.length/\s.heap.get? l=some { cls:=.type "list",data:=.seq its.toArray n }:=by obtain⟨z,its,n,r,e⟩:=I.hok l _ h;exact⟨z,its,n,r,r.length,e⟩
theorem zu{n:Nat}(h:n<=sizeLine):Td n=false:=by unfold Td;exact Y0 Q1
end
section
variable{X:Cx}
def Ca:V->List V->Hp->VK->Prop:=λx vs H Q=>∃l xs y,x=.ref l/\vs=[y]/\H l=some (.lst xs)/\xs.length<sizeLine/\Q .non (upd H l (.lst (xs++[y])))
theorem jX:NG X "list.append" Ca:=by intro pins s Y H x vs v us Q I o Z h;obtain⟨l,xs,y,rfl,rfl,i,hz,q⟩:=h;cases o;obtain⟨u,rfl,G⟩:=Z.one;obtain⟨z,its,n,r,hl,e⟩:=I.A1 i;refine X8 F.slot_list_append ⟨_,e,rfl⟩ F.entry_list_append (F.args_list_append_2 _ _) (PySem.list_append l its.toArray n u (by rw[Qy];lia)) ⟨e,?_⟩;refine⟨.non,_,I.Ka (its':=its++[u]) i e Z4 (r.append (.cons G .nil)) ?_,rfl,q⟩;simp only[QO,S0];assumption
def Hv:V->List V->Hp->VK->Prop:=λx vs H Q=>∃l xs i k y,x=.ref l/\vs=[.int i]/\H l=some (.lst xs) /\ -(2^63)<=i/\i<2^63/\XT i xs.length=some k/\xs[k]?=some y/\Q y (upd H l (.lst (xs.eraseIdx k)))
theorem rp:NG X "list.pop" Hv:=by
 intro pins s Y H x vs v us Q I o Z h;obtain⟨l,xs,i,k,y,rfl,rfl,p,h1,h2,hk,hy,q⟩:=h;cases o;obtain⟨u,rfl,G⟩:=Z.one;obtain⟨t,rfl⟩:=G;obtain⟨z,its,n,r,hl,e⟩:=I.A1 p;obtain⟨w,c,E⟩:=r.get hy;refine X8 F.slot_list_pop ⟨_,e,rfl⟩ F.entry_list_pop (F.args_list_pop_2 _ _)
  (MeetsSeq.list_pop_at l its.toArray n i t k w (fitsIndex_both h1 h2) (by simp only[Qy,<-hl];exact hk) (by rw[<-Vq];exact c) (by rw[Qy];lia)) ⟨e,?_⟩
 refine⟨y,_,I.Ka (its':=its.eraseIdx k) p e ?_ (r.eraseIdx k) ?_,E,q⟩
 .show its.toArray.eraseIdxIfInBounds k=(its.eraseIdx k).toArray;rw[List.eraseIdxIfInBounds_toArray]
 .have:=nC xs k;exact Q4 ‹_› ‹_›
def NK:R2:=λx y H Q=>∃l b xs Y,x=.ref l/\y=.ref b/\H l=some (.lst xs)/\H b=some (.lst Y)/\xs.length+Y.length<=sizeLine/\∀p,H p=none->Q (.ref p) (upd H p (.lst (xs++Y)))
theorem jS:iC X (XU .Add) NK:=by
 intro pins s Y H x y v u Q I o w h;obtain⟨l,b,xs,F,rfl,rfl,i,C,hz,q⟩:=h;cases o;cases w;obtain⟨z,its,n,r,hl,e⟩:=I.A1 i;obtain⟨J,B,K,p,D,e2⟩:=I.A1 C;refine PySem.P.add_list e e2 ?_ (by rw[Qy,Qy];lia);have E:its.toArray++B.toArray=(its++B).toArray:=by simp
 rw[E];exact⟨.ref _,_,I.Ja (t':=s.toks) (r.append p) (by rw[QO];lia),rfl,q _ I.fresh⟩
theorem len_rep(xs:List α)(k:Nat):(QD k xs).flatten.length=k*xs.length:=by
 induction k with
 |zero=>simp
 |succ k m=>simp only[SE,Tz,QO,m,WO,Nat.add_comm]
end
section
variable{prog:Program}{w:Xz}{A:XA}{E:Value->Shared->Prop}{s:Shared}
set_option maxRecDepth 100000 in
end
section
variable{P:Program}{w:Xz}{H:Hp}{h:Heap}{a:Addr}
theorem K0{u:HO}(ok:kv P w H h)(e:Rd H a u):dH P w H h a u:=e.ok ok
theorem ug{kvs:List (Key×V)}(ok:kv P w H h)(e:Rd H a (.dK kvs)):kvs.length<=sizeLine/\(a==YA)=false/\∃vs,KV kvs vs/\h.DictOf (gZ P w) a vs:=
 show dH P w H h a (.dK kvs) from K0 ok e
end
structure M1(X:Cx)(o:Expr)(m:Str)(apos:Pos)(e:Expr)(cpos:Pos):Prop where
 base:Xr o m X.env (eval o X.env)=eval o X.env
 few:((Xw cpos (Xo [e] X.env)).all (λx=>!x.1)&&(XD cpos (Xy [] X.env)).all (λx=>x.1.isSome)
  && decide (([e]:List Expr).length+([]:List XB).length+(if ([]:List XB).isEmpty then 0 else 1)<30))=true
 line:(apos.endLine==cpos.line)=true
 trees:Xw cpos (Xo [e] X.env)=[(false,eval e X.env)]
end L2
namespace Att
open PySem PySem.W PySem.Calls PyProof.Rows
variable{h:Heap}
theorem kC{P:Params}:∀(ns:List Int)(vs:List Value),WellAll P h vs (ns.map WW)->YO vs ns:=by
 intro ns;induction ns with
 |nil=>intro vs w;simp only[Ti] at w;cases w;exact .nil
 |cons n ns m=>
  intro vs w;simp only[Rf] at w;cases w with
  |cons a b=>cases a;exact .cons _ _ (m _ b)
theorem wk{l:OpenLaw}{n:Nat}(hn:l.most=some n){P:Params}{args:List WData}{s:List Value}
  (v:l.row.toRowW.claim.pre args=true)(H:WellAll P h s args):
  ∃a vs ns,s=[Se a]/\args=[WData.list (ns.map WW)]/\h.get? a=some { cls:=.type "list",data:=.seq vs.toArray }/\YO vs ns/\ns.length<=n:=by
 have I:WShape.hasAll [] args [.list .int]=true:=(pre_splitW v).1;have hc:l.pre.holds [] { args:=args }=true:=(pre_splitW v).2;obtain⟨d,r,rfl,h1,h2⟩:=hasAllW_cons I;obtain rfl:=hasAllW_nil h2;obtain⟨xs,rfl,h3⟩:=hasW_list h1;obtain⟨ns,rfl⟩:=items_int h3;have A:ns.length<=n:=by
  unfold OpenLaw.pre at hc;have h4:(WTm.not (.lt (.lit (.int (n:Int))) (.len (.arg 0)))).holds [] { args:=[.list (ns.map .int)] }=true:=by have h4:=(holds_andW hc).1;rw[hn] at h4;exact h4
  have h5:=condW_of h4 (w_not (w_lt w_lit (w_len_list (w_arg rfl))));rw[Qt] at h5;refine Nat.le_of_not_lt λq=>?_;have t:(n:Int)<((ns.length:Nat):Int):=by lia
  first
   |(rw[Y1 t] at h5;exact absurd h5 Z2)
   |(simp at h5;lia)
 cases H with
 |cons T Q=>
  cases Q;cases T with
  |list ho x=>exact⟨_,_,ns,rfl,rfl,ho,kC ns _ x,A⟩
theorem xn(l:OpenLaw)(args:List WData):l.row.toRowW.claim.post args (.bool true) args=true:=
 postW_of (r:=l.row.toRowW) (X:=(true==true))
  (show WB [] (.bool true) .bool=true by first|rfl|decide|simp[WB,WShape.arms,WShape.armsAll])
  (show (WTm.eq .res (.lit (.bool true))).value [] { args:=args,res:=some (.bool true),after:=args }=some (.bool (true==true)) from w_eq_bool (w_res rfl) w_lit) rfl
theorem rQ{l:OpenLaw}{n:Nat}{q:Program}{loose:List Str}{XP:(Str->Option Value)->Heap->Prop}{YP:Xz->Heap->Prop}{d:DefRec}
  (hn:l.most=some n)(x:d.params.defaults=[])
  (call:∀(w:Xz)(s₀ Z:Shared)(mg mb:Str->Option Value)(s:Addr)(o:Obj)(pm cd doc:Value)(a:Addr)(vs:List Value)(ns:List Int),
   Ground q loose [] XP w s₀ mg mb Z.heap->YP w Z.heap->
   Z.heap.get? s=some o->o.data=.func (docDef d.name d.params d.body d.scope pm cd doc)->Z.heap.CodeRec cd d.name->mg d.name=some (.ref s)->
   Z.heap.get? a=some { cls:=.type "list",data:=.seq vs.toArray }->YO vs ns->ns.length<=n->Z.gens=#[]->
   Yc (Xv l.prog w) Yu (.call (.ref s) ⟨[.ref a],[]⟩) (λr s'=>r=.ok (.ret (.bool true))/\OldK Z.heap s'.heap/\s'.os=Z.os/\X9 s'.gens) Z):
  WalkO q loose XP YP l.row.toRowW d [] (λf vs=>VH f vs):=by
 intro w s₀ Z mg mb G Y s o pm cd doc dV kV ho hd p N H J args Q as v S b I h;obtain rfl:dV=.none:=Dflts.none N x;obtain rfl:kV=.none:=Dflts.noKw N;obtain⟨a,vs,ns,rfl,rfl,u,X,A⟩:=wk hn v I;refine enter_call (Ys (call w s₀ Z mg mb s o pm cd doc a vs ns G Y ho (fd_plain hd) p H u X A J) λr s' R=>?_);obtain⟨rfl,h2,h3,h4⟩:=R;exact⟨.inl ⟨.bool true,.bool true,[],rfl,λ_=>rfl,.bool true,xn l _,λ_=>⟨WQ,λ_ hm=>(nomatch hm)⟩⟩,h2,h3,h4⟩
end Att
namespace L2
open PySem PySem.Spec PyProof.Rows
theorem oq:∀{vs:List Value}{ns:List Int},YO vs ns->Vals (ns.map V.int) vs
 |_,_,.nil=>.nil
 |_,_,.cons n t h=>.cons ⟨t,rfl⟩ (oq h)
def GR(H:Hp):Prop:=∀b,H b=none\/∃o xs,H b=some (.frz o (.lst xs))
theorem zx{P:Program}{w:Xz}{K:Qr}{mg mb:Str->Option Value}{CX:qk}{k:Nat}{S a:Addr}{fd:XC}{x:Str}{sp:Sp}{Z:Shared}{vs:List Value}{ns:List Int}
  (p:K.In Z.heap)(B:Z.heap.Ns Xx mg)(E:Z.heap.Ns Ym mb)(T:∀x:Str,x ≠ "__name__" -> mb x=Xq x)(C:Z.heap.NoLimit)(A:Z.gens=#[])
  (f:Z.heap.get? a=some { cls:=.type "list",data:=.seq vs.toArray })(hi:YO vs ns)(hl:ns.length<=sizeLine)(U:cZ k Yu)
  (F:∀base:Heap,K.In base->base.Ns Xx mg->dF P w K mg base CX k S fd [x] sp)(y:∀(s:Shared)(u:Value),Yr s fd ⟨[u],[]⟩ [(x,u)])
  (t:∀H:Hp,GR H->dM K H a (ns.map V.int)->sp [.ref a] H (λv _=>v=.bl true) λ_ _ _=>False)
  (G:∀H e s',CX [] H Z (λ_ _ _=>False) e s'->False):
  Yc (Xv P w) Yu (.call (.ref S) ⟨[.ref a],[]⟩) (λr s'=>r=.ok (.ret (.bool true))/\OldK Z.heap s'.heap/\s'.os=Z.os/\X9 s'.gens) Z:=by
 have L:=oq hi;have D:=hi.length;have X:∀H:Hp,GR H->dM K H a (ns.map V.int)->kv P w H Z.heap->(∀b,H b≠none->b=a)->(H a≠none->K.lookup a=none)->
   Yc (Xv P w) Yu (.call (.ref S) ⟨[.ref a],[]⟩) (λr s'=>r=.ok (.ret (.bool true))/\OldK Z.heap s'.heap/\s'.os=Z.os/\X9 s'.gens) Z:=by
  intro H O j hok c g;have bh:∀{b:Addr}{o:Obj},Z.heap.get? b=some o->H b=none->(pW Z.heap H).get? b=some o:=λe n=>Ay e n;have J:∀{b:Addr}{o:Obj}{es:Array DictEntry}{i:Nat},Z.heap.get? b=some o->o.data=.dict es i->H b=none:=λ{b o es i} e d=>by
   cases q:H b with
   |none=>rfl
   |some u=>have R:b=a:=c b (by rw[q];simp);subst R;rw[f] at e;cases e;have d':Data.seq vs.toArray _=Data.dict es i:=d;cases d'
  have Y:∀{b:Addr}{m:Str->Option Value},Z.heap.Ns b m->(pW Z.heap H).Ns b m:=λ{b m} ⟨o,es,i,e,d,r⟩=>⟨o,es,i,bh e (J e d),d,r⟩
  have I:K.In (pW Z.heap H):=λb o e=>bh (p b o e) (by
   cases q:H b with
   |none=>rfl
   | some u=>have R:b=a:=c b (by rw[q];simp);subst R;rw[g (by rw[q];simp)] at e;cases e)
  have l:Mod K mg (pW Z.heap H):=⟨I,Y B,⟨mb,Y E,T⟩,let ⟨mc,h1,h2⟩:=C;⟨mc,Y h1,h2⟩⟩
  have e0:tW P w K mg (pW Z.heap H) Yu [] Z H:=⟨rfl,l,λb o e=>Eg e,Ua (xc _ _),trivial,λb E=>absurd (show b∈([]:List Addr) from E) Z4,hok,.of_eq A⟩
  refine Ys ((F _ I (Y B)).run Yu [] Z H ⟨[.ref a],[]⟩ [.ref a] [.ref a] _ _ U e0 (y Z (.ref a)) (.cons rfl .nil) (t H O j)) λr s' h=>?_;cases r with
  |error e=>exact(G H e s' h).elim
  |ok fl=>
   cases fl with
   |next=>exact R7 h
   |brk=>exact R7 h
   |cont=>exact R7 h
   |ret u=>
    obtain⟨v,H',os,bare,un,N,r',q⟩:=h;have q':v=.bl true:=q;subst q';obtain rfl:u=VF true:=r';refine⟨rfl,OldK.of_keep λb o e=>?_,os,bare⟩;cases q:H b with
    |none=>exact un.keep b o e q (by intro z;exact absurd (show b∈([]:List Addr) from z) Z4) Z4
    |some u=>
     rcases O b with z|⟨ob,xs,z⟩
     .rw[q] at z;cases z
     .have z2:=un.frzs b ob _ z;obtain⟨e1,_⟩:=hok b _ z;obtain⟨e2,_⟩:=N b _ z2;rw[e] at e1;cases e1;exact e2
 cases hk:K.lookup a with
 |some o=>have e:=p a o hk;rw[f] at e;cases e;refine X (λ_=>none) (λ_=>.inl rfl) (.inr ⟨_,vs.toArray,_,hk,rfl,rfl,rfl,by rw[Qy,D];exact hl,by simpa using L⟩) (λb u z=>by have Q:(none:Option HO)=some u:=z;cases Q) (λb z=>absurd rfl z) λz=>absurd rfl z
 |none=>
  refine X (λb=>if b=a then some (.frz { cls:=.type "list",data:=.seq vs.toArray } (.lst (ns.map V.int))) else none) (λb=>?_) (.inl (.inr ⟨{ cls:=.type "list",data:=.seq vs.toArray },YY rfl⟩)) (λb u z=>?_) (λb z=>?_) λ_=>hk
  .by_cases E:b=a
   .exact .inr ⟨_,_,YY E⟩
   .exact .inl (YZ E)
  .by_cases E:b=a
   .have Q:=(YY E).symm.trans z;cases Q;subst E;exact⟨f,by rw[Qt];exact hl,vs,_,L,f⟩
   .have Q:=(YZ E).symm.trans z;cases Q
  .by_cases E:b=a
   .exact E
   .exact absurd (YZ E) z
noncomputable def dR(s:Stmt):Arguments:=match s with
 | .FunctionDef _ a _ _ _ _ _ _ _ _=>a
 |_=>{ posonlyargs:=[],args:=[],vararg:=none,kwonlyargs:=[],kw_defaults:=[],kwarg:=none,defaults:=[] }
noncomputable def fz(s:Stmt):List Stmt:=match s with
 | .FunctionDef _ _ b _ _ _ _ _ _ _=>b
 |_=>[]
noncomputable def bq(s:Stmt):Scope:=match s with
 | .FunctionDef _ _ _ _ _ _ sc _ _ _=>sc
 |_=>{ kind:=.function,names:=[],isGenerator:=false,isCoroutine:=false }
noncomputable abbrev E0:XK:=λ_ _ _=>False
section
variable{X:Cx}
theorem pv(i:Nat){x:Str}{pos:Pos}(hN:X.N[i]?=some x:=by rfl)(hv:jh X.env.scope x:=by first|exact Or.inl rfl|exact WC (Or.inl rfl)|exact WC (WC rfl))(hd:fg x:=by decide)
  (hcd:km x:=by decide):PE X (.Name x pos) (lE i):=bH hN hv hd hcd
end
def OW(H H':Hp):Prop:=∀b o,H b=some o->H' b=some o
end L2
set_option maxHeartbeats 4000000
namespace L2
open PySem PySem.Spec PyProof.Rows PySem.W
open PySem.Builtin.ObjectAttr (find dataDescriptor? getOf)
open PySem.Builtin.Getset_descriptor (descrGet descrGetter descrCheckInstance descrNameAndClass)
section
variable{prog:Program}{w:Xz}{A:XA}{E:Value->Shared->Prop}{h:Heap}{g:Array GenState}{d:Drawn}{t:Nat}{os:OsState}{K:Frag}{x C:Addr}
structure Mc(K:Frag)(C:Addr):Prop where
 ga:findIn K (.ref C) "__getattribute__" = some (some (.builtin "BaseException.__getattribute__"))
 gt:findIn K (.ref C) "__getattr__" = some none
 cl:findIn K (.ref C) "__class__" = some (some (.builtin "object.__class__"))
 gg:specialIn K (.builtin "object.__class__") "__get__" = some (some (.builtin "getset_descriptor.__get__"))
 tk:takesIn K (.builtin "object.__class__")=some true
 ob:mroIn K C (.type "object")=some true
 be:mroIn K C (.type "BaseException")=some true
def ExcAt(a C:Addr)(h:Heap):Prop:=∃q,h.get? a=some q/\q.cls=.ref C
theorem ExcAt.type{M:Model}(I:ExcAt x C h):Looks M h (typeOf (.ref x)) (.ref C):=by obtain⟨q,e1,e2⟩:=I;exact e2▸(Looks.ld e1).andThen .now
end
variable{C:Addr}
theorem Mc.there{K:Frag}(T:Mc K C):∃oc od cd sl,K.lookup C=some ⟨oc,od,.cls cd,sl⟩:=by
 have q:=T.ob;unfold mroIn clsIn at q;split at q
 .rename_i a b c e f;exact⟨a,b,c,e,f⟩
 .cases q
open PySem PySem.Spec PyProof.Rows
abbrev XS:=Value->St->Hp->Prop
abbrev TX:=Ends->XS->St->Hp->Prop
section
variable{X:Cx}
variable{k:Nat}{f C:Addr}{fd:XC}{ps:List Str}{sp:Sp}{dvs:List V}{ds:List Value}{x m:Str}{p pos apos:Pos}{e o:Expr}{es:List Expr}{ta:TE}{t:TA}
noncomputable def OX(a C:Addr):HO:=.ext (ExcAt a C)
end
def Bd(n:Nat)(x:Int):Prop:=x.natAbs<2^n
theorem Bd.mono{m n:Nat}{x:Int}(h:Bd m x)(k:m<=n):Bd n x:=QL h (S7 Z2 k)
theorem Bd.bits{n:Nat}{x:Int}(h:Bd n x):U3 x<=n:=by
 delta U3
 split
 .exact RP _
 .rename_i z
  have m:x.natAbs≠0:=λq=>z (by simp[Int.natAbs_eq_zero.mp q])
  exact(VI m).mpr h
theorem Bd.MW{m n:Nat}{x y:Int}(h:Bd m x)(k:Bd n y)(hs:m+n<=134217728):YX x y:=YX.of_le h.bits k.bits hs
theorem Bd.mul{m n:Nat}{x y:Int}(h:Bd m x)(k:Bd n y):Bd (m+n) (x*y):=by
 delta Bd at *
 simp only[Ry,VJ]
 exact Nat.mul_lt_mul'' h k
theorem Bd.add{m n:Nat}{x y:Int}(h:Bd m x)(k:Bd n y):Bd (max m n+1) (x+y):=by have h1:=h.mono (Wi m n);have r:=k.mono (V8 m n);unfold Bd at *;lia
theorem Bd.neg{n:Nat}{x:Int}(h:Bd n x):Bd n (-x):=by delta Bd at *;rwa[Ws]
theorem Bd.log{n:Nat}{x:Int}(h:Bd n x)(hn:n<=9000):x.natAbs.log2<9000:=by
 by_cases z:x.natAbs=0
 .rw[z];decide
 .exact QL ((VI z).mpr h) hn
section
variable{X:Cx}
def Po(_ j:Int):Prop:=j≠0/\Bd 9000 j
theorem D1:iC X (XU .Mult) (rI YX λi j=>.int (i*j)):=oK λ_ _ _ _ _ _ _ hc q=>mul_int q hc
theorem yt:iC X (XU .FloorDiv) (rI Po λi j=>.int (i.fdiv j)):=oK λ_ _ _ _ _ _ _ hc q=>floordiv_int hc.1 q (.inl (PyProof.noPylong_of_log2 (hc.2.log (QB _))))
end
inductive D where
 |non|bl(b:Bool)|int(i:Int)|str(x:Str)|tup(ds:List D)|lst(ds:List D)
mutual
noncomputable def D.eq:D->D->Bool
 | .non,.non=>true
 | .bl a,.bl b=>a==b
 | .bl a,.int b=>(if a then 1 else 0)==b
 | .int a,.bl b=>a==(if b then 1 else 0)
 | .int a,.int b=>a==b
 | .str a,.str b=>a==b
 | .tup xs,.tup ys=>D.eqs xs ys
 | .lst xs,.lst ys=>D.eqs xs ys
 |_,_=>false
noncomputable def D.eqs:List D->List D->Bool
 |[],[]=>true
 |x::xs,y::ys=>D.eq x y&&D.eqs xs ys
 |_,_=>false
end
mutual
noncomputable def D.depth:D->Nat
 | .tup xs=>D.gU xs+1
 | .lst xs=>D.gU xs+1
 |_=>0
noncomputable def D.gU:List D->Nat
 |[]=>0
 |x::xs=>max (D.depth x) (D.gU xs)
end
mutual
theorem D.kJ:∀d:D,D.eq d d=true
 | .non=>rfl
 | .bl b=>beq_self_eq_true b
 | .int i=>beq_self_eq_true i
 | .str x=>beq_self_eq_true x
 | .tup xs=>D.lj xs
 | .lst xs=>D.lj xs
theorem D.lj:∀ds:List D,D.eqs ds ds=true
 |[]=>rfl
 |x::xs=>by show (D.eq x x&&D.eqs xs xs)=true;rw[D.kJ x,D.lj xs];rfl
end
mutual
inductive Den(K:Qr)(H:Hp):V->D->Prop
 |non:Den K H .non .non
 |bl(b:Bool):Den K H (.bl b) (.bl b)
 |int(i:Int):Den K H (.int i) (.int i)
 |str(x:Str):Den K H (.str x) (.str x)
 |tup{a:Addr}{xs:List V}{ds:List D}(e:iL K H a xs)(r:fE K H xs ds):Den K H (.ref a) (.tup ds)
 |lst{a:Addr}{xs:List V}{ds:List D}(e:dM K H a xs)(r:fE K H xs ds):Den K H (.ref a) (.lst ds)
inductive fE(K:Qr)(H:Hp):List V->List D->Prop
 |nil:fE K H [] []
 |cons{x:V}{d:D}{xs:List V}{ds:List D}(h:Den K H x d)(r:fE K H xs ds):fE K H (x::xs) (d::ds)
end
theorem fE.len{K:Qr}{H:Hp}:∀{xs:List V}{ds:List D},fE K H xs ds->xs.length=ds.length
 |_,_,.nil=>rfl
 |_,_,.cons _ r=>by simp only[QF,QF,r.len]
theorem fE.at{K:Qr}{H:Hp}:∀{xs:List V}{ds:List D}(j:Nat){x:V}{d:D},fE K H xs ds->xs[j]?=some x->ds[j]?=some d->Den K H x d
 |_,_,0,_,_,.cons h _,e1,e2=>by cases e1;cases e2;exact h
 |_,_,j+1,_,_,.cons _ r,e1,e2=>r.at j e1 e2
theorem D.n0:∀{ds:List D}(j:Nat){d:D},ds[j]?=some d->D.depth d<=D.gU ds
 |x::xs,0,_,e=>by cases e;exact Wi _ _
 |x::xs,j+1,_,e=>Q4 (D.n0 j e) (V8 _ _)
theorem D.fR:∀(xs ys:List D),D.eqs xs ys=((QK (min xs.length ys.length)).all (λj=>D.eq (xs.getD j .non) (ys.getD j .non))&&xs.length==ys.length)
 |[],[]=>rfl
 |[],_::_=>rfl
 |_::_,[]=>rfl
 |x::xs,y::ys=>by
  simp only[show D.eqs (x::xs) (y::ys)=(D.eq x y&&D.eqs xs ys) from rfl,D.fR xs ys,QF,QF,Nat.succ_min_succ,TZ,QV,UI];have e:(xs.length+1==ys.length+1)=(xs.length==ys.length):=by rw[Wa];simp
  simp only[e,Bool.and_assoc];rfl
variable{xs ys:List V}{u:Value}{us:List Value}
section
variable{X:Cx}{pins:List (Addr×Obj)}{Y:St}{H:Hp}{s:Shared}
theorem uZ{a:Addr}(I:Inv X pins Y H s)(h1:iL X.K H a xs)(h2:dM X.K H a ys):False:=by obtain⟨_,_,⟨o,e,c,_⟩,_⟩:=I.tuple h1;obtain⟨_,_,⟨o',p,k,i,_,d'⟩,_⟩:=I.list h2;rw[e] at k;cases k;rw[c] at i;injection i with q;exact absurd q Z2
mutual
theorem Den.inj(I:Inv X pins Y H s):∀{v:V}{d e:D},Den X.K H v d->Den X.K H v e->d=e
 |_,_,_,.non,h=>by cases h;rfl
 |_,_,_,.bl b,h=>by cases h;rfl
 |_,_,_,.int i,h=>by cases h;rfl
 |_,_,_,.str x,h=>by cases h;rfl
 |_,_,_,.tup e r,h=>by
  cases h with
  |tup k r'=>cases I.om e k;rw[fE.inj I r r']
  |lst k r'=>exact(uZ I e k).elim
 |_,_,_,.lst e r,h=>by
  cases h with
  |lst k r'=>cases I.gp e k;rw[fE.inj I r r']
  |tup k r'=>exact(uZ I k e).elim
theorem fE.inj(I:Inv X pins Y H s):∀{v:List V}{d e:List D},fE X.K H v d->fE X.K H v e->d=e
 |_,_,_,.nil,h=>by cases h;rfl
 |_,_,_,.cons a r,h=>by
  cases h with
  |cons a' r'=>rw[Den.inj I a a',fE.inj I r r']
end
theorem nR(I:Inv X pins Y H s){A:XA}{x y:V}{d e:D}{v:Value}(g:A.units<cLine)(hf:gO x=true)(hd:Den X.K H x d)(he:Den X.K H y e)(G:RelV x u)(Z:RelV y v):TU A s u v (D.eq d e):=by
 cases hd with
 |tup=>cases hf
 |lst=>cases hf
 |non =>
  cases he with
  |tup q r=>cases G;cases Z;obtain⟨_,_,p,_⟩:=I.tuple q;exact .none_tuple p g
  |lst q r=>cases G;cases Z;obtain⟨_,_,p,_⟩:=I.list q;exact .none_list p.isList g
  |non => exact cQ G Z rfl rfl
  |bl b1=>exact cQ G Z rfl rfl
  |int F=>exact cQ G Z rfl rfl
  |str b=>exact cQ G Z rfl rfl
 |bl h=>
  cases he with
  |tup q r=>cases G;cases Z;obtain⟨_,_,p,_⟩:=I.tuple q;exact .bool_tuple _ p g
  |lst q r=>cases G;cases Z;obtain⟨_,_,p,_⟩:=I.list q;exact .bool_list _ p.isList g
  |non => exact cQ G Z rfl rfl
  |bl b1=>exact cQ G Z rfl rfl
  |int F=>exact cQ G Z rfl rfl
  |str b=>exact cQ G Z rfl rfl
 |int w=>
  cases he with
  |tup q r=>obtain⟨_,rfl⟩:=G;cases Z;obtain⟨_,_,p,_⟩:=I.tuple q;exact .int_tuple _ _ p g
  |lst q r=>obtain⟨_,rfl⟩:=G;cases Z;obtain⟨_,_,p,_⟩:=I.list q;exact .int_list _ _ p.isList g
  |non => exact cQ G Z rfl rfl
  |bl b1=>exact cQ G Z rfl rfl
  |int F=>exact cQ G Z rfl rfl
  |str b=>exact cQ G Z rfl rfl
 |str x0=>
  cases he with
  |tup q r=>obtain⟨_,rfl⟩:=G;cases Z;obtain⟨_,_,p,_⟩:=I.tuple q;exact .str_tuple _ _ p g
  |lst q r=>obtain⟨_,rfl⟩:=G;cases Z;obtain⟨_,_,p,_⟩:=I.list q;exact .str_list _ _ p.isList g
  |non => exact cQ G Z rfl rfl
  |bl b1=>exact cQ G Z rfl rfl
  |int F=>exact cQ G Z rfl rfl
  |str b=>exact cQ G Z rfl rfl
theorem Vals.LB(r:Vals xs us){j:Nat}(a:j<us.toArray.size):∃x,xs[j]?=some x/\RelV x us.toArray[j]:=by
 have hl:=r.length;have Y:j<us.length:=by simpa using a
 have hx:j<xs.length:=by lia
 obtain⟨u,e,G⟩:=r.get (QP hx);rw[QP Y] at e;cases e;exact⟨xs[j],QP hx,by simpa using G⟩
theorem fE.getD{K:Qr}{H:Hp}{xs:List V}{ds:List D}(r:fE K H xs ds){j:Nat}{x:V}(e:xs[j]?=some x):Den K H x (ds.getD j .non)/\D.depth (ds.getD j .non)<=D.gU ds:=by
 have a:j<ds.length:=by rw[<-r.len];exact(Qv.mp e).1
 have e2:=QP a;have N:ds.getD j .non=ds[j]:=by rw[R0,e2];rfl
 rw[N];exact⟨r.at j e e2,D.n0 j e2⟩
theorem jY(I:Inv X pins Y H s){n:Nat}(m:∀{A:XA}{x y:V}{d e:D}{u v:Value},A.units+n<cLine->D.depth d<=n->Den X.K H x d->Den X.K H y e->RelV x u->RelV y v->TU A s u v (D.eq d e))
  {A:XA}(g:A.units+(n+1)<cLine){ds es:List D}{vs:List Value}(hn:D.gU ds<=n)(r:fE X.K H xs ds)(q:fE X.K H ys es)(G:Vals xs us)(Z:Vals ys vs):
  ∀j (h1:j<us.toArray.size) (h2:j<vs.toArray.size),TU A.in1 s us.toArray[j] vs.toArray[j] (D.eq (ds.getD j .non) (es.getD j .non)):=λj h1 h2=>by
 obtain⟨x,ex,o⟩:=G.LB h1;obtain⟨y,B,z⟩:=Z.LB h2;obtain⟨C,F⟩:=r.getD ex;exact m (by show A.units+1+n<cLine;lia) (Q4 F hn) C (q.getD B).1 o z
theorem jI(I:Inv X pins Y H s):∀(n:Nat){A:XA}{x y:V}{d e:D}{u v:Value},A.units+n<cLine->D.depth d<=n->Den X.K H x d->Den X.K H y e->RelV x u->RelV y v->TU A s u v (D.eq d e):=by
 intro n;induction n with
 |zero=>
  intro A x y d e u v g hn hd he G Z;cases id hd with
  |tup=>simp[D.depth] at hn
  |lst=>simp[D.depth] at hn
  |_=>exact nR I g rfl hd he G Z
 |succ n m=>
  intro A x y d e u v g hn hd he G Z;have q:A.units<cLine:=by lia
  cases id hd with
  |@tup a xs ds E r=>
   cases G;obtain⟨us,Q,p,_⟩:=I.tuple E;cases id he with
   |@tup b ys es R l=>
    cases Z;obtain⟨vs,P,T,_⟩:=I.tuple R;by_cases S:a=b
    .subst S;rw[hd.inj I he,D.kJ];exact .same _
    .refine .of_refs S ?_;rw[show D.eq (.tup _) (.tup _)=_ from D.fR _ _];have h:us.toArray.size=ds.length:=by rw[Qy,<-Q.length,r.len]
     have t:vs.toArray.size=es.length:=by rw[Qy,<-P.length,l.len]
     rw[<-h,<-t];exact .tuples p T q (jY I m g (by simp only[D.depth] at hn;exact TH ‹_›) r l Q P)
   |@lst b ys es R l=>cases Z;obtain⟨vs,P,T,_⟩:=I.list R;exact .tuple_list p T.isList q
   |non => cases Z;exact .tuple_none p q
   |bl w=>cases Z;exact .tuple_bool _ p q
   |int B=>obtain⟨_,rfl⟩:=Z;exact .tuple_int _ _ p q
   |str x0=>obtain⟨_,rfl⟩:=Z;exact .tuple_str _ _ p q
  |@lst a xs ds E r=>
   cases G;obtain⟨us,Q,p,_⟩:=I.list E;cases id he with
   |@lst b ys es R l=>
    cases Z;obtain⟨vs,P,T,_⟩:=I.list R;by_cases S:a=b
    .subst S;rw[hd.inj I he,D.kJ];exact .same _
    .refine .of_refs S ?_;rw[show D.eq (.lst _) (.lst _)=_ from D.fR _ _];have h:us.toArray.size=ds.length:=by rw[Qy,<-Q.length,r.len]
     have t:vs.toArray.size=es.length:=by rw[Qy,<-P.length,l.len]
     rw[<-h,<-t];by_cases hl:us.toArray.size=vs.toArray.size
     .have e1:(us.toArray.size==vs.toArray.size)=true:=Y3.mpr hl;rw[e1,SH,<-hl,Vt];exact .lists p.isList T.isList hl q (jY I m g (by rw[D.depth] at hn;lia) r l Q P)
     .have e1:(us.toArray.size==vs.toArray.size)=false:=beq_eq_false_iff_ne.mpr hl;rw[e1,Uj];exact .lists_lengths p.isList T.isList (by simpa using hl) q
   |@tup b ys es R l=>cases Z;obtain⟨vs,P,T,_⟩:=I.tuple R;exact .list_tuple p.isList T q
   |non => cases Z;exact .list_none p.isList q
   |bl w=>cases Z;exact .list_bool _ p.isList q
   |int B=>obtain⟨_,rfl⟩:=Z;exact .list_int _ _ p.isList q
   |str x0=>obtain⟨_,rfl⟩:=Z;exact .list_str _ _ p.isList q
  |_=>exact nR I q rfl hd he G Z
end
section
variable{X:Cx}{pins:List (Addr×Obj)}{Y:St}{H:Hp}{s:Shared}
theorem AK(I:Inv X pins Y H s){n:Nat}{A:XA}{x y:V}{d e:D}{v:Value}(g:A.units+n<cLine)(hn:D.depth d<=n)(hd:Den X.K H x d)(he:Den X.K H y e)(G:RelV x u)(Z:RelV y v):SeqAt.RcAt A s u v (D.eq d e):=by
 have q:A.units<cLine:=by lia
 cases id hd with
 |non =>
  cases G;cases id he with
  |non => cases Z;exact .none_none
  |bl C=>cases Z;exact .none_bool _
  |int C=>obtain⟨_,rfl⟩:=Z;exact .none_int _ _
  |str C=>obtain⟨_,rfl⟩:=Z;exact .none_str _ _
  |@tup b ys es R l=>cases Z;obtain⟨_,_,T,_⟩:=I.tuple R;exact .none_tuple T q
  |@lst b ys es R l=>cases Z;obtain⟨_,_,T,_⟩:=I.list R;exact .none_list T.isList q
 |bl F=>
  cases G;cases id he with
  |non => cases Z;exact .bool_none _
  |bl C=>cases Z;exact .bool_bool _ _
  |int C=>obtain⟨_,rfl⟩:=Z;exact .bool_int _ _ _
  |str C=>obtain⟨_,rfl⟩:=Z;exact .bool_str _ _ _
  |@tup b ys es R l=>cases Z;obtain⟨_,_,T,_⟩:=I.tuple R;exact .bool_tuple _ T q
  |@lst b ys es R l=>cases Z;obtain⟨_,_,T,_⟩:=I.list R;exact .bool_list _ T.isList q
 |int F=>
  obtain⟨_,rfl⟩:=G;cases id he with
  |non => cases Z;exact .int_none _ _
  |bl C=>cases Z;exact .int_bool _ _ _
  |int C=>obtain⟨_,rfl⟩:=Z;exact .int_int _ _ _ _
  |str C=>obtain⟨_,rfl⟩:=Z;exact .int_str _ _ _ _
  |@tup b ys es R l=>cases Z;obtain⟨_,_,T,_⟩:=I.tuple R;exact .int_tuple _ _ T q
  |@lst b ys es R l=>cases Z;obtain⟨_,_,T,_⟩:=I.list R;exact .int_list _ _ T.isList q
 |str F=>
  obtain⟨_,rfl⟩:=G;cases id he with
  |non => cases Z;exact .str_none _ _
  |bl C=>cases Z;exact .str_bool _ _ _
  |int C=>obtain⟨_,rfl⟩:=Z;exact .str_int _ _ _ _
  |str C=>obtain⟨_,rfl⟩:=Z;exact .str_str _ _ _ _
  |@tup b ys es R l=>cases Z;obtain⟨_,_,T,_⟩:=I.tuple R;exact .str_tuple _ _ T q
  |@lst b ys es R l=>cases Z;obtain⟨_,_,T,_⟩:=I.list R;exact .str_list _ _ T.isList q
 |@tup a xs ds E r=>
  cases G;obtain⟨us,Q,p,_⟩:=I.tuple E;cases id he with
  |non => cases Z;exact .tuple_none p q
  |bl C=>cases Z;exact .tuple_bool _ p q
  |int C=>obtain⟨_,rfl⟩:=Z;exact .tuple_int _ _ p q
  |str C=>obtain⟨_,rfl⟩:=Z;exact .tuple_str _ _ p q
  |@tup b ys es R l=>
   cases Z;obtain⟨vs,P,T,_⟩:=I.tuple R;simp only[D.depth] at hn;obtain⟨n,rfl⟩:∃m,n=m+1:=⟨n-1,by lia⟩
   rw[show D.eq (.tup _) (.tup _)=_ from D.fR _ _];have h:us.toArray.size=ds.length:=by rw[Qy,<-Q.length,r.len]
   have t:vs.toArray.size=es.length:=by rw[Qy,<-P.length,l.len]
   rw[<-h,<-t];exact .tuples p T q (jY I (jI I n) g Q1 r l Q P)
  |@lst b ys es R l=>cases Z;obtain⟨_,_,T,_⟩:=I.list R;exact .tuple_list p T.isList q
 |@lst a xs ds E r=>
  cases G;obtain⟨us,Q,p,_⟩:=I.list E;cases id he with
  |non => cases Z;exact .list_none p.isList q
  |bl C=>cases Z;exact .list_bool _ p.isList q
  |int C=>obtain⟨_,rfl⟩:=Z;exact .list_int _ _ p.isList q
  |str C=>obtain⟨_,rfl⟩:=Z;exact .list_str _ _ p.isList q
  |@tup b ys es R l=>cases Z;obtain⟨_,_,T,_⟩:=I.tuple R;exact .list_tuple p.isList T q
  |@lst b ys es R l=>
   cases Z;obtain⟨vs,P,T,_⟩:=I.list R;rw[D.depth] at hn;obtain⟨n,rfl⟩:∃m,n=m+1:=⟨n-1,by lia⟩
   rw[show D.eq (.lst _) (.lst _)=_ from D.fR _ _];have h:us.toArray.size=ds.length:=by rw[Qy,<-Q.length,r.len]
   have t:vs.toArray.size=es.length:=by rw[Qy,<-P.length,l.len]
   rw[<-h,<-t];by_cases hl:us.toArray.size=vs.toArray.size
   .have e1:(us.toArray.size==vs.toArray.size)=true:=Y3.mpr hl;rw[e1,SH,<-hl,Vt];exact .lists p.isList T.isList hl q (jY I (jI I n) g Q1 r l Q P)
   .have e1:(us.toArray.size==vs.toArray.size)=false:=beq_eq_false_iff_ne.mpr hl;rw[e1,Uj];exact .lists_lengths p.isList T.isList (by simpa using hl) q
theorem tF(I:Inv X pins Y H s){n:Nat}{A:XA}{x y:V}{d e:D}{v:Value}(g:A.units+n<cLine)(hn:D.depth d<=n)(hd:Den X.K H x d)(he:Den X.K H y e)(G:RelV x u)(Z:RelV y v):SeqAt.RcNeAt A s u v (!D.eq d e):=by
 have q:A.units<cLine:=by lia
 cases id hd with
 |non =>
  cases G;cases id he with
  |non => cases Z;exact .none_none
  |bl C=>cases Z;exact .none_bool _
  |int C=>obtain⟨_,rfl⟩:=Z;exact .none_int _ _
  |str C=>obtain⟨_,rfl⟩:=Z;exact .none_str _ _
  |@tup b ys es R l=>cases Z;obtain⟨_,_,T,_⟩:=I.tuple R;exact .none_tuple T q
  |@lst b ys es R l=>cases Z;obtain⟨_,_,T,_⟩:=I.list R;exact .none_list T.isList q
 |bl F=>
  cases G;cases id he with
  |non => cases Z;exact .bool_none _
  |bl C=>cases Z;exact .bool_bool _ _
  |int C=>obtain⟨_,rfl⟩:=Z;exact .bool_int _ _ _
  |str C=>obtain⟨_,rfl⟩:=Z;exact .bool_str _ _ _
  |@tup b ys es R l=>cases Z;obtain⟨_,_,T,_⟩:=I.tuple R;exact .bool_tuple _ T q
  |@lst b ys es R l=>cases Z;obtain⟨_,_,T,_⟩:=I.list R;exact .bool_list _ T.isList q
 |int F=>
  obtain⟨_,rfl⟩:=G;cases id he with
  |non => cases Z;exact .int_none _ _
  |bl C=>cases Z;exact .int_bool _ _ _
  |int C=>obtain⟨_,rfl⟩:=Z;exact .int_int _ _ _ _
  |str C=>obtain⟨_,rfl⟩:=Z;exact .int_str _ _ _ _
  |@tup b ys es R l=>cases Z;obtain⟨_,_,T,_⟩:=I.tuple R;exact .int_tuple _ _ T q
  |@lst b ys es R l=>cases Z;obtain⟨_,_,T,_⟩:=I.list R;exact .int_list _ _ T.isList q
 |str F=>
  obtain⟨_,rfl⟩:=G;cases id he with
  |non => cases Z;exact .str_none _ _
  |bl C=>cases Z;exact .str_bool _ _ _
  |int C=>obtain⟨_,rfl⟩:=Z;exact .str_int _ _ _ _
  |str C=>obtain⟨_,rfl⟩:=Z;exact .str_str _ _ _ _
  |@tup b ys es R l=>cases Z;obtain⟨_,_,T,_⟩:=I.tuple R;exact .str_tuple _ _ T q
  |@lst b ys es R l=>cases Z;obtain⟨_,_,T,_⟩:=I.list R;exact .str_list _ _ T.isList q
 |@tup a xs ds E r=>
  cases G;obtain⟨us,Q,p,_⟩:=I.tuple E;cases id he with
  |non => cases Z;exact .tuple_none p q
  |bl C=>cases Z;exact .tuple_bool _ p q
  |int C=>obtain⟨_,rfl⟩:=Z;exact .tuple_int _ _ p q
  |str C=>obtain⟨_,rfl⟩:=Z;exact .tuple_str _ _ p q
  |@tup b ys es R l=>
   cases Z;obtain⟨vs,P,T,_⟩:=I.tuple R;simp only[D.depth] at hn;obtain⟨n,rfl⟩:∃m,n=m+1:=⟨n-1,by lia⟩
   rw[show D.eq (.tup _) (.tup _)=_ from D.fR _ _];have h:us.toArray.size=ds.length:=by rw[Qy,<-Q.length,r.len]
   have t:vs.toArray.size=es.length:=by rw[Qy,<-P.length,l.len]
   rw[<-h,<-t];exact .tuples p T q (jY I (jI I n) g Q1 r l Q P)
  |@lst b ys es R l=>cases Z;obtain⟨_,_,T,_⟩:=I.list R;exact .tuple_list p T.isList q
 |@lst a xs ds E r=>
  cases G;obtain⟨us,Q,p,_⟩:=I.list E;cases id he with
  |non => cases Z;exact .list_none p.isList q
  |bl C=>cases Z;exact .list_bool _ p.isList q
  |int C=>obtain⟨_,rfl⟩:=Z;exact .list_int _ _ p.isList q
  |str C=>obtain⟨_,rfl⟩:=Z;exact .list_str _ _ p.isList q
  |@tup b ys es R l=>cases Z;obtain⟨_,_,T,_⟩:=I.tuple R;exact .list_tuple p.isList T q
  |@lst b ys es R l=>
   cases Z;obtain⟨vs,P,T,_⟩:=I.list R;rw[D.depth] at hn;obtain⟨n,rfl⟩:∃m,n=m+1:=⟨n-1,by lia⟩
   rw[show D.eq (.lst _) (.lst _)=_ from D.fR _ _];have h:us.toArray.size=ds.length:=by rw[Qy,<-Q.length,r.len]
   have t:vs.toArray.size=es.length:=by rw[Qy,<-P.length,l.len]
   rw[<-h,<-t];by_cases hl:us.toArray.size=vs.toArray.size
   .have e1:(us.toArray.size==vs.toArray.size)=true:=Y3.mpr hl;rw[e1,SH,<-hl,Vt];exact .lists p.isList T.isList hl q (jY I (jI I n) g Q1 r l Q P)
   .have e1:(us.toArray.size==vs.toArray.size)=false:=beq_eq_false_iff_ne.mpr hl;rw[e1,Uj];exact .lists_lengths p.isList T.isList (by simpa using hl) q
def Li(K:Qr):R2:=λx y H Q=>∃d e,Den K H x d/\Den K H y e/\D.depth d<=40/\Q (.bl (D.eq d e)) H
def K7(K:Qr):R2:=λx y H Q=>∃d e,Den K H x d/\Den K H y e/\D.depth d<=40/\Q (.bl (!D.eq d e)) H
theorem Bk(g:X.A.units+64<cLine):iC X (XJ .Eq) (Li X.K):=by intro pins s Y H x y v u Q I o z h;obtain⟨d,e,hd,he,dp,q⟩:=h;exact AK I g Z5 hd he o z _ _ _ _ ⟨.bl _,H,I,rfl,q⟩
theorem Bs(g:X.A.units+64<cLine):iC X (XJ .NotEq) (K7 X.K):=by intro pins s Y H x y v u Q I o z h;obtain⟨d,e,hd,he,dp,q⟩:=h;exact tF I g Z5 hd he o z _ _ _ _ ⟨.bl _,H,I,rfl,q⟩
inductive HH(K:Qr)(H:Hp):V->Value->Prop where
 |of{v:V}{t:Value}(h:AZ K H v t):HH K H v t
 |tup{a:Addr}{xs:List V}(e:iL K H a xs):HH K H (.ref a) (.type "tuple")
 |lst{a:Addr}{xs:List V}(e:dM K H a xs):HH K H (.ref a) (.type "list")
 |dic{a:Addr}{kvs:List (Key×V)}(e:Rd H a (.dK kvs)):HH K H (.ref a) (.type "dict")
noncomputable def Gv:V->Value
 | .ref a=>.ref a
 | .ty n=>.type n
 |_=>.none
noncomputable def BP:V->Bool
 | .ref _=>true
 | .ty _=>true
 |_=>false
theorem CU{x:V}(h:BP x=true)(r:RelV x u):u=Gv x:=by cases x<;>first|exact r|cases h
theorem sC{pins:List (Addr×Obj)}{x:V}{t:Value}(I:Inv X pins Y H s)(r:RelV x u)(ty:HH X.K H x t):∃P,PySem.W.KitX X.K u t P/\P s.heap/\u≠.builtin "__main__.__loader__#opaque" := by
 cases ty with
 |tup e=>cases r;obtain⟨_,_,⟨o,h1,h2,_⟩,_⟩:=I.tuple e;exact⟨_,PySem.W.kitx_tuple,⟨o,h1,h2⟩,λz=>nomatch z⟩
 |lst e=>cases r;obtain⟨_,_,⟨o,_,h1,h2,_⟩,_⟩:=I.list e;exact⟨_,PySem.W.kitx_list,⟨o,h1,h2⟩,λz=>nomatch z⟩
 |dic e=>cases r;obtain⟨_,_,vs,_,o,es,v,h1,h2,_⟩:=ug I.hok e;exact⟨_,PySem.W.kitx_dict,⟨o,h1,h2.1⟩,λz=>nomatch z⟩
 |of h=>
  cases h with
  |non=>cases r;exact⟨_,PySem.W.kitx_none,trivial,λz=>nomatch z⟩
  |bl y=>cases r;exact⟨_,PySem.W.kitx_bool,trivial,λz=>nomatch z⟩
  |int i=>obtain⟨_,rfl⟩:=r;exact⟨_,PySem.W.kitx_int,trivial,λz=>nomatch z⟩
  |str i=>obtain⟨_,rfl⟩:=r;exact⟨_,PySem.W.kitx_str,trivial,λz=>nomatch z⟩
theorem zS:c6 X (.builtin "isinstance") (λxs H Q=>∃x c t b,xs=[x,c]/\HH X.K H x t/\BP c=true/\RY X.K t (Gv c)=some b/\Q (.bl b) H):=by intro pins s Y H xs us Q I r h;obtain⟨x,c,t,b,rfl,ty,hc,hk,q⟩:=h;obtain⟨u,w',rfl,G,E⟩:=vals2 r;rw[CU hc E];obtain⟨P,Z,p,v⟩:=sC I G ty;exact PySem.W.kia_one Z I.sO p hk v λtk=>⟨.bl b,H,I.tok tk,rfl,q⟩
end
theorem zX:Xq "len" = some (.builtin "len"):=by decide +kernel
theorem mM:Xq "isinstance" = some (.builtin "isinstance"):=by decide +kernel
theorem HZ:Xq "abs" = some (.builtin "abs"):=by decide +kernel
theorem Bi:Xq "max" = some (.builtin "max"):=by decide +kernel
theorem yo:Xq "min" = some (.builtin "min"):=by decide +kernel
theorem zY:Xq "any" = some (.builtin "any"):=by decide +kernel
theorem zo:Xq "int" = some (.type "int"):=by decide +kernel
theorem Ee:Xq "bool" = some (.type "bool"):=by decide +kernel
theorem J8:Xq "str" = some (.type "str"):=by decide +kernel
theorem rG:Xq "tuple" = some (.type "tuple"):=by decide +kernel
theorem kR:Xq "list" = some (.type "list"):=by decide +kernel
theorem D7:Xq "dict" = some (.type "dict"):=by decide +kernel
theorem Gy:Xq "zip" = some (.type "zip"):=by decide +kernel
theorem oQ:Xq "enumerate" = some (.type "enumerate"):=by decide +kernel
structure pZ(K:Qr)(x qual:Str)(st:Stmt)(f:Addr)(fd:XC)(dV:Value):Prop where
 ex:∃(oc:Value)(od:Option Addr)(kV doc pm:Value)(an:Option Addr)(cdv ct:Value)(osl:Array (Option Value)),
  fd=Ut x qual (dR st) (fz st) (bq st) dV kV doc pm an cdv ct/\K.lookup f=some ⟨oc,od,.func fd,osl⟩/\Ub K cdv qual=true
 kp:RX K (.ref f)=true
@[irreducible] def QS (X:Cx) (s:Stmt) (t:TS):Prop:=PS X s t
@[irreducible] def QT (X:Cx) (s:Expr) (t:TT):Prop:=PT X s t
@[irreducible] def QA (X:Cx) (s:List Expr) (t:TA):Prop:=PA X s t
set_option autoImplicit true
set_option relaxedAutoImplicit true
variable{elt:Expr}{scope:Scope}{pos:Pos}{env:Env}
section
variable{prog:Program}{w:Xz}{A:XA}{R:Result->Shared->Prop}{s:Shared}
theorem ph{q iter:Expr}{ifs:List Expr}{it acc:Value}(I:Nat->Shared->Prop)
  (turn:∀n s,I n s->Xu (Xv prog w) A (pyNext it) (λr Z=>match r with
   |none=>R (.ok .next) Z
   | some v=>Xu (Xv prog w) A (X4 q it v) (λ_ u=>Xu (Xv prog w) A (assign q env v) (λ_ T=>
     Xu (Xv prog w) A (forIn ifs true λc r=>if r=true then do let ok <- YJ c env (eval c env);pure (Ss ok) else pure (Ss r)) (λok U=>
      if ok=true then Xu (Xv prog w) A (eval elt env) (λx H=>Xu (Xv prog w) A (call (.builtin "list.append") [acc,x]) (λ_ K=>∃m,m<n/\I m K) (λ_ _=>False) H) (λ_ _=>False) U
      else ∃m,m<n/\I m U) (λ_ _=>False) T) (λ_ _=>False) u) (λ_ _=>False) Z) (λ_ _=>False) s)
  (n:Nat) (h:I n s):Yc (Xv prog w) A (.compLoop (.ListComp elt [⟨q,iter,ifs,0⟩] scope pos) 0 it acc env) R s:=by
 refine codeAny_loop rfl I (λn s J=>?_) n h;show Xu _ A ((compTurn (.ListComp elt [⟨q,iter,ifs,0⟩] scope pos) 0 it acc env).onRaise (λx=>do noteFrame x env;theTreesLotGoes x)) _ _ s;refine wpAny_noted ?_;rw[compTurn_list];refine Xp (Yg (Xp (XW (turn n s J) (λr Z X=>?_) λ_ _ h'=>h'.elim)));cases r with
 |none=>exact Xs X
 |some v=>
  refine Xp (XW X (λ_ u y=>?_) λ_ _ h'=>h'.elim);refine Xp (XW y (λ_ T D=>Xp (XW D (λok U Y=>?_) λ_ _ h'=>h'.elim)) λ_ _ h'=>h'.elim);cases ok with
  |false=>exact Xs ⟨rfl,Y⟩
  |true=>exact Xp (Xp (XW Y (λx H b=>Xp (XW b (λ_ K e=>Xs (Xs ⟨rfl,e⟩)) λ_ _ h'=>h'.elim)) λ_ _ h'=>h'.elim))
end
theorem lU{env:Env}{f:Str×NameKind->List (Str×Addr)->Sem (ForInStep (List (Str×Addr)))}
  (hf:∀x cs,f x cs=if (x.2==Su)=true then (do let c <- cellOf env x.1;pure (Ss ((x.1,c)::cs))) else pure (Ss cs)):
  ∀(l:List (Str×NameKind))(cs:List (Str×Addr)),(∀x∈l,x.2=.free->∃c,env.cells.lookup x.1=some c)->
   ∃cl,forIn l cs f=(pure cl:Sem _)/\(∀x c,cl.lookup x=some c->cs.lookup x=some c\/env.cells.lookup x=some c) /\
    (∀x,(∃c,cs.lookup x=some c)\/(x,Su)∈l->∃c,cl.lookup x=some c)
 |[],cs,_=>⟨cs,rfl,λ_ _ h=>.inl h,λx h=>h.elim id (λz=>by cases z)⟩
 |(n,k)::l,cs,h=>by
  simp only[Wb,hf];by_cases hk:k=.free
  .subst hk;obtain⟨c,hc⟩:=h (n,.free) QH rfl;obtain⟨cl,e,h1,h2⟩:=lU hf l ((n,c)::cs) λx hx=>h x (Qz _ hx);refine⟨cl,?_,λx i q=>?_,λx q=>h2 x ?_⟩
   .have e1:cellOf env n=pure c:=by delta cellOf;rw[hc]
    simp only[beq_self_eq_true,if_true,e1,pure_bind];exact e
   .rcases h1 x i q with z|z
    .dsimp only [QI] at z;by_cases hx:(x==n)=true
     .rw[hx] at z;have:x=n:=eq_of_beq hx;subst this;exact .inr (by rw[hc];exact z)
     .rw[Bool.eq_false_iff.mpr hx] at z;exact .inl z
    .exact .inr z
   .rcases q with ⟨i,z⟩|z
    .left;dsimp only [QI];cases x==n with
     |true=>exact⟨c,rfl⟩
     |false=>exact⟨i,z⟩
    .rcases QC.mp z with z|z
     .left;cases z;simp only[QI,beq_self_eq_true];exact⟨c,rfl⟩
     .exact .inr z
  .obtain⟨cl,e,h1,h2⟩:=lU hf l cs λx hx=>h x (Qz _ hx);refine⟨cl,?_,h1,λx q=>h2 x ?_⟩
   .have e1:((n,k).2==Su)=false:=by cases k<;>first|rfl|exact absurd rfl hk
    rw[e1];exact e
   .rcases q with z|z
    .exact .inl z
    .rcases QC.mp z with z|z
     .cases z;exact absurd rfl hk
     .exact .inr z
theorem tT(h:∀x∈scope.names,x.2=.free->∃c,env.cells.lookup x.1=some c):
  ∃cl,closureFor scope env=pure cl/\(∀x c,cl.lookup x=some c->env.cells.lookup x=some c)/\(∀x,(x,Su)∈scope.names->∃c,cl.lookup x=some c):=by
 obtain⟨cl,e,h1,h2⟩:=lU (λ_ _=>rfl) scope.names [] h;refine⟨cl,?_,λx c q=>(h1 x c q).elim (λz=>by cases z) id,λx q=>h2 x (.inr q)⟩;exact(Y2 (λz:Sem (List (Str×Addr))=>z >>= λr=>pure r) e).trans (by rw[pure_bind])
section
variable{env:Env}
noncomputable def rE(env:Env):Str×NameKind->Str×NameKind:=λ(n,k)=>if (k==.free&&env.scope.kind==.function&&env.kindOf n==some .cell) then (n,.cell) else (n,k)
theorem qI(p:Str×NameKind):(rE env p).1=p.1:=by obtain⟨n,k⟩:=p;show (if _ then _ else _:Str×NameKind).1=n;split<;>rfl
theorem rM(p:Str×NameKind):(rE env p).2=p.2\/(p.2=.free/\(rE env p).2=.cell):=by
 obtain⟨n,k⟩:=p;show (if _ then _ else _:Str×NameKind).2=k\/_;split
 .rename_i h;right;rw[Qq,Qq] at h;refine⟨eq_of_beq h.1.1,?_⟩;show (if _ then _ else _:Str×NameKind).2=_;rw[YY (by rw[Qq,Qq];exact h)]
 .left;rfl
theorem eD:∀{names:List (Str×NameKind)}{x:Str}{k:NameKind},names.lookup x=some k->(names.map (rE env)).lookup x=some k\/(k=.free/\(names.map (rE env)).lookup x=some .cell)
 |[],_,_,h=>by cases h
 |p::r,x,k,h=>by
  rw[Rf];obtain⟨n,s⟩:=p;have e1:=qI (env:=env) (n,s);have e2:=rM (env:=env) (n,s);generalize rE env (n,s)=q at e1 e2 ⊢;obtain⟨Q,v⟩:=q;subst e1;simp only[QI] at h ⊢;cases hx:x==Q with
  |true=>
   rw[hx] at h;cases h;rcases e2 with e2|⟨e2,N⟩
   .left;exact Y2 some e2
   .right;exact⟨e2,Y2 some N⟩
  |false=>rw[hx] at h;exact eD h
theorem cP:∀{names:List (Str×NameKind)}{x:Str}{k:NameKind},(names.map (rE env)).lookup x=some k->names.lookup x=some k\/(k=.cell/\names.lookup x=some .free)
 |[],_,_,h=>by cases h
 |p::r,x,k,h=>by
  rw[Rf] at h;obtain⟨n,s⟩:=p;have e1:=qI (env:=env) (n,s);have e2:=rM (env:=env) (n,s);generalize rE env (n,s)=q at e1 e2 h;obtain⟨Q,v⟩:=q;subst e1;simp only[QI] at h ⊢;cases hx:x==Q with
  |true=>
   rw[hx] at h;cases h;rcases e2 with e2|⟨e2,N⟩
   .left;exact Y2 some e2.symm
   .right;exact⟨N,Y2 some e2⟩
  |false=>rw[hx] at h;exact cP h
theorem hU{sc:Scope}{x:Str}(h:sc.names.lookup x=some .local):(relabel sc env).names.lookup x=some .local:=by
 rcases eD h with z|⟨z,_⟩
 .exact z
 .cases z
theorem Ap{sc:Scope}{x:Str}(h:sc.names.lookup x=some .globalImplicit):(relabel sc env).names.lookup x=some .globalImplicit:=by
 rcases eD h with z|⟨z,_⟩
 .exact z
 .cases z
theorem qB{sc:Scope}{x:Str}(h:sc.names.lookup x=some .free):jh (relabel sc env) x:=by
 rcases eD h with z|⟨_,z⟩
 .exact .inr (.inr z)
 .exact .inr (.inl z)
end
structure fO(N0 N:List Str)(k:Nat)(sc de:Scope):Prop where
 kind:sc.kind=.function
 cell:∀y∈sc.names,y.2≠.cell
 names:∀y∈sc.names,y.2=.local->sc.names.lookup y.1=some .local
 len:N.length=N0.length+k
 nd:N.Nodup
 old:∀p∈(N.take N0.length).zip N0,p.1=p.2\/sc.names.lookup p.1=none
 nl:∀n∈N.take N0.length,sc.names.lookup n≠some .local
 fr:∀y∈sc.names,y.2=.free->de.names.lookup y.1=some .cell\/de.names.lookup y.1=some .free
noncomputable def iX(X:Cx)(N:List Str)(sc:Scope)(cl:List (Str×Addr))(C:Addr)(s:Shared)(H:Hp)(ex:List Addr):Cx where
 prog:=X.prog
 w:=X.w
 K:=X.K
 mg:=X.mg
 base:=X.base
 A:=X.A
 N:=N
 s₀:=s
 H₀:=H
 env:=compEnvC sc cl C X.env
 outer:=X.stack
 stack:=X.stack
 ex:=ex
 fn:=λ_=>false
 calm:=X.calm
 pn:=[]
 xe:=λ_ _=>False
theorem mem_of_lookupK{names:List (Str×NameKind)}{x:Str}{k:NameKind}(h:names.lookup x=some k):(x,k)∈names:=Sb h
variable{j:St}
section
variable{X:Cx}{pins:List (Addr×Obj)}{Y:St}{H:Hp}{s:Shared}{N:List Str}{k:Nat}{sc:Scope}{cl:List (Str×Addr)}{C:Addr}{fp:List Addr}{h1:Heap}{tk:Nat}
theorem yK(I:Inv X pins Y H s)(S:fO X.N N k sc X.env.scope)(D:∀x c,cl.lookup x=some c->X.env.cells.lookup x=some c)
  (w:∀x,(x,Su)∈sc.names->∃c,cl.lookup x=some c)(T:s.heap.objs.size<=C)(hf:∀b∈fp,mP X pins H b)(h:∀b∈fp,b<s.heap.objs.size)
  (hk:∀b o,s.heap.get? b=some o->h1.get? b=some o)(hn:∃m,h1.Ns C m):
  Inv (iX X N sc cl C s H fp) (X.pn++pins) (Y++QD k none) H { s with heap:=h1,toks:=tk }:=by
 have B:∀b o,s.heap.get? b=some o->b≠C:=λb o e=>Q8 (QL (QM e) T);have kind:∀x,((iX X N sc cl C s H fp).env.kindOf x=some .cell\/(iX X N sc cl C s H fp).env.kindOf x=some .free)->sc.names.lookup x=some .free:=λx hx=>by
  rcases hx with hx|hx
  .rcases cP hx with z|⟨_,z⟩
   .exact absurd rfl (S.cell _ (mem_of_lookupK z))
   .exact z
  .rcases cP hx with z|⟨z,_⟩
   .exact z
   .cases z
 refine⟨⟨I.ok.mod,S.kind,I.ok.glob,I.ok.blt,T,λx y c h1 h2=>I.ok.inj x y c (D _ _ h1) (D _ _ h2),λx hx=>w x (mem_of_lookupK (kind x hx)),λx c z _=>absurd (z) Rk,
  I.ok.hd,I.ok.frames,.inl rfl,λb E=>⟨Q8 (QL (h b E) T),λx c e=>(hf b E).2.2.2.2.1 x c (D _ _ e)⟩,I.bs,Q4 I.ok.bsz I.sz,λb o e E=>?_,λb E t=>?_,I.stack,I.vb⟩,
  rfl,I.bare,Un.kept hk,?_,λx c e=>?_,I.hok.fresh T,λx c e=>I.freeC x c (D _ _ e),λp hp=>?_,I.hok.kept hk,?_⟩
 .rcases(hf b E).2.2.2.1 with z|z
  .exact I.ok.noex b o e z
  .exact absurd (QL (QM e) (Q4 I.ok.bsz z)) (QU _)
 .rcases QC.mp (I.jJ b t) with z|z
  .exact(hf b E).2.1 z
  .exact(hf b E).2.2.1 z
 .obtain⟨m,hn⟩:=hn;refine⟨m,hn,λi x v e1 e2 Q=>?_⟩;have hi:i<Y.length:=by
   by_cases hi:i<Y.length
   .exact hi
   .rw[Rl (by exact Tt.mp ‹_›),TM] at e2;split at e2<;>cases e2
  rw[RE hi] at e2;have a:i<X.N.length:=by rw[<-I.len];exact hi
  have q:(N.take X.N.length)[i]?=some x:=by rw[TJ a];exact e1
  have F:=S.nl x (Rq q);have K:sc.names.lookup x=some .free:=by
   rcases Q with z|z|z
   .rcases cP z with z|⟨z,_⟩
    .exact absurd z F
    .cases z
   .exact kind x (.inl z)
   .exact kind x (.inr z)
  have Z:X.N[i]?=some x:=by
   have hz:((N.take X.N.length).zip X.N)[i]?=some (x,X.N[i]):=by rw[Sz];exact⟨q,QP a⟩
   rcases S.old _ (Rq hz) with z|z
   .have z:x=X.N[i]:=z;simp only[QP a,<-z]
   .have z:=z;rw[K] at z;cases z
  obtain⟨G,O,R⟩:=I.loc;have L:jh X.env.scope x:=by
   rcases S.fr _ (mem_of_lookupK K) rfl with z|z
   .exact .inr (.inl z)
   .exact .inr (.inr z)
  obtain⟨u,r,l⟩:=R i x v Z e2 L;refine⟨u,r,.inr ⟨?_,?_⟩⟩
  .rcases qB K with z|z|z
   .rcases cP z with z | ⟨z,_⟩
    .rw [K] at z; cases z
    .cases z
   .exact .inl z
   .exact .inr z
  .rcases l with ⟨z,_⟩|⟨_,c,f,A⟩
   .have z:X.env.scope.names.lookup x=some .local:=z;rcases S.fr _ (mem_of_lookupK K) rfl with J|J
    .have J:=J;rw[z] at J;cases J
    .have J:=J;rw[z] at J;cases J
   .obtain⟨U,P⟩:=w x (mem_of_lookupK K);have:=D _ _ P;rw[f] at this;cases this;obtain⟨o,ho,hd⟩:=A;exact⟨c,P,o,hk _ _ ho,hd⟩
 .obtain⟨v,o,ho,hd⟩:=I.cell x c (D _ _ e);exact⟨v,o,hk _ _ ho,hd⟩
 .have hp:=hp;obtain⟨e,n,ne,nf,d⟩:=I.pin p hp;refine⟨hk _ _ e,n,B _ _ e,λE=>?_,d⟩;rcases QC.mp (I.jJ _ E) with z|z
  .exact ne z
  .exact nf z
 .show (Y++QD k none).length=N.length;simp only[QO,Ug,I.len,S.len]
theorem Bz{H':Hp}{s':Shared}{D:Addr}{x:List Value}(I:Inv X pins Y H s)(a:Inv (iX X N sc cl C s H fp) (X.pn++pins) j H' s')(K:s.heap.objs.size<=D)(y:H' D=none)
  (pl:s'.heap.PlainList D x.toArray)(Z:Vals ys x)(hl:ys.length<=sizeLine)(hf:∀b∈fp,mP X pins H b):Inv X pins Y (upd H' D (.lst ys)) s':=by
 obtain⟨n,Q⟩:=pl;have u:=a.base;have ne:∀b o,s.heap.get? b=some o->b≠D:=λb o e=>Q8 (QL (QM e) K);have r:∀b o,H' b=some o->b≠D:=λb o e=>aI e y;refine I.Mu a.os ⟨u.keep,u.slot,λb o e n nx=>?_,u.there,λb xs e=>?_,λb o v e=>?_,λb ps e=>?_⟩ (λb o e=>?_) a.bare (ch:=fp) λb d=>?_
 .rw[aj (ne b o e)];exact u.free b o e n nx
 .have:=u.tups b xs e;rw[aj (r _ _ this)];exact this
 .have:=u.frzs b o v e;rw[aj (r _ _ this)];exact this
 .obtain⟨more,this⟩:=u.tbls b ps e;exact⟨more,by rw[aj (r _ _ this)];exact this⟩
 .by_cases d:b=D
  .subst d;rw[aM] at e;cases e;exact⟨hl,x,n,Z,Q⟩
  .rw[aj d] at e;exact(a.hok b o e).jt (λ_ _ _ q=>q) (λc q=>by rw[aj (r _ _ q)];exact q) λc xs q=>by rw[aj (r _ _ q)];exact q
 .obtain⟨t,B,L,S,i,F⟩:=hf b d;exact⟨S,B,i,F⟩
end
variable{X:Cx}{pins:List (Addr×Obj)}{Y:St}{H:Hp}{s:Shared}
theorem Inv.tX(I:Inv X pins Y H s){a:Addr}(h:s.heap.objs.size<=a):a∉kD X.stack:=λd=>by
 rcases QC.mp (I.jJ a d) with z|z
 .exact absurd (QL I.lt (by simp only[<-z];exact h)) (QU _)
 .exact I.KS h z
def PF(X:Cx)(ifs:List Expr)(t:TT):Prop:=∀(pins:List (Addr×Obj))(s:Shared)(Y:St)(H:Hp)(Q:Bool->Hp->Prop),Inv X pins Y H s->t Y H Q->
 Xu (Xv X.prog X.w) X.A (forIn ifs true λc r=>if r=true then do let ok <- YJ c X.env (eval c X.env);pure (Ss ok) else pure (Ss r)) (TP X pins Y Q) X.xe s
noncomputable def Nc:TT:=λ_ H Q=>Q true H
theorem Jb:PF X [] Nc:=λ_ _ _ H _ I h=>wpAny_tests_nil ⟨H,I,h⟩
theorem Ii{c:Expr}{t:TT}(hc:PT X c t):PF X [c] t:=λpins s Y H Q I h=>wpAny_tests_one (hc pins s Y H Q I h)
def yW(J:It)(g:TG)(X:TT)(s:TE)(Q:VK)(Y:St)(H:Hp):Prop:=∃W:Nat->Nat->St->List V->Hp->Prop,(∃m,W 0 m Y [] H)/\∀i m Y ys H,W i m Y ys H->ys.length<=sizeLine /\
  ((J.stop i H/\∀r,H r=none->Q (.ref r) (upd H r (.lst ys))) \/
   (J.go i H/\∃N:St->List V->Hp->Prop,(∀j u H',N j u H'->∃I,I<m/\W (i+1) I j u H') /\
     ∀x H',J.yld i H x H'->g x Y H' λP U=>X P U λb w=>if b=true then s P w λy e=>N P (ys++[y]) e else N P ys w))
noncomputable def As(n:Nat)(D:TI)(g:TG)(X:TT)(s:TE):TE:=λY H Q=>D Y H λJ V=>yW J g X s Q (Y++QD n none) V
section
variable{X:Cx}{pins:List (Addr×Obj)}{Y:St}{H:Hp}{s:Shared}{N:List Str}{k:Nat}{sc:Scope}{cl:List (Str×Addr)}{C:Addr}{fp:List Addr}{J:It}{it:Addr}{tn:Nat->Heap->Prop}
 {tg elt iter:Expr} {ifs:List Expr} {pos:Pos} {g:TG} {tt:TT} {te:TE} {Q:VK} {E:Value->Shared->Prop} {RR:Value->Addr->Result->Shared->Prop}
theorem lB(hc:X.calm=true)(S:fO X.N N k sc X.env.scope)(L:∀x c,cl.lookup x=some c->X.env.cells.lookup x=some c)
  (hcl2:∀x,(x,Su)∈sc.names->∃c,cl.lookup x=some c)(I:Inv X pins Y H s)(T:Turn X.prog X.w X.K tg J fp it tn)(st:tn 0 s.heap)(hf:∀b∈fp,mP X pins H b)
  (B:yW J g tt te Q (Y++QD k none) H)
  (hg:∀C,PG (iX X N sc cl C s H fp) tg g)(ht:∀C,PF (iX X N sc cl C s H fp) ifs tt)(he:∀C,PE (iX X N sc cl C s H fp) elt te)
  (hRR:∀D C s' H' ys,Inv X pins Y (upd H' D (.lst ys)) s'->s.heap.objs.size<=C->upd H' D (.lst ys) C=none->(∃m,s'.heap.Ns C m)->Q (.ref D) (upd H' D (.lst ys))->RR (.ref D) C (.ok .next) s'):
  Xu (Xv X.prog X.w) X.A (newList []) (λacc U=>Xu (Xv X.prog X.w) X.A (newFunctionEnv sc X.env.globals cl [] X.env.qual none .none (some X.env)) (λcenv s₄=>Yc (Xv X.prog X.w) X.A (.compStart (.ListComp elt [⟨tg,iter,ifs,0⟩] sc pos) 0 (.ref it) acc { cenv with scope:=relabel sc X.env }) (RR acc cenv.locals) s₄) E U) E s:=by
 refine XN (wpAny_newFunctionEnv S.cell (by intro y hy;simp at hy) (λh₁ R Z=>?_) S.kind);generalize hH2:s.heap.push { cls:=.type "list",dict:=none,data:=.seq ([]:List Value).toArray }=H2 at R Z ⊢;have hC:H2.objs.size=s.heap.objs.size+1:=by rw[<-hH2,Sr]
 have F:s.heap.objs.size≠H2.objs.size:=by rw[hC];exact Q8 (Rc _)
 have h:s.heap.objs.size<=H2.objs.size:=by simp only[hC];exact Ul _
 have below:∀b,b<s.heap.objs.size->b≠H2.objs.size/\b≠s.heap.objs.size:=λb P=>⟨by rw[hC];exact Q8 (QQ P),Q8 P⟩
 have old:=λb o e=>Z.extBut b o (below b (QM e)).1 (QG _ (hH2▸QG _ e));have hacc:h₁.PlainList s.heap.objs.size #[]:=⟨_,Z.extBut _ _ F (QG _ (hH2▸Q5 _ rfl))⟩
 have O:=λb P=>let ⟨o,e,_⟩:=T.obj 0 _ st b P;QM e
 have st1:=T.keep _ _ _ st λb P o e=>old b o e;have I0:=yK (tk:=s.toks+([]:List (Str×Value)).length) I S L hcl2 h hf O old ⟨_,R⟩;generalize H2.objs.size=C at R Z hC F h below I0 ⊢;generalize hD:s.heap.objs.size=D at hC F h below hacc O ⊢;have a:s.heap.objs.size<=D:=by rw[hD];exact QB _
 have f:∀{H':Hp}{o:Obj},(∀b∈fp,H' b=none)->∀b∈fp,mP (iX X N sc cl C s H fp) ((X.pn++pins)++[(D,o)]) H' b:=λ{H' o} hn b P=>by
  obtain⟨f0,f1,f2,f3,f4,f5⟩:=hf b P;refine⟨hn b P,(below b (O b P)).1,λz=>?_,.inl P,λx c e=>f4 x c (L _ _ e),λp hp=>?_⟩
  .rcases QC.mp (I.jJ b z) with z|z
   .exact f1 z
   .exact f2 z
  .have hp:p∈(X.pn++pins)++[(D,o)]:=hp;rcases Qx.mp hp with z|z
   .exact f5 p z
   .have:p=(D,o):=by simpa using z
    rw[this];exact Rz (below b (O b P)).2
 have loop:∀U:Shared,U={ s with heap:=h₁,toks:=s.toks+([]:List (Str×Value)).length }->
   Yc (Xv X.prog X.w) X.A (.compLoop (.ListComp elt [⟨tg,iter,ifs,0⟩] sc pos) 0 (.ref it) (.ref D) (compEnvC sc cl C X.env)) (RR (.ref D) C) U:=by
  rintro U rfl;obtain⟨W,⟨m0,w0⟩,step⟩:=B;refine ph (λn s'=>∃i j H' ys t,Inv (iX X N sc cl C s H fp) (X.pn++pins) j H' s'/\tn i s'.heap/\(∀b∈fp,H' b=none)/\H' D=none/\s'.heap.PlainList D (t:List Value).toArray/\Vals ys t/\W i n j ys H') ?_ m0
   ⟨0,_,H,[],[],I0,st1,λb P=>(hf b P).1,I.hok.fresh a,hacc,.nil,w0⟩
  rintro n s3 ⟨i,V,H3,ys,t,I3,st3,fr3,hD3,⟨nn,pl3⟩,l,w3⟩;obtain⟨hl,cs⟩:=step i n V ys H3 w3;have pinD:∀{j:St}{H':Hp}{s':Shared}{o:Obj},Inv (iX X N sc cl C s H fp) (X.pn++pins) j H' s'->H' D=none->s'.heap.get? D=some o->(∀v,o.data≠.cell v)->Inv (iX X N sc cl C s H fp) ((X.pn++pins)++[(D,o)]) j H' s':=λ{j H' s' o} I' hn e d=>
   I'.pI λp hp=>(Qx.mp hp).elim (λz=>I'.pin p (Qs _ z)) λz=>by
    have:p=(D,o):=by simpa using z
    subst this;exact⟨e,hn,F,λz=>I.tX a z,d⟩
  have I3p:=pinD I3 hD3 pl3 λv z=>by cases z
  rcases cs with ⟨stop,q⟩|⟨go,NN,hN,nx⟩
  .refine cC (T.done (iX X N sc cl C s H fp) rfl rfl rfl hc i _ s3 V H3 _ I3p (f fr3) st3 stop) λr s4 ⟨hr,I4⟩=>?_;subst hr;have d4:=I4.pin (D,_) (Qs _ (Qs _ (QR.mpr rfl)));have I5:=Bz I I4.d5 a d4.2.1 ⟨nn,d4.1⟩ l hl hf;refine hRR D C s4 H3 ys I5 (by rw[hD];exact h) ?_ (let ⟨m,hm,_⟩:=I4.loc;⟨m,hm⟩) (q D d4.2.1);rw[aj (Rz F)];exact I4.free
  .refine cC (T.item (iX X N sc cl C s H fp) rfl rfl rfl hc i _ s3 V H3 _ I3p (f fr3) st3 go) λr s4 ⟨u,hr,h4⟩=>?_;subst hr;refine cC h4 λ_ s5 ⟨x,H5,I5,r5,y5,st5,fr5⟩=>?_;have I5':=I5.pinned (f fr5) (T.obj _ _ st5);refine cC (hg C _ s5 V H5 x u _ I5' r5 (nx x H5 y5)) λ_ s6 ⟨G,H6,I6,q6⟩=>?_;refine cC (ht C _ s6 G H6 _ I6 q6) λb s7 ⟨H7,I7,q7⟩=>?_;have itK:∀{s8:Shared}{H8:Hp},Inv (iX X N sc cl C s H fp) (((X.pn++pins)++[(D,({ cls:=.type "list",data:=.seq t.toArray nn }:Obj))])++mj fp s5.heap) G H8 s8->tn (i+1) s8.heap/\∀b∈fp,H8 b=none:=λ{s8 H8} I8=>by refine⟨T.keep _ _ _ st5 λb P o e=>(I8.pin (b,o) (Qs _ (Qs _ (f6 P e)))).1,λb P=>?_⟩;obtain⟨o,e,d⟩:=T.obj _ _ st5 b P;exact(I8.pin (b,o) (Qs _ (Qs _ (f6 P e)))).2.1
   cases b with
   |false=>obtain⟨m',hm,w7⟩:=hN _ _ _ q7;obtain⟨t7,f7⟩:=itK I7;have d7:=I7.pin (D,_) (Qs _ (Qu _ (Qs _ (QR.mpr rfl))));exact⟨m',hm,i+1,G,H7,ys,t,I7.d5.d5,t7,f7,d7.2.1,⟨nn,d7.1⟩,l,w7⟩
   |true=>
    refine cC (he C _ s7 G H7 _ I7 q7) λyv s8 ⟨y,H8,I8,r8,q8⟩=>?_;obtain⟨m',hm,w9⟩:=hN _ _ _ q8;obtain⟨t8,f8⟩:=itK I8;have d8:=I8.pin (D,_) (Qs _ (Qu _ (Qs _ (QR.mpr rfl))));refine wpAny_list_append_plain (hsz:=by simp only[Qy,<-l.length];exact hl) ⟨nn,d8.1⟩ λh9 pl9 sb9=>?_;have I9:=I8.d5.d5.turned (t':=s8.toks) (λb o P e=>(sb9.2 b P).trans e) d8.2.1 F (.inr a) (λx c e z=>?_) (λp hp z=>?_)
    .refine⟨m',hm,i+1,G,H8,ys++[y],t++[yv],I9,T.keep _ _ _ t8 λb P o e=>(sb9.2 b (below b (O b P)).2).trans e,f8,d8.2.1,?_,l.append (.cons r8 .nil),w9⟩;rw[<-List.push_toArray];exact pl9
    .obtain⟨v,q⟩:=I.cell x c (L _ _ e);exact absurd (QL q.lt (by rw[z];exact a)) (QU _)
    .have hp:=hp;exact absurd (QL (QM (I.pin p hp).1) (by rw[z];exact a)) (QU _)
 exact codeAny_compStart_list (loop _ rfl) (T.self _ _ _ _ _ st1 (loop _ rfl))
end
variable{px:Pos}
section
variable{X:Cx}{N:List Str}{k:Nat}{sc:Scope}{tg elt iter:Expr}{ifs:List Expr}{pos:Pos}{g:TG}{tt:TT}{te:TE}{wi:TI}
theorem lM(I:Inv X pins Y H s)(S:fO X.N N k sc X.env.scope):
  ∃cl,closureFor sc X.env=pure cl/\(∀x c,cl.lookup x=some c->X.env.cells.lookup x=some c)/\(∀x,(x,Su)∈sc.names->∃c,cl.lookup x=some c):=
 tT λx hx e=>I.ok.has x.1 (S.fr x hx e)
theorem Inv.letGo{H0:Hp}{u:Shared}{h':Heap}(r:Inv X pins Y H0 u)(I:Inv X pins j H s)(T:u.heap.objs.size<=C)(hn:H C=none)(sb:UG C s.heap h'):Inv X pins j H { s with heap:=h' }:=
 I.turned (t':=s.toks) (it:=C) (λb o d e=>(sb.2 b d).trans e) hn (T8 (QL r.lt T)) (.inr (Q4 r.sz T))
  (λx c e z=>by obtain⟨v,q⟩:=r.cell x c e;exact absurd (QL q.lt (by rw[z];exact T)) (QU _))
  (λp hp z=>absurd (QL (QM (r.pin p hp).1) (by rw[z];exact T)) (QU _))
theorem Dm(hc:X.calm=true)(S:fO X.N N k sc X.env.scope)(hi:PI X tg iter wi)(hg:∀cl C s H fp,PG (iX X N sc cl C s H fp) tg g)(ht:∀cl C s H fp,PF (iX X N sc cl C s H fp) ifs tt)
  (he:∀cl C s H fp,PE (iX X N sc cl C s H fp) elt te)(hs:∀x,XG iter X.env x=pure x:=by intro _;rfl):PE X (.ListComp elt [⟨tg,iter,ifs,0⟩] sc pos) (As k wi g tt te):=by
 intro pins s Y H Q I h;obtain⟨cl,hclos,h1,h2⟩:=lM I S;rw[eval_ListComp];refine Yh (use:=none) rfl hs hclos S.kind S.names (cC (hi pins s Y H _ I h) λv s1 q1=>cC q1 λitv s2 q2=>?_);obtain⟨it,fp,tn,J,H2,rfl,I2,T,st2,f2,B⟩:=q2;refine lB (RR:=λacc C=>compPost (Xv X.prog X.w) X.A X.xe none (EP X pins Y Q) acc C) hc S h1 h2 I2 T st2 f2 B (λC=>hg cl C s2 H2 fp) (λC=>ht cl C s2 H2 fp) (λC=>he cl C s2 H2 fp) ?_;intro D C s' H' ys I' hC hn hm q;obtain⟨m,hm⟩:=hm;exact⟨m,hm,λh' sb=>⟨.ref D,_,I2.letGo I' hC hn sb,rfl,q⟩⟩
theorem Em{i:Nat}{x:Str}{spos:Pos}(hc:X.calm=true)(S:fO X.N N k sc X.env.scope)(hN:X.N.Nodup)(hx:X.N[i]?=some x)(hl:X.env.scope.names.lookup x=some .local)
  (hsw:XH (.ListComp elt [⟨tg,iter,ifs,0⟩] sc pos) (some (.Name x px)) spos.line X.env=pure true)(hi:PI X tg iter wi)(hg:∀cl C s H fp,PG (iX X N sc cl C s H fp) tg g)(ht:∀cl C s H fp,PF (iX X N sc cl C s H fp) ifs tt)
  (he:∀cl C s H fp,PE (iX X N sc cl C s H fp) elt te)(hs:∀x,XG iter X.env x=pure x:=by intro _;rfl):PS X (.Assign [.Name x px] (.ListComp elt [⟨tg,iter,ifs,0⟩] sc pos) spos) (rl (As k wi g tt te) (xW i)):=by
 intro pins s Y H D0 I h;obtain⟨cl,hclos,h1,h2⟩:=lM I S;rw[exec_Assign_Name_used _ _ _ _ hsw];refine Xp (Yg (Xp ?_));show Xu _ X.A (do let _ <- comprehension (.ListComp elt [⟨tg,iter,ifs,0⟩] sc pos) sc X.env _ (newList []) false (eval iter X.env) (some (assign (.Name x px) X.env))) _ _ s;refine Xp (cC (Yh (use:=some (assign (.Name x px) X.env)) (Q:=λ_ s'=>SP X pins D0 .next s') rfl hs hclos S.kind S.names
  (cC (hi pins s Y H _ I h) λv s1 q1=>cC q1 λitv s2 q2=>?_)) λ_ s' hq=>Xs (Xs hq))
 obtain⟨it,fp,tn,J,H2,rfl,I2,T,st2,f2,B⟩:=q2;refine lB (RR:=λacc C=>compPost (Xv X.prog X.w) X.A X.xe (some (assign (.Name x px) X.env)) (λ_ s'=>SP X pins D0 .next s') acc C) hc S h1 h2 I2 T st2 f2 B (λC=>hg cl C s2 H2 fp) (λC=>ht cl C s2 H2 fp) (λC=>he cl C s2 H2 fp) ?_;intro D C s' H' ys I' hC hn hm q;obtain⟨m,hm⟩:=hm;show Xu _ X.A (assign (.Name x px) X.env (.ref D)) _ _ _;refine YD (ot I' hN hx (.inl hl) (v:=.ref D) rfl (λs'' I'' ch=>?_) (.inr hl));obtain⟨a,sb,ha⟩:=ch;refine⟨m,hm.sameBut sb ?_,λh' sb'=>⟨_,_,I2.letGo I'' hC hn sb',q⟩⟩;rintro rfl;rcases ha with z|z
 .exact absurd (QL I2.lt (by rw[<-z];exact hC)) (QU _)
 .obtain⟨v,q⟩:=I2.cell x _ z;exact absurd (QL q.lt hC) (QU _)
end
theorem sQ{gs:List Yi}{sc:Scope}{x:Str}{line:Nat}(h1:env.blockKind=.function)(h2:env.kindOf x=some .local)(h3:(px.line==pos.line)=true)
  (h4:(sc.names.any λp=>p.1==x&&(p.2==.local || p.2==.cell))=false):XH (.ListComp elt gs sc pos) (some (.Name x px)) line env=pure true:=by
 unfold XH;show (pure (env.blockKind==.function&&env.kindOf x==some .local&&px.line==pos.line&&!(sc.names.any λp=>p.1==x&&(p.2==.local || p.2==.cell))):Sem Bool)=pure true;rw[h1,h2,h3,h4];rfl
section
variable{X:Cx}{tg:Expr}
def L5(K:Qr)(tl:TE):TI:=λY H R=>tl Y H λx V=>∃a,x=.ref a/\(((∃xs,dM K V a xs)/\R (PJ K a) V)\/((∃xs,iL K V a xs)/\R (Px K a) V))
theorem CI{l:Expr}{tl:TE}(hl:PE X l tl):PI X tg l (L5 X.K tl):=by
 intro pins s Y H R I h;refine cC (hl pins s Y H _ I h) λv s1 ⟨x,V,O,g,u⟩=>?_;rcases u with ⟨a,e,⟨⟨xs,r⟩,q⟩|⟨⟨xs,r⟩,q⟩⟩
 .subst e;cases g;obtain⟨j,Z,p,hz⟩:=O.list r;refine XR p.isList ?_;refine⟨s1.heap.objs.size,[s1.heap.objs.size],_,_,V,rfl,O.kept λb o e=>QG _ e,wc a _,⟨_,Q5 _ rfl,rfl,rfl⟩,λb d=>?_,q⟩;have e:b=s1.heap.objs.size:=by simpa using d
  subst e;exact O.wt (QB _) (O.hok.fresh (QB _))
 .subst e;cases g;obtain⟨j,Z,p,hz⟩:=O.tuple r;refine wpAny_pyIter_tuple (p) ?_;refine⟨s1.heap.objs.size,[s1.heap.objs.size],_,_,V,rfl,O.kept λb o e=>QG _ e,ue a _,⟨_,Q5 _ rfl,rfl,rfl⟩,λb d=>?_,q⟩;have e:b=s1.heap.objs.size:=by simpa using d
  subst e;exact O.wt (QB _) (O.hok.fresh (QB _))
def Ku(K:Qr)(g:List Bool->Bool):List V->Hp->VK->Prop:=λxs H Q=>∃p ys bs,xs=[.ref p]/\dM K H p ys/\ys=bs.map V.bl/\Q (.bl (g bs)) H
theorem range_any{bs:List Bool}{tr:Nat->Bool}(h:∀i b,bs[i]?=some b->tr i=b):(QK bs.length).any tr=bs.any id:=by
 have:(QK bs.length).map tr=bs:=by
  apply R6;intro i;rw[Q0];by_cases hi:i<bs.length
  .rw[Sf hi,QP hi,VU,h i _ (QP hi)]
  .rw[RQ (by simpa using hi),RQ (by simpa using hi)];rfl
 calc (QK bs.length).any tr=((QK bs.length).map tr).any id:=by simp only[Vr];rfl
  _=bs.any id:=by rw[this]
theorem zM(hc:X.calm=true):c6 X (.builtin "any") (Ku X.K λbs=>bs.any id):=by
 intro pins s Y H xs us Q I r h;obtain⟨p,ys,bs,rfl,l,rfl,q⟩:=h;obtain⟨u,rfl,t⟩:=vals1 r;cases t;obtain⟨j,r',pl,hz⟩:=I.list l;have y:=r'.length;refine call_any_walk (XR pl.isList ?_);refine⟨s.heap.objs.size,_,_,_,_,_,(λi=>bs.getD i false),rfl,UZ (A:=X.A.in1) (I.ok.hd hc) _ p (by obtain⟨o,ho,_⟩:=pl.isList;exact Q8 (QM ho)) j.toArray,⟨⟨_,Q5 _ rfl,rfl,rfl⟩,pl.isList.at λo e=>QG _ e⟩,λi v s1 n C m S=>?_,λh' tk hk=>?_⟩
 .have c:j[i]?=some v:=by simpa using m
  cases R:bs[i]? with
  |none=>have h1:=Sy.mp R;have h2:=(Qv.mp c).1;rw[Qt] at y;lia
  |some b=>
   obtain⟨u,g,G⟩:=r'.get (i:=i) (x:=.bl b) (by rw[Q0,R];rfl);rw[c] at g;cases g;cases G;have:bs.getD i false=b:=by rw[R0,R];rfl
   replace S:n (bs.getD i false) s1:=S
   rw[this] at S;exact Xs S
 .have e1:j.toArray.size=bs.length:=by simp at y ⊢;lia
  rw[e1,range_any (bs:=bs) λi b e=>by show bs.getD i false=b;rw[R0,e];rfl];exact⟨.bl _,H,I.kept (t':=tk) λb o e=>hk b o (λz=>by have:=QR.mp z;subst this;exact absurd (QM e) (QU _)) (QG _ e),rfl,q⟩
end
end L2
namespace W
variable{q:Int}
theorem gQ(p:Int)(h:q<0):q<p.fmod q/\p.fmod q<=0:=by
 rw[Int.fmod_eq_emod];have h2:=Int.emod_lt_of_neg p h;by_cases d:q ∣ p
 .rw[YY (WC d),Int.emod_eq_zero_of_dvd d];lia
 .rw[YZ (by intro z;rcases z with z|z;lia;exact d z)];omega
theorem yT(p:Int)(h:q≠0):(p.fmod q).natAbs<q.natAbs:=by
 rcases UC h with z|z
 .have:=gQ p z;lia
 .have h1:=UD p z;have h2:=SV p z;lia
theorem qA(p q:Int):S6 q (p.fmod q)=S6 p q:=by
 have h:p.fmod q=p-p.fdiv q*q:=by rw[Int.fmod_def,Rh]
 simp only[h,Int.gcd_sub_mul_right_right,UN]
noncomputable def cd(x y:Int):Int:=if y<0 then -(S6 x y:Int) else (S6 x y:Int)
variable{p:Int}
theorem Eo(h:q≠0)(z:p.fmod q=0):q=cd p q:=by
 have e:=qA p q;simp only[z,VV] at e
 delta cd
 split<;>lia
theorem DL(h:q≠0)(z:p.fmod q≠0):cd q (p.fmod q)=cd p q:=by
 delta cd
 rw[qA]
 rcases UC h with g|g
 .have:=gQ p g
  rw[YY Q1,YY g]
 .have h2:=SV p g
  rw[YZ Q1,YZ Q1]
theorem qu(x y:Int):cd x y ∣ x:=by
 delta cd;split
 .exact(WX).mpr (Wc x y)
 .exact Wc x y
theorem oM(x y:Int):cd x y ∣ y:=by
 delta cd;split
 .exact(WX).mpr (UO x y)
 .exact UO x y
theorem vy{x y:Int}(h:y≠0):cd x y≠0:=by
 have:=Th x h
 delta cd;split<;>lia
theorem zQ(x y:Int):(cd x y).natAbs=S6 x y:=by delta cd;split<;>simp
theorem LW{x y:Int}(h:y≠0):(cd x y).natAbs<=y.natAbs:=by rw[zQ];have h1:=Int.natCast_dvd_natCast.mp (Int.dvd_natAbs.mpr (UO x y));exact Nat.le_of_dvd Q1 h1
noncomputable abbrev Num:=Int×Int
def dz(t b:Int):Num:=(t.fdiv (cd t b),b.fdiv (cd t b))
theorem A6(h:b≠0):dz 0 b=(0,1):=by
 have e:cd 0 b=b:=by unfold cd;rw[UN,VV];split<;>lia
 unfold dz;rw[e];have h1:(b*0).fdiv b=0:=SK 0 h;have h2:(b*1).fdiv b=1:=SK 1 h;rw[Q9] at h1;rw[SN] at h2;simp only[h1,h2]
open L2
def Ok(q:Num):Prop:=0<q.2/\S6 q.1 q.2=1
theorem kM{t:Int}(h:b≠0):cd t b*(dz t b).1=t/\cd t b*(dz t b).2=b:=by
 have s:=vy (x:=t) h;obtain⟨k,hk⟩:=qu t b;obtain⟨m,hm⟩:=oM t b;have e1:t.fdiv (cd t b)=k:=by have:=SK k s;rwa[<-hk] at this
 have e2:b.fdiv (cd t b)=m:=by have:=SK m s;rwa[<-hm] at this
 exact⟨by show cd t b*t.fdiv (cd t b)=t;rw[e1];exact hk.symm,by show cd t b*b.fdiv (cd t b)=b;rw[e2];exact hm.symm⟩
theorem CH{t:Int}(h:b≠0):(0<b->0<cd t b)/\(b<0->cd t b<0):=by
 have:=Th t h
 delta cd
 constructor
 .intro z;rw[YZ Q1];lia
 .intro z;rw[YY z];lia
theorem ux{t:Int}(h:b≠0):0<(dz t b).2:=by
 obtain⟨_,e⟩:=kM (t:=t) h;obtain⟨s1,s2⟩:=CH (t:=t) h;rcases UC h with z|z
 .have c:=s2 z;rcases WR 0 (dz t b).2 with q|q
  .exact q
  .have:=Int.mul_nonneg_of_nonpos_of_nonpos (Rw c) q;lia
 .have c:=s1 z;rcases WR 0 (dz t b).2 with q|q
  .exact q
  .have:=Int.mul_nonpos_of_nonneg_of_nonpos (Rw c) q;lia
theorem lH{t:Int}(h:b≠0):Ok (dz t b):=by
 refine⟨ux h,?_⟩;obtain⟨e1,e2⟩:=kM h;have g:S6 (cd t b*(dz t b).1) (cd t b*(dz t b).2)=(cd t b).natAbs*S6 (dz t b).1 (dz t b).2:=Int.gcd_mul_left _ _ _;rw[e1,e2,zQ] at g;have p:=Th t h;have:S6 t b*1=S6 t b*S6 (dz t b).1 (dz t b).2:=by rw[Nat.mul_one];exact g
 exact(Vd p this).symm
variable{c:Int}
theorem mf{x:Int}(h:c≠0):x.natAbs<=(c*x).natAbs:=by rw[Ry];exact Nat.le_mul_of_pos_left _ Q1
theorem yG{t:Int}{m n:Nat}(h:b≠0)(h1:Bd m t)(h2:Bd n b):Bd m (dz t b).1/\Bd n (dz t b).2:=by obtain⟨e1,e2⟩:=kM h;have a1:=mf (x:=(dz t b).1) (vy (x:=t) h);have a2:=mf (x:=(dz t b).2) (vy (x:=t) h);rw[e1] at a1;rw[e2] at a2;exact⟨RL a1 h1,RL a2 h2⟩
structure NB(n:Nat)(q:Num):Prop where
 ok:Ok q
 b1:Bd n q.1
 b2:Bd n q.2
theorem NB.dz{t b:Int}{n:Nat}(h:b≠0)(h1:Bd n t)(h2:Bd n b):NB n (dz t b):=⟨lH h,(yG h h1 h2).1,(yG h h1 h2).2⟩
def OO(x y:Num):Num:=dz (x.1*y.2+y.1*x.2) (x.2*y.2)
noncomputable def nv(x:Num):Rat:=Xj x.1 x.2
theorem pP{t:Int}(h:b≠0):nv (dz t b)=Xj t b:=by
 obtain⟨e1,e2⟩:=kM h;have p:=ux (t:=t) h
 delta nv
 rw[R9 (by exact Rg ‹_›) h];generalize (dz t b).1=k at e1 ⊢;generalize (dz t b).2=m at e2 p ⊢;rw[<-e1];rw[show k*b=k*(cd t b*m) from by rw[e2]];simp only[Int.mul_left_comm,Sa]
theorem Nq{a:Int}(h:a ∣ b*c)(g:S6 a b=1):a ∣ c:=by
 have h1:a.natAbs ∣ b.natAbs*c.natAbs:=by rw[<-Ry];exact Vz.mpr h
 exact Vz.mp (Xk (g) h1)
theorem FQ{x y:Num}(h:Ok x)(k:Ok y)(e:nv x=nv y):x=y:=by
 have h1:=h.1;have r:=k.1
 delta nv at e
 rw[R9 (by exact Rg ‹_›) (by exact Rg ‹_›)] at e;have C:=Nq (⟨y.1,by rw[e,Rh]⟩) (by rw[UN];exact h.2);have F:=Nq (⟨x.1,by rw[<-e,Rh]⟩) (by rw[UN];exact k.2);have e2:=Int.dvd_antisymm (by exact Rw ‹_›) (by exact Rw ‹_›) C F;rw[e2] at e;have e1:=RO (by exact Rg ‹_›) e;exact Prod.ext e1 e2
theorem wo{q:Num}(h:Ok q)(n:b≠0):dz (q.1*b) (q.2*b)=q:=by have h1:=h.1;refine FQ (lH (U0 Q1 n)) h ?_;rw[pP (U0 Q1 n)];unfold nv;rw[R9 (U0 Q1 n) Q1,Sa,Rh b]
end W
set_option maxHeartbeats 1000000
namespace W
open L2 PySem
abbrev Pr:=Str×Num
def Gj(ps:List Pr)(n:Str):Num:=ps.foldl (λacc p=>if p.1=n then OO acc p.2 else acc) (0,1)
end W
namespace M
open PySem L2
inductive A where
 |non|bl(b:Bool)|int(i:Int)|str(x:Str)|tup(xs:List A)|lst(xs:List A)|dic(kvs:List (Key×A))|exc(c:Str)|obj(c:Str)(fs:List (Str×A))|dit(kvs:List (List Key×A))|opq
structure Kx where
 K:Qr
 mg:Str->Option Value
 P:Program
 w:Xz
def PV:List (List Key×Addr×V)->List (List Key×Addr×Value)->Prop:=Paired λx y=>x.1=y.1/\x.2.1=y.2.1/\RelV x.2.2 y.2.2
def dX(P:Program)(w:Xz)(p:Addr)(xs:List (List Key×Addr×V)):HO:=.exd λh=>xs.length<=sizeLine/\(p==YA)=false/\∃ys,PV xs ys /\
 ∃o es i,h.get? p=some o/\o.ExactDict/\o.data=.dict es i/\es.toList=ys.map (entryOfKey (tupleKind (gZ P w)))/\(ys.map (·.1)).Nodup
mutual
inductive RA(k:Kx)(G:Hp):V->A->Prop
 |non:RA k G .non .non
 |bl(b:Bool):RA k G (.bl b) (.bl b)
 |int(i:Int):RA k G (.int i) (.int i)
 |str(x:Str):RA k G (.str x) (.str x)
 |tup{p:Addr}{vs:List V}{as:List A}(e:iL k.K G p vs)(r:bN k G vs as):RA k G (.ref p) (.tup as)
 |lst{p:Addr}{vs:List V}{as:List A}(e:dM k.K G p vs)(r:bN k G vs as):RA k G (.ref p) (.lst as)
 |dic{p:Addr}{vs:List (Key×V)}{as:List (Key×A)}(e:Rd G p (.dK vs))(r:wm k G vs as):RA k G (.ref p) (.dic as)
 |exc{p C:Addr}{c:Str}(e:G p=some (OX p C))(m:k.mg c=some (.ref C)):RA k G (.ref p) (.exc c)
 |obj{p C dx:Addr}{c:Str}{vs:List (Str×V)}{fs:List (Str×A)}(e:G p=some (.ins C dx vs))(m:k.mg c=some (.ref C))(r:gJ k G vs fs):RA k G (.ref p) (.obj c fs)
 |dit{p:Addr}{vs:List (List Key×Addr×V)}{as:List (List Key×A)}(e:Rd G p (dX k.P k.w p vs))(r:BW k G vs as):RA k G (.ref p) (.dit as)
 |opq{p:Addr}:RA k G (.ref p) .opq
inductive bN(k:Kx)(G:Hp):List V->List A->Prop
 |nil:bN k G [] []
 |cons{v:V}{a:A}{vs:List V}{as:List A}(h:RA k G v a)(r:bN k G vs as):bN k G (v::vs) (a::as)
inductive gJ(k:Kx)(G:Hp):List (Str×V)->List (Str×A)->Prop
 |nil:gJ k G [] []
 |cons{y:Str}{v:V}{a:A}{vs:List (Str×V)}{as:List (Str×A)}(h:RA k G v a)(r:gJ k G vs as):gJ k G ((y,v)::vs) ((y,a)::as)
inductive BW(k:Kx)(G:Hp):List (List Key×Addr×V)->List (List Key×A)->Prop
 |nil:BW k G [] []
 |cons{y:List Key}{b:Addr}{v:V}{a:A}{vs:List (List Key×Addr×V)}{as:List (List Key×A)}(e:iL k.K G b (y.map kV))(h:RA k G v a)(r:BW k G vs as):BW k G ((y,b,v)::vs) ((y,a)::as)
inductive wm(k:Kx)(G:Hp):List (Key×V)->List (Key×A)->Prop
 |nil:wm k G [] []
 |cons{y:Key}{v:V}{a:A}{vs:List (Key×V)}{as:List (Key×A)}(h:RA k G v a)(r:wm k G vs as):wm k G ((y,v)::vs) ((y,a)::as)
end
noncomputable def sY:HO->Option HO
 | .dK kvs=>some (.dK kvs)
 | .frz _ (.dK kvs)=>some (.dK kvs)
 | .exd Z=>some (.exd Z)
 | .frz _ (.exd Z)=>some (.exd Z)
 |_=>none
def Oq(o o':HO):Prop:=o'=o\/∃d,sY o=some d/\sY o'=some d
variable{G:Hp}{d:HO}
theorem ug{b:Addr}{o:HO}(h:G b=some o)(e:sY o=some d):Rd G b d:=by
 cases o with
 |dK=>cases e;exact .inl h
 |exd=>cases e;exact .inl h
 |frz b o=>
  cases o with
  |dK=>cases e;exact .inr ⟨_,h⟩
  |exd=>cases e;exact .inr ⟨_,h⟩
  |_=>exact cy e
 |_=>exact cy e
variable{kvs:List (Key×V)}
theorem KG{b:Addr}(h:Rd G b (.dK kvs)):∃o,G b=some o/\sY o=some (.dK kvs):=by
 rcases h with h|⟨o,h⟩
 .exact⟨_,h,rfl⟩
 .exact⟨_,h,rfl⟩
theorem MS{b:Addr}{Z:Heap->Prop}(h:Rd G b (.exd Z)):∃o,G b=some o/\sY o=some (.exd Z):=by
 rcases h with h|⟨o,h⟩
 .exact⟨_,h,rfl⟩
 .exact⟨_,h,rfl⟩
def Sq(G G':Hp):Prop:=∀b o,G b=some o->∃o',G' b=some o'/\Oq o o'
variable{G':Hp}
theorem Sq.of(h:OW G G'):Sq G G':=λb o e=>⟨o,h b o e,.inl rfl⟩
theorem Sq.refl(G:Hp):Sq G G:=λb o e=>⟨o,e,.inl rfl⟩
theorem Sq.keep(h:Sq G G'){b:Addr}{o:HO}(e:G b=some o)(n:sY o=none):G' b=some o:=by
 obtain⟨o',h1,h2⟩:=h b o e;rcases h2 with rfl|⟨kvs,h3,_⟩
 .exact h1
 .rw[n] at h3;cases h3
theorem Sq.Pz(h:Sq G G'){b:Addr}{o:HO}(e:G b=some o)(k:sY o=some d):Rd G' b d:=by
 obtain⟨o',h1,h2⟩:=h b o e;rcases h2 with rfl|⟨x,h3,h4⟩
 .exact ug h1 k
 .rw[k] at h3;cases h3;exact ug h1 h4
theorem Sq.OK(h:Sq G G'){b:Addr}(r:Rd G b (.dK kvs)):Rd G' b (.dK kvs):=by obtain⟨o,e,d⟩:=KG r;exact h.Pz e d
theorem Sq.Ql(h:Sq G G'){b:Addr}{Z:Heap->Prop}(r:Rd G b (.exd Z)):Rd G' b (.exd Z):=by obtain⟨o,e,d⟩:=MS r;exact h.Pz e d
variable{p:Addr}{vs:List V}
theorem f9{K:Qr}(h:Sq G G')(q:iL K G p vs):iL K G' p vs:=q.imp (λr=>by
 rcases r with r|⟨o,r⟩
 .exact .inl (h.keep r rfl)
 .exact .inr ⟨o,h.keep r rfl⟩) id
theorem eY{K:Qr}(h:Sq G G')(q:dM K G p vs):dM K G' p vs:=q.imp (λr=>by
 rcases r with r|⟨o,r⟩
 .exact .inl (h.keep r rfl)
 .exact .inr ⟨o,h.keep r rfl⟩) id
section
variable{k:Kx}{G G':Hp}
mutual
theorem RA.sm(s:Sq G G'):∀{v:V}{a:A},RA k G v a->RA k G' v a
 |_,_,.non=>.non
 |_,_,.bl b=>.bl b
 |_,_,.int i=>.int i
 |_,_,.str x=>.str x
 |_,_,.tup e r=>.tup (f9 s e) (bN.sm s r)
 |_,_,.lst e r=>.lst (eY s e) (bN.sm s r)
 |_,_,.dic e r=>.dic (s.OK e) (wm.sm s r)
 |_,_,.exc e m=>.exc (s.keep e rfl) m
 |_,_,.obj e m r=>.obj (s.keep e rfl) m (gJ.sm s r)
 |_,_,.dit e r=>.dit (s.Ql e) (BW.sm s r)
 |_,_,.opq=>.opq
theorem gJ.sm(s:Sq G G'):∀{vs:List (Str×V)}{as:List (Str×A)},gJ k G vs as->gJ k G' vs as
 |_,_,.nil=>.nil
 |_,_,.cons h r=>.cons (RA.sm s h) (gJ.sm s r)
theorem bN.sm(s:Sq G G'):∀{vs:List V}{as:List A},bN k G vs as->bN k G' vs as
 |_,_,.nil=>.nil
 |_,_,.cons h r=>.cons (RA.sm s h) (bN.sm s r)
theorem BW.sm(s:Sq G G'):∀{vs:List (List Key×Addr×V)}{as:List (List Key×A)},BW k G vs as->BW k G' vs as
 |_,_,.nil=>.nil
 |_,_,.cons e h r=>.cons (f9 s e) (RA.sm s h) (BW.sm s r)
theorem wm.sm(s:Sq G G'):∀{vs:List (Key×V)}{as:List (Key×A)},wm k G vs as->wm k G' vs as
 |_,_,.nil=>.nil
 |_,_,.cons h r=>.cons (RA.sm s h) (wm.sm s r)
end
theorem bN.len:∀{vs:List V}{as:List A},bN k G vs as->vs.length=as.length
 |_,_,.nil=>rfl
 |_,_,.cons _ r=>by simp only[QF,QF,r.len]
theorem bN.ta:∀{vs:List V}{as:List A}{i:Nat}{a:A},bN k G vs as->as[i]?=some a->∃v,vs[i]?=some v/\RA k G v a
 |_,_,_,_,.nil,e=>by simp at e
 |_,_,0,_,.cons h _,e=>by cases e;exact⟨_,rfl,h⟩
 |_,_,i+1,_,.cons _ r,e=>r.ta e
theorem bN.app:∀{vs us:List V}{as bs:List A},bN k G vs as->bN k G us bs->bN k G (vs++us) (as++bs)
 |_,_,_,_,.nil,s=>s
 |_,_,_,_,.cons h r,s=>.cons h (r.app s)
theorem bN.snoc{as:List A}{v:V}{a:A}(r:bN k G vs as)(h:RA k G v a):bN k G (vs++[v]) (as++[a]):=r.app (.cons h .nil)
theorem bN.rev:∀{vs:List V}{as:List A},bN k G vs as->bN k G vs.reverse as.reverse
 |_,_,.nil=>.nil
 |_,_,.cons h r=>by simp only[TB,TB];exact r.rev.snoc h
theorem bN.take:∀{vs:List V}{as:List A}(n:Nat),bN k G vs as->bN k G (vs.take n) (as.take n)
 |_,_,0,_=>.nil
 |_,_,_+1,.nil=>.nil
 |_,_,n+1,.cons h r=>.cons h (r.take n)
theorem bN.drop:∀{vs:List V}{as:List A}(n:Nat),bN k G vs as->bN k G (vs.drop n) (as.drop n)
 |_,_,0,r=>r
 |_,_,_+1,.nil=>.nil
 |_,_,n+1,.cons _ r=>r.drop n
theorem bN.set{v:V}{a:A}(h:RA k G v a):∀{vs:List V}{as:List A}(i:Nat),bN k G vs as->bN k G (vs.set i v) (as.set i a)
 |_,_,_,.nil=>.nil
 |_,_,0,.cons _ r=>.cons h r
 |_,_,i+1,.cons q r=>.cons q (r.set h i)
theorem gJ.len:∀{vs:List (Str×V)}{as:List (Str×A)},gJ k G vs as->vs.length=as.length
 |_,_,.nil=>rfl
 |_,_,.cons _ r=>by simp only[QF,QF,r.len]
theorem gJ.get:∀{vs:List (Str×V)}{as:List (Str×A)}(y:Str),gJ k G vs as->(∃v a,vs.lookup y=some v/\as.lookup y=some a/\RA k G v a)\/(vs.lookup y=none/\as.lookup y=none)
 |_,_,y,.nil=>.inr ⟨rfl,rfl⟩
 |_,_,y,.cons (y:=z) (v:=v) (a:=a) h r=>by
  simp only[QI,QI];cases c:y==z with
  |true=>exact .inl ⟨v,a,rfl,rfl,h⟩
  |false=>exact r.get y
def kg(f:Str)(a:A):List (Str×A)->List (Str×A)
 |[]=>[(f,a)]
 |(g,b)::fs=>if g=f then (g,a)::fs else (g,b)::kg f a fs
theorem gJ.put{f:Str}{v:V}{a:A}(h:RA k G v a):∀{vs:List (Str×V)}{as:List (Str×A)},gJ k G vs as->gJ k G (dY f v vs) (kg f a as)
 |_,_,.nil=>.cons h .nil
 |_,_,.cons (y:=z) q r=>by
  unfold dY kg;split
  .exact .cons h r
  .exact .cons q (gJ.put h r)
end
noncomputable def cut(H:Hp)(L:List Addr):Hp:=λa=>if a∈L then none else H a
variable{H:Hp}{L:List Addr}
theorem Al{a:Addr}(h:a∈L):cut H L a=none:=YY h
theorem qe{a:Addr}(h:a∉L):cut H L a=H a:=YZ h
theorem yr(H:Hp)(L:List Addr):Sq (cut H L) H:=Sq.of λb o e=>by
 delta cut at e
 split at e
 .cases e
 .exact e
variable{L':List Addr}
theorem zD(h:∀a,a∈L'->a∈L):Sq (cut H L) (cut H L'):=Sq.of λb o e=>by
 by_cases c:b∈L
 .rw[Al c] at e;cases e
 .rw[qe c] at e;rw[qe λz=>c (h b z)];exact e
inductive LO where
 |lst(xs:List A)|dic(kvs:List (Key×A))|obj(c:Str)(fs:List (Str×A))|dit(kvs:List (List Key×A))|nob(c:Str)(fs:List (Str×A))(ls:List (Str×List A))
def LO.a:LO->A
 | .lst xs=>.lst xs
 | .dic kvs=>.dic kvs
 | .obj c fs=>.obj c fs
 | .dit kvs=>.dit kvs
 | .nob c fs ls=>.obj c (fs++ls.map λp=>(p.1,.lst p.2))
def LO.rd:LO->Option A
 | .lst xs=>some (.lst xs)
 | .dic kvs=>some (.dic kvs)
 | .obj c fs=>some (.obj c fs)
 | .dit kvs=>some (.dit kvs)
 | .nob _ _ _=>none
inductive Sl where
 |un|fr(a:A)|lv(o:LO)|pv(o:LO)|cf(a:A)
inductive eN(k:Kx)(G H:Hp):List (Str×V)->List (Str×List A)->List Addr->Prop
 |nil:eN k G H [] [] []
 |cons{y:Str}{a:Addr}{us:List V}{xs:List A}{ws:List (Str×V)}{ls:List (Str×List A)}{q:List Addr}(e:H a=some (.lst us))(r:bN k G us xs)(t:eN k G H ws ls q):eN k G H ((y,.ref a)::ws) ((y,xs)::ls) (a::q)
inductive LR(k:Kx)(G H:Hp)(p:Addr):LO->List Addr->Prop
 |lst{vs:List V}{as:List A}(e:H p=some (.lst vs))(r:bN k G vs as):LR k G H p (.lst as) []
 |dic{vs:List (Key×V)}{as:List (Key×A)}(e:H p=some (.dK vs))(r:wm k G vs as):LR k G H p (.dic as) []
 |obj{C dx:Addr}{c:Str}{vs:List (Str×V)}{fs:List (Str×A)}(e:H p=some (.ins C dx vs))(m:k.mg c=some (.ref C))(r:gJ k G vs fs):LR k G H p (.obj c fs) []
 |dit{vs:List (List Key×Addr×V)}{as:List (List Key×A)}(e:H p=some (dX k.P k.w p vs))(r:BW k G vs as):LR k G H p (.dit as) []
 |nob{C dx:Addr}{c:Str}{vs ws:List (Str×V)}{fs:List (Str×A)}{ls:List (Str×List A)}{q:List Addr}(e:H p=some (.ins C dx (vs++ws)))(m:k.mg c=some (.ref C))(r:gJ k G vs fs)(l:eN k G H ws ls q):LR k G H p (.nob c fs ls) q
inductive eH(k:Kx)(G H:Hp):Option V->Sl->List Addr->Prop
 |un(x:Option V):eH k G H x .un []
 |fr{v:V}{a:A}(h:RA k G v a):eH k G H (some v) (.fr a) []
 |lv{p:Addr}{o:LO}{q:List Addr}(h:LR k G H p o q):eH k G H (some (.ref p)) (.lv o) (p::q)
 |pv{p:Addr}{o:LO}{q:List Addr}(h:LR k G H p o q):eH k G H (some (.ref p)) (.pv o) (p::q)
 |cf{v:V}{a:A}(h:RA k G v a):eH k G H (some v) (.cf a) []
inductive au(k:Kx)(G H:Hp):St->List Sl->List Addr->Prop
 |nil:au k G H [] [] []
 |cons{x:Option V}{s:Sl}{Y:St}{Z:List Sl}{L L':List Addr}(h:eH k G H x s L)(r:au k G H Y Z L'):au k G H (x::Y) (s::Z) (L++L')
variable{ws:List (Str×V)}{q:List Addr}
section
variable{k:Kx}{G G' H H':Hp}{L:List Addr}
theorem eN.is{ls:List (Str×List A)}(h:eN k G H ws ls q):∀a∈q,∃u,H a=some u:=by
 induction h with
 |nil=>intro a f;cases f
 |cons e r t m=>intro b d;rcases QC.mp d with rfl|d;exact⟨_,e⟩;exact m b d
theorem eN.sm(s:Sq G G'){ws:List (Str×V)}{ls:List (Str×List A)}{q:List Addr}(h:eN k G H ws ls q):(∀a∈q,∀u,H a=some u->H' a=some u)->eN k G' H' ws ls q:=by
 induction h with
 |nil=>intro _;exact .nil
 |cons e r t m=>intro k;exact .cons (k _ QH _ e) (r.sm s) (m λb d=>k b (Qz _ d))
theorem eN.a(s:Sq G G'){ws:List (Str×V)}{ls:List (Str×List A)}{q:List Addr}(h:eN k G H ws ls q):(∀a∈q,∀u,H a=some u->G' a=some u)->gJ k G' ws (ls.map λp=>(p.1,A.lst p.2)):=by
 induction h with
 |nil=>intro _;exact .nil
 |cons e r t m=>intro k;exact .cons (.lst (.inl (.inl (k _ QH _ e))) (r.sm s)) (m λb d=>k b (Qz _ d))
theorem gJ.app{vs:List (Str×V)}{as bs:List (Str×A)}(h:gJ k G vs as)(h':gJ k G ws bs):gJ k G (vs++ws) (as++bs):=by
 induction vs generalizing as with
 |nil=>cases h;exact h'
 |cons v vs m=>cases h with|cons q r=>exact .cons q (m r)
theorem LR.is{p:Addr}{o:LO}{q:List Addr}(h:LR k G H p o q):∀a∈p::q,∃u,H a=some u:=by
 intro a f;rcases QC.mp f with rfl|f
 .cases h with|lst e _=>exact⟨_,e⟩|dic e _=>exact⟨_,e⟩|obj e _ _=>exact⟨_,e⟩|dit e _=>exact⟨_,e⟩|nob e _ _ _=>exact⟨_,e⟩
 .cases h with|lst e _=>cases f|dic e _=>cases f|obj e _ _=>cases f|dit e _=>cases f|nob _ _ _ l=>exact l.is a f
theorem LR.sm(s:Sq G G'){p:Addr}{o:LO}{q:List Addr}(e:∀a∈p::q,∀u,H a=some u->H' a=some u)(h:LR k G H p o q):LR k G' H' p o q:=by
 have I:=e p QH;cases h with
 |lst q r=>exact .lst (I _ q) (r.sm s)
 |dic q r=>exact .dic (I _ q) (r.sm s)
 |obj q m r=>exact .obj (I _ q) m (r.sm s)
 |dit q r=>exact .dit (I _ q) (r.sm s)
 |nob q m r l=>exact .nob (I _ q) m (r.sm s) (l.sm s λa f=>e a (Qz _ f))
theorem eH.is{x:Option V}{t:Sl}(h:eH k G H x t L):∀p∈L,∃u,H p=some u:=by
 cases h with
 |un=>intro p hp;cases hp
 |fr=>intro p hp;cases hp
 |lv h=>exact h.is
 |pv h=>exact h.is
 |cf=>intro p hp;cases hp
theorem eH.sm(s:Sq G G'){x:Option V}{t:Sl}(e:∀p∈L,∀u,H p=some u->H' p=some u)(h:eH k G H x t L):eH k G' H' x t L:=by
 cases h with
 |un=>exact .un _
 |fr h=>exact .fr (h.sm s)
 |lv h=>exact .lv (h.sm s e)
 |pv h=>exact .pv (h.sm s e)
 |cf h=>exact .cf (h.sm s)
theorem au.is:∀{Y:St}{Z:List Sl}{L:List Addr},au k G H Y Z L->∀p∈L,∃u,H p=some u
 |_,_,_,.nil,p,hp=>by cases hp
 |_,_,_,.cons h r,p,hp=>(Qx.mp hp).elim (h.is p) (r.is p)
theorem au.sm(s:Sq G G'):∀{Y:St}{Z:List Sl}{L:List Addr},(∀p∈L,∀u,H p=some u->H' p=some u)->au k G H Y Z L->au k G' H' Y Z L
 |_,_,_,_,.nil=>.nil
 |_,_,_,e,.cons h r=>.cons (h.sm s λp hp=>e p (Qu _ hp)) (r.sm s λp hp=>e p (Qs _ hp))
theorem au.len:∀{Y:St}{Z:List Sl}{L:List Addr},au k G H Y Z L->Y.length=Z.length
 |_,_,_,.nil=>rfl
 |_,_,_,.cons _ r=>by simp only[QF,QF,r.len]
theorem au.at:∀{Y:St}{Z:List Sl}{L:List Addr}{i:Nat}{s:Sl},au k G H Y Z L->Z[i]?=some s->
  ∃x b L2 I,Y[i]?=some x/\eH k G H x s L2/\L=b++L2++I/\∀{G' H':Hp}{y:Option V}{t:Sl}{L':List Addr},Sq G G'->(∀p∈b++I,∀u,H p=some u->H' p=some u)->eH k G' H' y t L'->au k G' H' (Y.set i y) (Z.set i t) (b++L'++I)
 |_,_,_,_,_,.nil,e=>by simp at e
 |_,_,_,0,_,.cons (x:=x) (L:=L) (L':=L') h r,e=>by cases e;refine⟨x,[],L,L',rfl,h,by simp,λsm e q=>?_⟩;simp only[List.set_cons_zero,Uc];exact .cons q (r.sm sm (by simpa using e))
 |_,_,_,i+1,_,.cons (L:=L) h r,e=>by obtain⟨x,b,L2,I,e1,e2,N,K⟩:=au.at (i:=i) r e;refine⟨x,L++b,L2,I,e1,e2,by rw[N];simp,λsm e q=>?_⟩;simp only[List.set_cons_succ];have:=au.cons (h.sm sm λp hp=>e p (by simp[hp])) (K sm (λp hp=>e p (by rcases Qx.mp hp with z|z<;>simp[z])) q);simpa[Qw] using this
theorem au.app:∀{Y τ:St}{Z O:List Sl}{L L':List Addr},au k G H Y Z L->au k G H τ O L'->au k G H (Y++τ) (Z++O) (L++L')
 |_,_,_,_,_,_,.nil,s=>s
 |_,_,_,_,_,_,.cons h r,s=>by have:=au.cons h (r.app s);simpa[Qw] using this
theorem au.split:∀{Y τ:St}{Z O:List Sl}{L:List Addr},Y.length=Z.length->au k G H (Y++τ) (Z++O) L->∃b L2,L=b++L2/\au k G H Y Z b/\au k G H τ O L2
 |[],_,[],_,L,_,h=>⟨[],L,rfl,.nil,h⟩
 |x::Y,τ,s::Z,O,_,e,.cons (L:=L) h r=>by obtain⟨b,L2,e1,g,l⟩:=au.split (by simpa using e) r;exact⟨L++b,L2,by rw[e1];simp,.cons h g,l⟩
 |_::_,_,[],_,_,e,_=>by simp at e
 |[],_,_::_,_,_,e,_=>by simp at e
theorem au.kD:∀{vs:List V}{as:List A},bN k G vs as->au k G H (vs.map some) (as.map Sl.fr) []
 |_,_,.nil=>.nil
 |_,_,.cons h r=>au.cons (.fr h) (au.kD r)
theorem au.EJ:∀{vs:List V}{as:List A}{L:List Addr},au k G H (vs.map some) (as.map Sl.fr) L->L=[]/\bN k G vs as
 |[],[],_,.nil=>⟨rfl,.nil⟩
 |v::vs,a::as,_,.cons h r=>by
  cases h with
  |fr h=>obtain⟨e,q⟩:=au.EJ r;exact⟨by rw[e];rfl,.cons h q⟩
end
structure Cn extends Kx where
 σ0:St
 H0:Hp
 Lp:List Addr
 Hd:List Addr
 Wk:List (Addr×HO)
def Cn.g(c:Cn)(H:Hp)(L:List Addr):Hp:=cut H (L++c.Hd)
structure Fr(c:Cn)(H:Hp):Prop where
 st:∀b o,c.H0 b=some o->∃u,H b=some u/\(b∉c.Lp->(∀w,(b,w)∉c.Wk)->u=o)
 pk:∀p∈c.Wk,H p.1=some p.2/\(∃ob d,p.2=.frz ob d)/\p.1∉c.Hd
variable{c:Cn}
theorem Fr.new{o:HO}(f:Fr c H)(h:H p=none):Fr c (upd H p o):=⟨λb u e=>by
 obtain⟨w,h1,h2⟩:=f.st b u e;exact⟨w,by rw[aj (aI h1 h)];exact h1,h2⟩,λq l=>by
 obtain⟨h1,h2⟩:=f.pk q l;exact⟨by rw[aj (aI h1 h)];exact h1,h2⟩⟩
theorem Fr.fresh(f:Fr c H)(h:H p=none):c.H0 p=none:=by
 cases e:c.H0 p with
 |none=>rfl
 |some o=>obtain⟨u,h1,_⟩:=f.st p o e;rw[h] at h1;cases h1
noncomputable def cst:Sl->Bool
 | .pv _=>true
 | .cf _=>true
 |_=>false
def eQ(σ0 Y:St)(Z:List Sl):Prop:=∀(i:Nat)(s:Sl),Z[i]?=some s->cst s=true->Y[i]?=σ0[i]?
structure dS(c:Cn)(Y:St)(H:Hp)(Z:List Sl)(τ:St)(O:List Sl)(L:List Addr):Prop where
 nd:L.Nodup
 rel:au c.toKx (c.g H L) H (τ++Y) (O++Z) L
 own:∀p∈L,p∈c.Lp\/c.H0 p=none
 fr:Fr c H
 kp:eQ c.σ0 Y Z
 lt:τ.length=O.length
 hd:∀p∈c.Hd,(∃u,c.H0 p=some u)/\p∉c.Lp
theorem g_same(c:Cn)(H:Hp)(L:List Addr):Sq (c.g H L) H:=yr _ _
theorem dE(h:∀a,a∈L'->a∈L):Sq (c.g H L) (c.g H L'):=zD λa f=>by
 rcases Qx.mp f with z|z
 .exact Qu _ (h a z)
 .exact Qs _ z
theorem gH{a:Addr}(h:a∈L\/a∈c.Hd):c.g H L a=none:=Al (by simpa using h)
theorem bJ{a:Addr}(h:a∉L)(h':a∉c.Hd):c.g H L a=H a:=qe (by simp[h,h'])
variable{Y τ:St}{Z O:List Sl}
theorem dS.xK(b:dS c Y H Z τ O L)(h:p∈L):p∉c.Hd:=λz=>by
 obtain⟨⟨u,e⟩,n⟩:=b.hd p z;rcases b.own p h with y|y
 .exact n y
 .rw[y] at e;cases e
theorem dS.Lk(b:dS c Y H Z τ O L)(h:H p=none):p∉c.Hd:=λz=>by obtain⟨⟨u,e⟩,n⟩:=b.hd p z;rw[b.fr.fresh h] at e;cases e
def Bd(c:Cn)(Y:St)(H:Hp)(Z:List Sl)(τ:St)(O:List Sl):Prop:=∃L,dS c Y H Z τ O L
variable{s:Sl}{u:HO}{o o':LO}{i:Nat}{α:Type}
section
variable{c:Cn}{Y:St}{H:Hp}{Z:List Sl}{τ:St}{O:List Sl}
theorem Bd.qY(b:Bd c Y H Z τ O):Y.length=Z.length:=by
 obtain⟨L,b⟩:=b;have:=b.rel.len;simp only[QO,QO,b.lt] at this
 lia
theorem Bd.push{v:V}{a:A}(b:Bd c Y H Z τ O)(h:∀G,RA c.toKx G v a):Bd c Y H Z (some v::τ) (.fr a::O):=by obtain⟨L,b⟩:=b;exact⟨L,b.nd,au.cons (L:=[]) (.fr (h _)) b.rel,b.own,b.fr,b.kp,by simp[b.lt],b.hd⟩
theorem Bd.pop{x:Option V}(b:Bd c Y H Z (x::τ) (s::O)):Bd c Y H Z τ O:=by
 obtain⟨L,b⟩:=b;obtain⟨nd,rel,own,fr,kp,lt,X⟩:=b;cases rel with
 |cons h r=>rename_i u L2;exact⟨L2,(QE.mp nd).2.1,r.sm (dE λa f=>Qs _ f) (λ_ _ _ e=>e),λp hp=>own p (Qs _ hp),fr,kp,by simpa using lt,X⟩
theorem Bd.CT:∀{xs:St}{ss:List Sl},xs.length=ss.length->Bd c Y H Z (xs++τ) (ss++O)->Bd c Y H Z τ O
 |[],[],_,b=>b
 |x::xs,s::ss,e,b=>Bd.CT (by simpa using e) (Bd.pop b)
 |[],_::_,e,_=>by simp at e
 |_::_,[],e,_=>by simp at e
theorem Bd.new{p:Addr}{o:HO}(b:Bd c Y H Z τ O)(h:H p=none):Bd c Y (upd H p o) Z τ O:=by
 obtain⟨L,b⟩:=b;have hp:p∉L:=λz=>by obtain⟨u,e⟩:=b.rel.is p z;rw[h] at e;cases e
 refine⟨L,b.nd,b.rel.sm (Sq.of λa u e=>?_) (λq l u e=>by rw[aj (aI e h)];exact e),b.own,b.fr.new h,b.kp,b.lt,b.hd⟩;by_cases z:a∈L\/a∈c.Hd
 .rw[gH z] at e;cases e
 .rw[bJ (λy=>z (.inl y)) (λy=>z (.inr y))] at e;rw[bJ (λy=>z (.inl y)) (λy=>z (.inr y)),aj (aI e h)];exact e
theorem Bd.kD{as:List A}(b:Bd c Y H Z (vs.map some++τ) (as.map Sl.fr++O))(e:vs.length=as.length):∃L,dS c Y H Z τ O L/\bN c.toKx (c.g H L) vs as:=by obtain⟨L,b⟩:=b;have r:=b.rel;rw[Qw,Qw] at r;obtain⟨u,L2,e1,t,l⟩:=au.split (by simp[e]) r;obtain⟨z,x⟩:=au.EJ t;subst z;have e1:L=L2:=e1;subst e1;exact⟨L,⟨b.nd,l,b.own,b.fr,b.kp,by have:=b.lt;simp at this;lia,b.hd⟩,x⟩
theorem dS.push{v:V}{a:A}(b:dS c Y H Z τ O L)(h:RA c.toKx (c.g H L) v a):Bd c Y H Z (some v::τ) (.fr a::O):=
 ⟨L,b.nd,au.cons (.fr h) b.rel,b.own,b.fr,b.kp,by simp[b.lt],b.hd⟩
theorem dS.new{L:List Addr}{p:Addr}{o:HO}(b:dS c Y H Z τ O L)(h:H p=none):dS c Y (upd H p o) Z τ O L/\Sq (c.g H L) (c.g (upd H p o) L)/\p∉L:=by
 have hp:p∉L:=λz=>by obtain⟨u,e⟩:=b.rel.is p z;rw[h] at e;cases e
 have sm:Sq (c.g H L) (c.g (upd H p o) L):=Sq.of λa u e=>by
  by_cases z:a∈L\/a∈c.Hd
  .rw[gH z] at e;cases e
  .rw[bJ (λy=>z (.inl y)) (λy=>z (.inr y))] at e;rw[bJ (λy=>z (.inl y)) (λy=>z (.inr y)),aj (aI e h)];exact e
 exact⟨⟨b.nd,b.rel.sm sm (λq l u e=>by rw[aj (aI e h)];exact e),b.own,b.fr.new h,b.kp,b.lt,b.hd⟩,sm,hp⟩
theorem Bd.Iv{as:List A}(b:Bd c Y H Z (vs.map some++τ) (as.map Sl.fr++O))(e:vs.length=as.length)(h:H p=none)(ws:List V)(bs:List A)(n:∀G,bN c.toKx G vs as->bN c.toKx G ws bs):
  Bd c Y (upd H p (.tup ws)) Z (some (.ref p)::τ) (.fr (.tup bs)::O):=by
 obtain⟨L,bl,x⟩:=b.kD e;obtain⟨b2,sm,hp⟩:=bl.new (o:=.tup ws) h;exact b2.push (.tup (.inl (.inl (by rw[bJ hp (bl.Lk h)];exact aM))) (n _ (x.sm sm)))
theorem dS.kn(b:dS c Y H Z τ O L)(h:H p=none)(S:∀G H',Sq (c.g H L) G->H' p=some u->LR c.toKx G H' p o []):Bd c Y (upd H p u) Z (some (.ref p)::τ) (.lv o::O):=by
 have hp:p∉L:=λz=>by obtain⟨u,e⟩:=b.rel.is p z;rw[h] at e;cases e
 have sm:Sq (c.g H L) (c.g (upd H p u) (p::L)):=Sq.of λa w e=>by
  by_cases z:a∈L\/a∈c.Hd
  .rw[gH z] at e;cases e
  .rw[bJ (λy=>z (.inl y)) (λy=>z (.inr y))] at e;have v:=aI e h;rw[bJ (λy=>by rcases QC.mp y with y|y;exact v y;exact z (.inl y)) (λy=>z (.inr y)),aj v];exact e
 refine⟨p::L,Q3.mpr ⟨hp,b.nd⟩,au.cons (L:=[p]) (.lv (S _ _ sm aM)) (b.rel.sm sm (λq l w e=>by rw[aj (aI e h)];exact e)),λq l=>?_,b.fr.new h,b.kp,by simp[b.lt],b.hd⟩;rcases QC.mp l with z|z
 .subst z;exact .inr (b.fr.fresh h)
 .exact b.own q z
theorem Bd.Bp{as:List A}(b:Bd c Y H Z (vs.map some++τ) (as.map Sl.fr++O))(e:vs.length=as.length)(h:H p=none)(ws:List V)(bs:List A)(n:∀G,bN c.toKx G vs as->bN c.toKx G ws bs):
  Bd c Y (upd H p (.lst ws)) Z (some (.ref p)::τ) (.lv (.lst bs)::O):=by
 obtain⟨L,bl,x⟩:=b.kD e;exact bl.kn h λG H' sm q=>.lst q (n _ (x.sm sm))
theorem LR.a{k:Kx}{G H:Hp}{p:Addr}{o:LO}{q:List Addr}{a:A}(h:LR k G H p o q)(sm:Sq G H)(E:o.rd=some a):RA k H (.ref p) a:=by
 cases h with
 |lst e r=>cases E;exact .lst (.inl (.inl e)) (r.sm sm)
 |dic e r=>cases E;exact .dic (.inl e) (r.sm sm)
 |obj e m r=>cases E;exact .obj e m (r.sm sm)
 |dit e r=>cases E;exact .dit (.inl e) (r.sm sm)
 |nob=>cases E
theorem LR.a'{k:Kx}(h:LR k G H p o q)(sm:Sq G G')(e:∀a∈p::q,∀u,H a=some u->G' a=some u):RA k G' (.ref p) o.a:=by
 have I:=e p QH;cases h with
 |lst q r=>exact .lst (.inl (.inl (I _ q))) (r.sm sm)
 |dic q r=>exact .dic (.inl (I _ q)) (r.sm sm)
 |obj q m r=>exact .obj (I _ q) m (r.sm sm)
 |dit q r=>exact .dit (.inl (I _ q)) (r.sm sm)
 |nob q m r l=>exact .obj (I _ q) m ((r.sm sm).app (l.a sm λa f=>e a (Qz _ f)))
def Sl.a:Sl->Option A
 | .fr a=>some a
 | .lv o=>o.rd
 | .pv o=>o.rd
 | .cf a=>some a
 | .un=>none
theorem eH.read{k:Kx}{x:Option V}{a:A}(h:eH k G H x s L)(sm:Sq G H)(e:s.a=some a):∃v,x=some v/\RA k H v a:=by
 cases h with
 |un=>cases e
 |fr h=>cases e;exact⟨_,rfl,h.sm sm⟩
 |lv h=>exact⟨_,rfl,h.a sm e⟩
 |pv h=>exact⟨_,rfl,h.a sm e⟩
 |cf h=>cases e;exact⟨_,rfl,h.sm sm⟩
theorem eQ.set{σ0 Y:St}{Z:List Sl}{i:Nat}{t:Sl}{y:Option V}(k:eQ σ0 Y Z)(hi:i<Z.length)(e:cst t=false):eQ σ0 (Y.set i y) (Z.set i t):=λj o q w=>by
 by_cases z:j=i
 .subst z;rw[QN hi] at q;cases q;rw[e] at w;cases w
 .rw[QY (Rz z)] at q ⊢;exact k j o q w
theorem eQ.Cg{σ0:St}{t:Sl}(k:eQ σ0 Y Z)(h:cst t=true->∃s,Z[i]?=some s/\cst s=true):eQ σ0 Y (Z.set i t):=λj o q w=>by
 by_cases z:j=i
 .subst z;by_cases hi:j<Z.length
  .rw[QN hi] at q;cases q;obtain⟨o',e,w'⟩:=h w;exact k j o' e w'
  .rw[RQ (by simp;exact Tt.mp ‹_›)] at q;cases q
 .rw[QY (Rz z)] at q;exact k j o q w
theorem Bd.slot{a:A}(b:Bd c Y H Z τ O)(e:Z[i]?=some s)(E:s.a=some a):∃v,Y[i]?=some (some v)/\RA c.toKx H v a:=by obtain⟨L,b⟩:=b;obtain⟨u,L2,e1,g,l⟩:=au.split b.lt b.rel;obtain⟨x,_,_,_,hx,hs,_⟩:=l.at e;obtain⟨v,rfl,h⟩:=hs.read (g_same _ _ _) E;exact⟨v,hx,h⟩
theorem Bd.Fv(b:Bd c Y H Z τ O)(e:Z[i]?=some (.lv o)\/Z[i]?=some (.pv o)):∃p,Y[i]?=some (some (.ref p)):=by
 obtain⟨L,b⟩:=b;obtain⟨u,L2,e1,g,l⟩:=au.split b.lt b.rel;rcases e with e|e
 .obtain⟨x,_,_,_,hx,hs,_⟩:=l.at e;cases hs;exact⟨_,hx⟩
 .obtain⟨x,_,_,_,hx,hs,_⟩:=l.at e;cases hs;exact⟨_,hx⟩
theorem Bd.load{a:A}(b:Bd c Y H Z τ O)(e:Z[i]?=some (.fr a)):∃v,Y[i]?=some (some v)/\Bd c Y H Z (some v::τ) (.fr a::O):=by
 obtain⟨L,b⟩:=b;obtain⟨u,L2,e1,g,l⟩:=au.split b.lt b.rel;obtain⟨x,_,_,_,hx,hs,_⟩:=l.at e;cases hs with
 |fr h=>exact⟨_,hx,b.push h⟩
theorem Bd.ET{a:A}(b:Bd c Y H Z τ O)(e:Z[i]?=some (.cf a)):∃v,Y[i]?=some (some v)/\Bd c Y H Z (some v::τ) (.fr a::O):=by
 obtain⟨L,b⟩:=b;obtain⟨u,L2,e1,g,l⟩:=au.split b.lt b.rel;obtain⟨x,_,_,_,hx,hs,_⟩:=l.at e;cases hs with
 |cf h=>exact⟨_,hx,b.push h⟩
theorem eN.nf{k:Kx}{ls:List (Str×List A)}(h:eN k G H ws ls q):∀a∈q,∀ob w,H a≠some (.frz ob w):=by
 induction h with
 |nil=>intro a f;cases f
 |cons e r t m=>intro b d ob w z;rcases QC.mp d with rfl|d;rw[e] at z;cases z;exact m b d ob w z
theorem LR.nf{k:Kx}{G H:Hp}{p:Addr}{o:LO}{q:List Addr}(h:LR k G H p o q):∀a∈p::q,∀ob w,H a≠some (.frz ob w):=by
 intro a f ob w z;rcases QC.mp f with rfl|f
 .cases h with|lst e _=>rw[e] at z;cases z|dic e _=>rw[e] at z;cases z|obj e _ _=>rw[e] at z;cases z|dit e _=>rw[e] at z;cases z|nob e _ _ _=>rw[e] at z;cases z
 .cases h with|lst e _=>cases f|dic e _=>cases f|obj e _ _=>cases f|dit e _=>cases f|nob _ _ _ l=>exact l.nf a f ob w z
theorem iJ{A B C:List α}(n:(A++B++C).Nodup):(A++C).Nodup/\∀a∈B,a∉A++C:=by
 obtain⟨H,K,G⟩:=QE.mp n;obtain⟨Y,L,e⟩:=QE.mp H;refine⟨QE.mpr ⟨Y,K,λa f b d=>G a (Qu _ f) b d⟩,λa f z=>?_⟩;rcases Qx.mp z with z|z
 .exact e a z a f rfl
 .exact G a (Qs _ f) a z rfl
theorem set_same{v:Option V}(hx:Y[i]?=some v):Y.set i v=Y:=by
 apply R6;intro j;by_cases z:j=i
 .subst z;rw[QN (Qv.mp hx).1,hx]
 .rw[QY (Rz z)]
theorem Bd.vQ(b:Bd c Y H Z τ O)(e:Z[i]?=some (.lv o)):Bd c Y H (Z.set i (.fr o.a)) τ O:=by
 obtain⟨L,b⟩:=b;obtain⟨D,L2,e1,r,l⟩:=au.split b.lt b.rel;obtain⟨x,M1,s,J,hx,hs,e2,ins⟩:=l.at e;cases hs with
 |lv h=>
  rename_i p q;have nd:=b.nd;have P:L=(D++M1)++(p::q)++J:=by rw[e1,e2];simp
  rw[P] at nd;obtain⟨X,hp⟩:=iJ nd;have sub:∀a,a∈D++M1++J->a∈L:=λa f=>by rw[P];simp only[Qx,QC] at f ⊢;rcases f with (z|z)|z<;>simp[z]
  have sm:Sq (c.g H L) (c.g H (D++M1++J)):=dE sub;have T:=ins (y:=some (.ref p)) (t:=.fr o.a) (L':=[]) sm (λ_ _ _ e=>e) (.fr (h.a' sm λa f u e=>by rw[bJ (hp a f) (b.xK (by rw[P];exact Qu _ (Qs _ f)))];exact e));rw[set_same hx] at T;refine⟨D++M1++J,X,?_,λq R=>b.own q (sub q R),b.fr,b.kp.Cg (λz=>by cases z),b.lt,b.hd⟩;have:=(r.sm sm (λ_ _ _ e=>e)).app T;simpa[Qw] using this
theorem dS.MA{t:Sl}(b:dS c Y H Z τ O L)(e:Z[i]?=some s)(es:s=.lv o/\t=.lv o'\/s=.pv o/\t=.pv o')
  : ∃p q,Y[i]?=some (some (.ref p))/\LR c.toKx (c.g H L) H p o q/\(p::q).Nodup/\∀a∈p::q,(∀H',H' a=some u->(∀b∈p::q,b≠a->H' b=H b)->LR c.toKx (c.g H L) H' p o' q)->Bd c Y (upd H a u) (Z.set i t) τ O:=by
 obtain⟨D,L2,e1,X,C⟩:=au.split b.lt b.rel;obtain⟨x,M1,n,J,hx,hs,e2,ins⟩:=C.at e;have key:∀p q,x=some (.ref p)->n=p::q->LR c.toKx (c.g H L) H p o q->(∀G H',LR c.toKx G H' p o' q->eH c.toKx G H' (some (.ref p)) t (p::q))->(cst t=true->∃s,Z[i]?=some s/\cst s=true)->
   ∃p q,Y[i]?=some (some (.ref p))/\LR c.toKx (c.g H L) H p o q/\(p::q).Nodup/\∀a∈p::q,(∀H',H' a=some u->(∀b∈p::q,b≠a->H' b=H b)->LR c.toKx (c.g H L) H' p o' q)->Bd c Y (upd H a u) (Z.set i t) τ O:=by
  intro p q ex em S mk pk;subst ex em;have nd:=b.nd;have P:L=(D++M1)++(p::q)++J:=by rw[e1,e2];simp
  rw[P] at nd;have I:(p::q).Nodup:=(QE.mp (QE.mp nd).1).2.1;refine⟨p,q,hx,S,I,λa f hn=>?_⟩;obtain⟨_,K⟩:=iJ nd;have v:a∈L:=by rw[P];exact Qu _ (Qs _ f)
  have N:c.g (upd H a u) L=c.g H L:=by
   funext r
   by_cases z:r∈L\/r∈c.Hd
   .rw[gH z,gH z]
   .rw[bJ (λy=>z (.inl y)) (λy=>z (.inr y)),bJ (λy=>z (.inl y)) (λy=>z (.inr y)),aj λy=>z (.inl (by rw[y];exact v))]
  have B:∀q,q∈D++M1++J->∀w,H q=some w->upd H a u q=some w:=λq l w e=>by rw[aj λy=>K a f (by rw[<-y];exact l)];exact e
  have T:=ins (G':=c.g (upd H a u) L) (H':=upd H a u) (y:=some (.ref p)) (t:=t) (L':=p::q) (by rw[N];exact Sq.refl _) (λq l=>B q (by rcases Qx.mp l with z|z<;>simp[z])) (mk _ _ (by rw[N];exact hn _ aM λr _ F=>aj F));rw[set_same hx] at T;refine⟨L,b.nd,?_,b.own,⟨λq w e=>?_,λq l=>?_⟩,b.kp.Cg pk,b.lt,b.hd⟩
  .have:=(X.sm (G':=c.g (upd H a u) L) (H':=upd H a u) (by rw[N];exact Sq.refl _) (λq l=>B q (by simp[l]))).app T;have z:D++(M1++(p::q)++J)=L:=by rw[P];simp
   rw[z] at this;exact this
  .obtain⟨w',h1,h2⟩:=b.fr.st q w e;by_cases z:q=a
   .subst z;refine⟨u,aM,λQ=>?_⟩;rcases b.own q v with y|y
    .exact absurd y Q
    .rw[y] at e;cases e
   .exact⟨w',by rw[aj z];exact h1,h2⟩
  .obtain⟨h1,⟨ob,vs,h2⟩,h3⟩:=b.fr.pk q l;refine⟨?_,⟨ob,vs,h2⟩,h3⟩;rw[aj λy=>?_]
   .exact h1
   .rw[y,h2] at h1;exact S.nf a f _ _ h1
 rcases es with ⟨rfl,rfl⟩|⟨rfl,rfl⟩
 .cases hs with
  |lv h=>exact key _ _ rfl rfl h (λ_ _ h=>.lv h) (λz=>by cases z)
 .cases hs with
  |pv h=>exact key _ _ rfl rfl h (λ_ _ h=>.pv h) (λ_=>⟨_,e,rfl⟩)
theorem dS.change{t:Sl}(b:dS c Y H Z τ O L)(e:Z[i]?=some s)(es:s=.lv o/\t=.lv o'\/s=.pv o/\t=.pv o')
  : ∃p q,Y[i]?=some (some (.ref p))/\LR c.toKx (c.g H L) H p o q/\((∀H',H' p=some u->(∀b∈q,H' b=H b)->LR c.toKx (c.g H L) H' p o' q)->Bd c Y (upd H p u) (Z.set i t) τ O):=by
 obtain⟨p,q,h1,h2,nd,h3⟩:=b.MA (u:=u) e es;exact⟨p,q,h1,h2,λk=>h3 p QH λH' R sm=>k H' R λb d=>sm b (Qz _ d) λz=>(Q3.mp nd).1 (z▸d)⟩
theorem Bd.store{t:Sl}{v:V}(b:Bd c Y H Z (some v::τ) (t::O))(e:Z[i]?=some s)(hs:∀o,s≠.pv o)(l:cst t=false):Bd c (Y.set i (some v)) H (Z.set i t) τ O:=by
 obtain⟨L,nd,rel,own,fr,kp,lt,X⟩:=b;have rel:au c.toKx (c.g H L) H (some v::(τ++Y)) (t::(O++Z)) L:=rel;cases rel with
 |cons h r=>
  rename_i p L';obtain⟨u,L2,e1,y,C⟩:=au.split (by simpa using lt) r;obtain⟨x,M1,n,J,hx,hs',e2,ins⟩:=C.at e;subst e1 e2;have sub:∀a,a∈u++(M1++p++J)->a∈p++(u++(M1++n++J)):=λa f=>by simp at f ⊢;rcases f with z|z|z|z<;>simp[z]
  have sm:Sq (c.g H (p++(u++(M1++n++J)))) (c.g H (u++(M1++p++J))):=dE sub;have hi:i<Z.length:=(Qv.mp e).1;refine⟨u++(M1++p++J),?_,?_,λq R=>own q (sub q R),fr,kp.set hi l,by simpa using lt,X⟩
  .have w:(p++(u++(M1++n++J))).Perm (n++(u++(M1++p++J))):=by rw[SF];intro a;simp only[SQ];lia
   exact(QE.mp ((w.nodup_iff).mp nd)).2.1
  .exact(y.sm sm (λ_ _ _ e=>e)).app (ins sm (λ_ _ _ e=>e) (h.sm sm (λ_ _ _ e=>e)))
end
inductive Rr where
 |rf(i:Nat)|fr(a:A)|nw(o:LO)
noncomputable abbrev Mi(α:Type):=List Sl->Option (Except Str α×List Sl)
noncomputable def aT{α β:Type}(m:Mi α)(f:α->Mi β):Mi β:=λZ=>match m Z with
 |some (.ok x,U)=>f x U
 |some (.error e,U)=>some (.error e,U)
 |none=>none
noncomputable def mq{α:Type}(x:α):Mi α:=λZ=>some (.ok x,Z)
noncomputable def cL:Rr->V->St->St
 | .rf _,_,τ=>τ
 | .fr _,v,τ=>some v::τ
 | .nw _,v,τ=>some v::τ
noncomputable def cN:Rr->List Sl->List Sl
 | .rf _,O=>O
 | .fr a,O=>.fr a::O
 | .nw o,O=>.lv o::O
def VR(Y:St):Rr->V->Prop
 | .rf i,v=>Y[i]?=some (some v)
 |_,_=>True
def res(Z:List Sl):Rr->Option A
 | .rf i=>match Z[i]? with
  |some s=>s.a
  |none=>none
 | .fr a=>some a
 | .nw o=>o.rd
def OL(K:Kx)(E:XK)(c:Cn)(Y:St)(Z:List Sl)(τ:St)(O:List Sl)(Q:VK):Except Str Rr->Prop
 | .ok r=>∀v H,VR Y r v->Bd c Y H Z (cL r v τ) (cN r O)->Q v H
 | .error x=>∀C H,K.mg x=some (.ref C)->Bd c Y H Z τ O->E (.ref C) none H
inductive kj(K:Kx)(E:XK)(m:Mi Rr)(Y:St)(H:Hp)(Q:VK):Prop
 |mk(c:Cn)(Z:List Sl)(τ:St)(O:List Sl)(o:Except Str Rr)(B:List Sl)(h1:c.toKx=K)(h2:Bd c Y H Z τ O)(h3:m Z=some (o,B))(h4:OL K E c Y B τ O Q o)
def K8(K:Kx)(E:XK)(c:Cn)(Y:St)(Z:List Sl)(τ:St)(O:List Sl)(Q:Bool->Hp->Prop):Except Str Bool->Prop
 | .ok b=>∀H,Bd c Y H Z τ O->Q b H
 | .error x=>∀C H,K.mg x=some (.ref C)->Bd c Y H Z τ O->E (.ref C) none H
inductive B9(K:Kx)(E:XK)(m:Mi Bool)(Y:St)(H:Hp)(Q:Bool->Hp->Prop):Prop
 |mk(c:Cn)(Z:List Sl)(τ:St)(O:List Sl)(o:Except Str Bool)(B:List Sl)(h1:c.toKx=K)(h2:Bd c Y H Z τ O)(h3:m Z=some (o,B))(h4:K8 K E c Y B τ O Q o)
def dq:List Rr->List V->St->St
 |r::rs,v::vs,τ=>dq rs vs (cL r v τ)
 |_,_,τ=>τ
def dj:List Rr->List Sl->List Sl
 |r::rs,O=>dj rs (cN r O)
 |[],O=>O
def mJ(Y:St):List Rr->List V->Prop
 |[],[]=>True
 |r::rs,v::vs=>VR Y r v/\mJ Y rs vs
 |_,_=>False
def MP(K:Kx)(E:XK)(c:Cn)(Y:St)(Z:List Sl)(τ:St)(O:List Sl)(Q:List V->Hp->Prop):Except Str (List Rr)->Prop
 | .ok rs=>∀vs H,mJ Y rs vs->Bd c Y H Z (dq rs vs τ) (dj rs O)->Q vs H
 | .error x=>∀C H,K.mg x=some (.ref C)->Bd c Y H Z τ O->E (.ref C) none H
inductive Mf(K:Kx)(E:XK)(m:Mi (List Rr))(Y:St)(H:Hp)(Q:List V->Hp->Prop):Prop
 |mk(c:Cn)(Z:List Sl)(τ:St)(O:List Sl)(o:Except Str (List Rr))(B:List Sl)(h1:c.toKx=K)(h2:Bd c Y H Z τ O)(h3:m Z=some (o,B))(h4:MP K E c Y B τ O Q o)
noncomputable abbrev kx(X:Cx):Kx:=⟨X.K,X.mg,X.prog,X.w⟩
structure JE(X:Cx)(E:XK)(e:Expr)(m:Mi Rr):Prop where
 p:PE X e (kj (kx X) E m)
structure JT(X:Cx)(E:XK)(e:Expr)(m:Mi Bool):Prop where
 p:PT X e (B9 (kx X) E m)
structure JW(X:Cx)(E:XK)(e:Expr)(m:Mi Bool):Prop where
 p:PW X e (B9 (kx X) E m)
structure JA(X:Cx)(E:XK)(es:List Expr)(m:Mi (List Rr)):Prop where
 p:PA X es (Mf (kx X) E m)
variable{X:Cx}{e:Expr}
theorem PE.weaken{t t':TE}(h:PE X e t)(f:∀Y H Q,t' Y H Q->t Y H Q):PE X e t':=λpins s Y H Q I q=>h pins s Y H Q I (f Y H Q q)
variable{t':TT}
theorem PT.weaken{t:TT}(h:PT X e t)(f:∀Y H Q,t' Y H Q->t Y H Q):PT X e t':=λpins s Y H Q I q=>h pins s Y H Q I (f Y H Q q)
theorem PW.weaken{t:TT}(h:PW X e t)(f:∀Y H Q,t' Y H Q->t Y H Q):PW X e t':=λZ pins s Y H Q I q=>h Z pins s Y H Q I (f Y H Q q)
theorem PA.weaken{e:List Expr}{t t':TA}(h:PA X e t)(f:∀Y H Q,t' Y H Q->t Y H Q):PA X e t':=λpos pins s Y H Q I q=>h pos pins s Y H Q I (f Y H Q q)
section
variable{c:Cn}{Y:St}{H:Hp}{Z:List Sl}{τ:St}{O:List Sl}
theorem Bd.drop{r:Rr}{v:V}(b:Bd c Y H Z (cL r v τ) (cN r O)):Bd c Y H Z τ O:=by
 cases r with
 |rf i=>exact b
 |fr a=>exact Bd.pop b
 |nw o=>exact Bd.pop b
theorem Bd.top{v:V}{a:A}(b:Bd c Y H Z (some v::τ) (s::O))(e:s.a=some a):RA c.toKx H v a:=by
 obtain⟨L,nd,rel,_⟩:=b;cases rel with
 |cons h r=>obtain⟨u,z,q⟩:=h.read (g_same _ _ _) e;cases z;exact q
theorem Bd.rd{r:Rr}{v:V}{a:A}(b:Bd c Y H Z (cL r v τ) (cN r O))(p:VR Y r v)(e:res Z r=some a):RA c.toKx H v a:=by
 cases r with
 |rf i=>
  delta res at e
  cases es:Z[i]? with
  |none=>simp only[es] at e;cases e
  |some s=>simp only[es] at e;obtain⟨u,h1,h2⟩:=Bd.slot b es e;rw[p] at h1;cases h1;exact h2
 |fr a'=>cases e;exact Bd.top b rfl
 |nw o=>exact Bd.top b e
theorem eH.items{k:Kx}{x:Option V}(h:eH k G H x s L)(sm:Sq G H):
  (∀as,s.a=some (.lst as)->∃p vs,x=some (.ref p)/\dM k.K H p vs/\bN k G vs as)/\(∀as,s.a=some (.tup as)->∃p vs,x=some (.ref p)/\iL k.K G p vs/\bN k G vs as) /\
  (∀as,s.a=some (.dic as)->∃p vs,x=some (.ref p)/\Rd H p (.dK vs)/\wm k G vs as):=by
 have lo:∀p o q,LR k G H p o q->(∀as,o.rd=some (A.lst as)->∃vs,dM k.K H p vs/\bN k G vs as)/\(∀as,o.rd≠some (A.tup as))/\(∀as,o.rd=some (A.dic as)->∃vs,Rd H p (.dK vs)/\wm k G vs as):=by
  intro p o q h;cases h with
  |lst e r=>exact⟨λas z=>by cases z;exact⟨_,.inl (.inl e),r⟩,λas z=>(by cases z),λas z=>(by cases z)⟩
  |dic e r=>exact⟨λas z=>(by cases z),λas z=>(by cases z),λas z=>by cases z;exact⟨_,.inl e,r⟩⟩
  |obj e m r=>exact⟨λas z=>(by cases z),λas z=>(by cases z),λas z=>(by cases z)⟩
  |dit e r=>exact⟨λas z=>(by cases z),λas z=>(by cases z),λas z=>(by cases z)⟩
  |nob e m r l=>exact⟨λas z=>(by cases z),λas z=>(by cases z),λas z=>(by cases z)⟩
 cases h with
 |un=>exact⟨λ_ z=>(by cases z),λ_ z=>(by cases z),λ_ z=>(by cases z)⟩
 |fr h=>
  refine⟨λas z=>?_,λas z=>?_,λas z=>?_⟩
  .cases z;cases h with|lst e r=>exact⟨_,_,rfl,eY sm e,r⟩
  .cases z;cases h with|tup e r=>exact⟨_,_,rfl,e,r⟩
  .cases z;cases h with|dic e r=>exact⟨_,_,rfl,sm.OK e,r⟩
 |cf h=>
  refine⟨λas z=>?_,λas z=>?_,λas z=>?_⟩
  .cases z;cases h with|lst e r=>exact⟨_,_,rfl,eY sm e,r⟩
  .cases z;cases h with|tup e r=>exact⟨_,_,rfl,e,r⟩
  .cases z;cases h with|dic e r=>exact⟨_,_,rfl,sm.OK e,r⟩
 |lv h=>
  rename_i p o q;obtain⟨Y,t,b⟩:=lo p o q h;refine⟨λas z=>?_,λas z=>absurd z (t as),λas z=>?_⟩
  .obtain⟨vs,h1,h2⟩:=Y as z;exact⟨p,vs,rfl,h1,h2⟩
  .obtain⟨vs,h1,h2⟩:=b as z;exact⟨p,vs,rfl,h1,h2⟩
 |pv h=>
  rename_i p o q;obtain⟨Y,t,b⟩:=lo p o q h;refine⟨λas z=>?_,λas z=>absurd z (t as),λas z=>?_⟩
  .obtain⟨vs,h1,h2⟩:=Y as z;exact⟨p,vs,rfl,h1,h2⟩
  .obtain⟨vs,h1,h2⟩:=b as z;exact⟨p,vs,rfl,h1,h2⟩
def xU(c:Cn)(H:Hp)(L:List Addr)(v:V)(a:A):Prop:=
  (∀as,a=.lst as->∃p vs,v=.ref p/\dM c.K H p vs/\bN c.toKx (c.g H L) vs as)/\(∀as,a=.tup as->∃p vs,v=.ref p/\iL c.K (c.g H L) p vs/\bN c.toKx (c.g H L) vs as) /\
  (∀as,a=.dic as->∃p vs,v=.ref p/\Rd H p (.dK vs)/\wm c.toKx (c.g H L) vs as)
theorem xU.mono{v:V}{a:A}(h:xU c H L v a)(s:∀a,a∈L'->a∈L):xU c H L' v a:=by
 obtain⟨h1,h2,h3⟩:=h;refine⟨λas e=>?_,λas e=>?_,λas e=>?_⟩
 .obtain⟨p,vs,j,n,C⟩:=h1 as e;exact⟨p,vs,j,n,C.sm (dE s)⟩
 .obtain⟨p,vs,j,n,C⟩:=h2 as e;exact⟨p,vs,j,f9 (dE s) n,C.sm (dE s)⟩
 .obtain⟨p,vs,j,n,C⟩:=h3 as e;exact⟨p,vs,j,n,C.sm (dE s)⟩
theorem xU.of{L2:List Addr}{x:Option V}{v:V}{a:A}(ex:x=some v)(h:eH c.toKx (c.g H L) H x s L2)(E:s.a=some a):xU c H L v a:=by
 subst ex;obtain⟨Y,t,b⟩:=h.items (g_same _ _ _);refine⟨λas z=>?_,λas z=>?_,λas z=>?_⟩<;>subst z
 .obtain⟨p,vs,q,h1,h2⟩:=Y as E;exact⟨p,vs,QW q,h1,h2⟩
 .obtain⟨p,vs,q,h1,h2⟩:=t as E;exact⟨p,vs,QW q,h1,h2⟩
 .obtain⟨p,vs,q,h1,h2⟩:=b as E;exact⟨p,vs,QW q,h1,h2⟩
theorem dS.open{r:Rr}{v:V}{a:A}{q:List Addr}(b:dS c Y H Z (cL r v τ) (cN r O) q)(w:VR Y r v)(e:res Z r=some a):∃L,(∀a,a∈L->a∈q)/\dS c Y H Z τ O L/\xU c H L v a:=by
 have y:∀s,dS c Y H Z (some v::τ) (s::O) q->s.a=some a->∃L,(∀a,a∈L->a∈q)/\dS c Y H Z τ O L/\xU c H L v a:=by
  intro s b E;obtain⟨nd,rel,own,fr,kp,lt,X⟩:=b;have rel:au c.toKx (c.g H q) H (some v::(τ++Y)) (s::(O++Z)) q:=rel;cases rel with
  |cons h r=>rename_i u L2;have sm:Sq (c.g H (u++L2)) (c.g H L2):=dE λa f=>Qs _ f;exact⟨L2,λa f=>Qs _ f,⟨(QE.mp nd).2.1,r.sm sm (λ_ _ _ e=>e),λp hp=>own p (Qs _ hp),fr,kp,by simpa using lt,X⟩,xU.of rfl (h.sm sm (λ_ _ _ e=>e)) E⟩
 cases r with
 |rf i=>
  unfold res at e;cases es:Z[i]? with
  |none=>simp only[es] at e;cases e
  |some s=>simp only[es] at e;obtain⟨u,L2,e1,t,l⟩:=au.split b.lt b.rel;obtain⟨x,_,_,_,hx,hs,_⟩:=l.at es;have w:Y[i]?=some (some v):=w;rw[w] at hx;exact⟨q,λ_ h=>h,b,xU.of (QW hx).symm hs e⟩
 |fr a'=>exact y _ b e
 |nw o=>exact y _ b e
theorem Bd.open{r:Rr}{v:V}{a:A}(b:Bd c Y H Z (cL r v τ) (cN r O))(p:VR Y r v)(e:res Z r=some a):∃L,dS c Y H Z τ O L/\xU c H L v a:=by obtain⟨L,b⟩:=b;obtain⟨L',_,h⟩:=b.open p e;exact⟨L',h⟩
theorem Bd.AQ{r r':Rr}{v x:V}{a a':A}(b:Bd c Y H Z (cL r' x (cL r v τ)) (cN r' (cN r O)))(p:VR Y r v)(i:VR Y r' x)(e:res Z r=some a)(k:res Z r'=some a'):∃L,dS c Y H Z τ O L/\xU c H L v a/\xU c H L x a':=by obtain⟨L,b⟩:=b;obtain⟨u,s1,b1,s⟩:=b.open i k;obtain⟨L2,s2,b2,I⟩:=b1.open p e;exact⟨L2,b2,I,s.mono s2⟩
end
variable{pos:Pos}{β:Type}{B:List Sl}{ma mb:Mi Rr}{Q:VK}{r:R2}{op:X6}{mt:Mi Bool}{es:List Expr}
section
variable{X:Cx}{E:XK}
noncomputable def ab(i:Nat):Mi Rr:=λZ=>match Z[i]? with
 |some (.fr a)=>some (.ok (.fr a),Z)
 |some (.cf a)=>some (.ok (.fr a),Z)
 |some (.lv _)=>some (.ok (.rf i),Z)
 |some (.pv _)=>some (.ok (.rf i),Z)
 |_=>none
noncomputable def ai(i:Nat):Mi Rr:=λZ=>match Z[i]? with
 |some (.fr a)=>some (.ok (.fr a),Z)
 |some (.cf a)=>some (.ok (.fr a),Z)
 |some (.lv o)=>some (.ok (.fr o.a),Z.set i (.fr o.a))
 |_=>none
noncomputable def mC(a:A):Mi Rr:=λZ=>some (.ok (.fr a),Z)
theorem J3{x:Str}(hN:X.N[i]?=some x)(A:jh X.env.scope x)(hd:fg x)(e:km x):JE X E (.Name x pos) (ab i):=
 ⟨PE.weaken (bH hN A hd e) λY H Q h=>by
  obtain⟨c,Z,τ,O,o,B,y,b,em,q⟩:=h
  delta ab at em
  cases es:Z[i]? with
  |none=>rw[es] at em;cases em
  |some s=>
   cases s with
   |un=>rw[es] at em;cases em
   |fr a=>rw[es] at em;cases em;obtain⟨v,h1,h2⟩:=b.load es;exact⟨v,h1,q v H trivial h2⟩
   |cf a=>rw[es] at em;cases em;obtain⟨v,h1,h2⟩:=b.ET es;exact⟨v,h1,q v H trivial h2⟩
   |lv o=>simp only[es] at em;cases em;obtain⟨p,h1⟩:=b.Fv (.inl es);exact⟨_,h1,q _ H h1 b⟩
   | pv o=>simp only[es] at em;cases em;obtain⟨p,h1⟩:=b.Fv (.inr es);exact⟨_,h1,q _ H h1 b⟩⟩
theorem CY{x:Str}(hN:X.N[i]?=some x)(A:jh X.env.scope x)(hd:fg x)(p:km x):JE X E (.Name x pos) (ai i):=
 ⟨PE.weaken (bH hN A hd p) λY H Q h=>by
  obtain⟨c,Z,τ,O,o,B,y,b,em,q⟩:=h
  delta ai at em
  cases es:Z[i]? with
  |none=>rw[es] at em;cases em
  |some s=>
   cases s with
   |un=>rw[es] at em;cases em
   |fr a=>rw[es] at em;cases em;obtain⟨v,h1,h2⟩:=b.load es;exact⟨v,h1,q v H trivial h2⟩
   |cf a=>rw[es] at em;cases em;obtain⟨v,h1,h2⟩:=b.ET es;exact⟨v,h1,q v H trivial h2⟩
   |lv o=>rw[es] at em;cases em;have b2:=b.vQ es;have hi:=(Qv.mp es).1;obtain⟨v,h1,h2⟩:=b2.load (QN hi);exact⟨v,h1,q v H trivial h2⟩
   | pv o=>rw[es] at em;cases em⟩
theorem AX{v:V}{a:A}(h:PE X e (tC v))(r:∀G,RA (kx X) G v a):JE X E e (mC a):=⟨PE.weaken h λY H Q h=>by obtain⟨c,Z,τ,O,o,B,y,b,em,q⟩:=h;cases em;exact q v H trivial (b.push (by rw[y];exact r))⟩
theorem IT{i j pos}:JE X E (.Constant (.int i) j pos) (mC (.int i)):=AX Js λ_=>.int _
theorem Kv{b j pos}:JE X E (.Constant (.bool b) j pos) (mC (.bl b)):=AX KQ λ_=>.bl _
theorem Jz{j pos}:JE X E (.Constant .none j pos) (mC .non):=AX Im λ_=>.non
theorem J1{x j pos}:JE X E (.Constant (.str x) j pos) (mC (.str x)):=AX HW λ_=>.str _
theorem Dq{x:Str}{v:V}{u:Value}{a:A}(J:Gl X x)(hm:X.mg x=some u)(r:RelV v u)(H:∀G,RA (kx X) G v a)(hd:fg x):JE X E (.Name x pos) (mC a):=AX (u3 J hm r hd) H
def aB(f:A->A->Option Rr)(ma mb:Mi Rr):Mi Rr:=aT ma λx=>aT mb λy=>λZ=>match res Z x,res Z y with
 |some a,some b=>match f a b with
  |some r=>some (.ok r,Z)
  |none=>none
 |_,_=>none
def iT(K:Kx)(r:R2)(f:A->A->Option Rr):Prop:=∀(c:Cn)(Y:St)(H:Hp)(Z:List Sl)(τ:St)(O:List Sl)(x y:Rr)(v w:V)(a b:A)(q:Rr)(Q:VK),c.toKx=K->VR Y x v->VR Y y w->
 Bd c Y H Z (cL y w (cL x v τ)) (cN y (cN x O))->res Z x=some a->res Z y=some b->f a b=some q->(∀u H',VR Y q u->Bd c Y H' Z (cL q u τ) (cN q O)->Q u H')->r v w H Q
theorem bind_some{m:Mi α}{f:α->Mi β}{o:Except Str β}(h:aT m f Z=some (o,B)):(∃x U,m Z=some (.ok x,U)/\f x U=some (o,B))\/∃e,m Z=some (.error e,B)/\o=.error e:=by
 delta aT at h
 cases e:m Z with
 |none=>rw[e] at h;cases h
 |some p=>
  obtain⟨r,U⟩:=p;cases r with
  |ok x=>rw[e] at h;exact .inl ⟨x,U,rfl,h⟩
  |error x=>simp only[e] at h;cases h;exact .inr ⟨x,rfl,rfl⟩
theorem a9{f:Rr->Mi β}{o:Except Str β}(y:c.toKx=kx X)(b:Bd c Y H Z τ O)(em:aT ma f Z=some (o,B))
  (h1:∀x v U V,VR Y x v->Bd c Y V U (cL x v τ) (cN x O)->f x U=some (o,B)->Q v V)
  (h2:∀e,o=.error e->∀C H,X.mg e=some (.ref C)->Bd c Y H B τ O->E (.ref C) none H):kj (kx X) E ma Y H Q:=by
 rcases bind_some em with ⟨x,U,e1,e2⟩|⟨e,e1,e2⟩
 .exact⟨c,Z,τ,O,_,U,y,b,e1,λv V A b1=>h1 x v U V A b1 e2⟩
 .exact⟨c,Z,τ,O,_,B,y,b,e1,λC V hm b1=>h2 e e2 C V hm b1⟩
theorem cS{x:Rr}{v:V}{o:Except Str β}(h:∀e,o=.error e->∀C H,X.mg e=some (.ref C)->Bd c Y H B τ O->E (.ref C) none H):
  ∀e,o=.error e->∀C H,X.mg e=some (.ref C)->Bd c Y H B (cL x v τ) (cN x O)->E (.ref C) none H:=λe q C H hm b=>h e q C H hm b.drop
theorem bD{o:Except Str Rr}(q:OL (kx X) E c Y B τ O Q o):∀e,o=.error e->∀C H,X.mg e=some (.ref C)->Bd c Y H B τ O->E (.ref C) none H:=λe v=>by subst v;exact q
theorem jb{o:Except Str Bool}{Q:Bool->Hp->Prop}(q:K8 (kx X) E c Y B τ O Q o):∀e,o=.error e->∀C H,X.mg e=some (.ref C)->Bd c Y H B τ O->E (.ref C) none H:=λe v=>by subst v;exact q
theorem Ar{o:Except Str (List Rr)}{Q:List V->Hp->Prop}(q:MP (kx X) E c Y B τ O Q o):∀e,o=.error e->∀C H,X.mg e=some (.ref C)->Bd c Y H B τ O->E (.ref C) none H:=λe v=>by subst v;exact q
theorem vx{f:A->A->Option Rr}{x y:Rr}{o:Except Str Rr}(h:(match res Z x,res Z y with|some a,some b=>(match f a b with|some r=>some ((.ok r:Except Str Rr),Z)|none=>none)|_,_=>none)=some (o,B)):
  ∃a b r,res Z x=some a/\res Z y=some b/\f a b=some r/\o=.ok r/\B=Z:=by
 cases e1:res Z x with
 |none=>rw[e1] at h;cases h
 |some a=>
  cases e2:res Z y with
  |none=>rw[e1,e2] at h;cases h
  |some b=>
   rw[e1,e2] at h;cases N:f a b with
   |none=>simp only[N] at h;cases h
   |some r=>simp only[N] at h;cases h;exact⟨a,b,r,rfl,rfl,N,rfl,rfl⟩
theorem ju{f:A->A->Option Rr}(hf:iT (kx X) r f)(Y:St)(H:Hp)(Q:VK)(h:kj (kx X) E (aB f ma mb) Y H Q):JJ r (kj (kx X) E ma) (kj (kx X) E mb) Y H Q:=by obtain⟨c,Z,τ,O,o,B,e,b,em,q⟩:=h;refine a9 e b em (λx v U V p b1 D=>?_) (bD q);refine a9 e b1 D (λy w Z' S n b2 K=>?_) (cS (bD q));obtain⟨a,d,r,e1,e2,N,rfl,rfl⟩:=vx K;exact hf c Y S _ τ O x y v w a d r Q e p n b2 e1 e2 N q
theorem lT{op:YT}{f:A->A->Option Rr}{a b:Expr}(ho:iC X (XU op) r)(hf:iT (kx X) r f)(c:JE X E a ma)(d:JE X E b mb):JE X E (.BinOp a op b pos) (aB f ma mb):=
 ⟨PE.weaken (Na ho c.p d.p) (ju hf)⟩
theorem fZ{f:A->A->Option Rr}{a b:Expr}(ho:iC X (XJ op) r)(hf:iT (kx X) r f)(c:JE X E a ma)(d:JE X E b mb)(hm:XE op b=false):JE X E (.Compare a [op] [b] pos) (aB f ma mb):=
 ⟨PE.weaken (DC ho c.p d.p hm) (ju hf)⟩
noncomputable def P2:Rr->Option Bool
 | .fr (.bl b)=>some b
 |_=>none
def ay(m:Mi Rr):Mi Bool:=aT m λr Z=>match P2 r with
 |some b=>some (.ok b,Z)
 |none=>none
theorem hZ{m:Mi Rr}(Y:St)(H:Hp)(Q:Bool->Hp->Prop)(h:B9 (kx X) E (ay m) Y H Q):kj (kx X) E m Y H λx H'=>∃k,x=.bl k/\Q k H':=by
 obtain⟨c,Z,τ,O,o,B,y,b,em,q⟩:=h;refine a9 y b em (λx v U V A b1 D=>?_) (jb q);cases x with
 |rf i=>cases D
 |nw o=>cases D
 |fr a=>
  cases a with
  |bl k=>cases D;have r:=Bd.top b1 rfl;cases r;exact⟨k,rfl,q V b1.pop⟩
  |_=>exact cy D
theorem fX{f:A->A->Option Rr}{a b:Expr}(ho:iC X (XJ op) r)(hf:iT (kx X) r f)(c:JE X E a ma)(d:JE X E b mb)(hm:XE op b=false):JT X E (.Compare a [op] [b] pos) (ay (aB f ma mb)):=
 ⟨PT.weaken (ui ho c.p d.p hm) λY H Q h=>ju hf Y H _ (hZ Y H Q h)⟩
theorem F8{m:Mi Rr}(h:JE X E e m)(he:∀whole,YJ e X.env whole=(do let v <- whole;Yb e.pos;holding [v] (truthy v)):=by intro _;rfl):JT X E e (ay m):=
 ⟨PT.weaken (JD h.p he) λY H Q h=>hZ Y H Q h⟩
def mV(m n:Mi Bool):Mi Bool:=aT m λb=>if b then n else mq false
def Iu(m n:Mi Bool):Mi Bool:=aT m λb=>if b then mq true else n
def KO(m:Mi Bool):Mi Bool:=aT m λb=>mq (!b)
theorem jD{m:Mi Bool}{f:Bool->Mi β}{o:Except Str β}{Q:Bool->Hp->Prop}(y:c.toKx=kx X)(b:Bd c Y H Z τ O)(em:aT m f Z=some (o,B))
  (h1:∀k U V,Bd c Y V U τ O->f k U=some (o,B)->Q k V)
  (h2:∀e,o=.error e->∀C H,X.mg e=some (.ref C)->Bd c Y H B τ O->E (.ref C) none H):B9 (kx X) E m Y H Q:=by
 rcases bind_some em with ⟨x,U,e1,e2⟩|⟨e,e1,e2⟩
 .exact⟨c,Z,τ,O,_,U,y,b,e1,λV b1=>h1 x U V b1 e2⟩
 .exact⟨c,Z,τ,O,_,B,y,b,e1,λC V hm b1=>h2 e e2 C V hm b1⟩
theorem IC{a:Expr}{m:Mi Bool}(h:JT X E a m):JT X E (.UnaryOp .Not a pos) (KO m):=⟨PT.weaken (HM h.p) λY H Q h=>by obtain⟨c,Z,τ,O,o,B,y,b,em,q⟩:=h;refine jD y b em (λk U V b1 D=>?_) (jb q);cases D;exact q V b1⟩
theorem Di{a:Expr}{m:Mi Bool}(h:JT X E a m):JW X E (.BoolOp .And [a] pos) m:=⟨DO h.p⟩
theorem Jp{a:Expr}{m:Mi Bool}(h:JT X E a m):JW X E (.BoolOp .Or [a] pos) m:=⟨Ib h.p⟩
theorem Hr{a b:Expr}{rest:List Expr}{m n:Mi Bool}(h:JT X E a m)(h':JW X E (.BoolOp .And (b::rest) pos) n):JW X E (.BoolOp .And (a::b::rest) pos) (mV m n):=⟨PW.weaken (Hg h.p h'.p) λY H Q h=>by
 obtain⟨c,Z,τ,O,o,B,y,b,em,q⟩:=h;refine jD y b em (λk U V b1 D=>?_) (jb q);cases k with
 |true=>rw[YY rfl];exact⟨c,U,τ,O,o,B,y,b1,D,q⟩
 | false=>rw[YZ Z2];cases D;exact q V b1⟩
theorem Ln{a b:Expr}{rest:List Expr}{m n:Mi Bool}(h:JT X E a m)(h':JW X E (.BoolOp .Or (b::rest) pos) n):JW X E (.BoolOp .Or (a::b::rest) pos) (Iu m n):=⟨PW.weaken (Lv h.p h'.p) λY H Q h=>by
 obtain⟨c,Z,τ,O,o,B,y,b,em,q⟩:=h;refine jD y b em (λk U V b1 D=>?_) (jb q);cases k with
 |true=>rw[YY rfl];cases D;exact q V b1
 | false=>rw[YZ Z2];exact⟨c,U,τ,O,o,B,y,b1,D,q⟩⟩
theorem MH{m:Mi Bool}(h:JW X E e m):JT X E e m:=⟨h.p.pt⟩
def EK(m n:Mi Rr):Mi Rr:=aT (ay m) λb=>if b then n else mC (.bl false)
def Fx(m:Mi Rr):Mi Rr:=aT (ay m) λb=>mC (.bl (!b))
theorem vJ{m:Mi Rr}{f:Bool->Mi β}{o:Except Str β}{Q:Bool->Hp->Prop}(y:c.toKx=kx X)(b:Bd c Y H Z τ O)(em:aT (ay m) f Z=some (o,B))
  (h1:∀k U V,Bd c Y V U τ O->f k U=some (o,B)->Q k V)
  (h2:∀e,o=.error e->∀C H,X.mg e=some (.ref C)->Bd c Y H B τ O->E (.ref C) none H):kj (kx X) E m Y H λx H'=>∃k,x=.bl k/\Q k H':=
 hZ Y H Q (jD y b em h1 h2)
theorem Iw{op}{a:Expr}{m:Mi Rr}(h:JE X E a m):JE X E (.BoolOp op [a] pos) m:=⟨HA h.p⟩
theorem HN{a b:Expr}{rest:List Expr}{m n:Mi Rr}(h:JE X E a m)(h':JE X E (.BoolOp .And (b::rest) pos) n):JE X E (.BoolOp .And (a::b::rest) pos) (EK m n):=⟨PE.weaken (GP h.p h'.p) λY H Q h=>by
 obtain⟨c,Z,τ,O,o,B,y,b,em,q⟩:=h;refine vJ y b em (λk U V b1 D=>?_) (bD q);cases k with
 |true=>rw[YY rfl];exact⟨c,U,τ,O,o,B,y,b1,D,q⟩
 | false=>rw[YZ Z2];cases D;exact q (.bl false) V trivial (b1.push λ_=>.bl _)⟩
theorem Hc{a:Expr}{m:Mi Rr}(h:JE X E a m):JE X E (.UnaryOp .Not a pos) (Fx m):=⟨PE.weaken (G6 h.p) λY H Q h=>by obtain⟨c,Z,τ,O,o,B,y,b,em,q⟩:=h;refine vJ y b em (λk U V b1 D=>?_) (bD q);cases D;exact q (.bl (!k)) V trivial (b1.push λ_=>.bl _)⟩
def MD(t:Mi Bool)(m n:Mi Rr):Mi Rr:=aT t λb=>if b then m else n
theorem M8{t a b:Expr}{m n:Mi Rr}(l:JT X E t mt)(f:JE X E a m)(d:JE X E b n):JE X E (.IfExp t a b pos) (MD mt m n):=⟨PE.weaken (Bv l.p f.p d.p) λY H Q h=>by
 obtain⟨c,Z,τ,O,o,B,y,b,em,q⟩:=h;refine jD y b em (λk U V b1 D=>?_) (bD q);cases k with
 |true=>rw[YY rfl];exact⟨c,U,τ,O,o,B,y,b1,D,q⟩
 | false=>rw[YZ Z2];exact⟨c,U,τ,O,o,B,y,b1,D,q⟩⟩
def pV:Mi (List Rr):=mq []
def c9(m:Mi Rr)(n:Mi (List Rr)):Mi (List Rr):=aT m λr=>aT n λrs=>mq (r::rs)
theorem z7:JA X E [] pV:=⟨PA.weaken bY λY H Q h=>by obtain⟨c,Z,τ,O,o,B,y,b,em,q⟩:=h;cases em;exact q [] H trivial b⟩
theorem u9{m:Mi Rr}{n:Mi (List Rr)}(h:JE X E e m)(h':JA X E es n)(hs:Xo (e::es) X.env=(false,eval e X.env)::Xo es X.env:=by rfl):JA X E (e::es) (c9 m n):=⟨PA.weaken (aU h.p h'.p hs) λY H Q h=>by
 obtain⟨c,Z,τ,O,o,B,ek,b,em,q⟩:=h;refine a9 ek b em (λx v U H1 hv b1 em1=>?_) (Ar q);rcases bind_some em1 with ⟨rs,Z',e1,e2⟩|⟨e,e1,e2⟩
 .cases e2;exact⟨c,U,_,_,_,B,ek,b1,e1,λvs H2 hvs b2=>q (v::vs) H2 ⟨hv,hvs⟩ b2⟩
 .subst e2;exact⟨c,U,_,_,_,B,ek,b1,e1,λC H2 hm b2=>q C H2 hm b2.drop⟩⟩
end
variable{xs:St}{ss:List Sl}{rs:List Rr}
section
variable{c:Cn}{Y:St}{H:Hp}{Z:List Sl}{τ:St}{O:List Sl}
theorem zi{l:List α}{x:α}(h:l[i]?=some x):l.set i x=l:=by
 apply R6;intro j;by_cases z:j=i
 .subst z;rw[QN (Qv.mp h).1,h]
 .rw[QY (Rz z)]
theorem Cd(h:∀a,a∈L↔a∈L'):c.g H L=c.g H L':=by
 funext a
 by_cases z:a∈L\/a∈c.Hd
 .rw[gH z,gH (by rwa[<-h a])]
 .rw[bJ (λy=>z (.inl y)) (λy=>z (.inr y)),bJ (λy=>z (.inl ((h a).mpr y))) (λy=>z (.inr y))]
theorem dS.perm(b:dS c Y H Z τ O L){J:St}{T:List Sl}(pm:L'.Perm L)(lt:J.length=T.length)(r:au c.toKx (c.g H L) H (J++Y) (T++B) L')(kp:eQ c.σ0 Y B):dS c Y H B J T L':=
 ⟨(pm.nodup_iff).mpr b.nd,by rw[Cd (L':=L) λa=>pm.mem_iff];exact r,λp hp=>b.own p (pm.mem_iff.mp hp),b.fr,kp,lt,b.hd⟩
theorem Bd.Nf{v:V}(e:xs.length=ss.length)(b:Bd c Y H Z (xs++some v::τ) (ss++.lv o::O)):Bd c Y H Z (xs++some v::τ) (ss++.fr o.a::O):=by
 obtain⟨L,b⟩:=b;have r:au c.toKx (c.g H L) H (xs++(some v::(τ++Y))) (ss++(.lv o::(O++Z))) L:=by have:=b.rel;simpa[Qw] using this
 obtain⟨D,L2,e1,t,l⟩:=au.split e r;cases l with
 |cons h T=>
  rename_i B x;cases h with
  |lv h=>
   rename_i p q;have nd:=b.nd;rw[e1,<-Qw] at nd;obtain⟨X,hp⟩:=iJ nd;have sub:∀a,a∈D++x->a∈L:=λa f=>by rw[e1];simp at f ⊢;rcases f with z|z<;>simp[z]
   have sm:Sq (c.g H L) (c.g H (D++x)):=dE sub;refine⟨D++x,X,?_,λq R=>b.own q (sub q R),b.fr,b.kp,by have:=b.lt;simp at this ⊢;exact id ‹_›,b.hd⟩;have:=(t.sm sm (λ_ _ _ e=>e)).app (au.cons (L:=[]) (.fr (h.a' sm λa f u e=>by rw[bJ (hp a f) (b.xK (by rw[e1];exact Qs _ (Qu _ f)))];exact e)) (T.sm sm (λ_ _ _ e=>e)));simpa[Qw] using this
theorem Bd.G9{v:V}{a:A}(e:xs.length=ss.length)(b:Bd c Y H Z (xs++τ) (ss++O))(p:Y[i]?=some (some v))(hs:Z[i]?=some (.fr a)):Bd c Y H Z (xs++some v::τ) (ss++.fr a::O):=by
 obtain⟨L,b⟩:=b;obtain⟨M1,n,_,_,l⟩:=au.split b.lt b.rel;obtain⟨x,_,_,_,hx,q,_⟩:=l.at hs;rw[p] at hx;cases hx;cases q with
 |fr h=>
  have r:au c.toKx (c.g H L) H (xs++(τ++Y)) (ss++(O++Z)) L:=by have:=b.rel;simpa[Qw] using this
  obtain⟨u,L2,e1,t,l⟩:=au.split e r;refine⟨L,b.nd,?_,b.own,b.fr,b.kp,by have:=b.lt;simp at this ⊢;lia,b.hd⟩;have:=t.app (au.cons (L:=[]) (.fr h) l);rw[e1] at this ⊢;simpa[Qw] using this
theorem zT(u L2 M1 J q:List Addr):(u++(q++(L2++(M1++J)))).Perm (u++(L2++(M1++(q++J)))):=by rw[SF];intro a;simp only[SQ];lia
theorem Bd.Je{v:V}(e:xs.length=ss.length)(b:Bd c Y H Z (xs++τ) (ss++O))(A:Y[i]?=some (some v))(hs:Z[i]?=some s)(hk:s=.lv o\/s=.pv o):
  Bd c Y H (Z.set i .un) (xs++some v::τ) (ss++.lv o::O):=by
 obtain⟨L,b⟩:=b;have r:au c.toKx (c.g H L) H (xs++(τ++Y)) (ss++(O++Z)) L:=by have:=b.rel;simpa[Qw] using this
 obtain⟨u,L2,e1,X,l⟩:=au.split e r;obtain⟨w,S,e2,T,I⟩:=au.split (by have:=b.lt;simp at this;lia) l;obtain⟨x,M1,n,J,hx,a,N,ins⟩:=I.at hs;rw[A] at hx;cases hx;have fin:∀p q,v=.ref p->n=p::q->LR c.toKx (c.g H L) H p o q->Bd c Y H (Z.set i .un) (xs++some v::τ) (ss++.lv o::O):=by
  intro p q P em h;subst P em;have B:=ins (y:=some (.ref p)) (t:=.un) (L':=[]) (Sq.refl _) (λ_ _ _ e=>e) (.un _);rw[zi A] at B;have K:=X.app (au.cons (eH.lv h) (T.app B));have pm:(u++((p::q)++(w++(M1++[]++J)))).Perm L:=by rw[e1,e2,N];simpa using zT u w M1 J (p::q)
  exact⟨_,b.perm pm (by have:=b.lt;simp at this ⊢;lia) (by simpa[Qw] using K) (b.kp.Cg (λz=>by cases z))⟩
 rcases hk with rfl|rfl
 .cases a with|lv h=>exact fin _ _ rfl rfl h
 .cases a with|pv h=>exact fin _ _ rfl rfl h
theorem Bd.putBack{v:V}{t:Sl}(b:Bd c Y H Z (some v::τ) (.lv o::O))(A:Y[i]?=some (some v))(hs:Z[i]?=some .un)(hk:t=.lv o\/(t=.pv o/\Y[i]?=c.σ0[i]?)):Bd c Y H (Z.set i t) τ O:=by
 obtain⟨L,b⟩:=b;have r:au c.toKx (c.g H L) H (some v::(τ++Y)) (.lv o::(O++Z)) L:=b.rel;cases r with
 |cons h r=>
  rename_i I L';obtain⟨u,L2,e1,X,l⟩:=au.split (by have:=b.lt;simpa using this) r;obtain⟨x,M1,n,J,hx,s,N,ins⟩:=l.at hs;cases s with
  |un=>
   cases h with
   |lv h=>
    rename_i p q;have fin:eH c.toKx (c.g H ((p::q)++L')) H (some (.ref p)) t (p::q)->eQ c.σ0 Y (Z.set i t)->Bd c Y H (Z.set i t) τ O:=λh kp=>by
     have B:=ins (Sq.refl _) (λ_ _ _ e=>e) h;rw[zi A] at B;have pm:(u++(M1++(p::q)++J)).Perm ((p::q)++L'):=by rw[e1,N];rw[SF];intro a;simp only[SQ,List.count_cons,List.count_nil];lia
     exact⟨_,b.perm pm (by have:=b.lt;simpa using this) (X.app B) kp⟩
    rcases hk with rfl|⟨rfl,hk⟩
    .exact fin (.lv h) (b.kp.Cg (λz=>by cases z))
    .refine fin (.pv h) λj o' q w=>?_;by_cases z:j=i
     .subst z;exact hk
     .rw[QY (Rz z)] at q;exact b.kp j o' q w
theorem dQ:∀(rs:List Rr)(vs:List V)(τ:St),dq rs vs τ=dq rs vs []++τ
 |[],_,τ=>rfl
 |r::rs,[],τ=>rfl
 |r::rs,v::vs,τ=>by show dq rs vs (cL r v τ)=dq rs vs (cL r v [])++τ;simp only[dQ rs vs (cL r v τ),dQ rs vs (cL r v []),Qw];cases r<;>rfl
theorem dP:∀(rs:List Rr)(O:List Sl),dj rs O=dj rs []++O
 |[],O=>rfl
 |r::rs,O=>by show dj rs (cN r O)=dj rs (cN r [])++O;simp only[dP rs (cN r O),dP rs (cN r []),Qw];cases r<;>rfl
theorem mJ.len:∀{rs:List Rr}{vs:List V},mJ Y rs vs->rs.length=vs.length
 |[],[],_=>rfl
 |_::rs,_::vs,h=>by simp only[QF,QF,mJ.len h.2]
 |[],_::_,h=>h.elim
 |_::_,[],h=>h.elim
theorem pY:∀(rs:List Rr)(vs:List V),rs.length=vs.length->(dq rs vs []).length=(dj rs []).length
 |[],[],_=>rfl
 |r::rs,v::vs,h=>by show (dq rs vs (cL r v [])).length=(dj rs (cN r [])).length;rw[dQ,dP,QO,QO,pY rs vs (by simpa using h)];cases r<;>rfl
 |[],_::_,h=>by simp at h
 |_::_,[],h=>by simp at h
noncomputable def bS:Rr->List Sl->Option (A×List Sl)
 | .fr a,Z=>some (a,Z)
 | .nw o,Z=>some (o.a,Z)
 | .rf i,Z=>match Z[i]? with
  |some (.lv o)=>some (o.a,Z.set i (.fr o.a))
  |some (.fr a)=>some (a,Z)
  |_=>none
def dr:List Rr->List Sl->Option (List A×List Sl)
 |[],Z=>some ([],Z)
 |r::rs,Z=>match bS r Z with
  |some (a,U)=>match dr rs U with
   |some (as,Z')=>some (a::as,Z')
   |none=>none
  |none=>none
theorem Bd.bS{r:Rr}{v:V}{a:A}{B:List Sl}{xs:St}{ss:List Sl}(e:xs.length=ss.length)(b:Bd c Y H Z (xs++cL r v τ) (ss++cN r O))(p:VR Y r v)(h:bS r Z=some (a,B)):Bd c Y H B (xs++some v::τ) (ss++.fr a::O):=by
 cases r with
 |fr a'=>cases h;exact b
 |nw o=>cases h;exact Bd.Nf e b
 |rf i=>
  delta M.bS at h
  cases es:Z[i]? with
  |none=>simp only[es] at h;cases h
  |some s=>
   cases s with
   |un=>simp only[es] at h;cases h
   |pv o=>simp only[es] at h;cases h
   |cf o=>simp only[es] at h;cases h
   |fr a'=>simp only[es] at h;cases h;exact Bd.G9 e b p es
   |lv o=>simp only[es] at h;cases h;have b2:=Bd.vQ b es;exact Bd.G9 e b2 p (QN (Qv.mp es).1)
theorem vY{r:Rr}{as:List A}(h:dr (r::rs) Z=some (as,B)):∃a H U,bS r Z=some (a,U)/\dr rs U=some (H,B)/\as=a::H:=by
 unfold dr at h;cases e1:bS r Z with
 |none=>rw[e1] at h;cases h
 |some p=>
  obtain⟨a,U⟩:=p;rw[e1] at h;cases e2:dr rs U with
  |none=>simp only[e2] at h;cases h
  |some q=>obtain⟨H,Z'⟩:=q;simp only[e2] at h;cases h;exact⟨a,H,U,rfl,e2,rfl⟩
theorem Bd.dr:∀{rs:List Rr}{vs:List V}{as:List A}{Z B:List Sl}{τ:St}{O:List Sl},mJ Y rs vs->Bd c Y H Z (dq rs vs τ) (dj rs O)->dr rs Z=some (as,B)->Bd c Y H B (vs.reverse.map some++τ) (as.reverse.map Sl.fr++O)/\vs.length=as.length
 |[],[],_,_,_,_,_,_,b,h=>by cases h;exact⟨b,rfl⟩
 |r::rs,v::vs,_,Z,B,τ,O,hv,b,h=>by obtain⟨a,as,U,e1,e2,rfl⟩:=vY h;have b:Bd c Y H Z (dq rs vs (cL r v τ)) (dj rs (cN r O)):=b;rw[dQ,dP] at b;have b1:=Bd.bS (pY rs vs (mJ.len hv.2)) b hv.1 e1;simp only[<-dQ rs vs (some v::τ),<-dP rs (.fr a::O)] at b1;obtain ⟨b2,N⟩:=Bd.dr hv.2 b1 e2;exact ⟨by simpa using b2,by simp [N]⟩
 |[],_ :: _,_,_,_,_,_,h,_,_=>h.elim
 |_ :: _,[],_,_,_,_,_,h,_,_=>h.elim
end
section
variable{X:Cx}{E:XK}
theorem uh{m:Mi (List Rr)}{f:List Rr->Mi β}{o:Except Str β}{Q:List V->Hp->Prop}(y:c.toKx=kx X)(b:Bd c Y H Z τ O)(em:aT m f Z=some (o,B))
  (h1:∀rs vs U L,mJ Y rs vs->Bd c Y L U (dq rs vs τ) (dj rs O)->f rs U=some (o,B)->Q vs L)
  (h2:∀e,o=.error e->∀C H,X.mg e=some (.ref C)->Bd c Y H B τ O->E (.ref C) none H):Mf (kx X) E m Y H Q:=by
 rcases bind_some em with ⟨x,U,e1,e2⟩|⟨e,e1,e2⟩
 .exact⟨c,Z,τ,O,_,U,y,b,e1,λvs L A b1=>h1 x vs U L A b1 e2⟩
 .exact⟨c,Z,τ,O,_,B,y,b,e1,λC L hm b1=>h2 e e2 C L hm b1⟩
def gF(m:Mi (List Rr)):Mi Rr:=aT m λrs Z=>match dr rs Z with
 |some (as,B)=>if as.length<=1000 then some (.ok (.fr (.tup as)),B) else none
 |none=>none
def d6(m:Mi (List Rr)):Mi Rr:=aT m λrs Z=>match dr rs Z with
 |some (as,B)=>if as.length<=1000 then some (.ok (.nw (.lst as)),B) else none
 |none=>none
theorem tD{k:Kx}{as:List A}:∀G,bN k G vs.reverse as.reverse->bN k G vs as:=λG h=>by have:=h.rev;simpa using this
theorem qK:1000<=sizeLine:=by rw[XI];decide
theorem Gz{m:Mi (List Rr)}{x1 pos}(h:JA X E es m):JE X E (.Tuple es x1 pos) (gF m):=⟨PE.weaken (IA h.p) λY H Q h=>by
 obtain⟨c,Z,τ,O,o,B,y,b,em,q⟩:=h;refine uh y b em (λrs vs U V A b1 D=>?_) (bD q);cases e1:dr rs U with
 |none=>rw[e1] at D;cases D
 |some p=>
  obtain⟨as,Z'⟩:=p;simp only[e1] at D;obtain⟨b2,e2⟩:=Bd.dr A b1 e1;split at D
  .rename_i hl;cases D;exact⟨by have:=qK;lia,λp hp=>q (.ref p) _ trivial (Bd.Iv b2 (by simp[e2]) hp vs as tD)⟩
  .cases D⟩
theorem Gm{m:Mi (List Rr)}{pos}(h:JA X E es m):JE X E (.List es pos) (d6 m):=⟨PE.weaken (G8 h.p) λY H Q h=>by
 obtain⟨c,Z,τ,O,o,B,y,b,em,q⟩:=h;refine uh y b em (λrs vs U V A b1 D=>?_) (bD q);cases e1:dr rs U with
 |none=>rw[e1] at D;cases D
 |some p=>
  obtain⟨as,Z'⟩:=p;simp only[e1] at D;obtain⟨b2,e2⟩:=Bd.dr A b1 e1;split at D
  .rename_i hl;cases D;exact⟨by have:=qK;lia,λp hp=>q (.ref p) _ trivial (Bd.Bp b2 (by simp[e2]) hp vs as tD)⟩
  .cases D⟩
end
inductive Fl where
 |nx|rt(s:Sl)|bk|ct|ex(c:Str)
noncomputable abbrev Ms:=List Sl->Option (Fl×List Sl)
noncomputable def ax:Nat->List Sl->List Sl
 |0,_=>[]
 |n+1,[]=>.un::ax n []
 |n+1,.pv o::Z=>.pv o::ax n Z
 |n+1,_::Z=>.un::ax n Z
def iQ(K:Kx)(n:Nat)(m:Ms):Sp:=λvs H Q E=>vs.length=n/\∃(c:Cn)(Z:List Sl)(f:Fl)(B:List Sl),c.toKx=K/\c.σ0=vs.map some/\c.H0=H/\dS c (vs.map some) H Z [] [] c.Lp/\m Z=some (f,B) /\
  (match f with
   | .rt s=>∀v H',(∀o,s≠.pv o)->Bd c (vs.map some) H' (ax vs.length B) [some v] [s]->Q v H'
   | .ex x=>∀C H',K.mg x=some (.ref C)->Bd c (vs.map some) H' (ax vs.length B) [] []->E (.ref C) none H'
   | _=>False)
section
variable{k:Kx}{G H:Hp}
theorem au.back:∀{σ0 Y:St}{Z:List Sl}{L:List Addr},au k G H Y Z L->(∀(i:Nat)(o:LO),Z[i]?=some (.pv o)->i<σ0.length->Y[i]?=σ0[i]?)->∃L',L'.Sublist L/\au k G H σ0 (ax σ0.length Z) L'
 |[],_,_,_,_,_=>⟨[],List.nil_sublist _,.nil⟩
 |x::σ0,_,_,_,.nil,h=>by obtain⟨L',s,r⟩:=au.back .nil (λi o e=>by simp at e);exact⟨L',s,au.cons (.un x) r⟩
 |x::σ0,_,_,_,.cons (x:=y) (s:=s) (Z:=U) (L:=L1) (L':=L2) hs r,h=>by
  obtain⟨L',sl,r'⟩:=au.back r (λi o e hi=>by have:=h (i+1) o e (by simpa using hi);simpa using this);have fin:ax (x::σ0).length (s::U)=.un::ax σ0.length U->∃L',L'.Sublist (L1++L2)/\au k G H (x::σ0) (ax (x::σ0).length (s::U)) L':=λe=>by rw[e];exact⟨L',sl.trans (Tw _ _),au.cons (.un x) r'⟩
  cases s with
  |un=>exact fin rfl
  |fr a=>exact fin rfl
  |lv o=>exact fin rfl
  |cf o=>exact fin rfl
  |pv o=>
   have e:=h 0 o rfl Z4;have e:y=x:=by simpa using e
   subst e;exact⟨L1++L',SW (S8 _) sl,au.cons hs r'⟩
end
variable{as:List Sl}
section
variable{c:Cn}{Y:St}{H:Hp}{Z:List Sl}{τ:St}{O:List Sl}
theorem Bd.back(b:Bd c Y H Z τ O):Bd c c.σ0 H (ax c.σ0.length Z) τ O:=by
 obtain⟨L,b⟩:=b;obtain⟨u,L2,e1,t,l⟩:=au.split b.lt b.rel;obtain⟨L',sl,r⟩:=l.back (σ0:=c.σ0) (λi o e _=>b.kp i _ e rfl);have h:(u++L').Sublist L:=by rw[e1];exact SW (S8 _) sl
 have sm:Sq (c.g H L) (c.g H (u++L')):=dE λa f=>h.subset f;exact⟨u++L',b.nd.sublist h,(t.app r).sm sm (λ_ _ _ e=>e),λp hp=>b.own p (h.subset hp),b.fr,λi o _ _=>rfl,b.lt,b.hd⟩
noncomputable def take1:Rr->List Sl->Option (Sl×List Sl)
 | .fr a,Z=>some (.fr a,Z)
 | .nw o,Z=>some (.fr o.a,Z)
 | .rf i,Z=>match Z[i]? with
  |some (.lv o)=>some (.lv o,Z.set i .un)
  |some (.pv o)=>some (.lv o,Z.set i .un)
  |some (.fr a)=>some (.fr a,Z)
  |_=>none
def cq:List Rr->List Sl->Option (List Sl×List Sl)
 |[],Z=>some ([],Z)
 |r::rs,Z=>match take1 r Z with
  |some (a,U)=>match cq rs U with
   |some (as,Z')=>some (a::as,Z')
   |none=>none
  |none=>none
noncomputable def qf:Sl->Sl
 | .lv o=>.pv o
 |s=>s
theorem sZ{r:Rr}(h:cq (r::rs) Z=some (as,B)):∃a H U,take1 r Z=some (a,U)/\cq rs U=some (H,B)/\as=a::H:=by
 unfold cq at h;cases e1:take1 r Z with
 |none=>rw[e1] at h;cases h
 |some p=>
  obtain⟨a,U⟩:=p;rw[e1] at h;cases e2:cq rs U with
  |none=>simp only[e2] at h;cases h
  |some q=>obtain⟨H,Z'⟩:=q;simp only[e2] at h;cases h;exact⟨a,H,U,rfl,e2,rfl⟩
theorem Bd.take1{r:Rr}{v:V}{a:Sl}{B:List Sl}{xs:St}{ss:List Sl}(e:xs.length=ss.length)(b:Bd c Y H Z (xs++cL r v τ) (ss++cN r O))(A:VR Y r v)(h:take1 r Z=some (a,B)):Bd c Y H B (xs++some v::τ) (ss++a::O):=by
 cases r with
 |fr a'=>cases h;exact b
 |nw o=>cases h;exact Bd.Nf e b
 |rf i=>
  delta M.take1 at h
  cases es:Z[i]? with
  |none=>simp only[es] at h;cases h
  |some s=>
   cases s with
   |un=>simp only[es] at h;cases h
   |fr a'=>simp only[es] at h;cases h;exact Bd.G9 e b A es
   |lv o=>simp only[es] at h;cases h;exact Bd.Je e b A es (.inl rfl)
   |pv o=>simp only[es] at h;cases h;exact Bd.Je e b A es (.inr rfl)
   |cf o=>simp only[es] at h;cases h
theorem Bd.cq:∀{rs:List Rr}{vs:List V}{as:List Sl}{Z B:List Sl}{τ:St}{O:List Sl},mJ Y rs vs->Bd c Y H Z (dq rs vs τ) (dj rs O)->cq rs Z=some (as,B)->Bd c Y H B (vs.reverse.map some++τ) (as.reverse++O)/\vs.length=as.length
 |[],[],_,_,_,_,_,_,b,h=>by cases h;exact⟨b,rfl⟩
 |r::rs,v::vs,_,Z,B,τ,O,hv,b,h=>by obtain⟨a,as,U,e1,e2,rfl⟩:=sZ h;have b:Bd c Y H Z (dq rs vs (cL r v τ)) (dj rs (cN r O)):=b;rw[dQ,dP] at b;have b1:=Bd.take1 (pY rs vs (mJ.len hv.2)) b hv.1 e1;simp only[<-dQ rs vs (some v::τ),<-dP rs (a::O)] at b1;obtain⟨b2,N⟩:=Bd.cq hv.2 b1 e2;exact⟨by simpa using b2,by simp[N]⟩
 |[],_::_,_,_,_,_,_,h,_,_=>h.elim
 |_::_,[],_,_,_,_,_,h,_,_=>h.elim
noncomputable def rC(S:List Sl):Rr->Sl->List Sl->Option (List Sl)
 | .rf i,s,Z=>match S[i]?,s,Z[i]? with
  |some (.lv _),.pv o,some .un=>some (Z.set i (.lv o))
  |some (.pv _),.pv o,some .un=>some (Z.set i (.pv o))
  |some (.fr _),_,_=>some Z
  |_,_,_=>none
 |_,_,Z=>some Z
def putL(S:List Sl):List Rr->List Sl->List Sl->Option (List Sl)
 |r::rs,s::ss,Z=>match putL S rs ss Z with
  |some U=>rC S r s U
  |none=>none
 |[],[],Z=>some Z
 |_,_,_=>none
end
section
variable{k:Kx}{G H:Hp}
theorem au.HY:∀{Y:St}{Z:List Sl}{L:List Addr},au k G H Y Z L->∃L',L'.Perm L/\au k G H Y.reverse Z.reverse L'
 |_,_,_,.nil=>⟨[],.refl _,.nil⟩
 |_,_,_,.cons (L:=L1) h r=>by obtain⟨L',pm,r'⟩:=au.HY r;refine⟨L'++(L1++[]),?_,by simp only[TB,TB];exact r'.app (au.cons h .nil)⟩;rw[Rx];exact(pm.append_right L1).trans S1
theorem au.Ao:∀{Y:St}{Z:List Sl}{L:List Addr},au k G H Y Z L->∀p∈L,∀ob vs,H p=some (.frz ob vs)->False
 |_,_,_,.nil,p,hp,_,_,_=>by cases hp
 |_,_,_,.cons h r,p,hp,ob,vs,e=>by
  rcases Qx.mp hp with z|z
  .cases h with
   |un=>cases z
   |fr=>cases z
   |cf=>cases z
   |lv h=>exact h.nf p z _ _ e
   |pv h=>exact h.nf p z _ _ e
  .exact r.Ao p z ob vs e
theorem au.qf:∀{Y:St}{Z:List Sl}{L:List Addr},au k G H Y Z L->au k G H Y (Z.map qf) L
 |_,_,_,.nil=>.nil
 |_,_,_,.cons h r=>by
  refine au.cons ?_ (au.qf r);cases h with
  |un=>exact .un _
  |fr h=>exact .fr h
  |cf h=>exact .cf h
  |lv h=>exact .pv h
  |pv h=>exact .pv h
noncomputable def yR:Sl->Sl
 | .pv o=>.lv o
 |s=>s
theorem au.yR:∀{Y:St}{Z:List Sl}{L:List Addr},au k G H Y Z L->au k G H Y (Z.map yR) L
 |_,_,_,.nil=>.nil
 |_,_,_,.cons h r=>by
  refine au.cons ?_ (au.yR r);cases h with
  |un=>exact .un _
  |fr h=>exact .fr h
  |cf h=>exact .cf h
  |lv h=>exact .lv h
  |pv h=>exact .lv h
end
section
variable{c:Cn}{Y:St}{H:Hp}{Z:List Sl}{τ:St}{O:List Sl}
theorem Bd.enter(e:vs.length=as.length)(b:Bd c Y H Z (vs.reverse.map some++τ) (as.reverse++O)):
  ∃U:Cn,U.toKx=c.toKx/\U.σ0=vs.map some/\U.H0=H/\dS U (vs.map some) H (as.map qf) [] [] U.Lp /\
   ∀(H':Hp)(B:List Sl)(J:St)(T:List Sl),(∀s∈T,∀o,s≠.pv o)->B.length=vs.length->Bd U (vs.map some) H' B J T->Bd c Y H' Z (vs.reverse.map some++(J++τ)) ((B.map yR).reverse++(T++O)):=by
 obtain⟨L,b⟩:=b;have r:au c.toKx (c.g H L) H (vs.reverse.map some++(τ++Y)) (as.reverse++(O++Z)) L:=by have:=b.rel;simpa[Qw] using this
 obtain⟨La,x,e1,f,l⟩:=au.split (by simp[e]) r;obtain⟨Lp,pm,Q⟩:=f.HY;have Q:au c.toKx (c.g H L) H (vs.map some) as Lp:=by simpa[<-VY] using Q
 have I:∀a,a∈Lp++(x++c.Hd)↔a∈L++c.Hd:=λa=>by
  rw[e1,Qx,Qx,Qx,Qx,pm.mem_iff];constructor
  .rintro(h|h|h)
   .exact .inl (.inl h)
   .exact .inl (.inr h)
   .exact .inr h
  .rintro((h|h)|h)
   .exact .inl h
   .exact .inr (.inl h)
   .exact .inr (.inr h)
 have nd:=b.nd;rw[e1] at nd;obtain⟨d,n2,G⟩:=QE.mp nd
 let U:Cn:={ toKx:=c.toKx,σ0:=vs.map some,H0:=H,Lp:=Lp,Hd:=x++c.Hd,Wk:=[] }
 have A:∀V D L2,(∀a,a∈D++(x++c.Hd)↔a∈L2++c.Hd)->U.g V D=c.g V L2:=λV D L2 hm=>by
  funext a
  show (if a∈D++(x++c.Hd) then none else V a)=(if a∈L2++c.Hd then none else V a)
  by_cases z:a∈D++(x++c.Hd)
  .rw[YY z,YY ((hm a).mp z)]
  .rw[YZ z,YZ λy=>z ((hm a).mpr y)]
 refine⟨U,rfl,rfl,rfl,⟨(pm.nodup_iff).mpr d,?_,λp hp=>.inl hp,⟨λq o h=>⟨o,h,λ_ _=>rfl⟩,λq R=>by cases R⟩,λi o _ _=>rfl,rfl,λp hp=>?_⟩,?_⟩
 .show au c.toKx (U.g H Lp) H (vs.map some) (as.map qf) Lp;rw[A H Lp L I];exact Q.qf
 .rcases Qx.mp hp with z|z
  .exact⟨l.is p z,λy=>G p (pm.mem_iff.mp y) p z rfl⟩
  .refine⟨?_,λy=>b.xK (by rw[e1];exact Qu _ (pm.mem_iff.mp y)) z⟩;obtain⟨⟨u,h1⟩,h2⟩:=b.hd p z;obtain⟨k,h3,_⟩:=b.fr.st p u h1;exact⟨k,h3⟩
 .intro H' B J T hθ hl K;obtain⟨L',K⟩:=K;obtain⟨Lt,Ls,e2,q1,q2⟩:=au.split K.lt K.rel;obtain⟨v,m,q3⟩:=q2.yR.HY;have lt':τ.length=O.length:=by have:=b.lt;simp[e] at this;exact id ‹_›
  obtain⟨Lτ,Lσ,e3,s1,s2⟩:=au.split lt' l;have S:∀p∈L',p∈Lp\/H p=none:=K.own;have E:∀p,p∈x->∀u,H p=some u->H' p=some u:=λp hp u h=>by obtain⟨k,h1,h2⟩:=K.fr.st p u h;have:p∉Lp:=λy=>G p (pm.mem_iff.mp y) p hp rfl;rw[h1,h2 this (λw n=>by cases n)]
  have P:∀p,p∈L'->p∉x:=λp hp y=>by
   rcases S p hp with z|z
   .exact G p (pm.mem_iff.mp z) p y rfl
   .obtain⟨u,h⟩:=l.is p y;rw[z] at h;cases h
  have C:Sq (c.g H L) (U.g H' L'):=λa u h=>by
   by_cases z:a∈L\/a∈c.Hd
   .rw[gH z] at h;cases h
   .rw[bJ (λy=>z (.inl y)) (λy=>z (.inr y))] at h;have N:a∉Lp:=λy=>z (.inl (by rw[e1];exact Qu _ (pm.mem_iff.mp y)));have nr:a∉x:=λy=>z (.inl (by rw[e1];exact Qs _ y));obtain⟨k,h1,h2⟩:=K.fr.st a u h;refine⟨k,?_,.inl (h2 N (λw n=>by cases n))⟩;rw[bJ (c:=U) (λy=>?_) (λy=>?_)]
    .exact h1
    .rcases S a y with w|w
     .exact N w
     .rw[w] at h;cases h
    .rcases Qx.mp y with w|w
     .exact nr w
     .exact z (.inr w)
  have X:U.g H' L'=c.g H' (L'++x):=A H' L' (L'++x) λa=>by simp[Qx,or_assoc]
  have s3:au c.toKx (U.g H' L') H' (τ++Y) (O++Z) x:=l.sm C E;have Gj:au c.toKx (U.g H' L') H' (vs.reverse.map some++(J++τ)++Y) ((B.map yR).reverse++(T++O)++Z) (v++(Lt++x)):=by have:=q3.app (q1.app s3);simpa[Qw,<-VY] using this
  have F:(v++(Lt++x)).Perm (L'++x):=by rw[e2];have:=m.append_right (Lt++x);refine this.trans ?_;rw[<-Qw];exact S1.append_right x
  refine⟨v++(Lt++x),(F.nodup_iff).mpr (QE.mpr ⟨K.nd,n2,λa ha b2 hb z=>P a ha (by rw[z];exact hb)⟩),?_,λp hp=>?_,⟨λq u h=>?_,λq R=>?_⟩,b.kp,?_,b.hd⟩
  .rw[Cd (c:=c) (H:=H') (L':=L'++x) λa=>F.mem_iff,<-X];exact Gj
  .rcases Qx.mp (F.mem_iff.mp hp) with z|z
   .rcases S p z with y|y
    .exact b.own p (by rw[e1];exact Qu _ (pm.mem_iff.mp y))
    .exact .inr (b.fr.fresh y)
   .exact b.own p (by rw[e1];exact Qs _ z)
  .obtain⟨u1,h1,h2⟩:=b.fr.st q u h;obtain⟨j,h3,h4⟩:=K.fr.st q u1 h1;refine⟨j,h3,λt nw=>?_⟩;rw[h4 (λy=>?_) (λw n=>by cases n),h2 t nw];rcases b.own q (by rw[e1];exact Qu _ (pm.mem_iff.mp y)) with w|w
   .exact t w
   .rw[w] at h;cases h
  .obtain⟨h1,⟨ob,ws,h2⟩,h3⟩:=b.fr.pk q R;refine⟨?_,⟨ob,ws,h2⟩,h3⟩;obtain⟨j,h4,h5⟩:=K.fr.st q.1 q.2 h1;rw[h4,h5 (λy=>?_) (λw n=>by cases n)];exact Q.Ao q.1 y ob ws (by rw[h1,h2])
  .have:=K.lt;simp[hl];lia
end
section
variable{c:Cn}{Y:St}{H:Hp}{Z:List Sl}{τ:St}{O:List Sl}
theorem Bd.rC{S B:List Sl}{r:Rr}{s:Sl}{v:V}(kp:eQ c.σ0 Y S)(A:VR Y r v)(b:Bd c Y H Z (some v::τ) (yR s::O))(h:rC S r s Z=some B):Bd c Y H B τ O:=by
 cases r with
 |fr a=>cases h;exact b.pop
 |nw o=>cases h;exact b.pop
 |rf i=>
  delta M.rC at h
  dsimp only at h
  cases I:S[i]? with
  |none=>rw[I] at h;cases h
  |some u=>
   rw[I] at h;cases u with
   |un=>cases h
   |fr a=>cases h;exact b.pop
   |cf a=>cases h
   |lv e=>
    cases s with
    |pv o=>
     cases e1:Z[i]? with
     |none=>rw[e1] at h;cases h
     |some s1=>
      rw[e1] at h;cases s1 with
      |un=>cases h;exact Bd.putBack b A e1 (.inl rfl)
      |_=>exact cy h
    |_=>exact cy h
   |pv e=>
    cases s with
    |pv o=>
     cases e1:Z[i]? with
     |none=>rw[e1] at h;cases h
     |some s1=>
      rw[e1] at h;cases s1 with
      |un=>cases h;exact Bd.putBack b A e1 (.inr ⟨rfl,kp i _ I rfl⟩)
      |_=>exact cy h
    |_=>exact cy h
theorem Bd.putL{S:List Sl}(kp:eQ c.σ0 Y S):∀{rs:List Rr}{vs:List V}{ss:List Sl}{Z B:List Sl}{τ:St}{O:List Sl},mJ Y rs vs->Bd c Y H Z (vs.reverse.map some++τ) ((ss.map yR).reverse++O)->M.putL S rs ss Z=some B->Bd c Y H B τ O
 |[],[],[],_,_,_,_,_,b,h=>by cases h;exact b
 |r::rs,v::vs,s::ss,Z,B,τ,O,hv,b,h=>by
  unfold M.putL at h;cases e:M.putL S rs ss Z with
  |none=>rw[e] at h;cases h
  |some U=>
   rw[e] at h;have b1:Bd c Y H Z (vs.reverse.map some++(some v::τ)) ((ss.map yR).reverse++(yR s::O)):=by simpa[Qw] using b
   exact Bd.rC kp hv.1 (Bd.putL kp hv.2 b1 e) h
 |[],_::_,_,_,_,_,_,h,_,_=>h.elim
 |_::_,[],_,_,_,_,_,h,_,_=>h.elim
 |[],[],_::_,_,_,_,_,_,_,h=>by cases h
 |_::_,_::_,[],_,_,_,_,_,_,h=>by cases h
theorem cJ:∀(n:Nat)(Z:List Sl),(ax n Z).length=n
 |0,_=>rfl
 |n+1,[]=>by show (Sl.un::ax n []).length=_;rw[QF,cJ n []]
 |n+1,s::Z=>by cases s<;>(show (_::ax n Z).length=_;simp only[QF,cJ n Z])
theorem mJ.app:∀{rs qs:List Rr}{vs us:List V},mJ Y rs vs->mJ Y qs us->mJ Y (rs++qs) (vs++us)
 |[],_,[],_,_,h=>h
 |_::rs,_,_::vs,_,h1,h2=>⟨h1.1,mJ.app h1.2 h2⟩
 |[],_,_::_,_,h,_=>h.elim
 |_::_,_,[],_,h,_=>h.elim
theorem mJ.kD:∀{I:List A}{dvs:List V},I.length=dvs.length->mJ Y (I.map Rr.fr) dvs
 |[],[],_=>trivial
 |_::I,_::dvs,h=>⟨trivial,mJ.kD (by simpa using h)⟩
 |[],_::_,h=>by simp at h
 |_::_,[],h=>by simp at h
theorem lP:∀{rs:List Rr}{vs:List V}(qs:List Rr)(us:List V)(τ:St),rs.length=vs.length->dq (rs++qs) (vs++us) τ=dq qs us (dq rs vs τ)
 |[],[],_,_,_,_=>rfl
 |r::rs,v::vs,qs,us,τ,h=>lP qs us (cL r v τ) (by simpa using h)
 |[],_::_,_,_,_,h=>by simp at h
 |_::_,[],_,_,_,h=>by simp at h
theorem j5:∀(rs qs:List Rr)(O:List Sl),dj (rs++qs) O=dj qs (dj rs O)
 |[],_,_=>rfl
 |r::rs,qs,O=>j5 rs qs (cN r O)
theorem Bd.tP:∀{I:List A}{dvs:List V}{τ:St}{O:List Sl},(∀G,bN c.toKx G dvs I)->Bd c Y H Z τ O->Bd c Y H Z (dq (I.map Rr.fr) dvs τ) (dj (I.map Rr.fr) O)
 |[],[],_,_,_,b=>b
 |a::I,v::dvs,_,_,h,b=>Bd.tP (dvs:=dvs) (λG=>by cases h G;assumption) (Bd.push b λG=>by cases h G;assumption)
 |[],_::_,_,_,h,_=>by cases h (λ_=>none)
 |_::_,[],_,_,h,_=>by cases h (λ_=>none)
end
noncomputable def pC:Sl->Option Rr
 | .fr a=>some (.fr a)
 | .lv o=>some (.nw o)
 |_=>none
def a7(f:Ms)(I:List A)(ma:Mi (List Rr)):Mi Rr:=aT ma λrs Z=>match cq (rs++I.map Rr.fr) Z with
 |some (as,T)=>match f (as.map qf) with
  |some (.rt s,U)=>match pC s,putL Z (rs++I.map Rr.fr) (ax as.length U) T with
   |some r,some B=>some (.ok r,B)
   |_,_=>none
  |some (.ex x,U)=>match putL Z (rs++I.map Rr.fr) (ax as.length U) T with
   |some B=>some (.error x,B)
   |none=>none
  |_=>none
 |none=>none
variable{dvs:List V}{CX:qk}{fd:XC}{ps:List Str}
section
variable{X:Cx}{E:XK}
theorem jL{m:Ms}{n:Nat}{I:List A}(hd:∀G,bN (kx X) G dvs I){o:Except Str Rr}(y:c.toKx=kx X)(hn:(vs++dvs).length=n)
  (S:mJ Y rs vs)(b:Bd c Y H Z (dq rs vs τ) (dj rs O)) (em:(match cq (rs++I.map Rr.fr) Z with
 |some (as,T)=>match m (as.map qf) with
  |some (.rt s,U)=>match pC s,putL Z (rs++I.map Rr.fr) (ax as.length U) T with
   |some r,some B=>some (.ok r,B)
   |_,_=>none
  |some (.ex x,U)=>match putL Z (rs++I.map Rr.fr) (ax as.length U) T with
   |some B=>some (.error x,B)
   |none=>none
  |_=>none
 | none=>none)=some (o,B)) (j:∀r,o=.ok r->∀v H',VR Y r v->Bd c Y H' B (cL r v τ) (cN r O)->Q v H') (k:∀x,o=.error x->∀C H',X.mg x=some (.ref C)->Bd c Y H' B τ O->E (.ref C) none H'):iQ (kx X) n m (vs++dvs) H Q E:=by
 refine⟨hn,?_⟩;cases e1:cq (rs++I.map Rr.fr) Z with
 |none=>rw[e1] at em;cases em
 |some p=>
  obtain⟨as,T⟩:=p;rw[e1] at em;have ld:=(hd λ_=>none).len.symm;have i:=S.app (mJ.kD ld);have b2:Bd c Y H Z (dq (rs++I.map Rr.fr) (vs++dvs) τ) (dj (rs++I.map Rr.fr) O):=by simp only[lP _ _ _ S.len,j5];exact Bd.tP (by rw[y];exact hd) b
  obtain⟨J,N⟩:=Bd.cq i b2 e1;obtain⟨R,t,D,u,g,F⟩:=Bd.enter N J;have kp:eQ c.σ0 Y Z:=by obtain⟨L,b⟩:=b;exact b.kp
  cases K:m (as.map qf) with
  |none=>simp only[K] at em;cases em
  |some p=>
   obtain⟨f,U⟩:=p;simp only[K] at em;refine⟨R,_,f,U,t.trans y,D,u,g,K,?_⟩;cases f with
   |nx=>cases em
   |bk=>cases em
   |ct=>cases em
   |rt s=>
    cases h:pC s with
    |none=>simp only[h] at em;cases em
    |some r=>
     cases e:putL Z (rs++I.map Rr.fr) (ax as.length U) T with
     |none=>simp only[h,e] at em;cases em
     |some Z'=>
      simp only[h,e] at em;cases em;intro v H' hs w;have q:=F H' _ _ _ (λs' hs' o z=>by rw[QR.mp hs'] at z;exact hs o z) (cJ _ _) w;rw[N] at q;have P:=Bd.putL kp i q e;cases s with
      |fr a=>cases h;exact j _ rfl v H' trivial P
      |lv o=>cases h;exact j _ rfl v H' trivial P
      |_=>exact cy h
   |ex x=>
    cases e:putL Z (rs++I.map Rr.fr) (ax as.length U) T with
    |none=>simp only[e] at em;cases em
    |some Z'=>simp only[e] at em;cases em;intro C H' hm w;have q:=F H' _ _ _ (λs' hs'=>by cases hs') (cJ _ _) w;rw[N] at q;exact k x rfl C H' hm (Bd.putL kp i q e)
theorem CC{k n:Nat}{f:Addr}{m:Ms}{I:List A}{ds:List Value}{x:Str}{p:Pos}{ma:Mi (List Rr)}(F:dF X.prog X.w X.K X.mg X.base CX k f fd ps (iQ (kx X) n m))(hr:cZ k X.A)(hg:Gl X x)
  (hm:X.mg x=some (.ref f))(hk:RX X.K (.ref f)=true)(hb:Binds X.K fd ps ds)(hd:Vals dvs ds)(hda:∀G,bN (kx X) G dvs I)(hx:Passes CX X E)(ha:JA X E (e::es) ma)(hn:∀Z rs B,ma Z=some (.ok rs,B)->rs.length+I.length=n)(hdb:fg x)
  (he:Xo (e::es) X.env=(false,eval e X.env)::Xo es X.env:=by rfl)(hpl:(Xw pos (Xo es X.env)).any (·.1)=false:=by rfl):JE X E (.Call (.Name x p) (e::es) [] pos) (a7 m I ma):=
 ⟨PE.weaken (Dp F hr hg hm hk hb hd hx ha.p hdb he hpl) λY H Q h=>by
  obtain⟨c,Z,τ,O,o,B,ek,b,em,q⟩:=h;rcases bind_some em with ⟨rs,U,e1,e2⟩|⟨e,e1,e2⟩
  .refine⟨c,Z,τ,O,_,U,ek,b,e1,λvs H1 hv b1=>?_⟩;refine jL hda ek ?_ hv b1 e2 (λr hr v H' hv b=>by subst hr;exact q v H' hv b) (λx hx=>by subst hx;exact q);rw[QO,<-hv.len,<-hn Z rs U e1,(hda λ_=>none).len]
  .subst e2;exact⟨c,Z,τ,O,_,B,ek,b,e1,λC H1 hm b1=>q C H1 hm b1⟩⟩
theorem Aj:∀Z rs B,pV Z=some (.ok rs,B)->rs.length=0:=λZ rs B h=>by cases h;rfl
theorem vi{m:Mi Rr}{ma:Mi (List Rr)}{n:Nat}(h:∀Z rs B,ma Z=some (.ok rs,B)->rs.length=n):∀Z rs B,c9 m ma Z=some (.ok rs,B)->rs.length=n+1:=λZ rs B e=>by
 rcases bind_some e with ⟨r,U,e1,e2⟩|⟨_,_,e2⟩
 .rcases bind_some e2 with ⟨rs',Z',N,K⟩|⟨_,_,K⟩
  .cases K;simp only[QF,h _ _ _ N]
  .cases K
 .cases e2
theorem HX{ma:Mi (List Rr)}{n d N:Nat}(h:∀Z rs B,ma Z=some (.ok rs,B)->rs.length=n)(e:n+d=N):∀Z rs B,ma Z=some (.ok rs,B)->rs.length+d=N:=λZ rs B q=>by rw[h Z rs B q];exact e
def Gg(K:Kx)(E:XK)(c:Cn)(Z:List Sl)(τ:St)(O:List A)(D:Ends):Fl->Prop
 | .nx=>∀Y H,Bd c Y H Z τ (O.map Sl.fr)->D.nx Y H
 | .rt s=>∀v Y H,(∀o,s≠.pv o)->Bd c Y H Z (some v::τ) (s::O.map Sl.fr)->D.rt v H
 | .bk=>∀Y H,Bd c Y H Z τ (O.map Sl.fr)->D.bk Y H
 | .ct=>∀Y H,Bd c Y H Z τ (O.map Sl.fr)->D.ct Y H
 | .ex x=>∀C Y H,K.mg x=some (.ref C)->Bd c Y H Z τ (O.map Sl.fr)->E (.ref C) none H
inductive JU(K:Kx)(E:XK)(m:Ms)(D:Ends)(Y:St)(H:Hp):Prop
 |mk(c:Cn)(Z:List Sl)(τ:St)(O:List A)(f:Fl)(B:List Sl)(h1:c.toKx=K)(h2:Bd c Y H Z τ (O.map Sl.fr))(h3:m Z=some (f,B))(h4:Gg K E c B τ O D f)
structure JS(X:Cx)(E:XK)(s:Stmt)(m:Ms):Prop where
 p:PS X s (JU (kx X) E m)
structure qy(X:Cx)(E:XK)(s:List Stmt)(m:Ms):Prop where
 p:qZ X s (JU (kx X) E m)
theorem PS.weaken{e:Stmt}{t t':TS}(h:PS X e t)(f:∀D Y H,t' D Y H->t D Y H):PS X e t':=λpins s Y H D I q=>h pins s Y H D I (f D Y H q)
theorem qZ.weaken{e:List Stmt}{t t':TS}(h:qZ X e t)(f:∀D Y H,t' D Y H->t D Y H):qZ X e t':=λpins s Y H D I q=>h pins s Y H D I (f D Y H q)
noncomputable def bV:Ms:=λZ=>some (.nx,Z)
noncomputable def av(m n:Ms):Ms:=λZ=>match m Z with
 |some (.nx,U)=>n U
 |r=>r
theorem uP:qy X E [] bV:=⟨qZ.weaken Ck λD Y H h=>by obtain⟨c,Z,τ,O,f,B,y,b,em,q⟩:=h;cases em;exact q Y H b⟩
theorem vB{s:Stmt}{m:Ms}(h:JS X E s m):qy X E [s] m:=⟨Ef h.p⟩
theorem qN{s:Stmt}{r:List Stmt}{m n:Ms}(h:JS X E s m)(h':qy X E r n):qy X E (s::r) (av m n):=⟨qZ.weaken (lC h.p h'.p) λD Y H h=>by
 obtain⟨c,Z,τ,O,f,B,y,b,em,q⟩:=h
 delta av at em
 cases e:m Z with
 |none=>rw[e] at em;cases em
 |some p=>
  obtain⟨a,U⟩:=p;rw[e] at em;refine⟨c,Z,τ,O,a,U,y,b,e,?_⟩;cases a with
  |nx=>exact λj H' K=>⟨c,U,τ,O,f,B,y,K,em,q⟩
  |rt s=>cases em;exact q
  |bk=>cases em;exact q
  |ct=>cases em;exact q
  | ex x=>cases em;exact q⟩
noncomputable def c7{α:Type}(m:Mi α)(f:α->Ms):Ms:=λZ=>match m Z with
 |some (.ok x,U)=>f x U
 |some (.error e,U)=>some (.ex e,U)
 |none=>none
theorem eU{m:Mi α}{f:α->Ms}{o:Fl}(h:c7 m f Z=some (o,B)):(∃x U,m Z=some (.ok x,U)/\f x U=some (o,B))\/∃e,m Z=some (.error e,B)/\o=.ex e:=by
 delta c7 at h
 cases e:m Z with
 |none=>rw[e] at h;cases h
 |some p=>
  obtain⟨r,U⟩:=p;cases r with
  |ok x=>rw[e] at h;exact .inl ⟨x,U,rfl,h⟩
  |error x=>simp only[e] at h;cases h;exact .inr ⟨x,rfl,rfl⟩
theorem dU{O:List A}{m:Mi Rr}{f:Rr->Ms}{o:Fl}{D:Ends}(y:c.toKx=kx X)(b:Bd c Y H Z τ (O.map Sl.fr))(em:c7 m f Z=some (o,B))(q:Gg (kx X) E c B τ O D o)
  (h1:∀x v U V,VR Y x v->Bd c Y V U (cL x v τ) (cN x (O.map Sl.fr))->f x U=some (o,B)->Q v V):kj (kx X) E m Y H Q:=by
 rcases eU em with ⟨x,U,e1,e2⟩|⟨e,e1,e2⟩
 .exact⟨c,Z,τ,_,_,U,y,b,e1,λv V p b1=>h1 x v U V p b1 e2⟩
 .subst e2;exact⟨c,Z,τ,_,_,B,y,b,e1,λC V hm b1=>q C Y V hm b1⟩
theorem Dg{O:List A}{m:Mi Bool}{f:Bool->Ms}{o:Fl}{Q:Bool->Hp->Prop}{D:Ends}(y:c.toKx=kx X)(b:Bd c Y H Z τ (O.map Sl.fr))(em:c7 m f Z=some (o,B))(q:Gg (kx X) E c B τ O D o)
  (h1:∀k U V,Bd c Y V U τ (O.map Sl.fr)->f k U=some (o,B)->Q k V):B9 (kx X) E m Y H Q:=by
 rcases eU em with ⟨x,U,e1,e2⟩|⟨e,e1,e2⟩
 .exact⟨c,Z,τ,_,_,U,y,b,e1,λV b1=>h1 x U V b1 e2⟩
 .subst e2;exact⟨c,Z,τ,_,_,B,y,b,e1,λC V hm b1=>q C Y V hm b1⟩
def cH(m:Mi Rr):Ms:=c7 m λ_ Z=>some (.nx,Z)
theorem DS{m:Mi Rr}(h:JE X E e m)(hs:XH e none pos.line X.env=pure false:=by rfl):JS X E (.Expr e pos) (cH m):=⟨PS.weaken (Dx h.p hs) λD Y H h=>by obtain⟨c,Z,τ,O,f,B,ek,b,em,q⟩:=h;refine dU ek b em q λx v U H1 hv b1 em1=>?_;cases em1;exact q Y H1 b1.drop⟩
def ip(t:Mi Bool)(m n:Ms):Ms:=c7 t λb=>if b then m else n
theorem K9{t:Expr}{a b:List Stmt}{m n:Ms}(l:JT X E t mt)(T:qy X E a m)(d:qy X E b n):JS X E (.If t a b pos) (ip mt m n):=⟨PS.weaken (Np l.p T.p d.p) λD Y H h=>by
 obtain⟨c,Z,τ,O,f,B,y,b,em,q⟩:=h;refine Dg y b em q λk U V b1 r=>?_;cases k with
 |true=>rw[YY rfl];exact⟨c,U,τ,O,f,B,y,b1,r,q⟩
 | false=>rw[YZ Z2];exact⟨c,U,τ,O,f,B,y,b1,r,q⟩⟩
noncomputable def Jh:Rr->List Sl->Option (Sl×List Sl)
 | .fr a,Z=>some (.fr a,Z)
 | .nw o,Z=>some (.lv o,Z)
 | .rf i,Z=>match Z[i]? with
  |some (.lv o)=>some (.lv o,Z.set i .un)
  |_=>none
def bW(m:Mi Rr):Ms:=c7 m λr Z=>match Jh r Z with
 |some (s,B)=>some (.rt s,B)
 |none=>none
theorem Jr{m:Mi Rr}(h:JE X E e m):JS X E (.Return (some e) pos) (bW m):=⟨PS.weaken (Gw h.p) λD Y H h=>by
 obtain⟨c,Z,τ,O,f,B,y,b,em,q⟩:=h;refine dU y b em q λx v U V A b1 r=>?_;cases x with
 |fr a=>cases r;exact q v Y V (λo z=>by cases z) b1
 |nw o=>cases r;exact q v Y V (λo z=>by cases z) b1
 |rf i=>
  delta Jh at r
  cases es:U[i]? with
  |none=>simp only[es] at r;cases r
  |some s=>
   cases s with
   |lv o=>simp only[es] at r;cases r;exact q v Y V (λo z=>by cases z) (Bd.Je (xs:=[]) (ss:=[]) rfl b1 A es (.inl rfl))
   | _=>simp only[es] at r;cases r⟩
noncomputable def E6:Ms:=λZ=>some (.rt (.fr .non),Z)
theorem DY:JS X E (.Return none pos) E6:=⟨PS.weaken DP λD Y H h=>by obtain⟨c,Z,τ,O,f,B,y,b,em,q⟩:=h;cases em;exact q .non Y H (λo z=>by cases z) (b.push λ_=>.non)⟩
def xM:Rr->List Sl->Option (Sl×List Sl)
 | .fr a,Z=>some (.fr a,Z)
 | .nw o,Z=>some (.lv o,Z)
 | .rf i,Z=>match bS (.rf i) Z with
  |some (a,B)=>some (.fr a,B)
  |none=>none
noncomputable def put(i:Nat)(s:Sl)(Z:List Sl):Option (List Sl):=match Z[i]? with
 |some (.pv _)=>none
 |some _=>some (Z.set i s)
 |none=>none
theorem Bd.put{c:Cn}{Y:St}{H:Hp}{Z B:List Sl}{τ:St}{O:List Sl}{i:Nat}{v:V}{t:Sl}(b:Bd c Y H Z (some v::τ) (t::O))(l:cst t=false)(h:put i t Z=some B):Bd c (Y.set i (some v)) H B τ O:=by
 delta M.put at h
 cases es:Z[i]? with
 |none=>rw[es] at h;cases h
 |some s=>
  cases s with
  |pv o=>rw[es] at h;cases h
  |un=>rw[es] at h;cases h;exact b.store es (λo z=>by cases z) l
  |fr a=>rw[es] at h;cases h;exact b.store es (λo z=>by cases z) l
  |lv o=>rw[es] at h;cases h;exact b.store es (λo z=>by cases z) l
  |cf o=>rw[es] at h;cases h;exact b.store es (λo z=>by cases z) l
theorem Bd.xM{c:Cn}{Y:St}{H:Hp}{Z B:List Sl}{τ:St}{O:List Sl}{r:Rr}{v:V}{t:Sl}(A:VR Y r v)(b:Bd c Y H Z (cL r v τ) (cN r O))(h:xM r Z=some (t,B)):Bd c Y H B (some v::τ) (t::O)/\cst t=false:=by
 cases r with
 |fr a=>cases h;exact⟨b,rfl⟩
 |nw o=>cases h;exact⟨b,rfl⟩
 |rf i=>
  delta M.xM at h
  cases e:M.bS (.rf i) Z with
  |none=>simp only[e] at h;cases h
  |some p=>simp only[e] at h;cases h;exact⟨Bd.bS (xs:=[]) (ss:=[]) rfl b A e,rfl⟩
def aG(i:Nat)(m:Mi Rr):Ms:=c7 m λr Z=>match xM r Z with
 |some (t,U)=>match put i t U with
  |some Z'=>some (.nx,Z')
  |none=>none
 |none=>none
theorem Aa{x:Str}{m:Mi Rr}{pos':Pos}(hN:X.N.Nodup)(hi:X.N[i]?=some x)(hx:Loc X.env.scope x)(he:JE X E e m)(hs:XH e (some (.Name x pos')) pos.line X.env=pure false:=by rfl)
  (hf:X.fn x=true\/X.env.scope.names.lookup x=some .local:=by first|exact .inl rfl|exact .inr rfl|assumption):JS X E (.Assign [.Name x pos'] e pos) (aG i m):=⟨PS.weaken (Ic hN hi hx he.p hs hf) λD Y H h=>by
 obtain⟨c,Z,τ,O,f,B,ek,b,em,q⟩:=h;refine dU ek b em q λr v U H1 hv b1 em1=>?_;cases e1:xM r U with
 |none=>rw[e1] at em1;cases em1
 |some p=>
  obtain⟨t,Z'⟩:=p;rw[e1] at em1;obtain⟨b2,ht⟩:=Bd.xM hv b1 e1;cases e2:put i t Z' with
  |none=>simp only[e2] at em1;cases em1
  | some Z0=>simp only[e2] at em1;cases em1;exact q _ H1 (Bd.put b2 ht e2)⟩
noncomputable def cK(loc:Nat)(m:Ms):Ms:=λZ=>match m (Z++QD loc .un) with
 |some (.nx,B)=>some (.rt (.fr .non),B)
 |some (.rt s,B)=>some (.rt s,B)
 |some (.ex x,B)=>some (.ex x,B)
 |_=>none
theorem lO{k:Kx}{G H:Hp}:∀n,au k G H (QD n none) (QD n Sl.un) []
 |0=>.nil
 |n+1=>au.cons (.un _) (lO n)
theorem dS.start{c:Cn}{vs:List V}{H:Hp}{Z:List Sl}(N:List Str)(b:dS c (vs.map some) H Z [] [] c.Lp)(e:c.σ0=vs.map some):Bd c (start N vs) H (Z++QD (N.length-vs.length) .un) [] []:=by
 have hl:vs.length=Z.length:=by have:=b.rel.len;simpa using this
 refine⟨c.Lp,b.nd,?_,b.own,b.fr,λi o h w=>?_,rfl,b.hd⟩
 .have:=b.rel.app (lO (N.length-vs.length));simpa[L2.start] using this
 .have hi:i<Z.length:=by
   by_cases z:i<Z.length
   .exact z
   .rw[Rl (by exact Tt.mp ‹_›)] at h;have:=Rq h;have:=SI this;subst this;cases w
  delta L2.start
  rw[RE (by simp;lia),e]
end
variable{r':R2}{K:Kx}
section
variable{X:Cx}{E:XK}
theorem iC.or'{f:Value->Value->Sem Value}(h:iC X f r)(h':iC X f r'):iC X f (λx y H Q=>r x y H Q\/r' x y H Q):=by
 intro pins s Y H x y v u Q I o z q;rcases q with q|q
 .exact h pins s Y H x y v u Q I o z q
 .exact h' pins s Y H x y v u Q I o z q
noncomputable def NW(f g:A->A->Option Rr):A->A->Option Rr:=λa b=>match f a b with
 |some r=>some r
 |none=>g a b
theorem iT.or{f g:A->A->Option Rr}(h:iT K r f)(h':iT K r' g):iT K (λx y H Q=>r x y H Q\/r' x y H Q) (NW f g):=by
 intro c Y H Z τ O x y v w a b q Q i p n bd e1 e2 N k
 delta NW at N
 cases e:f a b with
 |some z=>rw[e] at N;cases N;exact .inl (h c Y H Z τ O x y v w a b _ Q i p n bd e1 e2 e k)
 |none=>rw[e] at N;exact .inr (h' c Y H Z τ O x y v w a b _ Q i p n bd e1 e2 N k)
theorem iT.scalar{f:A->A->Option Rr}(h:∀H v w a b q,RA K H v a->RA K H w b->f a b=some q->∃u d,q=.fr d/\(∀G,RA K G u d)/\∀Q:VK,Q u H->r v w H Q):iT K r f:=by intro c Y H Z τ O x y v w a b q Q e p n bd e1 e2 N k;have l:=Bd.rd bd n e2;have g:=Bd.rd bd.drop p e1;rw[e] at g l;obtain⟨u,d,rfl,s,R⟩:=h H v w a b q g l N;exact R Q (k u H trivial (Bd.push bd.drop.drop (by rw[e];exact s)))
noncomputable def fits(n:Nat)(i:Int):Bool:=decide (i.natAbs<2^n)
theorem oF{n:Nat}{i:Int}(h:fits n i=true):L2.Bd n i:=show i.natAbs<2^n from Y4 h
theorem gX{n m:Nat}{i:Int}(h:L2.Bd m i)(k:m<=n):fits n i=true:=Y1 (h.mono k)
noncomputable def oK(f:Int->Int->Option Rr):A->A->Option Rr
 | .int i,.int j=>f i j
 |_,_=>none
theorem cR{f:Int->Int->Option Rr}{a b:A}{q:Rr}(h:oK f a b=some q):∃i j,a=.int i/\b=.int j/\f i j=some q:=by
 cases a with
 |int=>cases b with
  |int=>exact⟨_,_,rfl,rfl,h⟩
  |_=>exact cy h
 |_=>exact cy h
def Fy:A->A->Option Rr:=oK λi j=>some (.fr (.int (i+j)))
def jW:A->A->Option Rr:=oK λi j=>some (.fr (.int (i-j)))
def aZ:A->A->Option Rr:=oK λi j=>if fits 20000 i&&fits 20000 j then some (.fr (.int (i*j))) else none
def kB:A->A->Option Rr:=oK λi j=>if j != 0&&fits 9000 j then some (.fr (.int (i.fdiv j))) else none
def mW:A->A->Option Rr:=oK λi j=>if j != 0 then some (.fr (.int (i.fmod j))) else none
def kF:A->A->Option Rr:=oK λi j=>if 0<=j/\j<=1000000/\i.natAbs<2^64 then some (.fr (.int (i^j.toNat))) else none
def mI:A->A->Option Rr:=oK λi j=>some (.fr (.bl (decide (i<j))))
def vN:A->A->Option Rr:=oK λi j=>some (.fr (.bl (decide (j<i))))
def ES:A->A->Option Rr:=oK λi j=>some (.fr (.bl (decide (j<=i))))
theorem Ce:iT K (xN λi j=>.int (i+j)) Fy:=.scalar λH v w a b q g l h=>by
 replace h:=cR h
 obtain⟨i,j,rfl,rfl,h⟩:=h
 cases g;cases l;cases h
 exact⟨_,_,rfl,λ_=>.int _,λQ k=>⟨_,_,rfl,rfl,k⟩⟩
theorem IY:iT K (xN λi j=>.int (i-j)) jW:=.scalar λH v w a b q g l h=>by
 replace h:=cR h
 obtain⟨i,j,rfl,rfl,h⟩:=h
 cases g;cases l;cases h
 exact⟨_,_,rfl,λ_=>.int _,λQ k=>⟨_,_,rfl,rfl,k⟩⟩
theorem Ey:iT K (rI YX λi j=>.int (i*j)) aZ:=.scalar λH v w a b q g l h=>by
 replace h:=cR h
 obtain⟨i,j,rfl,rfl,h⟩:=h
 cases g;cases l
 split at h
 .rename_i hc
  simp only[Qq] at hc
  cases h
  exact⟨_,_,rfl,λ_=>.int _,λQ k=>⟨_,_,rfl,rfl,(oF hc.1).MW (oF hc.2) Z2,k⟩⟩
 .cases h
theorem Hk:iT K (rI Po λi j=>.int (i.fdiv j)) kB:=.scalar λH v w a b q g l h=>by
 replace h:=cR h
 obtain⟨i,j,rfl,rfl,h⟩:=h
 cases g;cases l
 split at h
 .rename_i hc
  simp only[Qq] at hc
  cases h
  exact⟨_,_,rfl,λ_=>.int _,λQ k=>⟨_,_,rfl,rfl,⟨by simpa using hc.1,oF hc.2⟩,k⟩⟩
 .cases h
theorem JO:iT K (rI (λ_ j=>j≠0) λi j=>.int (i.fmod j)) mW:=.scalar λH v w a b q g l h=>by
 replace h:=cR h
 obtain⟨i,j,rfl,rfl,h⟩:=h
 cases g;cases l
 split at h
 .rename_i hc
  cases h
  exact⟨_,_,rfl,λ_=>.int _,λQ k=>⟨_,_,rfl,rfl,by simpa using hc,k⟩⟩
 .cases h
theorem Hu:iT K (rI Kn λi j=>.int (i^j.toNat)) kF:=.scalar λH v w a b q g l h=>by
 replace h:=cR h
 obtain⟨i,j,rfl,rfl,h⟩:=h
 cases g;cases l
 split at h
 .rename_i hc
  cases h
  exact⟨_,_,rfl,λ_=>.int _,λQ k=>⟨_,_,rfl,rfl,hc,k⟩⟩
 .cases h
theorem FU:iT K (xN λi j=>.bl (decide (i<j))) mI:=.scalar λH v w a b q g l h=>by
 replace h:=cR h
 obtain⟨i,j,rfl,rfl,h⟩:=h
 cases g;cases l;cases h
 exact⟨_,_,rfl,λ_=>.bl _,λQ k=>⟨_,_,rfl,rfl,k⟩⟩
theorem E4:iT K (xN λi j=>.bl (decide (j<i))) vN:=.scalar λH v w a b q g l h=>by
 replace h:=cR h
 obtain⟨i,j,rfl,rfl,h⟩:=h
 cases g;cases l;cases h
 exact⟨_,_,rfl,λ_=>.bl _,λQ k=>⟨_,_,rfl,rfl,k⟩⟩
theorem EX:iT K (xN λi j=>.bl (decide (j<=i))) ES:=.scalar λH v w a b q g l h=>by
 replace h:=cR h
 obtain⟨i,j,rfl,rfl,h⟩:=h
 cases g;cases l;cases h
 exact⟨_,_,rfl,λ_=>.bl _,λQ k=>⟨_,_,rfl,rfl,k⟩⟩
mutual
noncomputable def toD:A->Option D
 | .non=>some .non
 | .bl b=>some (.bl b)
 | .int i=>some (.int i)
 | .str x=>some (.str x)
 | .tup xs=>match kH xs with
  |some ds=>some (.tup ds)
  |none=>none
 | .lst xs=>match kH xs with
  |some ds=>some (.lst ds)
  |none=>none
 | .dic _=>none
 | .exc _=>none
 | .obj _ _=>none
 | .dit _=>none
 | .opq=>none
noncomputable def kH:List A->Option (List D)
 |[]=>some []
 |a::as=>match toD a,kH as with
  |some d,some ds=>some (d::ds)
  |_,_=>none
end
mutual
theorem lW{K:Kx}{H:Hp}:∀{v:V}{a:A}{d:D},RA K H v a->toD a=some d->Den K.K H v d
 |_,_,_,.non,h=>by rw[toD] at h;cases h;exact .non
 |_,_,_,.bl b,h=>by rw[toD] at h;cases h;exact .bl _
 |_,_,_,.int i,h=>by rw[toD] at h;cases h;exact .int _
 |_,_,_,.str x,h=>by rw[toD] at h;cases h;exact .str _
 |_,_,_,.tup (as:=as) e r,h=>by
  rw[toD] at h;cases q:kH as with
  |none=>simp only[q] at h;cases h
  |some ds=>simp only[q] at h;cases h;exact .tup e (pO r q)
 |_,_,_,.lst (as:=as) e r,h=>by
  rw[toD] at h;cases q:kH as with
  |none=>simp only[q] at h;cases h
  |some ds=>simp only[q] at h;cases h;exact .lst e (pO r q)
 |_,_,_,.dic e r,h=>by rw[toD] at h;cases h
 |_,_,_,.exc e m,h=>by rw[toD] at h;cases h
 |_,_,_,.obj e m r,h=>by rw[toD] at h;cases h
 |_,_,_,.dit e r,h=>by rw[toD] at h;cases h
 |_,_,_,.opq,h=>by rw[toD] at h;cases h
theorem pO{K:Kx}{H:Hp}:∀{vs:List V}{as:List A}{ds:List D},bN K H vs as->kH as=some ds->fE K.K H vs ds
 |_,_,_,.nil,h=>by rw[kH] at h;cases h;exact .nil
 |_,_,_,.cons (a:=a) (as:=as) q r,h=>by
  rw[kH] at h;cases e1:toD a with
  |none=>simp only[e1] at h;cases h
  |some d=>
   cases e2:kH as with
   |none=>simp only[e1,e2] at h;cases h
   |some ds=>simp only[e1,e2] at h;cases h;exact .cons (lW q e1) (pO r e2)
end
def xQ(a b:A):Option Bool:=match toD a,toD b with
 |some d,some e=>if D.depth d<=40 then some (D.eq d e) else none
 |_,_=>none
def mT(a b:A):Option Rr:=match xQ a b with
 |some k=>some (.fr (.bl k))
 |none=>none
def j6(a b:A):Option Rr:=match xQ a b with
 |some k=>some (.fr (.bl (!k)))
 |none=>none
theorem r9{a b:A}{k:Bool}(h:xQ a b=some k):∃d e,toD a=some d/\toD b=some e/\D.depth d<=40/\k=D.eq d e:=by
 delta xQ at h
 cases e1:toD a with
 |none=>rw[e1] at h;cases h
 |some d=>
  cases e2:toD b with
  |none=>simp only[e1,e2] at h;cases h
  |some e=>
   simp only[e1,e2] at h;split at h
   .rename_i hd;cases h;exact⟨d,e,rfl,rfl,hd,rfl⟩
   .cases h
theorem os_eq:iT K (Li K.K) mT:=.scalar λH v w a b q g l h=>by
 delta mT at h
 cases e:xQ a b with
 |none=>rw[e] at h;cases h
 |some k=>rw[e] at h;cases h;obtain⟨d,d',h1,h2,h3,rfl⟩:=r9 e;exact⟨_,_,rfl,λ_=>.bl _,λQ k=>⟨d,d',lW g h1,lW l h2,h3,k⟩⟩
theorem Fu:iT K (K7 K.K) j6:=.scalar λH v w a b q g l h=>by
 delta j6 at h
 cases e:xQ a b with
 |none=>rw[e] at h;cases h
 |some k=>rw[e] at h;cases h;obtain⟨d,d',h1,h2,h3,rfl⟩:=r9 e;exact⟨_,_,rfl,λ_=>.bl _,λQ k=>⟨d,d',lW g h1,lW l h2,h3,k⟩⟩
theorem nV:100000<=sizeLine:=by rw[XI];decide
end
variable{w:V}{id:String}
section
variable{X:Cx}{E:XK}
def B7:A->A->Option Rr
 | .lst xs,.int i=>match gn xs i with
  |some a=>some (.fr a)
  |none=>none
 | .tup xs,.int i=>match gn xs i with
  |some a=>some (.fr a)
  |none=>none
 | .str z,.int i=>if z.length<=100000 then match gn z.cps.toList i with
  |some c=>some (.fr (.str ⟨#[c]⟩))
  |none=>none else none
 |_,_=>none
theorem bN.gn{k:Kx}{G:Hp}{vs:List V}{as:List A}{i:Int}{a:A}(r:bN k G vs as)(h:gn as i=some a):∃v,gn vs i=some v/\RA k G v a:=by
 delta L2.gn at h ⊢
 rw[r.len]
 cases e:gk as.length i with
 |none=>rw[e] at h;cases h
 |some j=>rw[e] at h;obtain⟨v,h1,h2⟩:=r.ta h;exact⟨v,h1,h2⟩
theorem Lf:iT K (PK K.K) B7:=by
 intro c Y H Z τ O x y v w a b q Q r A n bd e1 e2 N k;subst r;have l:=Bd.rd bd n e2;obtain⟨L,bl,s,I⟩:=Bd.AQ bd A n e1 e2;have g:=Bd.rd bd.drop A e1;cases a<;>first|exact cy N|(cases b<;>first|exact cy N|skip)
 .rename_i z i;cases g;cases l
  delta B7 at N
  simp only at N;split at N
  .rename_i hz;cases e:gn z.cps.toList i with
   |none=>rw[e] at N;cases N
   |some ch=>rw[e] at N;cases N;exact .inr (.inr ⟨z,i,ch,rfl,rfl,Q4 hz nV,e,k _ H trivial (Bd.push ⟨L,bl⟩ λ_=>.str _)⟩)
  .cases N
 .rename_i xs i;cases l
  delta B7 at N
  cases e:gn xs i with
  |none=>simp only[e] at N;cases N
  |some d=>simp only[e] at N;cases N;obtain⟨p,vs,rfl,s1,h⟩:=s.2.1 xs rfl;obtain⟨u,h1,h2⟩:=h.gn e;exact .inr (.inl ⟨p,vs,i,u,rfl,rfl,f9 (g_same _ _ _) s1,h1,k u H trivial (bl.push h2)⟩)
 .rename_i xs i;cases l
  delta B7 at N
  cases e:gn xs i with
  |none=>simp only[e] at N;cases N
  |some d=>simp only[e] at N;cases N;obtain⟨p,vs,rfl,s1,h⟩:=s.1 xs rfl;obtain⟨u,h1,h2⟩:=h.gn e;exact .inl ⟨p,vs,i,u,rfl,rfl,s1,h1,k u H trivial (bl.push h2)⟩
theorem JQ{a b:Expr}(f:JE X E a ma)(d:JE X E b mb)(hs:jf b):JE X E (.Subscript a b pos) (aB B7 ma mb):=
 ⟨PE.weaken (zR IW f.p d.p hs) (ju Lf)⟩
noncomputable def fm:A->Bool
 | .non=>true
 | .bl _=>true
 | .int _=>true
 | .str _=>true
 |_=>false
noncomputable def kE:A->V
 | .non=>.non
 | .bl b=>.bl b
 | .int i=>.int i
 | .str x=>.str x
 |_=>.non
theorem sF{b:A}(r:RA K H w b)(h:fm b=true):w=kE b/\gO w=true:=by cases r<;>first|exact⟨rfl,rfl⟩|exact yI h
theorem pX{K:Kx}{H:Hp}:∀{vs:List V}{as:List A},bN K H vs as->as.all fm=true->vs=as.map kE/\vs.all gO=true
 |_,_,.nil,_=>⟨rfl,rfl⟩
 |_,_,.cons h r,e=>by simp only[QV,Qq] at e;obtain⟨h1,h2⟩:=sF h e.1;obtain⟨h3,h4⟩:=pX r e.2;exact⟨by simp only[h1,h3];rfl,by simp only[QV,h2,h4];rfl⟩
def JB(neg:Bool)(x:A)(xs:List A):Option Rr:=if fm x&&xs.all fm then some (.fr (.bl (if neg then !Fn (kE x) (xs.map kE) else Fn (kE x) (xs.map kE)))) else none
def xg(neg:Bool):A->A->Option Rr
 |x,.lst xs=>JB neg x xs
 |x,.tup xs=>JB neg x xs
 |_,_=>none
theorem pJ{neg:Bool}:iT K (Me K.K neg) (xg neg):=.scalar λH v w a b q g l h=>by
 have key:∀(xs:List A)(vs:List V)(p:Addr),bN K H vs xs->(dM K.K H p vs\/iL K.K H p vs)->JB neg a xs=some q->∃u d,q=.fr d/\(∀G,RA K G u d)/\∀Q:VK,Q u H->Me K.K neg v (.ref p) H Q:=by
  intro xs vs p Y sq h
  delta JB at h
  split at h
  .rename_i hc;simp only[Qq] at hc;cases h;obtain⟨rfl,h2⟩:=sF g hc.1;obtain⟨rfl,h4⟩:=pX Y hc.2;exact⟨_,_,rfl,λ_=>.bl _,λQ k=>⟨p,_,rfl,sq,h2,h4,k⟩⟩
  .cases h
 cases b<;>first|exact cy h|skip
 .cases l with|tup e r=>exact key _ _ _ r (.inr e) h
 .cases l with|lst e r=>exact key _ _ _ r (.inl e) h
noncomputable def sM:A->Bool
 | .non=>true
 |_=>false
def qj(neg:Bool):A->A->Option Rr
 |a,.non=>some (.fr (.bl (if neg then !sM a else sM a)))
 |_,_=>none
theorem vF{v:V}{a:A}(r:RA K H v a):decide (v=.non)=sM a:=by cases r<;>rfl
theorem E8:iT K (λx y H Q=>y=.non/\Q (.bl (decide (x=.non))) H) (qj false):=.scalar λH v w a b q g l h=>by
 cases b<;>first|exact cy h|skip
 cases l;cases h;exact⟨_,_,rfl,λ_=>.bl _,λQ k=>⟨rfl,by rw[vF g];exact k⟩⟩
theorem u0:iT K (λx y H Q=>y=.non/\Q (.bl (!decide (x=.non))) H) (qj true):=.scalar λH v w a b q g l h=>by
 cases b<;>first|(exact cy h)|skip
 cases l;cases h;exact⟨_,_,rfl,λ_=>.bl _,λQ k=>⟨rfl,by rw[vF g];exact k⟩⟩
def aK(f:A->Option Rr)(m:Mi Rr):Mi Rr:=aT m λx Z=>match res Z x with
 |some a=>match f a with
  |some r=>some (.ok r,Z)
  |none=>none
 |none=>none
def sx(K:Kx)(r:V->Hp->VK->Prop)(f:A->Option Rr):Prop:=∀(c:Cn)(Y:St)(H:Hp)(Z:List Sl)(τ:St)(O:List Sl)(x:Rr)(v:V)(a:A)(q:Rr)(Q:VK),c.toKx=K->VR Y x v->
 Bd c Y H Z (cL x v τ) (cN x O)->res Z x=some a->f a=some q->(∀u H',VR Y q u->Bd c Y H' Z (cL q u τ) (cN q O)->Q u H')->r v H Q
theorem DB{f:A->Option Rr}{x:Rr}{o:Except Str Rr}(h:(match res Z x with|some a=>(match f a with|some r=>some ((.ok r:Except Str Rr),Z)|none=>none)|none=>none)=some (o,B)):∃a r,res Z x=some a/\f a=some r/\o=.ok r/\B=Z:=by
 cases e1:res Z x with
 |none=>rw[e1] at h;cases h
 |some a=>
  rw[e1] at h;cases N:f a with
  |none=>simp only[N] at h;cases h
  |some r=>simp only[N] at h;cases h;exact⟨a,r,rfl,N,rfl,rfl⟩
theorem jg{r:V->Hp->VK->Prop}{f:A->Option Rr}{m:Mi Rr}(hf:sx (kx X) r f)(Y:St)(H:Hp)(Q:VK)(h:kj (kx X) E (aK f m) Y H Q):kj (kx X) E m Y H λv H'=>r v H' Q:=by obtain⟨c,Z,τ,O,o,B,y,b,em,q⟩:=h;refine a9 y b em (λx v U L p b1 D=>?_) (bD q);obtain⟨a,r,e1,N,rfl,rfl⟩:=DB D;exact hf c Y L _ τ O x v a r Q y p b1 e1 N q
theorem sx.scalar{r:V->Hp->VK->Prop}{f:A->Option Rr}(h:∀H v a q,RA K H v a->f a=some q->∃u d,q=.fr d/\(∀G,RA K G u d)/\∀Q:VK,Q u H->r v H Q):sx K r f:=by intro c Y H Z τ O x v a q Q y p bd e1 N k;have g:=Bd.rd bd p e1;rw[y] at g;obtain⟨u,d,rfl,s,l⟩:=h H v a q g N;exact l Q (k u H trivial (Bd.push bd.drop (by rw[y];exact s)))
noncomputable def aY:A->Option Rr
 | .int i=>some (.fr (.int (-i)))
 |_=>none
theorem IK{a:Expr}{m:Mi Rr}(h:JE X E a m):JE X E (.UnaryOp .USub a pos) (aK aY m):=⟨PE.weaken (Ni Ik h.p) (jg (.scalar λH v a q g h=>by
 cases a<;>first|exact cy h|skip
 cases g;cases h;exact⟨_,_,rfl,λ_=>.int _,λQ k=>⟨_,rfl,k⟩⟩))⟩
noncomputable def one(f:A->Option Rr):List A->Option Rr
 |[a]=>f a
 |_=>none
noncomputable def two(f:A->A->Option Rr):List A->Option Rr
 |[a,b]=>f a b
 |_=>none
def dg(f:A->Option Rr)(m:Mi Rr):Mi Rr:=aK f m
def E3(f:A->A->Option Rr)(m n:Mi Rr):Mi Rr:=aB f m n
theorem m8{r:List V->Hp->VK->Prop}{f:A->Option Rr}{x:Str}{p:Pos}{m:Mi Rr}(hc:c6 X (.builtin id) r)(hf:sx (kx X) (λv=>r [v]) f)(hg:Gl X x)(hm:X.mg x=none)(hv:Xq x=some (.builtin id))(ha:JE X E e m)(hn:x ≠ "__name__")
  (hdb:fg x)(hs:Xo [e] X.env=(false,eval e X.env)::Xo [] X.env:=by rfl)(hp:(Xw pos (Xo [] X.env)).any (·.1)=false:=by rfl):JE X E (.Call (.Name x p) [e] [] pos) (dg f m):=
 ⟨PE.weaken (je hc hg hm hv (aU ha.p bY hs) hn hdb hs hp) λY H Q h=>jg hf Y H Q h⟩
theorem Bh{T:String}{r:List V->Hp->VK->Prop}{f:A->Option Rr}{x:Str}{p:Pos}{m:Mi Rr}(hc:c6 X (.type T) r)(hf:sx (kx X) (λv=>r [v]) f)(hg:Gl X x)(hm:X.mg x=none)(hv:Xq x=some (.type T))(ha:JE X E e m)(hn:x ≠ "__name__")
  (hdb:fg x)(hs:Xo [e] X.env=(false,eval e X.env)::Xo [] X.env:=by rfl)(hp:(Xw pos (Xo [] X.env)).any (·.1)=false:=by rfl):JE X E (.Call (.Name x p) [e] [] pos) (dg f m):=
 ⟨PE.weaken (fL hc hg hm hv (aU ha.p bY hs) hn hdb hs hp) λY H Q h=>jg hf Y H Q h⟩
theorem ED{r:List V->Hp->VK->Prop}{f:A->A->Option Rr}{x:Str}{p:Pos}{e1 e2:Expr}{m n:Mi Rr}(hc:c6 X (.builtin id) r)(hf:iT (kx X) (λv w=>r [v,w]) f)(hg:Gl X x)(hm:X.mg x=none)(hv:Xq x=some (.builtin id))(h1:JE X E e1 m)(h2:JE X E e2 n)(hn:x ≠ "__name__")
  (hdb:fg x)(hs:Xo [e1,e2] X.env=(false,eval e1 X.env)::Xo [e2] X.env:=by rfl)(hs2:Xo [e2] X.env=(false,eval e2 X.env)::Xo [] X.env:=by rfl)(hp:(Xw pos (Xo [e2] X.env)).any (·.1)=false:=by rfl):JE X E (.Call (.Name x p) [e1,e2] [] pos) (E3 f m n):=
 ⟨PE.weaken (je hc hg hm hv (aU h1.p (aU h2.p bY hs2) hs) hn hdb hs hp) λY H Q h=>ju hf Y H Q h⟩
noncomputable def cI:A->Option Rr
 | .str z=>if z.length<=100000 then some (.fr (.int z.length)) else none
 | .lst xs=>some (.fr (.int xs.length))
 | .tup xs=>some (.fr (.int xs.length))
 |_=>none
theorem F5:sx K (λv H Q=>∃x n,[v]=[x]/\Nk K.K x H n/\Q (.int n) H) cI:=.scalar λH v a q g h=>by
 cases a<;>first|exact cy h|skip
 .cases g
  delta cI at h
  simp only at h;split at h
  .rename_i hz;cases h;exact⟨_,_,rfl,λ_=>.int _,λQ k=>⟨_,_,rfl,⟨Q4 hz nV,rfl⟩,k⟩⟩
  .cases h
 .cases g with
  |tup e r=>cases h;exact⟨_,_,rfl,λ_=>.int _,λQ k=>⟨_,_,rfl,.inr ⟨_,e,rfl⟩,by rw[r.len];exact k⟩⟩
 .cases g with
  |lst e r=>cases h;exact⟨_,_,rfl,λ_=>.int _,λQ k=>⟨_,_,rfl,.inl ⟨_,e,rfl⟩,by rw[r.len];exact k⟩⟩
noncomputable def Eu:A->Option Rr
 | .int i=>some (.fr (.int (if i<0 then -i else i)))
 |_=>none
theorem IQ:sx K (λv H Q=>∃i,[v]=[V.int i]/\Q (.int (if i<0 then -i else i)) H) Eu:=.scalar λH v a q g h=>by
 cases a<;>first|exact cy h|skip
 cases g;cases h;exact⟨_,_,rfl,λ_=>.int _,λQ k=>⟨_,rfl,k⟩⟩
def Mv:A->A->Option Rr:=oK λi j=>some (.fr (.int (if j > i then j else i)))
def wU:A->A->Option Rr:=oK λi j=>some (.fr (.int (if j<i then j else i)))
theorem HL:iT K (λv w H Q=>∃i j,[v,w]=[V.int i,V.int j]/\Q (.int (if j > i then j else i)) H) Mv:=.scalar λH v w a b q g l h=>by
 replace h:=cR h
 obtain⟨i,j,rfl,rfl,h⟩:=h
 cases g;cases l;cases h
 exact⟨_,_,rfl,λ_=>.int _,λQ k=>⟨_,_,rfl,k⟩⟩
theorem Hx:iT K (λv w H Q=>∃i j,[v,w]=[V.int i,V.int j]/\Q (.int (if j<i then j else i)) H) wU:=.scalar λH v w a b q g l h=>by
 replace h:=cR h
 obtain⟨i,j,rfl,rfl,h⟩:=h
 cases g;cases l;cases h
 exact⟨_,_,rfl,λ_=>.int _,λQ k=>⟨_,_,rfl,k⟩⟩
noncomputable def D3:A->Option Rr
 | .int i=>some (.fr (.int i))
 | .bl k=>some (.fr (.int (if k then 1 else 0)))
 |_=>none
theorem Gi:sx K (λv H Q=>(∃i,[v]=[V.int i]/\Q (.int i) H)\/∃k,[v]=[V.bl k]/\Q (.int (if k then 1 else 0)) H) D3:=.scalar λH v a q g h=>by
 cases a<;>first|exact cy h|skip
 .cases g;cases h;exact⟨_,_,rfl,λ_=>.int _,λQ k=>.inr ⟨_,rfl,k⟩⟩
 .cases g;cases h;exact⟨_,_,rfl,λ_=>.int _,λQ k=>.inl ⟨_,rfl,k⟩⟩
noncomputable def GC:A->Option (List A)
 | .lst xs=>some xs
 | .tup xs=>some xs
 |_=>none
def i8(a:A):Option Rr:=match GC a with
 |some xs=>some (.nw (.lst xs))
 |none=>none
def mD(a:A):Option Rr:=match GC a with
 |some xs=>some (.fr (.tup xs))
 |none=>none
theorem Ex:sx K (λv H Q=>∃p ys,[v]=[V.ref p]/\(dM K.K H p ys\/iL K.K H p ys)/\∀l,H l=none->Q (.ref l) (upd H l (.lst ys))) i8:=by
 intro c Y H Z τ O x v a q Q y A bd e1 N k;subst y;obtain⟨L,bl,s⟩:=Bd.open bd A e1;cases a<;>first|exact cy N|skip
 .rename_i xs;cases N;obtain⟨p,vs,rfl,s1,h⟩:=s.2.1 xs rfl;exact⟨p,vs,rfl,.inr (f9 (g_same _ _ _) s1),λl hl=>k _ _ trivial (bl.kn hl λG H' sm q=>.lst q (h.sm sm))⟩
 .rename_i xs;cases N;obtain⟨p,vs,rfl,s1,h⟩:=s.1 xs rfl;exact⟨p,vs,rfl,.inl s1,λl hl=>k _ _ trivial (bl.kn hl λG H' sm q=>.lst q (h.sm sm))⟩
theorem Ac:sx K (λv H Q=>∃p ys,[v]=[V.ref p]/\((dM K.K H p ys/\∀l,H l=none->Q (.ref l) (upd H l (.tup ys)))\/(iL K.K H p ys/\Q (.ref p) H))) mD:=by
 intro c Y H Z τ O x v a q Q y A bd e1 N k;subst y;obtain⟨L,bl,s⟩:=Bd.open bd A e1;cases a<;>first|exact cy N|skip
 .rename_i xs;cases N;obtain⟨p,vs,rfl,s1,h⟩:=s.2.1 xs rfl;exact⟨p,vs,rfl,.inr ⟨f9 (g_same _ _ _) s1,k _ _ trivial (bl.push (.tup s1 h))⟩⟩
 .rename_i xs;cases N;obtain⟨p,vs,rfl,s1,h⟩:=s.1 xs rfl;refine⟨p,vs,rfl,.inl ⟨s1,λl hl=>?_⟩⟩;obtain⟨b2,sm,np⟩:=bl.new hl;exact k _ _ trivial (b2.push (.tup (.inl (.inl (by rw[bJ np (bl.Lk hl)];exact aM))) (h.sm sm)))
end
section
variable{c:Cn}{Y:St}{H:Hp}{Z:List Sl}{τ:St}{O:List Sl}
theorem Bd.tY{x:Option V}(e:xs.length=ss.length)(b:Bd c Y H Z (x::(xs++τ)) (s::(ss++O))):Bd c Y H Z (x::τ) (s::O):=by
 obtain⟨L,b⟩:=b;have r:au c.toKx (c.g H L) H (x::(xs++(τ++Y))) (s::(ss++(O++Z))) L:=by have:=b.rel;simpa[Qw] using this
 cases r with
 |cons h r=>rename_i q L';obtain⟨u,L2,e1,t,l⟩:=au.split e r;subst e1;have sl:(q++L2).Sublist (q++(u++L2)):=SW (S8 _) (Tw _ _);have sm:Sq (c.g H (q++(u++L2))) (c.g H (q++L2)):=dE λa f=>sl.subset f;exact⟨q++L2,b.nd.sublist sl,au.cons (h.sm sm (λ_ _ _ e=>e)) (l.sm sm (λ_ _ _ e=>e)),λp hp=>b.own p (sl.subset hp),b.fr,b.kp,by have:=b.lt;simp at this ⊢;lia,b.hd⟩
theorem Bd.NJ{ys:St}(b:Bd c (Y++ys) H Z τ O):Bd c Y H (Z.take Y.length) τ O:=by
 have hl:=b.qY;rw[QO] at hl;obtain⟨L,b⟩:=b;have r:au c.toKx (c.g H L) H ((τ++Y)++ys) ((O++Z.take Y.length)++Z.drop Y.length) L:=by have:=b.rel;rw[Qw,Qw,R1];exact this
 obtain⟨u,L2,e1,t,l⟩:=au.split (by simp[b.lt];lia) r;subst e1;have sm:Sq (c.g H (u++L2)) (c.g H u):=dE λa f=>Qu _ f;refine⟨u,(QE.mp b.nd).1,t.sm sm (λ_ _ _ e=>e),λp hp=>b.own p (Qu _ hp),b.fr,λi o h w=>?_,b.lt,b.hd⟩;have hi:i<(Z.take Y.length).length:=(Qv.mp h).1;rw[Rt] at hi;have h':Z[i]?=some o:=by rw[List.getElem?_take] at h;split at h;exact h;cases h
 have:=b.kp i o h' w;rwa[RE Q1] at this
theorem Bd.ON{n:Nat}(b:Bd c Y H Z τ O):Bd c (Y++QD n none) H (Z++QD n .un) τ O:=by
 have hl:=b.qY;obtain⟨L,b⟩:=b;refine⟨L,b.nd,?_,b.own,b.fr,λi o h w=>?_,b.lt,b.hd⟩
 .have:=b.rel.app (lO (k:=c.toKx) (G:=c.g H L) (H:=H) n);simpa[Qw] using this
 .by_cases z:i<Z.length
  .rw[RE z] at h;rw[RE Q1];exact b.kp i o h w
  .rw[Rl (by exact Tt.mp ‹_›)] at h;have:=SI (Rq h);subst this;cases w
end
noncomputable abbrev Mg:=A->List Sl->Option (List Sl)
noncomputable abbrev BX:=List A->List Sl->Option (List Sl)
inductive NC(K:Kx)(lo:Nat)(G:Mg)(v:V)(Y:St)(H:Hp)(Q:St->Hp->Prop):Prop
 |mk(c:Cn)(Z:List Sl)(τ:St)(O:List Sl)(a:A)(B:List Sl)(h1:c.toKx=K)(h2:Bd c Y H Z (some v::τ) (.fr a::O))(h3:G a Z=some B)(h4:∀j H',j.take lo=Y.take lo->j.length=Y.length->Bd c j H' B τ O->Q j H')
inductive NV(K:Kx)(lo:Nat)(G:BX)(vs:List V)(Y:St)(H:Hp)(Q:St->Hp->Prop):Prop
 |mk(c:Cn)(Z:List Sl)(τ:St)(O:List Sl)(as:List A)(B:List Sl)(h1:c.toKx=K)(h2:vs.length=as.length)(h3:Bd c Y H Z (vs.map some++τ) (as.map Sl.fr++O))(h4:G as Z=some B)(h5:∀j H',j.take lo=Y.take lo->j.length=Y.length->Bd c j H' B τ O->Q j H')
structure JG(X:Cx)(lo:Nat)(tg:Expr)(G:Mg):Prop where
 p:PG X tg (NC (kx X) lo G)
structure KL(X:Cx)(lo:Nat)(tg:List Expr)(G:BX):Prop where
 p:Hn X tg (NV (kx X) lo G)
def aO(i:Nat):Mg:=λa Z=>put i (.fr a) Z
noncomputable def fq:BX:=λas Z=>match as with
 |[]=>some Z
 |_=>none
noncomputable def bQ(g:Mg)(gs:BX):BX:=λas Z=>match as with
 |a::as=>match g a Z with
  |some U=>gs as U
  |none=>none
 |[]=>none
noncomputable def fN(n:Nat)(gs:BX):Mg:=λa Z=>match a with
 | .tup as=>if as.length=n then gs as Z else none
 |_=>none
variable{gs:BX}{tg iter:Expr}{body:List Stmt}
section
variable{X:Cx}{E:XK}{lo:Nat}
theorem CV{x:Str}(hN:X.N.Nodup)(hi:X.N[i]?=some x)(hx:Loc X.env.scope x)(hl:lo<=i)(hf:X.fn x=true\/X.env.scope.names.lookup x=some .local:=by first|exact .inl rfl|exact .inr rfl|assumption):JG X lo (.Name x pos) (aO i):=⟨λpins s Y H v u Q I r h=>by refine CP hN hi hx hf pins s Y H v u Q I r ?_;obtain⟨c,Z,τ,O,a,B,ek,b,em,q⟩:=h;exact q _ H (by rw[List.take_set_of_le hl]) Z4 (Bd.put b rfl em)⟩
theorem Dj:KL X lo [] fq:=⟨λpins s Y H v u Q I r h=>by
 refine Dd pins s Y H v u Q I r ?_;obtain⟨c,Z,τ,O,as,B,y,hl,b,em,q⟩:=h;cases as with
 |nil=>cases em;cases v with|nil=>exact⟨rfl,q Y H rfl rfl b⟩|cons _ _=>simp at hl
 | cons _ _=>cases em⟩
theorem BL{g:Mg}(h1:JG X lo e g)(h2:KL X lo es gs)(hp:∀{t:TG}{u:FV},PG X e t->Hn X es u->Hn X (e::es) (FT t u)):KL X lo (e::es) (bQ g gs):=⟨λpins s Y H v u Q I r h=>by
 refine hp h1.p h2.p pins s Y H v u Q I r ?_;obtain⟨c,Z,τ,O,as,B,y,hl,b,em,q⟩:=h;cases as with
 |nil=>cases em
 |cons a as=>
  cases v with
  |nil=>simp at hl
  |cons v vs=>
   delta bQ at em
   simp only at em
   cases e1:g a Z with
   |none=>rw[e1] at em;cases em
   | some U=>rw[e1] at em;refine⟨v,vs,rfl,c,Z,_,_,a,U,y,b,e1,λj H' x i b1=>⟨c,U,τ,O,as,B,y,by simpa using hl,b1,em,λP S w z b2=>q P S (w.trans x) (z.trans i) b2⟩⟩⟩
theorem J9{k n:Nat}(hc:X.calm=true)(h:KL X lo es gs)(hn:(XF es X.env).length=n:=by rfl)(hst:(XF es X.env).findIdx? (·.1)=none:=by rfl):JG X lo (.Tuple es k pos) (fN n gs):=⟨λpins s Y H v u Q I r h'=>by
 refine Ip hc h.p hn hst pins s Y H v u Q I r ?_;obtain⟨c,Z,τ,O,a,B,ek,b,em,q⟩:=h';cases a<;>first|exact cy em|skip
 rename_i as
 delta fN at em
 simp only at em;split at em
 .rename_i hl;obtain⟨L,bl,i1⟩:=Bd.open (r:=.fr (.tup as)) b trivial rfl;obtain⟨p,vs,rfl,s1,rr⟩:=i1.2.1 as rfl;have:c.K=X.K:=by have:=Y2 Kx.K ek;exact this
  refine⟨p,vs,rfl,by rw[<-this];exact f9 (g_same _ _ _) s1,by rw[rr.len];exact hl,c,Z,τ,O,as,B,ek,rr.len,?_,em,q⟩;obtain⟨nd,rel,own,fr,kp,lt,hdd⟩:=bl;exact⟨L,nd,by have:=(au.kD (H:=H) rr).app rel;simpa[Qw] using this,own,fr,kp,by simp[lt,rr.len],hdd⟩
 .cases em⟩
def JN(K:Kx)(J:It)(T:St)(S:List A)(as:List A):Prop:=∀(c:Cn)(Y:St)(H:Hp)(Z:List Sl)(F:St)(D:List Sl)(τ:St)(O:List Sl)(i:Nat),c.toKx=K->F.length=D.length->Bd c Y H Z (F++(T++τ)) (D++(S.map Sl.fr++O))->
 (as.length<=i->J.stop i H)/\∀a,as[i]?=some a->J.go i H/\∀x H',J.yld i H x H'->Bd c Y H' Z (some x::(F++(T++τ))) (.fr a::(D++(S.map Sl.fr++O)))
def Ng(K:Kx)(E:XK)(c:Cn)(Y:St)(Z:List Sl)(τ:St)(O:List Sl)(R:It->Hp->Prop):Except Str (List A)->Prop
 | .ok as=>∀J H T S,T.length=S.length->JN K J T S as->Bd c Y H Z (T++τ) (S.map Sl.fr++O)->R J H
 | .error x=>∀C H,K.mg x=some (.ref C)->Bd c Y H Z τ O->E (.ref C) none H
inductive Pa(K:Kx)(E:XK)(m:Mi (List A))(Y:St)(H:Hp)(R:It->Hp->Prop):Prop
 |mk(c:Cn)(Z:List Sl)(τ:St)(O:List Sl)(o:Except Str (List A))(B:List Sl)(h1:c.toKx=K)(h2:Bd c Y H Z τ O)(h3:m Z=some (o,B))(h4:Ng K E c Y B τ O R o)
structure JI(X:Cx)(E:XK)(tg iter:Expr)(m:Mi (List A)):Prop where
 p:PI X tg iter (Pa (kx X) E m)
theorem dd{o:Except Str (List A)}{R:It->Hp->Prop}(q:Ng (kx X) E c Y B τ O R o):∀e,o=.error e->∀C H,X.mg e=some (.ref C)->Bd c Y H B τ O->E (.ref C) none H:=λe v=>by subst v;exact q
def Gh:A->Option (List A)
 |a=>GC a
def bZ(m:Mi Rr):Mi (List A):=aT m λr Z=>match bS r Z with
 |some (a,B)=>match Gh a with
  |some as=>some (.ok as,B)
  |none=>none
 |none=>none
theorem Bd.mid{v:V}{a:A}(e:xs.length=ss.length)(b:Bd c Y H Z (xs++(some v::τ)) (ss++(.fr a::O))):∃L,dS c Y H Z (xs++(some v::τ)) (ss++(.fr a::O)) L/\RA c.toKx (c.g H L) v a:=by
 obtain⟨L,b⟩:=b;have r:au c.toKx (c.g H L) H (xs++(some v::(τ++Y))) (ss++(.fr a::(O++Z))) L:=by have:=b.rel;simpa[Qw] using this
 obtain⟨u,L2,e1,t,l⟩:=au.split e r;cases l with
 |cons h T=>cases h with|fr h=>exact⟨L,b,h⟩
theorem HR{l:Expr}{m:Mi Rr}(hl:JE X E l m):JI X E tg l (bZ m):=⟨λpins s Y H R I h=>by
 refine CI hl.p pins s Y H R I ?_;obtain⟨c,Z,τ,O,o,B,k,b,em,q⟩:=h;refine a9 k b em (λx v U V A b1 r=>?_) (dd q);cases e1:bS x U with
 |none=>rw[e1] at r;cases r
 |some p=>
  obtain⟨a,Z'⟩:=p;rw[e1] at r;have b2:=Bd.bS (xs:=[]) (ss:=[]) rfl b1 A e1;cases e2:Gh a with
  |none=>simp only[e2] at r;cases r
  |some as=>
   simp only[e2] at r;cases r;have G:c.K=X.K:=Y2 Kx.K k;cases a<;>first|exact cy e2|skip
   .cases e2;have rt:=Bd.top b2 (a:=.tup as) rfl;cases rt with
    |tup z n=>
     rename_i p vs;refine⟨p,rfl,.inr ⟨⟨vs,by rw[<-G];exact z⟩,q _ V [some (.ref p)] [.tup as] rfl (λC j H' B F D J T i e P S=>?_) b2⟩⟩;have w:C.K=X.K:=Y2 Kx.K e;obtain⟨L,bl,h⟩:=Bd.mid P S;cases h with
     |tup N Q=>
      rename_i us;have sq:iL X.K H' p us:=by rw[<-w];exact f9 (g_same _ _ _) N
      refine⟨λhi=>⟨us,sq,by rw[Q.len];exact hi⟩,λa f=>?_⟩;obtain⟨u,h1,h2⟩:=Q.ta f;refine⟨⟨us,u,sq,h1⟩,λx t y=>?_⟩;obtain⟨rfl,y⟩:=y;have:=y us sq;rw[h1] at this;cases this;exact bl.push h2
   .cases e2;have rt:=Bd.top b2 (a:=.lst as) rfl;cases rt with
    |lst z n=>
     rename_i p vs;refine⟨p,rfl,.inl ⟨⟨vs,by rw[<-G];exact z⟩,q _ V [some (.ref p)] [.lst as] rfl (λC j H' B F D J T i e P S=>?_) b2⟩⟩;have w:C.K=X.K:=Y2 Kx.K e;obtain⟨L,bl,h⟩:=Bd.mid P S;cases h with
     |lst N Q=>
      rename_i us;have sq:dM X.K H' p us:=by rw[<-w];exact eY (g_same _ _ _) N
      refine⟨λhi=>⟨us,sq,by rw[Q.len];exact hi⟩,λa f=>?_⟩;obtain⟨u,h1,h2⟩:=Q.ta f;refine⟨⟨us,u,sq,h1⟩,λx t y=>?_⟩;obtain⟨rfl,y⟩:=y;have:=y us sq;rw[h1] at this;cases this;exact bl.push h2⟩
noncomputable def bI(lo:Int)(n:Nat):List A:=(QK n).map λi=>.int (lo+(i:Nat))
theorem AR{lo:Int}{n:Nat}:JN K (M9 lo n) [] [] (bI lo n):=λc Y H Z F D τ O i e P b=>by
 have hl:(bI lo n).length=n:=by simp[bI]
 refine⟨λh=>by rw[hl] at h;exact h,λa f=>?_⟩;have hi:i<n:=by rw[<-hl];exact(Qv.mp f).1
 refine⟨hi,λx H' y=>?_⟩;obtain⟨rfl,rfl⟩:=y;have:a=.int (lo+i):=by unfold bI at f;simp only[Q0,Sf hi] at f;exact(QW f).symm
 subst this;exact b.push λ_=>.int _
def dw(m:Mi Rr):Mi (List A):=aT m λr Z=>match res Z r with
 |some (.int j)=>if -(2^60)<=j/\j<2^60 then some (.ok (bI 0 j.toNat),Z) else none
 |_=>none
theorem D9{a:Expr}{m:Mi Rr}{p:Pos}(hg:Gl X "range")(hm:X.mg "range" = none)(ha:JE X E a m)(hs:Xo [a] X.env=[(false,eval a X.env)]:=by rfl)(hs':Xo [a] X.env=(false,eval a X.env)::Xo [] X.env:=by rfl):JI X E tg (.Call (.Name "range" p) [a] [] pos) (dw m):=⟨λpins s Y H R I h=>by
 refine xh hg hm (aU ha.p bY hs') hs pins s Y H R I ?_;obtain⟨c,Z,τ,O,o,B,ek,b,em,q⟩:=h;refine a9 ek b em (λx v U H1 hv b1 em1=>?_) (dd q);cases e1:res U x with
 |none=>rw[e1] at em1;cases em1
 |some a=>
  have r1:=Bd.rd b1 hv e1;rw[e1] at em1;cases a<;>first|exact cy em1|skip
  rename_i j;simp only at em1;split at em1
  .rename_i hj;cases em1;cases r1;exact⟨j,rfl,by lia,by lia,q _ H1 [] [] rfl AR b1.drop⟩
  .cases em1⟩
theorem yP{u:Option A}{F:Int->Option α}{r:α} (h:(match u with
   |some (.int k)=>F k
   | _=>none)=some r):∃k,u=some (.int k)/\F k=some r:=by
 split at h
 .rename_i k;exact⟨k,rfl,h⟩
 .cases h
theorem rL{u w:Option A}{F:Int->Int->Option α}{r:α} (h:(match u,w with
 |some (.int i),some (.int j)=>F i j
 | _,_=>none)=some r):∃i j,u=some (.int i)/\w=some (.int j)/\F i j=some r:=by
 split at h
 .rename_i i j;exact⟨i,j,rfl,rfl,h⟩
 .cases h
def rn(m n:Mi Rr):Mi (List A):=aT m λr=>aT n λt=>λZ=>match res Z r,res Z t with
 |some (.int i),some (.int j)=>if -(2^60)<=i/\i<2^60 /\ -(2^60)<=j/\j<2^60 then some (.ok (bI i (j-i).toNat),Z) else none
 |_,_=>none
theorem Cb{a b:Expr}{m n:Mi Rr}{p:Pos}(hg:Gl X "range")(hm:X.mg "range" = none)(ha:JE X E a m)(hb:JE X E b n)(hs:Xo [a,b] X.env=[(false,eval a X.env),(false,eval b X.env)]:=by rfl)(hs2:Xo [b] X.env=[(false,eval b X.env)]:=by rfl)
  (hs3:Xo [a,b] X.env=(false,eval a X.env)::Xo [b] X.env:=by rfl)(hs4:Xo [b] X.env=(false,eval b X.env)::Xo [] X.env:=by rfl):JI X E tg (.Call (.Name "range" p) [a,b] [] pos) (rn m n):=⟨λpins s Y H R I h=>by
 refine xl hg hm (aU ha.p (aU hb.p bY hs4) hs3) hs hs2 pins s Y H R I ?_;obtain⟨c,Z,τ,O,o,B,ek,b,em,q⟩:=h;refine a9 ek b em (λx v U H1 hv b1 em1=>?_) (dd q);refine a9 ek b1 em1 (λy w Z' H2 hw b2 em2=>?_) (cS (dd q));obtain⟨i,j,e1,e2,em2⟩:=rL em2;obtain⟨rfl,rfl⟩:v=.int i/\w=.int j:=by have r2:=Bd.rd b2 hw e2;have r1:=Bd.rd b2.drop hv e1;cases r1;cases r2;exact⟨rfl,rfl⟩
 split at em2
 .rename_i hj;cases em2;exact⟨i,j,rfl,⟨by lia,by lia,by lia,by lia⟩,q _ H2 [] [] rfl AR b2.drop.drop⟩
 .cases em2⟩
noncomputable def forL(G:Mg)(b:Ms):List A->Ms
 |[],Z=>some (.nx,Z)
 |a::as,Z=>match G a Z with
  |none=>none
  |some U=>match b U with
   |some (.nx,Z')=>forL G b as Z'
   |some (.ct,Z')=>forL G b as Z'
   |some (.bk,Z')=>some (.nx,Z')
   |r=>r
def iO(m:Mi (List A))(G:Mg)(b:Ms):Ms:=c7 m λas Z=>forL G b as Z
theorem J7{m:Mi (List A)}{G:Mg}{mb:Ms}(hp:Yj (Xv X.prog X.w) X.A X.env X.xe)(hc:X.calm=true)(hi:JI X E tg iter m)(hg:JG X 0 tg G)(hb:qy X E body mb)
  (hs:∀x,XG iter X.env x=pure x:=by intro _;rfl):JS X E (.For tg iter body [] pos) (iO m G mb):=⟨PS.weaken (IV hp hc hi.p hg.p hb.p hs) λD Y H h=>by
 obtain⟨c,Z,τ,O,f,B,ek,b,em,q⟩:=h;rcases eU em with ⟨as,U,e1,e2⟩|⟨e,e1,e2⟩
 .refine⟨c,Z,τ,_,_,U,ek,b,e1,λJ H1 T S li it b1=>?_⟩;refine⟨λi m j H'=>m=as.length-i/\i<=as.length/\∃R,Bd c j H' R (T++τ) (S.map Sl.fr++O.map Sl.fr)/\forL G mb (as.drop i) R=some (f,B),⟨_,rfl,RP _,U,b1,by simpa using e2⟩,?_⟩;rintro i m j H' ⟨rfl,hi,R,bi,ei⟩;obtain⟨i1,i2⟩:=it c j H' R [] [] τ (O.map Sl.fr) i ek rfl bi;by_cases hlt:i<as.length
  .have hd:as.drop i=as[i]::as.drop (i+1):=SA hlt;rw[hd] at ei;obtain⟨go,yl⟩:=i2 as[i] Z4;refine .inr ⟨go,λP H2=>∃Z',Bd c P H2 Z' (T++τ) (S.map Sl.fr++O.map Sl.fr)/\forL G mb (as.drop (i+1)) Z'=some (f,B),λP H2 ⟨Z',q1,q2⟩=>⟨as.length-(i+1),by lia,rfl,hlt,Z',q1,q2⟩,λx H2 y=>?_⟩;have b2:=yl x H2 y;unfold forL at ei;cases eg:G as[i] R with
   |none=>rw[eg] at ei;cases ei
   |some Z'=>
    rw[eg] at ei;refine⟨c,R,_,_,as[i],Z',ek,b2,eg,λV H3 _ _ b3=>?_⟩;cases eb:mb Z' with
    |none=>simp only[eb] at ei;cases ei
    |some p=>
     obtain⟨f1,Z0⟩:=p;simp only[eb] at ei;refine⟨c,Z',T++τ,S++O,f1,Z0,ek,by simp only[QZ];exact b3,eb,?_⟩;cases f1 with
     |nx=>intro Q H4 b4;rw[QZ] at b4;exact⟨Z0,b4,ei⟩
     |ct=>intro Q H4 b4;rw[QZ] at b4;exact⟨Z0,b4,ei⟩
     |bk=>cases ei;intro Q H4 b4;simp only[QZ] at b4;exact q Q H4 (Bd.CT (by simp[li]) b4)
     |rt s=>cases ei;intro v Q H4 hs b4;rw[QZ] at b4;exact q v Q H4 hs (Bd.tY (by simp[li]) b4)
     |ex x=>cases ei;intro C Q H4 hm b4;rw[QZ] at b4;exact q C Q H4 hm (Bd.CT (by simp[li]) b4)
  .have e:i=as.length:=by lia
   subst e;rw[TQ] at ei;cases ei;exact .inl ⟨i1 (QB _),q j H' (Bd.CT (by simp[li]) bi)⟩
 .subst e2;exact⟨c,Z,τ,_,_,B,ek,b,e1,λC H1 hm b1=>q C Y H1 hm b1⟩⟩
noncomputable def dC(t:Mi Bool)(b:Ms):Nat->Ms
 |0,_=>none
 |n+1,Z=>match t Z with
  |some (.ok true,U)=>match b U with
   |some (.nx,Z')=>dC t b n Z'
   |some (.ct,Z')=>dC t b n Z'
   |some (.bk,Z')=>some (.nx,Z')
   |r=>r
  |some (.ok false,U)=>some (.nx,U)
  |some (.error e,U)=>some (.ex e,U)
  |none=>none
def iU(n:Nat)(t:Mi Bool)(b:Ms):Ms:=dC t b n
theorem Bx{n:Nat}{t:Expr}{mb:Ms}(hp:Yj (Xv X.prog X.w) X.A X.env X.xe)(l:JT X E t mt)(d:qy X E body mb):JS X E (.While t body [] pos) (iU n mt mb):=⟨PS.weaken (AL hp l.p d.p) λD Y H h=>by
 obtain⟨c,Z,τ,O,f,B,y,b,em,q⟩:=h;refine⟨λm j H'=>∃R,Bd c j H' R τ (O.map Sl.fr)/\dC mt mb m R=some (f,B),⟨n,Z,b,em⟩,?_⟩;rintro m j H' ⟨R,J,a⟩;cases m with
 |zero=>cases a
 |succ m=>
  unfold dC at a;cases z:mt R with
  |none=>simp only[z] at a;cases a
  |some p=>
   obtain⟨o,U⟩:=p;refine⟨c,R,τ,_,o,U,y,J,z,?_⟩;cases o with
   |error e=>simp only[z] at a;cases a;exact λC V hm b1=>q C j V hm b1
   |ok k=>
    intro V b1;cases k with
    |false=>simp only[z] at a;cases a;rw[YZ Z2];exact q j V b1
    |true=>
     rw[z] at a;rw[YY rfl];refine⟨λP S=>∃Z',Bd c P S Z' τ (O.map Sl.fr)/\dC mt mb m Z'=some (f,B),λP S w=>⟨m,Rc _,w⟩,?_⟩;cases F:mb U with
     |none=>simp only[F] at a;cases a
     |some p=>
      obtain⟨I,Z0⟩:=p;simp only[F] at a;refine⟨c,U,τ,O,I,Z0,y,b1,F,?_⟩;cases I with
      |nx=>exact λQ r i=>⟨Z0,i,a⟩
      |ct=>exact λQ r i=>⟨Z0,i,a⟩
      |bk=>cases a;exact λQ r i=>q Q r i
      |rt s=>cases a;exact λv Q r hs i=>q v Q r hs i
      | ex x=>cases a;exact λC Q r hm i=>q C Q r hm i⟩
end
theorem nU(r:Rr)(v:V)(t:St)(u:List Sl):cL r v t=cL r v []++t/\cN r u=cN r []++u/\(cL r v []).length=(cN r []).length:=by cases r<;>exact⟨rfl,rfl,rfl⟩
def dm(G:Mg)(t:Mi Bool)(e:Mi Rr):List A->List A->List Sl->Option (List A×List Sl)
 |[],acc,Z=>some (acc,Z)
 |a::as,acc,Z=>match G a Z with
  |none=>none
  |some U=>match t U with
   |some (.ok true,Z')=>match e Z' with
    |some (.ok r,Z0)=>match bS r Z0 with
     |some (d,N)=>dm G t e as (acc++[d]) N
     |none=>none
    |_=>none
   |some (.ok false,Z')=>dm G t e as acc Z'
   |_=>none
inductive Lw(G:Mg)(t:Mi Bool)(e:Mi Rr)(a:A)(as acc:List A)(Z:List Sl)(r:List A×List Sl):Prop
 |skip{U Z':List Sl}(g:G a Z=some U)(k:t U=some (.ok false,Z'))(q:dm G t e as acc Z'=some r)
 |take{d:A}{u:Rr}{U Z' Z0 N:List Sl}(g:G a Z=some U)(k:t U=some (.ok true,Z'))(m:e Z'=some (.ok u,Z0))(f:bS u Z0=some (d,N))(q:dm G t e as (acc++[d]) N=some r)
theorem vT{G:Mg}{t:Mi Bool}{e:Mi Rr}{a:A}{as acc:List A}{r:List A×List Sl}(h:dm G t e (a::as) acc Z=some r):Lw G t e a as acc Z r:=by
 unfold dm at h;split at h
 .cases h
 .rename_i U H;split at h
  .rename_i Z' z;split at h
   .rename_i u Z0 v;split at h
    .rename_i d N Y;exact .take H z v Y h
    .cases h
   .cases h
  .rename_i Z' z;exact .skip H z h
  .cases h
def aH:Mi Bool:=mq true
def aL(n:Nat)(H:Mi (List A))(G:Mg)(t:Mi Bool)(e:Mi Rr):Mi Rr:=aT H λas Z=>if as.length<=100000 then match dm G t e as [] (Z++QD n .un) with
 |some (ys,B)=>some (.ok (.nw (.lst ys)),B.take Z.length)
 |none=>none else none
structure JF(X:Cx)(E:XK)(ifs:List Expr)(m:Mi Bool):Prop where
 p:PF X ifs (B9 (kx X) E m)
variable{me:Mi Rr}{lo:Nat}{N:List Str}{elt:Expr}{ifs:List Expr}{px:Pos}
section
variable{X:Cx}{E:XK}
theorem JV:JF X E [] aH:=⟨λpins s Y H Q I h=>by refine Jb pins s Y H Q I ?_;obtain⟨c,Z,τ,O,o,B,y,b,em,q⟩:=h;cases em;exact q H b⟩
theorem JH{t:Expr}{m:Mi Bool}(h:JT X E t m):JF X E [t] m:=⟨Ii h.p⟩
noncomputable abbrev uj:XK:=λ_ _ _=>False
theorem v9{n:Nat}{G:Mg}{T:St}{g:Hp}{U Z':List Sl}{S as ys:List A}{J:It}(u:Y.length=lo)(d:c.toKx=kx X)(li:T.length=S.length)
  (it:∀Y H Z F D i,F.length=D.length->Bd c Y H Z (F++(T++τ)) (D++(S.map Sl.fr++O))->(as.length<=i->J.stop i H)/\∀a,as[i]?=some a->J.go i H/\∀x H',J.yld i H x H'->Bd c Y H' Z (some x::(F++(T++τ))) (.fr a::(D++(S.map Sl.fr++O))))
  (b1:Bd c Y g U (T++τ) (S.map Sl.fr++O))(l:as.length<=100000)(ec:dm G mt me as [] (U++QD n .un)=some (ys,Z'))(q:OL (kx X) E c Y (Z'.take U.length) τ O Q (.ok (.nw (.lst ys)))):
  yW J (NC (kx X) lo G) (B9 (kx X) uj mt) (kj (kx X) uj me) Q (Y++QD n none) g:=by
 have C:=b1.qY;refine⟨λi m j vs H'=>m=as.length-i/\i<=as.length/\j.take lo=Y/\∃R acc,vs.length=acc.length/\acc.length<=i/\Bd c j H' R (vs.reverse.map some++(T++τ)) (acc.reverse.map Sl.fr++(S.map Sl.fr++O))/\dm G mt me (as.drop i) acc R=some (ys,Z'),
  ⟨_,rfl,RP _,by simp only[<-u,List.take_left],_,[],rfl,RP _,b1.ON,by simpa using ec⟩,?_⟩
 rintro i m j vs H' ⟨rfl,hi,h,R,acc,lv,la,bi,B⟩;refine⟨by have:=nV;lia,?_⟩;obtain⟨i1,i2⟩:=it j H' R (vs.reverse.map some) (acc.reverse.map Sl.fr) i (by simp[lv]) bi;by_cases K:i<as.length
 .have hd:=SA K;rw[hd] at B;obtain⟨go,yl⟩:=i2 as[i] Z4;refine .inr ⟨go,λP w t=>P.take lo=Y/\∃Z0 b,w.length=b.length/\b.length<=i+1/\Bd c P t Z0 (w.reverse.map some++(T++τ)) (b.reverse.map Sl.fr++(S.map Sl.fr++O))/\dm G mt me (as.drop (i+1)) b Z0=some (ys,Z'),
   λP w t ⟨q0,Z0,b,q1,q2,q3,q4⟩=>⟨as.length-(i+1),by lia,rfl,K,q0,Z0,b,q1,q2,q3,q4⟩,λx t y=>?_⟩
  have b2:=yl x t y;have fin:∀{Z0 N:List Sl}{k:Bool},G as[i] R=some Z0->mt Z0=some (.ok k,N)->(∀V r,V.take lo=Y->Bd c V r N (vs.reverse.map some++(T++τ)) (acc.reverse.map Sl.fr++(S.map Sl.fr++O))->if k=true then kj (kx X) uj me V r λv o=>V.take lo=Y/\∃Z0 b,(vs++[v]).length=b.length/\b.length<=i+1/\Bd c V o Z0 ((vs++[v]).reverse.map some++(T++τ)) (b.reverse.map Sl.fr++(S.map Sl.fr++O))/\dm G mt me (as.drop (i+1)) b Z0=some (ys,Z') else V.take lo=Y/\∃Z0 b,vs.length=b.length/\b.length<=i+1/\Bd c V r Z0 (vs.reverse.map some++(T++τ)) (b.reverse.map Sl.fr++(S.map Sl.fr++O))/\dm G mt me (as.drop (i+1)) b Z0=some (ys,Z'))->NC (kx X) lo G x j t λV H3=>B9 (kx X) uj mt V H3 λk r=>if k=true then kj (kx X) uj me V r λv o=>V.take lo=Y/\∃Z0 b,(vs++[v]).length=b.length/\b.length<=i+1/\Bd c V o Z0 ((vs++[v]).reverse.map some++(T++τ)) (b.reverse.map Sl.fr++(S.map Sl.fr++O))/\dm G mt me (as.drop (i+1)) b Z0=some (ys,Z') else V.take lo=Y/\∃Z0 b,vs.length=b.length/\b.length<=i+1/\Bd c V r Z0 (vs.reverse.map some++(T++τ)) (b.reverse.map Sl.fr++(S.map Sl.fr++O))/\dm G mt me (as.drop (i+1)) b Z0=some (ys,Z'):=
   λL z f=>⟨c,R,_,_,as[i],_,d,b2,L,λV H3 s l3 b3=>⟨c,_,_,_,.ok _,_,d,b3,z,λr I=>f V r (s.trans h) I⟩⟩
  cases vT B with
  |skip L z B=>exact fin L z λV r s I=>⟨s,_,acc,lv,by exact VZ ‹_›,I,B⟩
  |take L z ee ef B=>exact fin L z λV r s I=>⟨c,_,_,_,_,_,d,I,ee,λv o hv b5=>⟨s,_,_,by simp[lv],by simp;exact id ‹_›,by simpa using Bd.bS (xs:=[]) (ss:=[]) rfl b5 hv ef,B⟩⟩
 .have e:i=as.length:=by lia
  subst e;rw[TQ] at B;cases B;refine .inl ⟨i1 (QB _),λp hp=>?_⟩;have b7:=Bd.Bp bi (by simp[lv]) hp vs ys tD;have b8:=Bd.tY (by simp[li]) b7;have es:j=Y++j.drop lo:=by rw[<-h];exact(R1 _ _).symm
  rw[es] at b8;have b9:=b8.NJ;rw[C] at b9;exact q _ _ trivial b9
theorem n6{n:Nat}{a:Mi (List A)}{G:Mg}(Y:St)(H:Hp)(Q:VK)(u:Y.length=lo)(h:kj (kx X) E (aL n a G mt me) Y H Q):
  As n (Pa (kx X) E a) (NC (kx X) lo G) (B9 (kx X) uj mt) (kj (kx X) uj me) Y H Q:=by
 obtain⟨c,Z,τ,O,o,B,y,b,em,q⟩:=h;rcases bind_some em with ⟨as,U,e1,e2⟩|⟨e,e1,e2⟩
 .refine⟨c,Z,τ,O,_,U,y,b,e1,λJ V T S m it b1=>?_⟩;split at e2
  .rename_i x;cases N:dm G mt me as [] (U++QD n .un) with
   |none=>rw[N] at e2;cases e2
   |some p=>simp only[N] at e2;cases e2;exact v9 u y m (λY H Z F D i l b=>it c Y H Z F D τ O i y l b) b1 x N q
  .cases e2
 .subst e2;exact⟨c,Z,τ,O,_,B,y,b,e1,λC V hm b1=>q C V hm b1⟩
theorem DD{k:Nat}{sc:Scope}{mi:Mi (List A)}{G:Mg}(hc:X.calm=true)(S:fO X.N N k sc X.env.scope)(hlo:X.N.length=lo)(hi:JI X E tg iter mi)
  (hg:∀cl C s H fp,JG (iX X N sc cl C s H fp) lo tg G)(ht:∀cl C s H fp,JF (iX X N sc cl C s H fp) uj ifs mt)(he:∀cl C s H fp,JE (iX X N sc cl C s H fp) uj elt me)(hs:∀x,XG iter X.env x=pure x:=by intro _;rfl):
  JE X E (.ListComp elt [⟨tg,iter,ifs,0⟩] sc pos) (aL k mi G mt me):=
 ⟨λpins s Y H Q I h=>Dm hc S hi.p (λcl C s H fp=>(hg cl C s H fp).p) (λcl C s H fp=>(ht cl C s H fp).p) (λcl C s H fp=>(he cl C s H fp).p) hs pins s Y H Q I (n6 Y H Q (I.len.trans hlo) h)⟩
theorem CB{x:Str}{spos:Pos}{k:Nat}{sc:Scope}{mi:Mi (List A)}{G:Mg}(hc:X.calm=true)(S:fO X.N N k sc X.env.scope)(hlo:X.N.length=lo)(hN:X.N.Nodup)(hx:X.N[i]?=some x)
  (hl:X.env.scope.names.lookup x=some .local)(hsw:XH (.ListComp elt [⟨tg,iter,ifs,0⟩] sc pos) (some (.Name x px)) spos.line X.env=pure true)(hi:JI X E tg iter mi)
  (hg:∀cl C s H fp,JG (iX X N sc cl C s H fp) lo tg G)(ht:∀cl C s H fp,JF (iX X N sc cl C s H fp) uj ifs mt)(he:∀cl C s H fp,JE (iX X N sc cl C s H fp) uj elt me)(hs:∀x,XG iter X.env x=pure x:=by intro _;rfl):
  JS X E (.Assign [.Name x px] (.ListComp elt [⟨tg,iter,ifs,0⟩] sc pos) spos) (aG i (aL k mi G mt me)):=
 ⟨λpins s Y H D I h=>Em hc S hN hx hl hsw hi.p (λcl C s H fp=>(hg cl C s H fp).p) (λcl C s H fp=>(ht cl C s H fp).p) (λcl C s H fp=>(he cl C s H fp).p) hs pins s Y H D I (by
  obtain⟨c,Z,τ,O,f,B,ek,b,em,q⟩:=h;refine n6 Y H _ (I.len.trans hlo) (dU ek b em q λr v U H1 hv b1 em1=>?_);cases e1:xM r U with
  |none=>rw[e1] at em1;cases em1
  |some p=>
   obtain⟨t,Z'⟩:=p;rw[e1] at em1;obtain⟨b2,ht⟩:=Bd.xM hv b1 e1;cases e2:put i t Z' with
   |none=>simp only[e2] at em1;cases em1
   | some Z0=>simp only[e2] at em1;cases em1;exact q _ H1 (Bd.put b2 ht e2))⟩
noncomputable def az(Z:List Sl)(i:Nat):Option LO:=match Z[i]? with
 |some (.lv o)=>some o
 |some (.pv o)=>some o
 |_=>none
noncomputable def setAt(Z:List Sl)(i:Nat)(o:LO):List Sl:=match Z[i]? with
 |some (.pv _)=>Z.set i (.pv o)
 |_=>Z.set i (.lv o)
theorem dS.live(b:dS c Y H Z τ O L)(h:az Z i=some o)(o':LO)(u:HO):
  ∃p q,Y[i]?=some (some (.ref p))/\LR c.toKx (c.g H L) H p o q/\((∀H',H' p=some u->LR c.toKx (c.g H L) H' p o' q)->Bd c Y (upd H p u) (setAt Z i o') τ O):=by
 delta az at h
 delta setAt
 cases es:Z[i]? with
 |none=>rw[es] at h;cases h
 |some s=>
  cases s with
  |un=>rw[es] at h;cases h
  |cf _=>rw[es] at h;cases h
  |fr a=>rw[es] at h;cases h
  |lv x=>rw[es] at h;cases h;obtain⟨p,q,h1,h2,h3⟩:=b.change es (.inl ⟨rfl,rfl⟩);exact⟨p,q,h1,h2,λk=>h3 λH' e _=>k H' e⟩
  |pv x=>rw[es] at h;cases h;obtain⟨p,q,h1,h2,h3⟩:=b.change es (.inr ⟨rfl,rfl⟩);exact⟨p,q,h1,h2,λk=>h3 λH' e _=>k H' e⟩
theorem Bd.tq{v:V}{a:A}(b:Bd c Y H Z (some v::τ) (.fr a::O)):∃L,dS c Y H Z τ O L/\RA c.toKx (c.g H L) v a:=by obtain⟨L,bl,r⟩:=Bd.kD (vs:=[v]) (as:=[a]) b rfl;cases r with|cons h _=>exact⟨L,bl,h⟩
def g9(i:Nat)(m:Mi Rr):Mi Rr:=aT m λr Z=>match bS r Z with
 |some (a,U)=>match az U i with
  |some (.lst xs)=>if xs.length<=16000000 then some (.ok (.fr .non),setAt U i (.lst (xs++[a]))) else none
  |_=>none
 |none=>none
theorem fM{xs:List A}(b:Bd c Y H Z τ O)(h:az Z i=some (.lst xs)):∃p vs,Y[i]?=some (some (.ref p))/\H p=some (.lst vs):=by obtain⟨L,b⟩:=b;obtain⟨p,_,h1,h2,q⟩:=b.live h (.lst xs) (.lst []);cases h2 with|lst e r=>exact⟨p,_,h1,e⟩
def FK(Z:List Sl)(i:Nat):Bool:=match az Z i with
 |some (.lst _)=>true
 |_=>false
def jK(i:Nat)(m:Mi Rr):Mi Rr:=λZ=>if FK Z i then m Z else none
theorem jE(h:FK Z i=true):∃xs,az Z i=some (.lst xs):=by
 delta FK at h
 cases e:az Z i with
 |none=>rw[e] at h;cases h
 |some o=>cases o with
  |lst xs=>exact⟨xs,rfl⟩
  |dic _=>rw[e] at h;cases h
  |dit _=>rw[e] at h;cases h
  |obj _ _=>rw[e] at h;cases h
  |nob _ _ _=>rw[e] at h;cases h
theorem xb{x:Str}{apos cpos:Pos}{m:Mi Rr}(hN:X.N[i]?=some x)(hv:jh X.env.scope x)(hd:fg x)(hcd:km x)(he:JE X E e m)
  (hbase:Xr (.Name x px) "append" X.env (eval (.Name x px) X.env)=eval (.Name x px) X.env:=by rfl)
  (hfew:((Xw cpos (Xo [e] X.env)).all (λx=>!x.1)&&(XD cpos (Xy [] X.env)).all (λx=>x.1.isSome)&&decide (([e]:List Expr).length+([]:List XB).length+(if ([]:List XB).isEmpty then 0 else 1)<30))=true:=by rfl)
  (hline:(apos.endLine==cpos.line)=true:=by rfl)(hs:Xo [e] X.env=(false,eval e X.env)::Xo [] X.env:=by rfl)(hplain:(Xw cpos (Xo [] X.env)).any (·.1)=false:=by rfl):
  JE X E (.Call (.Attribute (.Name x px) "append" apos) [e] [] cpos) (jK i (g9 i m)):=
 ⟨PE.weaken (kb RC Tu Tv jX (bH hN hv hd hcd) (aU he.p bY hs) hbase hfew hline hs hplain) λY H Q h=>by
  obtain⟨c,Z,τ,O,o,B,ek,b,em,q⟩:=h
  delta jK at em
  split at em
  .rename_i hl;obtain⟨xs0,hl⟩:=jE hl;obtain⟨p,vs,hp,hH⟩:=fM b hl;refine⟨_,hp,.inl ⟨rfl,vs,.inl (.inl hH)⟩,?_⟩;refine a9 ek b em (λr v U H1 hv b1 em1=>?_) (bD q);cases e1:bS r U with
   |none=>rw[e1] at em1;cases em1
   |some pr=>
    obtain⟨a,Z'⟩:=pr;rw[e1] at em1;have b2:=Bd.bS (xs:=[]) (ss:=[]) rfl b1 hv e1;cases e2:az Z' i with
    |none=>simp only[e2] at em1;cases em1
    |some lo=>
     cases lo with
     |dic _=>simp only[e2] at em1;cases em1
     |dit _=>simp only[e2] at em1;cases em1
     |obj _ _=>simp only[e2] at em1;cases em1
     |nob _ _ _=>simp only[e2] at em1;cases em1
     |lst xs=>
      simp only[e2] at em1;split at em1
      .rename_i hx;cases em1;obtain⟨L,bl,ra⟩:=Bd.tq b2;obtain⟨p',_,h1,h2,h3⟩:=bl.live e2 (.lst (xs++[a])) (.lst ((match H1 p with|some (.lst ws)=>ws|_=>[])++[v]));rw[hp] at h1;cases h1;cases h2 with
       |lst e rr=>rename_i ws;rw[e] at h3;refine⟨p,ws,v,rfl,rfl,e,by have:=rr.len;have:=XI;lia,q _ _ trivial (Bd.push (h3 λH' hh=>.lst hh (rr.snoc ra)) λ_=>.non)⟩
      .cases em1
  .cases em⟩
def gf(i:Nat)(mk m:Mi Rr):Ms:=c7 m λr S=>if FK S i then c7 mk (λY=>λZ=>match bS r Z with
 |some (a,U)=>match res U Y,az U i with
  |some (.int k),some (.lst xs)=>match gk xs.length k with
   |some j=>some (.nx,setAt U i (.lst (xs.set j a)))
   |none=>none
  |_,_=>none
 | none=>none) S else none
theorem A5{x:Str}{I:Pos}{y:Expr}{mk m:Mi Rr}(hN:X.N[i]?=some x)(A:jh X.env.scope x)(hd:fg x)(K:km x)(hk:JE X E y mk)(he:JE X E e m)
  (hp:∀{R u G:TE},PE X (.Name x px) R->PE X y u->PE X e G->PS X (.Assign [.Subscript (.Name x px) y I] e pos) (rl G (BG R u qp))):JS X E (.Assign [.Subscript (.Name x px) y I] e pos) (gf i mk m):=
 ⟨PS.weaken (hp (bH hN A hd K) hk.p he.p) λD Y H h=>by
  obtain⟨c,Z,τ,O,f,B,y,b,em,q⟩:=h;refine dU y b em q λr v U H1 A b1 F=>?_;split at F
  .rename_i hl;obtain⟨t,hl⟩:=jE hl;obtain⟨p,vs,hp,hH⟩:=fM b1 hl;refine⟨_,hp,?_⟩;rcases eU F with ⟨J,Z',e1,e2⟩|⟨ee,e1,e2⟩
   .refine⟨c,U,_,_,_,Z',y,b1,e1,λw S d b2=>?_⟩;cases P:bS r Z' with
    |none=>rw[P] at e2;cases e2
    |some pr=>
     obtain⟨a,Z0⟩:=pr;rw[P] at e2;have n:Bd c Y S Z0 (cL J w (some v::τ)) (cN J (.fr a::O.map Sl.fr)):=by obtain⟨g,V,l⟩:=nU J w (cL r v τ) (cN r (O.map Sl.fr));obtain⟨g4,g5,_⟩:=nU J w (some v::τ) (.fr a::O.map Sl.fr);simp only[g4,g5];simp only[g,V] at b2;exact Bd.bS l b2 A P
     cases Q:res Z0 J with
     |none=>simp only[Q] at e2;cases e2
     |some ak=>
      cases ak<;>first|(simp only[Q] at e2;cases e2;done)|skip
      rename_i k;have s:=Bd.rd n d Q;cases s;cases T:az Z0 i with
      |none=>simp only[Q,T] at e2;cases e2
      |some lo=>
       cases lo with
       |dic _=>simp only[Q,T] at e2;cases e2
       |dit _=>simp only[Q,T] at e2;cases e2
       |obj _ _=>simp only[Q,T] at e2;cases e2
       |nob _ _ _=>simp only[Q,T] at e2;cases e2
       |lst xs=>
        simp only[Q,T] at e2;cases z:gk xs.length k with
        |none=>rw[z] at e2;cases e2
        |some j=>
         simp only[z] at e2;cases e2;obtain⟨L,bl,ra⟩:=Bd.tq n.drop;obtain⟨p',_,h1,h2,h3⟩:=bl.live T (.lst (xs.set j a)) (.lst ((match S p with|some (.lst ws)=>ws|_=>[]).set j v));rw[hp] at h1;cases h1;cases h2 with
         |lst e o=>rename_i ws;rw[e] at h3;exact⟨p,ws,k,j,rfl,rfl,e,by rw[o.len];exact z,q Y _ (h3 λH' hh=>.lst hh (o.set ra j))⟩
   .subst e2;exact⟨c,U,_,_,_,B,y,b1,e1,λC S hm b2=>q C Y S hm b2.drop⟩
  .cases F⟩
end
section
variable{X:Cx}{E:XK}
open PySem.Spec PyProof.Rows PySem.W in
open PySem.Spec PyProof.Rows PySem.W in
end
theorem dS.Ky{v:V}{a b:A}(bl:dS c Y H Z τ O L)(h1:RA c.toKx (c.g H L) v a)(h2:RA c.toKx (c.g H L) w b):Bd c Y H Z (some v::some w::τ) (.fr a::.fr b::O):=
 ⟨L,bl.nd,au.cons (.fr h1) (au.cons (.fr h2) bl.rel),bl.own,bl.fr,bl.kp,by simp[bl.lt],bl.hd⟩
variable{j:Nat}
section
variable{X:Cx}{E:XK}
open PySem.Spec PyProof.Rows PySem.W in
def aE:Mi (Option Int):=mq none
def bz(m:Mi Rr):Mi (Option Int):=aT m λr Z=>match res Z r with
 |some (.int i)=>some (.ok (some i),Z)
 |_=>none
def LS(K:Kx)(E:XK)(c:Cn)(Y:St)(Z:List Sl)(τ:St)(O:List Sl)(Q:Option Int->Hp->Prop):Except Str (Option Int)->Prop
 | .ok i=>∀H,Bd c Y H Z τ O->Q i H
 | .error x=>∀C H,K.mg x=some (.ref C)->Bd c Y H Z τ O->E (.ref C) none H
inductive Pg(K:Kx)(E:XK)(m:Mi (Option Int))(Y:St)(H:Hp)(Q:Option Int->Hp->Prop):Prop
 |mk(c:Cn)(Z:List Sl)(τ:St)(O:List Sl)(o:Except Str (Option Int))(B:List Sl)(h1:c.toKx=K)(h2:Bd c Y H Z τ O)(h3:m Z=some (o,B))(h4:LS K E c Y B τ O Q o)
structure JP(X:Cx)(E:XK)(e:Option Expr)(m:Mi (Option Int)):Prop where
 p:PO X e (Pg (kx X) E m)
theorem PO.weaken{e:Option Expr}{t t':TO}(h:PO X e t)(f:∀Y H Q,t' Y H Q->t Y H Q):PO X e t':=λpins s Y H Q I q=>h pins s Y H Q I (f Y H Q q)
theorem Af{o:Except Str (Option Int)}{Q:Option Int->Hp->Prop}(q:LS (kx X) E c Y B τ O Q o):∀e,o=.error e->∀C H,X.mg e=some (.ref C)->Bd c Y H B τ O->E (.ref C) none H:=λe v=>by subst v;exact q
theorem CD:JP X E none aE:=⟨PO.weaken D5 λY H Q h=>by obtain⟨c,Z,τ,O,o,B,y,b,em,q⟩:=h;cases em;exact q H b⟩
theorem Ep{m:Mi Rr}(h:JE X E e m):JP X E (some e) (bz m):=⟨PO.weaken (D4 h.p) λY H Q h=>by
 obtain⟨c,Z,τ,O,o,B,y,b,em,q⟩:=h;refine a9 y b em (λx v U V A b1 D=>?_) (Af q);cases e1:res U x with
 |none=>rw[e1] at D;cases D
 |some a=>
  have g:=Bd.rd b1 A e1;cases a<;>first|(simp only[e1] at D;cases D;done)|skip
  simp only[e1] at D;cases D;cases g;exact⟨_,rfl,q V b1.drop⟩⟩
def il(xs:List A)(lo hi:Option Int):List A:=(xs.drop (HT.cM xs.length 0 lo)).take (HT.cM xs.length xs.length hi-HT.cM xs.length 0 lo)
theorem yJ{k:Kx}{as:List A}(r:bN k G vs as)(lo hi:Option Int):bN k G (pQ vs lo hi) (il as lo hi):=by
 delta pQ il
 rw[r.len]
 exact(r.drop _).take _
theorem vM{m:Mi (Option Int)}{f:Option Int->Mi β}{o:Except Str β}{Q:Option Int->Hp->Prop}(y:c.toKx=kx X)(b:Bd c Y H Z τ O)(em:aT m f Z=some (o,B))
  (h1:∀k U V,Bd c Y V U τ O->f k U=some (o,B)->Q k V)
  (h2:∀e,o=.error e->∀C H,X.mg e=some (.ref C)->Bd c Y H B τ O->E (.ref C) none H):Pg (kx X) E m Y H Q:=by
 rcases bind_some em with ⟨x,U,e1,e2⟩|⟨e,e1,e2⟩
 .exact⟨c,Z,τ,O,_,U,y,b,e1,λV b1=>h1 x U V b1 e2⟩
 .exact⟨c,Z,τ,O,_,B,y,b,e1,λC V hm b1=>h2 e e2 C V hm b1⟩
noncomputable def P5(f g:Mg):Mg:=λa Z=>match f a Z with
 |some r=>some r
 |none=>g a Z
def Mh(m:Mi Rr)(G:Mg):Ms:=c7 m λr Z=>match bS r Z with
 |some (a,U)=>match G a U with
  |some Z'=>some (.nx,Z')
  |none=>none
 |none=>none
theorem J2{m:Mi Rr}{G:Mg}(he:JE X E e m)(hg:JG X 0 tg G)(hs:XZ [tg] e pos.line X.env=pure false:=by rfl)(hw:XO [tg] e X.env=pure none:=by rfl)
  (hp:∀{te:TE}{g:TG},PE X e te->PG X tg g->PS X (.Assign [tg] e pos) (rl te g)):JS X E (.Assign [tg] e pos) (Mh m G):=⟨PS.weaken (hp he.p hg.p) λD Y H h=>by
 obtain⟨c,Z,τ,O,f,B,ek,b,em,q⟩:=h;refine dU ek b em q λr v U H1 hv b1 em1=>?_;cases e1:bS r U with
 |none=>rw[e1] at em1;cases em1
 |some p=>
  obtain⟨a,Z'⟩:=p;rw[e1] at em1;have b2:=Bd.bS (xs:=[]) (ss:=[]) rfl b1 hv e1;cases e2:G a Z' with
  |none=>simp only[e2] at em1;cases em1
  | some Z0=>simp only[e2] at em1;cases em1;exact⟨c,Z',τ,_,a,B,ek,b2,e2,λj H' _ _ b3=>q j H' b3⟩⟩
def Hw(i j:Nat)(rs:List Rr)(Z:List Sl):Option (Fl×List Sl):=match dr rs Z with
 |some ([a,b],U)=>match put i (.fr a) U with
  |some Z'=>match put j (.fr b) Z' with
   |some Z0=>some (.nx,Z0)
   |none=>none
  |none=>none
 |_=>none
theorem wg{f:Fl}(h:Hw i j rs Z=some (f,B)):∃a d Z' Z0,dr rs Z=some ([a,d],Z')/\put i (.fr a) Z'=some Z0/\put j (.fr d) Z0=some B/\f=.nx:=by
 delta Hw at h
 cases Y:dr rs Z with
 |none=>rw[Y] at h;cases h
 |some p=>
  rw[Y] at h;obtain⟨as,Z'⟩:=p
  match as,h with
  |[a,d],h=>
   dsimp only at h;cases Q:put i (.fr a) Z' with
   |none=>rw[Q] at h;cases h
   |some Z0=>
    rw[Q] at h;dsimp only at h;cases K:put j (.fr d) Z0 with
    |none=>rw[K] at h;cases h
    |some N=>simp only[K] at h;cases h;exact⟨a,d,Z',Z0,rfl,Q,K,rfl⟩
theorem DW{l:List α}(h:l.length=2):∃a b,l=[a,b]:=match l,h with
 |[a,b],_=>⟨a,b,rfl⟩
def M4(i j:Nat)(m:Mi (List Rr)):Ms:=c7 m (Hw i j)
theorem G4{s:Stmt}{m:Mi (List Rr)}(T:JA X E es m)(k:i≠j)(hp:∀{ta:TA},PA X es ta->PS X s (MB i j ta)):JS X E s (M4 i j m):=⟨PS.weaken (hp T.p) λD Y H h=>by
 obtain⟨c,Z,τ,O,f,B,y,b,em,q⟩:=h;rcases eU em with ⟨rs,U,e1,e2⟩|⟨e,e1,e2⟩
 .refine⟨c,Z,τ,_,_,U,y,b,e1,λvs V A b1=>?_⟩;obtain⟨a,d,Z',Z0,P,N,K,rfl⟩:=wg e2;obtain⟨b2,t⟩:=Bd.dr A b1 P;obtain⟨v,w,rfl⟩:=DW t;refine⟨v,w,rfl,q _ V ?_⟩;have J:Bd c Y V Z' (some w::some v::τ) (.fr d::.fr a::O.map Sl.fr):=by simpa using b2
  obtain⟨L,bl,x⟩:=Bd.kD (vs:=[w,v]) (as:=[d,a]) J rfl;cases x with|cons h1 x=>cases x with|cons h2 _=>
  exact Bd.put (Bd.put (dS.Ky bl h2 h1) rfl N) rfl K
 .subst e2;exact⟨c,Z,τ,_,_,B,y,b,e1,λC V hm b1=>q C Y V hm b1⟩⟩
end
section
variable{X:Cx}{E:XK}{a b:Expr}{ma mb:Mi Rr}{pos:Pos}
theorem Jg(f:JE X E a ma)(d:JE X E b mb):JE X E (.BinOp a .Sub b pos) (aB jW ma mb):=lT Ir IY f d
theorem Ia(f:JE X E a ma)(d:JE X E b mb):JE X E (.BinOp a .FloorDiv b pos) (aB kB ma mb):=lT yt Hk f d
theorem HC(f:JE X E a ma)(d:JE X E b mb):JE X E (.BinOp a .Mod b pos) (aB mW ma mb):=lT CK JO f d
theorem GN(f:JE X E a ma)(d:JE X E b mb):JE X E (.BinOp a .Pow b pos) (aB kF ma mb):=lT GV Hu f d
theorem Kt(g:X.A.units+64<cLine)(f:JE X E a ma)(d:JE X E b mb):JE X E (.Compare a [.Eq] [b] pos) (aB mT ma mb):=fZ (Bk g) os_eq f d (dA _)
theorem M7(g:X.A.units+64<cLine)(f:JE X E a ma)(d:JE X E b mb):JE X E (.Compare a [.NotEq] [b] pos) (aB j6 ma mb):=fZ (Bs g) Fu f d (dA _)
theorem Ks(f:JE X E a ma)(d:JE X E b mb):JE X E (.Compare a [.Lt] [b] pos) (aB mI ma mb):=fZ ir FU f d (dA _)
theorem Ld(f:JE X E a ma)(d:JE X E b mb):JE X E (.Compare a [.Gt] [b] pos) (aB vN ma mb):=fZ ke E4 f d (dA _)
theorem Lz(f:JE X E a ma)(d:JE X E b mb):JE X E (.Compare a [.GtE] [b] pos) (aB ES ma mb):=fZ ER EX f d (dA _)
theorem Kr(f:JE X E a ma)(d:JE X E b mb):JE X E (.Compare a [.Is] [b] pos) (aB (qj false) ma mb):=fZ BK E8 f d (dA _)
theorem CO(f:JE X E a ma)(d:JE X E b mb):JE X E (.Compare a [.IsNot] [b] pos) (aB (qj true) ma mb):=fZ vd u0 f d (dA _)
theorem LX(g:X.A.units+64<cLine)(f:JE X E a ma)(d:JE X E b mb):JT X E (.Compare a [.Eq] [b] pos) (ay (aB mT ma mb)):=fX (Bk g) os_eq f d (dA _)
theorem Lc(g:X.A.units+64<cLine)(f:JE X E a ma)(d:JE X E b mb):JT X E (.Compare a [.NotEq] [b] pos) (ay (aB j6 ma mb)):=fX (Bs g) Fu f d (dA _)
theorem Lg(f:JE X E a ma)(d:JE X E b mb):JT X E (.Compare a [.Lt] [b] pos) (ay (aB mI ma mb)):=fX ir FU f d (dA _)
theorem KU(f:JE X E a ma)(d:JE X E b mb):JT X E (.Compare a [.Gt] [b] pos) (ay (aB vN ma mb)):=fX ke E4 f d (dA _)
theorem Mq(f:JE X E a ma)(d:JE X E b mb):JT X E (.Compare a [.GtE] [b] pos) (ay (aB ES ma mb)):=fX ER EX f d (dA _)
theorem LK(f:JE X E a ma)(d:JE X E b mb):JT X E (.Compare a [.Is] [b] pos) (ay (aB (qj false) ma mb)):=fX BK E8 f d (dA _)
theorem Cq(f:JE X E a ma)(d:JE X E b mb):JT X E (.Compare a [.IsNot] [b] pos) (ay (aB (qj true) ma mb)):=fX vd u0 f d (dA _)
end
noncomputable def BY:Nat:=2^10000
noncomputable def zv(K:Qr):Sp:=λvs H Q _=>∃(p:Addr)(ns:List Int),vs=[.ref p]/\dM K H p (ns.map V.int)/\ns.length<=63/\∀H',Q (.bl true) H'
theorem uH{k:Kx}{G:Hp}:∀(ns:List Int),bN k G (ns.map V.int) (ns.map A.int)
 |[]=>.nil
 |n::ns=>.cons (.int n) (uH ns)
theorem Iy{P:Program}{w:Xz}{K:Qr}{mg:Str->Option Value}{base:Heap}{k:Nat}{f:Addr}{m:Ms}(F:dF P w K mg base CX k f fd ps (iQ ⟨K,mg,P,w⟩ 1 m))
  (h:∀ns:List Int,ns.length<=63->∃Z,m [.fr (.lst (ns.map A.int))]=some (.rt (.fr (.bl true)),Z)):dF P w K mg base CX k f fd ps (zv K):=
 F.imp λvs H Q E q=>by
  obtain⟨p,ns,rfl,hs,hl,q⟩:=q;obtain⟨Z,e⟩:=h ns hl
  let c:Cn:={ K:=K,mg:=mg,P:=P,w:=w,σ0:=[some (.ref p)],H0:=H,Lp:=[],Hd:=[],Wk:=[] }
  refine⟨rfl,c,_,_,Z,rfl,rfl,rfl,⟨.nil,au.cons (.fr (.lst (eY (Sq.of λb o e=>?_) hs) (uH ns))) .nil,λp hp=>(by cases hp),⟨λb o e=>⟨o,e,λ_ _=>rfl⟩,λq l=>(by cases l)⟩,λi o _ _=>rfl,rfl,λq l=>(by cases l)⟩,e,λv H' _ b=>?_⟩
  .rw[bJ (λz=>by cases z) (λz=>by cases z)];exact e
  .have r:=Bd.top b rfl;cases r;exact q H'
def kA(m:Mi Rr):Mi Rr:=aT m λr Z=>match bS r Z with
 |some (a,B)=>some (.ok (.fr a),B)
 |none=>none
theorem ML{E:XK}{m:Mi Rr}(he:JE X E e m):JE X E e (kA m):=⟨PE.weaken he.p λY H Q h=>by
 obtain⟨c,Z,τ,O,o,B,y,b,em,q⟩:=h;refine a9 y b em (λx v U V A b1 D=>?_) (bD q);cases e1:bS x U with
 |none=>rw[e1] at D;cases D
 | some p=>rw[e1] at D;cases D;exact q v V trivial (Bd.bS (xs:=[]) (ss:=[]) rfl b1 A e1)⟩
section
variable{X:Cx}{E:XK}
inductive Ty where|bool|int|str|tuple|list|dict
 deriving DecidableEq
noncomputable def Ty.n:Ty->String
 | .bool=> "bool" | .int=> "int" | .str=> "str" | .tuple=> "tuple" | .list=> "list" | .dict=> "dict"
noncomputable def NU(T:Ty):A->Option Bool
 | .non=>some false
 | .bl _=>some (T=.bool || T=.int)
 | .int _=>some (T=.int)
 | .str _=>some (T=.str)
 | .tup _=>some (T=.tuple)
 | .lst _=>some (T=.list)
 | .dic _=>some (T=.dict)
 |_=>none
def Hm(T:Ty)(a:A):Option Rr:=match NU T a with
 |some k=>some (.fr (.bl k))
 |none=>none
theorem Hq(K:Qr)(T:Ty):RY K (.type "NoneType") (.type T.n)=some false:=by cases T<;>kernel_rfl
theorem C8(K:Qr)(T:Ty):RY K (.type "bool") (.type T.n)=some (T=.bool || T=.int:Bool):=by cases T<;>kernel_rfl
theorem GZ(K:Qr)(T:Ty):RY K (.type "int") (.type T.n)=some (T=.int:Bool):=by cases T<;>kernel_rfl
theorem Ih(K:Qr)(T:Ty):RY K (.type "str") (.type T.n)=some (T=.str:Bool):=by cases T<;>kernel_rfl
theorem GU(K:Qr)(T:Ty):RY K (.type "tuple") (.type T.n)=some (T=.tuple:Bool):=by cases T<;>kernel_rfl
theorem Hs(K:Qr)(T:Ty):RY K (.type "list") (.type T.n)=some (T=.list:Bool):=by cases T<;>kernel_rfl
theorem Gk(K:Qr)(T:Ty):RY K (.type "dict") (.type T.n)=some (T=.dict:Bool):=by cases T<;>kernel_rfl
theorem Hb(T:Ty):sx K (λv H Q=>∃x c t b,[v,V.ty T.n]=[x,c]/\HH K.K H x t/\BP c=true/\RY K.K t (Gv c)=some b/\Q (.bl b) H) (Hm T):=.scalar λH v a q g h=>by
 cases a<;>first|exact cy h|skip
 .cases g;cases h;exact⟨_,_,rfl,λ_=>.bl _,λQ k=>⟨_,_,_,_,rfl,.of .non,rfl,Hq _ T,k⟩⟩
 .cases g;cases h;exact⟨_,_,rfl,λ_=>.bl _,λQ k=>⟨_,_,_,_,rfl,.of (.bl _),rfl,C8 _ T,k⟩⟩
 .cases g;cases h;exact⟨_,_,rfl,λ_=>.bl _,λQ k=>⟨_,_,_,_,rfl,.of (.int _),rfl,GZ _ T,k⟩⟩
 .cases g;cases h;exact⟨_,_,rfl,λ_=>.bl _,λQ k=>⟨_,_,_,_,rfl,.of (.str _),rfl,Ih _ T,k⟩⟩
 .cases g with
  |tup e r=>cases h;exact⟨_,_,rfl,λ_=>.bl _,λQ k=>⟨_,_,_,_,rfl,.tup e,rfl,GU _ T,k⟩⟩
 .cases g with
  |lst e r=>cases h;exact⟨_,_,rfl,λ_=>.bl _,λQ k=>⟨_,_,_,_,rfl,.lst e,rfl,Hs _ T,k⟩⟩
 .cases g with
  |dic e r=>cases h;exact⟨_,_,rfl,λ_=>.bl _,λQ k=>⟨_,_,_,_,rfl,.dic e,rfl,Gk _ T,k⟩⟩
theorem JK{x y:Str}{p p2:Pos}{m:Mi Rr}(T:Ty)(hg:Gl X x)(hm:X.mg x=none)(hv:Xq x=some (.builtin "isinstance"))(hg2:Gl X y)(hm2:X.mg y=none)(hv2:Xq y=some (.type T.n))(ha:JE X E e m)(hn:x ≠ "__name__")
  (hdb:fg x)(hn2:y ≠ "__name__")(hdb2:fg y)(hs:Xo [e,.Name y p2] X.env=(false,eval e X.env)::Xo [.Name y p2] X.env:=by rfl)(hs2:Xo [.Name y p2] X.env=(false,eval (.Name y p2) X.env)::Xo [] X.env:=by rfl)(hp:(Xw pos (Xo [.Name y p2] X.env)).any (·.1)=false:=by rfl):JE X E (.Call (.Name x p) [e,.Name y p2] [] pos) (dg (Hm T) m):=
 ⟨PE.weaken (je zS hg hm hv (aU ha.p (aU (CJ hg2 hm2 hv2 (v:=.ty T.n) rfl hn2 hdb2) bY hs2) hs) hn hdb hs hp) λY H Q h=>jg (Hb T) Y H Q h⟩
end
section
variable{X:Cx}{E:XK}
theorem Bd.LI{v:V}{a b:A}(e:xs.length=ss.length)(q:Bd c Y H Z (xs++(some v::some w::τ)) (ss++(.fr a::.fr b::O))):∃L,dS c Y H Z (xs++(some v::some w::τ)) (ss++(.fr a::.fr b::O)) L/\RA c.toKx (c.g H L) v a/\RA c.toKx (c.g H L) w b:=by
 obtain⟨L,q⟩:=q;have r:au c.toKx (c.g H L) H (xs++(some v::some w::(τ++Y))) (ss++(.fr a::.fr b::(O++Z))) L:=by have:=q.rel;simpa[Qw] using this
 obtain⟨u,L2,e1,t,l⟩:=au.split e r;cases l with
 |cons h T=>
  cases T with
  |cons h2 I=>
   cases h with
   |fr h=>
    cases h2 with
    |fr h2=>exact⟨L,q,h,h2⟩
noncomputable def rj(as bs:List A):List A:=(as.zip bs).map λp=>.tup [p.1,p.2]
end
section
variable{X:Cx}{E:XK}
def A0(K:Qr):R2:=λx y H Q=>∃a b xs ys,x=.ref a/\y=.ref b/\dM K H a xs/\dM K H b ys/\xs.length+ys.length<=sizeLine/\∀p,H p=none->Q (.ref p) (upd H p (.lst (xs++ys)))
theorem zA:iC X (XU .Add) (A0 X.K):=by
 intro pins s Y H x y v u Q I o z h;obtain⟨a,b,xs,ys,rfl,rfl,f,d,hz,q⟩:=h;cases o;cases z;obtain⟨j,g,C,_⟩:=I.list f;obtain⟨B,l,T,_⟩:=I.list d;obtain⟨⟨L,k,S,E⟩,U,e1,O,Z,i⟩:=id C;obtain⟨⟨J,P,R,t⟩,m,e2,c,e,w⟩:=id T;subst O i c w Z e;have G:=g.length;have D:=l.length;refine concat_meets ⟨_,e1,rfl⟩ ⟨_,e2,rfl⟩ noFill_list_add seq_list_add PySem.F.slot_list_add PySem.F.entry_list_add (PySem.F.args_list_add_2 _ _) (WY a b _ _ U m _ _ E t (by simp only[Qy,Qy];lia)) ⟨e1,e2,?_⟩;have r:j.toArray++B.toArray=(j++B).toArray:=by simp
 rw[r];exact⟨.ref _,_,I.Ja (g.append l) (by rw[QO];lia),rfl,q _ I.fresh⟩
noncomputable def AE:A->A->Option Rr
 | .lst xs,.lst ys=>if xs.length+ys.length<=100000 then some (.nw (.lst (xs++ys))) else none
 |_,_=>none
theorem Cw:iT K (A0 K.K) AE:=by
 intro c Y H Z τ O x y v w a b q Q e A n bd e1 e2 N k;cases a<;>first|exact cy N|(cases b<;>first|exact cy N|skip)
 rename_i xs ys
 delta AE at N
 simp only at N;split at N
 .rename_i hc;cases N;obtain⟨L,bl,s,I⟩:=Bd.AQ bd A n e1 e2;obtain⟨C,B,rfl,s1,g⟩:=s.1 xs rfl;obtain⟨T,i,rfl,s2,l⟩:=I.1 ys rfl;have h:=g.len;have t:=l.len;subst e;exact⟨C,T,B,i,rfl,rfl,s1,s2,by have:=nV;lia,λp hp=>k _ _ trivial (bl.kn hp λG H' sm q=>.lst q ((g.app l).sm sm))⟩
 .cases N
end
end M
set_option maxHeartbeats 4000000
set_option maxHeartbeats 1000000
namespace M
open PySem L2
variable{s:Sl}{cn:Str}{r:Rr}
section
variable{c:Cn}{Y:St}{H:Hp}{Z:List Sl}{τ:St}{O:List Sl}
theorem eH.FD{k:Kx}{G:Hp}{x:Option V}{L:List Addr}{fs:List (Str×A)}(h:eH k G H x s L)(sm:Sq G H)(e:s.a=some (.obj cn fs)):∃p C dx vs,x=some (.ref p)/\H p=some (.ins C dx vs)/\k.mg cn=some (.ref C)/\gJ k G vs fs:=by
 have lo:∀p o q,LR k G H p o q->o.rd=some (A.obj cn fs)->∃C dx vs,H p=some (.ins C dx vs)/\k.mg cn=some (.ref C)/\gJ k G vs fs:=λp o q h z=>by
  cases h with
  |nob=>cases z
  |lst=>cases z
  |dic=>cases z
  |dit=>cases z
  |obj e m r=>cases z;exact⟨_,_,_,e,m,r⟩
 cases h with
 |un=>cases e
 |cf h=>cases e;cases h with|obj e m r=>exact⟨_,_,_,_,rfl,sm.keep e rfl,m,r⟩
 |fr h=>cases e;cases h with|obj e m r=>exact⟨_,_,_,_,rfl,sm.keep e rfl,m,r⟩
 |lv h=>obtain⟨C,dx,vs,h1,h2,h3⟩:=lo _ _ _ h e;exact⟨_,C,dx,vs,rfl,h1,h2,h3⟩
 |pv h=>obtain⟨C,dx,vs,h1,h2,h3⟩:=lo _ _ _ h e;exact⟨_,C,dx,vs,rfl,h1,h2,h3⟩
theorem Bd.Ff{v:V}{fs:List (Str×A)}(b:Bd c Y H Z (cL r v τ) (cN r O))(w:VR Y r v)(e:res Z r=some (.obj cn fs)):∃L p C dx vs,dS c Y H Z τ O L/\v=.ref p/\H p=some (.ins C dx vs)/\c.mg cn=some (.ref C)/\gJ c.toKx (c.g H L) vs fs:=by
 obtain⟨q,b⟩:=b;have y:∀s,dS c Y H Z (some v::τ) (s::O) q->s.a=some (.obj cn fs)->∃L p C dx vs,dS c Y H Z τ O L/\v=.ref p/\H p=some (.ins C dx vs)/\c.mg cn=some (.ref C)/\gJ c.toKx (c.g H L) vs fs:=by
  intro s b E;obtain⟨nd,rel,own,fr,kp,lt,X⟩:=b;have rel:au c.toKx (c.g H q) H (some v::(τ++Y)) (s::(O++Z)) q:=rel;cases rel with
  |cons h r=>rename_i u L2;have sm:Sq (c.g H (u++L2)) (c.g H L2):=dE λa f=>Qs _ f;obtain⟨p,C,dx,vs,h1,h2,h3,h4⟩:=(h.sm sm (λ_ _ _ e=>e)).FD (g_same _ _ _) E;exact⟨L2,p,C,dx,vs,⟨(QE.mp nd).2.1,r.sm sm (λ_ _ _ e=>e),λp hp=>own p (Qs _ hp),fr,kp,by simpa using lt,X⟩,QW h1,h2,h3,h4⟩
 cases r with
 |rf i=>
  unfold res at e;cases es:Z[i]? with
  |none=>simp only[es] at e;cases e
  |some s=>simp only[es] at e;obtain⟨u,L2,e1,t,l⟩:=au.split b.lt b.rel;obtain⟨x,_,_,_,hx,hs,_⟩:=l.at es;have w:Y[i]?=some (some v):=w;rw[w] at hx;obtain⟨p,C,dx,vs,h1,h2,h3,h4⟩:=hs.FD (g_same _ _ _) e;rw[<-QW hx] at h1;exact⟨q,p,C,dx,vs,b,QW h1,h2,h3,h4⟩
 |fr a'=>exact y _ b e
 |nw o=>exact y _ b e
theorem Bd.PZ{x:Option V}{ys:St}{ss:List Sl}(e:ys.length=ss.length)(b:Bd c Y H Z (x::(ys++τ)) (s::(ss++O))):Bd c Y H Z (ys++x::τ) (ss++s::O):=by
 obtain⟨L,b⟩:=b;have r:au c.toKx (c.g H L) H (x::(ys++(τ++Y))) (s::(ss++(O++Z))) L:=by have:=b.rel;simpa[Qw] using this
 cases r with
 |cons h r=>
  rename_i u L2;obtain⟨B,q,e1,t,l⟩:=au.split e r;subst e1;have pm:(u++(B++q)).Perm (B++(u++q)):=by rw[<-Qw,<-Qw];exact S1.append_right q
  refine⟨B++(u++q),(pm.nodup_iff).mp b.nd,?_,λp hp=>b.own p (pm.mem_iff.mpr hp),b.fr,b.kp,by have:=b.lt;simp[e] at this ⊢;lia,b.hd⟩;have J:c.g H (B++(u++q))=c.g H (u++(B++q)):=Cd λa=>pm.mem_iff.symm;rw[J];have:=t.app (au.cons h l);simpa[Qw] using this
end
variable{K:Kx}{cs:List Str}{e:Expr}{pos:Pos}{Z B:List Sl}{o:Except Str Rr}{mn:Str}{mo:Mi Rr}{ma:Mi (List Rr)}{C:Addr}
section
variable{X:Cx}{E:XK}
def aq(cs:List Str)(f:Str):A->Option Rr
 | .obj c fs=>if cs.contains c then (match fs.lookup f with
  |some a=>some (.fr a)
  | none=>none) else none
 |_=>none
def EW(K:Qr)(f:Str):V->Hp->VK->Prop:=λx L Q=>∃a C dx fs v,x=.ref a/\L a=some (.ins C dx fs)/\gy K C/\bU K C f/\fs.lookup f=some v/\Q v L
theorem CM{f:Str}(hc:∀c C,cs.contains c=true->K.mg c=some (.ref C)->gy K.K C/\bU K.K C f):sx K (EW K.K f) (aq cs f):=by
 intro c Y H Z τ O x v a q Q y A bd e1 N k;cases a<;>first|(exact cy N)|skip
 rename_i cn fs;unfold aq at N;simp only at N;split at N
 .rename_i b;cases T:fs.lookup f with
  |none=>simp only[T] at N;cases N
  |some w=>
   simp only[T] at N;cases N;obtain⟨L,p,C,dx,vs,bl,rfl,h2,h3,h4⟩:=Bd.Ff bd A e1;subst y;obtain⟨i,J⟩:=hc cn C b h3;rcases h4.get f with ⟨u,a,g,V,l⟩|⟨_,V⟩
   .rw[T] at V;cases V;exact⟨p,C,dx,vs,u,rfl,h2,i,J,g,k u H trivial (bl.push l)⟩
   .rw[T] at V;cases V
 .cases N
theorem uX{m:Mi Rr}{f:Str}(hc:∀c C,cs.contains c=true->X.mg c=some (.ref C)->gy X.K C/\bU X.K C f)(he:JE X E e m)(d:Xr e f X.env (eval e X.env)=eval e X.env):JE X E (.Attribute e f pos) (aK (aq cs f) m):=
 ⟨PE.weaken (eZ he.p d) λY H Q h=>jg (r:=EW X.K f) (CM hc) Y H Q h⟩
def Pe(cs:List Str)(i:Nat)(f:Str)(m:Mi Rr):Ms:=c7 m λr Z=>match bS r Z with
 |some (a,U)=>match az U i with
  |some (.obj c fs)=>if cs.contains c&&R8 fs.length 900 then some (.nx,setAt U i (.obj c (kg f a fs))) else none
  |_=>none
 |none=>none
def bM(cn m:Str)(mo:Mi Rr):Mi Rr:=aT mo λr Z=>match res Z r with
 |some (.obj c fs)=>if c==cn&&(fs.lookup m).isNone then some (.ok r,Z) else none
 |_=>none
theorem nJ{m:Str}{r':Rr}(h:(match res Z r with|some (.obj c fs)=>if c==cn&&(fs.lookup m).isNone then some ((.ok r:Except Str Rr),Z) else none|_=>none)=some (o,B)):∃fs,res Z r=some (.obj cn fs)/\fs.lookup m=none/\o=.ok r/\B=Z:=by
 split at h
 .rename_i c fs e;split at h
  .rename_i hc;rw[Qq,Y3,Rv] at hc;cases h;exact⟨fs,by rw[e,hc.1],hc.2,rfl,rfl⟩
  .cases h
 .cases h
inductive HJ(cn mn:Str)(mo:Mi Rr)(ma:Mi (List Rr))(Z:List Sl)(x:Except Str (List Rr))(U:List Sl):Prop
 |ok{r:Rr}{rs:List Rr}{Z':List Sl}{fs:List (Str×A)}(e:mo Z=some (.ok r,Z'))(g:res Z' r=some (.obj cn fs))(l:fs.lookup mn=none)(a:ma Z'=some (.ok rs,U))(q:x=.ok (r::rs))
 |err{y:Str}(e:mo Z=some (.error y,U))(q:x=.error y)
 |bad{r:Rr}{Z':List Sl}{fs:List (Str×A)}{y:Str}(e:mo Z=some (.ok r,Z'))(g:res Z' r=some (.obj cn fs))(l:fs.lookup mn=none)(a:ma Z'=some (.error y,U))(q:x=.error y)
theorem qH{U:List Sl}{x:Except Str (List Rr)}(h:c9 (bM cn mn mo) ma Z=some (x,U)):HJ cn mn mo ma Z x U:=by
 rcases bind_some h with ⟨r,Z',Q,K⟩|⟨y,Q,K⟩
 .rcases bind_some Q with ⟨n,Z0,H,e⟩|⟨_,_,e⟩
  .obtain⟨fs,g,V,l,a⟩:=nJ (r':=n) e;cases l;subst a;rcases bind_some K with ⟨rs,N,Y,b⟩|⟨y,Y,b⟩
   .cases b;exact .ok H g V Y rfl
   .exact .bad H g V Y b
  .cases e
 .rcases bind_some Q with ⟨n,Z0,H,e⟩|⟨z,H,e⟩
  .obtain⟨fs,g,V,l,a⟩:=nJ (r':=n) e;cases l
  .cases e;exact .err H K
theorem nh{m:Ms}{n:Nat}{I:List A}{dvs:List V}(hd:∀G,bN (kx X) G dvs I)(T:X.mg cn=some (.ref C))(hn:∀Z rs B,ma Z=some (.ok rs,B)->rs.length+1+I.length=n)(Y:St)(H:Hp)(Q:VK)(h:kj (kx X) E (a7 m I (c9 (bM cn mn mo) ma)) Y H Q):
  uR C mn (iQ (kx X) n m) dvs E (kj (kx X) E mo) (Mf (kx X) E ma) Y H Q:=by
 obtain⟨c,Z,τ,O,o,B,y,b,em,q⟩:=h;have P:∀{r:Rr}{Z':List Sl}{fs:List (Str×A)}{v:V}{g:Hp},res Z' r=some (.obj cn fs)->fs.lookup mn=none->VR Y r v->Bd c Y g Z' (cL r v τ) (cN r O)->∃p dx vs,v=.ref p/\g p=some (.ins C dx vs)/\vs.lookup mn=none:=λa F w b1=>by
  obtain⟨L,p,R,dx,vs,bl,rfl,h2,h3,h4⟩:=Bd.Ff b1 w a;have i:X.mg cn=some (.ref R):=by have:=Y2 (λk:Kx=>k.mg cn) y;simp only at this;rw[<-this];exact h3
  rw[T] at i;cases i;refine⟨p,dx,vs,rfl,h2,?_⟩;rcases h4.get mn with ⟨_,_,_,z,_⟩|⟨z,_⟩
  .rw[F] at z;cases z
  .exact z
 have fin:∀e,o=.error e->∀C H,X.mg e=some (.ref C)->Bd c Y H B τ O->E (.ref C) none H:=bD q;rcases bind_some em with ⟨rs,U,e1,e2⟩|⟨e,e1,e2⟩
 .cases qH e1 with
  |@ok r rs' Z' fs S a F s eq=>cases eq;refine⟨c,Z,τ,O,_,_,y,b,S,λv g w b1=>?_⟩;obtain⟨p,dx,vs,rfl,h2,hl⟩:=P a F w b1;refine⟨p,dx,vs,rfl,h2,hl,c,_,_,_,_,_,y,b1,s,λws t j b2=>?_⟩;refine jL (rs:=r::rs') (vs:=.ref p::ws) hd y ?_ ⟨w,j⟩ b2 e2 (λr K v H' w b=>by subst K;exact q v H' w b) (λx hx=>by subst hx;exact q);simp only[Sv,QF,QO,<-j.len,<-hn _ _ _ s,(hd λ_=>none).len];lia
  |err _ eq=>cases eq
  |bad _ _ _ _ eq=>cases eq
 .cases qH e1 with
  |ok _ _ _ _ eq=>cases eq
  |err S eq=>cases eq;exact⟨c,Z,τ,O,_,_,y,b,S,λC g hm b1=>fin _ e2 C g hm b1⟩
  |bad S a F s eq=>cases eq;refine⟨c,Z,τ,O,_,_,y,b,S,λv g w b1=>?_⟩;obtain⟨p,dx,vs,rfl,h2,hl⟩:=P a F w b1;exact⟨p,dx,vs,rfl,h2,hl,c,_,_,_,_,_,y,b1,s,λC t hm b2=>fin _ e2 C t hm b2.drop⟩
end
variable{apos:Pos}
theorem ig{o:Expr}{m:Str}{args:List Expr}{env:Env}(H:Xr o m env (eval o env)=eval o env)
  (b:XY (args.length+([]:List XB).length) (Xw pos (Xo args env)) (XD pos (Xy [] env))=true)(Y:(apos.endLine==pos.line)=true):
  eval (.Call (.Attribute o m apos) args [] pos) env=(do
   let ov <- eval o env
   Yb apos.atName
   let (f,first) <- holding [ov] (Yk ov m (do return (<- importBound o env).getD true))
   YF pos f first (Xw pos (Xo args env)) (XD pos (Xy [] env))):=by
 rw[arm_eval_Call,H]
 delta methodCall calleeOf methodCallPos
 rw[b,Y];rfl
variable{H:Hp}
section
variable{X:Cx}{E:XK}{CX:qk}{k n:Nat}{f C:Addr}{fd:XC}{ps:List Str}{m:Ms}{I:List A}{dvs:List V}{ds:List Value}{cn mn:Str}{apos pos:Pos}{o e:Expr}{es:List Expr}{mo:Mi Rr}{ma:Mi (List Rr)}
theorem Dy(T:X.mg cn=some (.ref C))(hc:gy X.K C)(hm:Meth X.K C mn f)(F:dF X.prog X.w X.K X.mg X.base CX k f fd ps (iQ (kx X) n m))(S:cZ k X.A)(d:Binds X.K fd ps ds)(hd:Vals dvs ds)(O:∀G,bN (kx X) G dvs I)(hx:Passes CX X E)
  (ho:JE X E o mo)(c:JA X E (e::es) ma)(hn:∀Z rs B,ma Z=some (.ok rs,B)->rs.length+1+I.length=n)(H:Xr o mn X.env (eval o X.env)=eval o X.env)
  (b:XY ((e::es).length+([]:List XB).length) (Xw pos (Xo (e::es) X.env)) (XD pos (Xy [] X.env))=true)(Y:(apos.endLine==pos.line)=true)
  (x:Xo (e::es) X.env=(false,eval e X.env)::Xo es X.env)(Q:(Xw pos (Xo es X.env)).any (·.1)=false):JE X E (.Call (.Attribute o mn apos) (e::es) [] pos) (a7 m I (c9 (bM cn mn mo) ma)):=
 ⟨PE.weaken (vC ho.p hc hm F S d hd hx c.p x Q (ig H b Y)) (nh O T hn)⟩
theorem kj.mono{E:XK}{m:Mi Rr}{Y:St}{Q a:VK}(h:kj K E m Y H Q)(f:∀v H,Q v H->a v H):kj K E m Y H a:=by
 obtain⟨c,Z,τ,O,o,B,y,b,em,q⟩:=h;refine⟨c,Z,τ,O,o,B,y,b,em,?_⟩;cases o with
 |ok r=>exact λv H' A S=>f _ _ (q v H' A S)
 |error x=>exact q
theorem yb(T:X.mg cn=some (.ref C))(hc:gy X.K C)(hm:Meth X.K C mn f)(F:dF X.prog X.w X.K X.mg X.base CX k f fd ps (iQ (kx X) n m))(S:cZ k X.A)(d:Binds X.K fd ps ds)(hd:Vals dvs ds)(r:∀G,bN (kx X) G dvs I)(hx:Passes CX X E)
  (ho:JE X E o mo)(hn:1+I.length=n)(x:Xr o mn X.env (eval o X.env)=eval o X.env)(U:(apos.endLine==pos.line)=true):JE X E (.Call (.Attribute o mn apos) [] [] pos) (a7 m I (c9 (bM cn mn mo) pV)):=
 ⟨PE.weaken (qw ho.p hc hm F S d hd hx (ig x rfl U)) λY H Q h=>by
  have h1:=nh (n:=n) r T (λZ rs B q=>by cases q;rw[<-hn];rfl) Y H Q h;refine kj.mono h1 λv V ⟨a,dx,fs,g,e,l,i⟩=>⟨a,dx,fs,g,e,l,?_⟩
  obtain⟨c,Z,τ,O,o,B,y,b,em,q⟩:=i;cases em;exact q [] V trivial b⟩
def m9(cn:Str)(f:Ms)(I:List A)(ma:Mi (List Rr)):Mi Rr:=aT ma λrs Z=>match cq (rs++I.map Rr.fr) Z with
 |some (as,T)=>match f (.pv (.obj cn [])::as.map qf) with
  |some (.rt (.fr .non),.pv o2::Y)=>match putL Z (rs++I.map Rr.fr) (ax as.length Y) T with
   |some B=>some (.ok (.nw o2),B)
   |none=>none
  |some (.ex x,s::Y)=>match putL Z (rs++I.map Rr.fr) (ax as.length Y) T with
   |some B=>some (.error x,B)
   |none=>none
  |_=>none
 |none=>none
theorem xB(n:Nat)(s:Sl)(Z:List Sl):∃t,ax (n+1) (s::Z)=t::ax n Z:=by cases s<;>exact⟨_,rfl⟩
inductive GI(cn:Str)(f:Ms)(rs':List Rr)(Z:List Sl)(o:Except Str Rr)(B:List Sl):Prop
 |ok{as T Y:List Sl}{o2:LO}(t:cq rs' Z=some (as,T))(e:f (.pv (.obj cn [])::as.map qf)=some (.rt (.fr .non),.pv o2::Y))(p:putL Z rs' (ax as.length Y) T=some B)(q:o=.ok (.nw o2))
 |err{as T Y:List Sl}{s:Sl}{x:Str}(t:cq rs' Z=some (as,T))(e:f (.pv (.obj cn [])::as.map qf)=some (.ex x,s::Y))(p:putL Z rs' (ax as.length Y) T=some B)(q:o=.error x)
theorem zU{f:Ms}{rs':List Rr}{o:Except Str Rr} (h:(match cq rs' Z with
 |some (as,T)=>match f (.pv (.obj cn [])::as.map qf) with
  |some (.rt (.fr .non),.pv o2::Y)=>match putL Z rs' (ax as.length Y) T with
   |some B=>some (.ok (.nw o2),B)
   |none=>none
  |some (.ex x,s::Y)=>match putL Z rs' (ax as.length Y) T with
   |some B=>some (.error x,B)
   |none=>none
  |_=>none
 | none=>none:Option (Except Str Rr×List Sl))=some (o,B)):GI cn f rs' Z o B:=by
 cases t:cq rs' Z with
 |none=>rw[t] at h;exact cy h
 |some pr=>
  obtain⟨as,T⟩:=pr;rw[t] at h;dsimp only at h;cases e:f (.pv (.obj cn [])::as.map qf) with
  |none=>rw[e] at h;exact cy h
  |some pr=>
   obtain⟨fl,U⟩:=pr;rw[e] at h;cases fl with
   |rt s=>cases s with
    |fr a=>cases a with
     |non=>cases U with
      |nil=>exact cy h
      |cons s Y=>cases s with
       |pv o2=>
        dsimp only at h;split at h
        .rename_i p;cases h;exact .ok t e p rfl
        .exact cy h
       |_=>exact cy h
     |_=>exact cy h
    |_=>exact cy h
   |ex x=>cases U with
    |nil=>exact cy h
    |cons s Y=>
     dsimp only at h;split at h
     .rename_i p;cases h;exact .err t e p rfl
     .exact cy h
   |_=>exact cy h
theorem xf(r:∀G,bN (kx X) G dvs I)(l:X.mg cn=some (.ref C))(hn:∀Z rs B,ma Z=some (.ok rs,B)->rs.length+1+I.length=n)(Y:St)(H:Hp)(Q:VK)(h:kj (kx X) E (m9 cn m I ma) Y H Q):
  EI C (iQ (kx X) n m) dvs E (Mf (kx X) E ma) Y H Q:=by
 obtain⟨c,Z,τ,O,o,B,y,b,em,q⟩:=h;rcases bind_some em with ⟨rs,U,e1,em⟩|⟨e,e1,e2⟩
 .refine⟨c,Z,τ,O,_,U,y,b,e1,λvs g A b1 x dx hx w K=>?_⟩;have ld:=(r λ_=>none).len.symm;refine⟨by simp only[QF,QO,<-A.len,<-hn _ _ _ e1,ld];lia,?_⟩;have i:=A.app (mJ.kD ld);have j:c.mg cn=some (.ref C):=by have:=Y2 (λk:Kx=>k.mg cn) y;simp only at this;rw[this];exact l
  have kp:eQ c.σ0 Y U:=by obtain⟨L,b⟩:=b1;exact b.kp
  have pre:∀{as T:List Sl},cq (rs++I.map Rr.fr) U=some (as,T)->(vs++dvs).length=as.length/\Bd c Y (upd (upd g dx (.own x)) x (.ins C dx [])) T ((V.ref x::(vs++dvs)).reverse.map some++τ) ((Sl.lv (.obj cn [])::as).reverse++O):=λ{as T} e2=>by obtain⟨b3,N⟩:=Bd.cq i (by simp only[lP _ _ _ A.len,j5];exact Bd.tP (by rw[y];exact r) b1:Bd c Y g U (dq (rs++I.map Rr.fr) (vs++dvs) τ) (dj (rs++I.map Rr.fr) O)) e2;obtain⟨L,b5⟩:=b3.new (o:=.own x) w;have b6:=b5.kn (u:=.ins C dx []) (by rw[aj K.symm];exact hx) λG H' sm q=>.obj q j .nil;have b7:=Bd.PZ (by simp only[Qt,List.length_reverse];exact N) b6;exact⟨N,by simpa[Qw] using b7⟩
  cases zU em with
  |ok t p s eq=>obtain⟨N,P⟩:=pre t;obtain⟨R,J,D,S,f,d⟩:=Bd.enter (by simp only[QF,QF,N]) P;refine⟨R,_,_,_,J.trans y,D,S,f,p,λv H' hs F=>?_⟩;have rv:=Bd.top F rfl;cases rv;refine⟨rfl,?_⟩;have a:=d H' _ _ _ (λs' hs' o z=>by rw[QR.mp hs'] at z;exact hs o z) (cJ _ _) F;simp only[QF,N] at a;simp only[eq] at q;exact q (.ref x) H' trivial (Bd.tY (xs:=[some .non]) (ss:=[.fr .non]) rfl (Bd.putL kp i (by simpa[ax,yR,Qw] using a) s))
  |err t p s eq=>obtain⟨N,P⟩:=pre t;obtain⟨R,J,D,S,f,d⟩:=Bd.enter (by simp only[QF,QF,N]) P;refine⟨R,_,_,_,J.trans y,D,S,f,p,λC' H' hm F=>?_⟩;have a:=d H' _ _ _ (λs' hs'=>by cases hs') (cJ _ _) F;simp only[QF,N] at a;obtain⟨t,ht⟩:=xB _ _ _;rw[ht] at a;simp only[eq] at q;exact q C' H' hm (Bd.putL kp i (by simpa[Qw] using a) s).pop
 .subst e2;exact⟨c,Z,τ,O,_,B,y,b,e1,λC g hm b1=>q C g hm b1⟩
theorem Dz{x:Str}{p:Pos}(l:Mk X.K C f)(F:dF X.prog X.w X.K X.mg X.base CX k f fd ps (iQ (kx X) n m))(S:cZ (k+1) X.A)(J:Gl X x)(T:X.mg x=some (.ref C))(d:Binds X.K fd ps ds)(hd:Vals dvs ds)(r:∀G,bN (kx X) G dvs I)(hx:Passes CX X E)
  (c:JA X E (e::es) ma)(hn:∀Z rs B,ma Z=some (.ok rs,B)->rs.length+1+I.length=n)(H:fg x)(he:Xo (e::es) X.env=(false,eval e X.env)::Xo es X.env)(Q:(Xw pos (Xo es X.env)).any (·.1)=false):
  JE X E (.Call (.Name x p) (e::es) [] pos) (m9 x m I ma):=
 ⟨PE.weaken (Df l F S J T d hd hx c.p H he Q) (xf r T hn)⟩
noncomputable def aQ(m n:Mi Rr):Mi Rr:=λZ=>match m Z with
 |some x=>some x
 |none=>n Z
theorem oX{m n:Mi Rr}(h:JE X E e m)(h':JE X E e n):JE X E e (aQ m n):=⟨λpins s Y H Q I t=>by
 obtain⟨c,Z,τ,O,o,B,y,b,em,q⟩:=t;unfold aQ at em;cases e1:m Z with
 |some x=>simp only[e1] at em;cases em;exact h.p pins s Y H Q I ⟨c,Z,τ,O,o,B,y,b,e1,q⟩
 | none=>rw[e1] at em;exact h'.p pins s Y H Q I ⟨c,Z,τ,O,o,B,y,b,em,q⟩⟩
end
noncomputable def gS:List A->Option (List Bool)
 |[]=>some []
 | .bl b::r=>match gS r with
  |some bs=>some (b::bs)
  |none=>none
 |_=>none
theorem nM:∀{xs:List A}{bs:List Bool},gS xs=some bs->xs=bs.map A.bl
 |[],bs,h=>by cases h;rfl
 |a::r,bs,h=>by
  cases a<;>first|(exact cy h)|skip
  unfold gS at h;cases e:gS r with
  |none=>simp only[e] at h;cases h
  |some cs=>rw[e] at h;cases h;rw[nM e];rfl
def kf(g:List Bool->Bool):A->Option Rr
 | .lst xs=>match gS xs with
  |some bs=>some (.fr (.bl (g bs)))
  |none=>none
 |_=>none
theorem qr{K:Kx}{G:Hp}:∀{bs:List Bool}{vs:List V},bN K G vs (bs.map A.bl)->vs=bs.map V.bl
 |[],vs,h=>by cases h;rfl
 |b::bs,vs,h=>by
  cases h with
  |cons h1 h2=>cases h1;rw[qr h2];rfl
theorem HE{g:List Bool->Bool}:sx K (λv=>Ku K.K g [v]) (kf g):=.scalar λH v a q t h=>by
 cases a<;>first|(exact cy h)|skip
 rename_i xs;unfold kf at h;simp only at h;cases e:gS xs with
 |none=>simp only[e] at h;cases h
 |some bs=>
  rw[e] at h;cases h;have:=nM e;subst this;cases t with
  |lst I n=>exact⟨_,_,rfl,λ_=>.bl _,λQ k=>⟨_,_,bs,rfl,I,qr n,k⟩⟩
section
variable{X:Cx}{E:XK}{a b:Expr}{ma mb:Mi Rr}{pos:Pos}
theorem zY:Xq "any" = some (.builtin "any"):=by decide +kernel
end
def Lq(G G':Hp):Prop:=∀a u,G a=some u->(∀ws,u≠.lst ws)->G' a=some u
section
variable{k:Kx}{G G' H:Hp}(s:Lq G G')
theorem au.pick:∀{Y:St}{Z:List Sl}{L:List Addr}{j:Nat}{t:Sl},au k G H Y Z L->Z[j]?=some t->∃x D b L2,Y[j]?=some x/\L=D++(b++L2)/\eH k G H x t b /\
  ∀{G':Hp}{t':Sl}{L':List Addr},(∀{x:Option V}{t:Sl}{L:List Addr},t∈Z->eH k G H x t L->eH k G' H x t L)->eH k G' H x t' L'->au k G' H Y (Z.set j t') (D++(L'++L2))
 |_,_,_,j,t,.nil,e=>by simp at e
 |x::Y,u::Z,_,0,t,.cons (L:=La) (L':=Lb) h r,e=>by
  cases e;refine⟨x,[],La,Lb,rfl,rfl,h,λ{G2 w q} f h'=>?_⟩;rw[Uc];have:∀{Y:St}{B:List Sl}{L:List Addr},(∀t∈B,t∈u::Z)->au k G H Y B L->au k G2 H Y B L:=by
   intro Y B L hm r;induction r with
   |nil=>exact .nil
   |cons h r O=>exact .cons (f (hm _ QH) h) (O λt l=>hm t (Qz _ l))
  exact .cons h' (this (λt l=>Qz _ l) r)
 |x::Y,u::Z,_,j+1,t,.cons (L:=La) (L':=Lb) h r,e=>by obtain⟨y,D,b,L2,h1,h2,h3,h4⟩:=au.pick r (j:=j) (by simpa using e);refine⟨y,La++D,b,L2,by simpa using h1,by rw[h2,Qw],h3,λf h'=>?_⟩;have:=h4 (λm=>f (Qz _ m)) h';rw[Qw];exact .cons (f QH h) this
end
noncomputable def AY:Option Sl->Bool
 |some .un=>true
 |_=>false
theorem ur{o:Option Sl}(h:AY o=true):o=some .un:=by
 cases o with
 |none=>cases h
 |some s=>cases s<;>first|rfl|cases h
theorem gD:∀{n j:Nat}{Z:List Sl}{o:LO},ax n ((ax n Z).set j (.pv o))=(ax n Z).set j (.pv o)
 |0,_,_,_=>rfl
 |n+1,0,Z,o=>by
  have:∀Z:List Sl,ax n (ax n Z)=ax n Z:=λZ=>backL_idem n Z;cases Z with
  |nil=>show ax (n+1) (.pv o::ax n [])=.pv o::ax n [];simp only[ax,this]
  |cons s Z=>cases s<;>(show ax (n+1) (.pv o::ax n Z)=.pv o::ax n Z;simp only[ax,this])
 |n+1,j+1,Z,o=>by
  cases Z with
  |nil=>show ax (n+1) (.un::(ax n []).set j (.pv o))=.un::(ax n []).set j (.pv o);rw[ax,gD];intro o z;cases z
  |cons s Z=>cases s<;>first
   |(show ax (n+1) (.un::(ax n Z).set j (.pv o))=.un::(ax n Z).set j (.pv o);rw[ax,gD];intro o z;cases z)
   |(show ax (n+1) (.pv _::(ax n Z).set j (.pv o))=.pv _::(ax n Z).set j (.pv o);simp only[ax,gD])
where backL_idem:∀(n:Nat)(Z:List Sl),ax n (ax n Z)=ax n Z
 |0,_=>rfl
 |n+1,[]=>by show ax (n+1) (.un::ax n [])=.un::ax n [];rw[ax,backL_idem];intro o z;cases z
 |n+1,s::Z=>by cases s<;>first
   |(show ax (n+1) (.un::ax n Z)=.un::ax n Z;rw[ax,backL_idem];intro o z;cases z)
   |(show ax (n+1) (.pv _::ax n Z)=.pv _::ax n Z;simp only[ax,backL_idem])
section
variable{X:Cx}{E:XK}
def NA(i:Nat)(m:Mi Rr):Mi Rr:=aT m λr Z=>match bS r Z with
 |some (.lst zs,U)=>match az U i with
  |some (.lst xs)=>if xs.length+zs.length<=100000 then some (.ok (.fr .non),setAt U i (.lst (xs++zs))) else none
  |_=>none
 |_=>none
def jT(i:Nat)(m:Mi Rr):Mi Rr:=jK i (aT m λr Z=>match res Z r,az Z i with
 | some (.int k),some (.lst xs)=>if -(2^60)<=k/\k<2^60 then (match XT k xs.length with
  |some j=>match xs[j]? with
   |some a=>some (.ok (.fr a),setAt Z i (.lst (xs.eraseIdx j)))
   |none=>none
  | none=>none) else none
 | _,_=>none)
theorem bN.erase{K:Kx}{G:Hp}:∀{vs:List V}{as:List A}(j:Nat),bN K G vs as->bN K G (vs.eraseIdx j) (as.eraseIdx j)
 |_,_,_,.nil=>.nil
 |_,_,0,.cons h r=>r
 |_,_,j+1,.cons h r=>.cons h (r.erase j)
theorem BM{i:Nat}{x:Str}{px cpos:Pos}{m:Mi Rr}(hN:X.N[i]?=some x)(hv:jh X.env.scope x)(hd:fg x)(hcd:km x)(he:JE X E e m)
  (hbase:Xr (.Name x px) "pop" X.env (eval (.Name x px) X.env)=eval (.Name x px) X.env:=by rfl)
  (hfew:((Xw cpos (Xo [e] X.env)).all (λx=>!x.1)&&(XD cpos (Xy [] X.env)).all (λx=>x.1.isSome)&&decide (([e]:List Expr).length+([]:List XB).length+(if ([]:List XB).isEmpty then 0 else 1)<30))=true:=by rfl)
  (hline:(apos.endLine==cpos.line)=true:=by rfl)(hs:Xo [e] X.env=(false,eval e X.env)::Xo [] X.env:=by rfl)(hplain:(Xw cpos (Xo [] X.env)).any (·.1)=false:=by rfl):
  JE X E (.Call (.Attribute (.Name x px) "pop" apos) [e] [] cpos) (jT i m):=
 ⟨PE.weaken (kb RC Vf Vg rp (bH hN hv hd hcd) (aU he.p bY hs) hbase hfew hline hs hplain) λY H Q h=>by
  obtain⟨c,Z,τ,O,o,B,ek,b,em,q⟩:=h
  delta jT jK at em
  split at em
  .rename_i hl;obtain⟨xs0,hl⟩:=jE hl;obtain⟨p,vs,hp,hH⟩:=fM b hl;refine⟨_,hp,.inl ⟨rfl,vs,.inl (.inl hH)⟩,?_⟩;refine a9 ek b em (λr v U H1 hv b1 em1=>?_) (bD q);cases e1:res U r with
   |none=>rw[e1] at em1;cases em1
   |some a=>
    cases a<;>first|(rw[e1] at em1;cases em1;done)|skip
    rename_i k;rw[e1] at em1;have rv:=Bd.rd b1 hv e1;cases rv;cases e2:az U i with
    |none=>rw[e2] at em1;cases em1
    |some lo=>
     cases lo with
     |dic _=>rw[e2] at em1;cases em1
     |dit _=>rw[e2] at em1;cases em1
     |obj _ _=>rw[e2] at em1;cases em1
     |nob _ _ _=>rw[e2] at em1;cases em1
     |lst xs=>
      simp only[e2] at em1;split at em1
      .rename_i hk;cases e3:XT k xs.length with
       |none=>rw[e3] at em1;cases em1
       |some j=>
        rw[e3] at em1;cases e4:xs[j]? with
        |none=>simp only[e4] at em1;cases em1
        |some a=>
         simp only[e4] at em1;cases em1;have b2:=Bd.drop b1;obtain⟨p0,ws,hp0,hH1⟩:=fM b2 e2;rw[hp] at hp0;cases hp0;obtain⟨L,bl⟩:=b2;obtain⟨p',_,h1,h2,h3⟩:=bl.live e2 (.lst xs) (.lst []);rw[hp] at h1;cases h1;cases h2 with
         |lst e rr=>
          rw[hH1] at e;cases e;obtain⟨u,g1,g2⟩:=rr.ta e4;obtain⟨L1,bl1⟩:=bl.push g2;obtain⟨p2,_,k1,k2,k3⟩:=bl1.live e2 (.lst (xs.eraseIdx j)) (.lst (ws.eraseIdx j));rw[hp] at k1;cases k1;cases k2 with
          |lst e' rr'=>rw[hH1] at e';cases e';exact⟨p,ws,k,j,u,rfl,rfl,hH1,by lia,by lia,by rw[rr.len];exact e3,g1,q _ _ trivial (k3 λH' hh=>.lst hh (rr'.erase j))⟩
      .cases em1
  .cases em⟩
end
end M
namespace L2
open PySem PySem.Spec PyProof.Rows PySem.W
def Nm(K:Qr):List V->Hp->VK->Prop:=λxs H Q=>∃(p:Addr)(ys:List V)(ns:List Int),xs=[.ref p]/\dM K H p ys/\ys=ns.map V.int/\Q (.int ns.sum) H
theorem preSum_eq(ns:List Int):∀n,n<=ns.length->preSum (λi=>ns.getD i 0) n=(ns.take n).sum
 |0,_=>by simp only[List.take_zero];rfl
 |n+1,h=>by rw[preSum,preSum_eq ns n (by exact QJ ‹_›),TC,Wd,R0,QP (by assumption)];simp
theorem yj{X:Cx}(hc:X.calm=true):c6 X (.builtin "sum") (Nm X.K):=by
 intro pins s Y H xs us Q I r h;obtain⟨p,ys,ns,rfl,l,rfl,q⟩:=h;obtain⟨u,rfl,Z⟩:=vals1 r;cases Z;obtain⟨j,r',pl,hz⟩:=I.list l;have C:=r'.length;refine call_sum_walkG (XR pl.isList ?_);refine⟨s.heap.objs.size,_,_,_,_,_,(λi=>ns.getD i 0),rfl,UZ (A:=X.A.in1) (I.ok.hd hc) _ p (by obtain⟨o,ho,_⟩:=pl.isList;exact Q8 (QM ho)) j.toArray,⟨⟨_,Q5 _ rfl,rfl,rfl⟩,pl.isList.at λo e=>QG _ e⟩,?_,λi v m=>?_,λh' tk t' hk=>?_⟩
 .intro b d;simp only[QC,Ru,or_false] at d;rcases d with rfl|rfl
  .show _<(s.heap.push _).objs.size;rw[Sr];exact Rc _
  .obtain⟨o,ho,_⟩:=pl.isList;show _<(s.heap.push _).objs.size;rw[Sr];exact QQ (QM ho)
 .have c:j[i]?=some v:=by simpa using m
  cases R:ns[i]? with
  |none=>
   have h1:=Sy.mp R;have h2:=(Qv.mp c).1;rw[Qt] at C
   lia
  |some b=>obtain⟨u,g,G⟩:=r'.get (i:=i) (x:=.int b) (by simp only[Q0,R];rfl);rw[c] at g;cases g;obtain ⟨t,rfl⟩:=G;exact ⟨t,by show TK b t = TK (ns.getD i 0) t; rw [R0,R]; rfl⟩
 .have e1:j.toArray.size = ns.length:=by simp at C ⊢; lia
  simp only[e1,preSum_eq ns ns.length (QB _),V0];exact⟨.int _,H,I.kept (t':=tk) λb o e=>hk b o (λz=>by have:=QR.mp z;subst this;exact absurd (QM e) (QU _)) (QG _ e),⟨t',rfl⟩,q⟩
end L2
namespace M
open PySem L2
noncomputable def kl:List A->Option (List Int)
 |[]=>some []
 | .int b::r=>match kl r with
  |some bs=>some (b::bs)
  |none=>none
 |_=>none
theorem rA:∀{xs:List A}{bs:List Int},kl xs=some bs->xs=bs.map A.int
 |[],bs,h=>by cases h;rfl
 |a::r,bs,h=>by
  cases a<;>first|(exact cy h)|skip
  unfold kl at h;cases e:kl r with
  |none=>simp only[e] at h;cases h
  |some cs=>rw[e] at h;cases h;rw[rA e];rfl
theorem se:∀ns:List Int,kl (ns.map A.int)=some ns
 |[]=>rfl
 |n::ns=>by simp only[Rf,kl,se ns]
def xV:A->Option Rr
 | .lst xs=>match kl xs with
  |some bs=>some (.fr (.int bs.sum))
  |none=>none
 |_=>none
theorem uU{K:Kx}{G:Hp}:∀{bs:List Int}{vs:List V},bN K G vs (bs.map A.int)->vs=bs.map V.int
 |[],vs,h=>by cases h;rfl
 |b::bs,vs,h=>by
  cases h with
  |cons h1 h2=>cases h1;rw[uU h2];rfl
theorem Ht{K:Kx}:sx K (λv=>Nm K.K [v]) xV:=.scalar λH v a q g h=>by
 cases a<;>first|(exact cy h)|skip
 rename_i xs;unfold xV at h;simp only at h;cases e:kl xs with
 |none=>rw[e] at h;cases h
 |some bs=>
  rw[e] at h;cases h;have:=rA e;subst this;cases g with
  |lst I n=>exact⟨_,_,rfl,λ_=>.int _,λQ k=>⟨_,_,bs,rfl,I,uU n,k⟩⟩
theorem IL:Xq "sum" = some (.builtin "sum"):=by decide +kernel
end M
set_option maxHeartbeats 4000000
namespace L2
open PySem PySem.Spec PyProof.Rows PySem.W
structure AO(h:Heap)(z TI TO i j l m:Addr)(k:Nat):Prop where
 hz:IsZip h z TI TO .none
 hi:IsPair h TI (.ref i) (.ref j)
 ho:∃a b,IsPair h TO a b
 h1:h.IsListIter i l k
 h2:h.IsListIter j m k
def LM(K:Qr)(a b:Addr):It:=
  ⟨λi H=>∃xs ys x y,dM K H a xs/\dM K H b ys/\xs[i]?=some x/\ys[i]?=some y,
   λi H v H'=>∃t x y,v=.ref t/\H t=none/\H'=upd H t (.tup [x,y])/\∀xs ys,dM K H a xs->dM K H b ys->xs[i]?=some x/\ys[i]?=some y,
   λi H=>∃xs ys,dM K H a xs/\dM K H b ys/\(xs[i]?=none\/ys[i]?=none)⟩
theorem wu{P:Program}{w:Xz}{K:Qr}{es:List Expr}{kk:Nat}{tp:Pos}{z TI TO i j a b:Addr}(D:ZipApart z TI TO i j a b):
  Turn P w K (.Tuple es kk tp) (LM K a b) [z,TI,TO,i,j] z (λn h=>AO h z TI TO i j a b n) where
 mem:=by simp
 obj:=λn h Z c hc=>by
  obtain⟨hz,hi,⟨u,v,ho⟩,⟨Q,e1,_,d1⟩,⟨o2,e2,_,d2⟩⟩:=Z;simp only[QC,Ru,or_false] at hc;rcases hc with rfl|rfl|rfl|rfl|rfl
  .exact⟨_,hz,λv q=>by cases q⟩
  .exact⟨_,hi,λv q=>by cases q⟩
  .exact⟨_,ho,λv q=>by cases q⟩
  .exact⟨_,e1,λv q=>by rw[d1] at q;cases q⟩
  .exact⟨_,e2,λv q=>by rw[d2] at q;cases q⟩
 keep:=λn h h' Z k=>by obtain⟨hz,hi,⟨u,v,ho⟩,⟨Q,e1,g⟩,⟨o2,e2,l⟩⟩:=Z;exact⟨k _ Z4 _ hz,k _ Z4 _ hi,⟨u,v,k _ Z4 _ ho⟩,⟨Q,k _ Z4 _ e1,g⟩,⟨o2,k _ Z4 _ e2,l⟩⟩
 item:=by
  intro X t A f hc n pins s Y H E I hf Z V;subst t A f;obtain⟨xs,ys,x,y,T,N,hx,hy⟩:=V;obtain⟨its,rv,p,_⟩:=I.list T;obtain⟨jts,U,p',_⟩:=I.list N;obtain⟨u,hu,ru⟩:=rv.get hx;obtain⟨v,hv,rv'⟩:=U.get hy;obtain⟨uo,vo,F⟩:=Z.ho;refine wpAny_pyNext_zip_item D Z.hz Z.hi F Z.h1 Z.h2 p.isList p'.isList (x:=u) (y:=v) (by simpa using hu) (by simpa using hv) λh' z1 z2 z3 z4 z5 z6 keep=>?_;refine⟨_,rfl,wpAny_letOwnedTupleGo_zip (s:={ s with heap:=h' }) z1 λh2 hz2 sb=>?_⟩;have ch:∀c∈[z,TO,i,j],c∈[z,TI,TO,i,j]:=λc hc=>by simp only[QC,Ru,or_false] at hc ⊢;rcases hc with e|e|e|e<;>simp[e]
  have B:∀c o,c∉[z,TO,i,j]->s.heap.get? c=some o->h2.get? c=some o:=λc o hc e=>by simp only[QC,Ru,or_false,not_or] at hc;exact sb.extBut c o hc.1 (keep c o hc.1 hc.2.1 hc.2.2.1 hc.2.2.2 e)
  have L:∀c o,s.heap.get? c=some o->c≠s.heap.objs.size:=λc o e=>Q8 (QM e);have C:∀c o,H c=some o->c∉[z,TO,i,j]:=λc o e hc=>by have:=(hf c (ch c hc)).1;rw[e] at this;cases this
  have hn:H s.heap.objs.size=none:=I.fresh;have nzT:s.heap.objs.size≠z:=(L _ _ Z.hz).symm;have I2:Inv X pins Y (upd H s.heap.objs.size (.tup [x,y])) { s with heap:=h2,gens:=s.gens,drawn:=s.drawn,toks:=s.toks }:=by
   refine I.step (ch:=[z,TO,i,j]) (λc hc=>?_) (λc o _ _ hc e _=>B c o hc e) (λc o _ _ hc e _=>⟨o.slots,B c o hc e⟩) (λc o _ e q=>by rw[aj (L c o e)];exact q) (λc o hc e=>⟨o,B c o hc e⟩)
    (λc q e=>by rw[aj (aI e hn)];exact e) (λc o q e=>by rw[aj (aI e hn)];exact e) (λc q e=>⟨#[],by rw[aj (aI e hn),e];simp⟩) (λm hm=>?_) (λc o e=>?_) I.bare
   .obtain⟨f0,f1,f2,f3,f4,f5⟩:=hf c (ch c hc);exact⟨f3,f1,f4,f5⟩
   .obtain⟨o,G,R,ho,r⟩:=hm;exact⟨o,G,R,B _ o (λhc=>(hf _ (ch _ hc)).2.1 rfl) ho,r⟩
   .by_cases hc:c=s.heap.objs.size
    .subst hc;rw[aM] at e;cases e;refine⟨(show 2<=sizeLine by decide),[u,v],.cons ru (.cons rv' .nil),?_⟩;exact⟨_,sb.extBut _ _ nzT z5,rfl,_,rfl,rfl⟩
    .rw[aj hc] at e;refine(I.hok c o e).jt (λd w hd q=>B d w ?_ q) (λd q=>by rw[aj (aI q hn)];exact q) λd q r=>by rw[aj (aI r hn)];exact r
     rcases hd with rfl|hd
     .exact C _ _ e
     .exact C _ _ hd
  have O:∀c o,c≠z->h'.get? c=some o->h2.get? c=some o:=λc o hc e=>sb.extBut c o hc e;have J:IsPair h' TI (.ref i) (.ref j):=keep _ _ D.TIz D.TITO D.TIi1 D.TIi2 Z.hi;obtain⟨Q,e1,g⟩:=z3;obtain⟨o2,e2,l⟩:=z4;refine⟨.ref s.heap.objs.size,_,I2,rfl,⟨s.heap.objs.size,x,y,rfl,hn,rfl,λxs' ys' G R=>?_⟩,⟨hz2,O _ _ D.TIz J,⟨_,_,O _ _ D.TOz z2⟩,⟨Q,O _ _ D.i1z e1,g⟩,⟨o2,O _ _ D.i2z e2,l⟩⟩,λc hc=>?_⟩
  .rw[I.gp G T,I.gp R N];exact⟨hx,hy⟩
  .rw[aj]
   .exact(hf c hc).1
   .rintro rfl;obtain⟨hz,hi,⟨u,v,ho⟩,⟨Q,e1,_⟩,⟨o2,e2,_⟩⟩:=Z;simp only[QC,Ru,or_false] at hc;rcases hc with q|q|q|q|q
    .rw[<-q] at hz;exact L _ _ hz rfl
    .rw[<-q] at hi;exact L _ _ hi rfl
    .rw[<-q] at ho;exact L _ _ ho rfl
    .rw[<-q] at e1;exact L _ _ e1 rfl
    .rw[<-q] at e2;exact L _ _ e2 rfl
 done:=by
  intro X t A f hc n pins s Y H E I hf Z V;subst t A f;obtain⟨xs,ys,T,N,S⟩:=V;obtain⟨its,rv,p,_⟩:=I.list T;obtain⟨jts,U,p',_⟩:=I.list N;obtain⟨uo,vo,F⟩:=Z.ho;have ch:∀c∈[z,TO,i,j],c∈[z,TI,TO,i,j]:=λc hc=>by simp only[QC,Ru,or_false] at hc ⊢;rcases hc with e|e|e|e<;>simp[e]
  refine wpAny_pyNext_zip_end (I.ok.hd hc) D Z.hz Z.hi F Z.h1 Z.h2 p.isList p'.isList (S.imp (λq=>by simpa using rv.none_of q) (λq=>by simpa using U.none_of q)) λh' keep=>⟨rfl,?_⟩
  have B:∀c o,c∉[z,TO,i,j]->s.heap.get? c=some o->h'.get? c=some o:=λc o hc e=>by simp only[QC,Ru,or_false,not_or] at hc;exact keep c o hc.1 hc.2.1 hc.2.2.1 hc.2.2.2 e
  have C:∀c o,H c=some o->c∉[z,TO,i,j]:=λc o e hc=>by have:=(hf c (ch c hc)).1;rw[e] at this;cases this
  refine I.step (g':=s.gens) (d':=s.drawn) (t':=s.toks) (ch:=[z,TO,i,j]) (λc hc=>?_) (λc o _ _ hc e _=>B c o hc e) (λc o _ _ hc e _=>⟨o.slots,B c o hc e⟩) (λc o _ e q=>q) (λc o hc e=>⟨o,B c o hc e⟩)
   (λc q e=>e) (λc o q e=>e) (λc q e=>⟨#[],by rw[e];simp⟩) (λm hm=>?_) (λc o e=>?_) I.bare
  .obtain⟨f0,f1,f2,f3,f4,f5⟩:=hf c (ch c hc);exact⟨f3,f1,f4,f5⟩
  .obtain⟨o,G,R,ho,r⟩:=hm;exact⟨o,G,R,B _ o (λhc=>(hf _ (ch _ hc)).2.1 rfl) ho,r⟩
  .refine(I.hok c o e).jt (λd w hd q=>B d w ?_ q) (λd q=>q) λd q r=>r;rcases hd with rfl|hd
   .exact C _ _ e
   .exact C _ _ hd
 self:=λ_ _ _ _ _ Z q=>wpAny_pyIter_zip Z.hz q
end L2
set_option maxHeartbeats 1000000
set_option maxHeartbeats 4000000
set_option maxHeartbeats 1000000
set_option maxHeartbeats 4000000
namespace L2
open PySem PySem.Spec PyProof.Rows PySem.W
section
variable{prog:Program}{w:Xz}{A:XA}{E:Value->Shared->Prop}{s:Shared}
theorem set_same{a:Addr}{h h':Heap}{S:Key->Bool}{n:Nat}(x:h.SetOf (gZ prog w) a S n)(e:∀o,h.get? a=some o->h'.get? a=some o):h'.SetOf (gZ prog w) a S n:=let ⟨o,es,ep,t,ho,r⟩:=x;⟨o,es,ep,t,e _ ho,r⟩
end
end L2
set_option maxHeartbeats 1000000
set_option maxHeartbeats 4000000
set_option maxHeartbeats 1000000
namespace M
open PySem L2
section
variable{X:Cx}{E:XK}
open PySem.Spec PyProof.Rows PySem.W in
end
open PySem.W (KasT kas_asc kas_desc kas_rev kas_tail3 kas_descPart kas_count kas_place kas_bin kas_sort)
open PyProof.Rows (mirror_perm bubble_perm bubble)
section
variable{X:Cx}{E:XK}
open PySem.Spec PyProof.Rows PySem.W in
end
section
open PySem PyProof.Rows PySem.W
variable{f:Nat->Nat->Bool}{n:Nat}{r:Nat->Nat}
noncomputable def Ra(r:Nat->Nat)(p:Array Nat)(i:Nat):Nat:=r (p.getD i 0)
end
section
variable{X:Cx}{E:XK}{pins:List (Addr×Obj)}{Y:St}{H:Hp}{s:Shared}{a b:Addr}
open PySem.Spec PyProof.Rows PySem.W in
end
noncomputable def eu:List A->Option (List Int)
 |[]=>some []
 | .int i::r=>match eu r with
  |some is=>some (i::is)
  |none=>none
 |_::_=>none
theorem iY{K:Kx}{G:Hp}:∀{as:List A}{vs:List V}{is:List Int},bN K G vs as->eu as=some is->vs=is.map V.int
 |[],_,_,.nil,h=>by cases h;rfl
 |a::as,_,_,.cons q r,h=>by
  cases a<;>first|(exact cy h)|skip
  unfold eu at h;cases e:eu as with
  |none=>simp only[e] at h;cases h
  |some H=>rw[e] at h;cases h;cases q;rw[iY r e];rfl
noncomputable def rZ(ns:List Int):Int:=ns.getD (argBest (λi j=>decide (ns.getD i 0<ns.getD j 0)) (ns.length-1)) 0
noncomputable def t5:List Int->Int->Option Nat
 |[],_=>none
 |a::r,i=>if a=i then some 0 else (t5 r i).map (·+1)
theorem iW:∀{ns:List Int}{us:List Value},Vals (ns.map V.int) us->∃xs:List (Int×Tok),us.toArray=X0 xs.toArray/\xs.map (·.1)=ns
 |[],_,.nil=>⟨[],by simp[X0],rfl⟩
 |n::ns,_,.cons h r=>by obtain⟨t,rfl⟩:=h;obtain⟨xs,h1,h2⟩:=iW r;refine⟨(n,t)::xs,?_,by simp only[Rf,h2]⟩;have h1:_=_:=Y2 Vl h1;apply VW.mp;simp[X0] at h1 ⊢;exact h1
section
variable{X:Cx}{E:XK}
open PySem.Builtin PyProof.Rows PySem.W in
end
section
variable{X:Cx}{E:XK}{pins:List (Addr×Obj)}{Y:St}{H:Hp}{s:Shared}
open Classical in
variable{a b:Expr}{ma mb:Mi Rr}{pos:Pos}
end
section
open PySem PyProof.Rows PySem.W
open SetTable in
noncomputable def aw(m:Nat)(p:Probe):Probe:=if p.more > 0 then { p with j:=p.j+1,more:=p.more-1 } else { p with j:=(leap m p.i p.perturb).1,more:=runEnd m (leap m p.i p.perturb).1-(leap m p.i p.perturb).1,i:=(leap m p.i p.perturb).1,perturb:=(leap m p.i p.perturb).2 }
open SetTable in
open SetTable in
def sp(m:Nat)(h:Int):Nat->Probe
 |0=>{ j:=bits h%(m+1),more:=runEnd m (bits h%(m+1))-bits h%(m+1),i:=bits h%(m+1),perturb:=bits h,dummy:=none }
 |n+1=>aw m (sp m h n)
open SetTable in
def nl(m:Nat)(h:Int)(N:Nat):Nat:=N+(sp m h N).more+1
end
theorem iM{α:Type}{f:Str}:∀{vs ws:List (Str×α)}{u:α},vs.lookup f=some u->(vs++ws).lookup f=some u
 |[],_,_,h=>nomatch h
 |(y,v)::vs,ws,u,h=>by
  simp only[QI] at h;simp only[Sv,QI];split at h
  .exact h
  .exact iM h
theorem j7{α:Type}{f:Str}:∀{vs ws:List (Str×α)},vs.lookup f=none->ws.lookup f=none->(vs++ws).lookup f=none
 |[],_,_,h=>h
 |(y,v)::vs,ws,h,h'=>by
  simp only[QI] at h;simp only[Sv,QI];split at h
  .cases h
  .exact j7 h h'
theorem ku{α:Type}{f:Str}:∀{vs ws:List (Str×α)}{u:α},vs.lookup f=none->ws.lookup f=some u->(vs++ws).lookup f=some u
 |[],_,_,_,h=>h
 |(y,v)::vs,ws,u,h,h'=>by
  simp only[QI] at h;simp only[Sv,QI];split at h
  .cases h
  .exact ku h h'
theorem eN.none{k:Kx}{G H:Hp}{f:Str}:∀{ws:List (Str×V)}{ls:List (Str×List A)}{q:List Addr},eN k G H ws ls q->ls.lookup f=none->ws.lookup f=none
 |_,_,_,.nil,_=>rfl
 |_,_,_,.cons (y:=y) e r t,h=>by
  simp only[QI] at h ⊢;split at h
  .cases h
  .exact eN.none t h
theorem eN.get{k:Kx}{G H:Hp}{f:Str}{xs:List A}:∀{ws:List (Str×V)}{ls:List (Str×List A)}{q:List Addr},eN k G H ws ls q->ls.lookup f=some xs->∃a us,ws.lookup f=some (.ref a)/\a∈q/\H a=some (.lst us)/\bN k G us xs
 |_,_,_,.nil,h=>nomatch h
 |_,_,_,.cons (y:=y) (a:=a) (us:=us) e r t,h=>by
  rw[QI] at h;rw[QI];split at h
  .cases h;exact⟨a,us,rfl,QH,e,r⟩
  .obtain⟨a,us,h1,h2,h3,h4⟩:=eN.get t h;exact⟨a,us,h1,Qz _ h2,h3,h4⟩
noncomputable def ik(f:Str)(xs:List A):List (Str×List A)->List (Str×List A)
 |[]=>[]
 |(y,zs)::r=>if f==y then (y,xs)::r else (y,zs)::ik f xs r
theorem eN.put{k:Kx}{G H H':Hp}{f:Str}{xs Y:List A}{a:Addr}{Z:List V}:∀{ws:List (Str×V)}{ls:List (Str×List A)}{q:List Addr},eN k G H ws ls q->q.Nodup->ls.lookup f=some xs->ws.lookup f=some (.ref a)->H' a=some (.lst Z)->(∀b∈q,b≠a->H' b=H b)->bN k G Z Y->eN k G H' ws (ik f Y ls) q
 |_,_,_,.nil,_,h,_,_,_,_=>nomatch h
 |_,_,_,.cons (y:=y) (a:=b) e r t,nd,h,h2,h3,sm,ra=>by
  simp only[QI] at h h2;unfold ik;have nd:=Q3.mp nd;cases hc:f==y with
  |true=>simp only[hc] at h2;cases h2;rw[YY rfl];exact .cons h3 ra (t.sm (Sq.refl _) λc hc u e=>by rw[sm c (Qz _ hc) λz=>nd.1 (z▸hc)];exact e)
  |false=>simp only[hc] at h h2;rw[YZ Z2];obtain⟨a',us,g,F,-,-⟩:=eN.get t h;have h2:_=some (V.ref a):=h2;rw[g] at h2;cases h2;refine .cons ?_ r (eN.put t nd.2 h g h3 (λc hc=>sm c (Qz _ hc)) ra);rw[sm b QH λz=>nd.1 (z▸F)];exact e
variable{i:Nat}{cn:Str}{Z:List Sl}
section
variable{X:Cx}{E:XK}
def aN(cs:List Str)(i:Nat)(f:Str):Mi Rr:=λZ=>match az Z i with
 | some (.nob c fs _)=>if cs.contains c then (match fs.lookup f with
  |some a=>some (.ok (.fr a),Z)
  | none=>none) else none
 |_=>none
theorem BA{x f:Str}{cs:List Str}{U pos:Pos}(hN:X.N[i]?=some x)(A:jh X.env.scope x)(hd:fg x)(z:km x)(hc:∀c C,cs.contains c=true->X.mg c=some (.ref C)->gy X.K C/\bU X.K C f)
  (d:Xr (.Name x U) f X.env (eval (.Name x U) X.env)=eval (.Name x U) X.env):JE X E (.Attribute (.Name x U) f pos) (aN cs i f):=
 ⟨PE.weaken (eZ (bH hN A hd z) d) λY H Q h=>by
  obtain⟨c,Z,τ,O,o,B,y,b,em,q⟩:=h;unfold aN at em;cases T:az Z i with
  |none=>rw[T] at em;cases em
  |some lo=>
   cases lo with
   |lst _=>simp only[T] at em;cases em
   |dic _=>simp only[T] at em;cases em
   |obj _ _=>simp only[T] at em;cases em
   |dit _=>simp only[T] at em;cases em
   |nob cn fs ls=>
    simp only[T] at em;split at em
    .rename_i w;cases e2:fs.lookup f with
     |none=>simp only[e2] at em;cases em
     |some a=>
      simp only[e2] at em;cases em;obtain⟨L,bl⟩:=b;obtain⟨p,_,h1,h2,v⟩:=bl.live T (.nob cn fs ls) (.lst []);clear v;cases h2 with
      |nob e m r l=>
       rename_i C dx vs ws;have F:X.mg cn=some (.ref C):=by have:=Y2 (λk:Kx=>k.mg cn) y;simp only at this;rw[<-this];exact m
       obtain⟨s,J⟩:=hc cn C w F;rcases r.get f with ⟨u,a',g,V,P⟩|⟨_,V⟩
       .rw[e2] at V;cases V;exact⟨_,h1,p,C,dx,vs++ws,u,rfl,e,s,J,iM g,q u H trivial (bl.push P)⟩
       .rw[e2] at V;cases V
    .cases em⟩
def aS(cn m:Str)(i:Nat):Mi Rr:=λZ=>match az Z i with
 |some (.nob c fs ls)=>if c==cn&&(fs.lookup m).isNone&&(ls.lookup m).isNone then some (.ok (.rf i),Z) else none
 |_=>none
theorem iG{m:Str}{B:List Sl}{o:Except Str Rr}(h:aS cn m i Z=some (o,B)):∃fs ls,az Z i=some (.nob cn fs ls)/\fs.lookup m=none/\ls.lookup m=none/\o=.ok (.rf i)/\B=Z:=by
 unfold aS at h;split at h
 .rename_i c fs ls e;split at h
  .rename_i hc;rw[Qq,Qq,Y3,Rv,Rv] at hc;cases h;exact⟨fs,ls,by rw[e,hc.1.1],hc.1.2,hc.2,rfl,rfl⟩
  .cases h
 .cases h
theorem mH{m:Ms}{n:Nat}{mn:Str}{C:Addr}{I:List A}{dvs:List V}(hd:∀G,bN (kx X) G dvs I){ma:Mi (List Rr)}(u:X.mg cn=some (.ref C))(hn:∀Z rs B,ma Z=some (.ok rs,B)->rs.length+1+I.length=n)(Y:St)(H:Hp)(Q:VK)(h:kj (kx X) E (a7 m I (c9 (aS cn mn i) ma)) Y H Q):
  uR C mn (iQ (kx X) n m) dvs E (lE i) (Mf (kx X) E ma) Y H Q:=by
 obtain⟨c,Z,τ,O,o,B,d,b,em,q⟩:=h;have D:∀{fs:List (Str×A)}{ls:List (Str×List A)},az Z i=some (.nob cn fs ls)->fs.lookup mn=none->ls.lookup mn=none->∃p dx vs,Y[i]?=some (some (.ref p))/\H p=some (.ins C dx vs)/\vs.lookup mn=none:=λg j P=>by
  obtain⟨L,bl⟩:=b;obtain⟨p,_,h1,h2,a⟩:=bl.live g (.lst []) (.lst []);clear a;cases h2 with
  |nob e mm r l=>
   rename_i f dx vs ws;have R:X.mg cn=some (.ref f):=by have:=Y2 (λk:Kx=>k.mg cn) d;simp only at this;rw[<-this];exact mm
   rw[u] at R;cases R;refine⟨p,dx,vs++ws,h1,e,j7 ?_ (l.none P)⟩;rcases r.get mn with ⟨_,_,_,z,_⟩|⟨z,_⟩
   .rw[j] at z;cases z
   .exact z
 have fin:∀e,o=.error e->∀C H,X.mg e=some (.ref C)->Bd c Y H B τ O->E (.ref C) none H:=bD q;rcases bind_some em with ⟨rs,U,e1,e2⟩|⟨e,e1,e2⟩
 .rcases bind_some e1 with ⟨r,Z',F,K⟩|⟨y,F,K⟩
  .obtain⟨fs,ls,g,j,P,J,T⟩:=iG F;cases J;subst T;rcases bind_some K with ⟨rs',N,s,w⟩|⟨y,s,w⟩
   .cases w;obtain⟨p,dx,vs,hp,h2,hl⟩:=D g j P;refine⟨.ref p,hp,p,dx,vs,rfl,h2,hl,c,_,_,_,_,_,d,b,s,λws t S b2=>?_⟩;refine jL (rs:=.rf i::rs') (vs:=.ref p::ws) hd d ?_ ⟨hp,S⟩ b2 e2 (λr hr v H' hv b=>by subst hr;exact q v H' hv b) (λx hx=>by subst hx;exact q);simp only[Sv,QF,QO,<-S.len,<-hn _ _ _ s,(hd λ_=>none).len];lia
   .cases w
  .cases K
 .rcases bind_some e1 with ⟨r,Z',F,K⟩|⟨y,F,K⟩
  .obtain⟨fs,ls,g,j,P,J,T⟩:=iG F;cases J;subst T;rcases bind_some K with ⟨rs',N,s,w⟩|⟨y,s,w⟩
   .cases w
   .cases w;obtain⟨p,dx,vs,hp,h2,hl⟩:=D g j P;exact⟨.ref p,hp,p,dx,vs,rfl,h2,hl,c,_,_,_,_,_,d,b,s,λC t hm b2=>fin _ e2 C t hm b2⟩
  .obtain⟨_,_,_,_,_,J,_⟩:=iG F;cases J
end
section
variable{X:Cx}{E:XK}{CX:qk}{k n i:Nat}{f C:Addr}{fd:XC}{ps:List Str}{m:Ms}{I:List A}{dvs:List V}{ds:List Value}{cn mn x:Str}{px apos pos:Pos}{e:Expr}{es:List Expr}{ma:Mi (List Rr)}
theorem rW(T:X.mg cn=some (.ref C))(hc:gy X.K C)(hm:Meth X.K C mn f)(F:dF X.prog X.w X.K X.mg X.base CX k f fd ps (iQ (kx X) n m))(S:cZ k X.A)(d:Binds X.K fd ps ds)(hd:Vals dvs ds)(r:∀G,bN (kx X) G dvs I)(hx:Passes CX X E)
  (hN:X.N[i]?=some x)(c:jh X.env.scope x)(h:fg x)(z:km x)(v:JA X E (e::es) ma)(hn:∀Z rs B,ma Z=some (.ok rs,B)->rs.length+1+I.length=n)(H:Xr (.Name x px) mn X.env (eval (.Name x px) X.env)=eval (.Name x px) X.env)
  (b:XY ((e::es).length+([]:List XB).length) (Xw pos (Xo (e::es) X.env)) (XD pos (Xy [] X.env))=true)(Y:(apos.endLine==pos.line)=true)
  (q:Xo (e::es) X.env=(false,eval e X.env)::Xo es X.env)(Q:(Xw pos (Xo es X.env)).any (·.1)=false):JE X E (.Call (.Attribute (.Name x px) mn apos) (e::es) [] pos) (a7 m I (c9 (aS cn mn i) ma)):=
 ⟨PE.weaken (vC (bH hN c h z) hc hm F S d hd hx v.p q Q (ig H b Y)) (mH r T hn)⟩
theorem nQ(T:X.mg cn=some (.ref C))(hc:gy X.K C)(hm:Meth X.K C mn f)(F:dF X.prog X.w X.K X.mg X.base CX k f fd ps (iQ (kx X) n m))(S:cZ k X.A)(d:Binds X.K fd ps ds)(hd:Vals dvs ds)(r:∀G,bN (kx X) G dvs I)(hx:Passes CX X E)
  (hN:X.N[i]?=some x)(z:jh X.env.scope x)(L:fg x)(p:km x)(hn:1+I.length=n)(e:Xr (.Name x px) mn X.env (eval (.Name x px) X.env)=eval (.Name x px) X.env)(U:(apos.endLine==pos.line)=true):JE X E (.Call (.Attribute (.Name x px) mn apos) [] [] pos) (a7 m I (c9 (aS cn mn i) pV)):=
 ⟨PE.weaken (qw (bH hN z L p) hc hm F S d hd hx (ig e rfl U)) λY H Q h=>by obtain⟨v,s,a,dx,fs,g,V,l,J⟩:=mH (X:=X) (E:=E) (C:=C) (n:=n) r T (ma:=pV) (λZ rs B q=>by cases q;rw[<-hn];rfl) Y H Q h;refine⟨v,s,a,dx,fs,g,V,l,?_⟩;obtain⟨c,Z,τ,O,o,B,y,b,em,q⟩:=J;cases em;exact q [] H trivial b⟩
end
section
variable{c:Cn}{Y:St}{H:Hp}{Z:List Sl}{τ:St}{O:List Sl}
theorem Bd.give{a:Addr}{xs:List A}{f:Str}{fs:List (Str×A)}(b:Bd c Y H Z (some (.ref a)::τ) (.lv (.lst xs)::O))(T:az Z i=some (.obj cn fs)):
  ∃p C dx vs,Y[i]?=some (some (.ref p))/\H p=some (.ins C dx vs)/\c.mg cn=some (.ref C)/\vs.length=fs.length/\(fs.lookup f=none->vs.lookup f=none)/\Bd c Y (upd H p (.ins C dx (vs++[(f,.ref a)]))) (setAt Z i (.nob cn fs [(f,xs)])) τ O:=by
 obtain⟨L,b⟩:=b;have rel:au c.toKx (c.g H L) H (some (.ref a)::(τ++Y)) (.lv (.lst xs)::(O++Z)) L:=b.rel;have lt:τ.length=O.length:=by simpa using b.lt
 cases rel with
 |cons h r=>
  rename_i La L';cases h with
  |lv P=>
   cases P with
   |lst ea ra=>
    rename_i us;have nd:a∉L'/\L'.Nodup:=Q3.mp b.nd;obtain⟨D,L2,e1,r1,r2⟩:=au.split lt r;have key:∀(s t:Sl)(o:LO),Z[i]?=some s->(s=.lv (.obj cn fs)/\t=.lv (.nob cn fs [(f,xs)])\/s=.pv (.obj cn fs)/\t=.pv (.nob cn fs [(f,xs)]))->setAt Z i (.nob cn fs [(f,xs)])=Z.set i t->
      ∃p C dx vs,Y[i]?=some (some (.ref p))/\H p=some (.ins C dx vs)/\c.mg cn=some (.ref C)/\vs.length=fs.length/\(fs.lookup f=none->vs.lookup f=none)/\Bd c Y (upd H p (.ins C dx (vs++[(f,.ref a)]))) (setAt Z i (.nob cn fs [(f,xs)])) τ O:=by
     intro s t _ es v X;obtain⟨x,M1,M2,J,hx,hs,e2,ins⟩:=r2.at es;have B:∀p,x=some (.ref p)->M2=[p]->LR c.toKx (c.g H (a::L')) H p (.obj cn fs) []->(∀G H' ,LR c.toKx G H' p (.nob cn fs [(f,xs)]) [a]->eH c.toKx G H' (some (.ref p)) t [p,a])->
       ∃p C dx vs,Y[i]?=some (some (.ref p))/\H p=some (.ins C dx vs)/\c.mg cn=some (.ref C)/\vs.length=fs.length/\(fs.lookup f=none->vs.lookup f=none)/\Bd c Y (upd H p (.ins C dx (vs++[(f,.ref a)]))) (setAt Z i (.nob cn fs [(f,xs)])) τ O:=by
      intro p ex R P mk;subst ex R;cases P with
      |obj e m n=>
       rename_i C dx vs;have S:p≠a:=λz=>nd.1 (by rw[e1,e2,<-z];simp);have U:∀b,b∈D++(M1++[p,a]++J)↔b∈a::L':=λb=>by
        rw[e1,e2];simp only[Qx,QC,QR,Ru,or_false];constructor
        .rintro(h|(h|h|h)|h)<;>simp[h]
        .rintro(h|h|(h|h)|h)<;>simp[h]
       have hg:∀H',c.g H' (D++(M1++[p,a]++J))=c.g H' (a::L'):=λH'=>Cd U;have pL:p∈a::L':=by rw[e1,e2];simp
       have N:c.g (upd H p (.ins C dx (vs++[(f,.ref a)]))) (a::L')=c.g H (a::L'):=by
        funext z
        by_cases E:z∈a::L'\/z∈c.Hd
        .rw[gH E,gH E]
        .rw[bJ (λy=>E (.inl y)) (λy=>E (.inr y)),bJ (λy=>E (.inl y)) (λy=>E (.inr y)),aj (λ(y:z=p)=>E (.inl (by rw[y];exact pL)))]
       have V:∀b∈D++(M1++J),b≠p:=λb d z=>by
        have Q:=nd.2;rw[e1,e2] at Q;subst z;obtain⟨n1,n2,n3⟩:=QE.mp Q;rcases Qx.mp d with z|z
        .exact n3 _ z _ Z4 rfl
        .obtain⟨m1,m2⟩:=iJ n2;exact m2 b Z4 z
       have keep:∀b∈D++(M1++J),∀u,H b=some u->upd H p (.ins C dx (vs++[(f,.ref a)])) b=some u:=λb d u e=>by rw[aj (V b d)];exact e
       refine⟨p,C,dx,vs,hx,e,m,n.len,(λz=>by
        rcases n.get f with ⟨_,_,_,y,_⟩|⟨y,_⟩
        .rw[z] at y;cases y
        .exact y),D++(M1++[p,a]++J),?_,?_,λz hz=>b.own z ((U z).mp hz),?_,?_,lt,b.hd⟩
       .have pm:(D++(M1++[p,a]++J)).Perm (a::L'):=by
         rw[e1,e2];have q1:(M1++[p,a]++J).Perm (a::(M1++[p]++J)):=by
          have:M1++[p,a]++J=(M1++[p])++(a::J):=by simp
          rw[this];exact RS
         exact(List.Perm.append_left D q1).trans RS
        exact pm.nodup_iff.mpr b.nd
       .rw[hg,N,X];have i1:=ins (G':=c.g H (a::L')) (H':=upd H p (.ins C dx (vs++[(f,.ref a)]))) (y:=some (.ref p)) (t:=t) (L':=[p,a]) (Sq.refl _) (λb d=>keep b (Qs _ d)) (mk _ _ (.nob (by rw[aM]) m n (.cons (by rw[aj S.symm];exact ea) ra .nil)));have l:Y.set i (some (.ref p))=Y:=by
         apply R6;intro j;by_cases k:i=j
         .subst k;rw[QN (Qv.mp hx).1,hx]
         .rw[QY k]
        rw[l] at i1;exact(r1.sm (Sq.refl _) λb d=>keep b (Qu _ d)).app i1
       .refine⟨λz o e'=>?_,λw hw=>?_⟩
        .obtain⟨u,u1,u2⟩:=b.fr.st z o e';by_cases hz:z=p
         .subst hz;refine⟨_,aM,λna _=>?_⟩;rcases b.own z pL with y|y
          .exact absurd y na
          .rw[y] at e';cases e'
         .exact⟨u,by rw[aj hz];exact u1,u2⟩
        .obtain⟨I,K,k3⟩:=b.fr.pk w hw;refine⟨?_,K,k3⟩;rw[aj λz=>?_]
         .exact I
         .obtain⟨ob,us',K⟩:=K;rw[z,e] at I;rw[K] at I;cases I
       .rw[X];intro j o k w;by_cases F:i=j
        .subst F;rw[QN (Qv.mp es).1] at k;rcases v with ⟨_,rfl⟩|⟨rfl,rfl⟩
         .cases k;cases w
         .exact b.kp i _ es rfl
        .rw[QY F] at k;exact b.kp j o k w
     rcases v with ⟨rfl,rfl⟩|⟨rfl,rfl⟩
     .cases hs with
      |lv h=>
       rename_i p q;have:q=[]:=by cases h;rfl
       subst this;exact B p rfl rfl h λG H' h=>.lv h
     .cases hs with
      |pv h=>
       rename_i p q;have:q=[]:=by cases h;rfl
       subst this;exact B p rfl rfl h λG H' h=>.pv h
    unfold az at T;cases es:Z[i]? with
    |none=>simp only[es] at T;cases T
    |some s=>
     cases s with
     |un=>simp only[es] at T;cases T
     |cf _=>simp only[es] at T;cases T
     |fr a=>simp only[es] at T;cases T
     |lv o1=>simp only[es] at T;cases T;exact key _ _ (.obj cn fs) es (.inl ⟨rfl,rfl⟩) (by unfold setAt;simp only[es])
     |pv o1=>simp only[es] at T;cases T;exact key _ _ (.obj cn fs) es (.inr ⟨rfl,rfl⟩) (by unfold setAt;simp only[es])
end
variable{H:Hp}
section
variable{X:Cx}{E:XK}
theorem qv(f:Str)(v:V):∀{fs:List (Str×V)},fs.lookup f=none->dY f v fs=fs++[(f,v)]
 |[],_=>rfl
 |(g,x)::r,h=>by
  simp only[QI] at h;unfold dY;split at h
  .cases h
  .rename_i hc;have:¬ g=f:=λz=>by rw[z] at hc;simp at hc
   rw[YZ this,qv f v h];rfl
theorem Bd.tR{c:Cn}{Y:St}{τ:St}{O:List Sl}{v:V}{o:LO}(b:Bd c Y H Z (some v::τ) (.lv o::O)):∃a,v=.ref a:=by
 obtain⟨L,b⟩:=b;have rel:au c.toKx (c.g H L) H (some v::(τ++Y)) (.lv o::(O++Z)) L:=b.rel;cases rel with
 |cons h r=>cases h with
  |lv h=>exact⟨_,rfl⟩
end
mutual
noncomputable def pl:A->Bool
 | .tup xs=>Ds xs
 | .lst _=>false
 | .dic _=>false
 | .dit _=>false
 | .obj _ _=>false
 | .exc _=>false
 |_=>true
noncomputable def Ds:List A->Bool
 |[]=>true
 |a::r=>pl a&&Ds r
end
def ND:LO->Bool
 | .lst xs=>Ds xs
 |_=>false
def xO:Sl->Bool
 | .fr a=>pl a
 | .cf a=>pl a
 | .lv o=>ND o
 | .pv o=>ND o
 | .un=>true
def Tq(G G':Hp):Prop:=∀a u,G a=some u->(∀ws,u≠.lst ws)->(∀C dx fs,u≠.ins C dx fs)->G' a=some u
variable{vs:List V}
section
variable{k:Kx}{G G' H:Hp}
theorem Jv{p:Addr}(s:Tq G G')(q:iL k.K G p vs):iL k.K G' p vs:=q.imp (λr=>by
 rcases r with r|⟨o,r⟩
 .exact .inl (s _ _ r (λws z=>by cases z) λC dx fs z=>by cases z)
 .exact .inr ⟨o,s _ _ r (λws z=>by cases z) λC dx fs z=>by cases z⟩) id
mutual
theorem RA.pl(s:Tq G G'):∀{v:V}{a:A},RA k G v a->M.pl a=true->RA k G' v a
 |_,_,.non,_=>.non
 |_,_,.bl b,_=>.bl b
 |_,_,.int i,_=>.int i
 |_,_,.str x,_=>.str x
 |_,_,.tup e r,h=>.tup (Jv s e) (bN.pl s r (by rw[M.pl] at h;exact h))
 |_,_,.lst e r,h=>by rw[M.pl] at h;cases h
 |_,_,.dic e r,h=>by rw[M.pl] at h;cases h
 |_,_,.exc e m,h=>by rw[M.pl] at h;cases h
 |_,_,.obj e m r,h=>by rw[M.pl] at h;cases h
 |_,_,.dit e r,h=>by rw[M.pl] at h;cases h
 |_,_,.opq,_=>.opq
theorem bN.pl(s:Tq G G'):∀{vs:List V}{as:List A},bN k G vs as->Ds as=true->bN k G' vs as
 |_,_,.nil,_=>.nil
 |_,_,.cons h r,e=>by rw[Ds,Qq] at e;exact .cons (RA.pl s h e.1) (bN.pl s r e.2)
end
theorem LR.pl{p:Addr}{o:LO}{q:List Addr}(s:Tq G G')(h:LR k G H p o q)(e:ND o=true):LR k G' H p o q:=by
 cases h with
 |nob=>cases e
 |lst x r=>exact .lst x (r.pl s e)
 |dic x r=>cases e
 |obj x m r=>cases e
 |dit x r=>cases e
theorem eH.pl{x:Option V}{t:Sl}{L:List Addr}(s:Tq G G')(h:eH k G H x t L)(e:xO t=true):eH k G' H x t L:=by
 cases h with
 |un=>exact .un _
 |fr h=>exact .fr (h.pl s e)
 |cf h=>exact .cf (h.pl s e)
 |lv h=>exact .lv (h.pl s e)
 |pv h=>exact .pv (h.pl s e)
theorem eN.kind{ws:List (Str×V)}{ls:List (Str×List A)}{q:List Addr}(h:eN k G H ws ls q):∀a∈q,∃us,H a=some (.lst us):=by
 induction h with
 |nil=>intro a f;cases f
 |cons e r t m=>intro b d;rcases QC.mp d with rfl|d;exact⟨_,e⟩;exact m b d
theorem LR.kind{p:Addr}{cn:Str}{fs:List (Str×A)}{ls:List (Str×List A)}{q:List Addr}(h:LR k G H p (.nob cn fs ls) q):∀a∈p::q,(∃us,H a=some (.lst us))\/∃C dx fs,H a=some (.ins C dx fs):=by
 cases h with
 |nob e m r l=>
  intro a f;rcases QC.mp f with rfl|f
  .exact .inr ⟨_,_,_,e⟩
  .exact .inl (l.kind a f)
end
def bF(j:Nat)(m:Ms):Ms:=λZ=>match Z[j]? with
 |some (.pv (.nob c fs ls))=>match m (Z.set j (.fr (LO.nob c fs ls).a)) with
  |some (.rt s,U)=>if AY (ax Z.length U)[j]?&&(s::ax Z.length U).all xO then some (.rt s,(ax Z.length U).set j (.pv (.nob c fs ls))) else none
  |some (.ex x,U)=>if AY (ax Z.length U)[j]?&&(ax Z.length U).all xO then some (.ex x,(ax Z.length U).set j (.pv (.nob c fs ls))) else none
  |_=>none
 |_=>m Z
theorem iQ.zB{K:Kx}{n j:Nat}{m:Ms}{Q:VK}{E:XK}(h:iQ K n (bF j m) vs H Q E):iQ K n m vs H Q E:=by
 obtain⟨hn,c,Z,f,B,ek,es,L,b,em,q⟩:=h;unfold bF at em;split at em
 .rename_i cn fs ls ej;have rel:au c.toKx (c.g H c.Lp) H (vs.map some) Z c.Lp:=b.rel;obtain⟨x,G,Lj,L2,x1,P,x3,D⟩:=rel.pick ej;cases x3 with
  |pv lr=>
   rename_i p qs;have Y:=lr;cases lr with
   |nob ep mm rr ll=>
    rename_i C dx ws us;have nd:=b.nd;rw[P] at nd;have R:(G++L2).Nodup:=nd.sublist (SW (S8 _) (Tw _ _));have np:∀a∈p::qs,a∉G++L2:=λa T=>(iJ (by rw[<-Qw] at nd;exact nd)).2 a T;have J:(p::qs).Nodup:=(QE.mp (QE.mp nd).2.1).1;have S:=Y.is;have N:=Y.nf;have sub:∀a,a∈G++L2->a∈c.Lp:=λa T=>by
     rw[P];rcases Qx.mp T with z|z
     .exact Qu _ z
     .exact Qs _ (Qs _ z)
    have pin:∀a∈p::qs,a∈c.Lp:=λa T=>by rw[P];exact Qs _ (Qu _ T)
    have xK:∀a∈p::qs,a∉c.Hd:=λa T=>b.xK (pin a T)
    let c2:Cn:={ c with Lp:=G++L2 }
    have X:Z.length=vs.length:=by have:=rel.len;simpa using this.symm
    have b2:dS c2 (vs.map some) H (Z.set j (.fr (LO.nob cn fs ls).a)) [] [] c2.Lp:=by refine⟨R,?_,λa T=>.inl T,⟨λa o e=>⟨o,by rw[<-L];exact e,λ_ _=>rfl⟩,λw A=>b.fr.pk w A⟩,λi o _ _=>by rw[es],rfl,λa T=>⟨(b.hd a T).1,λy=>(b.hd a T).2 (sub a y)⟩⟩;have sm:Sq (c.g H c.Lp) (c.g H (G++L2)):=dE sub;have:au c.toKx (c.g H (G++L2)) H (vs.map some) (Z.set j (.fr (LO.nob cn fs ls).a)) (G++([]++L2)):=D (λ_ h=>h.sm sm (λ_ _ _ e=>e)) (.fr (Y.a' sm λa T u e=>by rw[bJ (np a T) (xK a T)];exact e));exact this
    have key:∀(H':Hp)(β:List Sl)(τ:St)(O:List Sl),τ.length=O.length->β[j]?=some .un->(O++β).all xO=true->Bd c2 (vs.map some) H' β τ O->Bd c (vs.map some) H' (β.set j (.pv (.nob cn fs ls))) τ O:=by
     intro H' β τ O lt t V r;obtain⟨L',r⟩:=r;have d:∀a∈p::qs,∀w,(a,w)∉c.Wk:=λa T w A=>by obtain⟨h1,⟨ob,us,h2⟩,_⟩:=b.fr.pk _ A;simp only at h1 h2;exact N a T _ _ (by rw[h1,h2])
     have F:∀a∈p::qs,∀u,H a=some u->H' a=some u:=λa T u e=>by obtain⟨l,h1,h2⟩:=r.fr.st a u (by show c.H0 a=_;rw[L];exact e);rw[h1,h2 (np a T) (d a T)]
     have npL:∀a∈p::qs,a∉L':=λa T y=>by
      rcases r.own a y with z|z
      .exact np a T z
      .have z:c.H0 a=none:=z;obtain⟨u,I⟩:=S a T;rw[L,I] at z;cases z
     have jj:(O++β)[O.length+j]?=some .un:=by rw[Rl (RZ _ _),TY];exact t
     obtain⟨y,M1,Mj,k,y1,y2,y3,y4⟩:=au.pick r.rel jj;cases y3 with
     |un=>
      have yx:y=some (.ref p):=by rw[<-lt,Rl (RZ _ _),TY,x1] at y1;exact(QW y1).symm
      subst yx;have eL:L'=M1++k:=y2;have hN:∀a,a∈M1++((p::qs)++k)↔a∈p::qs\/a∈L':=λa=>by
       rw[eL];simp only[Qx];constructor
       .rintro(h|h|h)
        .exact .inr (.inl h)
        .exact .inl h
        .exact .inr (.inr h)
       .rintro(h|h|h)
        .exact .inr (.inl h)
        .exact .inl h
        .exact .inr (.inr h)
      have lq:Tq (c.g H' L') (c.g H' (M1++((p::qs)++k))):=λa u e nl ni=>by
       by_cases z:a∈L'\/a∈c.Hd
       .rw[gH z] at e;cases e
       .rw[bJ (λy=>z (.inl y)) (λy=>z (.inr y))] at e;rw[bJ (λy=>?_) (λy=>z (.inr y))]
        .exact e
        .rcases(hN a).mp y with w|w
         .rcases Y.kind a w with ⟨us,I⟩|⟨C,dx,fs,I⟩
          .rw[F a w _ I] at e;exact nl us (QW e).symm
          .rw[F a w _ I] at e;exact ni C dx fs (QW e).symm
         .exact z (.inl w)
      have sq:Sq (c.g H c.Lp) (c.g H' (M1++((p::qs)++k))):=λa u e=>by
       by_cases z:a∈c.Lp\/a∈c.Hd
       .rw[gH z] at e;cases e
       .rw[bJ (λy=>z (.inl y)) (λy=>z (.inr y))] at e;obtain⟨l,h1,h2⟩:=r.fr.st a u (by show c.H0 a=_;rw[L];exact e);have I:l=u:=by
         by_cases A:∃w,(a,w)∈c.Wk
         .obtain⟨w,A⟩:=A;have p1:=(b.fr.pk _ A).1;have p2:=(r.fr.pk _ A).1;simp only at p1 p2;rw[e] at p1;rw[h1] at p2;rw[QW p2,QW p1]
         .exact h2 (λy=>z (.inl (sub a y))) λw y=>A ⟨w,y⟩
        subst I;refine⟨l,?_,.inl rfl⟩;rw[bJ (λy=>?_) (λy=>z (.inr y))]
        .exact h1
        .rcases(hN a).mp y with w|w
         .exact z (.inl (pin a w))
         .rcases r.own a w with v|v
          .exact z (.inl (sub a v))
          .have v:c.H0 a=none:=v;rw[L,e] at v;cases v
      have Gj:au c.toKx (c.g H' (M1++((p::qs)++k))) H' (τ++vs.map some) ((O++β).set (O.length+j) (.pv (.nob cn fs ls))) (M1++((p::qs)++k)):=
       y4 (λm h=>h.pl lq (RT.mp V _ m)) (.pv (Y.sm sq F))
      rw[Uh _ _ (RZ _ _),TY] at Gj;refine⟨M1++((p::qs)++k),?_,Gj,λa T=>?_,⟨λa o e=>?_,λw A=>r.fr.pk w A⟩,λi o _ _=>by rw[es],lt,b.hd⟩
      .have pm:(M1++((p::qs)++k)).Perm ((p::qs)++(M1++k)):=by rw[<-Qw,<-Qw];exact S1.append_right k
       refine(pm.nodup_iff).mpr (QE.mpr ⟨J,by rw[<-eL];exact r.nd,λa T b hb z=>npL a T (by rw[eL,z];exact hb)⟩)
      .rcases(hN a).mp T with w|w
       .exact .inl (pin a w)
       .rcases r.own a w with v | v
        .exact .inl (sub a v)
        .exact .inr v
      .obtain ⟨u,h1,h2⟩:=r.fr.st a o e;exact⟨u,h1,λna nw=>h2 (λy=>na (sub a y)) nw⟩
    cases e4:m (Z.set j (.fr (LO.nob cn fs ls).a)) with
    |none=>simp only[e4] at em;cases em
    |some pr=>
     obtain⟨g,U⟩:=pr;simp only[e4] at em;refine⟨hn,c2,_,g,U,ek,es,L,b2,e4,?_⟩;cases g with
     |nx=>cases em
     |bk=>cases em
     |ct=>cases em
     |rt s=>
      simp only at em;split at em
      .rename_i hc;cases em;intro v H' hs r;rw[Qq] at hc;rw[X] at hc q;simp only[gD] at q;exact q v H' hs (key H' _ _ _ rfl (ur hc.1) hc.2 r)
      .cases em
     |ex x=>
      simp only at em;split at em
      .rename_i hc;cases em;intro C H' hm r;rw[Qq] at hc;rw[X] at hc q;simp only[gD] at q;exact q C H' hm (key H' _ _ _ rfl (ur hc.1) hc.2 r)
      .cases em
 .exact⟨hn,c,Z,f,B,ek,es,L,b,em,q⟩
section
variable{k:Kx}{G G' H:Hp}
theorem au.E9:∀{Y:St}{Z:List Sl}{L:List Addr},(∀{x:Option V}{t:Sl}{L:List Addr}(j:Nat),Z[j]?=some t->eH k G H x t L->eH k G' H x t L)->au k G H Y Z L->au k G' H Y Z L
 |_,_,_,_,.nil=>.nil
 |_,_,_,f,.cons h r=>.cons (f 0 rfl h) (au.E9 (λj a=>f (j+1) (by simpa using a)) r)
end
def Og:Rr->Bool
 | .rf _=>false
 | .fr a=>pl a
 | .nw o=>ND o
end M
set_option maxHeartbeats 4000000
namespace L2
open PySem PySem.Spec PyProof.Rows PySem.W
structure Iq(h:Heap)(e it l:Addr)(n:Nat):Prop where
 he:∃old,IsEnum h e it ((n:Nat):Int) old
 hi:h.IsListIter it l n
def PN(K:Qr)(a:Addr):It:=
  ⟨λi H=>∃xs x,dM K H a xs/\xs[i]?=some x,
   λi H v H'=>∃t x,v=.ref t/\H t=none/\H'=upd H t (.tup [.int i,x])/\∀xs,dM K H a xs->xs[i]?=some x,
   λi H=>∃xs,dM K H a xs/\xs[i]?=none⟩
variable{es:List Expr}{kk:Nat}{tp:Pos}
theorem wJ{P:Program}{w:Xz}{K:Qr}{e it a:Addr}(D:e≠it):
  Turn P w K (.Tuple es kk tp) (PN K a) [e,it] e (λn h=>Iq h e it a n) where
 mem:=by simp
 obj:=λn h Z c hc=>by
  obtain⟨⟨old,he⟩,⟨o,e1,_,d1⟩⟩:=Z;simp only[QC,Ru,or_false] at hc;rcases hc with rfl|rfl
  .exact⟨_,he,λv q=>by cases q⟩
  .exact⟨_,e1,λv q=>by rw[d1] at q;cases q⟩
 keep:=λn h h' Z k=>by obtain⟨⟨old,he⟩,⟨o,e1,g⟩⟩:=Z;exact⟨⟨old,k _ Z4 _ he⟩,⟨o,k _ Z4 _ e1,g⟩⟩
 item:=by
  intro X t A f hc n pins s Y H E I hf Z J;subst t A f;obtain⟨xs,x,T,hx⟩:=J;obtain⟨j,y,p,_⟩:=I.list T;obtain⟨u,hu,ru⟩:=y.get hx;obtain⟨⟨old,he⟩,hi⟩:=Z;refine wpAny_pyNext_enum_item he hi p.isList (by simpa using hu) D λh' z1 z2 z3 z4 keep=>?_;refine⟨_,rfl,wpAny_letOwnedTupleGo_enum z1 λh2 O sb=>?_⟩;have B:∀c o,c∉[e,it]->s.heap.get? c=some o->h2.get? c=some o:=λc o hc q=>by simp only[QC,Ru,or_false,not_or] at hc;exact sb.extBut c o hc.1 (keep c o hc.1 hc.2 q)
  have L:∀c o,s.heap.get? c=some o->c≠s.heap.objs.size:=λc o q=>Q8 (QM q);have C:∀c o,H c=some o->c∉[e,it]:=λc o q hc=>by have:=(hf c hc).1;rw[q] at this;cases this
  have hn:=I.fresh;have i:=(L _ _ he).symm;have I2:Inv X pins Y (upd H s.heap.objs.size (.tup [.int n,x])) { s with heap:=h2,gens:=s.gens,drawn:=s.drawn,toks:=s.toks+1 }:=by
   refine I.step (λc hc=>?_) (λc o _ _ hc q _=>B c o hc q) (λc o _ _ hc q _=>⟨o.slots,B c o hc q⟩) (λc o _ q z=>by rw[aj (L c o q)];exact z) (λc o hc q=>⟨o,B c o hc q⟩)
    (λc z q=>by rw[aj (aI q hn)];exact q) (λc o z q=>by rw[aj (aI q hn)];exact q) (λc z q=>⟨#[],by rw[aj (aI q hn),q];simp⟩) (λm hm=>?_) (λc o q=>?_) I.bare
   .obtain⟨V,U,f2,Q,G,F⟩:=hf c hc;exact⟨Q,U,G,F⟩
   .obtain⟨o,R,q2,ho,r⟩:=hm;exact⟨o,R,q2,B _ o (λhc=>(hf _ hc).2.1 rfl) ho,r⟩
   .by_cases hc:c=s.heap.objs.size
    .subst hc;rw[aM] at q;cases q;refine⟨(show 2<=sizeLine by decide),[.int n s.toks,u],.cons ⟨_,rfl⟩ (.cons ru .nil),?_⟩;exact⟨_,sb.extBut _ _ i z3,rfl,_,rfl,rfl⟩
    .rw[aj hc] at q;refine(I.hok c o q).jt (λd w hd z=>B d w ?_ z) (λd z=>by rw[aj (aI z hn)];exact z) λd z r=>by rw[aj (aI r hn)];exact r
     rcases hd with rfl|hd
     .exact C _ _ q
     .exact C _ _ hd
  have N:=λc o hc q=>sb.extBut c o hc q;obtain⟨o1,e1,g⟩:=z2;obtain⟨oi,l,_⟩:=id hi;have en:((n+1:Nat):Int)=(n:Int)+1:=by push_cast;rfl
  refine⟨.ref s.heap.objs.size,_,I2,rfl,⟨s.heap.objs.size,x,rfl,hn,rfl,λxs' R=>?_⟩,⟨⟨_,by rw[en];exact O⟩,⟨o1,N _ _ (Rz D) e1,g⟩⟩,λc hc=>?_⟩
  .rw[I.gp R T];exact hx
  .rw[aj]
   .exact(hf c hc).1
   .rintro rfl;simp only[QC,Ru,or_false] at hc;rcases hc with q|q
    .rw[<-q] at he;exact L _ _ he rfl
    .rw[<-q] at l;exact L _ _ l rfl
 done:=by
  intro X t A f hc n pins s Y H E I hf Z J;subst t A f;obtain⟨xs,T,S⟩:=J;obtain⟨j,y,p,_⟩:=I.list T;obtain⟨⟨old,he⟩,hi⟩:=Z;refine wpAny_pyNext_enum_end (I.ok.hd hc) he hi p.isList (by simpa using y.none_of S) λh' eb=>⟨rfl,?_⟩
  obtain⟨V,U,f2,Q,G,F⟩:=hf it Z4;exact I.turned (λb o hb q=>eb b o hb q) V U Q G F
 self:=λ_ _ _ _ _ Z q=>let ⟨_,he⟩:=Z.he;YH he q
def LA(K:Qr)(ta:TA):TI:=λY H R=>ta Y H λvs V=>∃a xs,vs=[.ref a]/\dM K V a xs/\R (PN K a) V
theorem B4{X:Cx}{e1:Expr}{ta:TA}{p pos:Pos}(hg:Gl X "enumerate")(hm:X.mg "enumerate" = none)(ha:PA X [e1] ta)(hs:Xo [e1] X.env=[(false,eval e1 X.env)]:=by rfl):
  PI X (.Tuple es kk tp) (.Call (.Name "enumerate" p) [e1] [] pos) (LA X.K ta):=by
 intro pins s Y H R I h;refine Call_ (gz I hg hm oQ (RJ (cC (ha pos pins s Y H _ I h) λus s1 ⟨vs,H1,I1,r1,q1⟩=>?_) (by rw[hs];rfl) rfl));obtain⟨a,xs,rfl,qa,q⟩:=q1;obtain⟨u,rfl,r⟩:=r1.one;cases r;obtain⟨its,rv,pa,_⟩:=I1.list qa;refine call_enumerate_list pa.isList λh' z1 z2 z3 keep=>?_;have I2:=I1.kept (t':=s1.toks) keep;refine YH z1 ⟨_,[s1.heap.objs.size+1,s1.heap.objs.size],_,_,H1,rfl,I2,wJ (Nat.succ_ne_self _),⟨⟨_,z1⟩,z2⟩,λc hc=>?_,q⟩;have hle:s1.heap.objs.size<=c:=by simp only[QC,Ru,or_false] at hc;rcases hc with rfl|rfl<;>first|exact RZ _ _|exact QB _
 exact I1.wt hle (I1.hok.fresh hle)
end L2
namespace M
open PySem L2
section
variable{X:Cx}{E:XK}
noncomputable def iz:Nat->List A->List A
 |_,[]=>[]
 |i,a::as=>.tup [.int i,a]::iz (i+1) as
theorem jP:∀(as:List A)(i:Nat),(iz i as).length=as.length
 |[],_=>rfl
 |_::as,i=>by simp only[iz,QF,QF,jP as]
theorem lX:∀(as:List A)(i j:Nat)(a:A),(iz i as)[j]?=some a->∃b,as[j]?=some b/\a=.tup [.int (i+j:Nat),b]
 |[],_,_,_,h=>by simp[iz] at h
 |b::as,i,0,a,h=>by cases h;exact⟨b,rfl,rfl⟩
 |b::as,i,j+1,a,h=>by obtain⟨c,h1,h2⟩:=lX as (i+1) j a h;exact⟨c,by simp only[List.getElem?_cons_succ];exact h1,by rw[h2,show i+1+j=i+(j+1) by lia]⟩
def uL(ma:Mi Rr):Mi (List A):=aT ma λx=>λZ=>match dr [x] Z with
 |some ([.lst as],B)=>some (.ok (iz 0 as),B)
 |_=>none
theorem Dr{e1:Expr}{m:Mi Rr}{p pos:Pos}{es:List Expr}{kk:Nat}{tp:Pos}(hg:Gl X "enumerate")(hm:X.mg "enumerate" = none)(h1:JE X E e1 m)(hs:Xo [e1] X.env=[(false,eval e1 X.env)]:=by rfl)(hs3:Xo [e1] X.env=(false,eval e1 X.env)::Xo [] X.env:=by rfl):
  JI X E (.Tuple es kk tp) (.Call (.Name "enumerate" p) [e1] [] pos) (uL m):=⟨λpins s Y H R I h=>by
 refine B4 hg hm (aU h1.p bY hs3) hs pins s Y H R I ?_;obtain⟨c,Z,τ,O,o,B,ek,b,em,q⟩:=h;refine a9 ek b em (λx v U H1 hv b1 em1=>?_) (dd q);cases ef:dr [x] U with
 |none=>rw[ef] at em1;cases em1
 |some pr=>
  rw[ef] at em1;obtain⟨q1,N⟩:=pr;rcases q1 with _|⟨a1,_|_⟩
  .cases em1
  rotate_left
  .cases a1<;>exact cy em1
  cases a1 with
  |lst as=>
   cases em1;have eK:c.K=X.K:=Y2 Kx.K ek;have b3:=(Bd.dr (rs:=[x]) (vs:=[v]) ⟨hv,trivial⟩ b1 ef).1;obtain⟨L0,bl0,v0⟩:=Bd.mid (xs:=[]) (ss:=[]) rfl b3;cases v0 with
   |lst ve vr=>
   rename_i pv ts;refine⟨pv,ts,rfl,by rw[<-eK];exact eY (g_same _ _ _) ve,q _ H1 [some (.ref pv)] [.lst as] rfl (λc' j H' B F D J T i ek' lx b'=>?_) b3⟩;have eK':c'.K=X.K:=Y2 Kx.K ek';obtain⟨L,bl,v1⟩:=Bd.mid lx b';cases v1 with
   |lst ve vr=>
   rename_i ts';have sv:dM X.K H' pv ts':=by rw[<-eK'];exact eY (g_same _ _ _) ve
   refine⟨λhi=>⟨ts',sv,?_⟩,λa ha=>?_⟩
   .rw[jP] at hi;exact RQ (by rw[vr.len];exact hi)
   .obtain⟨b0,za,rfl⟩:=lX as 0 i a ha;obtain⟨t,g1,g2⟩:=vr.ta za;refine⟨⟨ts',t,sv,g1⟩,λx H2 yy=>?_⟩;obtain⟨tt,x',rfl,hn,rfl,hall⟩:=yy;have z1:=hall ts' sv;rw[g1] at z1;cases z1;obtain⟨b2,sm,np⟩:=bl.new hn;rw[Ud];exact b2.push (.tup (.inl (.inl (by rw[bJ np (bl.Lk hn)];exact aM))) ((bN.cons (.int _) (.cons g2 .nil)).sm sm))
  | _=>cases em1⟩
end
end M
set_option maxHeartbeats 1000000
namespace M
open PySem L2
variable{i j:Nat}{cn:Str}
section
variable{c:Cn}{Y:St}{H:Hp}{Z:List Sl}{τ:St}{O:List Sl}{L:List Addr}
theorem dS.Kw{f:Str}{fs:List (Str×A)}{ls:List (Str×List A)}{xs:List A}(b:dS c Y H Z τ O L)(T:az Z i=some (.nob cn fs ls))(e1:fs.lookup f=none)(e2:ls.lookup f=some xs):
  ∃p C dx ws a ys,Y[i]?=some (some (.ref p))/\H p=some (.ins C dx ws)/\c.mg cn=some (.ref C)/\ws.lookup f=some (.ref a)/\H a=some (.lst ys)/\bN c.toKx (c.g H L) ys xs /\
   ∀u x,bN c.toKx (c.g H L) u x->Bd c Y (upd H a (.lst u)) (setAt Z i (.nob cn fs (ik f x ls))) τ O:=by
 obtain⟨p,q0,h1,h2,q⟩:=b.live T (.nob cn fs ls) (.lst []);cases h2 with
 |nob e m r l=>
  rename_i C dx ws us;obtain⟨a,ys,G,k2,S,I⟩:=l.get e2;have F:ws.lookup f=none:=by
   rcases r.get f with ⟨_,_,_,y,_⟩|⟨y,_⟩
   .rw[e1] at y;cases y
   .exact y
  refine⟨p,C,dx,ws++us,a,ys,h1,e,m,ku F G,S,I,λu x P=>?_⟩;have fin:∀(s t:Sl),Z[i]?=some s->(s=.lv (.nob cn fs ls)/\t=.lv (.nob cn fs (ik f x ls))\/s=.pv (.nob cn fs ls)/\t=.pv (.nob cn fs (ik f x ls)))->Bd c Y (upd H a (.lst u)) (Z.set i t) τ O:=by
   intro s t es E;obtain⟨p',q',w,R,nd,n⟩:=b.MA es E;simp only[h1] at w;cases w;cases R with
   |nob k o r' U=>
    rename_i C' D h X;rw[e] at k;have J:h=ws/\X=us:=by
     have v:h.length=ws.length:=by simp only[r'.len,r.len]
     injection k with k;injection k with _ _ k;exact⟨(We k.symm v).1,(We k.symm v).2⟩
    obtain⟨rfl,rfl⟩:=J;obtain⟨a',N,Q,j,w3,w4⟩:=U.get e2;rw[G] at Q;cases Q;injection k with k;injection k with eC edx _;subst eC edx;refine n a (Qz _ j) λH' B sm=>?_;refine .nob (dx:=dx) ?_ o r' (eN.put U (Q3.mp nd).2 e2 G B (λb d K=>sm b (Qz _ d) K) P);rw[sm p QH λz=>(Q3.mp nd).1 (z▸j)];exact e
  unfold az at T;unfold setAt;cases es:Z[i]? with
  |none=>rw[es] at T;cases T
  |some s=>
   rw[es] at T;cases s with
   |un=>cases T
   |cf _=>cases T
   |fr a=>cases T
   |lv V=>cases T;exact fin _ _ es (.inl ⟨rfl,rfl⟩)
   |pv V=>cases T;exact fin _ _ es (.inr ⟨rfl,rfl⟩)
theorem dS.El{a:A}(b:dS c Y H Z τ O L)(e:Z[j]?=some (.fr a)):∃v,Y[j]?=some (some v)/\RA c.toKx (c.g H L) v a:=by
 obtain⟨u,L2,N,t,l⟩:=au.split b.lt b.rel;obtain⟨x,_,_,_,hx,hs,_⟩:=l.at e;cases hs with
 |fr h=>exact⟨_,hx,h⟩
end
variable{α:Type}
theorem Gf{xs:List α}{a:α}(h:gk xs.length k=some j)(e:xs[j]?=some a):gn xs k=some a:=by
 delta L2.gn
 rw[h];exact e
variable{cs:List Str}{Z:List Sl}{px py p1 p2 pos:Pos}{e:Expr}
section
variable{X:Cx}{E:XK}
def ownAt(cs:List Str)(Z:List Sl)(i:Nat)(f:Str):Option (List A):=match az Z i with
 |some (.nob c fs ls)=>if cs.contains c&&(fs.lookup f).isNone then ls.lookup f else none
 |_=>none
theorem lG{f:Str}{xs:List A}(h:ownAt cs Z i f=some xs):∃c fs ls,az Z i=some (.nob c fs ls)/\cs.contains c=true/\fs.lookup f=none/\ls.lookup f=some xs:=by
 delta ownAt at h
 cases T:az Z i with
 |none=>rw[T] at h;cases h
 |some lo=>
  rw[T] at h;cases lo with
  |nob cn fs ls=>
   by_cases e:(cs.contains cn&&(fs.lookup f).isNone)=true
   .have h:(if (cs.contains cn&&(fs.lookup f).isNone)=true then ls.lookup f else none)=some xs:=h;rw[YY e] at h;rw[Qq,Rv] at e;exact⟨cn,fs,ls,rfl,e.1,e.2,h⟩
   .have h:(if (cs.contains cn&&(fs.lookup f).isNone)=true then ls.lookup f else none)=some xs:=h;rw[YZ e] at h;cases h
  |_=>exact cy h
noncomputable def intAt(Z:List Sl)(j:Nat):Option Int:=match Z[j]? with
 |some (.fr (.int k))=>some k
 |_=>none
theorem iN(h:intAt Z j=some k):Z[j]?=some (.fr (.int k)):=by
 delta intAt at h
 cases e:Z[j]? with
 |none=>rw[e] at h;cases h
 |some s=>
  rw[e] at h;cases s with
  |fr a=>cases a with
   |int i=>cases h;rfl
   |_=>exact cy h
  |_=>exact cy h
def Qf(cs:List Str)(i:Nat)(f:Str)(j:Nat):Mi Rr:=λZ=>match ownAt cs Z i f,intAt Z j with
 |some xs,some k=>match gn xs k with
  |some a=>some (.ok (.fr a),Z)
  |none=>none
 |_,_=>none
def fT(Z:List Sl)(i:Nat)(f:Str)(xs:List A):List Sl:=match az Z i with
 |some (.nob c fs ls)=>setAt Z i (.nob c fs (ik f xs ls))
 |_=>Z
theorem jN{f c:Str}{fs:List (Str×A)}{ls:List (Str×List A)}(xs:List A)(h:az Z i=some (.nob c fs ls)):fT Z i f xs=setAt Z i (.nob c fs (ik f xs ls)):=by delta fT;rw[h]
def fA(cs:List Str)(i:Nat)(f:Str)(j:Nat)(m:Mi Rr):Ms:=c7 m λr Z=>match bS r Z with
 |some (a,U)=>match ownAt cs U i f,intAt U j with
  |some xs,some k=>match gk xs.length k with
   |some n=>some (.nx,fT U i f (xs.set n a))
   |none=>none
  |_,_=>none
 |none=>none
theorem xF{x y f:Str}{m:Mi Rr}(hN:X.N[i]?=some x)(A:jh X.env.scope x)(hd:fg x)(s:km x)
  (Q:X.N[j]?=some y)(G:jh X.env.scope y)(I:fg y)(z:km y)
  (hc:∀c C,cs.contains c=true->X.mg c=some (.ref C)->gy X.K C/\bU X.K C f)
  (V:Xr (.Name x px) f X.env (eval (.Name x px) X.env)=eval (.Name x px) X.env)(he:JE X E e m)
  (hp:∀{J u S:TE},PE X (.Attribute (.Name x px) f p2) J->PE X (.Name y py) u->PE X e S->PS X (.Assign [.Subscript (.Attribute (.Name x px) f p2) (.Name y py) p1] e pos) (rl S (BG J u qp))):
  JS X E (.Assign [.Subscript (.Attribute (.Name x px) f p2) (.Name y py) p1] e pos) (fA cs i f j m):=
 ⟨PS.weaken (hp (eZ (bH hN A hd s) V) (bH Q G I z) he.p) λD Y H h=>by
  obtain⟨c,Z,τ,O,fl,B,d,b,em,q⟩:=h;refine dU d b em q λr v U H1 A b1 F=>?_;cases P:bS r U with
  |none=>rw[P] at F;cases F
  |some pr=>
   obtain⟨a,Z'⟩:=pr;rw[P] at F;dsimp only at F;have b2:=Bd.bS (xs:=[]) (ss:=[]) rfl b1 A P;cases e1:ownAt cs Z' i f with
   |none=>rw[e1] at F;cases F
   |some xs=>
    rw[e1] at F;cases e2:intAt Z' j with
    |none=>rw[e2] at F;cases F
    |some k=>
     rw[e2] at F;dsimp only at F;cases R:gk xs.length k with
     |none=>rw[R] at F;cases F
     |some n=>
      simp only[R] at F;cases F;obtain⟨cn,fs,ls,T,o,g,l⟩:=lG e1;obtain⟨L,bl,ra⟩:=Bd.tq b2;obtain⟨p,C,dx,ws,a',ys,h1,h2,h3,h4,h5,t,h7⟩:=bl.Kw T g l;obtain⟨w,k1,k2⟩:=bl.El (iN e2);cases k2;have e4:X.mg cn=some (.ref C):=by have:=Y2 (λk:Kx=>k.mg cn) d;simp only at this;rw[<-this];exact h3
      obtain⟨c1,c2⟩:=hc cn C o e4;rw[jN _ T] at q;exact⟨_,h1,p,C,dx,ws,_,rfl,h2,c1,c2,h4,_,k1,a',ys,k,n,rfl,rfl,h5,by rw[t.len];exact R,q Y _ (h7 _ _ (t.set ra n))⟩⟩
end
variable{K:Kx}
section
open PyProof.Rows
noncomputable def tU(ns:List Int):Int:=ns.getD (argBest (λi j=>decide (ns.getD i 0 > ns.getD j 0)) (ns.length-1)) 0
section
variable{X:Cx}{E:XK}
def EH(K:Qr):List V->Hp->VK->Prop:=λus H Q=>∃(a:Addr)(ns:List Int),us=[.ref a]/\dM K H a (ns.map V.int)/\ns≠[]/\Q (.int (rZ ns)) H
theorem xx(hc:X.calm=true):c6 X (.builtin "min") (EH X.K):=by
 intro pins s Y H vs us Q I y h;obtain⟨a,ns,rfl,l,V,q⟩:=h;obtain⟨u,rfl,G⟩:=y.one;cases G;obtain⟨j,r,p,hz⟩:=I.list l;obtain⟨xs,e1,e2⟩:=iW r;simp only[e1] at p;have N:=p.isList;have Z:=let ⟨_,e,_⟩:=N;QM e
 have hsz:xs.length=ns.length:=by simp only[<-e2,Qt]
 have b:=VL.mpr V;refine call_min_walk (XR N ?_);refine⟨_,[_,a],[_],_,_,_,_,rfl,UZ (A:=X.A.in1) (I.ok.hd hc) _ a (Q8 Z) (X0 xs.toArray),
  ⟨⟨_,Q5 _ rfl,rfl,rfl⟩,N.push _⟩,λc hc=>?_,by simp[X0,hsz,b],CmpOf.ints_lt (numAt xs.toArray) (λ_ _=>Yy),λv h' tk m hk=>?_⟩
 .show c<(s.heap.push _).objs.size;rw[Sr];rcases QC.mp hc with rfl|hc
  .exact Rc _
  .rcases QC.mp hc with rfl|hc
   .exact QQ Z
   .cases hc
 .have x:=λc o e=>by
   refine hk c o (λhm=>?_) (QG _ e);rcases QC.mp hm with e1|hm
   .have:=QM e;rw[e1] at this;exact QU _ this
   .cases hm
  have en:numAt xs.toArray=λi=>ns.getD i 0:=funext λi=>by rw[<-e2];unfold numAt;simp only[Vu,QX,Q0]
  have w:∃t,v=.int (rZ ns) t:=by obtain⟨t,P⟩:=Yy m;simp only[P,en];unfold rZ;simp[X0,hsz]
  obtain⟨t,rfl⟩:=w;exact⟨.int (rZ ns),H,I.kept x,⟨t,rfl⟩,q⟩
def qX:A->Option Rr
 | .lst as=>match eu as with
  |some ns=>if ns=[] then none else some (.fr (.int (rZ ns)))
  |none=>none
 |_=>none
theorem Ct:sx K (λv=>EH K.K [v]) qX:=.scalar λH v a q g h=>by
 cases a<;>first|(exact cy h)|skip
 rename_i as;cases g with
 |lst e r=>
  unfold qX at h;cases e1:eu as with
  |none=>simp only[e1] at h;cases h
  |some ns=>
   simp only[e1] at h;split at h
   .cases h
   .rename_i hn;cases h;have P:=iY r e1;subst P;exact⟨_,_,rfl,λ_=>.int _,λQ k=>⟨_,ns,rfl,e,hn,k⟩⟩
def Fq(K:Qr):List V->Hp->VK->Prop:=λus H Q=>∃(a:Addr)(ns:List Int),us=[.ref a]/\dM K H a (ns.map V.int)/\ns≠[]/\Q (.int (tU ns)) H
theorem xG(hc:X.calm=true):c6 X (.builtin "max") (Fq X.K):=by
 intro pins s Y H vs us Q I y h;obtain⟨a,ns,rfl,l,V,q⟩:=h;obtain⟨u,rfl,G⟩:=y.one;cases G;obtain⟨j,r,p,hz⟩:=I.list l;obtain⟨xs,e1,e2⟩:=iW r;simp only[e1] at p;have N:=p.isList;have Z:=let ⟨_,e,_⟩:=N;QM e
 have hsz:xs.length=ns.length:=by simp only[<-e2,Qt]
 have b:=VL.mpr V;refine call_max_walk (XR N ?_);refine⟨_,[_,a],[_],_,_,_,_,rfl,UZ (A:=X.A.in1) (I.ok.hd hc) _ a (Q8 Z) (X0 xs.toArray),
  ⟨⟨_,Q5 _ rfl,rfl,rfl⟩,N.push _⟩,λc hc=>?_,by simp[X0,hsz,b],CmpOf.ints_gt (numAt xs.toArray) (λ_ _=>Yy),λv h' tk m hk=>?_⟩
 .show c<(s.heap.push _).objs.size;rw[Sr];rcases QC.mp hc with rfl|hc
  .exact Rc _
  .rcases QC.mp hc with rfl|hc
   .exact QQ Z
   .cases hc
 .have x:=λc o e=>by
   refine hk c o (λhm=>?_) (QG _ e);rcases QC.mp hm with e1|hm
   .have:=QM e;rw[e1] at this;exact QU _ this
   .cases hm
  have en:numAt xs.toArray=λi=>ns.getD i 0:=funext λi=>by rw[<-e2];unfold numAt;simp only[Vu,QX,Q0]
  have w:∃t,v=.int (tU ns) t:=by obtain⟨t,P⟩:=Yy m;simp only[P,en];unfold tU;simp[X0,hsz]
  obtain⟨t,rfl⟩:=w;exact⟨.int (tU ns),H,I.kept x,⟨t,rfl⟩,q⟩
def q9:A->Option Rr
 | .lst as=>match eu as with
  |some ns=>if ns=[] then none else some (.fr (.int (tU ns)))
  |none=>none
 |_=>none
theorem Ed:sx K (λv=>Fq K.K [v]) q9:=.scalar λH v a q g h=>by
 cases a<;>first|(exact cy h)|skip
 rename_i as;cases g with
 |lst e r=>
  unfold q9 at h;cases e1:eu as with
  |none=>simp only[e1] at h;cases h
  |some ns=>
   simp only[e1] at h;split at h
   .cases h
   .rename_i hn;cases h;have P:=iY r e1;subst P;exact⟨_,_,rfl,λ_=>.int _,λQ k=>⟨_,ns,rfl,e,hn,k⟩⟩
end
end
section
open PyProof.Rows PySem.W
theorem uN:∀{ns:List Int}{us:List Value}{i:Int}{j:Nat},Vals (ns.map V.int) us->t5 ns i=some j->kf_ints us=true/\kf_at i us=some j
 |[],_,_,_,.nil,h=>nomatch h
 |n::ns,_,i,j,.cons h r,e=>by
  obtain⟨t,rfl⟩:=h;have H:∀{ns:List Int}{us:List Value},Vals (ns.map V.int) us->kf_ints us=true:=λ{ns}=>by
   induction ns with
   |nil=>intro us r;cases r;rfl
   |cons n ns m=>intro us r;cases r with|cons h r=>obtain⟨t,rfl⟩:=h;have z:=m r;exact z
  refine⟨H (ns:=n::ns) (.cons ⟨t,rfl⟩ r),?_⟩;by_cases c:n=i
  .subst c;have e:(if n=n then some 0 else (t5 ns n).map (·+1))=some j:=e;rw[YY rfl] at e;cases e;show cond (n==n) _ _=_;rw[beq_self_eq_true];rfl
  .have e:(if n=i then some 0 else (t5 ns i).map (·+1))=some j:=e;rw[YZ c] at e;cases e2:t5 ns i with
   |none=>rw[e2] at e;cases e
   |some R=>rw[e2] at e;cases e;have:=(uN r e2).2;show cond (n==i) _ (match kf_at i _ with|some j=>some (j+1)|none=>none)=_;rw[this,beq_eq_false_iff_ne.mpr c];rfl
section
open PySem.Builtin PyProof.Rows PySem.W
noncomputable def O3(j:Array Value)(n:Nat)(sl:Array (Option Value)):Obj:={ cls:=.type "list",dict:=none,data:=.seq j n,slots:=sl }
theorem qM{a:Addr}{b:Array Value}{n:Nat}{sl:Array (Option Value)}{v:Int}{t:Tok}(hi:kf_ints b.toList=true){j:Nat}(k:j<b.size)(b1:isInt v b[j]=true)(L:∀m (h:m<b.size),m<j->isInt v b[m]=false){up:Int}(I:(j:Int)<up):
  ∀d i,i+d=j->Meets (Builtin.«list.index.loop» ⟨[.ref a,.int v t,rawInt ((i:Nat):Int),rawInt up],[]⟩) λ_ R s=>s.heap.get? a=some (O3 b n sl)/\R (.ok (.ret (.int j s.toks))) { s with toks:=s.toks+1 }
 |0,i,e=>by
  obtain rfl:i=j:=e;rintro prog w A R ⟨hp,g,dp,tk,os⟩ ⟨hl,h⟩
  wp_walk using Yv hl
  rw[show (if ((i:Nat):Int)<up then b[((i:Nat):Int).toNat]? else none)=some b[i] by rw[YY I,SU];exact U4 k];refine Xp (kf_eq hi _ Z4 prog w _ _ _ _ ?_);rw[b1]
  wp_walk
  exact h
 |d+1,i,e=>by
  rintro prog w A R ⟨hp,g,dp,tk,os⟩ ⟨hl,h⟩;have H:=hl
  delta O3 at hl
  wp_walk using Yv hl
  have lt:i<b.size:=by lia
  rw[show (if ((i:Nat):Int)<up then b[((i:Nat):Int).toNat]? else none)=some b[i] by rw[YY Q1,SU];exact U4 lt];refine Xp (kf_eq hi _ Z4 prog w _ _ _ _ ?_);rw[L i lt Q1]
  wp_walk
  exact⟨plainId_quiet Tj _,codeAny_builtin UT (by rw[XA.under_plainId Tj _];exact qM hi k b1 L I d (i+1) Q1 prog w A R _ ⟨H,h⟩)⟩
theorem vW{a:Addr}{b:Array Value}{n:Nat}{sl:Array (Option Value)}{v:Int}{t:Tok}(hi:kf_ints b.toList=true)(k:j<b.size)(b1:isInt v b[j]=true)(L:∀m (h:m<b.size),m<j->isInt v b[m]=false)(I:(j:Int)<2^63-1):
  Meets (Builtin.«list.index» ⟨[.ref a,.int v t],[]⟩) λ_ R s=>s.heap.get? a=some (O3 b n sl)/\R (.ok (.ret (.int j s.toks))) { s with toks:=s.toks+1 }:=by
 rintro prog w A R ⟨hp,g,dp,tk,os⟩ ⟨hl,h⟩;have H:=hl
 wp_walk using Yv hl
 exact⟨plainId_quiet Tj _,codeAny_builtin UT (by exact qM hi k b1 L I j 0 (Ud j) prog w A R _ ⟨H,h⟩)⟩
end
section
variable{X:Cx}{E:XK}
def Fd(K:Qr):V->List V->Hp->VK->Prop:=λx us H Q=>∃(a:Addr)(ns:List Int)(i:Int)(j:Nat),x=.ref a/\us=[.int i]/\dM K H a (ns.map V.int)/\t5 ns i=some j/\Q (.int j) H
theorem zP:NG X "list.index" (Fd X.K):=by
 intro pins s Y H x vs v us Q I o y h;obtain⟨a,ns,i,j,rfl,rfl,l,k,q⟩:=h;cases o;obtain⟨u,rfl,G⟩:=y.one;obtain⟨t,rfl⟩:=G;obtain⟨b,r,⟨⟨oc,od,O,osl⟩,n,p,R,B,C⟩,hz⟩:=I.list l;cases R;cases B;cases C;obtain⟨h1,h2⟩:=uN r k;obtain⟨a1,b1,L⟩:=kf_at_spec h2;have hl:b.length<=sizeLine:=by rw[<-r.length];exact hz
 rw[XI] at hl;refine X8 TF ⟨_,p,rfl⟩ PySem.F.entry_list_index (PySem.F.args_list_index_2 _ _) (vW (n:=n) (sl:=osl) (by simpa using h1) (j:=j) (by simpa using a1) (by simpa using b1) (λm hm Z=>by simpa using L m (by simpa using hm) Z) Q1) ⟨p,?_⟩;exact⟨.int j,H,I.tok _,⟨_,rfl⟩,q⟩
end
end
variable{Y τ:St}{H:Hp}{c:Cn}{O:List Sl}{L:List Addr}{apos cpos:Pos}
section
variable{X:Cx}{E:XK}
def oY(X:Cx)(e:Expr)(g:List Sl->Option A):Prop:=∃s,PE X e s/\∀{c:Cn}{Y:St}{H:Hp}{Z:List Sl}{τ:St}{O:List Sl}{L:List Addr}{a:A},dS c Y H Z τ O L->g Z=some a->∃v,(∀Q:VK,Q v H->s Y H Q)/\RA c.toKx (c.g H L) v a
noncomputable def xJ(j:Nat)(Z:List Sl):Option A:=match Z[j]? with
 |some (.fr a)=>some a
 |_=>none
theorem zN{a:A}(h:xJ j Z=some a):Z[j]?=some (.fr a):=by
 delta xJ at h
 cases e:Z[j]? with
 |none=>rw[e] at h;cases h
 |some s=>
  rw[e] at h;cases s with
  |fr a=>cases h;rfl
  |_=>exact cy h
theorem wO{y:Str}(hN:X.N[j]?=some y)(A:jh X.env.scope y)(hd:fg y)(p:km y):oY X (.Name y py) (xJ j):=
 ⟨_,bH hN A hd p,λb h=>by obtain⟨v,h1,h2⟩:=b.El (zN h);exact⟨v,λQ q=>⟨v,h1,q⟩,h2⟩⟩
noncomputable def AS(k:Int)(_:List Sl):Option A:=some (.int k)
theorem ye(h:PE X e (tC (.int k))):oY X e (AS k):=
 ⟨_,h,λ_ e=>by cases e;exact⟨_,λQ q=>q,.int _⟩⟩
def BZ(Y:St)(H:Hp)(i:Nat)(f:Str)(a:Addr):Prop:=∃p C dx ws,Y[i]?=some (some (.ref p))/\H p=some (.ins C dx ws)/\ws.lookup f=some (.ref a)
theorem BZ.one{f:Str}{a b:Addr}(h:BZ Y H i f a)(h':BZ Y H i f b):a=b:=by obtain⟨p,C,dx,ws,h1,h2,h3⟩:=h;obtain⟨E,R,D,q,g,V,l⟩:=h';rw[h1] at g;cases g;rw[h2] at V;cases V;rw[h3] at l;cases l;rfl
theorem fS{f:Str}{xs:List A}(y:c.toKx=kx X)(hc:∀c C,cs.contains c=true->X.mg c=some (.ref C)->gy X.K C/\bU X.K C f)(bl:dS c Y H Z τ O L)(e1:ownAt cs Z i f=some xs):
  ∃a ys,BZ Y H i f a/\(∀Q:VK,Q (.ref a) H->DM X.K (lE i) f Y H Q)/\H a=some (.lst ys)/\bN c.toKx (c.g H L) ys xs/\∀u x,bN c.toKx (c.g H L) u x->Bd c Y (upd H a (.lst u)) (fT Z i f x) τ O:=by
 obtain⟨cn,fs,ls,T,b,h,V⟩:=lG e1;obtain⟨p,C,dx,ws,a,ys,h1,h2,h3,h4,h5,t,e⟩:=bl.Kw T h V;have v:X.mg cn=some (.ref C):=by have:=Y2 (λk:Kx=>k.mg cn) y;simp only at this;rw[<-this];exact h3
 obtain⟨s,J⟩:=hc cn C b v;exact⟨a,ys,⟨p,C,dx,ws,h1,h2,h4⟩,λQ q=>⟨_,h1,p,C,dx,ws,_,rfl,h2,s,J,h4,q⟩,h5,t,λu x r=>by rw[jN _ T];exact e _ _ r⟩
def fY(cs:List Str)(i:Nat)(f:Str)(g:List Sl->Option A):Mi Rr:=λZ=>match ownAt cs Z i f,g Z with
 |some xs,some (.int k)=>match eu xs with
  |some ns=>match t5 ns k with
   |some j=>some (.ok (.fr (.int j)),Z)
   |none=>none
  |none=>none
 |_,_=>none
theorem xt{x f:Str}{g:List Sl->Option A}(hN:X.N[i]?=some x)(S:jh X.env.scope x)(hd:fg x)(z:km x)
  (hc:∀c C,cs.contains c=true->X.mg c=some (.ref C)->gy X.K C/\bU X.K C f)
  (d:Xr (.Name x px) f X.env (eval (.Name x px) X.env)=eval (.Name x px) X.env)(he:oY X e g)
  (p:Xr (.Attribute (.Name x px) f p1) "index" X.env (eval (.Attribute (.Name x px) f p1) X.env)=eval (.Attribute (.Name x px) f p1) X.env)
  (r:((Xw cpos (Xo [e] X.env)).all (λx=>!x.1)&&(XD cpos (Xy [] X.env)).all (λx=>x.1.isSome)&&decide (([e]:List Expr).length+([]:List XB).length+(if ([]:List XB).isEmpty then 0 else 1)<30))=true)
  (U:(apos.endLine==cpos.line)=true)(hs:Xo [e] X.env=(false,eval e X.env)::Xo [] X.env)(m:(Xw cpos (Xo [] X.env)).any (·.1)=false):
  JE X E (.Call (.Attribute (.Attribute (.Name x px) f p1) "index" apos) [e] [] cpos) (fY cs i f g):=by
 obtain⟨I,he,l⟩:=he;exact⟨PE.weaken (kb RC TF U5 zP (eZ (bH hN S hd z) d) (aU he bY hs) p r U hs m) λY H Q h=>by
  obtain⟨c,Z,τ,O,o,B,y,b,em,q⟩:=h
  delta fY at em
  cases e1:ownAt cs Z i f with
  |none=>rw[e1] at em;cases em
  |some xs=>
   cases e2:g Z with
   |none=>rw[e1,e2] at em;cases em
   |some a=>
    rw[e1,e2] at em;cases a with
    |int k=>
     dsimp only at em;cases F:eu xs with
     |none=>rw[F] at em;cases em
     |some ns=>
      rw[F] at em;dsimp only at em;cases w:t5 ns k with
      |none=>rw[w] at em;cases em
      |some j=>rw[w] at em;cases em;obtain⟨L,bl⟩:=b;obtain⟨a,ys,_,h1,h5,t,_⟩:=fS y hc bl e1;obtain⟨v,G,D⟩:=l bl e2;cases D;have s:=iY t F;subst s;refine h1 _ ⟨.inl ⟨rfl,_,.inl (.inl h5)⟩,?_⟩;exact G _ ⟨a,ns,k,j,rfl,rfl,.of h5,w,q _ H trivial (bl.push (.int _))⟩
    | _=>cases em⟩
def qD(cs:List Str)(i:Nat)(f:Str)(g:List Sl->Option A):Mi Rr:=λZ=>match ownAt cs Z i f,g Z with
 |some xs,some a=>if xs.length<=100000 then some (.ok (.fr .non),fT Z i f (xs++[a])) else none
 |_,_=>none
theorem CW{x f:Str}{g:List Sl->Option A}(hN:X.N[i]?=some x)(w:jh X.env.scope x)(hd:fg x)(z:km x)
  (hc:∀c C,cs.contains c=true->X.mg c=some (.ref C)->gy X.K C/\bU X.K C f)
  (d:Xr (.Name x px) f X.env (eval (.Name x px) X.env)=eval (.Name x px) X.env)(he:oY X e g)
  (k:Xr (.Attribute (.Name x px) f p1) "append" X.env (eval (.Attribute (.Name x px) f p1) X.env)=eval (.Attribute (.Name x px) f p1) X.env)
  (r:((Xw cpos (Xo [e] X.env)).all (λx=>!x.1)&&(XD cpos (Xy [] X.env)).all (λx=>x.1.isSome)&&decide (([e]:List Expr).length+([]:List XB).length+(if ([]:List XB).isEmpty then 0 else 1)<30))=true)
  (U:(apos.endLine==cpos.line)=true)(hs:Xo [e] X.env=(false,eval e X.env)::Xo [] X.env)(m:(Xw cpos (Xo [] X.env)).any (·.1)=false):
  JE X E (.Call (.Attribute (.Attribute (.Name x px) f p1) "append" apos) [e] [] cpos) (qD cs i f g):=by
 obtain⟨s,he,l⟩:=he;exact⟨PE.weaken (kb RC Tu Tv jX (eZ (bH hN w hd z) d) (aU he bY hs) k r U hs m) λY H Q h=>by
  obtain⟨c,Z,τ,O,o,B,y,b,em,q⟩:=h
  delta qD at em
  cases e1:ownAt cs Z i f with
  |none=>rw[e1] at em;cases em
  |some xs=>
   cases e2:g Z with
   |none=>rw[e1,e2] at em;cases em
   |some a=>
    rw[e1,e2] at em;dsimp only at em;by_cases hl:xs.length<=100000
    .rw[YY hl] at em;cases em;obtain⟨L,bl⟩:=b;obtain⟨p,ys,_,h1,h5,t,j⟩:=fS y hc bl e1;obtain⟨v,G,D⟩:=l bl e2;refine h1 _ ⟨.inl ⟨rfl,_,.inl (.inl h5)⟩,?_⟩;exact G _ ⟨p,ys,v,rfl,rfl,h5,by have:=t.len;have:=XI;lia,q _ _ trivial (Bd.push (j _ _ (t.snoc D)) λ_=>.non)⟩
    .rw[YZ hl] at em;cases em⟩
def rJ(cs:List Str)(i:Nat)(f:Str)(g:List Sl->Option A):Mi Rr:=λZ=>match ownAt cs Z i f,g Z with
 | some xs,some (.int k)=>if k.natAbs<2^62 then (match XT k xs.length with
  |some n=>match xs[n]? with
   |some a=>some (.ok (.fr a),fT Z i f (xs.eraseIdx n))
   |none=>none
  | none=>none) else none
 |_,_=>none
theorem bN.one{k:Kx}{G:Hp}{a:A}:∀{vs:List V}{as:List A}{n:Nat},bN k G vs as->as[n]?=some a->∃v,vs[n]?=some v/\RA k G v a
 |_,_,_,.nil,h=>nomatch h
 |_,_,0,.cons h r,e=>by cases e;exact⟨_,rfl,h⟩
 |_,_,n+1,.cons h r,e=>bN.one r (n:=n) e
theorem D8{x f:Str}{g:List Sl->Option A}(hN:X.N[i]?=some x)(S:jh X.env.scope x)(hd:fg x)(s:km x)
  (hc:∀c C,cs.contains c=true->X.mg c=some (.ref C)->gy X.K C/\bU X.K C f)
  (d:Xr (.Name x px) f X.env (eval (.Name x px) X.env)=eval (.Name x px) X.env)(he:oY X e g)
  (r:Xr (.Attribute (.Name x px) f p1) "pop" X.env (eval (.Attribute (.Name x px) f p1) X.env)=eval (.Attribute (.Name x px) f p1) X.env)
  (z:((Xw cpos (Xo [e] X.env)).all (λx=>!x.1)&&(XD cpos (Xy [] X.env)).all (λx=>x.1.isSome)&&decide (([e]:List Expr).length+([]:List XB).length+(if ([]:List XB).isEmpty then 0 else 1)<30))=true)
  (U:(apos.endLine==cpos.line)=true)(hs:Xo [e] X.env=(false,eval e X.env)::Xo [] X.env)(m:(Xw cpos (Xo [] X.env)).any (·.1)=false):
  JE X E (.Call (.Attribute (.Attribute (.Name x px) f p1) "pop" apos) [e] [] cpos) (rJ cs i f g):=by
 obtain⟨te,he,l⟩:=he;exact⟨PE.weaken (kb RC Vf Vg rp (eZ (bH hN S hd s) d) (aU he bY hs) r z U hs m) λY H Q h=>by
  obtain⟨c,Z,τ,O,o,B,y,b,em,q⟩:=h
  delta rJ at em
  cases e1:ownAt cs Z i f with
  |none=>rw[e1] at em;cases em
  |some xs=>
   cases e2:g Z with
   |none=>rw[e1,e2] at em;cases em
   |some a=>
    rw[e1,e2] at em;cases a with
    |int k=>
     dsimp only at em;by_cases hl:k.natAbs<2^62
     .rw[YY hl] at em;cases F:XT k xs.length with
      |none=>rw[F] at em;cases em
      |some n=>
       rw[F] at em;dsimp only at em;cases w:xs[n]? with
       |none=>rw[w] at em;cases em
       |some a=>rw[w] at em;cases em;obtain⟨L,bl⟩:=b;obtain⟨p,ys,j,h1,h5,t,_⟩:=fS y hc bl e1;obtain⟨v,G,D⟩:=l bl e2;cases D;obtain⟨u,I,P⟩:=bN.one t w;refine h1 _ ⟨.inl ⟨rfl,_,.inl (.inl h5)⟩,?_⟩;obtain⟨L2,b2⟩:=bl.push P;obtain⟨p2,R,J,_,T,V,g7⟩:=fS y hc b2 e1;obtain rfl:=j.one J;rw[h5] at T;cases T;exact G _ ⟨p,ys,k,n,u,rfl,rfl,h5,by lia,by lia,by rw[t.len];exact F,I,q _ _ trivial (g7 _ _ (bN.erase n V))⟩
     .rw[YZ hl] at em;cases em
    | _=>cases em⟩
end
variable{te:TE}{p:Pos}
section
variable{X:Cx}{E:XK}
def wK(neg:Bool)(cs:List Str)(i:Nat)(f:Str)(g:List Sl->Option A):Mi Rr:=λZ=>match ownAt cs Z i f,g Z with
 |some xs,some a=>if fm a&&xs.all fm then some (.ok (.fr (.bl (if neg then !Fn (kE a) (xs.map kE) else Fn (kE a) (xs.map kE)))),Z) else none
 |_,_=>none
theorem BC{neg:Bool}{f:Str}{g:List Sl->Option A}(hc:∀c C,cs.contains c=true->X.mg c=some (.ref C)->gy X.K C/\bU X.K C f)
  (l:∀{c:Cn}{Y:St}{H:Hp}{Z:List Sl}{τ:St}{O:List Sl}{L:List Addr}{a:A},dS c Y H Z τ O L->g Z=some a->∃v,(∀Q:VK,Q v H->te Y H Q)/\RA c.toKx (c.g H L) v a)
  (Y:St)(H:Hp)(Q:VK)(h:kj (kx X) E (wK neg cs i f g) Y H Q):JJ (Me X.K neg) te (DM X.K (lE i) f) Y H Q:=by
 obtain⟨c,Z,τ,O,o,B,y,b,em,q⟩:=h
 delta wK at em
 cases e1:ownAt cs Z i f with
 |none=>rw[e1] at em;cases em
 |some xs=>
  cases e2:g Z with
  |none=>rw[e1,e2] at em;cases em
  |some a=>
   rw[e1,e2] at em;dsimp only at em;by_cases hl:(fm a&&xs.all fm)=true
   .rw[YY hl] at em;simp only[Qq] at hl;cases em;obtain⟨L,bl⟩:=b;obtain⟨p,ys,_,h1,h5,t,_⟩:=fS y hc bl e1;obtain⟨v,G,D⟩:=l bl e2;obtain⟨rfl,h2⟩:=sF D hl.1;obtain⟨rfl,h4⟩:=pX t hl.2;exact G _ (h1 _ ⟨p,_,rfl,.inl (.of h5),h2,h4,q _ H trivial (bl.push (.bl _))⟩)
   .rw[YZ hl] at em;cases em
theorem G5{x f:Str}{g:List Sl->Option A}(hN:X.N[i]?=some x)(w:jh X.env.scope x)(hd:fg x)(p:km x)
  (hc:∀c C,cs.contains c=true->X.mg c=some (.ref C)->gy X.K C/\bU X.K C f)
  (d:Xr (.Name x px) f X.env (eval (.Name x px) X.env)=eval (.Name x px) X.env)(he:oY X e g)(hm:XE .In (.Attribute (.Name x px) f p1)=false):
  JT X E (.Compare e [.In] [.Attribute (.Name x px) f p1] pos) (ay (wK false cs i f g)):=by
 obtain⟨te,he,l⟩:=he;exact⟨PT.weaken (ui jQ he (eZ (bH hN w hd p) d) hm) λY H Q h=>BC hc l Y H _ (hZ Y H Q h)⟩
def jH(cs:List Str)(i:Nat)(f:Str):Mi Rr:=λZ=>match ownAt cs Z i f with
 |some xs=>some (.ok (.fr (.int xs.length)),Z)
 |none=>none
theorem DZ{x f y:Str}(hN:X.N[i]?=some x)(hv:jh X.env.scope x)(hd:fg x)(hcd:km x)
  (hc:∀c C,cs.contains c=true->X.mg c=some (.ref C)->gy X.K C/\bU X.K C f)
  (hb:Xr (.Name x px) f X.env (eval (.Name x px) X.env)=eval (.Name x px) X.env)
  (hg:Gl X y)(hm:X.mg y=none)(hv2:Xq y=some (.builtin "len"))(hn:y ≠ "__name__")(hdb:fg y)(hs:Xo [.Attribute (.Name x px) f p1] X.env=(false,eval (.Attribute (.Name x px) f p1) X.env)::Xo [] X.env:=by rfl)(hp:(Xw pos (Xo [] X.env)).any (·.1)=false:=by rfl):
  JE X E (.Call (.Name y p) [.Attribute (.Name x px) f p1] [] pos) (jH cs i f):=
 ⟨PE.weaken (je pE hg hm hv2 (aU (eZ (bH hN hv hd hcd) hb) bY hs) hn hdb hs hp) λY H Q h=>by
  obtain⟨c,Z,τ,O,o,B,ek,b,em,q⟩:=h
  delta jH at em
  cases e1:ownAt cs Z i f with
  |none=>rw[e1] at em;cases em
  | some xs=>rw[e1] at em;cases em;obtain⟨L,bl⟩:=b;obtain⟨p,ys,_,h1,h5,h6,_⟩:=fS ek hc bl e1;exact h1 _ ⟨p,ys,rfl,.inl (.of h5),by rw[h6.len];exact q _ H trivial (bl.push (.int _))⟩⟩
def oG(cs:List Str)(i:Nat)(f:Str)(g:List Sl->Option A):Mi Rr:=λZ=>match ownAt cs Z i f,g Z with
 |some xs,some (.int k)=>match gn xs k with
  |some a=>some (.ok (.fr a),Z)
  |none=>none
 |_,_=>none
theorem Jk{x f:Str}{g:List Sl->Option A}(hN:X.N[i]?=some x)(w:jh X.env.scope x)(hd:fg x)(z:km x)
  (hc:∀c C,cs.contains c=true->X.mg c=some (.ref C)->gy X.K C/\bU X.K C f)
  (d:Xr (.Name x px) f X.env (eval (.Name x px) X.env)=eval (.Name x px) X.env)(he:oY X e g)(hs:jf e):
  JE X E (.Subscript (.Attribute (.Name x px) f p1) e pos) (oG cs i f g):=by
 obtain⟨te,he,l⟩:=he;exact⟨PE.weaken (zR pB (eZ (bH hN w hd z) d) he hs) λY H Q h=>by
  obtain⟨c,Z,τ,O,o,B,y,b,em,q⟩:=h
  delta oG at em
  cases e1:ownAt cs Z i f with
  |none=>rw[e1] at em;cases em
  |some xs=>
   cases e2:g Z with
   |none=>rw[e1,e2] at em;cases em
   |some a=>
    rw[e1,e2] at em;cases a with
    |int k=>
     dsimp only at em;cases F:gn xs k with
     |none=>rw[F] at em;cases em
     |some a=>rw[F] at em;cases em;obtain⟨L,bl⟩:=b;obtain⟨p,ys,_,h1,h5,t,_⟩:=fS y hc bl e1;obtain⟨v,G,D⟩:=l bl e2;cases D;obtain⟨u,I,j⟩:=t.gn F;exact h1 _ (G _ ⟨p,ys,k,u,rfl,rfl,.of h5,I,q u H trivial (bl.push j)⟩)
    | _=>cases em⟩
end
section
variable{k:Kx}{G G' H:Hp}
theorem au.Fs:∀{Y:St}{Z:List Sl}{L:List Addr},(∀{x:Option V}{t:Sl}{L:List Addr}(j:Nat),Y[j]?=some x->Z[j]?=some t->eH k G H x t L->eH k G' H x t L)->au k G H Y Z L->au k G' H Y Z L
 |_,_,_,_,.nil=>.nil
 |_,_,_,f,.cons h r=>.cons (f 0 rfl rfl h) (au.Fs (λj hs a=>f (j+1) (by simpa using hs) (by simpa using a)) r)
theorem au.EY:∀{Y:St}{Z:List Sl}{L:List Addr}{j:Nat}{t:Sl},au k G H Y Z L->Z[j]?=some t->∃x D b L2,Y[j]?=some x/\eH k G H x t b/\L=D++(b++L2) /\
  ∀{G':Hp}{t':Sl}{L':List Addr},(∀{x:Option V}{t:Sl}{L:List Addr}(n:Nat),Y[n]?=some x->Z[n]?=some t->n≠j->eH k G H x t L->eH k G' H x t L)->eH k G' H x t' L'->au k G' H Y (Z.set j t') (D++(L'++L2))
 |_,_,_,j,t,.nil,e=>by simp at e
 |x::Y,u::Z,_,0,t,.cons (L:=La) (L':=Lb) h r,e=>by cases e;refine⟨x,[],La,Lb,rfl,h,rfl,λ{G2 w q} f h'=>?_⟩;simp only[Uc];exact .cons h' (au.Fs (λn hs hn=>f (n+1) (by simpa using hs) (by simpa using hn) (UU n)) r)
 |x::Y,u::Z,_,j+1,t,.cons (L:=La) h r,e=>by obtain⟨y,D,b,L2,h1,h3,h2,h4⟩:=au.EY r (by simpa using e);refine⟨y,La++D,b,L2,by simpa using h1,h3,by simp only[h2,Qw],λf h'=>?_⟩;have:=h4 (λn hs hn K=>f (n+1) (by simpa using hs) (by simpa using hn) (λz=>K (V1 z))) h';simp only[Qw];exact .cons (f 0 rfl rfl (UU j).symm h) this
end
section
variable{c:Cn}{Y:St}{H:Hp}{Z:List Sl}{τ:St}{O:List Sl}
theorem Bd.MC{s:Sl}{fs:List (Str×A)}{ls:List (Str×List A)}(b:Bd c Y H Z τ O)(es:Z[i]?=some s)(hs:s=.lv (.nob cn fs ls)\/s=.pv (.nob cn fs ls)):
  ∃J:Cn,J.toKx=c.toKx/\Bd J Y H (Z.set i (.fr (LO.nob cn fs ls).a)) [] []/\∀H' U B X,Bd J Y H' U B X->(∃a,U[i]?=some (.fr a))->(∀j t,j≠i->U[j]?=some t->xO t=true\/∃a,t=.fr a/\Z[j]?=some (.fr a))->X.all xO=true->(∀f a,BZ Y H i f a->BZ Y H' i f a)/\Bd c Y H' (U.set i s) (B++τ) (X++O):=by
 obtain⟨L,b⟩:=b;obtain⟨D,L2,e1,r1,r2⟩:=au.split b.lt b.rel;obtain⟨x,M1,M2,P,hx,l,e2,ins⟩:=r2.at es;have key:∀p q,x=some (.ref p)->M2=p::q->LR c.toKx (c.g H L) H p (.nob cn fs ls) q->(∀G H',LR c.toKx G H' p (.nob cn fs ls) q->eH c.toKx G H' (some (.ref p)) s (p::q))->
   ∃J:Cn,J.toKx=c.toKx/\Bd J Y H (Z.set i (.fr (LO.nob cn fs ls).a)) [] []/\∀H' U B X,Bd J Y H' U B X->(∃a,U[i]?=some (.fr a))->(∀j t,j≠i->U[j]?=some t->xO t=true\/∃a,t=.fr a/\Z[j]?=some (.fr a))->X.all xO=true->(∀f a,BZ Y H i f a->BZ Y H' i f a)/\Bd c Y H' (U.set i s) (B++τ) (X++O):=by
  intro p q ex em lr mk;subst ex em;have nd:=b.nd;simp only[e1,e2] at nd;obtain⟨n1,n2,n3⟩:=QE.mp nd;obtain⟨m1,m2⟩:=iJ n2;have ndq:(p::q).Nodup:=(QE.mp (QE.mp n2).1).2.1;have E:∀a,a∈L↔a∈D\/a∈p::q\/a∈M1++P:=λa=>by
   simp only[e1,e2];simp only[Qx];constructor
   .rintro(h|(h|h)|h)
    .exact .inl h
    .exact .inr (.inr (.inl h))
    .exact .inr (.inl h)
    .exact .inr (.inr (.inr h))
   .rintro(h|h|h|h)
    .exact .inl h
    .exact .inr (.inl (.inr h))
    .exact .inr (.inl (.inl h))
    .exact .inr (.inr h)
  have R:∀a∈L,∃u,H a=some u:=b.rel.is;have S:∀a∈L,a∉c.Hd:=λa T=>b.xK T;have nq:∀a∈p::q,a∉M1++P:=m2;have n1q:∀a∈D,a∉p::q:=λa T hq=>n3 a T a (Qu _ (Qs _ hq)) rfl;have n1m:∀a∈D,a∉M1++P:=λa T hq=>by
   rcases Qx.mp hq with z|z
   .exact n3 a T a (Qu _ (Qu _ z)) rfl
   .exact n3 a T a (Qs _ z) rfl
  let J:Cn:={ c with H0:=H,Lp:=M1++P,Hd:=D++c.Hd,Wk:=[] }
  have g2in:∀{H':Hp}{K:List Addr}{a:Addr},a∈K\/a∈D\/a∈c.Hd->J.g H' K a=none:=λ{H' K a} h=>gH (c:=J) (by rcases h with h|h|h;exact .inl h;exact .inr (Qu _ h);exact .inr (Qs _ h));have m:∀{H':Hp}{K:List Addr}{a:Addr},a∉K->a∉D->a∉c.Hd->J.g H' K a=H' a:=λ{H' K a} h1 h2 h3=>bJ (c:=J) h1 (λy=>by rcases Qx.mp y with z|z;exact h2 z;exact h3 z);have sm0:Sq (c.g H L) (J.g H (M1++P)):=λa u e=>by
   by_cases z:a∈L\/a∈c.Hd
   .rw[gH z] at e;cases e
   .have Q:a∉L:=λy=>z (.inl y);rw[bJ Q (λy=>z (.inr y))] at e;refine⟨u,?_,.inl rfl⟩;rw[m (λy=>Q ((E a).mpr (.inr (.inr y)))) (λy=>Q ((E a).mpr (.inl y))) (λy=>z (.inr y))];exact e
  have es2:Y.set i (some (.ref p))=Y:=by
   apply R6;intro j;by_cases k:i=j
   .subst k;rw[QN (Qv.mp hx).1,hx]
   .rw[QY k]
  refine⟨J,rfl,⟨M1++P,m1,?_,λa T=>.inl T,⟨λa o e=>⟨o,e,λ_ _=>rfl⟩,λw d=>nomatch d⟩,λj o k w0=>?_,rfl,λa T=>?_⟩,?_⟩
  .have i1:=ins (G':=J.g H (M1++P)) (H':=H) (y:=some (.ref p)) (t:=.fr (LO.nob cn fs ls).a) (L':=[]) sm0 (λ_ _ _ e=>e) (.fr (lr.a' sm0 λa T u e=>by rw[m (nq a T) (λy=>n1q a y T) (S a ((E a).mpr (.inr (.inl T))))];exact e))
   rw[es2,Rx] at i1;exact i1
  .by_cases F:i=j
   .subst F;rw[QN (Qv.mp es).1] at k;cases k;cases w0
   .rw[QY F] at k;exact b.kp j o k w0
  .rcases Qx.mp T with z|z
   .exact⟨R a ((E a).mpr (.inl z)),n1m a z⟩
   .obtain⟨⟨u,N⟩,_⟩:=b.hd a z;obtain⟨u',h1,_⟩:=b.fr.st a u N;exact⟨⟨u',h1⟩,λy=>S a ((E a).mpr (.inr (.inr y))) z⟩
  .rintro H' U B X ⟨L',r⟩ ⟨a0,ea0⟩ hpl hp1;have jt:∀a u,H a=some u->a∉M1++P->H' a=some u:=λa u e na=>by obtain⟨u',h1,h2⟩:=r.fr.st a u e;rw[h1,h2 na λw d=>nomatch d]
   have n:∀a∈p::q,∀u,H a=some u->H' a=some u:=λa T u e=>jt a u e (nq a T);have h1':∀a∈D,∀u,H a=some u->H' a=some u:=λa T u e=>jt a u e (n1m a T);have npL:∀a∈p::q,a∉L':=λa T y=>by
    rcases r.own a y with z|z
    .exact nq a T z
    .obtain⟨u,N⟩:=R a ((E a).mpr (.inr (.inl T)));have z:H a=none:=z;rw[N] at z;cases z
   have n1L:∀a∈D,a∉L':=λa T y=>r.xK y (Qu _ T);obtain⟨K1,K2,e5,t1,t2⟩:=au.split r.lt r.rel;obtain⟨y,I,N2,N3,hy,hys,e4,ins2⟩:=t2.EY ea0;have yp:y=some (.ref p):=by rw[hx] at hy;exact(QW hy).symm
   subst yp;cases hys with
   |fr hra=>
    have eL:L'=K1++(I++N3):=by simp only[e5,e4];rfl
    have pm:(K1++(D++(I++((p::q)++N3)))).Perm (D++((p::q)++L')):=by rw[eL,SF];intro a;simp only[SQ];lia
    have hN:∀a,a∈K1++(D++(I++((p::q)++N3)))↔a∈D\/a∈p::q\/a∈L':=λa=>by rw[pm.mem_iff,Qx,Qx]
    have lq:Tq (J.g H' L') (c.g H' (K1++(D++(I++((p::q)++N3))))):=λa u e nl ni=>by
     by_cases z:a∈L'\/a∈D\/a∈c.Hd
     .rw[g2in z] at e;cases e
     .rw[m (λy=>z (.inl y)) (λy=>z (.inr (.inl y))) (λy=>z (.inr (.inr y)))] at e;rw[bJ (λy=>?_) (λy=>z (.inr (.inr y)))]
      .exact e
      .rcases(hN a).mp y with w|w|w
       .exact z (.inr (.inl w))
       .rcases lr.kind a w with ⟨us,N⟩|⟨C,dx,fs,N⟩
        .rw[n a w _ N] at e;exact nl us (QW e).symm
        .rw[n a w _ N] at e;exact ni C dx fs (QW e).symm
       .exact z (.inl w)
    have sq:Sq (c.g H L) (c.g H' (K1++(D++(I++((p::q)++N3))))):=λa u e=>by
     by_cases z:a∈L\/a∈c.Hd
     .rw[gH z] at e;cases e
     .have Q:a∉L:=λy=>z (.inl y);rw[bJ Q (λy=>z (.inr y))] at e;refine⟨u,?_,.inl rfl⟩;rw[bJ (λy=>?_) (λy=>z (.inr y))]
      .exact jt a u e λy=>Q ((E a).mpr (.inr (.inr y)))
      .rcases(hN a).mp y with w|w|w
       .exact Q ((E a).mpr (.inl w))
       .exact Q ((E a).mpr (.inr (.inl w)))
       .rcases r.own a w with v|v
        .exact Q ((E a).mpr (.inr (.inr v)))
        .have v:H a=none:=v;rw[e] at v;cases v
    have Gj:au c.toKx (c.g H' (K1++(D++(I++((p::q)++N3))))) H' Y (U.set i s) (I++((p::q)++N3)):=by
     refine ins2 (λ{x t L} j hx k hne h=>?_) (mk _ _ (lr.sm sq n));rcases hpl j t hne k with z|⟨a1,rfl,ej⟩
     .exact h.pl lq z
     .obtain⟨x',_,_,_,hx',hs',_⟩:=r2.at ej;rw[hx] at hx';cases hx';cases hs' with
      |fr ra=>
       cases h with
       |fr _=>exact .fr (ra.sm sq)
    have tem:au c.toKx (c.g H' (K1++(D++(I++((p::q)++N3))))) H' B X K1:=t1.E9 λj k h=>h.pl lq (RT.mp hp1 _ (Rq k));refine⟨λf a ⟨p',C,dx,ws,g1,g2,g3⟩=>?_,?_⟩
    .rw[hx] at g1;cases g1;exact⟨p,C,dx,ws,hx,n p QH _ g2,g3⟩
    refine⟨K1++(D++(I++((p::q)++N3))),?_,(by rw[Qw,Qw];exact tem.app ((r1.sm sq h1').app Gj)),λa T=>?_,⟨λa o e=>?_,λw d=>?_⟩,λj o k w0=>?_,(by rw[QO,QO,r.lt,b.lt]),b.hd⟩
    .refine(pm.nodup_iff).mpr (QE.mpr ⟨n1,QE.mpr ⟨ndq,r.nd,λa T b hb z=>npL a T (by rw[z];exact hb)⟩,λa T b hb z=>?_⟩);subst z;rcases Qx.mp hb with w|w
     .exact n1q a T w
     .exact n1L a T w
    .rcases(hN a).mp T with w|w|w
     .exact b.own a ((E a).mpr (.inl w))
     .exact b.own a ((E a).mpr (.inr (.inl w)))
     .rcases r.own a w with v|v
      .exact b.own a ((E a).mpr (.inr (.inr v)))
      .exact .inr (b.fr.fresh v)
    .obtain⟨u,f1,f2⟩:=b.fr.st a o e;obtain⟨u',g1,g2⟩:=r.fr.st a u f1;refine⟨u',g1,λk1 V=>?_⟩;rw[g2 (λy=>?_) λw d=>nomatch d]
     .exact f2 k1 V
     .rcases b.own a ((E a).mpr (.inr (.inr y))) with v|v
      .exact k1 v
      .rw[e] at v;cases v
    .obtain⟨k1,V,k3⟩:=b.fr.pk w d;refine⟨jt _ _ k1 λy=>?_,V,k3⟩;have hw2:=(E w.1).mpr (.inr (.inr y));obtain⟨ob,vs,V⟩:=V;exact b.rel.Ao _ hw2 ob vs (by rw[k1,V])
    .by_cases F:i=j
     .subst F;have hlt:i<U.length:=(Qv.mp ea0).1;rw[QN hlt] at k;cases k;exact b.kp i _ es w0
     .rw[QY F] at k;exact r.kp j o k w0
 rcases hs with rfl|rfl
 .cases l with
  |lv h=>exact key _ _ rfl rfl h λG H' h=>.lv h
 .cases l with
  |pv h=>exact key _ _ rfl rfl h λG H' h=>.pv h
end
noncomputable def OJ:Sl->Bool
 | .fr _=>true
 | .un=>true
 |_=>false
def Ie(i:Nat)(Z:List Sl):Bool:=(Z.set i .un).all OJ
def nk(i:Nat)(Z:List Sl):Option LO:=match Z[i]? with
 |some (.lv (.nob c fs ls))=>some (.nob c fs ls)
 |some (.pv (.nob c fs ls))=>some (.nob c fs ls)
 |_=>none
variable{o:LO}
theorem ua(h:nk i Z=some o):∃s cn fs ls,o=.nob cn fs ls/\Z[i]?=some s/\(s=.lv (.nob cn fs ls)\/s=.pv (.nob cn fs ls)):=by
 delta nk at h
 cases e:Z[i]? with
 |none=>rw[e] at h;cases h
 |some s=>
  rw[e] at h;cases s with
  |lv o=>cases o with
   |nob cn fs ls=>cases h;exact⟨_,cn,fs,ls,rfl,rfl,.inl rfl⟩
   |_=>exact cy h
  |pv o=>cases o with
   |nob cn fs ls=>cases h;exact⟨_,cn,fs,ls,rfl,rfl,.inr rfl⟩
   |_=>exact cy h
  |_=>exact cy h
open Classical in
def iB(i:Nat)(m:Mi Rr)(Z:List Sl):Option Rr:=match nk i Z with
 |some o=>match m (Z.set i (.fr o.a)) with
  |some (.ok r,U)=>if U=Z.set i (.fr o.a)/\Ie i Z=true/\Og r=true then some r else none
  |_=>none
 |none=>none
variable{r:Rr}
theorem tJ{m:Mi Rr}(h:iB i m Z=some r):∃o,nk i Z=some o/\m (Z.set i (.fr o.a))=some (.ok r,Z.set i (.fr o.a))/\Ie i Z=true/\Og r=true:=by
 delta iB at h
 cases e:nk i Z with
 |none=>rw[e] at h;cases h
 |some o=>
  rw[e] at h;dsimp only at h;cases e1:m (Z.set i (.fr o.a)) with
  |none=>rw[e1] at h;cases h
  |some p=>
   obtain⟨x,U⟩:=p;rw[e1] at h;cases x with
   |error _=>cases h
   |ok r'=>
    dsimp only at h;split at h
    .rename_i z;cases h;exact⟨o,rfl,by rw[z.1] at e1;exact e1,z.2.1,z.2.2⟩
    .cases h
variable{Q:VK}
section
variable{X:Cx}{E:XK}
theorem wF{E:XK}{m:Mi Rr}(y:c.toKx=K)(b:Bd c Y H Z τ O)(h:iB i m Z=some r)
  (q:∀v V,VR Y r v->(∀f a,BZ Y H i f a->BZ Y V i f a)->Bd c Y V Z (cL r v τ) (cN r O)->Q v V):kj K E m Y H Q:=by
 obtain⟨o,h1,h2,h3,h4⟩:=tJ h;obtain⟨s,cn,fs,ls,rfl,es,hs⟩:=ua h1;obtain⟨J,G,D,S⟩:=Bd.MC b es hs;have hi:i<Z.length:=(Qv.mp es).1;have back:(Z.set i (.fr (LO.nob cn fs ls).a)).set i s=Z:=by
  apply R6;intro j;by_cases k:i=j
  .subst k;rw[QN (by simpa using hi),es]
  .rw[QY k,QY k]
 have cond:∀j t,j≠i->(Z.set i (.fr (LO.nob cn fs ls).a))[j]?=some t->xO t=true\/∃a,t=.fr a/\Z[j]?=some (.fr a):=λj t k e=>by
  rw[QY (Rz k)] at e;have z:=RT.mp h3 t (Rq (i:=j) (by rw[QY (Rz k)];exact e));cases t with
  |fr a=>exact .inr ⟨a,rfl,e⟩
  |un=>exact .inl rfl
  |_=>cases z
 refine⟨J,_,[],[],.ok r,_,G.trans y,D,h2,λv V A b1=>?_⟩;cases r with
 |rf j=>cases h4
 |fr a=>obtain⟨g,F⟩:=S V _ [some v] [.fr a] b1 ⟨_,QN hi⟩ cond (by simp only[QV,Tn,SH];exact h4);rw[back] at F;exact q v V A g F
 |nw o=>obtain⟨g,F⟩:=S V _ [some v] [.lv o] b1 ⟨_,QN hi⟩ cond (by simp only[QV,Tn,SH];exact h4);rw[back] at F;exact q v V A g F
end
section
variable{X:Cx}{pins:List (Addr×Obj)}{Y:St}{H:Hp}{s:Shared}{a C dx:Addr}{fs Z1:List (Str×V)}{f:Str}{o value:Expr}{ta tv:TE}{pos pos':Pos}
theorem nP(I:Inv X pins Y H s)(e:H a=some (.ins C dx fs))(hl:∀g,Z1.lookup g=fs.lookup g)(c:∀g,g∈fs.map (·.1)->g∈Z1.map (·.1))(hz:Z1.length<=1000):Inv X pins Y (upd H a (.ins C dx Z1)) s:=by
 obtain⟨d,z,ne,ob,mA,n,r,q⟩:=(I.hok a _ e)
 exact I.write (by rw[e];exact VP) (.inr d) (λb u _ e=>e) (I.hok dx _ d) ⟨by rw[aj ne];exact d,hz,ne,ob,mA,n,λf=>by rw[hl];exact r f,λy hy=>c y (q y hy)⟩
def Mt(K:Qr)(ta tv:TE)(f:Str):TS:=λD Y H=>tv Y H λy V=>ta Y V λx U=>∃a C dx fs Z1,x=.ref a/\U a=some (.ins C dx fs)/\gy K C/\bU K C f/\fs.length<1000 /\
 (∀g,Z1.lookup g=(dY f y fs).lookup g)/\(∀g,g∈(dY f y fs).map (·.1)->g∈Z1.map (·.1))/\Z1.length<=1000/\D.nx Y (upd U a (.ins C dx Z1))
theorem uJ(H:Hp)(a:Addr)(x y:HO):upd (upd H a x) a y=upd H a y:=by
 funext b
 by_cases e:b=a
 .simp only[e,aM,aM]
 .simp only[aj e,aj e,aj e]
theorem vc(T:PE X o ta)(A:PE X value tv)(hs:XH value (some (.Attribute o f pos')) pos.line X.env=pure false):PS X (.Assign [.Attribute o f pos'] value pos) (Mt X.K ta tv f):=by intro pins s Y H D I h;refine plainObj_wpAny_Assign_Attribute (cC (A pins s Y H _ I h) λu s1 ⟨y,V,O,P,q⟩=>cC (T pins s1 Y V _ O q) λr s2 ⟨x,U,k,t,a,C,dx,fs,Z1,ex,E,c,n,l,G,B,S,R⟩=>?_) hs;subst ex;obtain rfl:r=Se a:=t;exact sS k E c n l P λp F=>⟨Y,_,by have z:=nP F aM G B S;rw[uJ] at z;exact z,R⟩
end
section
variable{c:Cn}{Y:St}{H:Hp}{Z:List Sl}{τ:St}{O:List Sl}{L K:List Addr}
noncomputable def Py(s:Sl)(o:LO):Sl:=match s with
 | .lv _=>.lv o
 |_=>.pv o
def rT(c:Cn)(Y:St)(H:Hp)(Z:List Sl)(τ:St)(O:List Sl)(i:Nat)(cn:Str)(fs:List (Str×A))(ls:List (Str×List A))(G:Hp)(K:List Addr):Prop:=
 ∃p C dx vs ws q,Y[i]?=some (some (.ref p))/\H p=some (.ins C dx (vs++ws))/\c.mg cn=some (.ref C)/\gJ c.toKx G vs fs/\eN c.toKx G H ws ls q/\q.Nodup/\p∉q/\p∉K/\(∀a∈K,a∉q) /\
  ∀v e X h t,(∀G',Sq G G'->(∀z∈q,z∉t->∀u,H z=some u->G' z=some u)->gJ c.toKx G' X v)->eN c.toKx G (upd H p (.ins C dx (X++h))) h e t->t.Nodup->(∀z∈t,z∈q\/z∈K)->Bd c Y (upd H p (.ins C dx (X++h))) (setAt Z i (.nob cn v e)) τ O
theorem lu{fs:List (Str×A)}{ls:List (Str×List A)}(xK:∀z∈K++L,z∉c.Hd)(nd:(K++L).Nodup)(lt:τ.length=O.length)(rel:au c.toKx (c.g H (K++L)) H (τ++Y) (O++Z) L)(own:∀z∈K++L,z∈c.Lp\/c.H0 z=none)(fr:Fr c H)(kp:eQ c.σ0 Y Z)
  (mkB:∀H' B L',L'.Nodup->au c.toKx (c.g H' L') H' (τ++Y) (O++B) L'->(∀z∈L',z∈c.Lp\/c.H0 z=none)->Fr c H'->eQ c.σ0 Y B->Bd c Y H' B τ O)
  (T:az Z i=some (.nob cn fs ls)):rT c Y H Z τ O i cn fs ls (c.g H (K++L)) K:=by
 have ndL:L.Nodup:=(QE.mp nd).2.1;obtain⟨D,L2,e1,r1,r2⟩:=au.split lt rel;have key:∀(s:Sl),Z[i]?=some s->(s=.lv (.nob cn fs ls)\/s=.pv (.nob cn fs ls))->(∀o',setAt Z i o'=Z.set i (Py s o'))->rT c Y H Z τ O i cn fs ls (c.g H (K++L)) K:=by
  intro s es Q E;obtain⟨x,M1,M2,J,hx,hs,e2,ins⟩:=r2.at es;have b:∀p q,x=some (.ref p)->M2=p::q->LR c.toKx (c.g H (K++L)) H p (.nob cn fs ls) q->(∀G H' o' t,LR c.toKx G H' p o' t->eH c.toKx G H' (some (.ref p)) (Py s o') (p::t))->rT c Y H Z τ O i cn fs ls (c.g H (K++L)) K:=by
   intro p q ex em2 lr mk;subst ex em2;cases lr with
   |nob e m r l=>
    rename_i C dx vs ws;have R:=ndL;simp only[e1,e2] at R;obtain⟨n1,n2,f⟩:=QE.mp R;obtain⟨m1,d⟩:=iJ n2;have I:(p::q).Nodup:=(QE.mp (QE.mp n2).1).2.1;have pL:p∈L:=by simp only[e1,e2];simp
    have qL:∀z∈q,z∈L:=λz hz=>by rw[e1,e2];simp[hz]
    have U:∀z∈K,z∉L:=λz hz hy=>(QE.mp nd).2.2 z hz z hy rfl;refine⟨p,C,dx,vs,ws,q,hx,e,m,r,l,(Q3.mp I).2,(Q3.mp I).1,λhp=>U p hp pL,λa ha hq=>U a ha (qL a hq),λZ1 ls' X v t rf ol n sub=>?_⟩;have F:p∉t:=λhp=>by
     rcases sub p hp with z|z
     .exact(Q3.mp I).1 z
     .exact U p z pL
    have P:∀z∈D++(M1++(p::t)++J),z∈K++L:=λz hz=>by
     have:z∈L\/z∈t:=by
      rw[e1,e2];simp only[Qx,QC] at hz ⊢;rcases hz with h|(h|h|h)|h
      .exact .inl (.inl h)
      .exact .inl (.inr (.inl (.inl h)))
      .exact .inl (.inr (.inl (.inr (.inl h))))
      .exact .inr h
      .exact .inl (.inr (.inr h))
     rcases this with h|h
     .exact Qs _ h
     .rcases sub z h with h|h
      .exact Qs _ (qL z h)
      .exact Qu _ h
    have sq:Sq (c.g H (K++L)) (c.g (upd H p (.ins C dx (X++v))) (D++(M1++(p::t)++J))):=λz u ez=>by
     by_cases hz:z∈K++L\/z∈c.Hd
     .rw[gH hz] at ez;cases ez
     .rw[bJ (λy=>hz (.inl y)) (λy=>hz (.inr y))] at ez;refine⟨u,?_,.inl rfl⟩;rw[bJ (λy=>hz (.inl (P z y))) (λy=>hz (.inr y)),aj λ(y:z=p)=>hz (.inl (by rw[y];exact Qs _ pL))];exact ez
    have S:∀z∈t,z∉D/\z∉M1++J:=λz hz=>by
     rcases sub z hz with h|h
     .exact⟨λy=>f z y z (by simp[h]) rfl,d z (Qz _ h)⟩
     .refine⟨λy=>U z h (by rw[e1];simp[y]),λy=>U z h ?_⟩;rw[e1,e2];rcases Qx.mp y with w|w<;>simp[w]
    have V:∀z∈D++(M1++J),z≠p:=λz hz y=>by
     subst y;rcases Qx.mp hz with w|w
     .exact f _ w _ Z4 rfl
     .exact d z Z4 w
    have keep:∀z∈D++(M1++J),∀u,H z=some u->upd H p (.ins C dx (X++v)) z=some u:=λz hz u e=>by rw[aj (V z hz)];exact e
    refine mkB _ _ (D++(M1++(p::t)++J)) ?_ ?_ (λz hz=>own z (P z hz)) ?_ ?_
    .have pm:(D++(M1++(p::t)++J)).Perm ((p::t)++(D++(M1++J))):=by rw[SF];intro z;simp only[SQ];lia
     refine pm.nodup_iff.mpr (QE.mpr ⟨Q3.mpr ⟨F,n⟩,?_,λz hz y hy e=>?_⟩)
     .refine QE.mpr ⟨n1,m1,λz hz y hy e=>?_⟩;subst e;exact f z hz z (by rcases Qx.mp hy with w|w<;>simp[w]) rfl
     .subst e;rcases QC.mp hz with rfl|hz
      .exact V z hy rfl
      .rcases Qx.mp hy with w|w
       .exact(S z hz).1 w
       .exact(S z hz).2 w
    .rw[E];have rf':=rf (c.g (upd H p (.ins C dx (X++v))) (D++(M1++(p::t)++J))) sq λz hz nz u e=>by
      have zp:z≠p:=λy=>(Q3.mp I).1 (y▸hz);rw[bJ (λy=>?_) (xK z (Qs _ (qL z hz))),aj zp]
      .exact e
      .simp only[Qx,QC] at y;rcases y with y|(y|y|y)|y
       .exact f z y z (by simp[hz]) rfl
       .exact d z (Qz _ hz) (by simp[y])
       .exact zp y
       .exact nz y
       .exact d z (Qz _ hz) (by simp[y])
     have i1:=ins (G':=c.g (upd H p (.ins C dx (X++v))) (D++(M1++(p::t)++J))) (H':=upd H p (.ins C dx (X++v))) (y:=some (.ref p)) (L':=p::t) sq (λz hz=>keep z (Qs _ hz)) (mk _ _ (.nob cn Z1 ls') t (.nob (by rw[aM]) m rf' (ol.sm sq λz _ u e=>e)));have es2:Y.set i (some (.ref p))=Y:=by
      apply R6;intro j;by_cases k:i=j
      .subst k;rw[QN (Qv.mp hx).1,hx]
      .rw[QY k]
     rw[es2] at i1;exact(r1.sm sq λz hz=>keep z (Qu _ hz)).app i1
    .refine⟨λz o e'=>?_,λw hw=>?_⟩
     .obtain⟨u,u1,u2⟩:=fr.st z o e';by_cases hz:z=p
      .subst hz;refine⟨_,aM,λna _=>?_⟩;rcases own z (Qs _ pL) with y|y
       .exact absurd y na
       .rw[y] at e';cases e'
      .exact⟨u,by rw[aj hz];exact u1,u2⟩
     .obtain⟨k1,k2,k3⟩:=fr.pk w hw;refine⟨?_,k2,k3⟩;rw[aj λz=>?_]
      .exact k1
      .obtain⟨ob,us',k2⟩:=k2;rw[z,e] at k1;rw[k2] at k1;cases k1
    .rw[E];intro j o k w;by_cases N:i=j
     .subst N;rw[QN (Qv.mp es).1] at k;rcases Q with rfl|rfl
      .cases k;cases w
      .exact kp i _ es rfl
     .rw[QY N] at k;exact kp j o k w
  rcases Q with rfl|rfl
  .cases hs with
   |lv h=>exact b _ _ rfl rfl h λG H' o' t h=>.lv h
  .cases hs with
   |pv h=>exact b _ _ rfl rfl h λG H' o' t h=>.pv h
 unfold az at T;cases es:Z[i]? with
 |none=>rw[es] at T;cases T
 |some s=>
  rw[es] at T;cases s with
  |un=>cases T
  |cf _=>cases T
  |fr a=>cases T
  |lv o1=>cases T;exact key _ es (.inl rfl) λo'=>by unfold setAt;rw[es];rfl
  |pv o1=>cases T;exact key _ es (.inr rfl) λo'=>by unfold setAt;rw[es];rfl
theorem Bd.Hy{fs:List (Str×A)}{ls:List (Str×List A)}{a:Addr}{xs:List A}(b:Bd c Y H Z (some (.ref a)::τ) (.lv (.lst xs)::O))(T:az Z i=some (.nob cn fs ls)):
  ∃G us,H a=some (.lst us)/\bN c.toKx G us xs/\rT c Y H Z τ O i cn fs ls G [a]:=by
 obtain⟨L,b⟩:=b;have rel:au c.toKx (c.g H L) H (some (.ref a)::(τ++Y)) (.lv (.lst xs)::(O++Z)) L:=b.rel;have lt:τ.length=O.length:=by simpa using b.lt
 cases rel with
 |cons h r=>
  rename_i X L';cases h with
  |lv P=>
   cases P with
   |lst E x=>rename_i us;exact⟨_,us,E,x,lu (K:=[a]) (λz hz=>b.xK hz) b.nd lt r b.own b.fr b.kp (λH' B L2 U m f q C=>⟨L2,U,m,f,q,C,lt,b.hd⟩) T⟩
theorem dS.Ae{fs:List (Str×A)}{ls:List (Str×List A)}(b:dS c Y H Z τ O L)(T:az Z i=some (.nob cn fs ls)):rT c Y H Z τ O i cn fs ls (c.g H L) []:=
 lu (K:=[]) (λz hz=>b.xK hz) b.nd b.lt b.rel b.own b.fr b.kp (λH' B L2 U m G q C=>⟨L2,U,m,G,q,C,b.lt,b.hd⟩) T
end
noncomputable def cG{α:Type}(f:Str):List (Str×α)->List (Str×α)
 |[]=>[]
 |(y,v)::r=>if f==y then cG f r else (y,v)::cG f r
section
variable{α:Type}{f g:Str}{k:Kx}{G H H':Hp}
theorem iZ:∀{l:List (Str×α)},(cG f l).lookup g=if g=f then none else l.lookup g
 |[]=>by split<;>rfl
 |(y,v)::r=>by
  have m:=iZ (l:=r);unfold cG;by_cases c:(f==y)=true
  .rw[YY c,m,QI];have:=eq_of_beq c;subst this;by_cases e:g=f
   .rw[YY e,YY e]
   .rw[YZ e,YZ e,beq_eq_false_iff_ne.mpr e]
  .rw[YZ c,QI,QI,m];by_cases e:g=f
   .subst e;cases z:(g==y) with
    |true=>exact absurd z c
    |false=>rfl
   .rw[YZ e,YZ e]
theorem gr:∀{l:List (Str×α)},(cG f l).length<=l.length
 |[]=>QB _
 |(y,v)::r=>by
  have m:=gr (l:=r);unfold cG;split
  .exact VZ m
  .exact TV m
theorem lY:∀{l:List (Str×α)},g∈l.map (·.1)↔l.lookup g≠none
 |[]=>by simp
 |(y,v)::r=>by
  have m:=lY (l:=r);rw[Rf,QC,QI];cases c:(g==y) with
  |true=>simp[eq_of_beq c]
  |false=>simp only[beq_eq_false_iff_ne.mp c,false_or];exact m
theorem lK{l U:List (Str×α)}(h:∀g,U.lookup g=l.lookup g)(g:Str):g∈l.map (·.1)->g∈U.map (·.1):=λz=>lY.mpr (by rw[h];exact lY.mp z)
theorem gJ.del:∀{vs:List (Str×V)}{fs:List (Str×A)},gJ k G vs fs->gJ k G (cG f vs) (cG f fs)
 |_,_,.nil=>.nil
 |(y,v)::vs,_,.cons h r=>by
  have m:=gJ.del r;unfold cG;split
  .exact m
  .exact .cons h m
theorem eN.del:∀{ws:List (Str×V)}{ls:List (Str×List A)}{q:List Addr},eN k G H ws ls q->q.Nodup->∃Y,eN k G H (cG f ws) (cG f ls) Y/\Y.Nodup/\∀z∈Y,z∈q
 |_,_,_,.nil,_=>⟨[],.nil,.nil,λ_ h=>h⟩
 |(y,_)::ws,_,_,.cons (a:=a) e r t,nd=>by
  obtain⟨Y,h1,h2,h3⟩:=eN.del t (Q3.mp nd).2;unfold cG;split
  .exact⟨Y,h1,h2,λz hz=>Qz _ (h3 z hz)⟩
  .exact⟨a::Y,.cons e r h1,Q3.mpr ⟨λz=>(Q3.mp nd).1 (h3 _ z),h2⟩,λz hz=>by
    rcases QC.mp hz with rfl|hz
    .exact QH
    .exact Qz _ (h3 z hz)⟩
theorem eN.snoc{a:Addr}{us:List V}{xs:List A}(e:H a=some (.lst us))(r:bN k G us xs):∀{ws:List (Str×V)}{ls:List (Str×List A)}{q:List Addr},eN k G H ws ls q->eN k G H (ws++[(f,.ref a)]) (ls++[(f,xs)]) (q++[a])
 |_,_,_,.nil=>.cons e r .nil
 |_,_,_,.cons e' r' t=>.cons e' r' (eN.snoc e r t)
theorem eN.qY:∀{ws:List (Str×V)}{ls:List (Str×List A)}{q:List Addr},eN k G H ws ls q->ws.length=ls.length
 |_,_,_,.nil=>rfl
 |_,_,_,.cons _ _ t=>Y2 (·+1) (eN.qY t)
end
section
variable{X:Cx}{E:XK}
def iw(cs:List Str)(i:Nat)(f:Str)(m:Mi Rr):Ms:=c7 m λr Z=>match r,az Z i with
 | .nw (.lst xs),some (.nob c fs ls)=>if cs.contains c&&R8 (fs.length+ls.length) 900 then some (.nx,setAt Z i (.nob c (cG f fs) (cG f ls++[(f,xs)]))) else none
 | .nw (.lst xs),some (.obj c fs)=>if cs.contains c&&R8 fs.length 900&&(fs.lookup f).isNone then some (.nx,setAt Z i (.nob c fs [(f,xs)])) else none
 |_,_=>none
theorem Cp{x f:Str}{m:Mi Rr}(hN:X.N[i]?=some x)(A:jh X.env.scope x)(hd:fg x)(Q:km x)(hc:∀c C,cs.contains c=true->X.mg c=some (.ref C)->gy X.K C/\bU X.K C f)(he:JE X E e m)
  (hs:XH e (some (.Attribute (.Name x px) f p1)) pos.line X.env=pure false):JS X E (.Assign [.Attribute (.Name x px) f p1] e pos) (iw cs i f m):=
 ⟨PS.weaken (vc (bH hN A hd Q) he.p hs) λD Y H h=>by
  obtain⟨c,Z,τ,O,fl,B,d,b,em,q⟩:=h;refine dU d b em q λr v U H1 A b1 F=>?_;cases r with
  |rf j=>cases F
  |fr a=>cases F
  |nw o=>
   cases o with
   |lst xs=>
    cases T:az U i with
    |none=>rw[T] at F;cases F
    |some lo=>
     rw[T] at F;cases lo with
     |nob cn fs ls=>
      dsimp only at F;by_cases hl:(cs.contains cn&&R8 (fs.length+ls.length) 900)=true
      .rw[YY hl] at F;cases F;simp only[Qq] at hl;have L:=RB hl.2;obtain⟨a,rfl⟩:=Bd.tR b1;obtain⟨G,us,ha,ra,p,C,dx,vs,ws,q0,h1,h2,h3,h4,h5,t,h7,h8,h9,fin⟩:=b1.Hy T;have R:X.mg cn=some (.ref C):=by have:=Y2 (λk:Kx=>k.mg cn) d;simp only at this;rw[<-this];exact h3
       obtain⟨n,J⟩:=hc cn C hl.1 R;obtain⟨q',o1,o2,I⟩:=eN.del (f:=f) h5 t;have lv:=h4.len;have lw:=h5.qY;have S:p≠a:=λz=>h8 (QR.mpr z);have P:∀g,(cG f vs++(cG f ws++[(f,V.ref a)])).lookup g=(dY f (.ref a) (vs++ws)).lookup g:=λg=>by
        simp only[d0,Rm,Rm,iZ,iZ,Rm];by_cases e:g=f
        .simp only[YY e];rw[e];simp
        .simp only[YZ e];rw[QI,beq_eq_false_iff_ne.mpr e];simp
       refine⟨_,h1,p,C,dx,vs++ws,cG f vs++(cG f ws++[(f,V.ref a)]),rfl,h2,n,J,by rw[QO];lia,P,lK P,?_,q Y _ (fin _ _ _ _ (q'++[a]) (λ_ s _=>h4.del.sm s) (eN.snoc ?_ ra (o1.sm (Sq.refl _) λz hz u e=>?_)) ?_ ?_)⟩
       .have:=gr (f:=f) (l:=vs);have:=gr (f:=f) (l:=ws);simp only[QO,S0];lia
       .rw[aj S.symm];exact ha
       .rw[aj λ(y:z=p)=>h7 (by rw[<-y];exact I z hz)];exact e
       .exact QE.mpr ⟨o2,by simp,λz hz y hy e=>h9 a (QR.mpr rfl) (by rw[<-QR.mp hy,<-e];exact I z hz)⟩
       .intro z hz;rcases Qx.mp hz with w|w
        .exact .inl (I z w)
        .exact .inr w
      .rw[YZ hl] at F;cases F
     |obj cn fs=>
      dsimp only at F;by_cases hl:(cs.contains cn&&R8 fs.length 900&&(fs.lookup f).isNone)=true
      .rw[YY hl] at F;cases F;rw[Qq,Qq,Rv] at hl;have L:=RB hl.1.2;obtain⟨a,rfl⟩:=Bd.tR b1;obtain⟨p,C,dx,vs,h1,h2,h3,h4,h5,t⟩:=Bd.give (f:=f) b1 T;have R:X.mg cn=some (.ref C):=by have:=Y2 (λk:Kx=>k.mg cn) d;simp only at this;rw[<-this];exact h3
       obtain⟨n,J⟩:=hc cn C hl.1.1 R;have z:=qv f (.ref a) (h5 hl.2);exact⟨_,h1,p,C,dx,vs,vs++[(f,.ref a)],rfl,h2,n,J,by lia,λg=>by rw[z],λg hg=>by rw[z] at hg;exact hg,by simp only[QO,S0];lia,q Y _ t⟩
      .rw[YZ hl] at F;cases F
     |_=>cases F
   | _=>cases F⟩
def dI(cs:List Str)(i:Nat)(f:Str)(m:Mi Rr):Ms:=c7 m λr Z=>match bS r Z with
 |some (a,U)=>match az U i with
  |some (.nob c fs ls)=>if cs.contains c&&R8 (fs.length+ls.length) 900 then some (.nx,setAt U i (.nob c (kg f a fs) (cG f ls))) else none
  |some (.obj c fs)=>if cs.contains c&&R8 fs.length 900 then some (.nx,setAt U i (.obj c (kg f a fs))) else none
  |_=>none
 |none=>none
theorem CA{x f:Str}{m:Mi Rr}(hN:X.N[i]?=some x)(A:jh X.env.scope x)(hd:fg x)(j:km x)(hc:∀c C,cs.contains c=true->X.mg c=some (.ref C)->gy X.K C/\bU X.K C f)(he:JE X E e m)
  (hs:XH e (some (.Attribute (.Name x px) f p1)) pos.line X.env=pure false):JS X E (.Assign [.Attribute (.Name x px) f p1] e pos) (dI cs i f m):=
 ⟨PS.weaken (vc (bH hN A hd j) he.p hs) λD Y H h=>by
  obtain⟨c,Z,τ,O,fl,B,d,b,em,q⟩:=h;refine dU d b em q λr v U V A b1 F=>?_;cases e1:bS r U with
  |none=>rw[e1] at F;cases F
  |some pr=>
   obtain⟨a,Z'⟩:=pr;rw[e1] at F;dsimp only at F;have b2:=Bd.bS (xs:=[]) (ss:=[]) rfl b1 A e1;cases T:az Z' i with
   |none=>rw[T] at F;cases F
   |some lo=>
    rw[T] at F;cases lo with
    |nob cn fs ls=>
     dsimp only at F;by_cases hl:(cs.contains cn&&R8 (fs.length+ls.length) 900)=true
     .rw[YY hl] at F;cases F;simp only[Qq] at hl;have Q:=RB hl.2;obtain⟨L,bl,P⟩:=Bd.tq b2;obtain⟨p,C,dx,vs,ws,q0,h1,h2,h3,h4,h5,t,S,h8,h9,fin⟩:=bl.Ae T;have R:X.mg cn=some (.ref C):=by have:=Y2 (λk:Kx=>k.mg cn) d;simp only at this;rw[<-this];exact h3
      obtain⟨n,J⟩:=hc cn C hl.1 R;obtain⟨q',o1,o2,I⟩:=eN.del (f:=f) h5 t;have lv:=h4.len;have lw:=h5.qY;have o:∀g,(dY f v vs++cG f ws).lookup g=(dY f v (vs++ws)).lookup g:=λg=>by
       simp only[d0,Rm,iZ,d0,Rm];by_cases e:g=f
       .simp only[YY e];rfl
       .simp only[YZ e]
      refine⟨_,h1,p,C,dx,vs++ws,dY f v vs++cG f ws,rfl,h2,n,J,by rw[QO];lia,o,lK o,?_,q Y _ (fin _ _ _ _ q' (λ_ s _=>(h4.put P).sm s) (o1.sm (Sq.refl _) λz hz u e=>?_) o2 λz hz=>.inl (I z hz))⟩
      .have:=gr (f:=f) (l:=ws);have:=fv f v vs;simp only[QO];lia
      .rw[aj λ(y:z=p)=>S (by rw[<-y];exact I z hz)];exact e
     .rw[YZ hl] at F;cases F
    |obj cn fs=>
     dsimp only at F;by_cases hl:(cs.contains cn&&R8 fs.length 900)=true
     .rw[YY hl] at F;cases F;rw[Qq] at hl;have Q:=RB hl.2;obtain⟨L,bl,P⟩:=Bd.tq b2;obtain⟨p,_,h1,h2,h3⟩:=bl.live T (.obj cn (kg f a fs)) (match V (match Y[i]? with|some (some (.ref p))=>p|_=>0) with|some (.ins C dx ws)=>.ins C dx (dY f v ws)|_=>.lst []);cases h2 with
      |obj w mm G=>
       rename_i C dx ws;simp only[h1,w] at h3;have R:X.mg cn=some (.ref C):=by have:=Y2 (λk:Kx=>k.mg cn) d;simp only at this;rw[<-this];exact mm
       obtain⟨n,J⟩:=hc cn C hl.1 R;have lw:=G.len;exact⟨_,h1,p,C,dx,ws,dY f v ws,rfl,w,n,J,by lia,λg=>rfl,λg hg=>hg,by have:=fv f v ws;lia,q Y _ (h3 λH' hh=>.obj hh mm (G.put P))⟩
     .rw[YZ hl] at F;cases F
    | _=>cases F⟩
end
def yU:A->A->Option Rr
 | .lst as,.int i=>match eu as with
  |some ns=>match t5 ns i with
   |some j=>some (.fr (.int j))
   |none=>none
  |none=>none
 |_,_=>none
noncomputable def EE:A->Bool
 | .lst _=>true
 |_=>false
section
variable{X:Cx}{E:XK}
theorem J5:iT K (λx y H Q=>Fd K.K x [y] H Q) yU:=.scalar λH v w a b q g l h=>by
 cases a with
 |lst as=>
  cases b with
  |int i=>
   have h:(match eu as with
    |some ns=>match t5 ns i with
     |some j=>some (Rr.fr (.int j))
     |none=>none
    | none=>none)=some q:=h
   cases e1:eu as with
   |none=>rw[e1] at h;cases h
   |some ns=>
    rw[e1] at h;dsimp only at h;cases e2:t5 ns i with
    |none=>rw[e2] at h;cases h
    |some j=>
     rw[e2] at h;cases h;cases l;cases g with
     |lst e r=>have P:=iY r e1;subst P;exact⟨_,_,rfl,λ_=>.int _,λQ k=>⟨_,ns,i,j,rfl,rfl,e,e2,k⟩⟩
  |_=>exact cy h
 |_=>exact cy h
def vL(mo m:Mi Rr):Mi Rr:=aT mo λx S=>match res S x with
 | some a0=>if EE a0=true then aT m (λy Z=>match res Z x,res Z y with
  |some a,some b=>match yU a b with
   |some q=>some (.ok q,Z)
   |none=>none
  | _,_=>none) S else none
 |none=>none
theorem C0{o:Expr}{mo m:Mi Rr}(ho:JE X E o mo)(he:JE X E e m)
  (hbase:Xr o "index" X.env (eval o X.env)=eval o X.env:=by rfl)(hfew:((Xw cpos (Xo [e] X.env)).all (λx=>!x.1)&&(XD cpos (Xy [] X.env)).all (λx=>x.1.isSome)&&decide (([e]:List Expr).length+([]:List XB).length+(if ([]:List XB).isEmpty then 0 else 1)<30))=true:=by rfl)
  (hline:(apos.endLine==cpos.line)=true:=by rfl)(hs:Xo [e] X.env=(false,eval e X.env)::Xo [] X.env:=by rfl)(hplain:(Xw cpos (Xo [] X.env)).any (·.1)=false:=by rfl):JE X E (.Call (.Attribute o "index" apos) [e] [] cpos) (vL mo m):=
 ⟨PE.weaken (kb RC TF U5 zP ho.p (aU he.p bY hs) hbase hfew hline hs hplain) λY H Q h=>by
  obtain⟨c,Z,τ,O,oo,B,ek,b,em,q⟩:=h;refine a9 ek b em (λx v U H1 hv b1 em1=>?_) (bD q);cases e0:res U x with
  |none=>rw[e0] at em1;cases em1
  |some a0=>
   rw[e0] at em1;dsimp only at em1;by_cases ht:EE a0=true
   .rw[YY ht] at em1;have r0:=Bd.rd b1 hv e0;rw[ek] at r0;cases a0 with
    |lst as=>
     cases r0 with
     |lst sq0 _=>refine⟨.inl ⟨rfl,_,sq0⟩,?_⟩;refine a9 ek b1 em1 (λy w Z' H2 hw b2 em2=>?_) (cS (bD q));obtain⟨a,d,r,e1,e2,e3,rfl,rfl⟩:=vx em2;exact J5 c Y H2 _ τ O x y _ w a d r Q ek hv hw b2 e1 e2 e3 q
    |_=>exact yI ht
   .rw[YZ ht] at em1;cases em1⟩
end
section
variable{k:Kx}{G H:Hp}{f:Str}
theorem eN.LJ:∀{ws:List (Str×V)}{ls:List (Str×List A)}{q:List Addr}{xs:List A},eN k G H ws ls q->q.Nodup->ls.lookup f=some xs->∃a ys Z,ws.lookup f=some (.ref a)/\H a=some (.lst ys)/\bN k G ys xs/\a∈q/\a∉Z/\eN k G H (cG f ws) (cG f ls) Z/\Z.Nodup/\∀z∈Z,z∈q
 |_,_,_,_,.nil,_,h=>nomatch h
 |_,_,_,_,.cons (y:=y) (a:=a0) (us:=us) e r t,nd,h=>by
  have Y:=Q3.mp nd;simp only[QI] at h;simp only[QI];unfold cG;cases hc:f==y with
  |true=>rw[hc] at h;cases h;obtain⟨Z,h1,h2,h3⟩:=eN.del t Y.2;exact⟨a0,us,Z,rfl,e,r,QH,λz=>Y.1 (h3 _ z),h1,h2,λz hz=>Qz _ (h3 z hz)⟩
  |false=>
   rw[hc] at h;obtain⟨a,ys,Z,h1,h2,h3,h4,h5,c,j,O⟩:=eN.LJ t Y.2 h;refine⟨a,ys,a0::Z,h1,h2,h3,Qz _ h4,λz=>?_,.cons e r c,Q3.mpr ⟨λz=>Y.1 (O _ z),j⟩,λz hz=>?_⟩
   .rcases QC.mp z with rfl|z
    .exact Y.1 h4
    .exact h5 z
   .rcases QC.mp hz with rfl|hz
    .exact QH
    .exact Qz _ (O z hz)
end
section
variable{c:Cn}{Y:St}{H:Hp}{Z:List Sl}{τ:St}{O:List Sl}
theorem Bd.Cf{f:Str}{fs:List (Str×A)}{ls:List (Str×List A)}{xs:List A}(b:Bd c Y H Z τ O)(T:az Z i=some (.nob cn fs ls))(e1:fs.lookup f=none)(e2:ls.lookup f=some xs):
  ∃p C dx ws h,Y[i]?=some (some (.ref p))/\H p=some (.ins C dx ws)/\(∀g,h.lookup g=ws.lookup g)/\(∀g,g∈ws.map (·.1)->g∈h.map (·.1))/\h.length<=fs.length+ls.length+1/\Bd c Y (upd H p (.ins C dx h)) (setAt Z i (.nob cn (fs++[(f,.lst xs)]) (cG f ls))) τ O:=by
 obtain⟨L,bl⟩:=b;obtain⟨p,C,dx,vs,ws,E,h1,h2,h3,h4,h5,t,j,K,r,fin⟩:=bl.Ae T;obtain⟨a,ys,X,G,D,S,I,F,q,v,x⟩:=eN.LJ h5 t e2;have lv:=h4.len;have k:=h5.qY;have B:vs.lookup f=none:=by
  rcases h4.get f with ⟨_,_,_,y,_⟩|⟨y,_⟩
  .rw[e1] at y;cases y
  .exact y
 have o:∀g,(vs++[(f,V.ref a)]++cG f ws).lookup g=(vs++ws).lookup g:=λg=>by
  by_cases e:g=f
  .subst e;simp only[Rm,Rm,Rm,B,G];simp
  .simp only[Rm,Rm,Rm,iZ,YZ e,QI,beq_eq_false_iff_ne.mpr e];simp
 refine⟨p,C,dx,vs++ws,vs++[(f,V.ref a)]++cG f ws,h1,h2,o,lK o,?_,fin (fs++[(f,.lst xs)]) (cG f ls) (vs++[(f,V.ref a)]) (cG f ws) X (λG' s kp=>gJ.app (h4.sm s) (.cons (.lst (.inl (.inl (kp a I F _ D))) (S.sm s)) .nil)) (q.sm (Sq.refl _) λz hz u e=>?_) v λz hz=>.inl (x z hz)⟩
 .have:=gr (f:=f) (l:=ws);simp only[QO,S0];lia
 .rw[aj λ(y:z=p)=>j (by rw[<-y];exact x z hz)];exact e
end
theorem zE{o':LO}(h:az Z i=some o):az (setAt Z i o') i=some o':=by
 delta az at h
 delta az setAt
 cases e:Z[i]? with
 |none=>rw[e] at h;cases h
 |some s=>
  rw[e] at h;have hi:=(Qv.mp e).1;cases s with
  |lv x=>dsimp only;rw[QN hi]
  |pv x=>dsimp only;rw[QN hi]
  |_=>exact cy h
theorem set_set{x o2:LO}(h:az Z i=some o):setAt (setAt Z i x) i o2=setAt Z i o2:=by
 delta az at h
 delta setAt
 cases e:Z[i]? with
 |none=>rw[e] at h;cases h
 |some s=>
  rw[e] at h;have hi:=(Qv.mp e).1;cases s with
  |lv x=>dsimp only;rw[QN hi];simp
  |pv x=>dsimp only;rw[QN hi];simp
  |_=>exact cy h
theorem uB{f:Str}{xs x:List A}:∀{ls:List (Str×List A)},ls.lookup f=some xs->(ik f x ls).lookup f=some x
 |[],h=>nomatch h
 |(y,zs)::r,h=>by
  simp only[QI] at h;unfold ik;cases hc:f==y with
  |true=>rw[YY rfl,QI,hc]
  |false=>rw[hc] at h;rw[YZ Z4,QI,hc];exact uB h
theorem ny{f:Str}{x:List A}:∀{ls:List (Str×List A)},cG f (ik f x ls)=cG f ls
 |[]=>rfl
 |(y,zs)::r=>by
  unfold ik;cases hc:f==y with
  |true=>rw[YY rfl];delta cG;show (if (f==y)=true then _ else _)=(if (f==y)=true then _ else _);rw[hc];rfl
  |false=>show (if (f==y)=true then cG f (ik f x r) else (y,zs)::cG f (ik f x r))=(if (f==y)=true then cG f r else (y,zs)::cG f r);rw[hc,ny]
theorem qz{f:Str}{x:List A}:∀{ls:List (Str×List A)},(ik f x ls).length=ls.length
 |[]=>rfl
 |(y,zs)::r=>by
  unfold ik;split
  .rfl
  .simp only[QF,QF,qz]
section
variable{X:Cx}{E:XK}
theorem zZ{t:TE}(h:PE X e t):PE X e (λY H Q=>t Y H λv V=>∃a C dx fs Z,V a=some (.ins C dx fs)/\(∀g,Z.lookup g=fs.lookup g)/\(∀g,g∈fs.map (·.1)->g∈Z.map (·.1))/\Z.length<=1000/\Q v (upd V a (.ins C dx Z))):=
 λpins s Y H Q I q=>cC (h pins s Y H _ I q) λu s1 ⟨y,V,O,z,a,C,dx,fs,Z,e,G,D,S,q⟩=>⟨y,_,nP O e G D S,z,q⟩
def qm(cs:List Str)(Z:List Sl)(i:Nat)(f:Str)(a:A):Option (List Sl):=match az Z i with
 | some (.nob c fs ls)=>if cs.contains c&&(fs.lookup f).isNone&&R8 (fs.length+ls.length) 900 then (match ls.lookup f with
  |some xs=>if xs.length<=100000 then some (setAt Z i (.nob c (fs++[(f,.lst (xs++[a]))]) (cG f ls))) else none
  | none=>none) else none
 |_=>none
theorem s9{B:List Sl}{f:Str}{a:A}(h:qm cs Z i f a=some B):∃c fs ls xs,az Z i=some (.nob c fs ls)/\fs.lookup f=none/\fs.length+ls.length<=900/\ls.lookup f=some xs/\xs.length<=100000/\ownAt cs Z i f=some xs/\B=setAt Z i (.nob c (fs++[(f,.lst (xs++[a]))]) (cG f ls)):=by
 delta qm at h
 delta ownAt
 cases T:az Z i with
 |none=>rw[T] at h;cases h
 |some lo=>
  rw[T] at h;cases lo with
  |nob cn fs ls=>
   dsimp only at h;by_cases e:(cs.contains cn&&(fs.lookup f).isNone&&R8 (fs.length+ls.length) 900)=true
   .rw[YY e] at h;rw[Qq] at e;have k:=e.1;rw[Qq,Rv] at k;cases H:ls.lookup f with
    |none=>rw[H] at h;cases h
    |some xs=>
     rw[H] at h;dsimp only at h;by_cases hl:xs.length<=100000
     .rw[YY hl] at h;cases h;exact⟨cn,fs,ls,xs,rfl,k.2,RB e.2,H,hl,by dsimp only;rw[YY e.1];exact H,rfl⟩
     .rw[YZ hl] at h;cases h
   .rw[YZ e] at h;cases h
  |_=>exact cy h
def lg(cs:List Str)(i:Nat)(f:Str)(m:Mi Rr):Mi Rr:=λZ=>match ownAt cs Z i f,iB i m Z with
 |some _,some r=>match bS r Z with
  |some (a,U)=>match qm cs U i f a with
   |some Z'=>some (.ok (.fr .non),Z')
   |none=>none
  |none=>none
 |_,_=>none
theorem Cu{x f:Str}{m:Mi Rr}(hN:X.N[i]?=some x)(A:jh X.env.scope x)(hd:fg x)(j:km x)
  (hc:∀c C,cs.contains c=true->X.mg c=some (.ref C)->gy X.K C/\bU X.K C f)
  (d:Xr (.Name x px) f X.env (eval (.Name x px) X.env)=eval (.Name x px) X.env)(he:JE X E e m)
  (k:Xr (.Attribute (.Name x px) f p1) "append" X.env (eval (.Attribute (.Name x px) f p1) X.env)=eval (.Attribute (.Name x px) f p1) X.env)
  (w:((Xw cpos (Xo [e] X.env)).all (λx=>!x.1)&&(XD cpos (Xy [] X.env)).all (λx=>x.1.isSome)&&decide (([e]:List Expr).length+([]:List XB).length+(if ([]:List XB).isEmpty then 0 else 1)<30))=true)
  (s:(apos.endLine==cpos.line)=true)(hs:Xo [e] X.env=(false,eval e X.env)::Xo [] X.env)(z:(Xw cpos (Xo [] X.env)).any (·.1)=false):
  JE X E (.Call (.Attribute (.Attribute (.Name x px) f p1) "append" apos) [e] [] cpos) (lg cs i f m):=
 ⟨PE.weaken (zZ (kb RC Tu Tv jX (eZ (bH hN A hd j) d) (aU he.p bY hs) k w s hs z)) λY H Q h=>by
  obtain⟨c,Z,τ,O,o,B,y,b,em,q⟩:=h
  delta lg at em
  cases e1:ownAt cs Z i f with
  |none=>rw[e1] at em;cases em
  |some xs=>
   cases e2:iB i m Z with
   |none=>rw[e1,e2] at em;cases em
   |some r=>
    rw[e1,e2] at em;dsimp only at em;cases F:bS r Z with
    |none=>rw[F] at em;cases em
    |some pr=>
     obtain⟨a,U⟩:=pr;rw[F] at em;dsimp only at em;cases n:qm cs U i f a with
     |none=>rw[n] at em;cases em
     | some Z'=>rw[n] at em;cases em;obtain⟨cn,fs,ls,D,T,S,l9,t,hl,g,rfl⟩:=s9 n;obtain⟨L,bl⟩:=id b;obtain⟨p,ys,l,h1,h5,h6,_⟩:=fS y hc bl e1;refine h1 _ ⟨.inl ⟨rfl,_,.inl (.inl h5)⟩,?_⟩;refine wF y b e2 λv H1 A I b1=>?_;have b2:=Bd.bS (xs:=[]) (ss:=[]) rfl b1 A F;obtain⟨L2,u,ra⟩:=Bd.tq b2;obtain⟨p2,R,l2,_,g5,V,g7⟩:=fS y hc u g;obtain rfl:=(I f p l).one l2;have P:=g7 _ _ (V.snoc ra);rw[jN _ T] at P;obtain⟨p',C,dx,ws,J,w1,w2,w3,w4,w5,G⟩:=Bd.Cf P (zE T) S (uB t);rw[set_set T,ny] at G;rw[qz] at w5;exact⟨p,R,v,rfl,rfl,g5,by have:=V.len;have:=XI;lia,p',C,dx,ws,J,w2,w3,w4,by lia,q _ _ trivial (Bd.push G λ_=>.non)⟩⟩
end
section
variable{c:Cn}{Y:St}{H:Hp}{Z:List Sl}{τ:St}{O:List Sl}
theorem Bd.IJ{p:Addr}{as:List A}(b:Bd c Y H Z (some (.ref p)::τ) (.lv (.lst as)::O)):∃us,H p=some (.lst us)/\us.length=as.length/\∀(q:Nat)(s:Int),Bd c Y (upd H p (.lst (us.set q (.int s)))) Z (some (.ref p)::τ) (.lv (.lst (as.set q (.int s)))::O):=by
 obtain⟨L,b⟩:=b;have rel:=b.rel;cases rel with
 |cons h r=>
  rename_i B L';cases h with
  |lv P=>
   cases P with
   |lst e x=>
    rename_i us;refine⟨us,e,x.len,λq s=>?_⟩;have nd:=Q3.mp b.nd;have i:p∈[p]++L':=by simp
    have sq:Sq (c.g H ([p]++L')) (c.g (upd H p (.lst (us.set q (.int s)))) ([p]++L')):=λz u a=>by
     by_cases hz:z∈[p]++L'\/z∈c.Hd
     .rw[gH hz] at a;cases a
     .rw[bJ (λy=>hz (.inl y)) (λy=>hz (.inr y))] at a;refine⟨u,?_,.inl rfl⟩;rw[bJ (λy=>hz (.inl y)) (λy=>hz (.inr y)),aj λ(y:z=p)=>hz (.inl (by simp only[y];exact i))];exact a
    refine⟨[p]++L',b.nd,?_,b.own,⟨λz o k=>?_,λw n=>?_⟩,b.kp,b.lt,b.hd⟩
    .exact .cons (.lv (.lst aM ((x.sm sq).set (.int s) q))) (r.sm sq λz hz u e=>by rw[aj λ(y:z=p)=>nd.1 (y▸hz)];exact e)
    .obtain⟨u,I,j⟩:=b.fr.st z o k;by_cases hz:z=p
     .subst hz;refine⟨_,aM,λv _=>?_⟩;rcases b.own z i with y|y
      .exact absurd y v
      .rw[y] at k;cases k
     .exact⟨u,by rw[aj hz];exact I,j⟩
    .obtain⟨G,D,S⟩:=b.fr.pk w n;refine⟨?_,D,S⟩;rw[aj λz=>?_]
     .exact G
     .obtain⟨ob,X,D⟩:=D;simp only[z,e] at G;rw[D] at G;cases G
end
section
variable{X:Cx}{E:XK}
def DQ(cs:List Str)(Z:List Sl)(o:Nat)(f:Str):Option Int:=match az Z o with
 | some (.nob c fs _)=>if cs.contains c then (match fs.lookup f with
  |some (.int s)=>some s
  | _=>none) else none
 |_=>none
theorem wI{o:Nat}{f:Str}{s:Int}(h:DQ cs Z o f=some s):∃c fs ls,az Z o=some (.nob c fs ls)/\cs.contains c=true/\fs.lookup f=some (.int s):=by
 delta DQ at h
 cases T:az Z o with
 |none=>rw[T] at h;cases h
 |some lo=>
  rw[T] at h;cases lo with
  |nob cn fs ls=>
   dsimp only at h;by_cases e:cs.contains cn=true
   .rw[YY e] at h;cases e2:fs.lookup f with
    |none=>rw[e2] at h;cases h
    |some a=>
     rw[e2] at h;cases a with
     |int i=>cases h;exact⟨cn,fs,ls,rfl,e,e2⟩
     |_=>exact cy h
   .rw[YZ e] at h;cases h
  |_=>exact cy h
theorem dS.O5{f:Str}{fs:List (Str×A)}{ls:List (Str×List A)}{a:A}(bl:dS c Y H Z τ O L)(T:az Z i=some (.nob cn fs ls))(e2:fs.lookup f=some a):
  ∃p C dx ws v,Y[i]?=some (some (.ref p))/\H p=some (.ins C dx ws)/\c.mg cn=some (.ref C)/\ws.lookup f=some v/\RA c.toKx (c.g H L) v a:=by
 obtain⟨p,_,h1,h2,q⟩:=bl.live T (.nob cn fs ls) (.lst []);cases h2 with
 |nob e m r l=>
  rename_i C dx vs ws;rcases r.get f with ⟨u,a',h,V,P⟩|⟨_,V⟩
  .rw[e2] at V;cases V;exact⟨p,C,dx,vs++ws,u,h1,e,m,iM h,P⟩
  .rw[e2] at V;cases V
def uG(cs:List Str)(i j z o:Nat)(f:Str)(m:Mi Rr):Ms:=c7 m λr Z=>match r with
 | .nw (.lst as)=>match az Z i,intAt Z j,intAt Z z,DQ cs Z o f with
  |some (.lst xs),some k,some l,some s=>match gk xs.length k,gk as.length l with
   |some n,some q=>some (.nx,setAt Z i (.lst (xs.set n (.lst (as.set q (.int s))))))
   |_,_=>none
  |_,_,_,_=>none
 |_=>none
theorem yL{a b:Addr}{x y:HO}(h:a≠b):upd (upd H a x) b y=upd (upd H b y) a x:=by
 funext d
 by_cases e:d=b
 .subst e;simp only[aM,aj (λz=>h z.symm),aM]
 .by_cases e2:d=a
  .subst e2;simp only[aj e,aM,aM]
  .simp only[aj e,aj e2,aj e2,aj e]
theorem wW{z o:Nat}{f:Str}{m:Mi Rr}(hc:∀c C,cs.contains c=true->X.mg c=some (.ref C)->gy X.K C/\bU X.K C f)(hw:∀Y H Q,kj (kx X) E m Y H Q->te Y H Q)(D:Ends)(Y:St)(H:Hp)
  (h:JU (kx X) E (uG cs i j z o f m) D Y H):A3 (rl te (BG (lE i) (lE j) qp)) (rl (DM X.K (lE o) f) (BG (JJ (HS X.K) (lE i) (lE j)) (lE z) qp)) D Y H:=by
 obtain⟨c,Z,τ,O,fl,B,ek,b,em,q⟩:=h;refine hw _ _ _ (dU ek b em q λr v U J hv b1 F=>?_);cases r with
 |rf j=>cases F
 |fr a=>cases F
 |nw lo=>
  cases lo with
  |lst as=>
   cases e1:az U i with
   |none=>rw[e1] at F;cases F
   |some lo=>
    cases e2:intAt U j with
    |none=>rw[e1,e2] at F;cases lo<;>exact cy F
    |some k=>
     cases N:intAt U z with
     |none=>rw[e1,e2,N] at F;cases lo<;>exact cy F
     |some l=>
      cases G:DQ cs U o f with
      |none=>rw[e1,e2,N,G] at F;cases lo<;>exact cy F
      |some s=>
       rw[e1,e2,N,G] at F;cases lo with
       |lst xs=>
        dsimp only at F;cases S:gk xs.length k with
        |none=>rw[S] at F;cases F
        |some n=>
         cases P:gk as.length l with
         |none=>rw[S,P] at F;cases F
         |some u=>
          simp only[S,P] at F;cases F;obtain⟨p,rfl⟩:=Bd.tR b1;obtain⟨us,k1,k2,k3⟩:=Bd.IJ b1;have b2:=k3 u s;have b3:Bd c Y (upd J p (.lst (us.set u (.int s)))) U (some (.ref p)::τ) (.fr (.lst (as.set u (.int s)))::O.map Sl.fr):=Bd.bS (xs:=[]) (ss:=[]) (r:=.nw (.lst (as.set u (.int s)))) rfl b2 (by trivial) rfl;obtain⟨L3,T,ra⟩:=Bd.tq b3;obtain⟨y,vs,s1,s2⟩:=fM b1 e1;obtain⟨L1,I⟩:=id b1;obtain⟨cn,fs,ls,f1,f2,f3⟩:=wI G;obtain⟨po,C,dx,ws,vo,o1,o2,o3,o4,o5⟩:=I.O5 f1 f3;obtain⟨vj,j1,j2⟩:=I.El (iN e2);obtain⟨vz,z1,z2⟩:=I.El (iN N);cases j2;cases z2;cases o5;have t:X.mg cn=some (.ref C):=by have:=Y2 (λk:Kx=>k.mg cn) ek;simp only at this;rw[<-this];exact o3
          obtain⟨c1,c2⟩:=hc cn C f2 t;have d:y≠po:=λw=>by simp only[w,o2] at s2;cases s2
          have yp:y≠p:=λw=>by
           obtain⟨L,bb⟩:=b1;have rel:au c.toKx (c.g J L) J (some (.ref p)::(τ++Y)) (.lv (.lst as)::(O.map Sl.fr++U)) L:=bb.rel;cases rel with
           |cons h r=>
            cases h with
            |lv lr=>
             obtain⟨L1,L2,g1,r1,r2⟩:=au.split (by have:(some (V.ref p)::τ).length=(Sl.lv (.lst as)::O.map Sl.fr).length:=bb.lt;simpa using this) r;have key:∀s:Sl,U[i]?=some s->(s=.lv (.lst xs)\/s=.pv (.lst xs))->False:=λs es hst=>by
              obtain⟨x,M1,M2,M3,hx,hs,g2,_⟩:=r2.at es;rw[s1] at hx;cases hx;have:y∈M2:=by
               rcases hst with rfl|rfl
               .cases hs;exact QH
               .cases hs;exact QH
              have nd:=bb.nd;rw[g1,g2] at nd;have:=(QE.mp nd).2.2 p QH y (by simp[this]);exact this w.symm
             delta az at e1
             cases es:U[i]? with
             |none=>rw[es] at e1;cases e1
             |some s=>
              rw[es] at e1;cases s with
              |lv o=>cases e1;exact key _ es (.inl rfl)
              |pv o=>cases e1;exact key _ es (.inr rfl)
              |_=>exact cy e1
          obtain⟨y',_,h1,h2,h3⟩:=T.live e1 (.lst (xs.set n (.lst (as.set u (.int s))))) (.lst (vs.set n (.ref p)));rw[s1] at h1;cases h1;have hvs:∃vl,bN c.toKx (c.g (upd J p (.lst (us.set u (.int s)))) L3) vl xs/\vl=vs:=by
           cases h2 with
           |lst e r=>rw[aj yp,s2] at e;cases e;exact⟨_,r,rfl⟩
          obtain⟨vl,R,evl⟩:=hvs;rw[evl] at R;have A:=R.len;have hn:n<vs.length:=by rw[A];exact(kK S).2.1
          refine⟨_,s1,_,j1,y,vs,k,n,rfl,rfl,s2,by rw[A];exact S,?_⟩;refine⟨_,o1,po,C,dx,ws,_,rfl,by rw[aj d.symm];exact o2,c1,c2,o4,?_⟩;refine⟨_,s1,_,j1,y,vs.set n (.ref p),k,.ref p,rfl,rfl,.of aM,Gf (by rw[UW,A];exact S) (by rw[QN hn]),_,z1,p,us,l,u,rfl,rfl,by rw[aj yp.symm];exact k1,by rw[k2];exact P,?_⟩;rw[yL yp];cases h2 with
          |lst e r=>exact q Y _ (h3 λH' hh=>.lst hh (R.set ra n))
       |_=>cases F
  |_=>cases F
theorem AD{a b:Stmt}{r:List Stmt}{ta tb:TS}{m n:Ms}(i:PS X a ta)(C:PS X b tb)(w:∀D Y H,JU (kx X) E m D Y H->A3 ta tb D Y H)(h':qy X E r n):qy X E (a::b::r) (av m n):=⟨qZ.weaken (lC i (lC C h'.p)) λD Y H h=>by
 refine w { D with nx:=JU (kx X) E n D } Y H ?_;obtain⟨c,Z,τ,O,f,B,y,b,em,q⟩:=h
 delta av at em
 cases e:m Z with
 |none=>rw[e] at em;cases em
 |some p=>
  obtain⟨I,U⟩:=p;rw[e] at em;refine⟨c,Z,τ,O,I,U,y,b,e,?_⟩;cases I with
  |nx=>exact λj H' K=>⟨c,U,τ,O,f,B,y,K,em,q⟩
  |rt s=>cases em;exact q
  |bk=>cases em;exact q
  |ct=>cases em;exact q
  | ex x=>cases em;exact q⟩
end
variable{w:Xz}{lo hi:Int}{u:Tok}{q1 q2:Pos}
section
open PyProof.Rows
noncomputable def Nx(p:Addr)(lo hi:Int):HO:=.exd λh=>∃t u v,IsRange h p lo hi 1 t u v
section
variable{X:Cx}{E:XK}
theorem Ft{prog:Program}{h:Heap}{p:Addr}{t v:Tok}(e:IsRange h p lo hi 1 t u v):dH prog w H h p (Nx p lo hi):=
 ⟨⟨t,u,v,e⟩,⟨_,e⟩,λ_ _ ⟨t,u,v,q⟩ k=>⟨t,u,v,k _ q⟩⟩
theorem v8:c6 X (.type "range") (λxs H Q=>∃j:Int,xs=[.int j]/\∀p,H p=none->Q (.ref p) (upd H p (Nx p 0 j))):=by intro pins s Y H xs us Q I r h;obtain⟨j,rfl,q⟩:=h;obtain⟨u,rfl,Z⟩:=vals1 r;obtain⟨t,rfl⟩:=Z;exact call_range_1 ⟨.ref s.heap.objs.size,_,I.laid (λb o e=>QG _ e) (QB _) (Ft (Q5 _ rfl)),rfl,q _ (I.hok.fresh (QB _))⟩
theorem xy:c6 X (.type "range") (λxs H Q=>∃i j:Int,xs=[.int i,.int j]/\∀p,H p=none->Q (.ref p) (upd H p (Nx p i j))):=by
 intro pins s Y H xs us Q I r h;obtain⟨i,j,rfl,q⟩:=h;cases r with
 |cons r n=>
  cases n with
  |cons l n=>cases n;obtain⟨t,rfl⟩:=r;obtain⟨w,rfl⟩:=l;exact call_range_2 ⟨.ref s.heap.objs.size,_,I.laid (λb o e=>QG _ e) (QB _) (Ft (Q5 _ rfl)),rfl,q _ (I.hok.fresh (QB _))⟩
noncomputable def uf(lo:Int)(n:Nat):List V:=(QK n).map λi=>.int (lo+(i:Nat))
theorem xY{n:Nat}{acc:Array Value}(h:ItemsOf (λi v=>∃t,v=TK (lo+(i:Nat)*1) t) acc n):Vals (uf lo n) acc.toList:=by
 obtain⟨h1,h2⟩:=h;obtain⟨l⟩:=acc;have key:∀(l:List Value)(k n:Nat),l.length=n->(∀(j:Nat)(v:Value),l[j]?=some v->∃t,v=TK (lo+((j+k:Nat):Int)*1) t)->Vals ((List.range' k n).map λi=>V.int (lo+(i:Nat))) l:=by
  intro l;induction l with
  |nil=>intro k n e _;subst e;exact .nil
  |cons a l m=>
   intro k n e h;subst e;refine .cons ?_ (m (k+1) _ rfl λj v e=>?_)
   .obtain⟨t,rfl⟩:=h 0 a rfl;exact⟨t,by simp⟩
   .obtain⟨t,rfl⟩:=h (j+1) v e;exact⟨t,by rw[show j+1+k=j+(k+1) by lia]⟩
 have:=key l 0 n h1 (by simpa using h2);rw[<-List.range_eq_range'] at this;exact this
theorem og(hc:X.calm=true):c6 X (.type "list") (λxs H Q=>∃(p:Addr)(lo hi:Int),xs=[.ref p]/\H p=some (Nx p lo hi) /\ -(2^60)<=lo/\lo<2^60 /\ -(2^60)<=hi/\hi<2^60/\(hi-lo).toNat<=100000/\∀l,H l=none->Q (.ref l) (upd H l (.lst (uf lo (hi-lo).toNat)))):=by
 intro pins s Y H xs us Q I r h;obtain⟨p,lo,hi,rfl,hp,b1,b2,J,O,Z,q⟩:=h;obtain⟨u,rfl,o⟩:=vals1 r;cases o;obtain⟨⟨t,u,v,e⟩,_,_⟩:=(I.hok p _ hp)
 have hn:R4 lo hi 1=((hi-lo).toNat:Nat):=by rw[rangeSize_one];split<;>lia
 refine call_list_range (I.ok.hd hc) e (small_one Q1 (by exact Kd) Q1 (by exact Kd)) hn Z5 λh' tk a i kp c j=>?_;refine⟨.ref s.heap.objs.size,_,I.laid kp (QB _) (show dH X.prog X.w _ h' _ (.lst (uf lo (hi-lo).toNat)) from ⟨?_,a.toList,i,xY j,by simpa using c⟩),rfl,q _ (I.hok.fresh (QB _))⟩;have:=XI;unfold uf;simp only[Qt,RH];exact vZ
theorem Dw{k:Kx}{G:Hp}(lo:Int)(n:Nat):bN k G (uf lo n) (bI lo n):=by
 delta uf bI
 generalize QK n=l
 induction l with
 |nil=>exact .nil
 |cons i l m=>exact .cons (.int _) m
theorem qP{Y:L2.St}{τ:L2.St}{n:Nat}(b:Bd c Y H Z τ O)(q:∀v H',VR Y (.nw (.lst (bI lo n))) v->Bd c Y H' Z (some v::τ) (.lv (.lst (bI lo n))::O)->Q v H')(l:Addr)(h:H l=none):Q (.ref l) (upd H l (.lst (uf lo n))):=by obtain⟨L,bl⟩:=b;exact q _ _ trivial (bl.kn h λG H' _ e=>.lst e (Dw lo n))
noncomputable def B1(lo hi:Int):Bool:=decide (-(2^60)<=lo/\lo<2^60 /\ -(2^60)<=hi/\hi<2^60/\(hi-lo).toNat<=100000)
def iE(m:Mi Rr):Mi Rr:=aT m λr Z=>match res Z r with
 |some (.int j)=>if B1 0 j=true then some (.ok (.nw (.lst (bI 0 (j-0).toNat))),Z) else none
 |_=>none
theorem zL{a:Expr}{m:Mi Rr}(hc:X.calm=true)(J:Gl X "list")(hm:X.mg "list" = none)(A:Xq "list" = some (.type "list"))(e:Gl X "range")(i:X.mg "range" = none)(f:JE X E a m)
  (hs:Xo [a] X.env=(false,eval a X.env)::Xo [] X.env):JE X E (.Call (.Name "list" p1) [.Call (.Name "range" p2) [a] [] q2] [] q1) (iE m):=
 ⟨PE.weaken (fL (og hc) J hm A (aU (fL v8 e i Yp (aU f.p bY hs) Z2 Z2 hs rfl) bY rfl) Z2 Z2 rfl rfl) λY H Q h=>by
  obtain⟨c,Z,τ,O,o,B,y,b,em,q⟩:=h;refine a9 y b em (λx v U V A b1 D=>?_) (bD q);obtain⟨j,e1,K⟩:=yP D;have g:=Bd.rd b1 A e1;cases g;by_cases hl:B1 0 j=true
  .rw[YY hl] at K;cases K;have hl:=Y4 hl;refine⟨j,rfl,λp hp=>⟨p,0,j,rfl,aM,by decide,by decide,by lia,by lia,hl.2.2.2.2,λl hl=>?_⟩⟩;exact qP (b1.drop.new hp) q l hl
  .rw[YZ hl] at K;cases K⟩
def kW(m n:Mi Rr):Mi Rr:=aT m λr=>aT n λt=>λZ=>match res Z r,res Z t with
 |some (.int i),some (.int j)=>if B1 i j=true then some (.ok (.nw (.lst (bI i (j-i).toNat))),Z) else none
 |_,_=>none
theorem BS{a a2:Expr}{m n:Mi Rr}(hc:X.calm=true)(J:Gl X "list")(hm:X.mg "list" = none)(A:Xq "list" = some (.type "list"))(e:Gl X "range")(C:X.mg "range" = none)(f:JE X E a m)(L:JE X E a2 n)
  (hs:Xo [a,a2] X.env=(false,eval a X.env)::Xo [a2] X.env)(P:Xo [a2] X.env=(false,eval a2 X.env)::Xo [] X.env)(hp:(Xw q2 (Xo [a2] X.env)).any (·.1)=false):JE X E (.Call (.Name "list" p1) [.Call (.Name "range" p2) [a,a2] [] q2] [] q1) (kW m n):=
 ⟨PE.weaken (fL (og hc) J hm A (aU (fL xy e C Yp (aU f.p (aU L.p bY P) hs) Z2 Z2 hs hp) bY rfl) Z2 Z2 rfl rfl) λY H Q h=>by
  obtain⟨c,Z,τ,O,o,B,d,b,em,q⟩:=h;refine a9 d b em (λx v U V A b1 D=>?_) (bD q);refine a9 d b1 D (λy w Z' S r b2 K=>?_) (cS (bD q));obtain⟨i,j,e1,e2,K⟩:=rL K;obtain⟨rfl,rfl⟩:v=.int i/\w=.int j:=by have z:=Bd.rd b2 r e2;have g:=Bd.rd b2.drop A e1;cases g;cases z;exact⟨rfl,rfl⟩
  by_cases hl:B1 i j=true
  .rw[YY hl] at K;cases K;have hl:=Y4 hl;refine⟨i,j,rfl,λp hp=>⟨p,i,j,rfl,aM,by lia,by lia,by lia,by lia,hl.2.2.2.2,λl hl=>?_⟩⟩;exact qP (b2.drop.drop.new hp) q l hl
  .rw[YZ hl] at K;cases K⟩
end
end
variable{d:Expr}
section
open PyProof.Rows
noncomputable def Ci(lo c:Int)(n:Nat):It:=⟨λi _=>i<n,λi H x H'=>H'=H/\x=.int (lo+i*c),λi _=>n<=i⟩
theorem rR{P:Program}{K:Qr}{tg:Expr}(it:Addr)(lo c:Int)(n:Nat):Turn P w K tg (Ci lo c n) [it] it (λi h=>YK h it (lo+(i:Nat)*c) ((n:Int)-(i:Nat)) c) where
 mem:=by simp
 obj:=λi h st b d=>by
  have e:b=it:=by simpa using d
  subst e;exact⟨_,st,λv z=>by have x:=z;cases x⟩
 keep:=λi h h' st k=>k it Z4 _ st
 item:=by intro X m A q hc i pins s Y H E I hf st J;subst m A q;obtain⟨u,B,L,C,D,F⟩:=hf it Z4;have W:=Wz (prog:=X.prog) (w:=X.w) (I.ok.hd hc) it lo c n;refine W.item i s _ _ J st λv h' tk p N S=>?_;obtain⟨t,rfl⟩:=p;have O:Inv X pins Y H { s with heap:=h',toks:=tk }:=I.turned (λb o d e=>S b o (by simpa using d) e) u B C D F;exact⟨_,rfl,uT N rfl rfl Z2 ⟨.int (lo+i*c),H,O,⟨t,rfl⟩,⟨rfl,rfl⟩,N,λb d=>(hf b d).1⟩⟩
 done:=by intro X m A q hc i pins s Y H E I hf st J;obtain⟨u,B,L,C,D,F⟩:=hf it Z4;exact Yn (I.ok.hd hc) st (by have:n<=i:=J;lia) λh' R=>⟨rfl,I.turned (λb o d e=>R b o d e) u B C D F⟩
 self:=λ_ _ _ _ _ st h=>Yo st h
noncomputable def Bg(lo hi c:Int):Nat:=if lo<hi then ((hi-lo-1) / c+1).toNat else 0
theorem J0{c:Int}(h:0<c):R4 lo hi c=(Bg lo hi c:Nat):=by
 delta R4 Bg
 rw[YY h]
 by_cases e:lo<hi
 .rw[YY e,YY e]
  have:=Int.ediv_nonneg (show 0<=hi-lo-1 by lia) (show 0<=c by exact Rw ‹_›)
  lia
 .rw[YZ e,YZ e];rfl
section
variable{X:Cx}{E:XK}{tg:Expr}
theorem wA{pins:List (Addr×Obj)}{Y:L2.St}{s:Shared}{R:It->Hp->Prop}{E:Value->Shared->Prop}{c:Int}{t v:Tok}{tk:Nat}(I:Inv X pins Y H s)(h:TL lo hi c=true)(hc:0<c)
  (q:R (Ci lo c (Bg lo hi c)) H):Xu (Xv X.prog X.w) X.A (pyIter (.ref s.heap.objs.size)) (NF X pins Y tg R) E { s with heap:=s.heap.push { cls:=.type "range",data:=.fields #[.int lo t,.int hi u,.int c v] },toks:=tk }:=by
 refine YB (Wh ..) h ?_;have O:Inv X pins Y H { s with heap:=s.heap.push { cls:=.type "range",data:=.fields #[.int lo t,.int hi u,.int c v] },toks:=tk }:=I.kept λb o e=>QG _ e;refine⟨(s.heap.push { cls:=.type "range",data:=.fields #[.int lo t,.int hi u,.int c v] }).objs.size,[(s.heap.push { cls:=.type "range",data:=.fields #[.int lo t,.int hi u,.int c v] }).objs.size],_,_,H,rfl,
  O.kept λb o e=>QG _ e,rR _ lo c (Bg lo hi c),?_,λb d=>?_,q⟩
 .have e1:lo+((0:Nat):Int)*c=lo:=by simp
  have e2:((Bg lo hi c:Nat):Int)-((0:Nat):Int)=R4 lo hi c:=by rw[J0 hc];rfl
  simp only[e1,e2];exact Q5 _ rfl
 .have e:b=(s.heap.push { cls:=.type "range",data:=.fields #[.int lo t,.int hi u,.int c v] }).objs.size:=by simpa using d
  subst e;exact O.wt (QB _) (O.hok.fresh (QB _))
noncomputable def IS(lo hi c:Int):Bool:=decide (0<c)&&decide (c.natAbs<2^60)&&TL lo hi c
def KI(ta:TA):TI:=λY H R=>ta Y H λvs V=>∃i j c:Int,vs=[.int i,.int j,.int c]/\IS i j c=true/\R (Ci i c (Bg i j c)) V
theorem yd{c:Int}(h:IS lo hi c=true):0<c/\TL lo hi c=true/\∀x,UP x c=false:=by unfold IS at h;simp only[Qq,Qq,decide_eq_true_eq,decide_eq_true_eq] at h;refine⟨h.1.1,h.2,λx=>?_⟩;unfold UP;have:c.natAbs.log2<60:=(VI Q1).mpr h.1.2;rw[Bool.and_eq_false_iff];left;refine Y0 ?_;show ¬ (if (c==0)=true then 0 else c.natAbs.log2 / 30+1) > 300;split<;>lia
theorem wb{a b:Expr}{ta:TA}(J:Gl X "range")(hm:X.mg "range" = none)(f:PA X [a,b,d] ta)(hs:Xo [a,b,d] X.env=(false,eval a X.env)::Xo [b,d] X.env)(hp:(Xw pos (Xo [b,d] X.env)).any (·.1)=false):
  PI X tg (.Call (.Name "range" p) [a,b,d] [] pos) (KI ta):=by
 intro pins s Y H R I h;refine Call_ (gz I J hm Yp (RJ (cC (f pos pins s Y H _ I h) λus s1 ⟨vs,V,O,g,q1⟩=>?_) hs hp));obtain⟨i,j,c,e,ok,q⟩:=q1;subst e;obtain⟨G,D,S⟩:=yd ok;cases g with
 |cons r n=>
  cases n with
  |cons r' n=>
   cases n with
   |cons Z n=>cases n;obtain⟨t,rfl⟩:=r;obtain⟨t',rfl⟩:=r';obtain⟨v,rfl⟩:=Z;exact call_range_3 (by exact Rg ‹_›) (wA O D G q) (.inl (S _))
noncomputable def rb(lo c:Int)(n:Nat):List A:=(QK n).map λi=>.int (lo+(i:Nat)*c)
theorem DJ{c:Int}{n:Nat}:JN K (Ci lo c n) [] [] (rb lo c n):=λcn Y H Z F D τ O i d P b=>by
 have hl:(rb lo c n).length=n:=by simp[rb]
 refine⟨λh=>by rw[hl] at h;exact h,λa f=>?_⟩;have hi:i<n:=by rw[<-hl];exact(Qv.mp f).1
 refine⟨hi,λx H' y=>?_⟩;obtain⟨rfl,rfl⟩:=y;have:a=.int (lo+i*c):=by unfold rb at f;simp only[Q0,Sf hi] at f;exact(QW f).symm
 subst this;exact b.push λ_=>.int _
theorem yA{u w x:Option A}{F:Int->Int->Int->Option α}{r:α} (h:(match u,w,x with
 |some (.int i),some (.int j),some (.int k)=>F i j k
 | _,_,_=>none)=some r):∃i j k,u=some (.int i)/\w=some (.int j)/\x=some (.int k)/\F i j k=some r:=by
 split at h
 .rename_i i j k;exact⟨i,j,k,rfl,rfl,rfl,h⟩
 .cases h
def rX(m n o:Mi Rr):Mi (List A):=aT m λr=>aT n λt=>aT o λu=>λZ=>match res Z r,res Z t,res Z u with
 |some (.int i),some (.int j),some (.int c)=>if IS i j c=true then some (.ok (rb i c (Bg i j c)),Z) else none
 |_,_,_=>none
theorem B5{a b:Expr}{m n o:Mi Rr}(A:Gl X "range")(hm:X.mg "range" = none)(f:JE X E a m)(P:JE X E b n)(hd:JE X E d o)
  (C:Xo [a,b,d] X.env=(false,eval a X.env)::Xo [b,d] X.env)(L:Xo [b,d] X.env=(false,eval b X.env)::Xo [d] X.env)(Q:Xo [d] X.env=(false,eval d X.env)::Xo [] X.env)(hp:(Xw pos (Xo [b,d] X.env)).any (·.1)=false):JI X E tg (.Call (.Name "range" p) [a,b,d] [] pos) (rX m n o):=⟨λpins s Y H R I h=>by
 refine wb A hm (aU f.p (aU P.p (aU hd.p bY Q) L) C) C hp pins s Y H R I ?_;obtain⟨c,Z,τ,O,o,B,r,b,em,q⟩:=h;refine a9 r b em (λx v U H1 S b1 D=>?_) (dd q);refine a9 r b1 D (λy w Z' H2 G b2 K=>?_) (cS (dd q));refine a9 r b2 K (λz u Z0 N g J e=>?_) (cS (cS (dd q)));obtain⟨i,j,k,e1,e2,T,e⟩:=yA e;obtain⟨rfl,rfl,rfl⟩:v=.int i/\w=.int j/\u=.int k:=by have t:=Bd.rd J g T;have l:=Bd.rd J.drop G e2;have V:=Bd.rd J.drop.drop S e1;cases V;cases l;cases t;exact⟨rfl,rfl,rfl⟩
 by_cases F:IS i j k=true
 .rw[YY F] at e;cases e;exact⟨i,j,k,rfl,F,q _ N [] [] rfl DJ J.drop.drop.drop⟩
 .rw[YZ F] at e;cases e⟩
end
end
end M
set_option maxHeartbeats 4000000
set_option maxHeartbeats 1000000
namespace M
open PySem L2
section
variable{X:Cx}{E:XK}
def EZ(K:Qr):R2:=λx y H Q=>∃l k xs,x=.ref l/\y=.int k/\dM K H l xs /\ -(2^63)<=k/\k<2^63/\xs.length*k.toNat<=sizeLine/\∀p,H p=none->Q (.ref p) (upd H p (.lst (QD k.toNat xs).flatten))
theorem Eb:iC X (XU .Mult) (EZ X.K):=by
 intro pins s Y H x y v u Q I o z h;obtain⟨l,k,xs,rfl,rfl,p,h1,h2,hz,q⟩:=h;cases o;obtain⟨t,rfl⟩:=z;obtain⟨j,r,C,_⟩:=I.list p;obtain⟨⟨L,U,w,R⟩,n,e,O,i,E⟩:=id C;subst O E i;have hl:=r.length;have A:j.toArray.size*k.toNat<=sizeLine:=by rw[Qy,<-hl];exact hz
 have Z:¬ j.toArray.size*k.toNat > (2^63-1) / 8:=by
  have:(sizeLine:Nat)<=(2^63-1) / 8:=by decide
  lia
 have b:¬ (!Uy k)=true:=by rw[fitsIndex_both h1 h2];exact Rk
 have c:¬ Td (j.toArray.size*k.toNat)=true:=by rw[zu A];exact Rk
 have S:Ux (λB P=>B++P) #[] (QD (if j.toArray.isEmpty=true then 0 else k.toNat) j.toArray)=(QD k.toNat j).flatten.toArray:=by
  have V:∀m:Nat,Ux (λB P=>B++P) #[] (QD m j.toArray)=(QD m j).flatten.toArray:=λm=>by have:=foldl_rep j m [];exact this
  rw[V];cases j with
  |nil=>simp
  |cons a r'=>rw[YZ Z4]
 refine wpAny_binaryOp_repeat_ref Z2 ⟨_,e,rfl⟩ (λs'=>YW s' k t) noFill_list_mul F.fills_int_mul WD repeat_list F.slot_int_index.lookup
  (X8 WD (YW s k t) F.entry_int_rmul (F.args_int_rmul_2 _ _) (lm_int_rmul_list_any k t l j.toArray n _ _)
   ⟨e,rfl,⟨_,e,rfl⟩,X8 F.slot_list_mul ⟨_,e,rfl⟩ F.entry_list_mul (F.args_list_mul_2 _ _) (lm_list_mul_any l j.toArray n _ _ k t b Z c) ⟨e,?_⟩⟩)
 rw[S];exact⟨.ref _,_,I.Ja (r.rep k.toNat) (by rw[len_rep,To];exact hz),rfl,q _ I.fresh⟩
theorem bN.rep{k:Kx}{G:Hp}{vs:List V}{as:List A}(r:bN k G vs as):∀n:Nat,bN k G (QD n vs).flatten (QD n as).flatten
 |0=>.nil
 |n+1=>by exact r.app (bN.rep r n)
noncomputable def wd:A->A->Option Rr
 | .lst xs,.int k=>if 0<=k/\k<=1000/\xs.length<=100 then some (.nw (.lst (QD k.toNat xs).flatten)) else none
 |_,_=>none
theorem IU{K:Kx}:iT K (EZ K.K) wd:=by
 intro c Y H Z τ O x y v w a b q Q d S A bd e1 e2 N k;cases a<;>first|(exact cy N)|(cases b<;>first|(exact cy N)|skip)
 rename_i xs n
 delta wd at N
 dsimp only at N;by_cases hc:0<=n/\n<=1000/\xs.length<=100
 .rw[YY hc] at N;cases N;obtain⟨L,bl,s,I⟩:=Bd.AQ bd S A e1 e2;obtain⟨C,B,rfl,s1,g⟩:=s.1 xs rfl;have l:=Bd.rd bd A e2;cases l;have h:=g.len;subst d;have hz:=Q4 (Um (show B.length<=100 by lia) (show n.toNat<=1000 by lia)) nV;exact⟨C,n,B,rfl,rfl,s1,by lia,by lia,hz,λp hp=>k _ _ trivial (bl.kn hp λG H' sm q=>.lst q ((g.rep n.toNat).sm sm))⟩
 .rw[YZ hc] at N;cases N
theorem Jy{a b:Expr}{ma mb:Mi Rr}{pos:Pos}(f:JE X E a ma)(d:JE X E b mb):JE X E (.BinOp a .Mult b pos) (aB wd ma mb):=lT Eb IU f d
end
end M
set_option maxHeartbeats 4000000
namespace M
open PySem L2
variable{ma mb:Mi Rr}{pos:Pos}
section
variable{X:Cx}{E:XK}
abbrev aJ:=NW Fy AE
theorem EA{a b:Expr}(f:JE X E a ma)(d:JE X E b mb):JE X E (.BinOp a .Add b pos) (aB aJ ma mb):=lT (iC.or' Hj zA) (Ce.or Cw) f d
theorem Eh{a b:Expr}(f:JE X E a ma)(d:JE X E b mb):JE X E (.BinOp a .Mult b pos) (aB aZ ma mb):=lT D1 Ey f d
end
def L7(K:Qr)(ta:TA):TI:=λY H R=>ta Y H λvs V=>∃a b xs ys,vs=[.ref a,.ref b]/\dM K V a xs/\dM K V b ys/\R (LM K a b) V
variable{e1 e2 e:Expr}{p tp:Pos}{es:List Expr}{kk:Nat}
section
variable{X:Cx}{E:XK}
theorem C9{ta:TA}(z:Gl X "zip")(hm:X.mg "zip" = none)(f:PA X [e1,e2] ta)(hs:Xo [e1,e2] X.env=[(false,eval e1 X.env),(false,eval e2 X.env)])(P:Xo [e2] X.env=[(false,eval e2 X.env)]):
  PI X (.Tuple es kk tp) (.Call (.Name "zip" p) [e1,e2] [] pos) (L7 X.K ta):=by
 intro pins s Y H R I h;refine WZ (gz I z hm Gy (RJ (cC (f pos pins s Y H _ I h) λus s1 ⟨vs,V,O,g,j⟩=>?_) (by simp only[hs,P]) (by rw[P];rfl)));obtain⟨a,b,xs,ys,rfl,k,N,q⟩:=j;obtain⟨u,v,rfl,r,r'⟩:=g.two;cases r;cases r';have fin:∀{J:It}{St:Nat->Heap->Prop}{h':Heap},a<s1.heap.objs.size->b<s1.heap.objs.size->(∀c o,s1.heap.get? c=some o->h'.get? c=some o)->IsZip h' (s1.heap.objs.size+4) (s1.heap.objs.size+2) (s1.heap.objs.size+3) .none->St 0 h'->
   Turn X.prog X.w X.K (.Tuple es kk tp) J [s1.heap.objs.size+4,s1.heap.objs.size+2,s1.heap.objs.size+3,s1.heap.objs.size,s1.heap.objs.size+1] (s1.heap.objs.size+4) St->R J V->Xu (Xv X.prog X.w) X.A (pyIter (.ref (s1.heap.objs.size+4))) (NF X pins Y (.Tuple es kk tp) R) X.xe { s1 with heap:=h' }:=by
  intro J St h' E B keep Z C T q;have U:=O.kept (t':=s1.toks) keep;refine wpAny_pyIter_zip Z ⟨_,[s1.heap.objs.size+4,s1.heap.objs.size+2,s1.heap.objs.size+3,s1.heap.objs.size,s1.heap.objs.size+1],_,_,V,rfl,U,T,C,λc hc=>?_,q⟩;have i:s1.heap.objs.size<=c:=by simp only[QC,Ru,or_false] at hc;rcases hc with rfl|rfl|rfl|rfl|rfl<;>first|exact RZ _ _|exact QB _
  exact O.wt i (O.hok.fresh i)
 obtain⟨t,y,x,_⟩:=O.list k;obtain⟨m,n,L,_⟩:=O.list N;have E:a<s1.heap.objs.size:=by obtain⟨o,e,_⟩:=x.isList;exact QM e
 have B:b<s1.heap.objs.size:=by obtain⟨o,e,_⟩:=L.isList;exact QM e
 exact call_zip_2 x.isList L.isList λh' Q F G D S d keep=>fin E B keep Q (⟨Q,F,⟨_,_,G⟩,D,S⟩:AO h' _ _ _ _ _ a b 0) (wu (W0 E B)) q
def lN(ma mb:Mi Rr):Mi (List A):=aT ma λx=>aT mb λy=>λZ=>match dr [x,y] Z with
 |some ([.lst as,.lst bs],B)=>some (.ok (rj as bs),B)
 |_=>none
theorem En{m n:Mi Rr}(hg:Gl X "zip")(hm:X.mg "zip" = none)(h1:JE X E e1 m)(h2:JE X E e2 n)(hs:Xo [e1,e2] X.env=[(false,eval e1 X.env),(false,eval e2 X.env)])(P:Xo [e2] X.env=[(false,eval e2 X.env)])(G:Xo [e1,e2] X.env=(false,eval e1 X.env)::Xo [e2] X.env)(S:Xo [e2] X.env=(false,eval e2 X.env)::Xo [] X.env):
  JI X E (.Tuple es kk tp) (.Call (.Name "zip" p) [e1,e2] [] pos) (lN m n):=⟨λpins s Y H R I h=>by
 refine C9 hg hm (aU h1.p (aU h2.p bY S) G) hs P pins s Y H R I ?_;obtain⟨c,Z,τ,O,o,B,d,b,em,q⟩:=h;refine a9 d b em (λx v U H1 hv b1 A=>?_) (dd q);refine a9 d b1 A (λy w Z' g hw b2 e=>?_) (cS (dd q));cases V:dr [x,y] Z' with
 |none=>rw[V] at e;cases e
 |some pr=>
  rw[V] at e;obtain⟨cs,N⟩:=pr;cases cs with
  |nil=>cases e
  |cons ca l=>cases ca with
   |lst as=>cases l with
    |nil=>cases e
    |cons cb l=>cases cb with
     |lst bs=>cases l with
      |cons _ _=>cases e
      |nil=>
       cases e;have eK:c.K=X.K:=Y2 Kx.K d;have b3:Bd c Y g _ ([some w,some v]++τ) ([Sl.fr (.lst bs),Sl.fr (.lst as)]++O):=(Bd.dr (rs:=[x,y]) (vs:=[v,w]) ⟨hv,hw,trivial⟩ b2 V).1;obtain⟨L0,bl0,w0,v0⟩:=Bd.LI (xs:=[]) (ss:=[]) rfl b3;cases w0 with
       |lst we wr=>
       cases v0 with
       |lst ve vr=>
       rename_i pw us pv ts;refine⟨pv,pw,ts,us,rfl,by rw[<-eK];exact eY (g_same _ _ _) ve,by rw[<-eK];exact eY (g_same _ _ _) we,q _ g [some (.ref pw),some (.ref pv)] [.lst bs,.lst as] rfl (λc' j H' B F D J T i ek' lx b'=>?_) b3⟩;have Q:c'.K=X.K:=Y2 Kx.K ek';obtain⟨L,bl,w1,v1⟩:=Bd.LI (τ:=J) (O:=T) lx b';cases w1 with
       |lst we wr=>
       cases v1 with
       |lst ve vr=>
       rename_i C r;have sw:dM X.K H' pw C:=by rw[<-Q];exact eY (g_same _ _ _) we
       have sv:dM X.K H' pv r:=by rw[<-Q];exact eY (g_same _ _ _) ve
       refine⟨λhi=>⟨r,C,sv,sw,?_⟩,λa f=>?_⟩
       .unfold rj at hi;rw[Qt,Te] at hi;by_cases z:as.length<=i
        .exact .inl (RQ (by rw[vr.len];exact z))
        .exact .inr (RQ (by rw[wr.len];lia))
       .unfold rj at f;rw[Q0] at f;cases ez:(as.zip bs)[i]? with
        |none=>rw[ez] at f;cases f
        |some pr=>rw[ez] at f;cases f;obtain⟨za,zb⟩:=Sz.mp ez;obtain⟨t,g1,g2⟩:=vr.ta za;obtain⟨u,k1,k2⟩:=wr.ta zb;refine⟨⟨r,C,t,u,sv,sw,g1,k1⟩,λx g yy=>?_⟩;obtain⟨tt,x',y',rfl,hn,rfl,k⟩:=yy;obtain⟨z1,z2⟩:=k r C sv sw;rw[g1] at z1;cases z1;rw[k1] at z2;cases z2;obtain⟨b2,sm,np⟩:=bl.new (o:=.tup [t,u]) hn;exact b2.push (.tup (.inl (.inl (by rw[bJ np (bl.Lk hn)];exact aM))) ((bN.cons g2 (.cons k2 .nil)).sm sm))
     |_=>exact cy e
   | _=>cases e⟩
def cB(m:Mi Rr)(Y H:Mi (Option Int)):Mi Rr:=aT m λx=>aT Y λlo=>aT H λhi=>λZ=>match res Z x with
 |some (.lst xs)=>some (.ok (.nw (.lst (il xs lo hi))),Z)
 |some (.tup xs)=>if HT.cM xs.length 0 lo=0/\HT.cM xs.length xs.length hi=xs.length then none else some (.ok (.fr (.tup (il xs lo hi))),Z)
 |_=>none
theorem Gr{lo hi:Option Expr}{m:Mi Rr}{C r:Mi (Option Int)}{T:Pos}(h:JE X E e m)(hl:JP X E lo C)(z:JP X E hi r):JE X E (.Subscript e (.Slice lo hi none T) pos) (cB m C r):=
 ⟨PE.weaken (BN (L2.eH.or Cy F4) h.p hl.p z.p) λY H Q h=>by
  obtain⟨c,Z,τ,O,o,B,y,b,em,q⟩:=h;refine a9 y b em (λx v U V A b1 D=>?_) (bD q);refine vM y b1 D (λl Z' S b2 R=>?_) (cS (bD q));refine vM y b2 R (λu Z0 w J i=>?_) (cS (bD q));have s:c.K=X.K:=Y2 Kx.K y;cases e1:res Z0 x with
  |none=>rw[e1] at i;cases i
  |some a=>
   rw[e1] at i;obtain⟨L,bl,F⟩:=Bd.open J A e1;cases a with
   |lst xs=>cases i;obtain⟨p,vs,rfl,s1,n⟩:=F.1 xs rfl;exact .inl ⟨p,vs,rfl,by rw[<-s];exact s1,λk hp=>q _ _ trivial (bl.kn hp λG H' sm q=>.lst q ((yJ n l u).sm sm))⟩
   |tup xs=>
    obtain⟨p,vs,rfl,s1,n⟩:=F.2.1 xs rfl;by_cases hn:HT.cM xs.length 0 l=0/\HT.cM xs.length xs.length u=xs.length
    .cases (YY hn).symm.trans i
    .cases (YZ hn).symm.trans i;refine .inr ⟨p,vs,rfl,by rw[<-s];exact f9 (g_same _ _ _) s1,by rw[n.len];exact hn,λk hp=>?_⟩;obtain⟨b2,sm,np⟩:=bl.new (o:=.tup (pQ vs l u)) hp;exact q _ _ trivial (b2.push (.tup (.inl (.inl (by rw[bJ np (bl.Lk hp)];exact aM))) ((yJ n l u).sm sm)))
   | _=>cases i⟩
end
theorem Vals.ins{y:V}{u:Value}(h:RelV y u):∀{xs:List V}{b:List Value}(j:Nat),Vals xs b->Vals (xs.take j++y::xs.drop j) (b.take j++u::b.drop j)
 |_,_,0,r=>.cons h r
 |_,_,_+1,.nil=>.cons h .nil
 |_,_,j+1,.cons a r=>.cons a (Vals.ins h j r)
def DV:V->List V->Hp->VK->Prop:=λx vs H Q=>∃l xs k y,x=.ref l/\vs=[.int k,y]/\H l=some (.lst xs)/\xs.length<sizeLine/\(0<=k/\k<=xs.length)/\Q .non (upd H l (.lst (xs.take k.toNat++y::xs.drop k.toNat)))
theorem xj{X:Cx}:NG X "list.insert" DV:=by
 intro pins s Y H x vs v us Q I o Z h;obtain⟨l,xs,k,y,rfl,rfl,i,hz,⟨a,J⟩,q⟩:=h;cases o;obtain⟨w,u,rfl,E,G⟩:=Z.two;obtain⟨t,rfl⟩:=E;obtain⟨z,j,n,r,hl,e⟩:=I.A1 i;have len:=r.length;have sl:=XI;refine X8 U1 ⟨_,e,rfl⟩ PySem.F.entry_list_insert (PySem.F.args_list_insert_3 _ _ _) (Wt l j.toArray n k t u ?_ (by rw[Qy];lia)) ⟨e,?_⟩
 .unfold Uy;simp
  lia
 refine⟨.non,_,I.Ka (its':=j.take k.toNat++u::j.drop k.toNat) i e ?_ (Vals.ins G k.toNat r) ?_,rfl,q⟩
 .have hk:(if k<0 then (k+(j.toArray.size:Int)).toNat else min k.toNat j.toArray.size)=k.toNat:=by rw[YZ Q1,Qy];lia
  show ((j.toArray.extract 0 (if k<0 then (k+(j.toArray.size:Int)).toNat else min k.toNat j.toArray.size)).push u++j.toArray.extract (if k<0 then (k+(j.toArray.size:Int)).toNat else min k.toNat j.toArray.size))=_;rw[hk];apply Array.ext';simp;exact T3 (by rw[TN];lia)
 .rw[QO,QF,Rt,TN];lia
theorem bN.ins{K:Kx}{G:Hp}{v:V}{a:A}(h:RA K G v a):∀{vs:List V}{as:List A}(j:Nat),bN K G vs as->bN K G (vs.take j++v::vs.drop j) (as.take j++a::as.drop j)
 |_,_,0,r=>.cons h r
 |_,_,_+1,.nil=>.cons h .nil
 |_,_,j+1,.cons b r=>.cons b (bN.ins h j r)
def hW(i:Nat)(m n:Mi Rr):Mi Rr:=jK i (aT m λx=>aT n λy Z=>match dr [x,y] Z with
 |some (as,U)=>match as,az U i with
  |[.int k,a],some (.lst xs)=>if 0<=k/\k<=xs.length/\xs.length<=16000000 then some (.ok (.fr .non),setAt U i (.lst (xs.take k.toNat++a::xs.drop k.toNat))) else none
  |_,_=>none
 | none=>none)
section
variable{X:Cx}{E:XK}
theorem wj{i:Nat}{x:Str}{u apos cpos:Pos}{f:Expr}{m n:Mi Rr}(hN:X.N[i]?=some x)(A:jh X.env.scope x)(hd:fg x)(I:km x)(he:JE X E e m)(hf:JE X E f n)
  (C:Xr (.Name x u) "insert" X.env (eval (.Name x u) X.env)=eval (.Name x u) X.env)
  (j:((Xw cpos (Xo [e,f] X.env)).all (λx=>!x.1)&&(XD cpos (Xy [] X.env)).all (λx=>x.1.isSome)&&decide (([e,f]:List Expr).length+([]:List XB).length+(if ([]:List XB).isEmpty then 0 else 1)<30))=true)
  (s:(apos.endLine==cpos.line)=true)(hs:Xo [e,f] X.env=(false,eval e X.env)::Xo [f] X.env)(P:Xo [f] X.env=(false,eval f X.env)::Xo [] X.env)(z:(Xw cpos (Xo [f] X.env)).any (·.1)=false):
  JE X E (.Call (.Attribute (.Name x u) "insert" apos) [e,f] [] cpos) (hW i m n):=
 ⟨PE.weaken (kb RC U1 PySem.F.type_list_insert xj (bH hN A hd I) (aU he.p (aU hf.p bY P) hs) C j s hs z) λY H Q h=>by
  obtain⟨c,Z,τ,O,o,B,y,b,em,q⟩:=h;unfold hW jK at em;split at em
  .rename_i hl;obtain⟨t,hl⟩:=jE hl;obtain⟨p,vs,hp,R⟩:=fM b hl;refine⟨_,hp,.inl ⟨rfl,vs,.inl (.inl R)⟩,?_⟩;refine a9 y b em (λr v U H1 A b1 D=>?_) (bD q);refine a9 y b1 D (λl w Z' S d b2 K=>?_) (cS (bD q));cases V:dr [r,l] Z' with
   |none=>rw[V] at K;cases K
   |some pr=>
    obtain⟨as,Z0⟩:=pr;rw[V] at K;dsimp only at K;split at K
    .rename_i k a xs e2;split at K
     .rename_i hx;cases K;have J:Bd c Y S Z0 ([some w,some v]++τ) ([Sl.fr a,Sl.fr (.int k)]++O):=(Bd.dr (rs:=[r,l]) (vs:=[v,w]) ⟨A,d,trivial⟩ b2 V).1;obtain⟨L,bl,rs⟩:=Bd.kD (vs:=[w,v]) (as:=[a,.int k]) J rfl;cases rs with
      |cons T rs=>
      cases rs with
      |cons g rs=>
      cases g;obtain⟨p',_,h1,h2,h3⟩:=bl.live e2 (.lst (xs.take k.toNat++a::xs.drop k.toNat)) (.lst ((match S p with|some (.lst ws)=>ws|_=>[]).take k.toNat++w::(match S p with|some (.lst ws)=>ws|_=>[]).drop k.toNat));rw[hp] at h1;cases h1;cases h2 with
      |lst e G=>rename_i ws;rw[e] at h3;refine⟨p,ws,k,w,rfl,rfl,e,by have:=G.len;have:=XI;lia,by have:=G.len;lia,q _ _ trivial (Bd.push (h3 λH' hh=>.lst hh (G.ins T k.toNat)) λ_=>.non)⟩
     .cases K
    .cases K
  .cases em⟩
end
end M
set_option maxHeartbeats 1000000
namespace M
open PySem L2 W
def fk(f:Ms)(I:List A):List Rr->Mi Rr:=λrs Z=>match cq (rs++I.map Rr.fr) Z with
 |some (as,T)=>match f (as.map qf) with
  |some (.rt s,U)=>match pC s,putL Z (rs++I.map Rr.fr) (ax as.length U) T with
   |some r,some B=>some (.ok r,B)
   |_,_=>none
  |some (.ex x,U)=>match putL Z (rs++I.map Rr.fr) (ax as.length U) T with
   |some B=>some (.error x,B)
   |none=>none
  |_=>none
 |none=>none
def Val(f:Ms)(as:List A)(a:A):Prop:=∃Z,f (as.map Sl.fr)=some (.rt (.fr a),Z)
def mY(f:Ms)(as:List A)(o:LO):Prop:=∃Z,f (as.map Sl.fr)=some (.rt (.lv o),Z)
def cD(f:Ms)(o:LO)(as:List A)(s:Sl)(o':LO):Prop:=∃Z,f (.pv o::as.map Sl.fr)=some (.rt s,.pv o'::Z)
theorem i9(as:List A)(Z:List Sl):cq (as.map Rr.fr) Z=some (as.map Sl.fr,Z):=by
 induction as generalizing Z with
 |nil=>rfl
 |cons a as m=>simp only[Rf,cq,take1,m]
theorem pU(as:List A):(as.map Sl.fr).map qf=as.map Sl.fr:=by rw[Q6];rfl
theorem jy(S:List Sl):∀(as:List A)(ss:List Sl)(Z:List Sl),as.length=ss.length->putL S (as.map Rr.fr) ss Z=some Z
 |[],[],Z,_=>rfl
 |a::as,s::ss,Z,h=>by rw[Rf,putL,jy S as ss Z (by simpa using h)];rfl
 |[],_::_,_,h=>by simp at h
 |_::_,[],_,h=>by simp at h
theorem ck{f:Ms}{as:List A}{a:A}(h:Val f as a)(Z:List Sl):fk f [] (as.map Rr.fr) Z=some (.ok (.fr a),Z):=by
 obtain⟨U,h⟩:=h
 delta fk
 rw[Ti,Rx,i9];simp only[pU,h,pC];rw[jy _ _ _ _ (by rw[cJ,Qt])]
variable{o:LO}
theorem jv{f:Ms}{as:List A}(h:mY f as o)(Z:List Sl):fk f [] (as.map Rr.fr) Z=some (.ok (.nw o),Z):=by
 obtain⟨U,h⟩:=h
 delta fk
 rw[Ti,Rx,i9];simp only[pU,h,pC];rw[jy _ _ _ _ (by rw[cJ,Qt])]
variable{i:Nat}{Z:List Sl}
theorem cE{f:Ms}{as:List A}{o':LO}{s:Sl}{r:Rr}(h:cD f o as s o')(S:pC s=some r)(hl:az Z i=some o):fk f [] (.rf i::as.map Rr.fr) Z=some (.ok r,setAt Z i o'):=by
 obtain⟨U,h⟩:=h;unfold az at hl;unfold setAt;have hi:∀s,Z[i]?=some s->(Z.set i Sl.un)[i]?=some .un:=λs e=>QN (Qv.mp e).1;have key:∀(u:Sl)(k:LO->Sl),Z[i]?=some u->take1 (.rf i) Z=some (.lv o,Z.set i .un)->(∀s B,B[i]?=some Sl.un->rC Z (.rf i) (.pv s) B=some (B.set i (k s)))->fk f [] (.rf i::as.map Rr.fr) Z=some (.ok r,Z.set i (k o')):=by
  intro u k es l hp;unfold fk;rw[Ti,Rx,cq,l];simp only[i9];have h':f (Wj qf (Sl.lv o::Wj Sl.fr as))=some (.rt s,.pv o'::U):=by rw[Rf,pU];exact h
  rw[h'];simp only[S];have d:ax (Sl.lv o::Wj Sl.fr as).length (.pv o'::U)=.pv o'::ax as.length U:=by rw[QF,Qt];rfl
  rw[d,putL,jy _ _ _ _ (by rw[cJ])];simp only[hp _ _ (hi u es),List.set_set]
 cases es:Z[i]? with
 |none=>simp only[es] at hl;cases hl
 |some t=>
  cases t with
  |un=>simp only[es] at hl;cases hl
  |cf _=>simp only[es] at hl;cases hl
  |fr a=>simp only[es] at hl;cases hl
  |lv x=>simp only[es] at hl;cases hl;refine key _ Sl.lv es (by unfold take1;simp only[es]) λs B e=>?_;unfold rC;simp only[es,e]
  |pv x=>simp only[es] at hl;cases hl;refine key _ Sl.pv es (by unfold take1;simp only[es]) λs B e=>?_;unfold rC;simp only[es,e]
variable{G:Mg}
theorem BI{b:Ms}{as:List A}(P:Nat->List Sl->Prop)(s:P 0 Z)(hs:∀i a Z,as[i]?=some a->P i Z->∃U Z',G a Z=some U/\(b U=some (.nx,Z')\/b U=some (.ct,Z'))/\P (i+1) Z'):
  ∃B,forL G b as Z=some (.nx,B)/\P as.length B:=by
 have key:∀n i Z,as.length-i=n->i<=as.length->P i Z->∃B,forL G b (as.drop i) Z=some (.nx,B)/\P as.length B:=by
  intro n;induction n with
  |zero=>
   intro i Z e hi p;have:i=as.length:=by lia
   subst this;exact⟨Z,by rw[TQ];rfl,p⟩
  |succ n m=>
   intro i Z e hi p;have K:i<as.length:=by lia
   obtain⟨U,Z',h1,h2,h3⟩:=hs i as[i] Z Z4 p;obtain⟨B,h4,h5⟩:=m (i+1) Z' Q1 K h3;refine⟨B,?_,h5⟩;rw[SA K,forL,h1];rcases h2 with h2|h2
   .simp only[h2];exact h4
   .simp only[h2];exact h4
 simpa using key as.length 0 Z (by rfl) (RP _) s
theorem eP{t:Mi Bool}{e:Mi Rr}{as:List A}(P:Nat->List A->List Sl->Prop)(s:P 0 [] Z)
  (hs:∀i a acc Z,as[i]?=some a->P i acc Z->∃U,G a Z=some U/\((∃Z' r Z0 d N,t U=some (.ok true,Z')/\e Z'=some (.ok r,Z0)/\bS r Z0=some (d,N)/\P (i+1) (acc++[d]) N)\/∃Z',t U=some (.ok false,Z')/\P (i+1) acc Z')):
  ∃ys B,dm G t e as [] Z=some (ys,B)/\P as.length ys B:=by
 have key:∀n i acc Z,as.length-i=n->i<=as.length->P i acc Z->∃ys B,dm G t e (as.drop i) acc Z=some (ys,B)/\P as.length ys B:=by
  intro n;induction n with
  |zero=>
   intro i acc Z k hi p;have:i=as.length:=by lia
   subst this;exact⟨acc,Z,by rw[TQ];rfl,p⟩
  |succ n m=>
   intro i acc Z k hi p;have K:i<as.length:=by lia
   obtain⟨U,h1,h2⟩:=hs i as[i] acc Z Z4 p;rw[SA K,dm,h1];rcases h2 with ⟨Z',r,Z0,d,N,j,R,C,Y⟩|⟨Z',j,R⟩
   .simp only[j,R,C];exact m (i+1) _ N Q1 K Y
   .simp only[j];exact m (i+1) _ Z' Q1 K R
 simpa using key as.length 0 [] Z (by rfl) (RP _) s
theorem xr{t:Mi Bool}{b:Ms}(P:Nat->List Sl->Prop)(Q:List Sl->Prop)(hs:∀k Z,P k Z->(∃U,t Z=some (.ok false,U)/\Q U)\/∃U Z' v,t Z=some (.ok true,U)/\(b U=some (.nx,Z')\/b U=some (.ct,Z'))/\v<k/\P v Z'):
  ∀{n k:Nat}{Z:List Sl},P k Z->k<n->∃B,dC t b n Z=some (.nx,B)/\Q B:=by
 intro n;induction n with
 |zero=>intro k Z _ h;exact absurd ‹_› (RV _)
 |succ n m=>
  intro k Z p hk;rcases hs k Z p with ⟨U,h1,h2⟩|⟨U,Z',v,h1,h2,h3,h4⟩
  .exact⟨U,by simp only[dC,h1],h2⟩
  .obtain⟨B,h5,c⟩:=m h4 Q1;refine⟨B,?_,c⟩;rw[dC,h1];rcases h2 with h2|h2
   .simp only[h2];exact h5
   .simp only[h2];exact h5
theorem zj{n:Nat}(h:n<2^9500):n<BY:=QL h (by delta BY;exact S7 Z2 Z2)
noncomputable def nm(x:Num):A:=.tup [.int x.1,.int x.2]
theorem qc(i j:Int):xQ (.int i) (.int j)=some (decide (i=j)):=by
 delta xQ
 simp only[toD]
 show some (i==j)=_
 rfl
section
variable{α β:Type}{Z:List Sl}
def kG(f:A->A->Option Rr)(x y:Rr)(Z:List Sl):Option (Except Str Rr×List Sl):=match res Z x,res Z y with
 |some a,some b=>match f a b with
  |some r=>some (.ok r,Z)
  |none=>none
 |_,_=>none
def Ow(f:A->Option Rr)(x:Rr)(Z:List Sl):Option (Except Str Rr×List Sl):=match res Z x with
 |some a=>match f a with
  |some r=>some (.ok r,Z)
  |none=>none
 |none=>none
theorem O9(m n:Mi Bool):mV m n Z=(match m Z with|some (.ok true,U)=>n U|some (.ok false,U)=>some (.ok false,U)|some (.error e,U)=>some (.error e,U)|none=>none):=by
 unfold mV aT;cases m Z with
 |none=>rfl
 |some p=>obtain⟨o,U⟩:=p;cases o with|error e=>rfl|ok k=>cases k<;>rfl
theorem MN(t:Mi Bool)(m n:Mi Rr):MD t m n Z=(match t Z with|some (.ok true,U)=>m U|some (.ok false,U)=>n U|some (.error e,U)=>some (.error e,U)|none=>none):=by
 delta MD aT
 cases t Z with
 |none=>rfl
 |some p=>obtain⟨o,U⟩:=p;cases o with|error e=>rfl|ok k=>cases k<;>rfl
def tupK(rs:List Rr)(Z:List Sl):Option (Except Str Rr×List Sl):=match dr rs Z with
 |some (as,B)=>if as.length<=1000 then some (.ok (.fr (.tup as)),B) else none
 |none=>none
def lstK(rs:List Rr)(Z:List Sl):Option (Except Str Rr×List Sl):=match dr rs Z with
 |some (as,B)=>if as.length<=1000 then some (.ok (.nw (.lst as)),B) else none
 |none=>none
theorem F0(m n:Ms):av m n Z=(match m Z with|some (.nx,U)=>n U|r=>r):=rfl
def Ez(i:Nat)(r:Rr)(Z:List Sl):Option (Fl×List Sl):=match xM r Z with
 |some (t,U)=>match put i t U with
  |some Z'=>some (.nx,Z')
  |none=>none
 |none=>none
def Oa(r:Rr)(Z:List Sl):Option (Fl×List Sl):=match Jh r Z with
 |some (s,B)=>some (.rt s,B)
 |none=>none
theorem Nr(loc:Nat)(m:Ms):cK loc m Z=(match m (Z++QD loc .un) with|some (.nx,B)=>some (.rt (.fr .non),B)|some (.rt s,B)=>some (.rt s,B)|some (.ex x,B)=>some (.ex x,B)|_=>none):=by
 delta cK
 cases m (Z++QD loc .un) with
 |none=>rfl
 |some p=>obtain⟨f,U⟩:=p;cases f<;>rfl
theorem Nb(m:Mi (List A))(G:Mg)(b:Ms):iO m G b Z=(match m Z with|some (.ok as,U)=>forL G b as U|some (.error e,U)=>some (.ex e,U)|none=>none):=by
 delta iO c7
 cases m Z with
 |none=>rfl
 |some p=>
  obtain⟨o,U⟩:=p;cases o with
  |error e=>rfl
  |ok x=>rfl
def NO(r:Rr)(Z:List Sl):Option (Except Str (List A)×List Sl):=match bS r Z with
 |some (a,B)=>match Gh a with
  |some as=>some (.ok as,B)
  |none=>none
 |none=>none
def PD(r:Rr)(Z:List Sl):Option (Except Str (List A)×List Sl):=match res Z r with
 |some (.int j)=>if -(2^60)<=j/\j<2^60 then some (.ok (bI 0 j.toNat),Z) else none
 |_=>none
def gi(n:Nat)(G:Mg)(t:Mi Bool)(e:Mi Rr)(as:List A)(Z:List Sl):Option (Except Str Rr×List Sl):=if as.length<=100000 then match dm G t e as [] (Z++QD n .un) with
 |some (ys,B)=>some (.ok (.nw (.lst ys)),B.take Z.length)
 |none=>none else none
def Qa(i:Nat)(r:Rr)(Z:List Sl):Option (Except Str Rr×List Sl):=match bS r Z with
 |some (a,U)=>match az U i with
  |some (.lst xs)=>if xs.length<=16000000 then some (.ok (.fr .non),setAt U i (.lst (xs++[a]))) else none
  |_=>none
 |none=>none
def Pu(i:Nat)(r Y:Rr)(Z:List Sl):Option (Fl×List Sl):=match bS r Z with
 |some (a,U)=>match res U Y,az U i with
  |some (.int k),some (.lst xs)=>match gk xs.length k with
   |some j=>some (.nx,setAt U i (.lst (xs.set j a)))
   |none=>none
  |_,_=>none
 |none=>none
def P4(r:Rr)(Z:List Sl):Option (Except Str Rr×List Sl):=match bS r Z with
 |some (a,B)=>some (.ok (.fr a),B)
 |none=>none
end
section
variable{Z:List Sl}
def Pd(cs:List Str)(i:Nat)(f:Str)(r:Rr)(Z:List Sl):Option (Fl×List Sl):=match bS r Z with
 |some (a,U)=>match az U i with
  |some (.obj c fs)=>if cs.contains c&&R8 fs.length 900 then some (.nx,setAt U i (.obj c (kg f a fs))) else none
  |_=>none
 |none=>none
def uO(cn:Str)(f:Ms)(I:List A)(rs:List Rr)(Z:List Sl):Option (Except Str Rr×List Sl):=match cq (rs++I.map Rr.fr) Z with
 |some (as,T)=>match f (.pv (.obj cn [])::as.map qf) with
  |some (.rt (.fr .non),.pv o2::Y)=>match putL Z (rs++I.map Rr.fr) (ax as.length Y) T with
   |some B=>some (.ok (.nw o2),B)
   |none=>none
  |some (.ex x,s::Y)=>match putL Z (rs++I.map Rr.fr) (ax as.length Y) T with
   |some B=>some (.error x,B)
   |none=>none
  |_=>none
 |none=>none
def MJ(cn mn:Str)(r:Rr)(Z:List Sl):Option (Except Str Rr×List Sl):=match res Z r with
 |some (.obj c fs)=>if c==cn&&(fs.lookup mn).isNone then some (.ok r,Z) else none
 |_=>none
theorem GL(a b:A):kB a b=(oK λi j=>if j != 0&&fits 9000 j then some (.fr (.int (i.fdiv j))) else none) a b:=rfl
end
noncomputable def np:Sl->Bool
 | .pv _=>false
 |_=>true
theorem uI(a:A):np (.fr a)=true:=rfl
theorem EM(o:LO):np (.lv o)=true:=rfl
theorem F3(i:Nat)(s:Sl)(Z:List Sl):put i s Z=(match Z[i]? with|some t=>if np t=true then some (Z.set i s) else none|none=>none):=by
 delta put
 cases Z[i]? with
 |none=>rfl
 |some t=>cases t<;>rfl
def Wp(m:Ms)(Z:List Sl)(Q:Fl->List Sl->Prop):Prop:=∃f B,m Z=some (f,B)/\Q f B
section
variable{m n b:Ms}{Z U:List Sl}{Q:Fl->List Sl->Prop}
theorem Wp.st(h:m Z=some (.nx,U))(k:Wp n U Q):Wp (av m n) Z Q:=by obtain⟨f,B,e,q⟩:=k;exact⟨f,B,by simp only[F0,h];exact e,q⟩
theorem Wp.sq(k:Wp m Z λf U=>f=.nx/\Wp n U Q):Wp (av m n) Z Q:=by obtain⟨f,U,e,rfl,L,Z',e2,q⟩:=k;exact⟨L,Z',by simp only[F0,e];exact e2,q⟩
theorem Wp.en{f:Fl}(h:m Z=some (f,U))(q:Q f U):Wp m Z Q:=⟨_,_,h,q⟩
theorem Wp.mono{H:Fl->List Sl->Prop}(k:Wp m Z Q)(h:∀f U,Q f U->H f U):Wp m Z H:=by obtain⟨f,U,e,q⟩:=k;exact⟨f,U,e,h f U q⟩
theorem Wp.fr{H:Mi (List A)}{as:List A}(P:Nat->List Sl->Prop)(h:H Z=some (.ok as,U))(s:P 0 U)(hs:∀i a Z,as[i]?=some a->P i Z->∃U,G a Z=some U/\Wp b U λf Z'=>(f=.nx\/f=.ct)/\P (i+1) Z')(l:∀B,P as.length B->Q .nx B):Wp (iO H G b) Z Q:=by
 obtain⟨B,h1,h2⟩:=BI P s (λi a Z c p=>by
  obtain⟨U,g,f,Z',e,hf,E⟩:=hs i a Z c p;refine⟨U,Z',g,?_,E⟩;rcases hf with rfl|rfl
  .exact .inl e
  .exact .inr e)
 exact⟨_,B,by simp only[Nb,h];exact h1,l B h2⟩
theorem Wp.P0{H:Mi (List A)}(as:List A)(P:List Sl->Prop)(h:H Z=some (.ok as,U))(s:P U)(hs:∀a∈as,∀Z,P Z->∃U,G a Z=some U/\Wp b U λf Z'=>(f=.nx\/f=.ct)/\P Z')(l:∀B,P B->Q .nx B):Wp (iO H G b) Z Q:=
 Wp.fr (λ_=>P) h s (λ_ a Z c p=>hs a (Rq c) Z p) l
theorem Wp.df{loc:Nat}(k:Wp m (Z++QD loc .un) λf B=>match f with | .nx=>Q (.rt (.fr .non)) B | .rt s=>Q (.rt s) B | .ex x=>Q (.ex x) B|_=>False):Wp (cK loc m) Z Q:=by
 obtain⟨f,B,e,q⟩:=k
 delta Wp
 rw[Nr,e];cases f with
 |nx=>exact⟨_,_,rfl,q⟩
 |rt s=>exact⟨_,_,rfl,q⟩
 |ex x=>exact⟨_,_,rfl,q⟩
 |bk=>exact q.elim
 |ct=>exact q.elim
theorem Val.of{f:Ms}{as:List A}{a:A}(k:Wp f (as.map Sl.fr) λg _=>g=.rt (.fr a)):Val f as a:=by obtain⟨g,B,e,rfl⟩:=k;exact⟨B,e⟩
theorem mY.of{f:Ms}{as:List A}(k:Wp f (as.map Sl.fr) λg _=>g=.rt (.lv o)):mY f as o:=by obtain⟨g,B,e,rfl⟩:=k;exact⟨B,e⟩
theorem cD.of{f:Ms}{as:List A}{R:Sl->LO->Prop}(k:Wp f (.pv o::as.map Sl.fr) λg Z=>∃s o' U,g=.rt s/\Z=.pv o'::U/\R s o'):∃s o',cD f o as s o'/\R s o':=by obtain⟨g,B,e,s,o',U,rfl,rfl,r⟩:=k;exact⟨s,o',⟨U,e⟩,r⟩
end
def Dt(n:Nat)(a:A):Prop:=∃d,toD a=some d/\D.depth d<=n
def Kj(n:Nat)(as:List A):Prop:=∃ds,kH as=some ds/\D.gU ds<=n
theorem Dt.int{n:Nat}(i:Int):Dt n (.int i):=⟨.int i,by simp only[toD],by exact RP _⟩
theorem Dt.str{n:Nat}(x:Str):Dt n (.str x):=⟨.str x,by simp only[toD],by exact RP _⟩
theorem Kj.nil{n:Nat}:Kj n []:=⟨[],by simp only[kH],by exact RP _⟩
theorem Kj.cons{n:Nat}{a:A}{as:List A}(h:Dt n a)(k:Kj n as):Kj n (a::as):=by obtain⟨d,h1,h2⟩:=h;obtain⟨ds,h3,h4⟩:=k;exact⟨d::ds,by simp only[kH,h1,h3],by simp only[D.gU];lia⟩
theorem Dt.tup{n:Nat}{as:List A}(h:Kj n as):Dt (n+1) (.tup as):=by obtain⟨ds,h1,h2⟩:=h;exact⟨.tup ds,by simp only[toD,h1],by simp only[D.depth];exact Rj ‹_›⟩
theorem Dt.nm{n:Nat}(x:Num):Dt (n+1) (nm x):=Dt.tup (.cons (.int _) (.cons (.int _) .nil))
theorem AI{a:A}(h:Dt 40 a):xQ a a=some true:=by
 obtain⟨d,h1,h2⟩:=h
 delta xQ
 simp only[h1];rw[YY h2,D.kJ]
theorem fw(n:Nat):(bI 0 n).length=n:=by simp[bI]
theorem pN{n:Nat}{a:A}(h:(bI 0 n)[i]?=some a):i<n/\a=.int i:=by
 have hi:=(Qv.mp h).1;rw[fw] at hi
 delta bI at h
 simp only[Q0,Sf hi] at h;simp at h;exact⟨hi,h.symm⟩
open PySem L2
section
variable{G:Mg}{b:Ms}{g:Key×A->A}{j:Nat}{Z:List Sl}{kvs:List (Key×A)}
theorem DX{a:A}(h:Z[j]?=some (.fr a)):ai j Z=some (.ok (.fr a),Z):=by unfold ai;rw[h]
end
variable{rs:List Rr}{cn:Str}
section
variable{α β:Type}{Z S U Z' Z0:List Sl}{m n mk:Mi Rr}{t u:Mi Bool}{x y r rk:Rr}
theorem bk{m:Mi α}{f:α->Mi β}{x:α}{q:Option (Except Str β×List Sl)}(h:m Z=some (.ok x,U))(k:f x U=q):aT m f Z=q:=by unfold aT;rw[h];exact k
theorem sk{m:Mi α}{f:α->Ms}{x:α}{q:Option (Fl×List Sl)}(h:m Z=some (.ok x,U))(k:f x U=q):c7 m f Z=q:=by unfold c7;rw[h];exact k
theorem aA{f:Ms}{I:List A}{ms:Mi (List Rr)}(h:ms Z=some (.ok rs,U))(c:fk f I rs U=some (.ok r,Z')):a7 f I ms Z=some (.ok r,Z'):=bk h c
theorem ae{ms:Mi (List Rr)}(h:m Z=some (.ok x,U))(k:ms U=some (.ok rs,Z')):c9 m ms Z=some (.ok (x::rs),Z'):=bk h (bk k rfl)
theorem ag{f:A->A->Option Rr}(h:m Z=some (.ok x,U))(k:n U=some (.ok y,Z'))(o:kG f x y Z'=some (.ok r,Z0)):aB f m n Z=some (.ok r,Z0):=bk h (bk k o)
theorem gh{f:A->Option Rr}(h:m Z=some (.ok x,U))(o:Ow f x U=some (.ok r,Z')):aK f m Z=some (.ok r,Z'):=bk h o
theorem ka(h:m Z=some (.ok x,U))(o:P4 x U=some (.ok r,Z')):kA m Z=some (.ok r,Z'):=bk h o
theorem fP{ms:Mi (List Rr)}(h:ms Z=some (.ok rs,U))(o:tupK rs U=some (.ok r,Z')):gF ms Z=some (.ok r,Z'):=bk h o
theorem fQ{ms:Mi (List Rr)}(h:ms Z=some (.ok rs,U))(o:lstK rs U=some (.ok r,Z')):d6 ms Z=some (.ok r,Z'):=bk h o
theorem Du{f:Ms}{I:List A}{ms:Mi (List Rr)}(h:ms Z=some (.ok rs,U))(c:uO cn f I rs U=some (.ok r,Z')):m9 cn f I ms Z=some (.ok r,Z'):=bk h c
theorem jk{mn:Str}(h:m Z=some (.ok x,U))(c:MJ cn mn x U=some (.ok r,Z')):bM cn mn m Z=some (.ok r,Z'):=bk h c
theorem aP{b:Bool}(h:m Z=some (.ok (.fr (.bl b)),U)):ay m Z=some (.ok b,U):=bk h rfl
theorem Jt(h:t Z=some (.ok true,U)):Iu t u Z=some (.ok true,U):=bk h rfl
theorem yf{b:Bool}(h:t Z=some (.ok false,U))(k:u U=some (.ok b,Z')):Iu t u Z=some (.ok b,Z'):=bk h k
theorem o8(h:t Z=some (.ok false,U)):mV t u Z=some (.ok false,U):=bk h rfl
theorem pj{b:Bool}(h:t Z=some (.ok true,U))(k:u U=some (.ok b,Z')):mV t u Z=some (.ok b,Z'):=bk h k
theorem kT(h:m Z=none)(k:n Z=some (.ok r,U)):aQ m n Z=some (.ok r,U):=by unfold aQ;rw[h];exact k
theorem bP(h:m Z=some (.ok r,U)):aQ m n Z=some (.ok r,U):=by unfold aQ;rw[h]
theorem yN(h:m Z=some (.ok r,U))(k:Ez i r U=some (.nx,Z')):aG i m Z=some (.nx,Z'):=sk h k
theorem aV{f:Fl}(h:m Z=some (.ok r,U))(k:Oa r U=some (f,Z')):bW m Z=some (f,Z'):=sk h k
theorem dy(h:m Z=some (.ok r,U)):cH m Z=some (.nx,U):=sk h rfl
theorem KH{a:Sl}(h:xM r Z=some (a,U))(k:U[i]?=some s)(hn:np s=true):Ez i r Z=some (.nx,U.set i a):=by unfold Ez;rw[h];dsimp only;rw[F3,k];dsimp only;rw[YY hn]
end
end M
namespace W
open PySem L2
noncomputable def Bc(o:Obj):Bool:=match o.data with
 | .freed=>false
 |_=>true
def oh:List Nat->List Obj->Qr->Qr
 |a::as,o::os,K=>oh as os (match Bc o with|true=>(a,o)::K|false=>K)
 |_,_,K=>K
def ib(h:Heap):Qr:=match h.get? Xx with
 |some o=>(Xx,o)::oh (QK h.objs.size) h.objs.toList []
 |none=>[]
theorem nF{o:Obj}{a:Addr}:∀{K:Qr},K.lookup a=some o->(a,o)∈K
 |(b,u)::K,e=>by
  simp only[QI] at e;split at e
  .rename_i q;cases e;rw[Y3.mp q];exact QH
  .exact Qz _ (nF e)
theorem qQ{h:Heap}:∀{as:List Nat}{os:List Obj}{K:Qr},(∀(i a:Nat)(o:Obj),as[i]?=some a->os[i]?=some o->h.objs[a]?=some o)->(∀(a:Nat)(o:Obj),(a,o)∈K->h.get? a=some o)->∀a o,(a,o)∈oh as os K->h.get? a=some o
 |[],_,K,_,k=>by delta oh;exact k
 |_::_,[],K,_,k=>by delta oh;exact k
 |a::as,o::os,K,e,k=>by
  unfold oh;refine qQ (λi b u h1 h2=>e (i+1) b u h1 h2) ?_;cases c:Bc o with
  |false=>exact k
  |true=>
   intro b u m;rcases QC.mp m with m|m
   .cases m
    delta Heap.get?
    rw[e 0 a o rfl rfl];obtain⟨C,F,Y,H⟩:=o;cases Y<;>first|rfl|cases c
   .exact k b u m
theorem lA(h:Heap):(ib h).In h:=λa o e=>by
 have m:=nF e;unfold ib at m;split at m
 .rename_i o' H;rcases QC.mp m with m|m
  .cases m;exact H
  .refine qQ (λi b u h1 h2=>?_) (λ_ _ q=>by cases q) a o m;have hi:=(Qv.mp h1).1 |> λq=>by rwa[RH] at q
   rw[Sf hi] at h1;cases h1;rw[<-Vq];exact h2
 .cases m
noncomputable def M6(K:Qr)(n:Str):Option (Str×Str×Arguments×YI×Scope×Addr×List (Str×Addr)×Value×Addr×Bool):=
 match U8 K Xx n with
 | some (some (.ref f))=>(match K.lookup f with
  |some ⟨_,_,.func d,_⟩=>some (d.name,d.qualname,d.params,d.body,d.scope,d.globals,d.closure,d.defaults,d.builtins,Ub K d.code n&&RX K (.ref f))
  | _=>none)
 |_=>none
def ME(n:Str)(st:Stmt):Option (Str×Str×Arguments×YI×Scope×Addr×List (Str×Addr)×Value×Addr×Bool):=some (n,n,dR st,.stmts (fz st),bq st,Xx,[],.none,Ym,true)
noncomputable def N7(K:Qr)(a:Addr)(i j:Int):Bool:=match K.lookup a with
 | some ⟨.type "tuple",none,.seq its _,_⟩=>(match its.toList with
  |[.int x _,.int y _]=>x==i&&y==j
  | _=>false)
 |_=>false
def Ke(ds:List (Str×Stmt))(Y:Qr->Bool)(K:Qr):=(ds.map λx=>M6 K x.1,Y K)
def Kg(ds:List (Str×Stmt)):List (Option (Str×Str×Arguments×YI×Scope×Addr×List (Str×Addr)×Value×Addr×Bool))×Bool:=(ds.map λx=>ME x.1 x.2,true)
def hk(ds:List (Str×Stmt))(Y:Qr->Bool):Wf where
 α:=List (Option (Str×Str×Arguments×YI×Scope×Addr×List (Str×Addr)×Value×Addr×Bool))×Bool
 obs:=λs=>Ke ds Y (ib s.heap)
 val:=λ_=>Kg ds
 says:=λ_ h=>∃K:Qr,Ke ds Y K=Kg ds/\K.In h
 of:=λ_ s e=>⟨ib s.heap,e,lA _⟩
 keeps:=λ_ _ _ ⟨K,e,i⟩ k=>⟨K,e,i.keeps k⟩
noncomputable def MI(p:Program):List Stmt:=p.main.body.filter λs=>match s with | .FunctionDef n ..=>n==("law" : Str)|_=>false
noncomputable def Lo:Stmt->List Str
 | .FunctionDef n ..=>[n]
 | .ClassDef n ..=>[n]
 | .Assign [.Name n _] _ _=>[n]
 |_=>[]
def Km(p:Program):Program:={ p with main:={ p.main with body:=MI p } }
def uq(p:Program):List Str:=(p.main.body.flatMap Lo).filter λn=>n != ("law" : Str)
open PySem PySem.W PyProof.Rows
noncomputable abbrev Fh:=W2
noncomputable abbrev tH:=W3
noncomputable abbrev Mx:=W4
noncomputable abbrev yY:=W5
noncomputable abbrev Fe:=W6
noncomputable abbrev E2:=W7
noncomputable abbrev yk:=W8
theorem zk:denote=Fh:=W9
theorem nB:Yl=tH:=Xa
theorem Cr:stepOk=Mx:=Xb
theorem wB:stepT=yY:=Xc
theorem yD:importEnds=Fe:=Xd
theorem AH:fenceModules?=E2:=Xe
theorem wN:openSeen=yk:=Xf
def BE(p:Program)(w:Xz)(Z:Nat)(a:Option Value):Nat->YQ->Thread->Option YQ
 |0,_,_=>none
 |m+1,s,t=>match through t with
  |true=>some s
  |false=>match Mx Z a t with
   |false=>none
   |true=>match yY (Fh tH) p w s t with
    |some (s',t')=>BE p w Z a m s' t'
    |none=>none
theorem vK{p:Program}{w:Xz}{Z:Nat}{a:Option Value}:∀{m:Nat}{s s2:YQ}{t:Thread},BE p w Z a m s t=some s2->topRun Yl p w Z a m s.abs t=some s2.abs
 |0,_,_,_,e=>by cases e
 |m+1,s,s2,t,e=>by
  unfold BE at e;simp only[<-Cr,<-wB,<-zk,<-nB] at e;unfold topRun;cases z:through t with
  |true=>rw[z] at e;cases e;rfl
  |false=>
   simp only[z] at e;cases c:stepOk Z a t with
   |false=>rw[c] at e;cases e
   |true=>
    simp only[c] at e;cases es:stepT (denote Yl) p w s t with
    |none=>rw[es] at e;cases e
    |some q=>rw[es] at e;simp only[stepT_spec es];exact vK e
noncomputable def Ki:List Obj->Nat->BT->Option BT
 |[],_,t=>some t
 |o::os,n,t=>match ((t.ins n o).get n).isSome with
  |true=>Ki os (n+1) (t.ins n o)
  |false=>none
theorem Au(l:Life):∀{os:List Obj}{n:Nat}{t t':BT},Ki os n t=some t'->absHeap t' (n+os.length) l=⟨(absHeap t n l).objs++os.toArray,l⟩
 |[],n,t,t',e=>by cases e;rfl
 |o::os,n,t,t',e=>by
  unfold Ki at e;cases H:((t.ins n o).get n).isSome with
  |false=>rw[H] at e;cases e
  |true=>
   rw[H] at e;have i:=Au l e;rw[absHeap_ins H] at i;have e2:n+1+os.length=n+(o::os).length:=by simp only[QF];lia
   simp only[<-e2,i];show Heap.mk (((absHeap t n l).objs.push o)++os.toArray) l=_;simp
theorem zH{h:Heap}{t:BT}(e:Ki h.objs.toList 0 .nil=some t):absHeap t h.objs.size h.life=h:=by have i:=Au h.life e;simp only[Ud,Tc] at i;rw[i];obtain⟨objs,l⟩:=h;show Heap.mk (#[]++objs.toList.toArray) l=_;simp
def Gp(p:Program)(w:Xz)(N:Nat)(s₀:Shared):Option Shared:=match s₀.heap.isNs Xx&&s₀.gens.size==0 with
 |true=>match Ki s₀.heap.objs.toList 0 .nil with
  |some t=>(BE p w s₀.heap.objs.size (s₀.heap.nsMap Xx "__annotations__") N ⟨t,s₀.heap.objs.size,s₀.heap.life,s₀.gens,s₀.drawn,s₀.toks,s₀.os⟩ (topStub p)).bind λq=>match staticsOk (importedModules p.main.body) s₀.heap q.abs.heap&&namesBound p q.abs.heap&&gensDone q.abs&&laidKept s₀.heap q.abs.heap with
   |true=>some q.abs
   |false=>none
  |none=>none
 |false=>none
variable{p:Program}{w:Xz}{N:Nat}{s:Shared}
theorem Dl{s₀:Shared}(e:Gp p w N s₀=some s):topFrom Yl p w N s₀=some s:=by
 delta Gp at e
 delta topFrom
 cases e1:s₀.heap.isNs Xx&&s₀.gens.size==0 with
 |false=>rw[e1] at e;cases e
 |true=>
  rw[e1] at e;cases e2:Ki s₀.heap.objs.toList 0 .nil with
  |none=>rw[e2] at e;cases e
  |some t=>
   rw[e2] at e;simp only at e;cases F:BE p w s₀.heap.objs.size (s₀.heap.nsMap Xx "__annotations__") N ⟨t,s₀.heap.objs.size,s₀.heap.life,s₀.gens,s₀.drawn,s₀.toks,s₀.os⟩ (topStub p) with
   |none=>rw[F] at e;cases e
   |some q=>
    rw[F] at e;have k:=vK F;have a:Wm ⟨t,s₀.heap.objs.size,s₀.heap.life,s₀.gens,s₀.drawn,s₀.toks,s₀.os⟩=s₀:=by
     delta Wm
     rw[zH e2]
    rw[a] at k;rw[k];exact e
def vh(p:Program)(w:Xz)(N:Nat):Option Shared:=((Fe tH (opening p) w N (start (opening p)).1 (start (opening p)).2).bind (E2 p)).bind (Gp p w N)
theorem yw(e:vh p w N=some s):openEnds Yl p w N=some s:=by
 delta vh at e
 delta openEnds fencedOpening
 simp only[<-yD,<-nB,<-AH] at e
 cases e1:(importEnds Yl (opening p) w N (start (opening p)).1 (start (opening p)).2).bind (fenceModules? p) with
 |none=>rw[e1] at e;cases e
 |some u=>rw[e1] at e;exact Dl e
theorem A8{q:Program}{loose:List Str}{Xt:Shared->Bool}{α:Type}{Yf:Shared->α}{Ya:Xz->α}
  (h:∀w,Option.map (λs=>(yk q loose (importedModules p.main.body) Xt true s,Yf s)) (vh p w N)=some (openGood q loose,Ya w)):LeftO p q loose Xt Yf Ya N:=λw=>by
 have h:=h w;rw[<-wN] at h;cases e:vh p w N with
 |none=>rw[e] at h;cases h
 |some s=>rw[e] at h;rw[yw e];exact h
end W
namespace L2
open PySem PySem.Spec PyProof.Rows
section
variable{P:Program}{w:Xz}{K:Qr}{mg:Str->Option Value}{base:Heap}{dV:Value}
theorem pZ.P6{CX:qk}{x qual:Str}{st:Stmt}{f:Addr}{fd:XC}{N ps:List Str}{k:Nat}{sp:Sp}(F:pZ K x qual st f fd dV)(S:ja N ps (bq st))(len:∀vs H Q E,sp vs H Q E->vs.length=ps.length)
  (Y:∀(cdv:Value)(A:XA)(outer:List Env)(s:Shared)(H:Hp)(vs:List V)(Q:VK)(E:XK),cZ k (A.deeper (Yx qual (bq st) s.heap.objs.size f cdv))->sp vs H Q E->
   ∃t,qZ (tZ CX P w K mg base N qual (bq st) f cdv A outer s H E) (fz st) t/\t { nx:=λ_ H'=>Q .non H',rt:=Q } (start N vs) H):dF P w K mg base CX (k+1) f fd ps sp:=by
 obtain⟨oc,od,kV,doc,pm,an,cdv,ct,osl,rfl,o,p⟩:=F.ex;exact Mb o p S len λA outer s H vs Q E X i=>Y cdv A outer s H vs Q E X i
end
end L2
namespace M
open PySem L2
section
variable{X:Cx}{E:XK}
theorem C7{CX:qk}{P:Program}{w:Xz}{K:Qr}{mg:Str->Option Value}{base:Heap}{dV:Value}{x qual:Str}{st:Stmt}{f:Addr}{fd:XC}{N ps:List Str}{k:Nat}{m:Ms}(F:pZ K x qual st f fd dV)(S:ja N ps (bq st))
  (d:∀(cdv:Value)(A:XA)(outer:List Env)(s:Shared)(H:Hp)(E:XK),cZ k (A.deeper (Xg qual (bq st) s.heap.objs.size f cdv))->
   qy (tZ CX P w K mg base N qual (bq st) f cdv A outer s H E) E (fz st) m):dF P w K mg base CX (k+1) f fd ps (iQ ⟨K,mg,P,w⟩ ps.length (cK (N.length-ps.length) m)):=
 F.P6 S (λvs H Q E h=>h.1) λcdv A outer s H vs Q E X h=>by
  obtain⟨hn,c,Z,f,B,y,I,e1,b,em,q⟩:=h;refine⟨_,(d cdv A outer s H E X).p,?_⟩;have bs:=b.start N I;rw[hn] at bs
  delta cK at em
  cases e:m (Z++QD (N.length-ps.length) .un) with
  |none=>rw[e] at em;cases em
  |some p=>
   obtain⟨a,U⟩:=p;rw[e] at em;refine⟨c,_,[],[],a,U,y,bs,e,?_⟩;have bk:∀{j:St}{H':Hp}{J:St}{T:List Sl},Bd c j H' U J T->Bd c (vs.map some) H' (ax vs.length U) J T:=λr=>by have:=r.back;rw[I,Qt] at this;exact this
   cases a with
   |nx=>cases em;exact λj H' r=>q .non H' (λo z=>by cases z) ((bk r).push λ_=>.non)
   |rt s=>cases em;exact λv j H' hs r=>q v H' hs (bk r)
   |ex x=>cases em;exact λC j H' hm r=>q C H' hm (bk r)
   |bk=>cases em
   |ct=>cases em
noncomputable def BV:qk:=λ_ _ _ _ _ _=>False
noncomputable def rP:Ms:=λ_=>none
theorem DN{s:Stmt}:JS X E s rP:=⟨λpins s Y H D I h=>by obtain⟨c,Z,τ,O,f,B,y,b,em,q⟩:=h;cases em⟩
end
end M
namespace W
open PySem L2
theorem xk{CX:qk}{l:VS}{n k:Nat}{q:Program}{loose:List Str}{XP:(Str->Option Value)->Heap->Prop}{YP:Xz->Heap->Prop}{d:DefRec}{x:Str}{sp:Qr->Sp}
  (hn:l.most=some n)(O:n<=sizeLine)(p:d.params.defaults=[])(B:cZ k Yu)
  (F:∀(w:Xz)(mg:Str->Option Value)(S:Addr)(h:Heap),YP w h->h.Ns Xx mg->mg d.name=some (.ref S)->
   ∃K:Qr,K.In h/\∃fd:XC,(∀(s:Shared)(u:Value),Yr s fd ⟨[u],[]⟩ [(x,u)])/\∀base:Heap,K.In base->base.Ns Xx mg->dF l.prog w K mg base CX k S fd [x] (sp K))
  (hx:∀l H s e s',CX l H s (λ_ _ _=>False) e s'->False) (i:∀(K:Qr)(H:Hp)(a:Addr)(ns:List Int),ns.length<=n->GR H->dM K H a (ns.map V.int)->sp K [.ref a] H (λv _=>v=.bl true) λ_ _ _=>False):
  V2 q loose XP YP l.row.toRowW d [] (λf vs=>VH f vs):=by
 refine Att.rQ hn p λw s₀ Z mg mb S o pm cd doc a vs ns G Y ho hd Q j c X A J=>?_;obtain⟨K,D,fd,E,L⟩:=F w mg S _ Y G.T.g j;exact zx D G.T.g G.T.b G.T.builtins G.T.nolimit J c X (Q4 A O) B L E (λH r U=>i K H a ns A r U) λH e s' z=>hx _ _ _ _ _ z
end W
namespace M
open PySem L2
structure FI where
 n:Nat
 m:Ms
 mu:List Bool
 df:List A
 hf:Bool
structure Tb where
 fns:List (Str×FI)
 cst:List (Str×A)
 exs:List Str
 kit:List (Str×List (Str×Bool))
 exm:List (Str×List Str)
 fld:List (Str×List Str)
 fB:List (Str×FI)
 mts:List (Str×Str×FI)
structure Sc where
 N:List Str
 nm:List (Str×NameKind)
 di:List Str
 ca:List Str
 hd:Bool
 lv:List Str
 tp:Bool:=false
noncomputable def OC(s:Sc):Sc:={ s with tp:=false }
noncomputable def af{α β:Type}(x:Option α)(f:α->Option β):Option β:=match x with
 |some a=>f a
 |none=>none
noncomputable def cV{α:Type}(b:Bool)(x:Option α):Option α:=match b with
 |true=>x
 |false=>none
variable{α:Type}
theorem aa{β:Type}{x:Option α}{f:α->Option β}{y:β}(h:af x f=some y):∃a,x=some a/\f a=some y:=by
 cases x with
 |none=>cases h
 |some a=>exact⟨a,rfl,h⟩
theorem ah{b:Bool}{x:Option α}{y:α}(h:cV b x=some y):b=true/\x=some y:=by
 cases b with
 |false=>cases h
 |true=>exact⟨rfl,h⟩
def qg(s:Sc)(x:Str)(k:NameKind):Bool:=s.nm.lookup x==some k
def Ec(s:Sc)(x:Str):Bool:=qg s x .local || qg s x .cell || qg s x .free
def sW(s:Sc)(x:Str):Bool:=qg s x .local || qg s x .cell
noncomputable def okN(x:Str):Bool:=!(x==("__debug__" : Str))&&!(x==("__classdict__" : Str))
def mX(s:Sc)(x:Str):Bool:=qg s x .globalImplicit&&okN x
def gk(x:Str):List Str->Nat->Option Nat
 |[],_=>none
 |y::ys,i=>if x==y then some i else gk x ys (i+1)
theorem kX{x:Str}:∀{N:List Str}{k i:Nat},gk x N k=some i->∃j,i=k+j/\N[j]?=some x
 |[],_,_,h=>by cases h
 |y::ys,k,i,h=>by
  unfold gk at h;split at h
  .rename_i e;cases h;exact⟨0,rfl,by rw[Y3.mp e];rfl⟩
  .obtain⟨j,e1,e2⟩:=kX h;exact⟨j+1,by lia,by simpa using e2⟩
def slot(s:Sc)(x:Str):Option Nat:=cV (Ec s x&&okN x) (gk x s.N 0)
def iq(s:Sc)(x:Str):Option Nat:=cV (sW s x&&okN x) (gk x s.N 0)
noncomputable def Cz:List Str:=["len", "isinstance", "abs", "max", "min", "int", "bool", "str", "tuple", "list", "dict", "range", "ValueError", "sorted", "all", "zip", "set", "sum", "enumerate", "any", "reversed"]
def mw(P:Program)(w:Xz)(K:Qr)(mg:Str->Option Value)(fd:XC)(ps:List Str)(df:List A):Prop:=∀j,j<=df.length->∃ds dvs,Binds K fd ps ds/\Vals dvs ds/\∀G,bN ⟨K,mg,P,w⟩ G dvs (df.drop j)
noncomputable def mS(fi:FI)(n:Nat):List A:=fi.df.drop (fi.df.length-(fi.n-n))
variable{w:Xz}{K:Qr}{mg:Str->Option Value}{fd:XC}{ps:List Str}
theorem mw.of{P:Program}{fi:FI}(h:mw P w K mg fd ps fi.df)(n:Nat):∃ds dvs,Binds K fd ps ds/\Vals dvs ds/\∀G,bN ⟨K,mg,P,w⟩ G dvs (mS fi n):=h _ (Nat.sub_le _ _)
noncomputable def eW(tb:Tb)(f:Str):List Str:=(tb.fld.filter λp=>p.2.contains f).map (·.1)
noncomputable def EN(tb:Tb)(m:Str):List (Str×FI):=tb.mts.filterMap λp=>if p.1==m then some p.2 else none
structure Gd(tb:Tb)(k:Nat)(P:Program)(w:Xz)(K:Qr)(mg:Str->Option Value)(base:Heap):Prop where
 fn:∀x f,tb.fns.lookup x=some f->∃a fd ps,dF P w K mg base BV k a fd ps (iQ ⟨K,mg,P,w⟩ f.n f.m)/\mg x=some (.ref a)/\RX K (.ref a)=true/\mw P w K mg fd ps f.df
 cs:∀x a,tb.cst.lookup x=some a->∃v u,mg x=some u/\RelV v u/\∀G,RA ⟨K,mg,P,w⟩ G v a
 bl:∀x∈Cz,mg x=none
 fl:∀f c C,(eW tb f).contains c=true->mg c=some (.ref C)->gy K C/\bU K C f
 im:∀c f,tb.fB.lookup c=some f->∃C a fd ps j,j+1<=k/\dF P w K mg base BV j a fd ps (iQ ⟨K,mg,P,w⟩ f.n f.m)/\mg c=some (.ref C)/\Mk K C a/\mw P w K mg fd ps f.df
 mt:∀m c f,(m,c,f)∈tb.mts->∃C a fd ps,dF P w K mg base BV k a fd ps (iQ ⟨K,mg,P,w⟩ f.n f.m)/\mg c=some (.ref C)/\gy K C/\Meth K C m a/\mw P w K mg fd ps f.df
structure Sit(tb:Tb)(k:Nat)(X:Cx)(E:XK)(s:Sc):Prop where
 n:X.N=s.N
 nd:s.N.Nodup
 gl:∀x,s.nm.lookup x=some .globalImplicit->Gl X x
 vs:∀x,Ec s x=true->jh X.env.scope x
 lo:∀x,sW s x=true->Loc X.env.scope x
 lc:∀x,s.nm.lookup x=some .local->X.env.scope.names.lookup x=some .local
 ce:∀x,(s.nm.lookup x=some .cell->X.env.scope.names.lookup x=some .cell)/\(s.nm.lookup x=some .free->X.env.scope.names.lookup x=some .cell\/X.env.scope.names.lookup x=some .free)
 fx:∀x,sW s x=true->X.fn x=true\/X.env.scope.names.lookup x=some .local
 cm:s.hd=false->X.calm=true
 rm:s.hd=false->cZ k X.A
 ps:s.hd=false->Passes BV X E
 gd:Gd tb k X.prog X.w X.K X.mg X.base
variable{i:Nat}
section
variable{tb:Tb}{k:Nat}{X:Cx}{E:XK}{s:Sc}
theorem oJ{x:Str}(h:okN x=true):fg x/\km x:=by unfold okN at h;simp only[Qq] at h;exact⟨by simpa using h.1,by simpa using h.2⟩
theorem Sit.slot(S:Sit tb k X E s){x:Str}(h:M.slot s x=some i):X.N[i]?=some x/\jh X.env.scope x/\fg x/\km x:=by
 obtain⟨h1,h2⟩:=ah h;simp only[Qq] at h1;obtain⟨j,e1,e2⟩:=kX h2;obtain rfl:i=j:=by lia
 exact⟨by rw[S.n];exact e2,S.vs x h1.1,(oJ h1.2).1,(oJ h1.2).2⟩
theorem Sit.iq(S:Sit tb k X E s){x:Str}(h:M.iq s x=some i):X.N[i]?=some x/\Loc X.env.scope x/\fg x/\(X.fn x=true\/X.env.scope.names.lookup x=some .local):=by
 obtain⟨h1,h2⟩:=ah h;simp only[Qq] at h1;obtain⟨j,e1,e2⟩:=kX h2;obtain rfl:i=j:=by lia
 exact⟨by rw[S.n];exact e2,S.lo x h1.1,(oJ h1.2).1,S.fx x h1.1⟩
theorem Sit.glob(S:Sit tb k X E s){x:Str}(h:mX s x=true):Gl X x/\fg x:=by unfold mX qg at h;rw[Qq,Y3] at h;exact⟨S.gl x h.1,(oJ h.2).1⟩
end
noncomputable def notStar:Expr->Bool
 | .Starred _ _=>false
 |_=>true
variable{e:Expr}
theorem ao(h:notStar e=true)(es:List Expr)(env:Env):Xo (e::es) env=(false,eval e env)::Xo es env:=by cases e<;>first|rfl|cases h
theorem dB{env:Env}{pos:Pos}:∀{es:List Expr},es.all notStar=true->(Xw pos (Xo es env)).any (·.1)=false
 |[],_=>rfl
 |e::es,h=>by simp only[QV,Qq] at h;rw[ao h.1];show (false || (Xw pos (Xo es env)).any (·.1))=false;rw[dB h.2];rfl
noncomputable def jG:Expr->Bool
 | .ListComp _ _ _ _=>false
 | .SetComp _ _ _ _=>false
 | .DictComp _ _ _ _ _=>false
 |_=>true
theorem j4(h:jG e=true)(t:Option Expr)(l:Nat)(env:Env):XH e t l env=pure false:=by cases e<;>first|rfl|cases h
noncomputable def jV:Expr->Bool
 | .Set _ _ _=>false
 |_=>true
theorem lV(h:jV e=true)(env:Env)(x:Value):XG e env x=pure x:=by cases e<;>first|rfl|cases h
noncomputable def plainT:Expr->Bool
 | .UnaryOp _ _ _=>false
 | .BoolOp _ _ _=>false
 | .IfExp _ _ _ _=>false
 | .Compare _ _ _ _=>false
 |_=>true
theorem tQ(h:plainT e=true)(env:Env):∀z,YJ e env z=(do let v <- z;Yb e.pos;holding [v] (truthy v)):=by intro z;cases e<;>first|rfl|cases h
noncomputable def ji:Expr->Bool
 | .Slice _ _ _ _=>false
 |_=>true
theorem sR(h:ji e=true):jf e:=by intro o i;cases e<;>first|rfl|cases h
variable{op:X6}
theorem jA(h:jV e=true):XE op e=false:=by cases e<;>first|rfl|cases h
theorem uz{env:Env}:∀es:List Expr,(XF es env).length=es.length
 |[]=>rfl
 |e::es=>by cases e<;>(show (_::XF es env).length=_;simp only[QF,QF,uz es])
theorem qS{env:Env}:∀es:List Expr,es.all notStar=true->(XF es env).findIdx? (·.1)=none
 |[],_=>rfl
 |e::es,h=>by
  simp only[QV,Qq] at h;have m:=qS (env:=env) es h.2;have e1:XF (e::es) env=(false,assign e env)::XF es env:=by cases e<;>first|rfl|cases h.1
  simp only[e1,List.findIdx?_cons];simp[m]
variable{env:Env}
theorem yn{es:List Expr}(h:notStar e=true):(XF (e::es) env).map (·.2)=assign e env::(XF es env).map (·.2):=by cases e<;>first|rfl|cases h
variable{q:Mi Rr}{pos p:Pos}
section
variable{tb:Tb}{k:Nat}{X:Cx}{E:XK}{s:Sc}
def yu(F:Expr->Option (Mi Rr)):List Expr->Option (Mi (List Rr))
 |[]=>some pV
 |e::es=>cV (notStar e) (af (F e) λm=>af (yu F es) λn=>some (c9 m n))
def CS(F G:Expr->Option (Mi Rr)):List Expr->List Bool->Option (Mi (List Rr))
 |[],_=>some pV
 |e::es,b::bs=>cV (notStar e) (af (match b with|true=>F e|false=>G e) λm=>af (CS F G es bs) λn=>some (c9 m n))
 |_::_,[]=>none
def NL(m:Mi (List Rr))(n:Nat):Prop:=∀Z rs B,m Z=some (.ok rs,B)->rs.length=n
theorem kL{F:Expr->Option (Mi Rr)}(h:∀e m,F e=some m->JE X E e m):∀{es:List Expr}{m:Mi (List Rr)},yu F es=some m->JA X E es m/\NL m es.length/\es.all notStar=true
 |[],m,e=>by cases e;exact⟨z7,Aj,rfl⟩
 |a::es,m,e=>by obtain⟨h1,e⟩:=ah e;obtain⟨Y,e1,e⟩:=aa e;obtain⟨L,e2,e⟩:=aa e;cases e;obtain⟨s,I,q⟩:=kL h e2;exact⟨u9 (h _ _ e1) s (ao h1 _ _),vi I,by simp only[QV,h1,q];rfl⟩
theorem kP{F G:Expr->Option (Mi Rr)}(h:∀e m,F e=some m->JE X E e m)(g:∀e m,G e=some m->JE X E e m):∀{es:List Expr}{bs:List Bool}{m:Mi (List Rr)},CS F G es bs=some m->JA X E es m/\NL m es.length/\es.all notStar=true
 |[],_,m,e=>by cases e;exact⟨z7,Aj,rfl⟩
 |_::_,[],m,e=>by cases e
 |a::es,b::bs,m,e=>by
  obtain⟨h1,e⟩:=ah e;obtain⟨Y,e1,e⟩:=aa e;obtain⟨L,e2,e⟩:=aa e;cases e;obtain⟨s,I,q⟩:=kP h g e2;refine⟨u9 ?_ s (ao h1 _ _),vi I,by simp only[QV,h1,q];rfl⟩;cases b
  .exact g _ _ e1
  .exact h _ _ e1
def OG(op:BoolOp)(F:Expr->Option (Mi Rr)):List Expr->Option (Mi Rr)
 |[]=>none
 |[a]=>F a
 |a::b::r=>af (F a) λm=>af (OG op F (b::r)) λn=>(match op with | .And=>some (EK m n) | .Or=>none)
theorem Bl{op:BoolOp}{F:Expr->Option (Mi Rr)}{pos:Pos}(h:∀e m,F e=some m->JE X E e m):∀{es:List Expr}{m:Mi Rr},OG op F es=some m->JE X E (.BoolOp op es pos) m
 |[],m,e=>by cases e
 |[a],m,e=>Iw (h _ _ e)
 |a::b::r,m,e=>by
  obtain⟨Y,e1,e⟩:=aa e;obtain⟨L,e2,e⟩:=aa e;have i:=Bl (pos:=pos) h e2;cases op
  .cases e;exact HN (h _ _ e1) i
  .cases e
def OT(op:BoolOp)(F:Expr->Option (Mi Bool)):List Expr->Option (Mi Bool)
 |[]=>none
 |[a]=>F a
 |a::b::r=>af (F a) λm=>af (OT op F (b::r)) λn=>some (match op with | .And=>mV m n | .Or=>Iu m n)
theorem AJ{op:BoolOp}{F:Expr->Option (Mi Bool)}{pos:Pos}(h:∀e m,F e=some m->JT X E e m):∀{es:List Expr}{m:Mi Bool},OT op F es=some m->JW X E (.BoolOp op es pos) m
 |[],m,e=>by cases e
 |[a],m,e=>by cases op;exact Di (h _ _ e);exact Jp (h _ _ e)
 |a::b::r,m,e=>by
  obtain⟨Y,e1,e⟩:=aa e;obtain⟨L,e2,e⟩:=aa e;have i:=AJ (pos:=pos) h e2;cases op
  .cases e;exact Hr (h _ _ e1) i
  .cases e;exact Ln (h _ _ e1) i
def PB(s:Sc)(op:X6)(a b:Expr)(m n:Mi Rr):Option (Mi Rr):=match op with
 | .Eq=>cV (!s.hd) (some (aB mT m n))
 | .NotEq=>cV (!s.hd) (some (aB j6 m n))
 | .Lt=>some (aB mI m n)
 | .LtE=>none
 | .Gt=>some (aB vN m n)
 | .GtE=>some (aB ES m n)
 | .Is=>some (aB (qj false) m n)
 | .IsNot=>some (aB (qj true) m n)
 | .In=>cV (!s.hd&&jV b) (some (aB (xg false) m n))
 | .NotIn=>cV (!s.hd&&jV b) (some (aB (xg true) m n))
theorem GW(S:Sit tb k X E s){a b:Expr}{m n:Mi Rr}(h:PB s op a b m n=some q)(f:JE X E a m)(d:JE X E b n):JE X E (.Compare a [op] [b] pos) q/\JT X E (.Compare a [op] [b] pos) (ay q):=by
 cases op
 case Eq=>obtain⟨h1,h⟩:=ah h;have g:=(S.rm (by simpa using h1)).units;cases h;exact⟨Kt g f d,LX g f d⟩
 case NotEq=>obtain⟨h1,h⟩:=ah h;have g:=(S.rm (by simpa using h1)).units;cases h;exact⟨M7 g f d,Lc g f d⟩
 case Lt=>cases h;exact⟨Ks f d,Lg f d⟩
 case LtE=>cases h
 case Gt=>cases h;exact⟨Ld f d,KU f d⟩
 case GtE=>cases h;exact⟨Lz f d,Mq f d⟩
 case Is=>cases h;exact⟨Kr f d,LK f d⟩
 case IsNot=>cases h;exact⟨CO f d,Cq f d⟩
 case In=>obtain⟨h1,h⟩:=ah h;rw[Qq] at h1;cases h;exact⟨fZ jQ pJ f d (jA h1.2),fX jQ pJ f d (jA h1.2)⟩
 case NotIn=>obtain⟨h1,h⟩:=ah h;rw[Qq] at h1;cases h;exact⟨fZ jm pJ f d (jA h1.2),fX jm pJ f d (jA h1.2)⟩
def Oe(f:Str):Option (A->Option Rr):=
 if f==("len" : Str) then some cI else if f==("abs" : Str) then some Eu else if f==("int" : Str) then some D3 else if f==("tuple" : Str) then some mD else
 if f==("list" : Str) then some i8 else if f==("any" : Str) then some (kf λbs=>bs.any id) else none
theorem bE(S:Sit tb k X E s){x:Str}(h:Cz.contains x=true):X.mg x=none:=S.gd.bl x (Sn.mp h)
theorem Jd(S:Sit tb k X E s){f:Str}{g:A->Option Rr}{a:Expr}{m:Mi Rr}(h:Oe f=some g)(J:mX s f=true)(u:s.hd=false)(hs:notStar a=true)(c:JE X E a m):JE X E (.Call (.Name f p) [a] [] pos) (dg g m):=by
 obtain⟨e,V⟩:=S.glob J;have hc:=S.cm u;have h1:=ao hs [] X.env;have h2:(Xw pos (Xo [] X.env)).any (·.1)=false:=rfl;unfold Oe at h;split at h
 .rename_i z;rw[Y3] at z;subst z;cases h;exact m8 yO F5 e (bE S Z3) zX c Z3 V h1 h2
 split at h
 .rename_i z;rw[Y3] at z;subst z;cases h;exact m8 Bn IQ e (bE S Z3) HZ c Z3 V h1 h2
 split at h
 .rename_i z;rw[Y3] at z;subst z;cases h;exact Bh wR Gi e (bE S Z3) zo c Z3 V h1 h2
 split at h
 .rename_i z;rw[Y3] at z;subst z;cases h;exact Bh mU Ac e (bE S Z3) rG c Z3 V h1 h2
 split at h
 .rename_i z;rw[Y3] at z;subst z;cases h;exact Bh ou Ex e (bE S Z3) kR c Z3 V h1 h2
 split at h
 .rename_i z;rw[Y3] at z;subst z;cases h;exact m8 (zM hc) HE e (bE S Z3) zY c Z3 V h1 h2
 .cases h
def Nw(f:Str):Option (A->A->Option Rr):=if f==("max" : Str) then some Mv else if f==("min" : Str) then some wU else none
theorem BB(S:Sit tb k X E s){f:Str}{g:A->A->Option Rr}{a b:Expr}{m n:Mi Rr}(h:Nw f=some g)(J:mX s f=true)(u:s.hd=false)(hs:notStar a=true)(hs':notStar b=true)(c:JE X E a m)(d:JE X E b n):JE X E (.Call (.Name f p) [a,b] [] pos) (E3 g m n):=by
 obtain⟨e,V⟩:=S.glob J;have hc:=S.cm u;have h1:=ao hs [b] X.env;have h3:=ao hs' [] X.env;have h2:(Xw pos (Xo [b] X.env)).any (·.1)=false:=dB (by simp only[QV,hs'];rfl);unfold Nw at h;split at h
 .rename_i z;rw[Y3] at z;subst z;cases h;exact ED (wy hc) HL e (bE S Z3) Bi c d Z3 V h1 h3 h2
 split at h
 .rename_i z;rw[Y3] at z;subst z;cases h;exact ED (xD hc) Hx e (bE S Z3) yo c d Z3 V h1 h3 h2
 .cases h
noncomputable def OR(x:Str):Option Ty:=if x==("int" : Str) then some .int else if x==("bool" : Str) then some .bool else if x==("str" : Str) then some .str else if x==("tuple" : Str) then some .tuple else if x==("list" : Str) then some .list else if x==("dict" : Str) then some .dict else none
theorem GS{x:Str}{T:Ty}(h:OR x=some T):Xq x=some (.type T.n)/\Cz.contains x=true/\x ≠ "__name__" := by
 unfold OR at h;split at h
 .rename_i z;rw[Y3] at z;subst z;cases h;exact⟨zo,by decide +kernel,by decide +kernel⟩
 split at h
 .rename_i z;rw[Y3] at z;subst z;cases h;exact⟨Ee,by decide +kernel,by decide +kernel⟩
 split at h
 .rename_i z;rw[Y3] at z;subst z;cases h;exact⟨J8,by decide +kernel,by decide +kernel⟩
 split at h
 .rename_i z;rw[Y3] at z;subst z;cases h;exact⟨rG,by decide +kernel,by decide +kernel⟩
 split at h
 .rename_i z;rw[Y3] at z;subst z;cases h;exact⟨kR,by decide +kernel,by decide +kernel⟩
 split at h
 .rename_i z;rw[Y3] at z;subst z;cases h;exact⟨D7,by decide +kernel,by decide +kernel⟩
 .cases h
end
structure Tr where
 E:Sc->Expr->Option (Mi Rr)
 T:Sc->Expr->Option (Mi Bool)
 I:Sc->Expr->Expr->Option (Mi (List A))
structure cx(tb:Tb)(k:Nat)(r:Tr):Prop where
 E:∀{X E s e m},Sit tb k X E s->r.E s e=some m->JE X E e m
 T:∀{X E s e m},Sit tb k X E s->r.T s e=some m->JT X E e m
 I:∀{X E s tg e m},Sit tb k X E s->r.I s tg e=some m->JI X E tg e m
def Cs(s:Sc)(lo:Nat):Nat->Expr->Option Mg
 |0,_=>none
 |d+1,.Name x _=>af (iq s x) λi=>cV (R8 lo i) (some (aO i))
 |d+1,.Tuple es _ _=>cV (!s.hd) (af (trGs (Cs s lo d) es) λgs=>some (fN es.length gs))
 |_+1,_=>none
where trGs (F:Expr->Option Mg):List Expr->Option BX
 |[]=>some fq
 |e::es=>cV (notStar e) (af (F e) λg=>af (trGs F es) λgs=>some (bQ g gs))
variable{r:Tr}{tg:Expr}
section
variable{tb:Tb}{k:Nat}{X:Cx}{E:XK}{s:Sc}
theorem vq{lo:Nat}{F:Expr->Option Mg}(h:∀e g,F e=some g->JG X lo e g):∀{es:List Expr}{gs:BX},Cs.trGs F es=some gs->KL X lo es gs/\es.all notStar=true
 |[],gs,e=>by cases e;exact⟨Dj,rfl⟩
 |a::es,gs,e=>by obtain⟨h1,e⟩:=ah e;obtain⟨g,e1,e⟩:=aa e;obtain⟨Z,e2,e⟩:=aa e;cases e;obtain⟨s,I⟩:=vq h e2;exact⟨BL (h _ _ e1) s (λx y=>zf x y (yn h1)),by simp only[QV,h1,I];rfl⟩
theorem pD(S:Sit tb k X E s){lo:Nat}:∀{d:Nat}{e:Expr}{g:Mg},Cs s lo d e=some g->JG X lo e g
 |0,e,g,h=>by cases h
 |d+1,e,g,h=>by
  unfold Cs at h;split at h
  .rename_i b;cases b
  .rename_i b;cases b;obtain⟨i,e1,h⟩:=aa h;obtain⟨h1,h⟩:=ah h;cases h;obtain⟨a1,a2,a3,a4⟩:=S.iq e1;exact CV (by rw[S.n];exact S.nd) a1 a2 (RB h1) a4
  .rename_i b;cases b;obtain⟨m,h⟩:=ah h;obtain⟨gs,e1,h⟩:=aa h;cases h;obtain⟨F,I⟩:=vq (λe g h=>pD S h) e1;have hc:=S.cm (by simpa using m);exact J9 hc F (uz _) (qS _ I)
  .cases h
noncomputable def AW:Expr->Bool
 | .Tuple _ _ _=>true
 |_=>false
noncomputable def Pf:Expr->Bool
 | .Name _ _=>true
 |_=>false
def Dc(r:Tr)(s:Sc)(tg:Expr):Expr->Option (Mi (List A))
 | .Call (.Name f p) [a] [] pos=>match f==("range" : Str) with
  |true=>cV (mX s f&&notStar a) (af (r.E s a) λm=>some (dw m))
  |false=>af (r.E s (.Call (.Name f p) [a] [] pos)) λm=>some (bZ m)
 | .Call (.Name f p) [a,b] [] pos=>match f==("range" : Str) with
  |true=>cV (mX s f&&notStar a&&notStar b) (af (r.E s a) λm=>af (r.E s b) λn=>some (rn m n))
  |false=>match f==("zip" : Str) with
   |true=>cV (mX s f&&notStar a&&notStar b&&AW tg) (af (r.E s a) λm=>af (r.E s b) λn=>some (lN m n))
   |false=>af (r.E s (.Call (.Name f p) [a,b] [] pos)) λm=>some (bZ m)
 |e=>af (r.E s e) λm=>some (bZ m)
theorem gM(R:cx tb k r)(S:Sit tb k X E s){m:Mi (List A)}(h:(af (r.E s e) λm=>some (bZ m))=some m):JI X E tg e m:=by obtain⟨Y,e1,h⟩:=aa h;cases h;exact HR (R.E S e1)
theorem DA(R:cx tb k r)(S:Sit tb k X E s){m:Mi (List A)}(h:Dc r s tg e=some m):JI X E tg e m:=by
 cases e with
 |Call fn args v pos=>cases fn with
  |Name f p=>cases args with
   |nil=>exact gM R S h
   |cons a l=>cases l with
    |nil=>cases v with
     |cons _ _=>exact gM R S h
     |nil=>
      delta Dc at h
      dsimp only at h
      split at h
      .rename_i z;rw[Y3] at z;subst z
       obtain⟨h1,h⟩:=ah h
       simp only[Qq] at h1
       obtain⟨Y,e1,h⟩:=aa h
       cases h
       exact D9 (S.glob h1.1).1 (bE S Z3) (R.E S e1) (ao h1.2 _ _) (ao h1.2 _ _)
      .exact gM R S h
    |cons b l=>cases l with
     |cons _ _=>exact gM R S h
     |nil=>cases v with
      |cons _ _=>exact gM R S h
      |nil=>
       delta Dc at h
       dsimp only at h
       split at h
       .rename_i z;rw[Y3] at z;subst z
        obtain⟨h1,h⟩:=ah h
        rw[Qq,Qq] at h1
        obtain⟨Y,e1,h⟩:=aa h
        obtain⟨L,e2,h⟩:=aa h
        cases h
        have G:=ao h1.1.2
        have D:=ao h1.2
        exact Cb (S.glob h1.1.1).1 (bE S Z3) (R.E S e1) (R.E S e2) (by rw[G,D];rfl) (by rw[D];rfl) (G _ _) (D _ _)
       .split at h
        .rename_i z;rw[Y3] at z;subst z
         obtain⟨h1,h⟩:=ah h
         simp only[Qq,Qq,Qq] at h1
         obtain⟨Y,e1,h⟩:=aa h
         obtain⟨L,e2,h⟩:=aa h
         cases h
         have G:=ao h1.1.1.2
         have D:=ao h1.1.2
         cases tg<;>first|(exact yI h1.2)|skip
         exact En (S.glob h1.1.1.1).1 (bE S Z3) (R.E S e1) (R.E S e2) (by rw[G,D];rfl) (by rw[D];rfl) (G _ _) (D _ _)
        .exact gM R S h
  |_=>exact gM R S h
 |_=>exact gM R S h
noncomputable def kI{α:Type}(a b:Option α):Option α:=match a with
 |some x=>some x
 |none=>b
theorem a6{a b:Option α}{x:α}(h:kI a b=some x):a=some x\/b=some x:=by
 cases a with
 |none=>exact .inr h
 |some y=>exact .inl h
def Od(r:Tr)(s:Sc)(tg e:Expr):Option (Mi (List A)):=kI (r.I s tg e) (Dc r s tg e)
theorem By(R:cx tb k r)(S:Sit tb k X E s){m:Mi (List A)}(h:Od r s tg e=some m):JI X E tg e m:=by
 rcases a6 h with h|h
 .exact R.I S h
 .exact DA R S h
noncomputable def Pj:Nat->Expr->List Str
 |0,_=>[]
 |_+1,.Name x _=>[x]
 |d+1,.Tuple es _ _=>es.flatMap (Pj d)
 |_+1,_=>[]
noncomputable def Oy(N own:List Str):List Str:=N.map (λn=>if own.contains n then n++(" (of the def)" : Str) else n)++own
def zc(s:Sc)(N:List Str)(own:Nat)(sc:Scope):Bool:=
 sc.kind==.function&&sc.names.all (λy=>y.2 != .cell)&&sc.names.all (λy=>y.2 != .local || sc.names.lookup y.1==some .local)&&N.length==s.N.length+own&&decide N.Nodup &&
 ((N.take s.N.length).zip s.N).all (λp=>p.1==p.2 || sc.names.lookup p.1==none)&&(N.take s.N.length).all (λn=>sc.names.lookup n != some .local)&&sc.names.all (λy=>y.2 != .free || (s.nm.lookup y.1==some .cell || s.nm.lookup y.1==some .free))
def zh(s:Sc)(N:List Str)(sc:Scope):Sc:={ N:=N,nm:=sc.names,di:=s.di,ca:=[],hd:=false,lv:=s.lv }
end
variable{elt:Expr}{gs:List Yi}{args:List Expr}
section
variable{tb:Tb}{k:Nat}{X:Cx}{E:XK}{s:Sc}
theorem d9{α:Type}{x:Str}{v:α}:∀{l:List (Str×α)},l.lookup x=some v->(x,v)∈l
 |(y,u)::l,h=>by
  simp only[QI] at h;split at h
  .rename_i e;cases h;rw[Y3.mp e];exact QH
  .exact Qz _ (d9 h)
theorem Sit.comp(S:Sit tb k X E s){N:List Str}{sc:Scope}{own:Nat}(h:zc s N own sc=true)(u:s.hd=false):
  fO X.N N own sc X.env.scope/\∀cl C Z H fp,Sit tb k (iX X N sc cl C Z H fp) uj (zh s N sc):=by
 unfold zc at h;simp only[Qq,Y3,decide_eq_true_eq,RT,R5,bne_iff_ne,ne_eq] at h;obtain⟨⟨⟨⟨⟨⟨⟨h1,h2⟩,h3⟩,h4⟩,h5⟩,t⟩,j⟩,O⟩:=h;refine⟨⟨h1,h2,λy hy e=>?_,by rw[S.n];exact h4,h5,by rw[S.n];exact t,by rw[S.n];exact j,λy hy e=>?_⟩,λcl C Z H fp=>?_⟩
 .rcases h3 y hy with z|z
  .exact absurd e z
  .exact z
 .rcases O y hy with z|z
  .exact absurd e z
  .rcases z with z|z
   .exact .inl ((S.ce _).1 z)
   .exact(S.ce _).2 z
 .have loc:∀x,sW (zh s N sc) x=true->sc.names.lookup x=some .local:=λx hx=>by
   unfold sW qg zh at hx;simp only[R5,Y3] at hx;rcases hx with z|z
   .exact z
   .exact absurd rfl (h2 _ (d9 z))
  refine⟨rfl,h5,λx hx=>Ap hx,λx hx=>?_,λx hx=>.inl (hU (loc x hx)),λx hx=>hU hx,λx=>⟨λhx=>absurd rfl (h2 _ (d9 hx)),λhx=>by rcases eD (env:=X.env) hx with z|⟨_,z⟩;exact .inr z;exact .inl z⟩,λx hx=>.inr (hU (loc x hx)),λ_=>S.cm u,λ_=>S.rm u,λ_=>(λ_ _ _ _ _ _ _ x=>x.elim),S.gd⟩;unfold Ec qg zh at hx;simp only[R5,Y3] at hx;rcases hx with (z|z)|z
  .exact .inl (hU z)
  .exact absurd rfl (h2 _ (d9 z))
  .exact qB z
def Ij(r:Tr)(s:Sc):List Expr->Option (Mi Bool)
 |[]=>some aH
 |[t]=>r.T s t
 |_=>none
def pz(r:Tr)(s:Sc)(elt:Expr)(gs:List Yi)(sc:Scope):Option (Mi Rr):=match gs with
 |[g]=>
  let own:=Pj 9 g.target
  let N:=Oy s.N own
  let s':=zh s N sc
  cV (!s.hd&&g.is_async==0&&jV g.iter&&zc s N own.length sc) (af (Od r s g.target g.iter) λH=>af (Cs s' s.N.length 9 g.target) λG=>af (Ij r s' g.ifs) λmt=>af (r.E s' elt) λh=>some (aL own.length H G mt h))
 |_=>none
theorem Cm(R:cx tb k r)(S:Sit tb k X E s){ifs:List Expr}{m:Mi Bool}(h:Ij r s ifs=some m):JF X E ifs m:=by
 unfold Ij at h;split at h
 .cases h;exact JV
 .exact JH (R.T S h)
 .cases h
theorem nY(R:cx tb k r)(S:Sit tb k X E s){sc:Scope}{m:Mi Rr}(h:pz r s elt gs sc=some m):
  s.hd=false/\∃N own tg iter ifs a G mt b,gs=[⟨tg,iter,ifs,0⟩]/\m=aL own a G mt b/\fO X.N N own sc X.env.scope/\JI X E tg iter a/\(∀cl C u H fp,JG (iX X N sc cl C u H fp) X.N.length tg G) /\
   (∀cl C u H fp,JF (iX X N sc cl C u H fp) uj ifs mt)/\(∀cl C u H fp,JE (iX X N sc cl C u H fp) uj elt b)/\∀x,XG iter X.env x=pure x:=by
 unfold pz at h;split at h
 .rename_i g;obtain⟨tg,iter,ifs,Z⟩:=g;obtain⟨q,h⟩:=ah h;simp only[Qq,Y3,Q7] at q;obtain⟨⟨⟨h1,rfl⟩,h3⟩,h4⟩:=q;obtain⟨a,e1,h⟩:=aa h;obtain⟨G,e2,h⟩:=aa h;obtain⟨mt,F,h⟩:=aa h;obtain⟨b,K,h⟩:=aa h;cases h;obtain⟨v,e⟩:=S.comp h4 h1;exact⟨h1,_,_,tg,iter,ifs,a,G,mt,b,rfl,rfl,v,By R S e1,λcl C u H fp=>by rw[S.n];exact pD (e cl C u H fp) e2,λcl C u H fp=>Cm R (e cl C u H fp) F,λcl C u H fp=>R.E (e cl C u H fp) K,lV h3 _⟩
 .cases h
def Ou(F:Expr->Option (Mi Rr)):Option Expr->Option (Mi (Option Int))
 |none=>some aE
 |some e=>af (F e) λm=>some (bz m)
theorem AA{F:Expr->Option (Mi Rr)}(h:∀e m,F e=some m->JE X E e m){o:Option Expr}{m:Mi (Option Int)}(e:Ou F o=some m):JP X E o m:=by
 cases o with
 |none=>cases e;exact CD
 |some a=>obtain⟨Y,e1,e⟩:=aa e;cases e;exact Ep (h _ _ e1)
def Bu(r:Tr)(s:Sc)(a:Expr):Expr->Option (Mi Rr)
 | .Slice lo hi none _=>af (r.E s a) λm=>af (Ou (r.E s) lo) λY=>af (Ou (r.E s) hi) λH=>some (cB m Y H)
 |b=>cV (ji b&&!s.hd) (af (r.E s a) λm=>af (r.E s b) λn=>some (aB B7 m n))
theorem zF(R:cx tb k r)(S:Sit tb k X E s){a b:Expr}{m:Mi Rr}(h:Bu r s a b=some m):JE X E (.Subscript a b pos) m:=by
 unfold Bu at h;split at h
 .obtain⟨Y,e1,h⟩:=aa h;obtain⟨L,e2,h⟩:=aa h;obtain⟨e,N,h⟩:=aa h;cases h;exact Gr (R.E S e1) (AA (λ_ _=>R.E S) e2) (AA (λ_ _=>R.E S) N)
 .obtain⟨q,h⟩:=ah h;simp only[Qq,Q7] at q;obtain⟨Y,e1,h⟩:=aa h;obtain⟨L,e2,h⟩:=aa h;cases h;exact JQ (R.E S e1) (R.E S e2) (sR q.1)
noncomputable def PU(f:Str):Bool:=match f.cps[0]? with
 |some c=>R8 65 c&&R8 c 90
 |none=>false
def GD:Expr->Bool
 | .ListComp _ _ _ _=>true
 | .List _ _=>true
 | .Dict _ _ _=>true
 | .BinOp _ .Add _ _=>true
 | .Subscript _ (.Slice _ _ _ _) _=>true
 | .Call (.Name f _) _ _ _=>f==("list" : Str) || f==("sorted" : Str) || f==("dict" : Str) || PU f
 | .Call (.Attribute _ _ _) _ _ _=>true
 |_=>false
def KR(r:Tr)(s:Sc)(e:Expr):Option (Mi Rr):=match e with
 | .Name x _=>match s.lv.contains x with
  |true=>r.E s e
  |false=>match slot s x with
   |some i=>some (ai i)
   |none=>r.E s e
 |e=>match GD e with
  |true=>af (r.E s e) λm=>some (kA m)
  |false=>r.E s e
theorem oC(R:cx tb k r)(S:Sit tb k X E s){m:Mi Rr}(h:KR r s e=some m):JE X E e m:=by
 unfold KR at h;split at h
 .split at h
  .exact R.E S h
  split at h
  .rename_i e1;cases h;obtain⟨a1,a2,a3,a4⟩:=S.slot e1;exact CY a1 a2 a3 a4
  .exact R.E S h
 .split at h
  .obtain⟨Y,e1,h⟩:=aa h;cases h;exact ML (R.E S e1)
  .exact R.E S h
noncomputable def fC(s:Sc):Nat->List Expr->List Bool->List Nat
 |j,.Name x _::es,false::bs=>match s.lv.contains x with
  |true=>j::fC s (j+1) es bs
  |false=>fC s (j+1) es bs
 |j,_::es,_::bs=>fC s (j+1) es bs
 |_,_,_=>[]
def eE:List Nat->Ms->Ms
 |[],m=>m
 |j::js,m=>bF j (eE js m)
theorem iQ.eE{K:Kx}{n:Nat}{m:Ms}{vs:List V}{H:Hp}{Q:VK}{E:XK}:∀{X:List Nat},iQ K n (M.eE X m) vs H Q E->iQ K n m vs H Q E
 |[],h=>h
 |_::_,h=>iQ.eE (iQ.zB h)
def Gb(tb:Tb)(r:Tr)(s:Sc)(fi:FI)(args:List Expr):Option (Mi (List Rr)):=cV (args.length+(mS fi args.length).length==fi.n) (CS (r.E s) (KR r s) args fi.mu)
def zy(tb:Tb)(r:Tr)(s:Sc)(fi:FI)(args:List Expr):Option (Mi (List Rr)):=cV (args.length+1+(mS fi (args.length+1)).length==fi.n) (CS (r.E s) (KR r s) args (fi.mu.drop 1))
def A9(tb:Tb)(r:Tr)(s:Sc)(f:Str):List Expr->Option (Mi Rr)
 |[]=>none
 |a::as=>af (tb.fB.lookup f) λfi=>cV (!s.hd) (af (zy tb r s fi (a::as)) λm=>some (m9 f (eE (fC s 1 (a::as) (fi.mu.drop 1)) fi.m) (mS fi ((a::as).length+1)) m))
def FG(tb:Tb)(r:Tr)(s:Sc)(a:Expr)(x:Str):Option (Mi Rr):=match OR x with
 |some T=>af (r.E s a) λm=>some (dg (Hm T) m)
 |none=>none
def yg(tb:Tb)(r:Tr)(s:Sc)(f:Str)(args:List Expr):Option (Mi Rr):=cV (mX s f) (match tb.fns.lookup f with
 |some fi=>match args with
  |[]=>none
  |a::as=>match s.hd with
   |true=>none
   |false=>af (Gb tb r s fi (a::as)) λm=>some (a7 (eE (fC s 0 (a::as) fi.mu) fi.m) (mS fi (a::as).length) m)
 |none=>match tb.fB.lookup f with
 |some _=>A9 tb r s f args
 |none=>match args with
  |[a]=>cV (notStar a&&!s.hd) (af (Oe f) λg=>af (r.E s a) λm=>some (dg g m))
  |[a,.Name x p]=>match f==("isinstance" : Str) with
   |true=>cV (notStar a&&mX s x) (FG tb r s a x)
   |false=>cV (notStar a&&!s.hd) (af (Nw f) λg=>af (r.E s a) λm=>af (r.E s (.Name x p)) λn=>some (E3 g m n))
  |[a,b]=>cV (notStar a&&notStar b&&!s.hd) (af (Nw f) λg=>af (r.E s a) λm=>af (r.E s b) λn=>some (E3 g m n))
  | _=>none)
theorem v5(R:cx tb k r)(S:Sit tb k X E s){f:Str}{m:Mi Rr}(h:yg tb r s f args=some m):JE X E (.Call (.Name f p) args [] pos) m:=by
 have h':=ah h;clear h;obtain⟨J,h⟩:=h';split at h
 .rename_i fi Y;split at h
  .cases h
  .rename_i a as;split at h
   .cases h
   rename_i u;obtain⟨ma,e1,h⟩:=aa h;cases h;obtain⟨h1,e1⟩:=ah e1;obtain⟨O,I,c⟩:=kP (λ_ _=>R.E S) (λ_ _=>oC R S) e1;obtain⟨i,fd,ps,F,hm,hk,d⟩:=S.gd.fn f fi Y;obtain⟨ds,dvs,H,t,e⟩:=d.of (a::as).length;have v:=c;simp only[QV,Qq] at v;exact CC (F.imp λ_ _ _ _ q=>iQ.eE q) (S.rm u) (S.glob J).1 hm hk H t e (S.ps u) O (HX I (by simp only[Y3] at h1;exact h1)) (S.glob J).2 (ao v.1 _ _) (dB v.2)
 split at h
 .unfold A9 at h;split at h
  .cases h
  .rename_i a as;obtain⟨fi,Y,h⟩:=aa h;obtain⟨u,h⟩:=ah h;have u:s.hd=false:=by simpa using u
   obtain⟨ma,e1,h⟩:=aa h;cases h;obtain⟨h1,e1⟩:=ah e1;simp only[Y3] at h1;obtain⟨O,I,c⟩:=kP (λ_ _=>R.E S) (λ_ _=>oC R S) e1;obtain⟨C,i,fd,ps,j,D,F,hm,hk,d⟩:=S.gd.im f fi Y;obtain⟨ds,dvs,H,t,e⟩:=d.of ((a::as).length+1);have v:=c;simp only[QV,Qq] at v;exact Dz hk (F.imp λ_ _ _ _ q=>iQ.eE q) ((S.rm u).mono D) (S.glob J).1 hm H t e (S.ps u) O (λZ rs B q=>by rw[I Z rs B q];exact h1) (S.glob J).2 (ao v.1 _ _) (dB v.2)
 .split at h
  .obtain⟨b,h⟩:=ah h;simp only[Qq,Q7] at b;obtain⟨g,e1,h⟩:=aa h;obtain⟨K,e2,h⟩:=aa h;cases h;exact Jd S e1 J b.2 b.1 (R.E S e2)
  .split at h
   .rename_i z;simp only[Y3] at z;subst z;obtain⟨b,h⟩:=ah h;simp only[Qq] at b;obtain⟨x,V⟩:=S.glob J;obtain⟨l,Q⟩:=S.glob b.2;unfold FG at h;split at h
    .rename_i T U;obtain⟨K,e2,h⟩:=aa h;cases h;obtain⟨w,o,n⟩:=GS U;exact JK T x (bE S Z3) mM l (bE S o) w (R.E S e2) Z3 V n Q (ao b.1 _ _)
    .cases h
   .obtain⟨b,h⟩:=ah h;simp only[Qq,Q7] at b;obtain⟨g,e1,h⟩:=aa h;obtain⟨K,e2,h⟩:=aa h;obtain⟨L,N,h⟩:=aa h;cases h;exact BB S e1 J b.2 b.1 rfl (R.E S e2) (R.E S N)
  .obtain⟨b,h⟩:=ah h;simp only[Qq,Q7] at b;obtain⟨g,e1,h⟩:=aa h;obtain⟨K,e2,h⟩:=aa h;obtain⟨L,N,h⟩:=aa h;cases h;exact BB S e1 J b.2 b.1.1 b.1.2 (R.E S e2) (R.E S N)
  .cases h
end
variable{o:Expr}{apos cpos px:Pos}
section
variable{tb:Tb}{k:Nat}{X:Cx}{E:XK}{s:Sc}
noncomputable def nI(o:Expr):Bool:=match o with
 | .Call f args kw _=>match f with
  | .Name _ _=>!(args.isEmpty&&kw.isEmpty)
  |_=>true
 |_=>true
theorem bh(h:nI o=true)(m:Str)(env:Env)(w:Sem Value):Xr o m env w=w:=by
 cases o with
 |Call f args F p=>cases f with
  |Name _ _=>cases args with
   |cons _ _=>rfl
   |nil=>cases F with
    |cons _ _=>rfl
    |nil=>cases h
  |_=>rfl
 |_=>rfl
theorem Jo(h:notStar e=true)(cpos:Pos)(env:Env):((Xw cpos (Xo [e] env)).all (λx=>!x.1)&&(XD cpos (Xy [] env)).all (λx=>x.1.isSome)&&decide (([e]:List Expr).length+([]:List XB).length+(if ([]:List XB).isEmpty then 0 else 1)<30))=true:=by rw[ao h];rfl
theorem NS{f:Expr}(h:notStar e=true)(h':notStar f=true)(cpos:Pos)(env:Env):((Xw cpos (Xo [e,f] env)).all (λx=>!x.1)&&(XD cpos (Xy [] env)).all (λx=>x.1.isSome)&&decide (([e,f]:List Expr).length+([]:List XB).length+(if ([]:List XB).isEmpty then 0 else 1)<30))=true:=by rw[ao h,ao h'];rfl
def Qc(e:Expr):Option (Expr×Str×Pos×Pos):=match e with
 | .Call f args kw cpos=>match f with
  | .Attribute o m apos=>cV (args.isEmpty&&kw.isEmpty) (some (o,m,apos,cpos))
  |_=>none
 |_=>none
def Es(e:Expr):Option (Expr×Str×Pos×Expr×Pos):=match e with
 | .Call f args kw cpos=>match f with
  | .Attribute o m apos=>match args with
   |[a]=>cV (kw.isEmpty&&notStar a) (some (o,m,apos,a,cpos))
   |_=>none
  |_=>none
 |_=>none
theorem nZ{a:Expr}{m:Str}(h:Es e=some (o,m,apos,a,cpos)):e=.Call (.Attribute o m apos) [a] [] cpos/\notStar a=true:=by
 unfold Es at h;split at h
 .rename_i f args F c;split at h
  .split at h
   .obtain⟨s,h⟩:=ah h;rw[Qq,RM] at s;cases h;rw[s.1];exact⟨rfl,s.2⟩
   .cases h
  .cases h
 .cases h
def oZ(e:Expr):Option (Str×Pos×Expr×Pos):=match e with
 | .Call f args kw cpos=>match f with
  | .Name x p=>match args with
   |[a]=>cV (kw.isEmpty&&notStar a) (some (x,p,a,cpos))
   |_=>none
  |_=>none
 |_=>none
theorem dO{a:Expr}{x:Str}(h:oZ e=some (x,p,a,cpos)):e=.Call (.Name x p) [a] [] cpos/\notStar a=true:=by
 unfold oZ at h;split at h
 .rename_i f args F c;split at h
  .split at h
   .obtain⟨s,h⟩:=ah h;rw[Qq,RM] at s;cases h;rw[s.1];exact⟨rfl,s.2⟩
   .cases h
  .cases h
 .cases h
noncomputable def sj(e:Expr):Option (Str×Pos):=match e with
 | .Name x p=>some (x,p)
 |_=>none
theorem cu{x:Str}(h:sj e=some (x,p)):e=.Name x p:=by
 unfold sj at h;split at h
 .cases h;rfl
 .cases h
def HD(e:Expr):Option (Str×Pos×Expr×Expr×Pos):=match e with
 | .Call f args kw cpos=>match f with
  | .Name x p=>match args with
   |[a,b]=>cV (kw.isEmpty&&notStar a&&notStar b) (some (x,p,a,b,cpos))
   |_=>none
  |_=>none
 |_=>none
theorem xq{a b:Expr}{x:Str}(h:HD e=some (x,p,a,b,cpos)):e=.Call (.Name x p) [a,b] [] cpos/\notStar a=true/\notStar b=true:=by
 unfold HD at h;split at h
 .rename_i f args F c;split at h
  .split at h
   .obtain⟨s,h⟩:=ah h;rw[Qq,Qq,RM] at s;cases h;rw[s.1.1];exact⟨rfl,s.1.2,s.2⟩
   .cases h
  .cases h
 .cases h
def u4(_:Tb)(r:Tr)(s:Sc)(tg e:Expr):Option (Mi (List A)):=af (oZ e) λ(f,_,a,_)=>cV (f==("enumerate" : Str)&&mX s f&&AW tg) (af (r.E s a) λn=>some (uL n))
theorem sL(R:cx tb k r)(S:Sit tb k X E s){q:Mi (List A)}(h:u4 tb r s tg e=some q):JI X E tg e q:=by
 obtain⟨⟨f,p,a,cpos⟩,h1,g⟩:=aa h;clear h;obtain⟨rfl,hs⟩:=dO h1;obtain⟨h2,g⟩:=ah g;simp only[Qq,Y3] at h2;obtain⟨n,e2,g⟩:=aa g;cases g;obtain⟨⟨rfl,J⟩,l⟩:=h2;cases tg<;>first|(exact yI l)|skip
 exact Dr (S.glob J).1 (bE S Z3) (R.E S e2) (ao hs _ _) (ao hs _ _)
def BR(_:Tb)(r:Tr)(s:Sc)(e:Expr):Option (Mi Rr):=af (oZ e) λ(f,_,a,_)=>cV (f==("sum" : Str)&&mX s f&&!s.hd) (af (r.E s a) λn=>some (dg xV n))
theorem wx(R:cx tb k r)(S:Sit tb k X E s)(h:BR tb r s e=some q):JE X E e q:=by obtain⟨⟨f,p,a,cpos⟩,h1,g⟩:=aa h;clear h;obtain⟨rfl,hs⟩:=dO h1;obtain⟨h2,h⟩:=ah g;simp only[Qq,Qq,Y3,Q7] at h2;obtain⟨n,e2,h⟩:=aa h;cases h;obtain⟨⟨rfl,J⟩,u⟩:=h2;exact m8 (yj (S.cm u)) Ht (S.glob J).1 (bE S Z3) IL (R.E S e2) Z3 (S.glob J).2 (ao hs _ _) rfl
def vE(_:Tb)(r:Tr)(s:Sc)(e:Expr):Option (Mi Rr):=af (oZ e) λ(f,_,a,_)=>cV (f==("min" : Str)&&mX s f&&!s.hd) (af (r.E s a) λn=>some (dg qX n))
theorem tV(R:cx tb k r)(S:Sit tb k X E s)(h:vE tb r s e=some q):JE X E e q:=by obtain⟨⟨f,p,a,cpos⟩,h1,g⟩:=aa h;clear h;obtain⟨rfl,hs⟩:=dO h1;obtain⟨h2,g⟩:=ah g;simp only[Qq,Y3,Q7] at h2;obtain⟨n,e2,g⟩:=aa g;cases g;obtain⟨⟨rfl,J⟩,u⟩:=h2;exact m8 (xx (S.cm u)) Ct (S.glob J).1 (bE S Z3) yo (R.E S e2) Z3 (S.glob J).2 (ao hs _ _) rfl
def uA(_:Tb)(r:Tr)(s:Sc)(e:Expr):Option (Mi Rr):=af (oZ e) λ(f,_,a,_)=>cV (f==("max" : Str)&&mX s f&&!s.hd) (af (r.E s a) λn=>some (dg q9 n))
theorem sA(R:cx tb k r)(S:Sit tb k X E s)(h:uA tb r s e=some q):JE X E e q:=by obtain⟨⟨f,p,a,cpos⟩,h1,g⟩:=aa h;clear h;obtain⟨rfl,hs⟩:=dO h1;obtain⟨h2,g⟩:=ah g;simp only[Qq,Y3,Q7] at h2;obtain⟨n,e2,g⟩:=aa g;cases g;obtain⟨⟨rfl,J⟩,u⟩:=h2;exact m8 (xG (S.cm u)) Ed (S.glob J).1 (bE S Z3) Bi (R.E S e2) Z3 (S.glob J).2 (ao hs _ _) rfl
def vg(_:Tb)(r:Tr)(s:Sc)(e:Expr):Option (Mi Rr):=af (Es e) λ(o,m,apos,a,cpos)=>cV (m==("index" : Str)&&apos.endLine==cpos.line) (cV (nI o) <| af (r.E s o) λn=>af (r.E s a) λq=>some (vL n q))
theorem tf(R:cx tb k r)(S:Sit tb k X E s)(h:vg tb r s e=some q):JE X E e q:=by obtain⟨⟨o,m,apos,a,cpos⟩,h1,g⟩:=aa h;clear h;obtain⟨rfl,hs⟩:=nZ h1;obtain⟨h2,h⟩:=ah g;rw[Qq,Y3] at h2;obtain⟨d,V⟩:=ah h;clear h;obtain⟨n,e1,h⟩:=aa V;obtain⟨j,e2,h⟩:=aa h;cases h;obtain⟨rfl,hl⟩:=h2;exact C0 (R.E S e1) (R.E S e2) (bh d _ _ _) (Jo hs _ _) hl (ao hs _ _) rfl
def Kh(tb:Tb)(s:Sc)(e:Expr):Option (List Sl->Option A):=af (sj e) λ(x,_)=>match slot s x with
 |some j=>some (xJ j)
 |none=>af (tb.cst.lookup x) λa=>match a with
  | .int i=>cV (mX s x) (some (AS i))
  |_=>none
theorem xa{x:Str}{v:V}{u:Value}{i:Int}(J:Gl X x)(hm:X.mg x=some u)(r:RelV v u)(P:∀G,RA (kx X) G v (.int i))(hd:fg x):oY X (.Name x pos) (AS i):=by have z:=P λ_=>none;cases z;exact ye (u3 J hm r hd)
theorem lS(S:Sit tb k X E s){g:List Sl->Option A}(h:Kh tb s e=some g):oY X e g/\jf e/\notStar e=true:=by
 obtain⟨⟨x,p⟩,h1,w⟩:=aa h;clear h;obtain rfl:=cu h1;refine⟨?_,λ_ _=>rfl,rfl⟩;dsimp only at w;cases e1:slot s x with
 |some j=>rw[e1] at w;cases w;obtain⟨a1,a2,a3,a4⟩:=S.slot e1;exact wO a1 a2 a3 a4
 |none=>
  rw[e1] at w;obtain⟨a,e2,Q⟩:=aa w;clear w;cases a with
  |int i=>obtain⟨J,K⟩:=ah Q;cases K;obtain⟨v,u,Z,V,l⟩:=S.gd.cs _ _ e2;exact xa (S.glob J).1 Z V l (S.glob J).2
  |_=>exact cy Q
def xH(s:Sc)(e:Expr):Option (Nat×Str×Str×Pos×Pos):=match e with
 | .Attribute o f p=>af (sj o) λ(x,px)=>cV (s.lv.contains ("*nob" : Str)&&s.lv.contains f) (af (slot s x) λi=>some (i,x,f,px,p))
 |_=>none
theorem fJ(S:Sit tb k X E s){x f:Str}(h:xH s e=some (i,x,f,px,p)):e=.Attribute (.Name x px) f p/\X.N[i]?=some x/\jh X.env.scope x/\fg x/\km x:=by
 cases e with
 |Attribute o b q=>obtain⟨⟨v,a⟩,h1,w⟩:=aa h;clear h;obtain⟨_,Q⟩:=ah w;obtain⟨B,e1,K⟩:=aa Q;cases K;obtain rfl:=cu h1;obtain⟨a1,a2,a3,a4⟩:=S.slot e1;exact⟨rfl,a1,a2,a3,a4⟩
 |_=>exact cy h
noncomputable def nc(e:Expr):Option (Expr×Expr×Pos):=match e with
 | .Subscript a b p=>some (a,b,p)
 |_=>none
theorem eV{a b:Expr}(h:nc e=some (a,b,p)):e=.Subscript a b p:=by
 cases e with
 |Subscript=>cases h;rfl
 |_=>exact cy h
def FC(e:Expr):Option (Expr×Str×Pos×Expr×Pos):=match e with
 | .Call c as ks cpos=>match c with
  | .Attribute o m apos=>match as,ks with
   |[a],[]=>cV (apos.endLine==cpos.line) (some (o,m,apos,a,cpos))
   |_,_=>none
  |_=>none
 |_=>none
theorem sE{a:Expr}{m:Str}(h:FC e=some (o,m,apos,a,cpos)):e=.Call (.Attribute o m apos) [a] [] cpos/\(apos.endLine==cpos.line)=true:=by
 cases e with
 |Call c as E X=>
  cases c with
  |Attribute o' Q p=>
   rcases as with _|⟨a',_|_⟩
   .cases h
   .cases E with
    |nil=>obtain⟨s,h⟩:=ah h;cases h;exact⟨rfl,s⟩
    |cons=>cases h
   .cases h
  |_=>exact cy h
 |_=>exact cy h
def K5(tb:Tb)(r:Tr)(s:Sc)(i:Nat)(f m:Str)(a:Expr):Option (Mi Rr):=match m==("index" : Str) with
 |true=>af (Kh tb s a) λg=>some (fY (eW tb f) i f g)
 |false=>match m==("pop" : Str) with
  |true=>af (Kh tb s a) λg=>some (rJ (eW tb f) i f g)
  |false=>match m==("append" : Str) with
   |true=>kI (af (Kh tb s a) λg=>some (qD (eW tb f) i f g)) (cV (notStar a) (af (r.E s a) λq=>some (lg (eW tb f) i f q)))
   |false=>none
def Ah(tb:Tb)(r:Tr)(s:Sc)(e:Expr):Option (Mi Rr):=kI (af (nc e) λ(a,b,_)=>af (xH s a) λ(i,_,f,_,_)=>af (Kh tb s b) λg=>some (oG (eW tb f) i f g))
 (kI (af (FC e) λ(o,m,_,a,_)=>af (xH s o) λ(i,_,f,_,_)=>K5 tb r s i f m a)
 (af (oZ e) λ(l,_,a,_)=>cV (l==("len" : Str)&&mX s l) (af (xH s a) λ(i,_,f,_,_)=>some (jH (eW tb f) i f))))
theorem xi(R:cx tb k r)(S:Sit tb k X E s){m:Mi Rr}(h:Ah tb r s e=some m):JE X E e m:=by
 rcases a6 h with w|w
 .obtain⟨⟨a,b,p⟩,h1,T⟩:=aa w;clear w h;obtain rfl:=eV h1;obtain⟨⟨i,x,f,px,I⟩,h2,Q⟩:=aa T;clear T;obtain⟨rfl,a1,a2,a3,a4⟩:=fJ S h2;obtain⟨g,h3,K⟩:=aa Q;cases K;obtain⟨j,n,_⟩:=lS S h3;exact Jk a1 a2 a3 a4 (λc C=>S.gd.fl _ c C) (bh rfl _ _ _) j n
 clear h;rcases a6 w with z|z
 .obtain⟨⟨o,mm,apos,a,cpos⟩,h1,T⟩:=aa z;clear w z;obtain⟨rfl,hl⟩:=sE h1;obtain⟨⟨i,x,f,px,I⟩,h2,h⟩:=aa T;clear T;obtain⟨rfl,a1,a2,a3,a4⟩:=fJ S h2;dsimp only at h
  delta K5 at h
  cases L:mm==("index" : Str) with
  |true=>simp only[L] at h;obtain⟨g,h3,h⟩:=aa h;cases h;obtain rfl:=eq_of_beq L;obtain⟨j,_,H⟩:=lS S h3;exact xt a1 a2 a3 a4 (λc C=>S.gd.fl _ c C) (bh rfl _ _ _) j (bh rfl _ _ _) (by rw[ao H _ _];rfl) hl (ao H _ _) rfl
  |false=>
   rw[L] at h;dsimp only at h;cases J:mm==("pop" : Str) with
   |true=>simp only[J] at h;obtain⟨g,h3,h⟩:=aa h;cases h;obtain rfl:=eq_of_beq J;obtain⟨j,_,H⟩:=lS S h3;exact D8 a1 a2 a3 a4 (λc C=>S.gd.fl _ c C) (bh rfl _ _ _) j (bh rfl _ _ _) (by rw[ao H _ _];rfl) hl (ao H _ _) rfl
   |false=>
    rw[J] at h;dsimp only at h;cases v:mm==("append" : Str) with
    |true=>
     rw[v] at h;obtain rfl:=eq_of_beq v;rcases a6 h with h|h
     .obtain⟨g,h3,h⟩:=aa h;cases h;obtain⟨j,_,H⟩:=lS S h3;exact CW a1 a2 a3 a4 (λc C=>S.gd.fl _ c C) (bh rfl _ _ _) j (bh rfl _ _ _) (by rw[ao H _ _];rfl) hl (ao H _ _) rfl
     .obtain⟨Z,h⟩:=ah h;obtain⟨q,h3,h⟩:=aa h;cases h;exact Cu a1 a2 a3 a4 (λc C=>S.gd.fl _ c C) (bh rfl _ _ _) (R.E S h3) (bh rfl _ _ _) (by rw[ao Z _ _];rfl) hl (ao Z _ _) rfl
    |false=>rw[v] at h;cases h
 .obtain⟨⟨l,p,a,cpos⟩,h1,T⟩:=aa z;clear w z;obtain⟨rfl,hs⟩:=dO h1;obtain⟨Z,Q⟩:=ah T;clear T;simp only[Qq,Y3] at Z;obtain⟨⟨i,x,f,px,I⟩,h2,K⟩:=aa Q;obtain⟨rfl,a1,a2,a3,a4⟩:=fJ S h2;cases K;obtain⟨rfl,A⟩:=Z;exact DZ a1 a2 a3 a4 (λc C=>S.gd.fl _ c C) (bh rfl _ _ _) (S.glob A).1 (bE S Z3) zX Z3 (S.glob A).2 (ao rfl _ _) rfl
def Ad(tb:Tb)(_:Tr)(s:Sc)(e:Expr):Option (Mi Bool):=match e with
 | .Compare a ops bs _=>match ops,bs with
  |[op],[b]=>match op with
   | .In=>af (xH s b) λ(i,_,f,_,_)=>af (Kh tb s a) λg=>some (ay (wK false (eW tb f) i f g))
   |_=>none
  |_,_=>none
 |_=>none
theorem wG(R:cx tb k r)(S:Sit tb k X E s){q:Mi Bool}(h:Ad tb r s e=some q):JT X E e q:=by
 cases e with
 |Compare a ops bs p=>
  rcases ops with _|⟨op,_|_⟩
  .cases h
  .rcases bs with _|⟨b,_|_⟩
   .cases h
   .cases op with
    |In=>obtain⟨⟨i,x,f,px,I⟩,h2,w⟩:=aa h;clear h;obtain⟨rfl,a1,a2,a3,a4⟩:=fJ S h2;obtain⟨g,h3,Q⟩:=aa w;cases Q;exact G5 a1 a2 a3 a4 (λc C=>S.gd.fl _ c C) (bh rfl _ _ _) (lS S h3).1 rfl
    |_=>exact cy h
   .cases h
  .cases h
 |_=>exact cy h
def uw(_:Tb)(r:Tr)(s:Sc)(e:Expr):Option (Mi Rr):=af (oZ e) λ(f,_,a,_)=>cV (f==("list" : Str)&&mX s f&&!s.hd) (kI
 (af (oZ a) λ(g,_,b,_)=>cV (g==("range" : Str)&&mX s g) (af (r.E s b) λn=>some (iE n)))
 (af (HD a) λ(g,_,b,c,_)=>cV (g==("range" : Str)&&mX s g) (af (r.E s b) λn=>af (r.E s c) λq=>some (kW n q))))
theorem sD(R:cx tb k r)(S:Sit tb k X E s)(h:uw tb r s e=some q):JE X E e q:=by
 obtain⟨⟨f,p,a,cpos⟩,h1,Z⟩:=aa h;clear h;obtain⟨rfl,hs⟩:=dO h1;obtain⟨h2,O⟩:=ah Z;clear Z;simp only[Qq,Y3,Q7] at h2;obtain⟨⟨rfl,J⟩,u⟩:=h2;rcases a6 O with w|w
 .clear O;obtain⟨⟨L,i,b,B⟩,h3,T⟩:=aa w;clear w;obtain⟨rfl,P⟩:=dO h3;obtain⟨h4,Q⟩:=ah T;clear T;simp only[Qq,Y3] at h4;obtain⟨n,e2,K⟩:=aa Q;cases K;obtain⟨rfl,H⟩:=h4;exact zL (S.cm u) (S.glob J).1 (bE S Z3) kR (S.glob H).1 (bE S Z3) (R.E S e2) (ao P _ _)
 .clear O;obtain⟨⟨L,i,b,c,B⟩,h3,T⟩:=aa w;clear w;obtain⟨rfl,P,C⟩:=xq h3;obtain⟨h4,Q⟩:=ah T;clear T;simp only[Qq,Y3] at h4;obtain⟨n,e2,K⟩:=aa Q;obtain⟨m,N,v⟩:=aa K;cases v;obtain⟨rfl,H⟩:=h4;exact BS (S.cm u) (S.glob J).1 (bE S Z3) kR (S.glob H).1 (bE S Z3) (R.E S e2) (R.E S N) (ao P _ _) (ao C _ _) (dB (by simp only[QV,C];rfl))
def Hh(e:Expr):Option (Str×Pos×Expr×Expr×Expr×Pos):=match e with
 | .Call f args kw cpos=>match f with
  | .Name x p=>match args with
   |[a,b,d]=>cV (kw.isEmpty&&notStar a&&notStar b&&notStar d) (some (x,p,a,b,d,cpos))
   |_=>none
  |_=>none
 |_=>none
theorem wZ{a b d:Expr}{x:Str}(h:Hh e=some (x,p,a,b,d,cpos)):e=.Call (.Name x p) [a,b,d] [] cpos/\notStar a=true/\notStar b=true/\notStar d=true:=by
 unfold Hh at h;split at h
 .rename_i f args F c;split at h
  .split at h
   .obtain⟨s,h⟩:=ah h;rw[Qq,Qq,Qq,RM] at s;cases h;obtain⟨⟨⟨rfl,h1⟩,h2⟩,h3⟩:=s;exact⟨rfl,h1,h2,h3⟩
   .cases h
  .cases h
 .cases h
def vk(_:Tb)(r:Tr)(s:Sc)(_ e:Expr):Option (Mi (List A)):=af (Hh e) λ(f,_,a,b,d,_)=>cV (f==("range" : Str)&&mX s f) (af (r.E s a) λm=>af (r.E s b) λn=>af (r.E s d) λo=>some (rX m n o))
theorem tu(R:cx tb k r)(S:Sit tb k X E s){q:Mi (List A)}(h:vk tb r s tg e=some q):JI X E tg e q:=by obtain⟨⟨f,p,a,b,d,cpos⟩,h1,g⟩:=aa h;clear h;obtain⟨rfl,hs,P,C⟩:=wZ h1;obtain⟨h2,V⟩:=ah g;clear g;simp only[Qq,Y3] at h2;obtain⟨m,e1,l⟩:=aa V;obtain⟨n,e2,J⟩:=aa l;obtain⟨o,N,T⟩:=aa J;cases T;obtain⟨rfl,H⟩:=h2;exact B5 (S.glob H).1 (bE S Z3) (R.E S e1) (R.E S e2) (R.E S N) (ao hs _ _) (ao P _ _) (ao C _ _) (dB (by simp only[QV,P,QV,C];rfl))
noncomputable def Jj:Expr->Bool
 | .List _ _=>true
 |_=>false
noncomputable def Ag:Expr->Option (Expr×Expr×Pos)
 | .BinOp a .Mult b p=>some (a,b,p)
 |_=>none
theorem tx{a b:Expr}(h:Ag e=some (a,b,p)):e=.BinOp a .Mult b p:=by
 unfold Ag at h;split at h
 .cases h;rfl
 .cases h
def z9(_:Tb)(r:Tr)(s:Sc)(e:Expr):Option (Mi Rr):=af (Ag e) λ(a,b,_)=>cV (Jj a) (af (r.E s a) λm=>af (r.E s b) λn=>some (aB wd m n))
theorem xm(R:cx tb k r)(S:Sit tb k X E s)(h:z9 tb r s e=some q):JE X E e q:=by obtain⟨⟨a,b,p⟩,h1,g⟩:=aa h;clear h;obtain rfl:=tx h1;obtain⟨_,V⟩:=ah g;obtain⟨m,e1,l⟩:=aa V;obtain⟨n,e2,J⟩:=aa l;cases J;exact Jy (R.E S e1) (R.E S e2)
def rN(_:Tb)(r:Tr)(s:Sc)(e:Expr):Option (Mi Rr):=af (Es e) λ(o,m,apos,a,cpos)=>cV (m==("pop" : Str)&&apos.endLine==cpos.line) (af (sj o) λ(x,_)=>af (slot s x) λi=>af (r.E s a) λn=>some (jT i n))
theorem qF(R:cx tb k r)(S:Sit tb k X E s)(h:rN tb r s e=some q):JE X E e q:=by obtain⟨⟨o,m,apos,a,cpos⟩,h1,g⟩:=aa h;clear h;obtain⟨rfl,hs⟩:=nZ h1;obtain⟨h2,h⟩:=ah g;rw[Qq,Y3] at h2;obtain⟨⟨x,px⟩,h3,V⟩:=aa h;clear h;obtain rfl:=cu h3;obtain⟨i,e1,h⟩:=aa V;obtain⟨n,e2,h⟩:=aa h;obtain⟨a1,a2,a3,a4⟩:=S.slot e1;cases h;obtain⟨rfl,hl⟩:=h2;exact BM a1 a2 a3 a4 (R.E S e2) rfl (Jo hs _ _) hl (ao hs _ _) rfl
def AG(e:Expr):Option (Expr×Str×Pos×Expr×Expr×Pos):=match e with
 | .Call f args kw cpos=>match f with
  | .Attribute o m apos=>match args with
   |[a,b]=>cV (kw.isEmpty&&notStar a&&notStar b) (some (o,m,apos,a,b,cpos))
   |_=>none
  |_=>none
 |_=>none
theorem t4{a b:Expr}{m:Str}(h:AG e=some (o,m,apos,a,b,cpos)):e=.Call (.Attribute o m apos) [a,b] [] cpos/\notStar a=true/\notStar b=true:=by
 unfold AG at h;split at h
 .split at h
  .split at h
   .have h':=ah h;clear h;obtain⟨s,h⟩:=h';simp only[Qq,RM] at s;obtain⟨⟨rfl,h1⟩,h2⟩:=s;cases h;exact⟨rfl,h1,h2⟩
   .cases h
  .cases h
 .cases h
def BO(_:Tb)(r:Tr)(s:Sc)(e:Expr):Option (Mi Rr):=af (AG e) λ(o,m,apos,a,b,cpos)=>cV (m==("insert" : Str)&&apos.endLine==cpos.line) (af (sj o) λ(x,_)=>af (slot s x) λi=>af (r.E s a) λn=>af (r.E s b) λK=>some (hW i n K))
theorem vX(R:cx tb k r)(S:Sit tb k X E s)(h:BO tb r s e=some q):JE X E e q:=by obtain⟨⟨o,m,apos,a,b,cpos⟩,h1,g⟩:=aa h;clear h;obtain⟨rfl,hs,hs'⟩:=t4 h1;obtain⟨h2,h⟩:=ah g;rw[Qq,Y3] at h2;obtain⟨⟨x,px⟩,h3,V⟩:=aa h;clear h;obtain rfl:=cu h3;obtain⟨i,e1,h⟩:=aa V;obtain⟨n,e2,h⟩:=aa h;obtain⟨K,N,h⟩:=aa h;obtain⟨a1,a2,a3,a4⟩:=S.slot e1;cases h;obtain⟨rfl,hl⟩:=h2;exact wj a1 a2 a3 a4 (R.E S e2) (R.E S N) rfl (NS hs hs' _ _) hl (ao hs _ _) (ao hs' _ _) (by rw[ao hs'];rfl)
def xP(tb:Tb)(r:Tr)(s:Sc)(e:Expr):Option (Mi Rr):=kI (Ah tb r s e) (kI (z9 tb r s e) (none))
theorem My(R:cx tb k r)(S:Sit tb k X E s){m:Mi Rr}(h:xP tb r s e=some m):JE X E e m:=by
 rcases a6 h with h|h
 .exact xi R S h
 rcases a6 h with h|h
 .exact xm R S h
 cases h
def xE(tb:Tb)(r:Tr)(s:Sc)(e:Expr):Option (Mi Rr):=kI (BR tb r s e) (kI (vE tb r s e) (kI (uA tb r s e) (kI (vg tb r s e) (kI (uw tb r s e) (kI (rN tb r s e) (kI (BO tb r s e) (none)))))))
theorem KC(R:cx tb k r)(S:Sit tb k X E s){m:Mi Rr}(h:xE tb r s e=some m):JE X E e m:=by
 rcases a6 h with h|h
 .exact wx R S h
 rcases a6 h with h|h
 .exact tV R S h
 rcases a6 h with h|h
 .exact sA R S h
 rcases a6 h with h|h
 .exact tf R S h
 rcases a6 h with h|h
 .exact sD R S h
 rcases a6 h with h|h
 .exact qF R S h
 rcases a6 h with h|h
 .exact vX R S h
 cases h
def xT(tb:Tb)(r:Tr)(s:Sc)(e:Expr):Option (Mi Bool):=kI (Ad tb r s e) (none)
theorem Ma(R:cx tb k r)(S:Sit tb k X E s){m:Mi Bool}(h:xT tb r s e=some m):JT X E e m:=by
 rcases a6 h with h|h
 .exact wG R S h
 cases h
def xI(tb:Tb)(r:Tr)(s:Sc)(tg e:Expr):Option (Mi (List A)):=kI (u4 tb r s tg e) (kI (vk tb r s tg e) (none))
theorem KN(R:cx tb k r)(S:Sit tb k X E s){m:Mi (List A)}(h:xI tb r s tg e=some m):JI X E tg e m:=by
 rcases a6 h with h|h
 .exact sL R S h
 rcases a6 h with h|h
 .exact tu R S h
 cases h
end
variable{mn:Str}
section
variable{tb:Tb}{k:Nat}{X:Cx}{E:XK}{s:Sc}
def KZ(r:Tr)(s:Sc)(o:Expr)(m:Str)(e:Expr):Option (Mi Rr):=
 if m==("append" : Str) then (match o with
  | .Name x _=>af (slot s x) λi=>af (r.E s e) λn=>some (jK i (g9 i n))
  | _=>none)
 else none
noncomputable def MG:Expr->Bool
 | .Name x _=>x==("self" : Str)
 |_=>false
def zV(r:Tr)(s:Sc)(fi:FI)(o:Expr):Option (Mi Rr):=match MG o || fi.mu.headD true with
 |true=>r.E s o
 |false=>KR r s o
def HI(s:Sc)(o:Expr):Option (Str×Pos×Nat):=match o with
 | .Name x p=>cV (s.lv.contains ("*nob" : Str)) (af (slot s x) λi=>some (x,p,i))
 |_=>none
theorem nO{s:Sc}{x:Str}(h:HI s o=some (x,p,i)):o=.Name x p/\slot s x=some i:=by
 cases o<;>first|(exact cy h)|skip
 obtain⟨_,h⟩:=ah h;obtain⟨j,e,h⟩:=aa h;cases h;exact⟨rfl,e⟩
def tL(tb:Tb)(r:Tr)(s:Sc)(o:Expr)(m:Str)(args:List Expr)(c:Str)(fi:FI):Option (Mi Rr):=cV (!s.hd&&R8 args.length 20) (af (zV r s fi o) λmo=>af (zy tb r s fi args) λma=>(match HI s o with
 |some (_,_,i)=>some (aQ (a7 (eE (fC s 1 args (fi.mu.drop 1)) fi.m) (mS fi (args.length+1)) (c9 (aS c m i) ma)) (aQ (a7 (bF 0 (eE (fC s 1 args (fi.mu.drop 1)) fi.m)) (mS fi (args.length+1)) (c9 (aS c m i) ma)) (a7 (eE (fC s 1 args (fi.mu.drop 1)) fi.m) (mS fi (args.length+1)) (c9 (bM c m mo) ma))))
 | none=>some (a7 (eE (fC s 1 args (fi.mu.drop 1)) fi.m) (mS fi (args.length+1)) (c9 (bM c m mo) ma))))
def yq(tb:Tb)(r:Tr)(s:Sc)(o:Expr)(m:Str)(args:List Expr):List (Str×FI)->Option (Mi Rr)
 |[]=>none
 |[p]=>tL tb r s o m args p.1 p.2
 |p::q::ps=>af (tL tb r s o m args p.1 p.2) λa=>af (yq tb r s o m args (q::ps)) λb=>some (aQ a b)
theorem o9(h:args.all notStar=true)(hl:args.length<=20)(pos:Pos)(env:Env):XY (args.length+([]:List XB).length) (Xw pos (Xo args env)) (XD pos (Xy [] env))=true:=by
 have:∀{es:List Expr},es.all notStar=true->(Xw pos (Xo es env)).all (λx=>!x.1)=true:=by
  intro es;induction es with
  |nil=>intro _;rfl
  |cons e es m=>intro h;simp only[QV,Qq] at h;rw[ao h.1];show (true&&(Xw pos (Xo es env)).all (λx=>!x.1))=true;rw[m h.2];rfl
 unfold XY;simp only[this h];show (true&&(true&&decide (args.length+0+0<30)))=true;rw[show decide (args.length+0+0<30)=true from Y1 (by exact O8)];rfl
theorem n8(R:cx tb k r)(S:Sit tb k X E s){m:Mi Rr}{c:Str}{fi:FI}(hl:(apos.endLine==cpos.line)=true)(d:nI o=true)(hc:(mn,c,fi)∈tb.mts)(h:tL tb r s o mn args c fi=some m):JE X E (.Call (.Attribute o mn apos) args [] cpos) m:=by
 obtain⟨b,h⟩:=ah h;rw[Qq,Q7] at b;obtain⟨mo,e1,h⟩:=aa h;obtain⟨ma,e2,h⟩:=aa h;obtain⟨h1,e2⟩:=ah e2;rw[Y3] at h1;obtain⟨O,I,p⟩:=kP (λ_ _=>R.E S) (λ_ _=>oC R S) e2;obtain⟨C,U,fd,ps,F,hm,T,l,z⟩:=S.gd.mt _ _ _ hc;obtain⟨ds,dvs,H,t,e⟩:=z.of (args.length+1);have ho:JE X E o mo:=by
  unfold zV at e1;split at e1
  .exact R.E S e1
  .exact oC R S e1
 have len:=RB b.2;have old:JE X E (.Call (.Attribute o mn apos) args [] cpos) (a7 (eE (fC s 1 args (fi.mu.drop 1)) fi.m) (mS fi (args.length+1)) (c9 (bM c mn mo) ma)):=by
  cases args with
  |nil=>cases e2;exact yb hm T l F (S.rm b.1) H t e (S.ps b.1) ho (by simpa using h1) (bh d _ _ _) hl
  |cons a as=>have v:=p;rw[QV,Qq] at v;exact Dy hm T l (F.imp λ_ _ _ _ q=>iQ.eE q) (S.rm b.1) H t e (S.ps b.1) ho O (λZ rs B q=>by rw[I Z rs B q];exact h1) (bh d _ _ _) (o9 p len _ _) hl (ao v.1 _ _) (dB v.2)
 split at h
 .rename_i x px i en;cases h;obtain⟨rfl,sl⟩:=nO en;obtain⟨a1,a2,a3,a4⟩:=S.slot sl;refine oX ?_ (oX ?_ old)
  .cases args with
   |nil=>cases e2;exact nQ hm T l F (S.rm b.1) H t e (S.ps b.1) a1 a2 a3 a4 (by simpa using h1) (bh d _ _ _) hl
   |cons a as=>have v:=p;rw[QV,Qq] at v;exact rW hm T l (F.imp λ_ _ _ _ q=>iQ.eE q) (S.rm b.1) H t e (S.ps b.1) a1 a2 a3 a4 O (λZ rs B q=>by rw[I Z rs B q];exact h1) (bh d _ _ _) (o9 p len _ _) hl (ao v.1 _ _) (dB v.2)
  .cases args with
   |nil=>cases e2;exact nQ hm T l (F.imp λ_ _ _ _ q=>iQ.zB q) (S.rm b.1) H t e (S.ps b.1) a1 a2 a3 a4 (by simpa using h1) (bh d _ _ _) hl
   |cons a as=>have v:=p;rw[QV,Qq] at v;exact rW hm T l (F.imp λ_ _ _ _ q=>iQ.eE (iQ.zB q)) (S.rm b.1) H t e (S.ps b.1) a1 a2 a3 a4 O (λZ rs B q=>by rw[I Z rs B q];exact h1) (bh d _ _ _) (o9 p len _ _) hl (ao v.1 _ _) (dB v.2)
 .cases h;exact old
theorem rh{r:Tr}(R:cx tb k r)(S:Sit tb k X E s){o:Expr}{mn:Str}{args:List Expr}{apos cpos:Pos}(hl:(apos.endLine==cpos.line)=true)(d:nI o=true):∀{cs:List (Str×FI)}{m:Mi Rr},(∀p∈cs,(mn,p.1,p.2)∈tb.mts)->yq tb r s o mn args cs=some m->JE X E (.Call (.Attribute o mn apos) args [] cpos) m
 |[],m,_,h=>by cases h
 |[p],m,hc,h=>n8 R S hl d (hc p QH) h
 |p::q::ps,m,hc,h=>by obtain⟨a,e1,h⟩:=aa h;obtain⟨b,e2,h⟩:=aa h;cases h;exact oX (n8 R S hl d (hc p QH) e1) (rh R S hl d (λx hx=>hc x (Qz _ hx)) e2)
def yC(tb:Tb)(r:Tr)(s:Sc)(o:Expr)(m:Str)(apos:Pos)(args:List Expr)(cpos:Pos):Option (Mi Rr):=cV (apos.endLine==cpos.line&&nI o) (match EN tb m with
 |p::ps=>yq tb r s o m args (p::ps)
 |[]=>match args with
 |[e]=>cV (notStar e) (KZ r s o m e)
 | _=>none)
theorem xo(R:cx tb k r)(S:Sit tb k X E s){m:Mi Rr}(h:yC tb r s o mn apos args cpos=some m):JE X E (.Call (.Attribute o mn apos) args [] cpos) m:=by
 have h':=ah h;clear h;obtain⟨q,h⟩:=h';simp only[Qq] at q;split at h
 .rename_i p ps e;refine rh R S q.1 q.2 (λx hx=>?_) h;rw[<-e] at hx;unfold EN at hx;obtain⟨⟨a,b⟩,h1,h2⟩:=Uw.mp hx;simp only at h2;split at h2
  .rename_i z;cases h2;rw[Y3] at z;subst z;exact h1
  .cases h2
 split at h
 .have h':=ah h;clear h;obtain⟨hs,h⟩:=h';unfold KZ at h;split at h
  .rename_i z;rw[Y3] at z;split at h
   .obtain⟨i,e1,h⟩:=aa h;obtain⟨n,e2,h⟩:=aa h;obtain⟨a1,a2,a3,a4⟩:=S.slot e1;cases h;subst z;exact xb a1 a2 a3 a4 (R.E S e2) rfl (Jo hs _ _) q.1 (ao hs _ _) rfl
   .cases h
  .cases h
 .cases h
def stK:Const->Option (Mi Rr)
 | .none=>some (mC .non)
 | .bool b=>some (mC (.bl b))
 | .int i=>some (mC (.int i))
 | .str x=>some (mC (.str x))
 |_=>none
def Lu(m n:Mi Rr):YT->Option (Mi Rr)
 | .Add=>some (aB aJ m n)
 | .Sub=>some (aB jW m n)
 | .Mult=>some (aB aZ m n)
 | .FloorDiv=>some (aB kB m n)
 | .Mod=>some (aB mW m n)
 | .Pow=>some (aB kF m n)
 |_=>none
theorem Co{a b:Expr}{m n:Mi Rr}{op:YT}(h:Lu m n op=some q)(f:JE X E a m)(d:JE X E b n):JE X E (.BinOp a op b pos) q:=by
 cases op<;>first|(exact cy h)|skip
 .cases h;exact EA f d
 .cases h;exact Jg f d
 .cases h;exact Eh f d
 .cases h;exact HC f d
 .cases h;exact GN f d
 .cases h;exact Ia f d
def u7(r:Tr)(s:Sc)(a:Expr)(ops:List X6)(bs:List Expr):Option (Mi Rr):=match ops,bs with
 |[op],[b]=>af (r.E s a) λm=>af (r.E s b) λn=>PB s op a b m n
 |_,_=>none
theorem rB(R:cx tb k r)(S:Sit tb k X E s){a:Expr}{ops:List X6}{bs:List Expr}{m:Mi Rr}(h:u7 r s a ops bs=some m):JE X E (.Compare a ops bs pos) m/\JT X E (.Compare a ops bs pos) (ay m):=by
 unfold u7 at h;split at h
 .obtain⟨Y,e1,h⟩:=aa h;obtain⟨L,e2,h⟩:=aa h;exact GW S h (R.E S e1) (R.E S e2)
 .cases h
def JM(tb:Tb)(r:Tr)(s:Sc)(f:Expr)(args:List Expr)(F:List XB)(cpos:Pos):Option (Mi Rr):=match F with
 |[]=>match f with
  | .Name f _=>yg tb r s f args
  | .Attribute o m apos=>yC tb r s o m apos args cpos
  |_=>none
 |_::_=>none
theorem B2(R:cx tb k r)(S:Sit tb k X E s){f:Expr}{F:List XB}{m:Mi Rr}(h:JM tb r s f args F pos=some m):JE X E (.Call f args F pos) m:=by
 unfold JM at h;split at h
 .split at h
  .exact v5 R S h
  .exact xo R S h
  .cases h
 .cases h
def Pn(tb:Tb)(r:Tr)(s:Sc):Expr->Option (Mi Rr)
 | .Name x _=>match slot s x with
  |some i=>some (ab i)
  |none=>af (tb.cst.lookup x) λa=>cV (mX s x) (some (mC a))
 | .Constant c _ _=>stK c
 | .BinOp a op b _=>af (r.E s a) λm=>af (r.E s b) λn=>Lu m n op
 | .UnaryOp op a _=>match op with
  | .USub=>af (r.E s a) λm=>some (aK aY m)
  | .Not=>af (r.E s a) λm=>some (Fx m)
  |_=>none
 | .BoolOp op vs _=>OG op (r.E s) vs
 | .Compare a ops bs _=>u7 r s a ops bs
 | .IfExp t a b _=>af (r.T s t) λmt=>af (r.E s a) λm=>af (r.E s b) λn=>some (MD mt m n)
 | .Tuple es _ _=>af (yu (r.E s) es) λm=>some (gF m)
 | .List es _=>af (yu (r.E s) es) λm=>some (d6 m)
 | .Subscript a b _=>Bu r s a b
 | .Call f args kw cpos=>JM tb r s f args kw cpos
 | .Attribute o f _=>cV (nI o) (af (r.E s o) λm=>match HI s o with
  |some (_,_,i)=>some (aQ (aN (eW tb f) i f) (aK (aq (eW tb f) f) m))
  | none=>some (aK (aq (eW tb f) f) m))
 | .ListComp elt gs sc _=>pz r s elt gs sc
 |_=>none
theorem IB(R:cx tb k r)(S:Sit tb k X E s){m:Mi Rr}(h:Pn tb r s e=some m):JE X E e m:=by
 cases e with
 |Name x _=>
  have h:(match slot s x with
   |some i=>some (ab i)
   | none=>af (tb.cst.lookup x) λa=>cV (mX s x) (some (mC a)))=some m:=h
  split at h
  .rename_i e1;cases h;obtain⟨a1,a2,a3,a4⟩:=S.slot e1;exact J3 a1 a2 a3 a4
  .obtain⟨a,e1,h⟩:=aa h;obtain⟨J,h⟩:=ah h;cases h;obtain⟨v,u,h1,h2,h3⟩:=S.gd.cs _ _ e1;exact Dq (S.glob J).1 h1 h2 h3 (S.glob J).2
 |Constant c _ _=>
  cases c<;>first|(exact cy h)|skip
  .cases h;exact Jz
  .cases h;exact Kv
  .cases h;exact IT
  .cases h;exact J1
 |BinOp a op b _=>obtain⟨Y,e1,h⟩:=aa h;obtain⟨L,e2,h⟩:=aa h;exact Co h (R.E S e1) (R.E S e2)
 |UnaryOp op a _=>
  cases op<;>first|(exact cy h)|skip
  .obtain⟨Y,e1,h⟩:=aa h;cases h;exact Hc (R.E S e1)
  .obtain⟨Y,e1,h⟩:=aa h;cases h;exact IK (R.E S e1)
 |BoolOp op vs _=>exact Bl (λ_ _=>R.E S) h
 |Compare a ops bs _=>exact(rB R S h).1
 |IfExp t a b _=>obtain⟨mt,e1,h⟩:=aa h;obtain⟨Y,e2,h⟩:=aa h;obtain⟨L,F,h⟩:=aa h;cases h;exact M8 (R.T S e1) (R.E S e2) (R.E S F)
 |Tuple es _ _=>obtain⟨Y,e1,h⟩:=aa h;cases h;exact Gz (kL (λ_ _=>R.E S) e1).1
 |List es _=>obtain⟨Y,e1,h⟩:=aa h;cases h;exact Gm (kL (λ_ _=>R.E S) e1).1
 |Dict w vs _=>cases h
 |Subscript a b _=>exact zF R S h
 |Call f args U cpos=>exact B2 R S h
 |Attribute o f _=>
  obtain⟨d,h⟩:=ah h;obtain⟨Y,e1,h⟩:=aa h;split at h
  .rename_i x px i en;cases h;obtain⟨rfl,sl⟩:=nO en;obtain⟨a1,a2,a3,a4⟩:=S.slot sl;exact oX (BA a1 a2 a3 a4 (λc C=>S.gd.fl _ c C) (bh d _ _ _)) (uX (λc C=>S.gd.fl _ c C) (R.E S e1) (bh d _ _ _))
  .cases h;exact uX (λc C=>S.gd.fl _ c C) (R.E S e1) (bh d _ _ _)
 |ListComp elt gs sc _=>obtain⟨z,N,own,tg,iter,ifs,Q,G,mt,n,rfl,rfl,p,q,B,Z,O,H⟩:=nY R S h;exact DD (S.cm z) p rfl q B Z O H
 |JoinedStr es _=>cases h
 |_=>exact cy h
def Lx(r:Tr)(s:Sc):Expr->Option (Mi Bool)
 | .Compare a ops bs _=>af (u7 r s a ops bs) λq=>some (ay q)
 | .UnaryOp .Not a _=>af (r.T s a) λm=>some (KO m)
 | .BoolOp op vs _=>OT op (r.T s) vs
 |e=>cV (plainT e) (af (r.E s e) λm=>some (ay m))
theorem zw(R:cx tb k r)(S:Sit tb k X E s){m:Mi Bool}(h:cV (plainT e) (af (r.E s e) λm=>some (ay m))=some m):JT X E e m:=by obtain⟨q,h⟩:=ah h;obtain⟨Y,e1,h⟩:=aa h;cases h;exact F8 (R.E S e1) (tQ q _)
theorem Ew(R:cx tb k r)(S:Sit tb k X E s){m:Mi Bool}(h:Lx r s e=some m):JT X E e m:=by
 cases e with
 |Compare a ops bs _=>obtain⟨q,e1,h⟩:=aa h;cases h;exact(rB R S e1).2
 |UnaryOp op a _=>cases op with
  |Not=>obtain⟨Y,e1,h⟩:=aa h;cases h;exact IC (R.T S e1)
  |_=>exact zw R S h
 |BoolOp op vs _=>exact MH (AJ (λ_ _=>R.T S) h)
 |_=>exact zw R S h
def tr(tb:Tb):Nat->Tr
 |0=>⟨λ_ _=>none,λ_ _=>none,λ_ _ _=>none⟩
 |n+1=>⟨λs e=>kI (xP tb (tr tb n) s e) (kI (Pn tb (tr tb n) s e) (xE tb (tr tb n) s e)),λs e=>kI (xT tb (tr tb n) s e) (Lx (tr tb n) s e),xI tb (tr tb n)⟩
theorem jz:∀n,cx tb k (tr tb n)
 |0=>⟨λ_ h=>(by cases h),λ_ h=>(by cases h),λ_ h=>(by cases h)⟩
 | n+1=>⟨λS h=>by
   rcases a6 h with h|h
   .exact My (jz n) S h
   rcases a6 h with h|h
   .exact IB (jz n) S h
   .exact KC (jz n) S h,λS h=>by
   rcases a6 h with h|h
   .exact Ma (jz n) S h
   .exact Ew (jz n) S h,λS h=>KN (jz n) S h⟩
end
structure iV(tb:Tb)(k:Nat)(X:Cx)(E:XK)(s:Sc):Prop extends Sit tb k X E s where
 po:s.hd=false->Yj (Xv X.prog X.w) X.A X.env X.xe
 st:s.hd=false->X.stack=X.env::X.outer/\X.env.frame=some X.env.locals/\X.ex=[]
 bk:X.env.blockKind=.function
noncomputable def Nv:Expr->Bool
 | .Starred ..=>true
 |_=>false
def Of(x y:Str)(px h:Pos)(a b:Expr):Bool:=x != y&&px.line==h.line&&notStar a&&notStar b&&!([a,b].all (foldedForSure 8))&&!([a,b].all (constantsAlone 8))
variable{py:Pos}{kt:Nat}
theorem KA{x y:Str}{pt X:Pos}{D:Nat}{a b:Expr}(h:Of x y px py a b=true)(hx:env.kindOf x=some .local)(hy:env.kindOf y=some .local)(d:env.blockKind=.function):
  XO [.Tuple [.Name x px,.Name y py] kt pt] (.Tuple [a,b] D X) env=pure (some [x,y]):=by
 unfold Of at h;simp only[Qq,bne_iff_ne,ne_eq,Y3,Q7] at h;obtain⟨⟨⟨⟨⟨h1,h2⟩,h3⟩,h4⟩,h5⟩,t⟩:=h;have s1:(([a,b]:List Expr).any fun | .Starred ..=>true|_=>false)=false:=by
  rw[Tx];intro e he;have hn:notStar e=true:=by
   rcases QC.mp he with z|z
   .rw[z];exact h3
   .rw[QR.mp z];exact h4
  cases e<;>first|(exact yI hn)|exact Rk
 have E:(y==x)=false:=beq_eq_false_iff_ne.mpr λz=>h1 z.symm;have c:(x==y)=false:=beq_eq_false_iff_ne.mpr h1;unfold XO;have pn:∀(n:Str)(p:Pos),(Expr.Name n p).pos=p:=λ_ _=>rfl;simp[d,s1,hx,hy,pn,<-h2,h5,t,List.eraseDups_cons,E,c];intro z;exfalso;rcases z with z|z
 .cases a<;>first|(cases h3;done)|cases z
 .cases b<;>first|(cases h4;done)|cases z
noncomputable def um:Expr->Bool
 | .Tuple _ _ _=>false
 |_=>true
theorem kY(h:um e=true):XO [tg] e env=pure none:=by cases tg<;>first|rfl|(cases e<;>first|rfl|cases h)
theorem fV{i:Expr}:XO [.Subscript o i p] e env=pure none:=by cases e<;>rfl
theorem wC{i:Expr}{l:Nat}:XH e (some (.Subscript o i p)) l env=pure false:=by cases e<;>rfl
theorem sN{sc:Scope}{x:Str}{l:Nat}(h:env.kindOf x=some .cell):XH (.ListComp elt gs sc pos) (some (.Name x px)) l env=pure false:=by unfold XH;show (pure (env.blockKind==.function&&env.kindOf x==some .local&&px.line==pos.line&&!(sc.names.any λp=>p.1==x&&(p.2==.local || p.2==.cell))):Sem Bool)=pure false;simp only[h,show (some (NameKind.cell)==some (NameKind.local))=false from rfl,Uj,U2,U2]
theorem rS{t:Expr}(h:jG e=true)(l:Nat)(env:Env):XZ [t] e l env=pure false:=j4 h (some t) l env
theorem jq{i:Expr}{l:Nat}:XZ [.Subscript o i p] e l env=pure false:=wC (e:=e) (o:=o) (i:=i) (p:=p) (l:=l) (env:=env)
theorem kS{i:Expr}(h:ji i=true)(v:Value):assign (.Subscript o i p) env v=(do
   let ov <- holding [v] (eval o env)
   let iv <- holding [v,ov] (eval i env)
   Yb p
   holding [v,ov,iv] (setItem ov iv v)
   release [v,ov,iv] []):=by cases i<;>first|rfl|cases h
variable{ts:List Expr}
section
variable{tb:Tb}{k:Nat}{X:Cx}{E:XK}{s:Sc}
def yc(r:Tr)(s:Sc)(x:Str)(px:Pos)(e:Expr):Option Ms:=af (iq s x) λi=>match e with
 | .ListComp elt gs sc pos=>match qg s x .local with
  |true=>cV (px.line==pos.line&&!(sc.names.any λp=>p.1==x&&(p.2==.local || p.2==.cell))) (af (pz r s elt gs sc) λm=>some (aG i m))
  |false=>af (r.E s e) λm=>some (aG i m)
 |e=>cV (jG e) (af (r.E s e) λm=>some (aG i m))
theorem xp(R:cx tb k r)(S:iV tb k X E s){x:Str}{m:Ms}(h:yc r s x px e=some m):JS X E (.Assign [.Name x px] e pos) m:=by
 obtain⟨i,e1,h⟩:=aa h;obtain⟨a1,a2,a3,a4⟩:=S.iq e1;have hN:X.N.Nodup:=by rw[S.n];exact S.nd
 split at h
 .split at h
  .rename_i z;obtain⟨q,h⟩:=ah h;simp only[Qq,Q7] at q;obtain⟨Y,e2,h⟩:=aa h;have hl:X.env.scope.names.lookup x=some .local:=S.lc x (by unfold qg at z;simpa using z);obtain⟨u,N,own,tg,iter,ifs,Q,G,mt,b,rfl,rfl,p,a,B,Z,O,H⟩:=nY R S.toSit e2;cases h;exact CB (S.cm u) p rfl hN a1 hl (sQ S.bk hl q.1 q.2) a B Z O H
  .rename_i z;obtain⟨Y,e2,h⟩:=aa h;cases h;refine Aa hN a1 a2 (R.E S.toSit e2) (sN ?_) a4;obtain⟨g,_⟩:=ah e1;simp only[Qq,sW,R5] at g;rcases g.1 with y|y
   .rw[y] at z;cases z
   .exact(S.ce x).1 (by unfold qg at y;simpa using y)
 .obtain⟨q,h⟩:=ah h;obtain⟨Y,e2,h⟩:=aa h;cases h;exact Aa hN a1 a2 (R.E S.toSit e2) (j4 q _ _ _) a4
noncomputable def IE(e:Expr):Option (Expr×Expr):=match e with
 | .Tuple es _ _=>match es with
  |[a,b]=>some (a,b)
  |_=>none
 |_=>none
theorem wH{a b:Expr}(h:IE e=some (a,b)):∃c p,e=.Tuple [a,b] c p:=by
 cases e with
 |Tuple es c p=>match es,h with
  |[a,b],h=>cases h;exact⟨c,p,rfl⟩
 |_=>exact cy h
def Io(ts:List Expr):Option ((Str×Pos)×Str×Pos):=match ts with
 |[a,b]=>af (sj a) λp=>af (sj b) λq=>some (p,q)
 |_=>none
theorem wQ{x y:Str}(h:Io ts=some ((x,px),y,py)):ts=[.Name x px,.Name y py]:=by
 match ts,h with
 |[a,b],h=>obtain⟨p,h1,h⟩:=aa h;obtain⟨q,h2,h⟩:=aa h;cases h;rw[cu h1,cu h2]
def tS(r:Tr)(s:Sc)(ts:List Expr)(e:Expr):Option Ms:=cV (um e&&jG e) (af (r.E s e) λm=>af (Cs s 0 9 (.Tuple ts 0 default)) λg=>some (Mh m g))
def Br(r:Tr)(s:Sc)(ts:List Expr)(e:Expr):Option Ms:=match Io ts with
 | some ((x,px),y,py)=>(match IE e with
  |some (a,b)=>cV (!s.hd&&qg s x .local&&qg s y .local&&okN x&&okN y&&Of x y px py a b) (af (iq s x) λi=>af (iq s y) λj=>cV (i != j) (af (yu (r.E s) [a,b]) λm=>some (M4 i j m)))
  | none=>tS r s ts e)
 |none=>tS r s ts e
theorem JC{lo d:Nat}{n Q:Nat}{E:Pos}{g:Mg}(h:Cs s lo d (.Tuple ts n p)=some g):Cs s lo d (.Tuple ts Q E)=some g:=by
 cases d with
 |zero=>cases h
 |succ d=>exact h
theorem nW(R:cx tb k r)(S:iV tb k X E s){pt:Pos}{m:Ms}(h:tS r s ts e=some m):JS X E (.Assign [.Tuple ts kt pt] e pos) m:=by obtain⟨q,h⟩:=ah h;simp only[Qq] at q;obtain⟨Y,e1,h⟩:=aa h;obtain⟨g,e2,h⟩:=aa h;cases h;exact J2 (R.E S.toSit e1) (pD S.toSit (JC e2)) (rS q.2 _ _) (kY q.1) (hp:=λx y=>lF x y (rS q.2 _ _) (kY q.1))
theorem yH(R:cx tb k r)(S:iV tb k X E s){pt:Pos}{m:Ms}(h:Br r s ts e=some m):JS X E (.Assign [.Tuple ts kt pt] e pos) m:=by
 unfold Br at h;cases G:Io ts with
 |none=>rw[G] at h;exact nW R S h
 |some p=>
  obtain⟨⟨x,px⟩,y,py⟩:=p;rw[G] at h;dsimp only at h;cases B:IE e with
  |none=>rw[B] at h;exact nW R S h
  |some p=>
   obtain⟨a,b⟩:=p;simp only[B] at h;obtain⟨q,h⟩:=ah h;simp only[Qq,Q7] at q;obtain⟨⟨⟨⟨⟨h1,h2⟩,h3⟩,_⟩,_⟩,h4⟩:=q;obtain⟨i,e1,h⟩:=aa h;obtain⟨j,e2,h⟩:=aa h;obtain⟨F,h⟩:=ah h;obtain⟨ma,Q,h⟩:=aa h;cases h;obtain rfl:=wQ G;obtain⟨c,p,rfl⟩:=wH B;have hN:X.N.Nodup:=by rw[S.n];exact S.nd
   have Y:=S.lc x (show s.nm.lookup _=_ by unfold qg at h2;simpa using h2);have t:=S.lc y (show s.nm.lookup _=_ by unfold qg at h3;simpa using h3);have v:i≠j:=by simpa using F
   exact G4 (kL (λ_ _=>R.E S.toSit) Q).1 v (λy=>HV (S.cm h1) hN (S.iq e1).1 (S.iq e2).1 v Y t y (KA h4 Y t S.bk))
def Ko(r:Tr)(s:Sc)(x:Str)(y e:Expr):Option Ms:=af (slot s x) λi=>af (r.E s y) λmk=>af (r.E s e) λm=>cV (!s.hd&&ji y) (some (gf i mk m))
theorem Dh(R:cx tb k r)(S:iV tb k X E s){x:Str}{C:Pos}{d:Expr}{m:Ms}(h:Ko r s x d e=some m):JS X E (.Assign [.Subscript (.Name x px) d C] e pos) m:=by obtain⟨i,e1,h⟩:=aa h;obtain⟨mk,e2,h⟩:=aa h;obtain⟨Y,N,h⟩:=aa h;obtain⟨u,h⟩:=ah h;simp only[Qq,Q7] at u;obtain⟨a1,a2,a3,a4⟩:=S.slot e1;cases h;exact A5 a1 a2 a3 a4 (R.E S.toSit e2) (R.E S.toSit N) (λx y z=>lF z (ow x y set_list (kS u.2)) jq fV)
theorem m6{f:Str}{l:Nat}:XH e (some (.Attribute o f p)) l env=pure false:=by cases e<;>rfl
def FP(tb:Tb)(r:Tr)(s:Sc)(t e:Expr):Option Ms:=match t with
 | .Name x px=>yc r s x px e
 | .Tuple ts _ _=>Br r s ts e
 | .Subscript (.Name x _) ek _=>Ko r s x ek e
 |_=>none
theorem zd(R:cx tb k r)(S:iV tb k X E s){t:Expr}{m:Ms}(h:FP tb r s t e=some m):JS X E (.Assign [t] e pos) m:=by
 cases t with
 |Name x px=>exact xp R S h
 |Tuple ts _ _=>exact yH R S h
 |Subscript b y _=>cases b with
  |Name x _=>exact Dh R S h
  |_=>exact cy h
 |_=>exact cy h
end
section
variable{tb:Tb}{k:Nat}{X:Cx}{E:XK}{s:Sc}
def sy(F:Stmt->Option Ms):List Stmt->Option Ms
 |[]=>some bV
 |[a]=>F a
 |a::b::r=>af (F a) λm=>af (sy F (b::r)) λn=>some (av m n)
theorem hV{F:Stmt->Option Ms}(h:∀a m,F a=some m->JS X E a m):∀{l:List Stmt}{m:Ms},sy F l=some m->qy X E l m
 |[],m,e=>by cases e;exact uP
 |[a],m,e=>vB (h _ _ e)
 |a::b::r,m,e=>by obtain⟨Y,e1,e⟩:=aa e;obtain⟨L,e2,e⟩:=aa e;cases e;exact qN (h _ _ e1) (hV h e2)
noncomputable def vI(st:Stmt):Option (Expr×Expr×Pos):=match st with
 | .Assign ts e pos=>match ts with
  |[t]=>some (t,e,pos)
  |_=>none
 |_=>none
theorem iD{st:Stmt}{t:Expr}(h:vI st=some (t,e,pos)):st=.Assign [t] e pos:=by
 cases st with
 |Assign ts k p=>
  rcases ts with _|⟨t',_|_⟩
  .cases h
  .cases h;rfl
  .cases h
 |_=>exact cy h
noncomputable def Ba(e:Expr):Option (Expr×Str×Pos):=match e with
 | .Attribute o f p=>some (o,f,p)
 |_=>none
theorem mB{f:Str}(h:Ba e=some (o,f,p)):e=.Attribute o f p:=by
 cases e with
 |Attribute=>cases h;rfl
 |_=>exact cy h
def uV(tb:Tb)(r:Tr)(s:Sc)(_:Sc->Stmt->Option Ms)(st:Stmt):Option Ms:=af (vI st) λ(t,e,_)=>kI
 (af (Ba t) λ(o,f,_)=>af (sj o) λ(x,_)=>cV (s.lv.contains ("*nob" : Str)) (af (slot s x) λi=>af (r.E s e) λm=>match s.lv.contains f with
  |true=>some (iw (eW tb f) i f m)
  | false=>some (dI (eW tb f) i f m)))
 (af (nc t) λ(a,b,_)=>af (xH s a) λ(i,_,f,_,_)=>af (sj b) λ(y,_)=>af (slot s y) λj=>af (r.E s e) λm=>some (fA (eW tb f) i f j m))
theorem sI{F:Sc->Stmt->Option Ms}(R:cx tb k r)(S:iV tb k X E s)(H:∀B,Passes BV X B->∀a m,F (OC s) a=some m->JS X B a m){st:Stmt}{m:Ms}(h:uV tb r s F st=some m):JS X E st m:=by
 obtain⟨⟨t,e,pos⟩,h1,w⟩:=aa h;clear h;obtain rfl:=iD h1;rcases a6 w with z|z
 .clear w;obtain⟨⟨o,f,p⟩,h2,Q⟩:=aa z;clear z;obtain rfl:=mB h2;obtain⟨⟨x,px⟩,h3,K⟩:=aa Q;clear Q;obtain rfl:=cu h3;obtain⟨_,v⟩:=ah K;clear K;obtain⟨i,e1,Z⟩:=aa v;clear v;obtain⟨q,e2,G⟩:=aa Z;clear Z;obtain⟨a1,a2,a3,a4⟩:=S.slot e1;cases L:s.lv.contains f with
  |true=>rw[L] at G;cases G;exact Cp a1 a2 a3 a4 (λc C=>S.gd.fl _ c C) (R.E S.toSit e2) m6
  |false=>rw[L] at G;cases G;exact CA a1 a2 a3 a4 (λc C=>S.gd.fl _ c C) (R.E S.toSit e2) m6
 .clear w;obtain⟨⟨a,b,I⟩,h2,Q⟩:=aa z;clear z;obtain rfl:=eV h2;obtain⟨⟨i,x,f,px,T⟩,h3,K⟩:=aa Q;clear Q;obtain⟨rfl,a1,a2,a3,a4⟩:=fJ S.toSit h3;obtain⟨⟨y,py⟩,h4,v⟩:=aa K;clear K;obtain rfl:=cu h4;obtain⟨j,e1,Z⟩:=aa v;clear v;obtain⟨q,e2,G⟩:=aa Z;cases G;obtain⟨b1,b2,J,O⟩:=S.slot e1;exact xF a1 a2 a3 a4 b1 b2 J O (λc C=>S.gd.fl _ c C) (bh rfl _ _ _) (R.E S.toSit e2) (λx y z=>lF z (ow x y set_list (kS rfl)) jq fV)
def xS(tb:Tb)(r:Tr)(s:Sc)(F:Sc->Stmt->Option Ms)(st:Stmt):Option Ms:=kI (uV tb r s F st) (none)
theorem Mz{F:Sc->Stmt->Option Ms}(R:cx tb k r)(S:iV tb k X E s)(H:∀C,Passes BV X C->∀a m,F (OC s) a=some m->JS X C a m){st:Stmt}{m:Ms}(h:xS tb r s F st=some m):JS X E st m:=by
 rcases a6 h with h|h
 .exact sI R S H h
 cases h
end
variable{base:Heap}{dV:Value}
section
variable{tb:Tb}{k:Nat}{X:Cx}{E:XK}{s:Sc}
def F2(r:Tr)(s:Sc)(tg it:Expr)(b:Ms):Option Ms:=cV (jV it) (af (Od r s tg it) λm=>af (Cs s 0 9 tg) λG=>some (iO m G b))
theorem zC(R:cx tb k r)(S:iV tb k X E s)(u:s.hd=false){it:Expr}{body:List Stmt}{b m:Ms}(d:qy X E body b)(h:F2 r s tg it b=some m):JS X E (.For tg it body [] pos) m:=by obtain⟨q,h⟩:=ah h;obtain⟨Y,e1,h⟩:=aa h;obtain⟨G,e2,h⟩:=aa h;cases h;exact J7 (S.po u) (S.cm u) (By R S.toSit e1) (pD S.toSit e2) d (lV q _)
def zg(tb:Tb)(r:Tr)(s:Sc)(ts:List Expr)(e:Expr):Option Ms:=match ts with
 |[t]=>FP tb r s t e
 |_=>none
def OE(tb:Tb)(r:Tr)(s:Sc)(ex ca:Option Expr):Option Ms:=some rP
def PY(tb:Tb)(r:Tr)(s:Sc)(F:Sc->Stmt->Option Ms):Stmt->Option Ms
 | .Assign ts e _=>zg tb r s ts e
 | .Return none _=>some E6
 | .Return (some e) _=>af (r.E s e) λm=>some (bW m)
 | .If t a b _=>af (r.T s t) λmt=>af (sy (F s) a) λm=>af (sy (F s) b) λn=>some (ip mt m n)
 | .While t b els _=>cV (!s.hd&&els.isEmpty) (af (r.T s t) λmt=>af (sy (F s) b) λm=>some (iU BY mt m))
 | .For tg it b els _=>cV (!s.hd&&els.isEmpty) (af (sy (F s) b) λm=>F2 r s tg it m)
 | .Raise ex ca _=>OE tb r s ex ca
 | .Expr e _=>cV (jG e) (af (r.E s e) λm=>some (cH m))
 |_=>none
def GA(tb:Tb)(r:Tr):Nat->Sc->Stmt->Option Ms
 |0,_,_=>none
 |d+1,s,st=>kI (xS tb r s (GA tb r d) st) (PY tb r s (GA tb r d) st)
theorem iV.Ll{B:XK}(S:iV tb k X E s)(h1:Passes BV X B):iV tb k X B (OC s):=⟨⟨S.n,S.nd,S.gl,S.vs,S.lo,S.lc,S.ce,S.fx,S.cm,S.rm,λ_=>h1,S.gd⟩,S.po,S.st,S.bk⟩
theorem ox{r:Tr}(R:cx tb k r):∀{d:Nat}{X:Cx}{E:XK}{s:Sc}{st:Stmt}{m:Ms},iV tb k X E s->GA tb r d s st=some m->JS X E st m
 |0,X,E,s,st,m,S,h=>by cases h
 |d+1,X,E,s,st,m,S,h=>by
  have O:∀a m,GA tb r d s a=some m->JS X E a m:=λa m e=>ox R S e;unfold GA at h;have h':=a6 h;clear h;rcases h' with h|h
  .exact Mz R S (λB h1 a m e=>ox R (S.Ll h1) e) h
  cases st with
  |Assign ts e _=>
   have h:zg tb r s ts e=some m:=h;unfold zg at h;split at h
   .exact zd R S h
   .cases h
  |Return v _=>cases v with
   |none=>cases h;exact DY
   |some e=>obtain⟨Y,e1,h⟩:=aa h;cases h;exact Jr (R.E S.toSit e1)
  |If t a b _=>obtain⟨mt,e1,h⟩:=aa h;obtain⟨Y,e2,h⟩:=aa h;obtain⟨L,N,h⟩:=aa h;cases h;exact K9 (R.T S.toSit e1) (hV O e2) (hV O N)
  |While t b c _=>have h':=ah h;clear h;obtain⟨q,h⟩:=h';simp only[Qq,Q7,RM] at q;obtain⟨u,rfl⟩:=q;obtain⟨mt,e1,h⟩:=aa h;obtain⟨Y,e2,h⟩:=aa h;cases h;exact Bx (S.po u) (R.T S.toSit e1) (hV O e2)
  |For tg it b c _=>have h':=ah h;clear h;obtain⟨q,h⟩:=h';simp only[Qq,Q7,RM] at q;obtain⟨u,rfl⟩:=q;obtain⟨Y,e2,h⟩:=aa h;exact zC R S u (hV O e2) h
  |Raise ex ca _=>cases h;exact DN
  |Expr e _=>obtain⟨q,h⟩:=ah h;obtain⟨Y,e1,h⟩:=aa h;cases h;exact DS (R.E S.toSit e1) (j4 q _ _ _)
  |Pass _=>cases h
  |Break _=>cases h
  |Continue _=>cases h
  |_=>exact cy h
structure DI where
 cl:Option Str
 name:Str
 st:Stmt
 N:List Str
 n:Nat
 di:List Str
 mu:List Bool
 df:List A
 lv:List Str
 m:Ms
 ce:List Str:=[]
 tp:Bool:=false
 sp:Bool:=false
 bo:Option (Nat×Nat×Nat×List Nat):=none
def DI.sc(d:DI):Sc:={ N:=d.N,nm:=(bq d.st).names,di:=d.di,ca:=[],hd:=false,lv:=d.lv }
def gu(d:DI):Bool:=(bq d.st).kind==.function&&!(bq d.st).isCoroutine&&!(bq d.st).isGenerator&&decide d.N.Nodup&&R8 d.n d.N.length&&(d.N.take d.n).all (λx=>(bq d.st).names.lookup x==some .local || (bq d.st).names.lookup x==some .cell)&&(bq d.st).names.all (λy=>y.2 != .free)
variable{d:DI}
theorem ie(h:gu d=true):ja d.N (d.N.take d.n) (bq d.st)/\(d.N.take d.n).length=d.n:=by
 unfold gu at h;simp only[Qq,Y3,Q7,decide_eq_true_eq,RT,R5,bne_iff_ne,ne_eq] at h;obtain⟨⟨⟨⟨⟨⟨h1,h2⟩,h3⟩,h4⟩,h5⟩,t⟩,j⟩:=h;have hl:(d.N.take d.n).length=d.n:=by rw[Rt];have:=RB h5;lia
 exact⟨⟨h1,h2,h3,h4,by rw[hl],t,j⟩,hl⟩
def DI.M(d:DI):Ms:=cK (d.N.length-d.n) d.m
noncomputable def DI.fi(d:DI):FI:=⟨d.n,d.M,d.mu,d.df,!d.ce.isEmpty⟩
noncomputable def DI.qual(d:DI):Str:=match d.cl with
 |none=>d.name
 |some c=>c++(("." : Str)++d.name)
def Tb.add(tb:Tb)(d:DI):Tb:=match d.cl with
 |none=>{ tb with fns:=(d.name,d.fi)::tb.fns }
 |some c=>match d.name==("__init__" : Str) with
  |true=>{ tb with fB:=(c,d.fi)::tb.fB }
  |false=>{ tb with mts:=(d.name,c,d.fi)::tb.mts }
noncomputable def ql:Nat:=40
noncomputable def FA:Ms:=λ_=>none
theorem xX{l:List Stmt}:qy X E l FA:=⟨λpins s Y H D I h=>by obtain⟨c,Z,τ,O,f,B,y,b,em,q⟩:=h;cases em⟩
def u5(tb:Tb)(r:Tr)(s:Sc)(a b:Stmt):Option Ms:=af (vI a) λ(t,e,_)=>af (nc t) λ(F,C,_)=>af (sj F) λ(x,_)=>af (sj C) λ(y,_)=>
 af (vI b) λ(w,e2,_)=>af (nc w) λ(u,Q,_)=>af (nc u) λ(P,h,_)=>af (sj P) λ(v,_)=>af (sj h) λ(X,_)=>af (sj Q) λ(z,_)=>af (Ba e2) λ(V,f,_)=>af (sj V) λ(o,_)=>
 cV (s.lv.contains ("*nob" : Str)&&x==v&&y==X) (af (slot s x) λi=>af (slot s y) λj=>af (slot s z) λl=>af (slot s o) λq=>af (r.E s e) λm=>some (uG (eW tb f) i j l q f m))
theorem t6(R:cx tb k r)(S:iV tb k X E s){a b:Stmt}{m:Ms}(h:u5 tb r s a b=some m):∃ta Z,PS X a ta/\PS X b Z/\∀D Y H,JU (kx X) E m D Y H->A3 ta Z D Y H:=by
 obtain⟨⟨t,e,p1⟩,h1,T⟩:=aa h;clear h;obtain rfl:=iD h1;obtain⟨⟨x1,y1,p2⟩,h2,I⟩:=aa T;clear T;obtain rfl:=eV h2;obtain⟨⟨x,p3⟩,h3,N⟩:=aa I;clear I;obtain rfl:=cu h3;obtain⟨⟨y,p4⟩,h4,P⟩:=aa N;clear N;obtain rfl:=cu h4;obtain⟨⟨t2,e2,p5⟩,h5,F⟩:=aa P;clear P;obtain rfl:=iD h5;obtain⟨⟨u,z1,p6⟩,h6,A⟩:=aa F;clear F;obtain rfl:=eV h6;obtain⟨⟨x2,y2,p7⟩,h7,J⟩:=aa A;clear A;obtain rfl:=eV h7;obtain⟨⟨x',p8⟩,h8,g⟩:=aa J;clear J;obtain rfl:=cu h8;obtain⟨⟨y',p9⟩,h9,V⟩:=aa g;clear g;obtain rfl:=cu h9;obtain⟨⟨z,q1⟩,g1,v⟩:=aa V;clear V;obtain rfl:=cu g1;obtain⟨⟨o1,f,q2⟩,g2,O⟩:=aa v;clear v;obtain rfl:=mB g2;obtain⟨⟨o,q3⟩,g3,B⟩:=aa O;clear O;obtain rfl:=cu g3;obtain⟨d,U⟩:=ah B;clear B;simp only[Qq,Qq,Y3,Y3] at d;obtain⟨⟨_,rfl⟩,rfl⟩:=d;obtain⟨i,e3,w⟩:=aa U;clear U;obtain⟨j,e4,n⟩:=aa w;clear w;obtain⟨l,e5,K⟩:=aa n;clear n;obtain⟨q,e6,L⟩:=aa K;clear K;obtain⟨m1,e7,G⟩:=aa L;clear L;cases G;obtain⟨a1,a2,a3,a4⟩:=S.slot e3;obtain⟨b1,b2,b3,b4⟩:=S.slot e4;obtain⟨c1,c2,c3,c4⟩:=S.slot e5;obtain⟨d1,d2,d3,d4⟩:=S.slot e6;exact⟨_,_,lF (R.E S.toSit e7).p (ow (bH a1 a2 a3 a4) (bH b1 b2 b3 b4) set_list (kS rfl)) jq fV,
  lF (eZ (bH d1 d2 d3 d4) (bh rfl _ _ _)) (ow (zR pB (bH a1 a2 a3 a4) (bH b1 b2 b3 b4) (λ_ _=>rfl)) (bH c1 c2 c3 c4) set_list (kS rfl)) jq fV,
  wW (λc C=>S.gd.fl _ c C) λY H Q h=>h⟩
def De(P:Stmt->Stmt->Option Ms)(F:Stmt->Option Ms):List Stmt->Option Ms
 |[]=>some bV
 |[a]=>F a
 |a::b::r=>kI (af (P a b) λm=>af (De P F r) λn=>some (av m n)) (af (F a) λm=>af (De P F (b::r)) λn=>some (av m n))
theorem pf{P:Stmt->Stmt->Option Ms}{F:Stmt->Option Ms}(hp:∀a b m,P a b=some m->∃ta tb,PS X a ta/\PS X b tb/\∀D Y H,JU (kx X) E m D Y H->A3 ta tb D Y H)(h:∀a m,F a=some m->JS X E a m):∀{l:List Stmt}{m:Ms},De P F l=some m->qy X E l m
 |[],m,e=>by cases e;exact uP
 |[a],m,e=>vB (h _ _ e)
 |a::b::r,m,e=>by
  rcases a6 e with e|e
  .obtain⟨K,e1,e⟩:=aa e;obtain⟨L,e2,e⟩:=aa e;cases e;obtain⟨ta,tb,i,C,w⟩:=hp _ _ _ e1;exact AD i C w (pf hp h e2)
  .obtain⟨K,e1,e⟩:=aa e;obtain⟨L,e2,e⟩:=aa e;cases e;exact qN (h _ _ e1) (pf hp h e2)
def ub(tb:Tb)(d:DI):Option Ms:=match d.sp with
 |true=>some FA
 |false=>De (u5 tb (tr tb ql) d.sc) (GA tb (tr tb ql) ql d.sc) (fz d.st)
theorem Cc{m:Ms}(h:ub tb d=some m)(S:iV tb k X E d.sc):qy X E (fz d.st) m:=by
 unfold ub at h;split at h
 .cases h;exact xX
 .have ok:∀{l:List Stmt}{m:Ms},sy (GA tb (tr tb ql) ql d.sc) l=some m->qy X E l m:=λh=>hV (λa m e=>ox (jz ql) S e) h;exact pf (λa b m e=>t6 (jz ql) S e) (λa m e=>ox (jz ql) S e) h
theorem EB{P:Program}{f:Addr}{qual:Str}(G:Gd tb k P w K mg base)(F:pZ K d.name qual d.st f fd dV)(hs:gu d=true)
  (h:ub tb d=some d.m):dF P w K mg base BV (k+1) f fd (d.N.take d.n) (iQ ⟨K,mg,P,w⟩ d.n d.M):=by
 obtain⟨S,hl⟩:=ie hs;have key:=C7 (CX:=BV) (P:=P) (w:=w) (mg:=mg) (base:=base) (k:=k) (m:=d.m) F S (λcdv A outer s H E X=>Cc h (?_:iV tb k _ E d.sc))
 .rw[hl] at key;exact key
 .refine⟨⟨rfl,S.nd,λx hx=>hx,λx hx=>?_,λx hx=>?_,λx hx=>hx,λx=>⟨λhx=>hx,.inr⟩,λx hx=>.inl rfl,λ_=>rfl,λ_=>X,λ_ _ _ _ _ _ _ _ x=>x.elim,G⟩,λ_=>Yj.leaving,λ_=>⟨rfl,rfl,rfl⟩,?_⟩
  .unfold Ec qg DI.sc at hx;simp only[R5,Y3] at hx;rcases hx with (z|z)|z
   .exact .inl z
   .exact .inr (.inl z)
   .exact .inr (.inr z)
  .unfold sW qg DI.sc at hx;simp only[R5,Y3] at hx;exact hx
  .show (if (bq d.st).kind.isAnnotationScope then ScopeKind.function else (bq d.st).kind)=.function;rw[S.kind];rfl
end
theorem sU:∀{us:List Value}{n:Str},us.length=ps.length->n∈ps->((ps.zip us).lookup n).isSome=true:=by
 induction ps with
 |nil=>intro us n _ h;cases h
 |cons p ps m=>
  intro us n hl h;cases us with
  |nil=>cases hl
  |cons u us=>
   simp only[SM,QI];split
   .rfl
   .rename_i z;rcases QC.mp h with y|y
    .rw[y,beq_self_eq_true] at z;cases z
    .exact m (by simpa using hl) y
theorem mG:∀{us:List Value}{pre:List (Str×Value)},us.length=ps.length->ps.Nodup->(∀n∈ps,pre.lookup n=none)->ps.filterMap (λn=>((pre++ps.zip us).lookup n).map (n,·))=ps.zip us:=by
 induction ps with
 |nil=>intro us pre _ _ _;rfl
 |cons p ps m=>
  intro us pre hl nd hp;cases us with
  |nil=>cases hl
  |cons u us=>
   obtain⟨U,K⟩:=Q3.mp nd;have e1:(pre++(p,u)::ps.zip us).lookup p=some u:=by simp only[Rm,hp p QH,QI,beq_self_eq_true];rfl
   rw[SM,Tg,e1];show (p,u)::_=_
   congr 1
   have:=m (us:=us) (pre:=pre++[(p,u)]) (by simpa using hl) K (λn hn=>by simp only[Rm,hp n (Qz _ hn),QI];have:(n==p)=false:=beq_eq_false_iff_ne.mpr λz=>U (z▸hn);rw[this];rfl)
   simpa[Qw] using this
theorem kr{α β:Type}{f:α->β->Sem (ForInStep β)}{g:β->α->β}(h:∀a b,f a b=pure (.yield (g b a))):∀(l:List α)(b:β),(forIn l b f:Sem β)=pure (l.foldl g b)
 |[],_=>rfl
 |a::l,b=>by rw[Wb,h,pure_bind];exact kr h l _
noncomputable def rz(S:List (Str×Value))(x:Str×Value):List (Str×Value):=if (S.lookup x.1).isNone=true then S++[(x.1,x.2)] else S
variable{us:List Value}
theorem oO(h1:fd.params.posonlyargs=[])(h2:fd.params.kwonlyargs=[])(h3:fd.params.vararg=none)(h4:fd.params.kwarg=none)(t:fd.params.args.map (·.arg)=ps)(hl:us.length<=ps.length):
  ∃k,bindArgs fd ⟨us,[]⟩=seqItems? fd.defaults >>= k/\∀(o:Option (Array Value))(ds:List Value),(o.getD #[]).toList.drop ((o.getD #[]).toList.length-ps.length)=ds->
   (ps.take (ps.length-ds.length)).filter (λn=>((ps.zip us).lookup n).isNone)=[]->
   k o=pure ((ps++[]).filterMap λn=>((((ps.drop (ps.length-ds.length)).zip ds).foldl rz (ps.zip us)).lookup n).map (n,·)):=by
 obtain⟨nm,E,pr,bo,sc,gl,cl,de,c,i,pm,an,cd,ct,J⟩:=fd;obtain⟨po,h,X,e,x,F,df⟩:=pr;obtain rfl:h.map (·.arg)=ps:=t;obtain rfl:po=[]:=h1;obtain rfl:e=[]:=h2;obtain rfl:X=none:=h3;obtain rfl:F=none:=h4;refine⟨_,rfl,λo ds hd hm=>?_⟩;subst hd;refine(YZ (λz=>?_)).trans ?_
 .rw[Qq,decide_eq_true_eq] at z;exact absurd z.1 (Tt.mpr hl)
 refine(YZ (λz=>?_)).trans ?_
 .rw[Q7,List.isEmpty_eq_false_iff] at z;exact z hm
 refine(Y2 (· >>= _) (kr (g:=rz) (λa b=>?_) _ _)).trans ?_
 .unfold rz;by_cases z:(b.lookup a.1).isNone=true
  .rw[YY z];exact YY z
  .rw[YZ z];exact YZ z
 .exact rfl
theorem jF(hl:us.length=ps.length):ps.filter (λn=>((ps.zip us).lookup n).isNone)=[]:=by
 rw[SR];intro n hn;have:=sU hl hn;cases e:(ps.zip us).lookup n with
 |none=>rw[e] at this;cases this
 |some v=>exact Rk
theorem rH(h1:fd.params.posonlyargs=[])(h2:fd.params.kwonlyargs=[])(h3:fd.params.vararg=none)(h4:fd.params.kwarg=none)(h5:fd.defaults=.none)(t:fd.params.args.map (·.arg)=ps)(nd:ps.Nodup)(hl:us.length=ps.length):
  bindArgs fd ⟨us,[]⟩=pure (ps.zip us):=by
 obtain⟨k,e1,e2⟩:=oO (us:=us) h1 h2 h3 h4 t (Ua hl);rw[e1,h5];refine(e2 none [] Wu (by simp only[List.length_nil,Vv,V0];exact jF hl)).trans ?_;simp only[Rx,List.zip_nil_right];have L:=mG (pre:=[]) hl nd (λn _=>rfl);simp only[Uc] at L;exact Y2 pure L
theorem Bj:∀{us:List Value}{z:Str},z∉ps->(ps.zip us).lookup z=none:=by
 induction ps with
 |nil=>intro us z _;rfl
 |cons p ps m=>
  intro us z hz;cases us with
  |nil=>rfl
  |cons u us=>simp only[SM,QI];have:(z==p)=false:=beq_eq_false_iff_ne.mpr λy=>hz (y▸QH);rw[this];exact m λy=>hz (Qz _ y)
theorem xw{qs:List Str}:∀{us:List Value},us.length=ps.length->(ps++qs).zip us=ps.zip us:=by
 induction ps with
 |nil=>intro us h;cases us with
  |nil=>cases qs<;>rfl
  |cons _ _=>cases h
 |cons p ps m=>intro us h;cases us with
  |nil=>cases h
  |cons u us=>simp only[Sv,SM,SM,m (by simpa using h)]
theorem Av{s:Shared}{qs:List Str}{z:Str}{b:Addr}{o:Obj}{h:Value}{i:Nat}(h1:fd.params.posonlyargs=[])(h2:fd.params.kwonlyargs=[])(h3:fd.params.vararg=none)(h4:fd.params.kwarg=none)(h5:fd.defaults=.ref b)(ho:s.heap.get? b=some o)(hs:o.data=.seq #[h] i)
  (t:fd.params.args.map (·.arg)=qs++[z])(nd:(qs++[z]).Nodup):
  (us.length=(qs++[z]).length->Yr s fd ⟨us,[]⟩ ((qs++[z]).zip us))/\(us.length=qs.length->Yr s fd ⟨us,[]⟩ ((qs++[z]).zip (us++[h]))):=by
 have nz:z∉qs:=λy=>(QE.mp nd).2.2 z y z QH rfl;have e1:V3 (1-(qs++[z]).length) [h]=[h]:=by rw[show 1-(qs++[z]).length=0 by simp];rfl
 have e2:(qs++[z]).take ((qs++[z]).length - [h].length)=qs:=by simp
 have N:(qs++[z]).drop ((qs++[z]).length - [h].length)=[z]:=by simp
 refine⟨λhl=>?_,λhl=>?_⟩
 .obtain⟨k,G,D⟩:=oO (us:=us) h1 h2 h3 h4 t (Ua hl);refine .of_defaults h5 ho hs G ((D (some #[h]) [h] e1 ?_).trans ?_)
  .rw[e2,SR];exact λn hn=>SR.mp (jF hl) n (Qu _ hn)
  .have C:¬ (((qs++[z]).zip us).lookup z).isNone=true:=SR.mp (jF hl) z (Qs _ QH);rw[N];have K:Ux rz ((qs++[z]).zip us) ([z].zip [h])=(qs++[z]).zip us:=YZ C;rw[K,Rx];exact Y2 pure (mG (pre:=[]) hl nd (λn _=>rfl))
 .obtain⟨k,G,D⟩:=oO (us:=us) h1 h2 h3 h4 t (by simp only[hl,QO];exact RZ _ _);have hz:(qs++[z]).zip us=qs.zip us:=xw hl;refine .of_defaults h5 ho hs G ((D (some #[h]) [h] e1 ?_).trans ?_)
  .rw[e2,hz];exact jF hl
  .have a:(us++[h]).length=(qs++[z]).length:=by simp only[QO,QO,hl];rfl
   have X:(qs++[z]).zip (us++[h])=qs.zip us++[(z,h)]:=by rw[List.zip_append hl.symm];rfl
   rw[N,hz];have K:Ux rz (qs.zip us) ([z].zip [h])=qs.zip us++[(z,h)]:=YY (by rw[Bj nz];rfl);simp only[K,<-X,Rx];exact Y2 pure (mG (pre:=[]) a nd (λn _=>rfl))
mutual
noncomputable def A4(K:Qr):Nat->Value->A->Bool
 |0,_,_=>false
 |n+1,v,a=>match v,a with
  | .none,.non=>true
  | .bool b,.bl c=>b==c
  | .int i _,.int j=>i==j
  | .str x _,.str y=>x==y
  | .ref p,.tup as=>(match K.lookup p with
   |some ⟨.type "tuple",none,.seq its _,_⟩=>R8 its.size 1000&&qW K n its.toList as
   | _=>false)
  |_,_=>false
noncomputable def qW(K:Qr):Nat->List Value->List A->Bool
 |0,_,_=>false
 |_+1,[],[]=>true
 |n+1,v::vs,a::as=>A4 K n v a&&qW K n vs as
 |_+1,_,_=>false
end
mutual
theorem pT{P:Program}{w:Xz}{K:Qr}{mg:Str->Option Value}:∀{n:Nat}{v:Value}{a:A},A4 K n v a=true->∃x,RelV x v/\∀G,RA ⟨K,mg,P,w⟩ G x a
 |0,v,a,h=>by cases h
 |n+1,v,a,h=>by
  cases v with
  |none=>cases a with
   |non=>exact⟨.non,rfl,λ_=>.non⟩
   |_=>exact yI h
  |bool b=>cases a with
   |bl c=>obtain rfl:b=c:=eq_of_beq h;exact⟨.bl _,rfl,λ_=>.bl _⟩
   |_=>exact yI h
  |int i t=>cases a with
   |int j=>obtain rfl:i=j:=eq_of_beq h;exact⟨.int _,⟨_,rfl⟩,λ_=>.int _⟩
   |_=>exact yI h
  |str x t=>cases a with
   |str y=>obtain rfl:x=y:=eq_of_beq h;exact⟨.str _,⟨_,rfl⟩,λ_=>.str _⟩
   |_=>exact yI h
  |ref p=>cases a with
   |tup as=>
    replace h:(match K.lookup p with
     |some ⟨.type "tuple",none,.seq E _,_⟩=>R8 E.size 1000&&qW K n E.toList as
     | _=>false)=true:=h
    split at h
    .rename_i E X sl e
     rw[Qq] at h
     obtain⟨xs,h1,h2⟩:=si (P:=P) (w:=w) (mg:=mg) h.2
     refine⟨.ref _,rfl,λG=>.tup (.inr ⟨_,E,_,e,⟨rfl,rfl⟩,rfl,?_,h1⟩) (h2 G)⟩
     have:=RB h.1
     have:=nV
     lia
    .cases h
   |_=>exact yI h
  |_=>exact yI h
theorem si{P:Program}{w:Xz}{K:Qr}{mg:Str->Option Value}:∀{n:Nat}{vs:List Value}{as:List A},qW K n vs as=true->∃xs,Vals xs vs/\∀G,bN ⟨K,mg,P,w⟩ G xs as
 |0,vs,as,h=>by cases h
 |_+1,[],[],h=>⟨[],.nil,λ_=>.nil⟩
 |n+1,v::vs,a::as,h=>by
  replace h:(A4 K n v a&&qW K n vs as)=true:=h
  rw[Qq] at h
  obtain⟨x,h1,h2⟩:=pT (P:=P) (w:=w) (mg:=mg) h.1
  obtain⟨xs,h3,h4⟩:=si (P:=P) (w:=w) (mg:=mg) h.2
  exact⟨x::xs,.cons h1 h3,λG=>.cons (h2 G) (h4 G)⟩
 |_+1,[],_::_,h=>by cases h
 |_+1,_::_,[],h=>by cases h
end
noncomputable def gV(K:Qr)(x:Str):Option Value:=match U8 K Xx x with
 |some (some v)=>some v
 |_=>none
variable{h:Heap}
theorem uF(X:K.In h)(G:h.Ns Xx mg){x:Str}{v:Value}(e:gV K x=some v):mg x=some v:=by
 unfold gV at e;split at e
 .rename_i q;cases e;exact PySem.W.mg_of X G q
 .cases e
def Mr(K:Qr)(p:Str×A):Bool:=match gV K p.1 with
 |some v=>A4 K 20 v p.2
 |none=>false
noncomputable def pG(K:Qr)(C:Addr):Bool:=SS K C Str.empty&&Ts K C&&Us K C&&RG K (.ref C) "__setattr__" == some (some (.builtin "object.__setattr__"))
theorem nX{C:Addr}(h:pG K C=true):gy K C:=by unfold pG at h;simp only[Qq,Y3] at h;obtain⟨⟨⟨h1,h2⟩,h3⟩,h4⟩:=h;exact⟨h1,h2,h3,h4⟩
def Nn(K:Qr)(p:Str×List Str):Bool:=match gV K p.1 with
 |some (.ref C)=>pG K C&&p.2.all λf=>RG K (.ref C) f==some none
 |_=>false
def EU(tb:Tb)(K:Qr):Bool:=tb.fns.isEmpty&&tb.cst.all (Mr K)&&Cz.all (λx=>U8 K Xx x==some none)&&tb.fld.all (Nn K)&&tb.fB.isEmpty&&tb.mts.isEmpty
variable{tb:Tb}
theorem GO{P:Program}(X:K.In h)(G:h.Ns Xx mg)(e:EU tb K=true):Gd tb 1 P w K mg base:=by
 unfold EU at e;simp only[Qq,RM,RT,Y3] at e;obtain⟨⟨⟨⟨⟨e1,e2⟩,N⟩,s⟩,r⟩,E⟩:=e;refine⟨λx f q=>(by rw[e1] at q;cases q),λx a q=>?_,λx q=>PySem.W.mg_none_of X G (N x q),λf c C q hm=>?_,λc f q=>(by rw[r] at q;cases q),λm c f q=>(by rw[E] at q;cases q)⟩
 .have:=e2 _ (d9 q);unfold Mr at this;split at this
  .rename_i v b;obtain⟨y,i,Z⟩:=pT (P:=P) (w:=w) (mg:=mg) this;exact⟨y,v,uF X G b,i,Z⟩
  .cases this
 .obtain⟨p,j,n⟩:=Q2.mp (Sn.mp q);obtain⟨H,Y⟩:=T7.mp j;have t:=s p H;subst n;unfold Nn at t;split at t
  .rename_i R b;have:=uF X G b;rw[hm] at this;cases this;simp only[Qq,RT] at t;have:=t.2 f (Sn.mp Y);exact⟨nX t.1,by simp only[Y3] at this;exact this⟩
  .cases t
def tj(d:DI):Bool:=(dR d.st).posonlyargs.isEmpty&&(dR d.st).kwonlyargs.isEmpty&&(dR d.st).vararg.isNone&&(dR d.st).kwarg.isNone&&(dR d.st).args.map (·.arg)==d.N.take d.n
def Hi(K:Qr)(dV:Value)(a:A):Bool:=match dV with
 | .ref td=>match K.lookup td with
  | some ⟨_,_,.seq its _,_⟩=>(match its.toList with
   |[v]=>A4 K 20 v a
   | _=>false)
  |_=>false
 |_=>false
def wL(K:Qr)(dV:Value):List A->Bool
 |[]=>match dV with
  | .none=>true
  |_=>false
 |[a]=>Hi K dV a
 |_=>false
variable{d:DI}
theorem JX{P:Program}{qual:Str}{f:Addr}(h:tj d=true)(hs:gu d=true)(F:pZ K d.name qual d.st f fd dV)(hd:wL K dV d.df=true):mw P w K mg fd (d.N.take d.n) d.df:=by
 unfold tj at h;simp only[Qq,RM,Rv,Y3] at h;obtain⟨⟨⟨⟨h1,h2⟩,h3⟩,h4⟩,h5⟩:=h;obtain⟨S,hl⟩:=ie hs;have nd:=S.nd.sublist (UH d.n d.N);obtain⟨C,T⟩:fd.params=dR d.st/\fd.defaults=dV:=by obtain⟨oc,od,kV,doc,pm,an,cdv,ct,osl,e,_⟩:=F.ex;rw[e];exact⟨rfl,rfl⟩
 rw[<-C] at h1 h2 h3 h4 h5;clear F C S hl hs;cases e:d.df with
 |nil=>
  rw[e] at hd;have hd:dV=.none:=by cases dV<;>first|rfl|cases hd
  subst hd
  .intro j D;refine⟨[],[],Binds.all λus g=>rH h1 h2 h3 h4 T h5 nd g,.nil,λ_=>?_⟩;simp only[Wu];exact .nil
 |cons a as=>
  cases as with
  |cons _ _=>rw[e] at hd;cases hd
  |nil=>
   rw[e] at hd
   replace hd:Hi K dV a=true:=hd
   unfold Hi at hd;split at hd
   .rename_i E;split at hd
    .rename_i x y b i sl p;split at hd
     .rename_i v c;obtain⟨X,t,l⟩:=pT (P:=P) (w:=w) (mg:=mg) hd;have hi:b=#[v]:=by rw[<-VW,c]
      subst hi;have bo:∀(s:Shared)(us:List Value),K.In s.heap->((us.length=(d.N.take d.n).length->Yr s _ ⟨us,[]⟩ ((d.N.take d.n).zip us))/\(us.length+1=(d.N.take d.n).length->Yr s _ ⟨us,[]⟩ ((d.N.take d.n).zip (us++[v])))):=λs us H=>by
       rcases List.eq_nil_or_concat (d.N.take d.n) with z|⟨qs,Z,z⟩
       .rw[z] at h5 ⊢;refine⟨λhl=>?_,λhl=>by cases hl⟩;cases us with
        |cons _ _=>cases hl
        |nil=>obtain⟨k,r,B⟩:=oO (us:=[]) h1 h2 h3 h4 h5 (QB 0);exact .of_defaults T (H _ _ p) rfl r (B (some #[v]) [] rfl rfl)
       .rw[List.concat_eq_append] at z;rw[z] at h5 nd ⊢;have:=Av (s:=s) (us:=us) h1 h2 h3 h4 T (H _ _ p) rfl h5 nd;exact⟨this.1,λq=>this.2 (by simpa using q)⟩
      intro j D;rcases Nat.le_one_iff_eq_zero_or_eq_one.mp D with rfl|rfl
      .exact⟨[v],[X],λs us H g=>(bo s us H).2 (by simpa using g),.cons t .nil,λG=>.cons (l G) .nil⟩
      .exact⟨[],[],λs us H g=>by rw[Rx] at g ⊢;exact(bo s us H).1 g,.nil,λG=>.nil⟩
     .cases hd
    .cases hd
   .cases hd
def uQ:Tb->List DI->List (Option Ms)
 |_,[]=>[]
 |tb,d::ds=>ub tb d::uQ (tb.add d) ds
def uS:Tb->List DI->Tb
 |tb,[]=>tb
 |tb,d::ds=>uS (tb.add d) ds
def iI(K:Qr)(mg:Str->Option Value)(d:DI)(f:Addr):Prop:=match d.cl with
 |none=>mg d.name=some (.ref f)
 |some c=>∃C,mg c=some (.ref C)/\gy K C/\Meth K C d.name f/\(d.name=("__init__" : Str)->Mk K C f)
section
variable{P:Program}{w:Xz}{K:Qr}{mg:Str->Option Value}{base:Heap}
theorem Gd.up{j k:Nat}(G:Gd tb j P w K mg base)(h:j<=k):Gd tb k P w K mg base:=⟨λx f e=>by
 obtain⟨a,fd,ps,F,r⟩:=G.fn x f e;exact⟨a,fd,ps,F.mono h,r⟩,G.cs,G.bl,G.fl,λc f e=>by
 obtain⟨C,a,fd,ps,i,hi,r⟩:=G.im c f e;exact⟨C,a,fd,ps,i,Q4 hi h,r⟩,λm c f e=>by
 obtain⟨C,a,fd,ps,F,r⟩:=G.mt m c f e;exact⟨C,a,fd,ps,F.mono h,r⟩⟩
theorem Gd.add{tb:Tb}{k:Nat}(G:Gd tb k P w K mg base){d:DI}{f:Addr}{fd:XC}{dV:Value}(m:iI K mg d f)(F:pZ K d.name d.qual d.st f fd dV)(hd:wL K dV d.df=true)(hs:gu d=true)(hp:tj d=true)
  (h:ub tb d=some d.m):Gd (tb.add d) (k+2) P w K mg base:=by
 have G2:=G.up (show k<=k+2 by exact RZ _ _);have a:=EB G F hs h;have p:mw P w K mg fd (d.N.take d.n) d.df:=JX hp hs F hd;unfold Tb.add;unfold iI at m;split
 .rename_i hc;rw[hc] at m;refine⟨λx fi e=>?_,G2.cs,G2.bl,G2.fl,G2.im,G2.mt⟩
  .have e:((d.name,d.fi)::tb.fns).lookup x=some fi:=e;simp only[QI] at e;cases z:x==d.name with
   |true=>rw[z] at e;cases e;rw[Y3] at z;subst z;exact⟨f,fd,_,a.mono (Ul _),m,F.kp,p⟩
   |false=>rw[z] at e;exact G2.fn x fi e
 .rename_i c hc;rw[hc] at m;obtain⟨C,Y,L,b,X⟩:=m;split
  .rename_i z;simp only[Y3] at z;refine⟨G2.fn,G2.cs,G2.bl,G2.fl,λx fi e=>?_,G2.mt⟩;have e:((c,d.fi)::tb.fB).lookup x=some fi:=e;simp only[QI] at e;cases y:x==c with
   |true=>rw[y] at e;cases e;simp only[Y3] at y;subst y;exact⟨C,f,fd,_,k+1,QB _,a,Y,X z,p⟩
   |false=>rw[y] at e;exact G2.im x fi e
  .refine⟨G2.fn,G2.cs,G2.bl,G2.fl,G2.im,λx y fi e=>?_⟩;rcases QC.mp e with e|e
   .cases e;exact⟨C,f,fd,_,a.mono (Ul _),Y,L,b,p⟩
   .exact G2.mt x y fi e
theorem Gd.all:∀{ds:List DI}{tb:Tb}{k:Nat},Gd tb k P w K mg base->(∀d∈ds,∃f fd dV,iI K mg d f/\pZ K d.name d.qual d.st f fd dV/\wL K dV d.df=true)->ds.all (λd=>gu d&&tj d)=true->uQ tb ds=ds.map (λd=>some d.m)->Gd (uS tb ds) (k+2*ds.length) P w K mg base
 |[],tb,k,G,_,_,_=>G
 |d::ds,tb,k,G,hf,hs,ht=>by simp only[QV,Qq,Qq] at hs;obtain⟨x,o⟩:=List.cons.inj ht;obtain⟨f,fd,dV,m,F,hd⟩:=hf d QH;have:=Gd.all (G.add m F hd hs.1.1 hs.1.2 x) (λe he=>hf e (Qz _ he)) hs.2 o;simp only[QF,show k+2*(ds.length+1)=k+2+2*ds.length by lia];exact this
end
noncomputable abbrev AF:=Str×Str×Arguments×YI×Scope×Addr×List (Str×Addr)×Addr×Bool
def MQ(K:Qr)(d:DI):Option Addr:=match d.cl with
 |none=>match gV K d.name with
  |some (.ref f)=>some f
  |_=>none
 |some c=>match gV K c with
  |some (.ref C)=>match RG K (.ref C) d.name with
   |some (some (.ref f))=>some f
   |_=>none
  |_=>none
def Nt(K:Qr)(d:DI)(f:Addr):Bool:=match d.cl with
 |none=>true
 |some c=>match gV K c with
  |some (.ref C)=>pG K C&&Ur K (.ref f)&&(!(d.name==("__init__" : Str)) || (UM K C&&RX K (.ref C)))
  |_=>false
def Ig(K:Qr)(d:DI):Option AF:=match MQ K d with
 |some f=>match K.lookup f with
  |some ⟨_,_,.func x,_⟩=>some (x.name,x.qualname,x.params,x.body,x.scope,x.globals,x.closure,x.builtins,Ub K x.code d.qual&&RX K (.ref f)&&wL K x.defaults d.df&&Nt K d f)
  |_=>none
 |none=>none
def HB(d:DI):Option AF:=some (d.name,d.qual,dR d.st,.stmts (fz d.st),bq d.st,Xx,[],Ym,true)
theorem D2(X:K.In h)(G:h.Ns Xx mg)(e:Ig K d=HB d):∃f fd dV,iI K mg d f/\pZ K d.name d.qual d.st f fd dV/\wL K dV d.df=true:=by
 unfold Ig HB at e;split at e
 .rename_i f Y;split at e
  .rename_i a1 a2 x a3 T;obtain⟨b1,b2,n,I,Z,q,o,w,F,p,b,r,i,k,v⟩:=x;simp only[Vh,Prod.mk.injEq] at e;obtain⟨rfl,rfl,rfl,rfl,rfl,rfl,rfl,rfl,E⟩:=e;simp only[Qq] at E;obtain⟨⟨⟨g,V⟩,l⟩,J⟩:=E;refine⟨f,_,_,?_,⟨⟨_,_,_,_,_,_,_,_,_,rfl,T,g⟩,V⟩,l⟩;unfold iI;unfold MQ at Y;unfold Nt at J;split
   .rename_i hc;rw[hc] at Y;simp only at Y;split at Y
    .rename_i O P;cases Y;exact uF X G P
    .cases Y
   .rename_i c hc;rw[hc] at Y J;simp only at Y J;split at Y
    .rename_i C P;rw[P] at J;simp only[Qq,R5,Q7,beq_eq_false_iff_ne] at J;split at Y
     .rename_i O a;cases Y;refine⟨C,uF X G P,nX J.1.1,⟨a,J.1.2,V⟩,λz=>?_⟩;rcases J.2 with y|y
      .exact absurd z y
      .rw[z] at a;exact⟨y.1,a,J.1.2,y.2⟩
     .cases Y
    .cases Y
  .cases e
 .cases e
def Ke(ds:List DI)(Y:Qr->Bool)(K:Qr):List (Option AF)×Bool:=(ds.map (Ig K),Y K)
def Kg(ds:List DI):List (Option AF)×Bool:=(ds.map HB,true)
def hk(ds:List DI)(Y:Qr->Bool):Wf where
 α:=List (Option AF)×Bool
 obs:=λs=>Ke ds Y (W.ib s.heap)
 val:=λ_=>Kg ds
 says:=λ_ h=>∃K:Qr,Ke ds Y K=Kg ds/\K.In h
 of:=λ_ s e=>⟨W.ib s.heap,e,W.lA _⟩
 keeps:=λ_ _ _ ⟨K,e,i⟩ k=>⟨K,e,i.keeps k⟩
variable{ds:List DI}
theorem CN{Y:Qr->Bool}(X:K.In h)(G:h.Ns Xx mg)(e:Ke ds Y K=Kg ds):Y K=true/\∀d∈ds,∃f fd dV,iI K mg d f/\pZ K d.name d.qual d.st f fd dV/\wL K dV d.df=true:=by obtain⟨e1,e2⟩:=Prod.mk.inj e;exact⟨e2,λd hd=>D2 X G (List.map_eq_map_iff.mp e1 d hd)⟩
theorem BH{l:VS}{q:Program}{loose:List Str}{XP:(Str->Option Value)->Heap->Prop}{d:DefRec}{x:Str}{di:DI}(hn:l.most=some 63)(r:d.params.defaults=[])(dn:d.name = "law")
  (hs:(ds++[di]).all (λd=>gu d&&tj d)=true)(y:uQ tb ds=ds.map (λd=>some d.m))(hl:ub (uS tb ds) di=some di.m)(E:di.name = "law")(i:di.cl=none)(v:di.df=[])(hx:di.N.take di.n=[x])(U:cZ (2+2*ds.length) Yu)
  (hm:∀ns:List Int,ns.length<=63->∃Z,di.M [.fr (.lst (ns.map A.int))]=some (.rt (.fr (.bl true)),Z)):
  V2 q loose XP (hk (ds++[di]) (EU tb)).says l.row.toRowW d [] (λf vs=>VH f vs):=by
 refine W.xk (CX:=BV) (l:=l) (n:=63) (k:=2+2*ds.length) (x:=x) (sp:=zv) hn Z2 r U (λw mg R h Y G X=>?_) (λ_ _ _ _ _ z=>z) (λ_ _ a ns hl _ j=>⟨a,ns,rfl,j,hl,λ_=>rfl⟩);obtain⟨K,e,D⟩:=Y;obtain⟨e1,e2⟩:=CN D G e;refine⟨K,D,?_⟩;rw[List.all_append,Qq] at hs;obtain⟨f,fd,dV,b,o,p⟩:=e2 di (Qs _ QH);rw[v] at p;have p:dV=.none:=by cases dV<;>first|rfl|cases p
 subst p;unfold iI at b;rw[dn] at X;rw[i] at b;simp only at b;rw[E,X] at b;cases b;have c:=RT.mp hs.2 di QH;simp only[Qq] at c;have O:di.n=1:=by have:=(ie c.1).2;rw[hx] at this;exact this.symm
 refine⟨fd,λs u=>?_,λbase _ _=>?_⟩
 .obtain⟨oc,od,kV,doc,pm,an,cdv,ct,osl,rfl,F,Q⟩:=o.ex;obtain⟨S,H⟩:=ie c.1;have hp:=c.2;unfold tj at hp;simp only[Qq,RM,Rv,Y3] at hp;obtain⟨⟨⟨⟨h1,h2⟩,h3⟩,h4⟩,h5⟩:=hp;have:=rH (fd:=Ut di.name di.qual (dR di.st) (fz di.st) (bq di.st) .none kV doc pm an cdv ct) (us:=[u]) h1 h2 h3 h4 rfl h5 (S.nd.sublist (UH _ _)) (by rw[hx];rfl);simp only[hx] at this;exact .of_eq this
 .have C:=Gd.all (GO (P:=l.prog) (w:=w) (base:=base) D G e1) (λd hd=>e2 d (Qu _ hd)) hs.1 y;have B:=EB C o c.1 hl;rw[hx,O,show 1+2*ds.length+1=2+2*ds.length by lia] at B;exact Iy B hm
end M
set_option maxHeartbeats 4000000
namespace W
open PySem L2 M
noncomputable def top(i:Nat):Stmt:=PySem.Challenge.pw_fitwhatever_k35_programs_put_otherwise.main.body.getD i (.Pass ⟨0,0,0,0⟩)
def topC(i j:Nat):Stmt:=match top i with
 | .ClassDef _ _ _ b _ _ _ _ _ _ _=>b.getD j (.Pass ⟨0,0,0,0⟩)
 |s=>s
abbrev mix(m n:Mi Rr):Mi Rr:=aB B7 m n
abbrev aC(i:Int):Mi Rr:=mC (.int i)
abbrev bu(f:Ms)(m:Mi (List Rr)):Mi Rr:=a7 f [] m
abbrev Kc(t:Mi Bool):Ms:=ip t (bW (mC (.bl false))) bV
abbrev cO(a:Mi Rr):Mi (List Rr):=c9 a pV
abbrev cF(a b:Mi Rr):Mi (List Rr):=c9 a (cO b)
abbrev fW(a b c:Mi Rr):Mi (List Rr):=c9 a (cF b c)
abbrev DH(a b c d:Mi Rr):Mi (List Rr):=c9 a (fW b c d)
def kh:Ms:=av (aG 2 (aC 0)) (av (ip (ay (aB mI (ab 1) (dg cI (ab 0)))) (aG 2 (mix (ab 0) (ab 1))) bV) (bW (d6 (fW (dg D3 (aB ES (dg Eu (ab 2)) (aB kF (aC 10) (aC 18)))) (ab 2) (aB aZ (aC 17) (ab 1))))))
def gx:Ms:=cK 1 kh
def ky:Ms:=av (ip (ay (aB mT (mix (ab 0) (aC 0)) (mC (.str "best")))) (bW (cB (ab 0) aE (bz (aC 2)))) bV) (bW (cB (ab 0) aE (bz (aC 1))))
def dW:Ms:=cK 0 ky
def j8:Ms:=av (ip (ay (aB mT (mix (ab 0) (aC 0)) (aC 1))) (av (aG 2 (aB mW (mix (ab 0) (aC 1)) (ab 1))) (av (gf 0 (aC 1) (aB kB (mix (ab 0) (aC 1)) (ab 1))) (bW (ab 2)))) bV) (av (aG 3 (aB aJ (mix (ab 0) (aC 2)) (aC 1))) (av (gf 0 (aC 2) (ab 3)) (av (aG 4 (aB mW (aB aZ (aB aJ (aB aJ (mix (ab 0) (aC 1)) (aB aZ (aB aZ (aC 7919) (ab 3)) (ab 3))) (ab 3)) (aC 48271)) (aC 2305843009213693951))) (bW (aB mW (aB kB (aB mW (aB aJ (aB aZ (ab 4) (aC 1442695040888963407)) (aC 4321)) (aC 2305843009213693921)) (aC 64)) (ab 1))))))
def aD:Ms:=cK 3 j8
def jc:Ms:=av (aG 2 (iE (ab 1))) (bW (aL 1 (dw (ab 1)) (aO 3) aH (jT 2 (bu aD (cF (ab 0) (dg cI (ab 2)))))))
def cX:Ms:=cK 1 jc
def dZ:Ms:=av (aG 4 (bu cX (cF (ab 0) (dg cI (ab 1))))) (av (aG 5 (d6 pV)) (av (iO (bZ (bu cX (cF (ab 0) (dg cI (ab 2))))) (aO 6) (av (aG 7 (aB aJ (aC 1) (bu aD (cF (ab 0) (mix (d6 (cF (aC 3) (aB kF (aC 10) (aC 4)))) (bu aD (cF (ab 0) (aC 2)))))))) (cH (jK 5 (g9 5 (gF (cF (aB aJ (aL 1 (bZ (ab 4)) (aO 9) aH (aB aZ (ab 7) (mix (mix (ab 2) (ab 6)) (ab 9)))) (d6 (cO (aC 0)))) (aB aZ (ab 7) (mix (ab 3) (ab 6)))))))))) (av (aG 8 (mix (ab 5) (bu aD (cF (ab 0) (dg cI (ab 5)))))) (av (cH (jK 5 (g9 5 (gF (cF (aB wd (d6 (cO (aC 0))) (aB aJ (dg cI (ab 1)) (aC 1))) (bu aD (cF (ab 0) (aC 5)))))))) (av (cH (hW 5 (bu aD (cF (ab 0) (kA (aB aJ (dg cI (ab 5)) (aC 1))))) (ab 8))) (bW (gF (fW (aB aJ (aL 1 (bZ (ab 4)) (aO 9) aH (mix (ab 1) (ab 9))) (d6 (cO (aC 0)))) (aL 2 (bZ (ab 5)) (fN 2 (bQ (aO 9) (bQ (aO 10) fq))) aH (ab 9)) (aL 2 (bZ (ab 5)) (fN 2 (bQ (aO 9) (bQ (aO 10) fq))) aH (ab 10))))))))))
def cj:Ms:=cK 5 dZ
noncomputable abbrev AT:=aK (aq ["Board"] "long") (ab 0)
noncomputable abbrev A_:=aK (aq ["Board"] "many") (ab 0)
noncomputable abbrev BD:=aQ (aN ["Board"] 0 "long") AT
def jx:Ms:=av (dI ["Board"] 0 "long" (dg cI (ab 1))) (av (dI ["Board"] 0 "many" (dg cI (ab 2))) (av (dI ["Board"] 0 "scale" (aC 1)) (av (iw ["Board"] 0 "across" (iE BD)) (av (iw ["Board"] 0 "down" (kW BD (aB aJ BD (aQ (aN ["Board"] 0 "many") A_)))) (av (iw ["Board"] 0 "grid" (aL 2 (lN (ab 2) (ab 3)) (fN 2 (bQ (aO 4) (bQ (aO 5) fq))) aH (aB aJ (dg i8 (ab 4)) (d6 (cO (ab 5)))))) (cH (lg ["Board"] 0 "grid" (aB aJ (aL 1 (bZ (ab 1)) (aO 4) aH (aK aY (ab 4))) (d6 (cO (aC 0)))))))))))
def dD:Ms:=cK 0 jx
noncomputable abbrev AC:=aK (aq ["Board"] "grid") (ab 0)
noncomputable abbrev At:=aK (aq ["Board"] "scale") (ab 0)
noncomputable abbrev B':=bz (aK aY (aC 1))
def gq:Ms:=bW (aB aJ (aB aZ At At) (dg xV (aL 1 (bZ (cB AC aE B')) (aO 2) aH (aB aZ (mix (ab 2) (ab 1)) (mix (ab 2) (ab 1))))))
def eX:Ms:=cK 0 gq
def fK:Ms:=av (aG 2 (mC .non)) (av (aG 3 (gF (cF (aC 0) (aC 1)))) (av (iO (uL (ab 1)) (fN 2 (bQ (aO 4) (bQ (aO 5) fq))) (ip (ay (aB vN (ab 5) (aC 0))) (av (aG 6 (gF (cF (aB aZ (ab 5) (ab 5)) (bu eX (cF (bM "Board" "stride" (ai 0)) (ai 4)))))) (ip (ay (aB vN (aB aZ (mix (ab 6) (aC 0)) (mix (ab 3) (aC 1))) (aB aZ (mix (ab 3) (aC 0)) (mix (ab 6) (aC 1))))) (av (aG 2 (ab 4)) (aG 3 (ab 6))) bV)) bV)) (bW (ab 2))))
def bK:Ms:=cK 5 fK
def gW:Ms:=av (ip (ay (aB (xg false) (ab 2) (aK (aq ["Board"] "across") (ab 0)))) (bW (mix (mix AC (ab 1)) (vL (aK (aq ["Board"] "across") (ab 0)) (ab 2)))) bV) (bW (MD (ay (aB mT (mix (aK (aq ["Board"] "down") (ab 0)) (ab 1)) (ab 2))) At (aC 0)))
def bX:Ms:=cK 0 gW
def gP:Ms:=av (aG 4 (aB aZ (mix (mix AC (ab 1)) (aK aY (aC 1))) (mix (mix AC (ab 2)) (ab 3)))) (av (aG 5 (aB aZ (mix (mix AC (ab 2)) (aK aY (aC 1))) (mix (mix AC (ab 1)) (ab 3)))) (av (ip (ay (aB j6 (ab 4) (ab 5))) (bW (aB mI (ab 4) (ab 5))) bV) (av (iO (rn AT (aB aJ AT A_)) (aO 6) (av (aG 4 (aB aZ (bu bX (fW (bM "Board" "top_of" (ai 0)) (ai 1) (ai 6))) (mix (mix AC (ab 2)) (ab 3)))) (av (aG 5 (aB aZ (bu bX (fW (bM "Board" "top_of" (ai 0)) (ai 2) (ai 6))) (mix (mix AC (ab 1)) (ab 3)))) (ip (ay (aB j6 (ab 4) (ab 5))) (bW (aB mI (ab 4) (ab 5))) bV)))) (bW (mC (.bl false))))))
def eS:Ms:=cK 3 gP
def iA:Ms:=av (aG 2 (mC .non)) (av (iO (dw A_) (aO 3) (ip (mV (ay (aB vN (mix (mix AC (ab 3)) (ab 1)) (aC 0))) (Iu (ay (aB (qj false) (ab 2) (mC .non))) (ay (bu eS (DH (ai 0) (ai 3) (ai 2) (ai 1)))))) (aG 2 (ab 3)) bV)) (bW (ab 2)))
def a8:Ms:=cK 2 iA
def jo:Ms:=av (aG 4 (mix (ab 1) (ab 2))) (av (aG 5 (mix (ab 0) (ab 2))) (av (ip (ay (aB mT (ab 5) (aC 0))) (bW (aL 1 (bZ (ab 0)) (aO 7) aH (aB kB (aB aZ (ab 4) (ab 7)) (ab 3)))) bV) (av (aG 6 (aL 2 (lN (ab 0) (ab 1)) (fN 2 (bQ (aO 7) (bQ (aO 8) fq))) aH (aB kB (aB jW (aB aZ (ab 4) (ab 7)) (aB aZ (ab 5) (ab 8))) (ab 3)))) (av (gf 6 (ab 2) (aK aY (ab 5))) (bW (ab 6))))))
def eO:Ms:=cK 3 jo
def gK:Ms:=bW (aL 1 (bZ (ab 0)) (aO 1) aH (aK aY (ab 1)))
def aR:Ms:=cK 0 gK
noncomputable abbrev A':=aQ (aN ["Board"] 0 "grid") AC
noncomputable abbrev B_:=aQ (aN ["Board"] 0 "scale") At
def jr:Ms:=av (aG 3 (mix A' (ab 1))) (av (aG 4 (aL 1 (bZ A') (aO 6) aH (bu eO (DH (ai 6) (ai 3) (ai 2) B_)))) (av (uG ["Board"] 4 1 2 0 "scale" (dg i8 (ab 3))) (av (dI ["Board"] 0 "scale" (mix (ab 3) (ab 2))) (av (dI ["Board"] 0 "grid" (ab 4)) (av (ip (ay (aB mI B_ (aC 0))) (av (dI ["Board"] 0 "scale" (aK aY B_)) (dI ["Board"] 0 "grid" (aL 1 (bZ (ab 4)) (aO 6) aH (bu aR (cO (ai 6)))))) bV) (av (aG 5 (oG ["Board"] 0 "across" (xJ 2))) (av (fA ["Board"] 0 "across" 2 (oG ["Board"] 0 "down" (xJ 1))) (fA ["Board"] 0 "down" 1 (ab 5)))))))))
def aF:Ms:=cK 3 jr
def fD:Ms:=av (iU BY (ay (aB j6 (ab 1) (aC 0))) (av (aG 2 (aB mW (ab 0) (ab 1))) (av (aG 0 (ab 1)) (aG 1 (ab 2))))) (bW (ab 0))
def fG:Ms:=cK 1 fD
def gG:Ms:=av (aG 2 (bu fG (cF (ai 0) (ai 1)))) (bW (gF (cF (aB kB (ab 0) (ab 2)) (aB kB (ab 1) (ab 2)))))
def cA:Ms:=cK 1 gG
def eI:Ms:=av (aG 2 (aL 1 (dw AT) (aO 5) aH (mC (.tup [.int 0,.int 1])))) (av (iO (lN (aK (aq ["Board"] "down") (ab 0)) (ab 1)) (fN 2 (bQ (aO 3) (bQ (aO 4) fq))) (ip (ay (aB mI (ab 3) AT)) (gf 2 (ab 3) (bu cA (cF (ai 4) At))) bV)) (bW (dg mD (ab 2))))
def cz:Ms:=cK 3 eI
def iy:Ms:=bW (bu cz (cF (bM "Board" "spread_down" (ab 0)) (kA (aL 1 (bZ AC) (aO 1) aH (mix (ab 1) (aK aY (aC 1)))))))
def bC:Ms:=cK 0 iy
def gT:Ms:=av (aG 2 (aL 1 (dw A_) (aO 5) aH (mC (.tup [.int 0,.int 1])))) (av (iO (lN (aK (aq ["Board"] "across") (ab 0)) (ab 1)) (fN 2 (bQ (aO 3) (bQ (aO 4) fq))) (ip (ay (aB ES (ab 3) AT)) (gf 2 (aB jW (ab 3) AT) (bu cA (cF (ai 4) At))) bV)) (bW (dg mD (ab 2))))
def aX:Ms:=cK 3 gT
def kq:Ms:=av (aG 2 (dg i8 (bu cz (cF (bM "Board" "spread_down" (ab 0)) (kA (aL 1 (bZ AC) (aO 3) aH (aK aY (mix (ab 3) (ab 1))))))))) (av (ip (ay (aB mI (mix (aK (aq ["Board"] "across") (ab 0)) (ab 1)) AT)) (gf 2 (mix (aK (aq ["Board"] "across") (ab 0)) (ab 1)) (mC (.tup [.int 1,.int 1]))) bV) (bW (dg mD (ab 2))))
def cT:Ms:=cK 1 kq
def n9:Ms:=iU BY (ay (mC (.bl true))) (av (aG 1 (a7 (bF 0 bK) [] (cF (ab 0) (bu aR (cO (kA (cB (mix A' (aK aY (aC 1))) aE B'))))))) (av (ip (ay (aB (qj false) (ab 1) (mC .non))) (av (aG 2 (bu cA (cF (mix (mix A' (aK aY (aC 1))) (aK aY (aC 1))) B_))) (bW (gF (DH (mC (.str "best")) (ab 2) (aQ (bu bC (cO (aS "Board" "point" 0))) (aQ (a7 (bF 0 bC) [] (cO (aS "Board" "point" 0))) (bu bC (cO (bM "Board" "point" (ab 0)))))) (aQ (bu aX (cF (aS "Board" "prices" 0) (mix A' (aK aY (aC 1))))) (aQ (a7 (bF 0 aX) [] (cF (aS "Board" "prices" 0) (mix A' (aK aY (aC 1))))) (bu aX (cF (bM "Board" "prices" (ab 0)) (mix A' (aK aY (aC 1))))))))))) bV) (av (aG 3 (a7 (bF 0 a8) [] (cF (ab 0) (ai 1)))) (av (ip (ay (aB (qj false) (ab 3) (mC .non))) (bW (gF (fW (mC (.str "open")) (aQ (bu bC (cO (aS "Board" "point" 0))) (aQ (a7 (bF 0 bC) [] (cO (aS "Board" "point" 0))) (bu bC (cO (bM "Board" "point" (ab 0)))))) (aQ (bu cT (cF (aS "Board" "way" 0) (ai 1))) (aQ (a7 (bF 0 cT) [] (cF (aS "Board" "way" 0) (ai 1))) (bu cT (cF (bM "Board" "way" (ab 0)) (ai 1)))))))) bV) (cH (aQ (bu aF (fW (aS "Board" "turn" 0) (ai 3) (ai 1))) (aQ (a7 (bF 0 aF) [] (fW (aS "Board" "turn" 0) (ai 3) (ai 1))) (bu aF (fW (bM "Board" "turn" (ab 0)) (ai 3) (ai 1))))))))))
def hJ:Ms:=cK 3 n9
def fe:Ms:=av (cH (qD ["Board"] 0 "across" (AS (SO 0)))) (av (aG 1 (mix A' (aK aY (aC 1)))) (av (iw ["Board"] 0 "grid" (aL 1 (bZ (cB A' aE B')) (aO 2) aH (aB aJ (aB aJ (cB (ab 2) aE B') (d6 (cO (aK aY (aC 1))))) (cB (ab 2) B' aE)))) (cH (lg ["Board"] 0 "grid" (aB aJ (aB aJ (cB (ab 1) aE B') (d6 (cO (aC 0)))) (cB (ab 1) B' aE))))))
def bp:Ms:=cK 1 fe
def eJ:Ms:=av (aG 1 (fY ["Board"] 0 "across" (AS (SO 0)))) (av (cH (rJ ["Board"] 0 "across" (xJ 1))) (dI ["Board"] 0 "grid" (aL 1 (bZ A') (aO 2) aH (aB aJ (cB (ab 2) aE (bz (ab 1))) (cB (ab 2) (bz (aB aJ (ab 1) (aC 1))) aE)))))
def bf:Ms:=cK 1 eJ
def i6:Ms:=av (aG 1 (dg qX (ab 0))) (bW (dg q9 (aL 2 (uL (ab 0)) (fN 2 (bQ (aO 2) (bQ (aO 3) fq))) (ay (aB mT (ab 3) (ab 1))) (ab 2))))
def dJ:Ms:=cK 1 i6
def jB:Ms:=av (cH (aQ (bu bp (cO (aS "Board" "put_helper" 0))) (aQ (a7 (bF 0 bp) [] (cO (aS "Board" "put_helper" 0))) (bu bp (cO (bM "Board" "put_helper" (ab 0))))))) (av (cH (aQ (bu aF (fW (aS "Board" "turn" 0) (bu dJ (cO (kA (aL 1 (bZ (cB A' aE B')) (aO 3) aH (mix (ab 3) (aK aY (aC 1))))))) (aB jW (jH ["Board"] 0 "across") (aC 1)))) (aQ (a7 (bF 0 aF) [] (fW (aS "Board" "turn" 0) (bu dJ (cO (kA (aL 1 (bZ (cB A' aE B')) (aO 3) aH (mix (ab 3) (aK aY (aC 1))))))) (aB jW (jH ["Board"] 0 "across") (aC 1)))) (bu aF (fW (bM "Board" "turn" (ab 0)) (bu dJ (cO (kA (aL 1 (bZ (cB A' aE B')) (aO 3) aH (mix (ab 3) (aK aY (aC 1))))))) (aB jW (jH ["Board"] 0 "across") (aC 1))))))) (av (iU BY (ay (wK false ["Board"] 0 "down" (AS (SO 0)))) (av (aG 1 (mix A' (fY ["Board"] 0 "down" (AS (SO 0))))) (av (aG 2 (a7 (bF 0 bK) [] (cF (ab 0) (kA (cB (ab 1) aE B'))))) (av (ip (ay (aB (qj false) (ab 2) (mC .non))) (bW (aQ (bu aX (cF (aS "Board" "prices" 0) (bu aR (cO (ai 1))))) (aQ (a7 (bF 0 aX) [] (cF (aS "Board" "prices" 0) (bu aR (cO (ai 1))))) (bu aX (cF (bM "Board" "prices" (ab 0)) (bu aR (cO (ai 1)))))))) bV) (cH (aQ (bu aF (fW (aS "Board" "turn" 0) (a7 (bF 0 a8) [] (cF (ab 0) (ai 2))) (ai 2))) (aQ (a7 (bF 0 aF) [] (fW (aS "Board" "turn" 0) (a7 (bF 0 a8) [] (cF (ab 0) (ai 2))) (ai 2))) (bu aF (fW (bM "Board" "turn" (ab 0)) (a7 (bF 0 a8) [] (cF (ab 0) (ai 2))) (ai 2)))))))))) (av (cH (aQ (bu bf (cO (aS "Board" "drop_helper" 0))) (aQ (a7 (bF 0 bf) [] (cO (aS "Board" "drop_helper" 0))) (bu bf (cO (bM "Board" "drop_helper" (ab 0))))))) (bW (mC .non)))))
def dG:Ms:=cK 2 jB
def qt:Ms:=av (aG 3 (m9 "Board" dD [] (fW (ai 0) (ai 1) (ai 2)))) (av (ip (ay (dg (kf λbs=>VA bs id) (aL 1 (bZ (ab 2)) (aO 5) aH (aB mI (ab 5) (aC 0))))) (av (aG 4 (bu dG (cO (ab 3)))) (ip (ay (aB (qj true) (ab 4) (mC .non))) (bW (gF (cF (mC (.str "none")) (ab 4)))) bV)) bV) (bW (bu hJ (cO (ab 3)))))
def rV:Ms:=cK 2 qt
def nE:Ms:=av (ip (Iu (ay (aB vN (dg cI (ab 0)) (aC 48))) (ay (aB vN (dg cI (ab 1)) (aC 48)))) rP bV) (av (ip (ay (aB j6 (dg cI (ab 2)) (dg cI (ab 1)))) rP bV) (av (ip (ay (dg (kf λbs=>VA bs id) (aL 1 (bZ (ab 1)) (aO 3) aH (aB j6 (dg cI (ab 3)) (dg cI (ab 0)))))) rP bV) (bW (bu rV (fW (ai 0) (ai 1) (ai 2))))))
def dk:Ms:=cK 0 nE
def jd:Ms:=av (aG 1 (bu aD (cF (ab 0) (aC 8)))) (av (ip (ay (aB mI (ab 1) (aC 3))) (bW (aC 0)) bV) (av (ip (ay (aB mI (ab 1) (aC 7))) (bW (aB jW (bu aD (cF (ab 0) (aC 9))) (aC 4))) bV) (bW (aB jW (bu aD (cF (ab 0) (kA (aB aJ (aB aZ (aC 2) (aB kF (aC 10) (aC 9))) (aC 1))))) (aB kF (aC 10) (aC 9))))))
def cp:Ms:=cK 1 jd
def EO:Ms:=av (iO (rX (aC 0) (aB aJ (E3 wU (dg cI (ab 0)) (aC 60)) (aC 1)) (aC 15)) (aO 1) (av (aG 2 (bu gx (cF (ai 0) (ai 1)))) (av (aG 3 (aB aJ (aC 1) (bu aD (cF (ab 2) (aC 5))))) (av (aG 4 (aB aJ (aC 1) (bu aD (cF (ab 2) (aC 5))))) (av (aG 5 (aL 1 (dw (ab 3)) (aO 12) aH (bu cp (cO (ab 2))))) (av (aG 6 (aL 1 (dw (ab 4)) (aO 12) aH (aL 1 (dw (ab 3)) (aO 13) aH (bu cp (cO (ab 2)))))) (av (aG 7 (aL 1 (dw (ab 4)) (aO 12) aH (bu cp (cO (ab 2))))) (av (aG 8 (bu dW (cO (bu dk (fW (ai 5) (ai 6) (ai 7)))))) (av (aG 9 (bu cj (DH (ab 2) (ai 5) (ai 6) (ai 7)))) (av (Kc (ay (aB j6 (bu dW (cO (bu dk (fW (mix (ab 9) (aC 0)) (mix (ab 9) (aC 1)) (mix (ab 9) (aC 2)))))) (ab 8)))) (av (aG 10 (aB aJ (aC 1) (bu aD (cF (ab 2) (aC 50))))) (av (aG 11 (bu dk (fW (kA (aL 1 (bZ (ab 5)) (aO 12) aH (aB aZ (ab 10) (ab 12)))) (ai 6) (ai 7)))) (av (Kc (ay (aB j6 (mix (ab 11) (aC 0)) (mix (ab 8) (aC 0))))) (Kc (mV (ay (aB mT (mix (ab 8) (aC 0)) (mC (.str "best")))) (ay (aB j6 (aB aZ (mix (mix (ab 11) (aC 1)) (aC 0)) (mix (mix (ab 8) (aC 1)) (aC 1))) (aB aZ (aB aZ (ab 10) (mix (mix (ab 8) (aC 1)) (aC 0))) (mix (mix (ab 11) (aC 1)) (aC 1)))))))))))))))))))) (bW (mC (.bl true)))
def MZ:Ms:=cK 11 EO
def IM:Tb:={ fns:=[],cst:=[("ZERO",(.tup [(.int 0),(.int 1)])),("ONE",(.tup [(.int 1),(.int 1)])),("MOST_LONG",(.int 48)),("HELPER",(.int (-1)))],exs:=["NoProgram"],kit:=[],exm:=[],fld:=[("Board",["long", "many", "scale", "across", "down", "grid"])],fB:=[],mts:=[] }
def CQ:List DI:=[
 ⟨none, "_law_well",top 23,["_law_script", "_law_k", "_law_cell"],2,[],[false,false],[],[],kh,[],false,false,none⟩,
 ⟨none, "_law_said",top 27,["_law_told"],1,[],[false],[],[],ky,[],false,false,none⟩,
 ⟨none, "_law_take",top 24,["_law_well_here", "_law_many", "_law_digit", "_law_turn", "_law_number"],2,[],[true,false],[],[],j8,[],false,false,none⟩,
 ⟨none, "_law_order",top 26,["_law_well_here", "_law_many", "_law_left"],2,[],[true,false],[],[],jc,[],false,false,none⟩,
 ⟨none, "_law_put_otherwise",top 28,["_law_well_here", "_law_goal", "_law_rows", "_law_limits", "_law_across", "_law_found", "_law_at", "_law_by", "_law_twice"],4,[],[true,false,false,false],[],[],dZ,[],false,false,none⟩,
 ⟨some "Board", "__init__",topC 13 0,["self", "goal", "rows", "limits"],4,[],[true,false,false,false],[],["*nob", "across", "down", "grid"],jx,[],false,false,none⟩,
 ⟨some "Board", "stride",topC 13 3,["self", "column"],2,[],[false,false],[],[],gq,[],false,false,none⟩,
 ⟨none, "gaining_column",top 16,["board", "gains", "found", "steepest", "k", "gain", "slope"],2,[],[false,false],[],[],fK,[],false,false,none⟩,
 ⟨some "Board", "top_of",topC 13 2,["self", "at", "name"],3,[],[false,false,false],[],[],gW,[],false,false,none⟩,
 ⟨none, "binds_before",top 18,["board", "one", "other", "column", "sooner", "later", "name"],4,[],[false,false,false,false],[],[],gP,[],false,false,none⟩,
 ⟨none, "binding_row",top 17,["board", "column", "found", "k"],2,[],[false,false],[],[],iA,[],false,false,none⟩,
 ⟨none, "turned_row",top 15,["row", "pivot_row", "column", "scale", "pivot", "factor", "turned"],4,[],[false,false,false,false],[],[],jo,[],false,false,none⟩,
 ⟨none, "negative_row",top 14,["row"],1,[],[false],[],[],gK,[],false,false,none⟩,
 ⟨some "Board", "turn",topC 13 1,["self", "at", "column", "pivot_row", "turned", "name"],3,[],[true,false,false],[],["*nob", "across", "down"],jr,[],false,false,none⟩,
 ⟨none, "common_divisor",top 6,["a", "b", "rest"],2,[],[false,false],[],[],fD,[],false,false,none⟩,
 ⟨none, "lowest_terms",top 7,["top", "bottom", "divisor"],2,[],[false,false],[],[],gG,[],false,false,none⟩,
 ⟨some "Board", "spread_down",topC 13 8,["self", "tops", "told", "name", "top"],2,[],[false,false],[],[],eI,[],false,false,none⟩,
 ⟨some "Board", "point",topC 13 6,["self"],1,[],[false],[],[],iy,[],false,false,none⟩,
 ⟨some "Board", "prices",topC 13 9,["self", "tops", "told", "name", "top"],2,[],[false,false],[],[],gT,[],false,false,none⟩,
 ⟨some "Board", "way",topC 13 7,["self", "column", "told"],2,[],[false,false],[],[],kq,[],false,false,none⟩,
 ⟨none, "climbed",top 21,["board", "column", "value", "at"],1,[],[true],[],["*nob", "board"],n9,[],false,false,none⟩,
 ⟨some "Board", "put_helper",topC 13 4,["self", "goal"],1,[],[true],[],["*nob", "across", "down", "grid"],fe,[],false,false,none⟩,
 ⟨some "Board", "drop_helper",topC 13 5,["self", "at"],1,[],[true],[],["*nob", "across", "down"],eJ,[],false,false,none⟩,
 ⟨none, "last_least",top 19,["limits", "least"],1,[],[false],[],[],i6,[],false,false,none⟩,
 ⟨none, "find_point",top 20,["board", "row", "column"],1,[],[true],[],["*nob", "across", "down", "board"],jB,[],false,false,none⟩,
 ⟨none, "solved",top 12,["goal", "rows", "limits", "board", "prices"],3,[],[false,false,false],[],["*nob", "board"],qt,[],false,false,none⟩,
 ⟨none, "best_of",top 11,["goal", "rows", "limits"],3,[],[false,false,false],[],[],nE,[],false,false,none⟩,
 ⟨none, "_law_entry",top 25,["_law_well_here", "_law_way"],1,[],[true],[],[],jd,[],false,false,none⟩]
def mK:DI:=⟨none, "law",top 29,["_law_script", "_law_k", "_law_well_here", "_law_wide", "_law_high", "_law_goal", "_law_rows", "_law_limits", "_law_told", "_law_other", "_law_by", "_law_more"],1,[],[false],[],[],EO,[],false,false,none⟩
theorem IZ:uQ IM CQ=CQ.map (λd=>some d.m):=by kernel_rfl
theorem GK:ub (uS IM CQ) mK=some mK.m:=by kernel_rfl
theorem GB:(CQ++[mK]).all (λd=>gu d&&tj d)=true:=by decide +kernel
end W
section
open PySem PySem.W PyProof.Rows L2
set_option maxRecDepth 100000 in
theorem W.hl:LeftO PySem.Challenge.rw_fitwhatever_k35_programs_put_otherwise.row.prog (W.Km PySem.Challenge.pw_fitwhatever_k35_programs_put_otherwise) (W.uq PySem.Challenge.pw_fitwhatever_k35_programs_put_otherwise) (λs=>xlAt (W.Km PySem.Challenge.pw_fitwhatever_k35_programs_put_otherwise) [] s&&recOk PySem.Challenge.rw_fitwhatever_k35_programs_put_otherwise.row.records s) (Hook.obs (M.hk (W.CQ++[W.mK]) (M.EU W.IM))) (Hook.val (M.hk (W.CQ++[W.mK]) (M.EU W.IM))) 20000:=W.A8 λw=>by kernel_rfl
set_option maxRecDepth 100000 in
set_option maxHeartbeats 0 in
theorem W.fin(LT:∀ns:List Int,ns.length<=63->∃Z,W.mK.M [.fr (.lst (ns.map M.A.int))]=some (.rt (.fr (.bl true)),Z)):PySem.Challenge.rw_fitwhatever_k35_programs_put_otherwise.Holds:=by
 w_on
 refine holds_law Z3 λF6=>?_
 refine holds_open (q:=W.Km PySem.Challenge.pw_fitwhatever_k35_programs_put_otherwise) (loose:=W.uq PySem.Challenge.pw_fitwhatever_k35_programs_put_otherwise) (Xt:=λs=>xlAt (W.Km PySem.Challenge.pw_fitwhatever_k35_programs_put_otherwise) [] s&&recOk (RowW.records _) s) (XP:=XL (W.Km PySem.Challenge.pw_fitwhatever_k35_programs_put_otherwise) []) (Yf:=Hook.obs (M.hk (W.CQ++[W.mK]) (M.EU W.IM))) (Ya:=Hook.val (M.hk (W.CQ++[W.mK]) (M.EU W.IM))) (YP:=Hook.says (M.hk (W.CQ++[W.mK]) (M.EU W.IM))) (N:=20000) W.hl (Hook.of _) (Hook.keeps _) (λs e=>xl_of s (VB.mp e).1) XL.keeps (by rfl) (by rfl) (by rfl) (λs e=>recFacts_of (VB.mp e).2) (by rfl) F6 Z3 ⟨rfl,rfl,rfl,rfl,rfl,by decide +kernel⟩ ?hw ?hc
 case hw=>w_witness2
 case hc=>exact M.BH rfl rfl rfl W.GB W.IZ W.GK rfl rfl rfl rfl ⟨rfl,by decide,by decide⟩ LT
end
set_option maxHeartbeats 1000000
set_option exponentiation.threshold 100000
namespace Sx
noncomputable def su(n:Nat)(f:Nat->Int):Int:=match n with
 |0=>0
 |n+1=>su n f+f n
theorem ba{n:Nat}{f g:Nat->Int}(h:∀i,i<n->f i=g i):su n f=su n g:=by
 induction n with
 |zero=>rfl
 |succ n m=>simp only[su,su,m λi hi=>h i (by exact QQ ‹_›),h n (by exact Rc _)]
theorem jM{n:Nat}{f g:Nat->Int}{x y:Int}:su n (λi=>x*f i+y*g i)=x*su n f+y*su n g:=by
 induction n with
 |zero=>simp[su]
 |succ n m=>simp only[su,m];grind
theorem fU{n:Nat}{f:Nat->Int}(h:∀i,i<n->f i=0):su n f=0:=by
 induction n with
 |zero=>rfl
 |succ n m=>simp only[su,m λi hi=>h i Q1,h n Q1];rfl
theorem iK{n a:Nat}{f:Nat->Int}(c:a<n)(h:∀i,i<n->i≠a->f i=0):su n f=f a:=by
 induction n with
 |zero=>exact absurd ‹_› (RV _)
 |succ n m=>
  by_cases e:a=n
  .subst e;rw[su,fU λi hi=>h i (by exact QQ ‹_›) (by exact Q8 ‹_›)];simp
  .simp only[su,m Q1 λi hi=>h i (by exact QQ ‹_›),h n (by exact Rc _) Q1];simp
theorem NX{n a:Nat}{f:Nat->Int}(T:a+1<n)(h:∀i,i<n->i≠a->i≠a+1->f i=0)(e:f a+f (a+1)=0):su n f=0:=by
 induction n with
 |zero=>exact absurd ‹_› (RV _)
 |succ n m=>
  by_cases c:a+1=n
  .subst c;rw[su,iK (by exact TH ‹_›) λi hi hn=>h i (by exact QQ ‹_›) hn (by exact Q8 ‹_›)];exact e
  .simp only[su,m Q1 λi hi=>h i (by exact QQ ‹_›),h n (by exact Rc _) Q1 Q1];rfl
noncomputable abbrev Ve:=Nat->Int
noncomputable def sk(i:Nat)(v:Nat->Ve):Nat->Ve:=λj=>if j<i then v j else v (j+1)
noncomputable def up(a:Nat)(u:Ve)(v:Nat->Ve):Nat->Ve:=λj=>if j=a then u else v j
noncomputable def sg(i:Nat):Int:=if i%2=0 then 1 else -1
def D:Nat->(Nat->Ve)->Int
 |0,_=>1
 |k+1,v=>su (k+1) λi=>sg i*v i k*D k (sk i v)
theorem D.eq(k:Nat)(v:Nat->Ve):D (k+1) v=su (k+1) λi=>sg i*v i k*D k (sk i v):=rfl
theorem D.congr:∀{k:Nat}{v w:Nat->Ve},(∀i j,i<k->j<k->v i j=w i j)->D k v=D k w
 |0,_,_,_=>rfl
 |k+1,v,w,h=>ba λi hi=>by
  rw[h i k hi (by exact Rc _),D.congr (w:=sk i w) λa b f d=>by
   unfold sk;split
   .exact h a b (by exact QQ ‹_›) Q1
   .exact h _ b (by exact Rj ‹_›) Q1]
variable{i:Nat}
theorem LC{a:Nat}(h:i≠a)(u:Ve)(v:Nat->Ve):sk i (up a u v)=up (if a<i then a else a-1) u (sk i v):=by funext j;delta sk up;grind
theorem Jc(a:Nat)(u:Ve)(v:Nat->Ve):sk a (up a u v)=sk a v:=by funext j;delta sk up;grind
theorem D.Fi:∀{k a:Nat}{v:Nat->Ve}{u w:Ve}{x y:Int},a<k->D k (up a (λj=>x*u j+y*w j) v)=x*D k (up a u v)+y*D k (up a w v)
 |0,_,_,_,_,_,_,h=>absurd h Q1
 |k+1,a,v,u,w,x,y,h=>by
  rw[D.eq,D.eq,D.eq,<-jM];refine ba λi hi=>?_;by_cases e:i=a
  .subst e;simp only[Jc];simp only[up,YY];grind
  .simp only[LC e];rw[D.Fi (k:=k) (a:=if a<i then a else a-1) (by split<;>lia)];simp only[up,YZ e];grind
theorem Oz(i:Nat):sg (i+1) =-sg i:=by unfold sg;split<;>split<;>lia
theorem D.K4:∀{k a:Nat}{v:Nat->Ve},a+1<k->v a=v (a+1)->D k v=0
 |0,_,_,h,_=>absurd h (by exact absurd ‹_› (RV _))
 |k+1,a,v,h,e=>by
  refine NX h (λi hi h1 h2=>?_) ?_
  .rw[D.K4 (a:=if a<i then a else a-1) (by split<;>lia) (by
    unfold sk;split
    .rw[YY Q1];exact e
    .rw[YZ Q1,YZ Q1];rw[show a-1+1=a by lia];exact e)]
   exact Q9 _
  .have:sk a v=sk (a+1) v:=by
    funext j;unfold sk
    by_cases c:j=a
    .subst c;rw[YZ Z4,YY Q1,e]
    .by_cases J:j<a
     .rw[YY J,YY Q1]
     .rw[YZ J,YZ Q1]
   rw[this,e,Oz];grind
theorem zW{a b:Nat}(h:a≠b)(u w:Ve)(v:Nat->Ve):up a u (up b w v)=up b w (up a u v):=by funext j;unfold up;grind
theorem qG(a:Nat)(v:Nat->Ve):up a (v a) v=v:=by funext j;unfold up;split<;>simp_all
variable{w:Ve}
theorem D.add{k a:Nat}{v:Nat->Ve}{u:Ve}(h:a<k):D k (up a (λj=>u j+w j) v)=D k (up a u v)+D k (up a w v):=by have:=D.Fi (v:=v) (u:=u) (w:=w) (x:=1) (y:=1) h;simpa using this
theorem D.swap{k a:Nat}{v:Nat->Ve}(h:a+1<k):D k (up a (v (a+1)) (up (a+1) (v a) v)) =-D k v:=by
 have z:=D.K4 (v:=up a (λj=>v a j+v (a+1) j) (up (a+1) (λj=>v a j+v (a+1) j) v)) h (by simp[up]);rw[D.add (by exact QJ ‹_›),zW Q1,D.add h,zW (b:=a+1) Q1 (v (a+1)),D.add h] at z;rw[D.K4 h (by simp[up])] at z;rw[D.K4 (v:=up (a+1) (v (a+1)) (up a (v (a+1)) v)) h (by simp[up])] at z;rw[qG,qG,<-zW Q1] at z
 lia
theorem D.two:∀{d k a:Nat}{v:Nat->Ve},a+d+1<k->v a=v (a+d+1)->D k v=0
 |0,k,a,v,h,e=>D.K4 h e
 |d+1,k,a,v,h,e=>by
  have s:=D.swap (k:=k) (a:=a+d+1) (v:=v) h;have z:=D.two (d:=d) (k:=k) (a:=a) (v:=up (a+d+1) (v (a+d+1+1)) (up (a+d+1+1) (v (a+d+1)) v)) Q1 (by simp only[up];rw[YZ Q1,YZ Q1];simp only[if_true];exact e)
  lia
theorem D.alike{k a b:Nat}{v:Nat->Ve}(f:a<k)(E:b<k)(h:a≠b)(e:v a=v b):D k v=0:=by
 by_cases c:a<b
 .exact D.two (d:=b-a-1) (a:=a) Q1 (by rw[show a+(b-a-1)+1=b by lia];exact e)
 .exact D.two (d:=a-b-1) (a:=b) Q1 (by rw[show b+(a-b-1)+1=a by lia];exact e.symm)
variable{c:Nat->Int}
theorem D.sum{k a m:Nat}{v:Nat->Ve}{u:Nat->Ve}(h:a<k):D k (up a (λj=>su m λl=>c l*u l j) v)=su m λl=>c l*D k (up a (u l) v):=by
 induction m with
 |zero=>have:=D.Fi (v:=v) (u:=λ_=>0) (w:=λ_=>0) (x:=0) (y:=0) h;simpa[su] using this
 |succ m O=>simp only[su];rw[D.add h,O];have:=D.Fi (v:=v) (u:=u m) (w:=u m) (x:=c m) (y:=0) h;simp only[Si,RK] at this;simp only[this]
variable{s:Int}
theorem D.J4{k a:Nat}{v:Nat->Ve}(h:a<k)(e:∀j,j<k->s*w j=su k λl=>c l*v l j):s*D k (up a w v)=c a*D k v:=by
 have e1:=D.Fi (k:=k) (a:=a) (v:=v) (u:=w) (w:=w) (x:=s) (y:=0) h;simp only[Si,RK] at e1;rw[<-e1,D.congr (w:=up a (λj=>su k λl=>c l*v l j) v) λi j hi F=>by
  unfold up;split
  .exact e j F
  .rfl,D.sum h,iK h λi hi hn=>by rw[D.alike (b:=i) h hi (Rz hn) (by simp[up,hn]),Q9],qG]
noncomputable def mv(k c:Nat)(v:Nat->Ve):Nat->Ve:=λj=>if j<c then v j else if j+1<k then v (j+1) else if j+1=k then v c else v j
theorem D.mv:∀{d k c:Nat}{v:Nat->Ve},c+d+1=k->(D k (mv k c v)).natAbs=(D k v).natAbs
 |0,k,c,v,h=>by
  have:Sx.mv k c v=v:=by funext j;unfold Sx.mv;grind
  rw[this]
 |d+1,k,c,v,h=>by have s:=D.swap (k:=k) (a:=c) (v:=v) Q1;have z:=D.mv (d:=d) (k:=k) (c:=c+1) (v:=up c (v (c+1)) (up (c+1) (v c) v)) Q1;simp only[show Sx.mv k c v=Sx.mv k (c+1) (up c (v (c+1)) (up (c+1) (v c) v)) by funext j;delta Sx.mv up;grind,z];lia
noncomputable def un(i:Nat):Ve:=λj=>if j=i then 1 else 0
theorem D.un:∀{k:Nat}{v:Nat->Ve},(∀i,i<k->v i=un i)->(D k v).natAbs=1
 |0,_,_=>rfl
 |k+1,v,h=>by
  rw[D.eq,iK (a:=k) Q1 λi hi hn=>by rw[h i hi];simp[Sx.un,Rz hn]];rw[h k Q1];have z:=D.un (v:=sk k v) λi hi=>by unfold sk;rw[YY hi];exact h i (by exact QQ ‹_›)
  simp only[Sx.un,YY];rw[Ry,z];unfold sg;split<;>rfl
theorem md{k a:Nat}{f:Nat->Int}(h:a<k):su k f=f a+su k λl=>if l=a then 0 else f l:=by
 induction k with
 |zero=>lia
 |succ k m=>
  by_cases e:a=k
  .subst e;simp only[su,if_true];rw[ba λi hi=>YZ Q1];lia
  .simp only[su,YZ (Rz e)];rw[m Q1];lia
theorem cw{k:Nat}{x:Int}{f:Nat->Int}:su k (λl=>x*f l)=x*su k f:=by have:=jM (n:=k) (f:=f) (g:=f) (x:=x) (y:=0);simpa using this
noncomputable def Gt(at' a:Nat)(s:Int)(G:Nat->Nat->Int):Nat->Nat->Int:=λi l=>if i=at' then (if l=a then s else G at' l) else if l=a then-G i a else (G at' a*G i l-G i a*G at' l) / s
def Id(k m:Nat)(q:Nat->Int)(s:Int)(W:Nat->Ve)(G:Nat->Nat->Int)(v:Nat->Ve):Prop:=∀i,i<=m->∀j,j<k->s*W i j=su k λl=>q l*G i l*v l j
variable{k m at' col:Nat}{q:Nat->Int}{s:Int}{W v:Nat->Ve}{G:Nat->Nat->Int}
theorem Id.mid(hk:col<k)(hc:q col = -1)(id:Id k m q s W G v)(f:at'<=m)(i:Nat)(hi:i<=m)(j:Nat)(a:j<k):(s*G at' col)*W i j=su k λl=>(if l=col then s*G i col else q l*(G at' col*G i l-G i col*G at' l))*up col (W at') v l j:=by
 have h1:=id i hi j a;have h2:=id at' f j a;rw[md hk] at h1 h2 ⊢;simp only[if_true,hc,up] at h1 h2 ⊢;have e:(su k λl=>if l=col then 0 else (if l=col then s*G i col else q l*(G at' col*G i l-G i col*G at' l))*(if l=col then W at' else v l) j)=G at' col*(su k λl=>if l=col then 0 else q l*G i l*v l j)+(- G i col)*su k λl=>if l=col then 0 else q l*G at' l*v l j:=by
  rw[<-jM];refine ba λl hl=>?_;by_cases c:l=col
  .simp[c]
  .simp only[YZ c];grind
 rw[e];grind
theorem Id.det(hk:col<k)(hc:q col = -1)(hs:s≠0)(K:(D k v).natAbs=s.natAbs)(id:Id k m q s W G v)(f:at'<=m):(D k (up col (W at') v)).natAbs=(G at' col).natAbs:=by
 have h:=D.J4 hk λj a=>id at' f j a;simp only[hc] at h;have e:=Y2 Xl h;simp only[Ry,Ry,Ry,K] at e;have:0<s.natAbs:=by lia
 apply Vd this;rw[e];simp;exact To _ _
theorem Id.dvd(hk:col<k)(R:∀l,q l=1\/q l = -1)(hc:q col = -1)(hs:s≠0)(K:(D k v).natAbs=s.natAbs)(id:Id k m q s W G v)(f:at'<=m)(hp:G at' col≠0)(i:Nat)(hi:i<=m)(l:Nat)(hl:l<k)(hn:l≠col):s ∣ G at' col*G i l-G i col*G at' l:=by
 have d:=id.det hk hc hs K f;have c:=D.J4 hl (id.mid hk hc f i hi);generalize D k (up l (W i) (up col (W at') v))=x at c;generalize D k (up col (W at') v)=y at c d;generalize G at' col*G i l-G i col*G at' l=z at c ⊢;have e:y=G at' col\/y =-G at' col:=by lia
 have e2:q l*z=s*x\/q l*z=s*(-x):=by
  rcases e with e|e<;>subst e
  .exact .inl (RO hp (by grind))
  .exact .inr (RO hp (by grind))
 rcases R l with N|N<;>rw[N] at e2<;>rcases e2 with e2|e2
 .exact⟨x,by grind⟩
 .exact⟨-x,by grind⟩
 .exact⟨-x,by grind⟩
 .exact⟨x,by grind⟩
theorem Id.turn(hk:col<k)(R:∀l,q l=1\/q l = -1)(hc:q col = -1)(hs:s≠0)(K:(D k v).natAbs=s.natAbs)(id:Id k m q s W G v)(f:at'<=m)(hp:G at' col≠0):Id k m q (G at' col) (up at' (v col) W) (Gt at' col s G) (up col (W at') v):=λi hi j a=>by
 by_cases e:i=at'
 .subst e;have h:=id i hi j a;rw[md hk] at h ⊢;simp only[if_true,hc,up,Gt] at h ⊢
  grind
 .have h:=id.mid hk hc f i hi j a;rw[show up at' (v col) W i=W i by simp[up,e]];apply Int.eq_of_mul_eq_mul_left hs;rw[<-cw,<-Sa,h];refine ba λl hl=>?_;simp only[Gt,YZ e];by_cases c:l=col
  .simp only[c,if_true,hc];grind
  .simp only[YZ c];have z:=Uo (id.dvd hk R hc hs K f hp i hi l hl c);rw[<-z];grind
def LP(M:Nat)(f:Nat->Int):Prop:=∃t,t<M/\0<f t/\∀u,u<t->f u=0
def LN(M:Nat)(f:Nat->Int):Prop:=¬ LP M λt=>- f t
variable{M:Nat}{f g h:Nat->Int}{x y:Int}
theorem LP.congr(e:∀t,t<M->f t=g t)(h:LP M f):LP M g:=by obtain⟨t,a,b,c⟩:=h;exact⟨t,a,by rw[<-e t a];exact b,λu I=>by rw[<-e u (by exact SX ‹_› ‹_›)];exact c u I⟩
theorem LP.mul(hx:0<x)(h:LP M f):LP M λt=>x*f t:=by obtain⟨t,a,b,c⟩:=h;exact⟨t,a,Up hx b,λu g=>by simp only[c u g,Q9]⟩
theorem LP.sJ(hx:0<x)(h:LP M λt=>x*f t):LP M f:=by obtain⟨t,a,b,c⟩:=h;exact⟨t,a,Int.pos_of_mul_pos_right b hx,λu g=>(Wn.mp (c u g)).resolve_left (by exact Rg ‹_›)⟩
theorem LN.or(h:LN M f):LP M f\/∀t,t<M->f t=0:=by
 induction M with
 |zero=>exact .inr λt l=>absurd l Q1
 |succ M m=>
  rcases m λ⟨t,a,b⟩=>h ⟨t,by exact QQ ‹_›,b⟩ with ⟨t,a,b⟩|z
  .exact .inl ⟨t,by exact QQ ‹_›,b⟩
  .rcases Int.lt_trichotomy (f M) 0 with c|c|c
   .exact absurd ⟨M,by lia,by show-f M > 0;lia,λu g=>by show-f u=0;rw[z u g];rfl⟩ h
   .exact .inr λt l=>by
     by_cases e:t=M
     .rw[e];exact c
     .exact z t Q1
   .exact .inl ⟨M,by exact Rc _,c,λu g=>z u g⟩
theorem LP.add(a:LP M f)(b:LP M g):LP M λt=>f t+g t:=by
 obtain⟨t,a1,a2,a3⟩:=a;obtain⟨u,b1,b2,J⟩:=b;rcases V4 t u with c|c|c
 .exact⟨t,a1,by show 0<f t+g t;rw[J t c];lia,λw n=>by show f w+g w=0;simp only[a3 w n,J w (by exact SX ‹_› ‹_›)];rfl⟩
 .subst c;exact⟨t,a1,by show 0<f t+g t;lia,λw n=>by show f w+g w=0;simp only[a3 w n,J w n];rfl⟩
 .exact⟨u,b1,by show 0<f u+g u;rw[a3 u c];lia,λw n=>by show f w+g w=0;simp only[a3 w (by exact SX ‹_› ‹_›),J w n];rfl⟩
theorem LP.OP(a:LP M f)(b:LN M g):LP M λt=>f t+g t:=by
 rcases b.or with b|b
 .exact a.add b
 .exact a.congr λt l=>by rw[b t l];simp
theorem LP.ln(a:LP M f):LN M f:=λb=>by
 obtain⟨t,_,c,_⟩:=a.add b;have c:0<f t +-f t:=c
 lia
theorem LN.mul(hx:0<=x)(h:LN M f):LN M λt=>x*f t:=by
 rcases h.or with h|h
 .by_cases e:x=0
  .subst e;rintro⟨t,_,c,_⟩;simp at c
  .exact(LP.mul Q1 h).ln
 .rintro⟨t,a,c,_⟩;simp only[h t a] at c;simp at c
def LL(M:Nat)(f:Nat->Int)(s:Int)(g:Nat->Int)(s':Int):Prop:=LP M λt=>s*g t-s'*f t
theorem LL.Pp:¬ LL M f s f s:=λ⟨t,_,b,_⟩=>by have b:0<s*f t-s*f t:=b;lia
variable{s' s'':Int}
theorem LL.trans(h1:0<s)(h2:0<s')(h3:0<s'')(a:LL M f s g s')(b:LL M g s' h s''):LL M f s h s'':=
 LP.sJ h2 (((LP.mul h1 b).add (LP.mul h3 a)).congr λt _=>by grind)
theorem LL.nt(h1:0<s)(h2:0<s')(h3:0<s'')(a:¬ LL M f s g s')(b:LL M h s'' g s'):¬ LL M f s h s'':=λc=>a (LL.trans h1 h3 h2 c b)
def F(N m:Nat)(ac dn:Nat->Int)(G:Nat->Nat->Int)(s:Int)(i:Nat)(u:Int):Int:=(su N λl=>if ac l=u then G i l else 0)+if i<m/\dn i=u then s else 0
noncomputable def qi(a:Nat)(u:Int)(v:Nat->Int):Nat->Int:=λj=>if j=a then u else v j
variable{N m at' col i:Nat}{ac dn:Nat->Int}{G:Nat->Nat->Int}{s u:Int}
theorem F.own(hk:col<N)(T:at'<m):F N m (qi col (dn at') ac) (qi at' (ac col) dn) (Gt at' col s G) (G at' col) at' u=F N m ac dn G s at' u:=by
 unfold F;rw[md hk,md (f:=λl=>if ac l=u then G at' l else 0) hk];rw[ba (g:=λl=>if l=col then 0 else if ac l=u then G at' l else 0) λl hl=>by
  by_cases c:l=col
  .simp only[YY c]
  .simp only[YZ c,qi,Gt,if_true]]
 simp only[qi,Gt,if_true,T,true_and];lia
theorem F.P7(hk:col<N)(T:at'<m)(hn:i≠at')(hd:∀l,l<N->l≠col->s ∣ G at' col*G i l-G i col*G at' l):s*F N m (qi col (dn at') ac) (qi at' (ac col) dn) (Gt at' col s G) (G at' col) i u=G at' col*F N m ac dn G s i u-G i col*F N m ac dn G s at' u:=by
 unfold F;rw[md hk,md (f:=λl=>if ac l=u then G at' l else 0) hk,md (f:=λl=>if ac l=u then G i l else 0) hk];have e:s*(su N λl=>if l=col then 0 else if qi col (dn at') ac l=u then Gt at' col s G i l else 0)=G at' col*(su N λl=>if l=col then 0 else if ac l=u then G i l else 0)+(- G i col)*(su N λl=>if l=col then 0 else if ac l=u then G at' l else 0):=by
  rw[<-jM,<-cw];refine ba λl hl=>?_;by_cases c:l=col
  .simp[c]
  .simp only[YZ c,qi,Gt,YZ hn];by_cases J:ac l=u
   .simp only[YY J];have z:=Uo (hd l hl c);rw[z];grind
   .simp[YZ J]
 simp only[qi,if_true,YZ hn,T,true_and,Gt] at e ⊢;rw[UX,UX,e];by_cases L:dn at'=u<;>by_cases J:ac col=u<;>by_cases v:i<m/\dn i=u<;>simp only[L,J,v,if_true,if_false]<;>grind
structure Bo where
 ac:List Int
 dn:List Int
 g:List (List Int)
 s:Int
noncomputable def Bo.Gq(b:Bo)(i l:Nat):Int:=(b.g.getD i []).getD l 0
noncomputable def Bo.Aq(b:Bo)(l:Nat):Int:=b.ac.getD l 0
noncomputable def Bo.Bq(b:Bo)(i:Nat):Int:=b.dn.getD i 0
structure Sh(N m:Nat)(b:Bo):Prop where
 ac:b.ac.length=N
 dn:b.dn.length=m
 g:b.g.length=m+1
 r:∀x∈b.g,x.length=N+1
noncomputable def j0(row pr:List Int)(c:Nat)(s:Int):List Int:=
 if row.getD c 0=0 then row.map λx=>(pr.getD c 0*x).fdiv s
 else ((row.zip pr).map λp=>(pr.getD c 0*p.1-row.getD c 0*p.2).fdiv s).set c (- row.getD c 0)
def Bo.raw(b:Bo)(a c:Nat):List (List Int):=(b.g.map λrow=>j0 row (b.g.getD a []) c b.s).set a ((b.g.getD a []).set c b.s)
noncomputable def fH(row:List Int):List Int:=row.map λx=>- x
def Bo.turn(b:Bo)(a c:Nat):Bo:=
 ⟨b.ac.set c (b.dn.getD a 0),b.dn.set a (b.ac.getD c 0),if b.Gq a c<0 then (b.raw a c).map fH else b.raw a c,if b.Gq a c<0 then-b.Gq a c else b.Gq a c⟩
variable{α:Type}
theorem getD_map{β:Type}{f:α->β}{xs:List α}{d:α}{e:β}(h:i<xs.length):(xs.map f).getD i e=f (xs.getD i d):=by simp[QX,h]
variable{j:Nat}
theorem gE{xs:List α}{v d:α}(h:i<xs.length):(xs.set i v).getD j d=if j=i then v else xs.getD j d:=by
 by_cases e:j=i
 .subst e;simp[QX,h]
 .simp[QX,e,QY (Rz e)]
theorem getD_mem{xs:List (List Int)}(h:i<xs.length):xs.getD i []∈xs:=by simp[QX,h]
variable{N m a c i l:Nat}{b:Bo}
theorem Sh.row(h:Sh N m b)(hi:i<=m):(b.g.getD i []).length=N+1:=h.r _ (getD_mem (by rw[h.g];exact Rj ‹_›))
variable{pr:List Int}
theorem D6{row:List Int}(h1:row.length=N+1)(h2:pr.length=N+1)(hc:c<N+1)(hl:l<N+1)(hs:s≠0)(hd:l≠c->s ∣ pr.getD c 0*row.getD l 0-row.getD c 0*pr.getD l 0):
  (j0 row pr c s).getD l 0=if l=c then-row.getD c 0 else (pr.getD c 0*row.getD l 0-row.getD c 0*pr.getD l 0) / s:=by
 unfold j0;by_cases e:row.getD c 0=0
 .rw[YY e,getD_map (d:=0) Q1,e];by_cases e2:l=c
  .subst e2;rw[YY rfl,e];simp
  .rw[YZ e2];have z:=hd e2;rw[e] at z;simp only[Si,Int.sub_zero] at z ⊢;exact Vs z
 .rw[YZ e,gE (by simp;lia)];by_cases e2:l=c
  .rw[YY e2,YY e2]
  .rw[YZ e2,YZ e2,getD_map (d:=(0,0)) (by simp;lia)];rw[Vs (by have z:=hd e2;simpa[QX,Sz,h1,h2,hl,QP] using z)]
   simp[QX,h1,h2,hl]
theorem zr{row:List Int}(h1:row.length=N+1)(h2:pr.length=N+1):(j0 row pr c s).length=N+1:=by unfold j0;split<;>simp[h1,h2]
theorem Bo.GY(h:Sh N m b)(f:a<=m)(hc:c<N+1)(hs:b.s≠0)(hd:∀i,i<=m->∀l,l<N+1->l≠c->b.s ∣ b.Gq a c*b.Gq i l-b.Gq i c*b.Gq a l)(hi:i<=m)(hl:l<N+1):((b.raw a c).getD i []).getD l 0=Gt a c b.s b.Gq i l:=by
 unfold Bo.raw;rw[gE (by simp[h.g];exact Rj ‹_›)];by_cases e:i=a
 .subst e;rw[YY rfl,gE (by rw[h.row f];lia)];simp only[Gt,if_true];rfl
 .rw[YZ e,getD_map (by rw[h.g];exact Rj ‹_›),D6 (h.row hi) (h.row f) hc hl hs (hd i hi l hl)];simp only[Gt,YZ e];rfl
theorem Sh.raw(h:Sh N m b)(f:a<=m)(x:List Int)(hx:x∈b.raw a c):x.length=N+1:=by
 rcases List.mem_or_eq_of_mem_set hx with z|z
 .obtain⟨r,S,rfl⟩:=Q2.mp z;exact zr (h.r r S) (h.row f)
 .subst z;rw[UW];exact h.row f
theorem Sh.turn(h:Sh N m b)(f:a<=m):Sh N m (b.turn a c):=by
 refine⟨by simp[Bo.turn,h.ac],by simp[Bo.turn,h.dn],?_,?_⟩
 .show WK (ite _ _ _)=_;split<;>simp[Bo.raw,h.g]
 .intro x hx;have hx:x∈(if b.Gq a c<0 then (b.raw a c).map fH else b.raw a c):=hx;split at hx
  .obtain⟨y,hy,rfl⟩:=Q2.mp hx;simpa[fH] using h.raw f y hy
  .exact h.raw f x hx
noncomputable def sn(x:Int):Int:=if x<0 then -1 else 1
theorem Bo.my(h:Sh N m b)(f:a<=m)(hc:c<N+1)(hs:b.s≠0)(hd:∀i,i<=m->∀l,l<N+1->l≠c->b.s ∣ b.Gq a c*b.Gq i l-b.Gq i c*b.Gq a l)(hi:i<=m)(hl:l<N+1):(b.turn a c).Gq i l=sn (b.Gq a c)*Gt a c b.s b.Gq i l:=by
 have z:=b.GY h f hc hs hd hi hl;have P:i<(b.raw a c).length:=by simp[Bo.raw,h.g];exact Rj ‹_›
 show (QX (ite _ _ _) i []).getD l 0=_;unfold sn;by_cases e:b.Gq a c<0
 .rw[YY e,YY e,getD_map P];unfold fH;rw[getD_map (by rw[h.raw f _ (getD_mem P)];exact hl),z];simp
 .rw[YZ e,YZ e,z];simp
theorem Bo.iF:(b.turn a c).s=sn (b.Gq a c)*b.Gq a c:=by show ite _ _ _=_;unfold sn;split<;>simp
theorem Bo.oH(h:Sh N m b)(hc:c<N):(b.turn a c).Aq=qi c (b.Bq a) b.Aq:=by funext l;exact gE (by rw[h.ac];exact hc)
theorem Bo.mF(h:Sh N m b)(f:a<m):(b.turn a c).Bq=qi a (b.Aq c) b.Bq:=by funext l;exact gE (by rw[h.dn];exact f)
structure Pb where
 n:Nat
 m:Nat
 c:Nat->Int
 R:Nat->Nat->Int
 L:Nat->Int
def Pb.Yq(P:Pb)(u:Int):Ve:=if u = -1 then un (P.n+1) else if u<P.n then un u.toNat else λj=>if j<P.n then-P.R (u-P.n).toNat j else if j=P.n then P.L (u-P.n).toNat else 1
noncomputable def Pb.zq(P:Pb):Ve:=λj=>if j<P.n then P.c j else 0
def Pb.vec(P:Pb)(N:Nat)(b:Bo):Nat->Ve:=λl=>if l<N then P.Yq (b.Aq l) else if l=N then un P.n else un (P.n+1)
def Pb.Wq(P:Pb)(b:Bo):Nat->Ve:=λi=>if i<P.m then P.Yq (b.Bq i) else P.zq
def Gx(N:Nat)(b:Bo)(T:Nat->Int):Nat->Nat->Int:=λi l=>if l<=N then b.Gq i l else T i
noncomputable def qs(N l:Nat):Int:=if l<N then -1 else 1
structure Ok(P:Pb)(N:Nat)(b:Bo):Prop where
 sh:Sh N P.m b
 nd:(b.ac++b.dn).Nodup
 nm:∀u,u∈b.ac++b.dn↔(if N=P.n then 0 else -1)<=u/\u<(P.n+P.m:Nat)
 pos:0<b.s
 hN:N=P.n\/N=P.n+1
 det:(D (P.n+2) (P.vec N b)).natAbs=b.s.natAbs
 id:∃T,Id (P.n+2) P.m (qs N) b.s (P.Wq b) (Gx N b T) (P.vec N b)
variable{P:Pb}{N a c i l:Nat}{b:Bo}
theorem Ok.hc(h:Ok P N b)(hc:c<N):c<P.n+2:=by have:=h.hN;lia
theorem Ok.dvd(h:Ok P N b)(f:a<P.m)(hc:c<N)(hp:b.Gq a c≠0)(i:Nat)(hi:i<=P.m)(l:Nat)(hl:l<N+1)(hn:l≠c):b.s ∣ b.Gq a c*b.Gq i l-b.Gq i c*b.Gq a l:=by obtain⟨T,id⟩:=h.id;have:=h.hN;have hs:=h.pos;have z:=Id.dvd (at':=a) (h.hc hc) (λl=>by unfold qs;split<;>decide) (by simp[qs,hc]) (by exact Rg ‹_›) h.det id (by exact QJ ‹_›) (by simpa[Gx,QJ hc] using hp) i hi l Q1 hn;simpa[Gx,QJ hc,TH hl] using z
theorem rY(h:Sh N P.m b)(f:a<P.m)(hc:c<N):P.vec N (b.turn a c)=up c (P.Wq b a) (P.vec N b):=by
 funext l
 delta Pb.vec up Pb.Wq
 rw[Bo.oH h hc,YY f]
 by_cases e:l=c
 .subst e;simp[qi,hc]
 .simp[qi,e]
theorem JY(h:Sh N P.m b)(f:a<P.m)(hc:c<N):P.Wq (b.turn a c)=up a (P.vec N b c) (P.Wq b):=by
 funext i
 delta Pb.vec up Pb.Wq
 rw[Bo.mF h f,YY hc]
 by_cases e:i=a
 .subst e;simp[qi,f]
 .simp[qi,e]
theorem K3(h:x≠0):0<sn x*x:=by unfold sn;split<;>lia
theorem LU(x:Int):sn x=1\/sn x = -1:=by unfold sn;split<;>simp
theorem swap_perm[DecidableEq α]{xs ys:List α}{c a:Nat}(hc:c<xs.length)(f:a<ys.length)(d:α):(xs.set c (ys.getD a d)++ys.set a (xs.getD c d)).Perm (xs++ys):=by
 have e1:xs.getD c d=xs[c]:=by simp[QX,hc]
 have e2:ys.getD a d=ys[a]:=by simp[QX,f]
 simp only[e1,e2];have C:(xs.set c ys[a]).Perm (ys[a]::xs.eraseIdx c):=by simp only[UE,YY hc,Ri];exact RS
 have T:(ys.set a xs[c]).Perm (xs[c]::ys.eraseIdx a):=by rw[UE,YY f,Ri];exact RS
 have h:xs.Perm (xs[c]::xs.eraseIdx c):=by rw[Ri];have:=RS (a:=xs[c]) (l₁:=xs.take c) (l₂:=xs.drop (c+1));simp only[T4,R1] at this;exact this
 have e:ys.Perm (ys[a]::ys.eraseIdx a):=by rw[Ri];have:=RS (a:=ys[a]) (l₁:=ys.take a) (l₂:=ys.drop (a+1));simp only[T4,R1] at this;exact this
 refine(C.append T).trans (VC ?_ (h.append e).symm);generalize xs.eraseIdx c=X;generalize ys.eraseIdx a=Z;exact((RS.cons _).trans (VM _ _ _)).trans (RS.symm.cons _)
theorem Ok.turn(h:Ok P N b)(f:a<P.m)(hc:c<N)(hp:b.Gq a c≠0):Ok P N (b.turn a c):=by
 have hs:=h.pos;have hN:=h.hN;have pm:((b.turn a c).ac++(b.turn a c).dn).Perm (b.ac++b.dn):=swap_perm (by rw[h.sh.ac];exact hc) (by rw[h.sh.dn];exact f) 0;have R:∀l,qs N l=1\/qs N l = -1:=λl=>by unfold qs;split<;>simp
 have B:qs N c = -1:=by simp[qs,hc]
 obtain⟨T,id⟩:=h.id;have x:∀i,Gx N b T i c=b.Gq i c:=λi=>by simp[Gx,QJ hc]
 have n:Gx N b T a c≠0:=by rw[x];exact hp
 refine⟨h.sh.turn Q1,pm.nodup_iff.mpr h.nd,λu=>by rw[pm.mem_iff];exact h.nm u,?_,hN,?_,?_⟩
 .rw[Bo.iF];exact K3 hp
 .rw[rY h.sh f hc,Id.det (h.hc hc) B (by exact Rg ‹_›) h.det id Q1,x,Bo.iF];rcases LU (b.Gq a c) with e|e<;>rw[e]<;>lia
 .refine⟨λi=>sn (b.Gq a c)*Gt a c b.s (Gx N b T) i (N+1),λi hi j k=>?_⟩;have z:=Id.turn (h.hc hc) R B Q1 h.det id Q1 n i hi j k;rw[rY h.sh f hc,JY h.sh f hc,Bo.iF,Sa,<-x a,z,<-cw];refine ba λl hl=>?_;have e:Gx N (b.turn a c) (λi=>sn (b.Gq a c)*Gt a c b.s (Gx N b T) i (N+1)) i l=sn (Gx N b T a c)*Gt a c b.s (Gx N b T) i l:=by
   unfold Gx;by_cases e:l<=N
   .rw[YY e,Bo.my h.sh Q1 Q1 Q1 (h.dvd f hc hp) hi Q1];simp[Gt,QJ hc,e]
   .rw[YZ e,show l=N+1 by lia];simp[QJ hc]
  rw[<-x a] at e;rw[e];grind
def Fb(P:Pb)(N:Nat)(b:Bo)(i:Nat)(u:Int):Int:=F N P.m b.Aq b.Bq b.Gq b.s i u
def Rr(P:Pb)(N:Nat)(b:Bo)(i t:Nat):Int:=if t=0 then b.Gq i N else Fb P N b i ((P.n+(t-1):Nat):Int)
variable{P:Pb}{N a c i l:Nat}{b:Bo}
theorem F.scale{ac dn:Nat->Int}{G G':Nat->Nat->Int}(e:∀l,l<N->G' i l=x*G i l):F N m ac dn G' (x*s) i u=x*F N m ac dn G s i u:=by
 unfold F;rw[UX,<-cw]
 congr 1
 .refine ba λl hl=>?_;split
  .exact e l hl
  .simp
 .split<;>simp
theorem Ok.Fa(h:Ok P N b)(f:a<P.m)(hc:c<N)(hp:b.Gq a c≠0)(u:Int):Fb P N (b.turn a c) a u=sn (b.Gq a c)*Fb P N b a u:=by unfold Fb;rw[Bo.oH h.sh hc,Bo.mF h.sh f,Bo.iF,F.scale λl hl=>Bo.my h.sh Q1 (by exact QQ ‹_›) (by have:=h.pos;exact Rg ‹_›) (h.dvd f hc hp) Q1 (by exact QQ ‹_›),F.own hc f]
theorem Ok.Fo(h:Ok P N b)(f:a<P.m)(hc:c<N)(hp:b.Gq a c≠0)(hi:i<=P.m)(hn:i≠a)(u:Int):b.s*Fb P N (b.turn a c) i u=sn (b.Gq a c)*(b.Gq a c*Fb P N b i u-b.Gq i c*Fb P N b a u):=by
 unfold Fb;rw[Bo.oH h.sh hc,Bo.mF h.sh f,Bo.iF,F.scale λl hl=>Bo.my h.sh (by exact QJ ‹_›) (by exact QQ ‹_›) (by have:=h.pos;exact Rg ‹_›) (h.dvd f hc hp) hi (by exact QQ ‹_›)];rw[<-F.P7 hc f hn λl hl H=>h.dvd f hc hp i hi l (by exact QQ ‹_›) H]
 grind
theorem Ok.Ra(h:Ok P N b)(f:a<P.m)(hc:c<N)(hp:b.Gq a c≠0)(t:Nat):Rr P N (b.turn a c) a t=sn (b.Gq a c)*Rr P N b a t:=by
 unfold Rr;split
 .rw[Bo.my h.sh Q1 (by exact QQ ‹_›) (by have:=h.pos;exact Rg ‹_›) (h.dvd f hc hp) Q1 (by exact Rc _)];simp[Gt,show N≠c by exact T8 ‹_›]
 .exact h.Fa f hc hp _
theorem Ok.Ro(h:Ok P N b)(f:a<P.m)(hc:c<N)(hp:b.Gq a c≠0)(hi:i<=P.m)(hn:i≠a)(t:Nat):b.s*Rr P N (b.turn a c) i t=sn (b.Gq a c)*(b.Gq a c*Rr P N b i t-b.Gq i c*Rr P N b a t):=by
 unfold Rr;split
 .rw[Bo.my h.sh (by exact QJ ‹_›) (by exact QQ ‹_›) (by have:=h.pos;exact Rg ‹_›) (h.dvd f hc hp) hi Q1];have z:=Uo (h.dvd f hc hp i hi N Q1 (by exact T8 ‹_›));rw[Gt,YZ hn,YZ (show N≠c by exact T8 ‹_›)]
  grind
 .exact h.Fo f hc hp hi hn _
theorem getD_inj{xs:List Int}(h:xs.Nodup)(hi:i<xs.length)(a:j<xs.length)(e:xs.getD i 0=xs.getD j 0):i=j:=by simp only[QX,QP hi,QP a,SY] at e;exact(VX h).mp e
theorem Ok.Ai(h:Ok P N b){U:Nat}(hl:l<N)(x:U<N)(e:b.Aq l=b.Aq U):l=U:=
 getD_inj (QE.mp h.nd).1 (by rw[h.sh.ac];exact hl) (by rw[h.sh.ac];exact x) e
theorem Ok.Am(h:Ok P N b)(hl:l<N):b.Aq l∈b.ac:=by have:=h.sh.ac;simp[Bo.Aq,QX,this,hl]
theorem Ok.Bm(h:Ok P N b)(hi:i<P.m):b.Bq i∈b.dn:=by have:=h.sh.dn;simp[Bo.Bq,QX,this,hi]
theorem Ok.AB(h:Ok P N b)(hl:l<N)(hi:i<P.m):b.Bq i≠b.Aq l:=λe=>(QE.mp h.nd).2.2 _ (h.Am hl) _ (h.Bm hi) e.symm
theorem Ok.H9(h:Ok P N b)(hl:l<N)(i:Nat):Fb P N b i (b.Aq l)=b.Gq i l:=by
 delta Fb F
 rw[iK hl λU x hn=>YZ λe=>hn (h.Ai x hl e),YY rfl,YZ λz=>h.AB hl z.1 z.2];simp
theorem Ok.Oi(h:Ok P N b)(hi:i<P.m):Fb P N b i (b.Bq i)=b.s:=by
 delta Fb F
 rw[fU λl hl=>YZ λe=>h.AB hl hi e.symm,YY ⟨hi,rfl⟩];simp
theorem Ok.xR(h:Ok P N b)(g:u∈b.ac++b.dn):-1<=u/\u<(P.n+P.m:Nat):=by have:=(h.nm u).mp g;split at this<;>lia
theorem Ok.nz(h:Ok P N b)(hi:i<P.m)(z:∀t,t<P.m+1->Rr P N b i t=0):False:=by
 have hs:=h.pos;have hN:=h.hN;have Y:∀u:Int,(P.n:Int)<=u->u<(P.n+P.m:Nat)->Fb P N b i u=0:=λu h1 h2=>by have:=z ((u-P.n).toNat+1) Q1;unfold Rr at this;rw[YZ Q1,show ((P.n+((u-P.n).toNat+1-1):Nat):Int)=u by lia] at this;exact this
 have I:=h.xR (Qs b.ac (h.Bm hi));by_cases L:(P.n:Int)<=b.Bq i
 .have:=Y _ L I.2;rw[h.Oi hi] at this;lia
 .obtain⟨T,id⟩:=h.id;have p:=(h.nm _).mp (Qs b.ac (h.Bm hi));obtain⟨j,c⟩:∃j:Nat,j=if b.Bq i = -1 then P.n+1 else (b.Bq i).toNat:=⟨_,rfl⟩
  have a:j<P.n+2:=by rw[c];split<;>lia
  have Z:j≠P.n:=by rw[c];split<;>lia
  have e:=id i Q1 j a;rw[fU λl hl=>?_] at e
  .have w:P.Wq b i j=1:=by
    unfold Pb.Wq Pb.Yq;rw[YY hi,c];by_cases J:b.Bq i = -1
    .simp[J,un]
    .rw[YZ J,YZ J,YY Q1];simp[un]
   rw[w] at e;lia
  .by_cases J:l<N
   .have k:=h.AB J hi;have A:=h.xR (Qu b.dn (h.Am J));by_cases v:(P.n:Int)<=b.Aq l
    .have g:=Y _ v A.2;rw[h.H9 J] at g;simp[Gx,QJ J,g]
    .have x:P.vec N b l j=0:=by
      unfold Pb.vec Pb.Yq;rw[YY J,c];by_cases X:b.Aq l = -1<;>by_cases r:b.Bq i = -1
      .lia
      .rw[YY X,YZ r];exact YZ Q1
      .rw[YZ X,YY Q1,YY r];exact YZ Q1
      .rw[YZ X,YY Q1,YZ r];exact YZ Q1
     rw[x,Q9]
   .by_cases v:l=N
    .have g:=z 0 Q1;simp only[Rr,if_true] at g;subst v;simp[Gx,g]
    .have x:P.vec N b l j=0:=by
      unfold Pb.vec;rw[YZ J,YZ v];refine YZ ?_;have:N=P.n:=by lia
      rw[YY this] at p;rw[c];split<;>lia
     rw[x,Q9]
theorem oP{n:Nat}{f:Nat->Nat->Int}:(su n λi=>su m λj=>f i j)=su m λj=>su n λi=>f i j:=by
 induction n with
 |zero=>exact(fU λ_ _=>rfl).symm
 |succ n O=>simp only[su];rw[O];have:=jM (n:=m) (f:=λj=>su n λi=>f i j) (g:=λj=>f n j) (x:=1) (y:=1);simp only[RI] at this;exact this.symm
variable{P:Pb}{N:Nat}{b b1 b2:Bo}
theorem Ok.Ax(h:Ok P N b)(g:u∈b.ac):∃l,l<N/\b.Aq l=u:=by obtain⟨l,hl,e⟩:=RF g;exact⟨l,by rw[<-h.sh.ac];exact hl,by simp[Bo.Aq,QX,hl,e]⟩
def Fc(N:Nat)(b:Bo)(r:Nat)(u:Int):Int:=su N λl=>if b.Aq l=u then b.Gq r l else 0
theorem Ok.perm(h1:Ok P N b1)(h2:Ok P N b2)(hs:∀u,u∈b1.ac↔u∈b2.ac)(r:Nat)(y:Int->Int):(su N λl=>Fc N b2 r (b1.Aq l)*y (b1.Aq l))=su N λl=>b2.Gq r l*y (b2.Aq l):=by
 unfold Fc;rw[ba (g:=λl=>su N λU=>(if b2.Aq U=b1.Aq l then b2.Gq r U*y (b2.Aq U) else 0)) λl hl=>by
  rw[Rh,<-cw];refine ba λU x=>?_;by_cases e:b2.Aq U=b1.Aq l
  .rw[YY e,YY e,e];exact Rh _ _
  .rw[YZ e,YZ e,Q9],oP]
 refine ba λU x=>?_;obtain⟨l,hl,e⟩:=h1.Ax ((hs _).mpr (h2.Am x));rw[iK hl λi hi hn=>YZ λz=>hn (h1.Ai hi hl (z.symm.trans e.symm)),YY e.symm]
variable{r1 r2:Nat}
theorem Ok.cols(h1:Ok P N b1)(h2:Ok P N b2)(hs:∀u,u∈b1.ac↔u∈b2.ac)(e:r1<=P.m)(b:r2<=P.m)(A:P.Wq b1 r1=P.Wq b2 r2):
  (∀l,l<N->b1.s*Fc N b2 r2 (b1.Aq l)=b2.s*b1.Gq r1 l)/\b1.s*b2.Gq r2 N=b2.s*b1.Gq r1 N:=by
 obtain⟨c,F⟩:=h1.id;obtain⟨h,I⟩:=h2.id;have hN:=h1.hN;have C:=h1.pos;have dn:D (P.n+2) (P.vec N b1)≠0:=λz=>by have:=h1.det;rw[z] at this;simp at this;lia
 have key:∀j,j<P.n+2->b2.s*P.Wq b1 r1 j=su (P.n+2) λl=>(if l<N then-Fc N b2 r2 (b1.Aq l) else if l=N then b2.Gq r2 N else h r2)*P.vec N b1 l j:=λj a=>by
  simp only[A,I r2 b j a];have q:=h1.perm h2 hs r2 λu=>P.Yq u j;have e1:(su N λl=>qs N l*Gx N b2 h r2 l*P.vec N b2 l j) =-su N λl=>b2.Gq r2 l*P.Yq (b2.Aq l) j:=by rw[<-RW,<-cw];refine ba λl hl=>?_;simp only[qs,Gx,Pb.vec,YY hl,YY (QJ hl)];grind
  have e2:(su N λl=>(if l<N then-Fc N b2 r2 (b1.Aq l) else if l=N then b2.Gq r2 N else h r2)*P.vec N b1 l j) =-su N λl=>Fc N b2 r2 (b1.Aq l)*P.Yq (b1.Aq l) j:=by rw[<-RW,<-cw];refine ba λl hl=>?_;simp only[Pb.vec,YY hl];grind
  rcases hN with z|z
  .rw[<-z];simp only[su];simp only[e1,e2,q];simp[qs,Gx,Pb.vec,show ¬ N+1<N by simp,show ¬ N+1<=N by lia]
  .rw[show P.n+2=N+1 by lia];simp only[su];rw[e1,e2,q];simp[qs,Gx,Pb.vec]
 have go:∀l,l<P.n+2->b1.s*(if l<N then-Fc N b2 r2 (b1.Aq l) else if l=N then b2.Gq r2 N else h r2)=b2.s*(qs N l*Gx N b1 c r1 l):=λl hl=>by
  have L:=D.J4 (v:=P.vec N b1) (w:=P.Wq b1 r1) (s:=b1.s) hl (F r1 e);have J:=D.J4 (v:=P.vec N b1) (w:=P.Wq b1 r1) (s:=b2.s) hl key;refine RO dn ?_
  grind
 refine⟨λl hl=>?_,?_⟩
 .have z:=go l (h1.hc hl);simp only[qs,Gx,YY hl,YY (QJ hl)] at z
  grind
 .have z:=go N Q1;simp only[qs,Gx,QU,if_false,if_true,QB] at z
  grind
theorem Ok.uniq(h1:Ok P N b1)(h2:Ok P N b2)(hs:∀u,u∈b1.ac↔u∈b2.ac)(e:r1<=P.m)(b:r2<=P.m)(A:P.Wq b1 r1=P.Wq b2 r2)(x:r1<P.m->b1.Bq r1<P.n)(o2:r2<P.m->b2.Bq r2<P.n)(t:Nat):
  b2.s*Rr P N b1 r1 t=b1.s*Rr P N b2 r2 t:=by
 obtain⟨L,J⟩:=h1.cols h2 hs e b A;unfold Rr;split
 .exact J.symm
 .generalize g:((P.n+(t-1):Nat):Int)=u;have B:Fb P N b1 r1 u=Fc N b1 r1 u:=by unfold Fb F Fc;rw[YZ λz=>by have:=x z.1;lia];exact RK _
  have h:Fb P N b2 r2 u=Fc N b2 r2 u:=by unfold Fb F Fc;rw[YZ λz=>by have:=o2 z.1;lia];exact RK _
  rw[B,h];by_cases m:u∈b1.ac
  .obtain⟨l,hl,rfl⟩:=h1.Ax m;rw[L l hl];unfold Fc;rw[iK hl λi hi hn=>YZ λz=>hn (h1.Ai hi hl z),YY rfl]
  .unfold Fc;rw[fU λl hl=>YZ λ(z:b1.Aq l=u)=>m (by rw[<-z];exact h1.Am hl),fU λl hl=>YZ λ(z:b2.Aq l=u)=>m ((hs u).mpr (by rw[<-z];exact h2.Am hl))];simp
variable{P:Pb}{N a c:Nat}{b b':Bo}
def Lp(P:Pb)(N:Nat)(b:Bo):Prop:=∀i,i<P.m->LP (P.m+1) (Rr P N b i)
theorem Lp.turn(h:Ok P N b)(X:Lp P N b)(f:a<P.m)(hc:c<N)(hp:0<b.Gq a c)(hm:∀i,i<P.m->0<b.Gq i c->¬ LL (P.m+1) (Rr P N b i) (b.Gq i c) (Rr P N b a) (b.Gq a c)):Lp P N (b.turn a c):=λi hi=>by
 have hs:=h.pos;have p:sn (b.Gq a c)=1:=YZ Q1;by_cases e:i=a
 .subst e;exact(X i hi).congr λt _=>by rw[h.Ra hi hc Q1,p,RI]
 .have q:∀t,b.s*Rr P N (b.turn a c) i t=b.Gq a c*Rr P N b i t+(- b.Gq i c)*Rr P N b a t:=λt=>by rw[h.Ro f hc Q1 Q1 e,p];grind
  by_cases g:b.Gq i c<=0
  .exact LP.sJ hs (((LP.mul hp (X i hi)).OP (LN.mul (x:=- b.Gq i c) Q1 (X a f).ln)).congr λt _=>(q t).symm)
  .have z:LN (P.m+1) λt=>b.s*Rr P N (b.turn a c) i t:=λz=>hm i hi Q1 (z.congr λt _=>by show-(b.s*Rr P N (b.turn a c) i t)=_;rw[q t];grind);rcases z.or with z|z
   .exact LP.sJ hs z
   .exact((h.turn f hc Q1).nz hi λt l=>(Wn.mp (z t l)).resolve_left Q1).elim
variable{r:Nat}
theorem Ok.pA(h:Ok P N b)(X:Lp P N b)(f:a<P.m)(hc:c<N)(hp:0<b.Gq a c)(S:r<=P.m)(hn:r≠a)(J:b.Gq r c<0):LL (P.m+1) (Rr P N b r) b.s (Rr P N (b.turn a c) r) (b.turn a c).s:=by have p:sn (b.Gq a c)=1:=YZ Q1;refine(LP.mul (x:=- b.Gq r c) Q1 (X a f)).congr λt _=>?_;rw[Bo.iF,h.Ro f hc Q1 S hn,p];grind
theorem Ok.OV(h:Ok P N b)(X:Lp P N b)(f:a<P.m)(hc:c<N)(hp:0<b.Gq a c)(S:r<=P.m)(hn:r≠a)(J:0<b.Gq r c):LL (P.m+1) (Rr P N (b.turn a c) r) (b.turn a c).s (Rr P N b r) b.s:=by have p:sn (b.Gq a c)=1:=YZ Q1;refine(LP.mul J (X a f)).congr λt _=>?_;rw[Bo.iF,h.Ro f hc Q1 S hn,p];grind
noncomputable def allB:Nat->List (List Bool)
 |0=>[[]]
 |k+1=>(allB k).map (true::·)++(allB k).map (false::·)
theorem lJ:∀{x:List Bool}{k:Nat},x.length=k->x∈allB k
 |[],_,rfl=>QR.mpr rfl
 |true::x,_,rfl=>Qu _ (Q2.mpr ⟨x,lJ rfl,rfl⟩)
 |false::x,_,rfl=>Qs _ (Q2.mpr ⟨x,lJ rfl,rfl⟩)
theorem qC{α:Type}{p q:α->Bool}(h:∀x,q x=true->p x=true){x0:α}(h1:p x0=true)(h2:q x0=false):∀{L:List α},x0∈L->L.countP q<L.countP p
 |[],z=>nomatch z
 |x::L,z=>by
  have le:=List.countP_mono_left (l:=L) λy _=>h y;simp only[V5,V5];rcases QC.mp z with rfl|z
  .rw[h1,h2];simp;exact Rj ‹_›
  .have:=qC h h1 h2 z;by_cases e:q x=true
   .rw[e,h x e];simp;lia
   .rw[YZ e];lia
noncomputable def key(P:Pb)(b:Bo):List Bool:=(QK (P.n+P.m+1)).map λk=>b.ac.contains ((S4 k)-1)
theorem BU{b1 b2:Bo}(h1:Ok P N b1)(h2:Ok P N b2)(e:key P b1=key P b2)(u:Int):u∈b1.ac↔u∈b2.ac:=by
 have go:∀{b1 b2:Bo},Ok P N b1->key P b1=key P b2->u∈b1.ac->u∈b2.ac:=λ{b1 b2} h1 e g=>by have r:=h1.xR (Qu _ g);have z:=Y2 (λx=>x[(u+1).toNat]?) e;simp only[key,Q0,Sf (show (u+1).toNat<P.n+P.m+1 by lia),VU,Vh,show S4 (u+1).toNat-1=u by have:S4 (u+1).toNat=((u+1).toNat:Int):=rfl;lia] at z;exact Sn.mp (z▸Sn.mpr g)
 exact⟨go h1 e,go h2 e.symm⟩
open Classical in
def ms(P:Pb)(K:Bo->Prop)(ob:Bo->Nat->Int)(b:Bo):Nat:=(allB (P.n+P.m+1)).countP λx=>decide (∃b',K b'/\key P b'=x/\LL (P.m+1) (ob b) b.s (ob b') b'.s)
open Classical in
theorem EV{K:Bo->Prop}{ob:Bo->Nat->Int}(hs:∀b,K b->0<b.s)(g:∀b1 b2,K b1->K b2->key P b1=key P b2->∀t,b2.s*ob b1 t=b1.s*ob b2 t)(h:K b)(h':K b')(i:LL (P.m+1) (ob b) b.s (ob b') b'.s):ms P K ob b'<ms P K ob b:=by
 refine qC (x0:=key P b') (λx hx=>?_) (Y1 ⟨b',h',rfl,i⟩) (Y0 ?_) (lJ (by simp[key]))
 .obtain⟨c,k,e,l⟩:=Y4 hx;exact Y1 ⟨c,k,e,LL.trans (hs _ h) (hs _ h') (hs _ k) i l⟩
 .rintro⟨c,k,e,l⟩;obtain⟨t,_,z,_⟩:=l;have:=g b' c h' k e.symm t;have z:0<b'.s*ob c t-c.s*ob b' t:=z;lia
variable{P:Pb}{N c:Nat}{b:Bo}
theorem yQ{n:Nat}{f g:Nat->Int}:su n (λi=>f i-g i)=su n f-su n g:=by have:=jM (n:=n) (f:=f) (g:=g) (x:=1) (y:=-1);simp only[RI] at this;simp only[show su n f-su n g=su n f + -1*su n g by lia,<-this];exact ba λi _=>by lia
theorem NP(u:Int)(g:-1<=u)(h2:u<(P.n+P.m:Nat))(D:j<P.n):P.Yq u j=(if u=j then 1 else 0)-su P.m λk=>if u=((P.n+k:Nat):Int) then P.R k j else 0:=by
 unfold Pb.Yq;by_cases L:u = -1
 .rw[YY L,fU λk hk=>YZ Q1,YZ Q1];exact YZ Q1
 .rw[YZ L];by_cases J:u<P.n
  .rw[YY J,fU λk hk=>YZ Q1];unfold un;by_cases v:u=j
   .rw[YY Q1,YY v];rfl
   .rw[YZ Q1,YZ v];rfl
  .have e1:(if u=(j:Int) then (1:Int) else 0)=0:=YZ Q1;have e2:(su P.m λk=>if u=((P.n+k:Nat):Int) then P.R k j else 0)=P.R (u-P.n).toNat j:=by rw[iK (a:=(u-P.n).toNat) Q1 λk hk hn=>YZ Q1];exact YY Q1
   rw[YZ J,e1,e2];simp[D]
theorem P1(u:Int)(g:-1<=u)(h2:u<(P.n+P.m:Nat)):P.Yq u P.n=su P.m λk=>if u=((P.n+k:Nat):Int) then P.L k else 0:=by
 unfold Pb.Yq;by_cases s:u = -1
 .rw[YY s,fU λk hk=>YZ Q1];exact YZ Z4
 .rw[YZ s];by_cases J:u<P.n
  .rw[YY J,fU λk hk=>YZ Q1];exact YZ Q1
  .have e2:(su P.m λk=>if u=((P.n+k:Nat):Int) then P.L k else 0)=P.L (u-P.n).toNat:=by rw[iK (a:=(u-P.n).toNat) Q1 λk hk hn=>YZ Q1];exact YY Q1
   rw[YZ J,e2];simp
theorem Fz{x:Nat->Int}:(su N λl=>b.Gq r l*su P.m λk=>if b.Aq l=((P.n+k:Nat):Int) then x k else 0)=su P.m λk=>Fc N b r ((P.n+k:Nat):Int)*x k:=by
 rw[ba (g:=λl=>su P.m λk=>if b.Aq l=((P.n+k:Nat):Int) then b.Gq r l*x k else 0) λl hl=>by rw[<-cw];refine ba λk hk=>?_;split<;>simp,oP]
 refine ba λk hk=>?_;unfold Fc;rw[Rh,<-cw];refine ba λl hl=>?_;split
 .exact Rh _ _
 .simp
theorem Ok.MY(h:Ok P N b)(S:r<=P.m)(a:j<P.n+1):b.s*P.Wq b r j=(su N λl=>- (b.Gq r l*P.Yq (b.Aq l) j))+b.Gq r N*un P.n j:=by
 obtain⟨T,id⟩:=h.id;simp only[id r S j (by exact QQ ‹_›)];have e:(su N λl=>qs N l*Gx N b T r l*P.vec N b l j)=su N λl=>- (b.Gq r l*P.Yq (b.Aq l) j):=ba λl hl=>by simp only[qs,Gx,Pb.vec,YY hl,YY (QJ hl)];grind
 rcases h.hN with z|z
 .subst z;simp only[su];simp only[e];simp[qs,Gx,Pb.vec,show ¬ P.n+1<P.n by simp,show ¬ P.n+1<=P.n by simp,un,show j≠P.n+1 by exact Q8 ‹_›]
 .rw[show P.n+2=N+1 by lia];simp only[su];rw[e];simp[qs,Gx,Pb.vec]
theorem Ok.cost(h:Ok P N b)(S:r<=P.m)(a:j<P.n):b.s*P.Wq b r j=(su P.m λk=>Fc N b r ((P.n+k:Nat):Int)*P.R k j)-Fc N b r j:=by rw[h.MY S Q1,show un P.n j=0 from YZ Q1,Q9,RK,<-Fz];rw[show Fc N b r j=su N λl=>b.Gq r l*if b.Aq l=j then 1 else 0 from ba λl hl=>by split<;>simp,<-yQ];refine ba λl hl=>?_;have:=h.xR (Qu b.dn (h.Am hl));rw[NP (b.Aq l) this.1 this.2 a];grind
theorem Ok.FX(h:Ok P N b)(S:r<=P.m):b.s*P.Wq b r P.n=b.Gq r N-su P.m λk=>Fc N b r ((P.n+k:Nat):Int)*P.L k:=by
 rw[h.MY S (by exact Rc _),show un P.n P.n=1 from YY rfl,SN,<-Fz];simp only[show (su N λl=>- (b.Gq r l*P.Yq (b.Aq l) P.n)) =-su N λl=>b.Gq r l*su P.m λk=>if b.Aq l=((P.n+k:Nat):Int) then P.L k else 0 from by rw[<-RW,<-cw];refine ba λl hl=>?_;have:=h.xR (Qu b.dn (h.Am hl));simp only[P1 (b.Aq l) this.1 this.2];simp]
 exact Int.add_comm _ _
def vl(P:Pb)(b:Bo)(c:Nat)(u:Int):Int:=(su P.m λi=>if b.Bq i=u then qs P.n c*b.Gq i c else 0)+if c<P.n/\b.Aq c=u then b.s else 0
theorem Ok.MO(h:Ok P P.n b)(hc:c<=P.n)(g:u∈b.ac++b.dn):b.s*D (P.n+2) (up c (P.Yq u) (P.vec P.n b))=vl P b c u*D (P.n+2) (P.vec P.n b):=by
 obtain⟨T,id⟩:=h.id;rcases Qx.mp g with m|m
 .obtain⟨l,hl,rfl⟩:=h.Ax m;have z:su P.m (λi=>if b.Bq i=b.Aq l then qs P.n c*b.Gq i c else 0)=0:=fU λi hi=>YZ (h.AB hl hi);unfold vl;rw[z];by_cases e:l=c
  .subst e;rw[YY ⟨hl,rfl⟩,show P.Yq (b.Aq l)=P.vec P.n b l by simp[Pb.vec,hl],qG,Tp]
  .rw[YZ λz=>e (h.Ai hl z.1 z.2.symm),D.alike Q1 Q1 (Rz e) (by simp[up,e,Pb.vec,hl])];simp
 .obtain⟨i,hi,e⟩:=RF m;have r:i<P.m:=by rw[<-h.sh.dn];exact hi
  have e2:b.Bq i=u:=by simp[Bo.Bq,QX,hi,e]
  subst e2;have z:su P.m (λB=>if b.Bq B=b.Bq i then qs P.n c*b.Gq B c else 0)=qs P.n c*b.Gq i c:=by rw[iK r λB h1 hn=>YZ λ(z:b.Bq B=b.Bq i)=>hn (getD_inj (QE.mp h.nd).2.1 (by rw[h.sh.dn];exact h1) hi z),YY rfl]
  unfold vl;rw[z,YZ λz=>h.AB z.1 r z.2.symm];have k:=D.J4 (show c<P.n+2 by lia) (id i (by exact QJ ‹_›));rw[show P.Wq b i=P.Yq (b.Bq i) by simp[Pb.Wq,r]] at k;simp only[k];simp[Gx,hc]
theorem Ok.PR(h:Ok P N b):D (P.n+2) (P.vec N b)≠0:=λz=>by have d:=h.det;have:=h.pos;rw[z] at d;simp at d;lia
theorem Ok.Fi(h:Ok P P.n b)(hc:c<=P.n){x:Nat->Int}(e:∀j,j<P.n+2->w j=su (P.n+2) λt=>x t*un t j){g:Int}(A:b.s*D (P.n+2) (up c w (P.vec P.n b))=g*D (P.n+2) (P.vec P.n b)):
  g=(su P.n λj=>x j*vl P b c j)+if c=P.n then b.s*x P.n else 0:=by
 refine RO h.PR ?_;rw[<-A,D.congr (w:=up c (λj=>su (P.n+2) λt=>x t*un t j) (P.vec P.n b)) λi j hi k=>by
  unfold up;split
  .exact e j k
  .rfl,D.sum Q1]
 have C:D (P.n+2) (up c (un P.n) (P.vec P.n b))=if c=P.n then D (P.n+2) (P.vec P.n b) else 0:=by
  have v:P.vec P.n b P.n=un P.n:=by simp[Pb.vec]
  split
  .rename_i z;subst z;simp only[<-v,qG]
  .rename_i z;exact D.alike Q1 Z4 z (by simp[up,Rz z,v])
 have F:D (P.n+2) (up c (un (P.n+1)) (P.vec P.n b))=0:=D.alike (a:=c) (b:=P.n+1) Q1 (by exact Rc _) Q1 (by simp[up,show P.n+1≠c by lia,Pb.vec,show ¬ P.n+1<P.n by lia]);simp only[su];rw[C,F,Q9,RK,UX,<-cw,Int.add_mul,show ∀(f:Nat->Int)(y:Int),su P.n f*y=su P.n λi=>y*f i from λf y=>by rw[Rh,cw]]
 congr 1
 .refine ba λj k=>?_;have z:=h.MO hc ((h.nm j).mpr (by rw[YY rfl];lia));rw[show P.Yq j=un j by unfold Pb.Yq;rw[YZ Q1,YY Q1];simp] at z
  grind
 .split<;>grind
theorem Ok.FY(h:Ok P P.n b)(hc:c<=P.n)(hk:k<P.m):vl P b c ((P.n+k:Nat):Int)=(if c=P.n then b.s*P.L k else 0)-su P.n λj=>P.R k j*vl P b c j:=by
 have z:=h.MO hc (u:=((P.n+k:Nat):Int)) ((h.nm _).mpr (by rw[YY rfl];lia));have e:=h.Fi hc (x:=λt=>if t<P.n then-P.R k t else if t=P.n then P.L k else 1) (w:=P.Yq ((P.n+k:Nat):Int)) (λj a=>by rw[iK a λt l hn=>by rw[show un t j=0 from YZ (Rz hn),Q9]];unfold Pb.Yq;rw[YZ Q1,YZ Q1,show (((P.n+k:Nat):Int)-P.n).toNat=k by lia];simp[un]) z
 rw[e];simp only[QU,if_false,if_true];rw[ba (g:=λj=>-1*(P.R k j*vl P b c j)) λj a=>by simp only[YY a];grind,cw];lia
theorem Ok.worth(h:Ok P P.n b)(hc:c<=P.n):qs P.n c*b.Gq P.m c=su P.n λj=>P.c j*vl P b c j:=by
 obtain⟨T,id⟩:=h.id;have k:=D.J4 (show c<P.n+2 by lia) (id P.m Z4);rw[show P.Wq b P.m=P.zq by simp[Pb.Wq]] at k;have e:=h.Fi hc (x:=λt=>if t<P.n then P.c t else 0) (λj a=>by rw[iK a λt l hn=>by simp only[show un t j=0 from YZ (Rz hn),Q9]];simp[Pb.zq,un]) k
 simp only[Gx,YY hc,QU,if_false,Q9,ite_self,RK] at e;simp only[e];exact ba λj a=>by rw[YY a]
variable{P:Pb}
noncomputable def fB(P:Pb):Bo:=⟨(QK P.n).map S4,(QK P.m).map λi=>((P.n+i:Nat):Int),((QK P.m).map λi=>((QK P.n).map λj=>P.R i j)++[P.L i])++[((QK P.n).map λj=>- P.c j)++[0]],1⟩
noncomputable def bT(P:Pb):Bo:=⟨((QK P.n).map S4)++[-1],(QK P.m).map λi=>((P.n+i:Nat):Int),((QK P.m).map λi=>((QK P.n).map λj=>P.R i j)++[-1,P.L i])++[((QK P.n).map λj=>- P.c j)++[0,0]],1⟩
theorem dh{xs ys:List α}{d:α}(h:i<xs.length):(xs++ys).getD i d=xs.getD i d:=by simp[QX,RE h]
theorem cW{xs ys:List α}{d:α}(h:xs.length<=i):(xs++ys).getD i d=ys.getD (i-xs.length) d:=by simp[QX,Rl h]
theorem da{f:Nat->α}{n:Nat}{d:α}(h:i<n):((QK n).map f).getD i d=f i:=by simp[QX,h]
theorem qx(hi:i<=P.m)(hl:l<=P.n):(fB P).Gq i l=if i<P.m then (if l<P.n then P.R i l else P.L i) else if l<P.n then-P.c l else 0:=by
 delta Bo.Gq fB
 by_cases c:i<P.m
 .rw[dh (by simpa using c),da c,YY c]
  by_cases e:l<P.n
  .rw[dh (by simpa using e),da e,YY e]
  .rw[cW (by simp;lia),YZ e,show l=P.n by lia];simp
 .rw[cW (by simp;exact Tt.mp ‹_›),YZ c,show i=P.m by lia]
  simp only[Qt,RH,SD,VN]
  by_cases e:l<P.n
  .rw[dh (by simpa using e),da e,YY e]
  .rw[cW (by simp;lia),YZ e,show l=P.n by lia];simp
theorem gL(hi:i<=P.m)(hl:l<=P.n+1):(bT P).Gq i l=if i<P.m then (if l<P.n then P.R i l else if l=P.n then -1 else P.L i) else if l<P.n then-P.c l else 0:=by
 delta Bo.Gq bT
 by_cases c:i<P.m
 .rw[dh (by simpa using c),da c,YY c]
  by_cases e:l<P.n
  .rw[dh (by simpa using e),da e,YY e]
  .rw[cW (by simp;lia),YZ e]
   by_cases e2:l=P.n
   .subst e2;simp
   .rw[show l=P.n+1 by lia];simp
 .rw[cW (by simp;lia),YZ c,show i=P.m by lia]
  simp only[Qt,RH,SD,VN]
  by_cases e:l<P.n
  .rw[dh (by simpa using e),da e,YY e]
  .rw[cW (by simp;lia),YZ e]
   by_cases e2:l=P.n
   .subst e2;simp
   .rw[show l=P.n+1 by lia];simp
theorem Fp(hl:l<P.n):(fB P).Aq l=l:=da hl
theorem pH(hl:l<P.n+1):(bT P).Aq l=if l<P.n then (l:Int) else -1:=by
 delta Bo.Aq bT
 by_cases c:l<P.n
 .rw[dh (by simpa using c),da c,YY c];rfl
 .rw[cW (by simp;exact Tt.mp ‹_›),YZ c,show l=P.n by lia];simp
theorem EC(hi:i<P.m):(fB P).Bq i=((P.n+i:Nat):Int):=da hi
theorem zJ(hi:i<P.m):(bT P).Bq i=((P.n+i:Nat):Int):=da hi
theorem Kk(h:j<P.n):P.Yq j=un j:=by unfold Pb.Yq;rw[YZ Z4,YY Q1];rfl
theorem MT(i:Nat):P.Yq ((P.n+i:Nat):Int)=λj=>if j<P.n then-P.R i j else if j=P.n then P.L i else 1:=by unfold Pb.Yq;rw[YZ Q1,YZ Q1,show (((P.n+i:Nat):Int)-P.n).toNat=i by lia]
theorem N8:P.Yq (-1)=un (P.n+1):=YY rfl
theorem iu(h:j≠i):un i j=0:=YZ h
theorem vO(i:Nat):un i i=1:=YY rfl
theorem mE(n:Nat):((QK n).map S4).Nodup:=U6 _ (λa b h z=>h (S4.inj z)) UR
theorem rD(P:Pb):((QK P.m).map λi=>((P.n+i:Nat):Int)).Nodup:=U6 _ (λa b h (z:((P.n+a:Nat):Int)=((P.n+b:Nat):Int))=>by lia) UR
theorem yF(P:Pb):Ok P P.n (fB P):=by
 have E:∀l,l<P.n+2->P.vec P.n (fB P) l=un l:=λl hl=>by
  unfold Pb.vec;by_cases c:l<P.n
  .rw[YY c,Fp c,Kk c]
  .rw[YZ c];by_cases J:l=P.n
   .rw[YY J,J]
   .rw[YZ J,show l=P.n+1 by lia]
 refine⟨⟨by simp[fB],by simp[fB],by simp[fB],?_⟩,?_,λu=>?_,by simp[fB],.inl rfl,?_,?_⟩
 .intro x hx;rcases Qx.mp hx with z|z
  .obtain⟨i,_,rfl⟩:=Q2.mp z;simp
  .rw[QR.mp z];simp
 .refine QE.mpr ⟨mE _,rD P,λa f b d=>?_⟩;obtain⟨x,hx,rfl⟩:=Q2.mp f;obtain⟨y,hy,rfl⟩:=Q2.mp d;have:=Rb.mp hx;show (x:Int)≠_;lia
 .rw[YY rfl];constructor
  .intro h;rcases Qx.mp h with h|h
   .obtain⟨x,hx,rfl⟩:=Q2.mp h;have:=Rb.mp hx;show 0<=(x:Int)/\(x:Int)<_;lia
   .obtain⟨x,hx,rfl⟩:=Q2.mp h;have:=Rb.mp hx;lia
  .rintro⟨h1,h2⟩;by_cases c:u<P.n
   .exact Qu _ (Q2.mpr ⟨u.toNat,Rb.mpr Q1,by show ((u.toNat:Nat):Int)=u;lia⟩)
   .exact Qs _ (Q2.mpr ⟨(u-P.n).toNat,Rb.mpr Q1,by show ((P.n+(u-P.n).toNat:Nat):Int)=u;lia⟩)
 .rw[D.un E];rfl
 .refine⟨λi=>if i<P.m then 1 else 0,λi hi j k=>?_⟩;rw[iK k λl hl hn=>by rw[E l hl,iu (Rz hn),Q9],E j k,vO,SN];show 1*P.Wq (fB P) i j=_;unfold Pb.Wq Gx qs;by_cases c:i<P.m
  .rw[YY c,EC c,MT];by_cases e:j<P.n
   .simp[e,QJ e,qx hi (QJ e),c]
   .by_cases e2:j=P.n
    .subst e2;simp[qx hi (QB _),c]
    .simp[e,e2,show ¬ j<=P.n by lia,c]
  .rw[YZ c];unfold Pb.zq;by_cases e:j<P.n
   .simp[e,QJ e,qx hi (QJ e),c]
   .by_cases e2:j=P.n
    .subst e2;simp[qx hi (QB _),c]
    .simp[e,show ¬ j<=P.n by lia,c]
theorem Fm{b:Bo}(h:∀l,l<N->b.Aq l<P.n)(C:∀i,i<P.m->b.Bq i=((P.n+i:Nat):Int))(hs:b.s=1)(hk:k<P.m):Fb P N b i ((P.n+k:Nat):Int)=if i=k then 1 else 0:=by
 unfold Fb F;rw[fU λl hl=>YZ λz=>by have:=h l hl;lia,hs];by_cases c:i=k
 .subst c;rw[YY ⟨hk,C i hk⟩,YY rfl];rfl
 .rw[YZ λz=>by have:=C i z.1;lia,YZ c];rfl
theorem He(h:∀i,i<P.m->0<=P.L i):Lp P P.n (fB P):=λi hi=>by
 have v:Rr P P.n (fB P) i 0=P.L i:=by unfold Rr;rw[YY rfl,qx (by exact QJ ‹_›) (QB _),YY hi,YZ (QU _)]
 have f:∀k,k<P.m->Rr P P.n (fB P) i (k+1)=if i=k then 1 else 0:=λk hk=>by exact Fm (λl hl=>by rw[Fp hl];lia) (λi hi=>EC hi) rfl hk
 have:=h i hi;by_cases c:P.L i=0
 .refine⟨i+1,by exact Rj ‹_›,by rw[f i hi,YY rfl];decide,λu g=>?_⟩;cases u with
  |zero=>simp only[v,c]
  |succ u=>rw[f u Q1,YZ Q1]
 .exact⟨0,by exact Ue _,by rw[v];lia,λu g=>by exact absurd ‹_› (RV _)⟩
variable{P:Pb}{a c:Nat}{b:Bo}
theorem qd(P:Pb):Ok P (P.n+1) (bT P):=by
 have Z:∀l,l<P.n->P.vec (P.n+1) (bT P) l=un l:=λl hl=>by unfold Pb.vec;rw[YY Q1,pH Q1,YY hl,Kk hl]
 have o:P.vec (P.n+1) (bT P) P.n=un (P.n+1):=by unfold Pb.vec;rw[YY Q1,pH Q1,YZ (QU _),N8]
 have q:P.vec (P.n+1) (bT P) (P.n+1)=un P.n:=by unfold Pb.vec;rw[YZ (QU _),YY rfl]
 refine⟨⟨by simp[bT],by simp[bT],by simp[bT],?_⟩,?_,λu=>?_,by simp[bT],.inr rfl,?_,?_⟩
 .intro x hx;rcases Qx.mp hx with z|z
  .obtain⟨i,_,rfl⟩:=Q2.mp z;simp
  .rw[QR.mp z];simp
 .refine QE.mpr ⟨QE.mpr ⟨mE _,by simp,λa f b E=>?_⟩,rD P,λa f b E=>?_⟩
  .obtain⟨x,hx,rfl⟩:=Q2.mp f;rw[QR.mp E];show (x:Int) ≠ -1;lia
  .obtain⟨y,hy,rfl⟩:=Q2.mp E;rcases Qx.mp f with f|f
   .obtain⟨x,hx,rfl⟩:=Q2.mp f;have:=Rb.mp hx;show (x:Int)≠_;lia
   .rw[QR.mp f];lia
 .rw[YZ Q1];constructor
  .intro h;rcases Qx.mp h with h|h
   .rcases Qx.mp h with h|h
    .obtain⟨x,hx,rfl⟩:=Q2.mp h;have:=Rb.mp hx;show -1<=(x:Int)/\(x:Int)<_;lia
    .rw[QR.mp h];lia
   .obtain⟨x,hx,rfl⟩:=Q2.mp h;have:=Rb.mp hx;lia
  .rintro⟨h1,h2⟩;by_cases r:u = -1
   .exact Qu _ (Qs _ (QR.mpr r))
   .by_cases c:u<P.n
    .exact Qu _ (Qu _ (Q2.mpr ⟨u.toNat,Rb.mpr Q1,by show ((u.toNat:Nat):Int)=u;lia⟩))
    .exact Qs _ (Q2.mpr ⟨(u-P.n).toNat,Rb.mpr Q1,by show ((P.n+(u-P.n).toNat:Nat):Int)=u;lia⟩)
 .rw[<-D.mv (d:=1) (k:=P.n+2) (c:=P.n) rfl,D.un λl hl=>?_]
  .rfl
  .unfold mv;by_cases c:l<P.n
   .rw[YY c,Z l c]
   .rw[YZ c];by_cases J:l=P.n
    .rw[YY Q1,J,q]
    .rw[YZ Q1,YY Q1,o,show l=P.n+1 by lia]
 .refine⟨λ_=>0,λi hi j F=>?_⟩;show 1*P.Wq (bT P) i j=_;rw[RI];have w:P.Wq (bT P) i j=if i<P.m then (if j<P.n then-P.R i j else if j=P.n then P.L i else 1) else if j<P.n then P.c j else 0:=by
   unfold Pb.Wq;by_cases c:i<P.m
   .rw[YY c,YY c,zJ c,MT]
   .rw[YZ c,YZ c];rfl
  rw[w];by_cases e:j<P.n
  .rw[iK (a:=j) Q1 λl hl hn=>by
    by_cases c:l<P.n
    .rw[Z l c,iu (Rz hn),Q9]
    .by_cases J:l=P.n
     .rw[J,o,iu Q1,Q9]
     .rw[show l=P.n+1 by lia,q,iu Q1,Q9],Z j e,vO,SN]
   unfold Gx qs;by_cases c:i<P.m
   .simp[gL hi (show j<=P.n+1 by lia),e,c,show j<P.n+1 by lia,show j<=P.n+1 by lia]
   .simp[gL hi (show j<=P.n+1 by lia),e,c,show j<P.n+1 by lia,show j<=P.n+1 by lia]
  .by_cases e2:j=P.n
   .rw[iK (a:=P.n+1) Q1 λl hl hn=>by
     by_cases c:l<P.n
     .rw[Z l c,iu Q1,Q9]
     .rw[show l=P.n by lia,o,iu Q1,Q9],q,e2,vO,SN]
    unfold Gx qs;rw[YZ (QU _),YY (QB _),gL hi Q1];by_cases c:i<P.m
    .simp[c,show ¬ P.n+1<P.n by lia]
    .simp[c,show ¬ P.n+1<P.n by lia]
   .rw[iK (a:=P.n) Q1 λl hl hn=>by
     by_cases c:l<P.n
     .rw[Z l c,iu Q1,Q9]
     .rw[show l=P.n+1 by lia,q,iu Q1,Q9],o,show j=P.n+1 by lia,vO,SN]
    unfold Gx qs;by_cases c:i<P.m
    .simp[c,gL hi (show P.n<=P.n+1 by lia),show ¬ P.n+1<P.n by lia]
    .simp[c,gL hi (show P.n<=P.n+1 by lia),show ¬ P.n+1<P.n by lia]
theorem wY(c:a<P.m)(q:P.L a<0)(h1:∀i,i<P.m->P.L a<=P.L i)(h2:∀i,i<P.m->a<i->P.L a<P.L i):Ok P (P.n+1) ((bT P).turn a P.n)/\Lp P (P.n+1) ((bT P).turn a P.n):=by
 have g:∀i,i<P.m->(bT P).Gq i P.n = -1:=λi hi=>by rw[gL Q1 Q1,YY hi,YZ (QU _),YY rfl]
 have ok:=qd P;have ne:(bT P).Gq a P.n≠0:=by rw[g a c];decide
 refine⟨ok.turn c Q1 ne,λi hi=>?_⟩;have v:∀i,i<P.m->Rr P (P.n+1) (bT P) i 0=P.L i:=λi hi=>by unfold Rr;rw[YY rfl,gL Q1 (QB _),YY hi,YZ Q1,YZ Q1]
 have f:∀i k,k<P.m->Rr P (P.n+1) (bT P) i (k+1)=if i=k then 1 else 0:=λi k hk=>by unfold Rr;rw[YZ Q1];exact Fm (λl hl=>by rw[pH hl];split<;>lia) (λi hi=>zJ hi) rfl hk
 have p:sn ((bT P).Gq a P.n) = -1:=by rw[g a c];rfl
 by_cases e:i=a
 .subst e;refine⟨0,by lia,?_,λu I=>by lia⟩;rw[ok.Ra hi Q1 ne,p,v i hi];lia
 .have x:∀t,Rr P (P.n+1) ((bT P).turn a P.n) i t=Rr P (P.n+1) (bT P) i t-Rr P (P.n+1) (bT P) a t:=λt=>by have z:=ok.Ro c (show P.n<P.n+1 by lia) ne (show i<=P.m by lia) e t;rw[p,g a c,g i hi,show (bT P).s=1 from rfl] at z;lia
  have h:=h1 i hi;by_cases r:P.L i=P.L a
  .have Z:i<a:=by
    rcases Nat.lt_or_ge i a with z|z
    .exact z
    .have:=h2 i hi Q1;lia
   refine⟨i+1,by lia,?_,λu I=>?_⟩
   .rw[x,f i i hi,f a i hi,YY rfl,YZ (Rz e)];decide
   .rw[x];cases u with
    |zero=>rw[v i hi,v a c,r];lia
    |succ u=>rw[f i u Q1,f a u Q1,YZ Q1,YZ Q1];rfl
  .exact⟨0,by lia,by rw[x,v i hi,v a c];lia,λu I=>by lia⟩
noncomputable def Bo.drop(b:Bo)(c:Nat):Bo:=⟨b.ac.eraseIdx c,b.dn,b.g.map λr=>r.eraseIdx c,b.s⟩
theorem uW{xs:List α}{c:Nat}{d:α}:(xs.eraseIdx c).getD l d=if l<c then xs.getD l d else xs.getD (l+1) d:=by simp only[QX,List.getElem?_eraseIdx];split<;>rfl
theorem oR(l:Nat):(b.drop c).Aq l=if l<c then b.Aq l else b.Aq (l+1):=uW
theorem lZ(h:Ok P (P.n+1) b)(hi:i<=P.m)(l:Nat):(b.drop c).Gq i l=if l<c then b.Gq i l else b.Gq i (l+1):=by
 delta Bo.Gq Bo.drop
 rw[getD_map (by rw[h.sh.g];exact Rj ‹_›)]
 exact uW
theorem Ea(h:Ok P (P.n+1) b)(hc:c<P.n+1)(G:b.Aq c = -1):Ok P P.n (b.drop c):=by
 have lc:c<b.ac.length:=by rw[h.sh.ac];exact hc
 have O:b.ac[c] = -1:=by rw[<-G];simp[Bo.Aq,QX,lc]
 have pm:b.ac.Perm ((-1)::b.ac.eraseIdx c):=by have:=RS (a:=b.ac[c]) (l₁:=b.ac.take c) (l₂:=b.ac.drop (c+1));rw[T4,R1,<-Ri,O] at this;exact this
 have H:(b.ac++b.dn).Perm ((-1)::((b.drop c).ac++(b.drop c).dn)):=pm.append_right _;have nd:=H.nodup_iff.mp h.nd;have E:∀l,l<P.n+2->P.vec P.n (b.drop c) l=mv (P.n+2) c (P.vec (P.n+1) b) l:=λl hl=>by
  have R:∀l,l<P.n+1->P.vec (P.n+1) b l=P.Yq (b.Aq l):=λl hl=>YY hl;have B:P.vec (P.n+1) b (P.n+1)=un P.n:=by unfold Pb.vec;rw[YZ (QU _),YY rfl]
  have r1:l<P.n->P.vec P.n (b.drop c) l=P.Yq ((b.drop c).Aq l):=λhl=>YY hl;unfold mv;by_cases e:l<c
  .rw[YY e,R l (by exact SX ‹_› ‹_›),r1 Q1,oR,YY e]
  .rw[YZ e];by_cases e2:l<P.n
   .rw[YY Q1,R (l+1) Q1,r1 e2,oR,YZ e]
   .have r2:P.vec P.n (b.drop c) l=if l=P.n then un P.n else un (P.n+1):=YZ e2
    rw[r2];by_cases N:l=P.n
    .rw[YY N,YY Q1,N,B]
    .rw[YZ N,YZ Q1,YY Q1,R c hc,G,N8]
 refine⟨⟨?_,h.sh.dn,by simp[Bo.drop,h.sh.g],?_⟩,(Q3.mp nd).2,λu=>?_,h.pos,.inl rfl,?_,?_⟩
 .show (b.ac.eraseIdx c).length=_;rw[VD,YY lc,h.sh.ac];rfl
 .intro x hx;obtain⟨r,S,rfl⟩:=Q2.mp hx;have:=h.sh.r r S;rw[VD,YY Q1,this];rfl
 .rw[YY rfl];have z:=h.nm u;rw[YZ Q1,H.mem_iff,QC] at z;constructor
  .intro y;have:=z.mp (.inr y);have:u ≠ -1:=λq=>(Q3.mp nd).1 (q▸y);lia
  .rintro⟨h1,h2⟩;exact(z.mpr ⟨by lia,h2⟩).resolve_left Q1
 .rw[D.congr (w:=mv (P.n+2) c (P.vec (P.n+1) b)) λi j hi k=>by rw[E i hi],D.mv (d:=P.n+1-c) Q1];exact h.det
 .obtain⟨T,id⟩:=h.id;refine⟨λi=>- b.Gq i c,λi hi j k=>?_⟩;have w:P.Wq (b.drop c) i=P.Wq b i:=rfl;rw[w];show b.s*_=_;rw[id i hi j k];have key:∀(f g:Nat->Int),(∀l,l<c->g l=f l)->(∀l,c<=l->l<P.n+1->g l=f (l+1))->g (P.n+1)=f c->su (P.n+2) f=su (P.n+2) g:=λf g h1 h2 h3=>by
   have A:∀d,c+d<=P.n+1->su (c+d+1) f=su (c+d) g+f c:=λd hd=>by
    induction d with
    |zero=>show su c f+f c=_;rw[ba (n:=c) λi hi=>(h1 i hi).symm];rfl
    |succ d m=>show su (c+d+1) f+f (c+d+1)=su (c+d) g+g (c+d)+f c;rw[m Q1,h2 (c+d) Q1 Q1];lia
   have:=A (P.n+1-c) Q1;rw[show c+(P.n+1-c)=P.n+1 by lia] at this;rw[this];show _=su (P.n+1) g+g (P.n+1);rw[h3]
  refine key _ _ (λl hl=>?_) (λl h1 h2=>?_) ?_
  .have a1:P.vec P.n (b.drop c) l=P.vec (P.n+1) b l:=by rw[E l Q1];exact YY hl
   have a2:Gx P.n (b.drop c) (λi=>- b.Gq i c) i l=b.Gq i l:=by unfold Gx;rw[YY Q1,lZ h hi,YY hl]
   have a3:Gx (P.n+1) b T i l=b.Gq i l:=YY Q1;have a4:qs P.n l = -1:=YY Q1;have o:qs (P.n+1) l = -1:=YY Q1;rw[a1,a2,a3,a4,o]
  .have a1:P.vec P.n (b.drop c) l=P.vec (P.n+1) b (l+1):=by rw[E l Q1];unfold mv;rw[YZ Q1,YY Q1]
   have a2:Gx P.n (b.drop c) (λi=>- b.Gq i c) i l=b.Gq i (l+1):=by unfold Gx;rw[YY Q1,lZ h hi,YZ Q1]
   have a3:Gx (P.n+1) b T i (l+1)=b.Gq i (l+1):=YY Q1;have a4:qs P.n l=qs (P.n+1) (l+1):=by
    unfold qs;by_cases e:l<P.n
    .rw[YY e,YY Q1]
    .rw[YZ e,YZ Q1]
   rw[a1,a2,a3,a4]
  .have a1:P.vec P.n (b.drop c) (P.n+1)=P.vec (P.n+1) b c:=by rw[E (P.n+1) Q1];unfold mv;rw[YZ Q1,YZ Q1,YY rfl]
   have a2:Gx P.n (b.drop c) (λi=>- b.Gq i c) i (P.n+1) =-b.Gq i c:=YZ Q1;have a3:Gx (P.n+1) b T i c=b.Gq i c:=YY Q1;have a4:qs P.n (P.n+1)=1:=YZ Q1;have o:qs (P.n+1) c = -1:=YY hc;rw[a1,a2,a3,a4,o];grind
theorem Ek(h:Ok P (P.n+1) b)(X:Lp P (P.n+1) b)(hc:c<P.n+1)(G:b.Aq c = -1):Lp P P.n (b.drop c):=λi hi=>(X i hi).congr λt _=>by
 unfold Rr;rw[lZ h (by exact QJ ‹_›)];by_cases e:t=0
 .rw[YY e,YY e,YZ Q1]
 .rw[YZ e,YZ e]
  delta Fb F
  congr 1
  generalize g:((P.n+(t-1):Nat):Int)=u;have A:∀d,c+d<=P.n->su (c+d+1) (λl=>if b.Aq l=u then b.Gq i l else 0)=su (c+d) (λl=>if (b.drop c).Aq l=u then (b.drop c).Gq i l else 0):=λd hd=>by
   induction d with
   |zero=>show su c _+(if b.Aq c=u then b.Gq i c else 0)=_;rw[YZ Q1,RK];exact ba λl hl=>by rw[oR,YY hl,lZ h Q1,YY hl]
   |succ d m=>show su (c+d+1) _+(if b.Aq (c+d+1)=u then b.Gq i (c+d+1) else 0)=su (c+d) _+(if (b.drop c).Aq (c+d)=u then (b.drop c).Gq i (c+d) else 0);rw[m (by exact QJ ‹_›),oR,lZ h Q1,YZ (show ¬ c+d<c by lia),YZ (show ¬ c+d<c by lia)]
  have:=A (P.n-c) Q1;rw[show c+(P.n-c)=P.n by lia] at this;exact this
theorem Ok.short(h:Ok P (P.n+1) b)(X:Lp P (P.n+1) b)(S:r<P.m)(u:b.Bq r = -1)(J:∀l,l<P.n+1->b.Gq r l<=0):0<b.Gq r (P.n+1):=by
 have f:∀k,k<P.m->Rr P (P.n+1) b r (k+1)<=0:=λk hk=>by
  unfold Rr;rw[YZ Q1];show Fb P (P.n+1) b r ((P.n+k:Nat):Int)<=0;by_cases m:((P.n+k:Nat):Int)∈b.ac
  .obtain⟨l,hl,e⟩:=h.Ax m;rw[<-e,h.H9 hl];exact J l hl
  .unfold Fb F;rw[fU λl hl=>YZ λz=>m (by rw[<-z];exact h.Am hl),YZ λz=>by lia];decide
 obtain⟨t,y,p,z⟩:=X r S;cases t with
 |zero=>exact p
 |succ t=>have:=f t Q1;lia
variable{P:Pb}{N c:Nat}{b:Bo}
theorem uY{n:Nat}{f:Nat->Int}(h:∀i,i<n->0<=f i):0<=su n f:=by
 induction n with
 |zero=>exact Sg 0
 |succ n m=>exact Wv (m λi hi=>h i Q1) (h n Q1)
theorem Lp.val(X:Lp P N b)(hi:i<P.m):0<=b.Gq i N:=by
 obtain⟨t,l,p,z⟩:=X i hi;cases t with
 |zero=>exact Rw p
 |succ t=>exact UQ (z 0 (by exact Ue _)).symm
structure Keeps(P:Pb)(s:Int)(x:Nat->Int):Prop where
 nn:∀j,j<P.n->0<=x j
 le:∀k,k<P.m->(su P.n λj=>P.R k j*x j)<=s*P.L k
theorem E7(A:∀i,i<P.m->0<=qs P.n c*b.Gq i c)(hs:0<=b.s)(u:Int):0<=vl P b c u:=by
 refine Wv (uY λi hi=>?_) ?_
 .split
  .exact A i hi
  .exact Sg 0
 .split
  .exact hs
  .exact Sg 0
theorem Ok.keeps(h:Ok P P.n b)(X:Lp P P.n b):Keeps P b.s λj=>vl P b P.n j:=by
 have nn:=E7 (λi hi=>by rw[show qs P.n P.n=1 from YZ (QU _),RI];exact X.val hi) (Rw h.pos);refine⟨λj _=>nn _,λk hk=>?_⟩;have z:=h.FY (QB P.n) hk;have:=nn ((P.n+k:Nat):Int)
 lia
theorem EG(h:∀l,l<N->0<=b.Gq r l)(u:Int):0<=Fc N b r u:=uY λl hl=>by
 split
 .exact h l hl
 .exact Sg 0
theorem AM(h:Ok P P.n b)(J:∀l,l<P.n->0<=b.Gq P.m l):
  (su P.n λj=>P.c j*vl P b P.n j)=b.Gq P.m P.n/\(∀k,0<=Fc P.n b P.m ((P.n+k:Nat):Int))/\(∀j,j<P.n->b.s*P.c j<=su P.m λk=>Fc P.n b P.m ((P.n+k:Nat):Int)*P.R k j)/\(su P.m λk=>Fc P.n b P.m ((P.n+k:Nat):Int)*P.L k)=b.Gq P.m P.n:=by
 have w:P.Wq b P.m=P.zq:=by simp[Pb.Wq]
 refine⟨?_,λk=>EG J _,λj a=>?_,?_⟩
 .rw[<-h.worth (QB P.n),show qs P.n P.n=1 from YZ (QU _),RI]
 .have z:=h.cost (QB P.m) a;rw[w,show P.zq j=P.c j from YY a] at z;have:=EG J (j:Int);lia
 .have z:=h.FX (QB P.m);rw[w,show P.zq P.n=0 from YZ (QU _)] at z;lia
theorem Az(h:Ok P P.n b)(hc:c<P.n)(J:b.Gq P.m c<0)(d:∀i,i<P.m->b.Gq i c<=0):Keeps { P with L:=λ_=>0 } b.s (λj=>vl P b c j)/\0<su P.n λj=>P.c j*vl P b c j:=by
 have q:qs P.n c = -1:=YY hc;have nn:∀u,0<=vl P b c u:=E7 (λi hi=>by rw[q];have:=d i hi;lia) (Rw h.pos);refine⟨⟨λj _=>nn _,λk hk=>?_⟩,?_⟩
 .have z:=h.FY (QJ hc) hk;rw[YZ Q1] at z;have:=nn ((P.n+k:Nat):Int);show (su P.n λj=>P.R k j*vl P b c j)<=b.s*0;lia
 .rw[<-h.worth (QJ hc),q];lia
theorem yi(h:Ok P (P.n+1) b)(X:Lp P (P.n+1) b)(S:r<P.m)(G:b.Bq r = -1)(J:∀l,l<P.n+1->b.Gq r l<=0):
  (∀k,0 <=-Fc (P.n+1) b r ((P.n+k:Nat):Int))/\(∀j,j<P.n->0<=su P.m λk=>- Fc (P.n+1) b r ((P.n+k:Nat):Int)*P.R k j)/\(su P.m λk=>- Fc (P.n+1) b r ((P.n+k:Nat):Int)*P.L k)<0:=by
 have w:P.Wq b r=un (P.n+1):=by simp[Pb.Wq,S,G,N8]
 have np:∀u,Fc (P.n+1) b r u<=0:=λu=>by
  have:0<=su (P.n+1) λl=>- (if b.Aq l=u then b.Gq r l else 0):=uY λl hl=>by have:=J l hl;split<;>lia
  have e:=cw (k:=P.n+1) (x:=-1) (f:=λl=>if b.Aq l=u then b.Gq r l else 0);simp only[RW] at e;rw[e] at this;unfold Fc;lia
 have i:∀(f:Nat->Int),(su P.m λk=>- Fc (P.n+1) b r ((P.n+k:Nat):Int)*f k) =-su P.m λk=>Fc (P.n+1) b r ((P.n+k:Nat):Int)*f k:=λf=>by rw[<-RW,<-cw];exact ba λk _=>by grind
 refine⟨λk=>by have:=np ((P.n+k:Nat):Int);lia,λj a=>?_,?_⟩
 .have z:=h.cost (show r<=P.m by lia) a;rw[w,iu Q1,Q9] at z;rw[i];have:=np (j:Int);lia
 .have z:=h.FX (show r<=P.m by lia);rw[w,iu Q1,Q9] at z;have:=h.short X S G J;rw[i];lia
def K2(P:Pb)(b:Bo):Prop:=Ok P P.n b/\Lp P P.n b
def K1(P:Pb)(b:Bo):Prop:=Ok P (P.n+1) b/\Lp P (P.n+1) b /\ -1∈b.dn
def Lm(P:Pb)(b:Bo):Nat->Int:=Rr P P.n b P.m
noncomputable def cg(b:Bo):Nat:=b.dn.idxOf (-1)
def G7(P:Pb)(b:Bo)(t:Nat):Int:=- Rr P (P.n+1) b (cg b) t
theorem gY(h:K1 P b):cg b<P.m:=by simp only[<-h.1.sh.dn];exact RD h.2.2
theorem iS(h:K1 P b):b.Bq (cg b) = -1:=by
 have:=gY h;have l:cg b<b.dn.length:=by rw[h.1.sh.dn];exact this
 simp only[Bo.Bq,QX,QP l,SY];exact Uz l
theorem Ga{a:Nat}(h:K2 P b)(f:a<P.m)(hc:c<P.n)(hp:0<b.Gq a c)(J:b.Gq P.m c<0)(hm:∀i,i<P.m->0<b.Gq i c->¬ LL (P.m+1) (Rr P P.n b i) (b.Gq i c) (Rr P P.n b a) (b.Gq a c)):
  K2 P (b.turn a c)/\ms P (K2 P) (Lm P) (b.turn a c)<ms P (K2 P) (Lm P) b:=by
 have k:K2 P (b.turn a c):=⟨h.1.turn f hc Q1,Lp.turn h.1 h.2 f hc hp hm⟩
 refine⟨k,EV (λb h=>h.1.pos) (λb1 b2 h1 h2 e t=>?_) h k (h.1.pA h.2 f hc hp (QB _) Q1 J)⟩;exact h1.1.uniq h2.1 (BU h1.1 h2.1 e) (QB _) (QB _) (by simp[Pb.Wq]) (λz=>absurd z (QU _)) (λz=>absurd z (QU _)) t
theorem JZ{a:Nat}(h:K1 P b)(f:a<P.m)(hn:a≠cg b)(hc:c<P.n+1)(hp:0<b.Gq a c)(A:0<b.Gq (cg b) c)(hm:∀i,i<P.m->0<b.Gq i c->¬ LL (P.m+1) (Rr P (P.n+1) b i) (b.Gq i c) (Rr P (P.n+1) b a) (b.Gq a c)):
  K1 P (b.turn a c)/\cg (b.turn a c)=cg b/\ms P (K1 P) (G7 P) (b.turn a c)<ms P (K1 P) (G7 P) b:=by
 have hl:=gY h;have C:=iS h;have ok:=h.1.turn f hc (show b.Gq a c≠0 by lia);have w:(b.turn a c).Bq (cg b) = -1:=by rw[Bo.mF h.1.sh f];unfold qi;rw[YZ (Rz hn),C]
 have k:K1 P (b.turn a c):=⟨ok,Lp.turn h.1 h.2.1 f hc hp hm,w▸ok.Bm hl⟩
 have Q:cg (b.turn a c)=cg b:=getD_inj (QE.mp ok.nd).2.1 (by rw[ok.sh.dn];exact gY k) (by rw[ok.sh.dn];exact hl) ((iS k).trans w.symm);refine⟨k,Q,EV (λb h=>h.1.pos) (λb1 b2 h1 h2 e t=>?_) h k ?_⟩
 .have Y:=gY h1;have J:=gY h2;have z:=h1.1.uniq h2.1 (BU h1.1 h2.1 e) (QJ Y) (QJ J) (by simp[Pb.Wq,Y,J,iS h1,iS h2]) (λ_=>by rw[iS h1];lia) (λ_=>by rw[iS h2];lia) t;unfold G7
  grind
 .have z:=h.1.OV h.2.1 f hc hp (QJ hl) (Rz hn) A;refine z.congr λt _=>?_;unfold G7;rw[Q];grind
noncomputable def Er:Nat->Nat
 |0=>1
 |n+1=>(n+1)*Er n
theorem EL{n:Nat}{f:Nat->Int}{B:Nat}(h:∀i,i<n->(f i).natAbs<=B):(su n f).natAbs<=n*B:=by
 induction n with
 |zero=>exact RP _
 |succ n m=>have h1:=m λi hi=>h i Q1;have h2:=h n (by exact Rc _);show (su n f+f n).natAbs<=_;simp only[Nat.add_mul,VO];lia
theorem F9(i:Nat):(sg i).natAbs=1:=by unfold sg;split<;>rfl
theorem D.le{M:Nat}:∀{k:Nat}{v:Nat->Ve},(∀i j,i<k->j<k->(v i j).natAbs<=M)->(D k v).natAbs<=Er k*M^k
 |0,_,_=>by exact Ue _
 |k+1,v,h=>by
  refine Q4 (EL (B:=M*(Er k*M^k)) λi hi=>?_) (Ua ?_)
  .simp only[Ry,Ry,F9,VO];refine Um (h i k hi Q1) (D.le λa b f d=>?_);unfold sk;split
   .exact h a b (by exact QQ ‹_›) Q1
   .exact h _ b (by exact Rj ‹_›) Q1
  .show (k+1)*(M*(Er k*M^k))=(k+1)*Er k*M^(k+1);simp only[WS];generalize Er k=x;generalize M^k=y;simp only[Vm,To y M,<-Vm M x y,To M x,Vm x M y]
variable{P:Pb}{N:Nat}{b:Bo}{M:Nat}
structure Pb.Le(P:Pb)(M:Nat):Prop where
 one:1<=M
 c:∀j,j<P.n->(P.c j).natAbs<=M
 R:∀i j,i<P.m->j<P.n->(P.R i j).natAbs<=M
 L:∀i,i<P.m->(P.L i).natAbs<=M
theorem zI(h:1<=M)(i j:Nat):(un i j).natAbs<=M:=by unfold un;split<;>simp<;>lia
theorem M5(h:P.Le M)(g:-1<=u)(h2:u<(P.n+P.m:Nat))(j:Nat):(P.Yq u j).natAbs<=M:=by
 unfold Pb.Yq;by_cases s:u = -1
 .rw[YY s];exact zI h.one _ _
 .rw[YZ s];by_cases J:u<P.n
  .rw[YY J];exact zI h.one _ _
  .rw[YZ J];by_cases v:j<P.n
   .rw[YY v,Ws];exact h.R _ _ Q1 v
   .rw[YZ v];by_cases X:j=P.n
    .rw[YY X];exact h.L _ Q1
    .rw[YZ X];exact h.one
theorem AV(h:P.Le M)(ok:Ok P N b)(i j:Nat):(P.vec N b i j).natAbs<=M:=by
 unfold Pb.vec;by_cases c:i<N
 .rw[YY c];have:=ok.xR (Qu b.dn (ok.Am c));exact M5 h this.1 this.2 j
 .rw[YZ c];split<;>exact zI h.one _ _
theorem O0(h:P.Le M)(ok:Ok P N b)(i j:Nat):(P.Wq b i j).natAbs<=M:=by
 unfold Pb.Wq;by_cases c:i<P.m
 .rw[YY c];have:=ok.xR (Qs b.ac (ok.Bm c));exact M5 h this.1 this.2 j
 .rw[YZ c];unfold Pb.zq;by_cases J:j<P.n
  .rw[YY J];exact h.c j J
  .rw[YZ J];exact RP _
theorem Ok.Ob(h:P.Le M)(ok:Ok P N b):b.s.natAbs<=Er (P.n+2)*M^(P.n+2):=by rw[<-ok.det];exact D.le λi j _ _=>AV h ok i j
theorem Ok.Ot(h:P.Le M)(ok:Ok P N b)(hi:i<=P.m)(hl:l<=N):(b.Gq i l).natAbs<=Er (P.n+2)*M^(P.n+2):=by
 obtain⟨T,id⟩:=ok.id;have hN:=ok.hN;have hs:=ok.pos;have c:=D.J4 (show l<P.n+2 by lia) (id i hi);have e:=Y2 Xl c;simp only[Ry,Ry,Ry,ok.det] at e;have R:(qs N l).natAbs=1:=by unfold qs;split<;>rfl
 rw[R,VO,show Gx N b T i l=b.Gq i l from YY hl,To] at e;have e2:=Nat.eq_of_mul_eq_mul_right (show 0<b.s.natAbs by lia) e;simp only[<-e2];refine D.le λa j _ _=>?_;unfold up;split
 .exact O0 h ok i j
 .exact AV h ok a j
variable{P:Pb}{N c a k t:Nat}{b:Bo}
theorem LV{M:Nat}{f:Nat->Int}(l:t<M)(s:∀u,u<t->f u=0)(hn:f t≠0):LP M f↔0<f t:=by
 constructor
 .rintro⟨u,a,b,z⟩;rcases V4 t u with c|c|c
  .exact absurd (z t c) hn
  .rw[c];exact b
  .rw[s u c] at b;lia
 .exact λh=>⟨t,l,h,s⟩
theorem Mp{M:Nat}{f:Nat->Int}(s:∀u,u<M->f u=0):¬ LP M f:=λ⟨u,a,b,_⟩=>by rw[s u a] at b;lia
def Bw(P:Pb)(N:Nat)(b:Bo)(c i k:Nat):Prop:=LL (P.m+1) (Rr P N b i) (b.Gq i c) (Rr P N b k) (b.Gq k c)
def oI(P:Pb)(N:Nat)(b:Bo)(c k:Nat):Option Nat->Prop
 |none=>∀i,i<k->b.Gq i c<=0
 |some a=>a<k/\0<b.Gq a c/\∀i,i<k->0<b.Gq i c->¬ Bw P N b c i a
theorem oI.zero:oI P N b c 0 none:=λi hi=>by lia
theorem oI.no{f:Option Nat}(h:oI P N b c k f)(hk:b.Gq k c<=0):oI P N b c (k+1) f:=by
 cases f with
 |none=>
  intro i hi;by_cases e:i=k
  .rw[e];exact hk
  .exact h i Q1
 | some a=>exact⟨by have:=h.1;exact QQ ‹_›,h.2.1,λi hi hp=>by
   by_cases e:i=k
   .rw[e] at hp;lia
   .exact h.2.2 i Q1 hp⟩
theorem oI.one(h:oI P N b c k none)(hk:0<b.Gq k c):oI P N b c (k+1) (some k):=⟨by exact Rc _,hk,λi hi hp=>by
 by_cases e:i=k
 .rw[e];exact LL.Pp
 .have:=h i Q1;lia⟩
theorem oI.keep(h:oI P N b c k (some a))(hn:¬ Bw P N b c k a):oI P N b c (k+1) (some a):=⟨by have:=h.1;exact QQ ‹_›,h.2.1,λi hi hp=>by
 by_cases e:i=k
 .rw[e];exact hn
 .exact h.2.2 i Q1 hp⟩
theorem oI.put(h:oI P N b c k (some a))(hk:0<b.Gq k c)(hn:Bw P N b c k a):oI P N b c (k+1) (some k):=⟨by lia,hk,λi hi hp=>by
 by_cases e:i=k
 .rw[e];exact LL.Pp
 .exact LL.nt hp h.2.1 hk (h.2.2 i Q1 hp) hn⟩
theorem Ok.KP(h:Ok P N b)(g:u∉b.ac)(i:Nat):Fb P N b i u=if i<P.m/\b.Bq i=u then b.s else 0:=by unfold Fb F;rw[fU λl hl=>YZ λe=>g (by rw[<-e];exact h.Am hl),Tp]
theorem vD{n:Nat}{f g:Nat->Int}(h:∀i,i<n->f i<=g i):su n f<=su n g:=by
 have:=uY (f:=λi=>g i-f i) λi hi=>by have:=h i hi;lia
 rw[yQ] at this;lia
variable{P:Pb}{s t:Int}{x y:Nat->Int}
theorem xA:(su P.n λj=>(su P.m λk=>y k*P.R k j)*x j)=su P.m λk=>y k*su P.n λj=>P.R k j*x j:=by
 rw[ba (g:=λj=>su P.m λk=>y k*(P.R k j*x j)) λj a=>by rw[Rh,<-cw];exact ba λk hk=>by grind,oP]
 exact ba λk hk=>cw
theorem weak(k:Keeps P s x)(hy:∀k,k<P.m->0<=y k)(hc:∀j,j<P.n->t*P.c j<=su P.m λk=>y k*P.R k j):t*(su P.n λj=>P.c j*x j)<=s*su P.m λk=>y k*P.L k:=by
 have a:(su P.n λj=>t*(P.c j*x j))<=su P.n λj=>(su P.m λk=>y k*P.R k j)*x j:=vD λj D=>by rw[<-Sa];exact Int.mul_le_mul_of_nonneg_right (hc j D) (k.nn j D)
 have b:(su P.m λk=>y k*su P.n λj=>P.R k j*x j)<=su P.m λk=>s*(y k*P.L k):=vD λi hi=>by
  have:=S9 (k.le i hi) (hy i hi)
  grind
 simp only[cw] at a b;simp only[xA] at a;exact T6 a b
theorem CZ(k:Keeps P s x)(hs:0<s)(hy:∀k,k<P.m->0<=y k)(hc:∀j,j<P.n->0<=su P.m λk=>y k*P.R k j)(hl:(su P.m λk=>y k*P.L k)<0):False:=by have z:=weak (P:={ P with c:=λ_=>0 }) (t:=1) ⟨k.nn,k.le⟩ hy (λj a=>by show 1*0<=_;exact hc j a);have e:(su P.n λj=>(0:Int)*x j)=0:=fU λ_ _=>Si _;have z:1*(su P.n λj=>(0:Int)*x j)<=s*su P.m λk=>y k*P.L k:=z;rw[e] at z;have:=Int.mul_neg_of_pos_of_neg hs hl;lia
theorem B8(k:Keeps { P with L:=λ_=>0 } s x)(hs:0<=s)(J:0<su P.n λj=>P.c j*x j)(l:0<t)(hy:∀k,k<P.m->0<=y k)(hc:∀j,j<P.n->t*P.c j<=su P.m λk=>y k*P.R k j):False:=by have z:=weak (P:={ P with L:=λ_=>0 }) k hy hc;have e:(su P.m λk=>y k*(0:Int))=0:=fU λ_ _=>Q9 _;have z:t*(su P.n λj=>P.c j*x j)<=s*su P.m λk=>y k*(0:Int):=z;rw[e,Q9] at z;have:=Up l J;lia
end Sx
namespace W
open PySem L2 M
inductive X2{α β:Type}(p:α->β->Prop):Prop|mk(a:α)(b:β)(h:p a b)
inductive X3{α β γ:Type}(p:α->β->γ->Prop):Prop|mk(a:α)(b:β)(c:γ)(h:p a b c)
inductive X5{α β γ δ ε:Type}(p:α->β->γ->δ->ε->Prop):Prop|mk(a:α)(b:β)(c:γ)(d:δ)(e:ε)(h:p a b c d e)
inductive N3(a b c:Prop):Prop|mk(x:a)(y:b)(z:c)
inductive N4(a b c d:Prop):Prop|mk(x:a)(y:b)(z:c)(w:d)
inductive N6(a b c d e f:Prop):Prop|mk(x:a)(y:b)(z:c)(w:d)(u:e)(v:f)
variable{Z:List Sl}
theorem bx{x:Rr}{xs:List A}{i:Int}{a:A}(h:res Z x=some (.lst xs)\/res Z x=some (.tup xs))(e:gn xs i=some a):kG B7 x (.fr (.int i)) Z=some (.ok (.fr a),Z):=by unfold kG;rcases h with h|h<;>rw[h]<;>simp only[res,B7,e]
variable{U:List Sl}{Q:Fl->List Sl->Prop}
theorem Wp.sr{m n:Ms}{s:Sl}(h:m Z=some (.rt s,U))(q:Q (.rt s) U):Wp (av m n) Z Q:=⟨_,_,by unfold av;rw[h],q⟩
theorem eM{t:Mi Bool}{m n:Ms}{r:Option (Fl×List Sl)}(h:t Z=some (.ok true,U))(k:m U=r):ip t m n Z=r:=sk h k
theorem cY{t:Mi Bool}{m n:Ms}{r:Option (Fl×List Sl)}(h:t Z=some (.ok false,U))(k:n U=r):ip t m n Z=r:=sk h k
theorem Hl(i j:Int)(Z:List Sl):kG mT (.fr (.int i)) (.fr (.int j)) Z=some (.ok (.fr (.bl (decide (i=j)))),Z):=by simp only[kG,res,mT,qc]
theorem dN{m n:Ms}{r:Option (Fl×List Sl)}(h:m Z=some (.nx,U))(k:n U=r):av m n Z=r:=by unfold av;rw[h];exact k
variable{i:Nat}{r:Rr}{Z':List Sl}
theorem IP{a s:Sl}(h:xM r Z=some (a,U))(k:U[i]?=some s)(hn:np s=true)(e:U.set i a=Z'):Ez i r Z=some (.nx,Z'):=by rw[KH h k hn,e]
variable{G:Mg}{e:Mi Rr}
theorem bj{n:Nat}{H:Mi (List A)}{t:Mi Bool}{as:List A}(h:H Z=some (.ok as,U))(k:gi n G t e as U=some (.ok r,Z')):aL n H G t e Z=some (.ok r,Z'):=bk h k
theorem aW{m:Mi Rr}{a s:Sl}(h:m Z=some (.ok r,U))(h1:xM r U=some (a,U))(k:U[i]?=some s)(hn:np s=true)(e:U.set i a=Z'):aG i m Z=some (.nx,Z'):=yN h (IP h1 k hn e)
theorem yE{m:Mi Rr}{x:Rr}{a:A}{xs:List A}(s:FK Z i=true)(h:m Z=some (.ok x,U))(k:bS x U=some (a,U))(l:az U i=some (.lst xs))(hl:xs.length<=16000000)(e:setAt U i (.lst (xs++[a]))=Z'):cH (jK i (g9 i m)) Z=some (.nx,Z'):=by refine dy (r:=.fr .non) ((YY s).trans (bk h ?_));rw[k];dsimp only;rw[l];dsimp only;rw[YY hl,e]
theorem fu{o:Option (Except Str Rr×List Sl)}{f:A->A->Option Rr}{x y:Rr}{a b:A}(h1:res Z x=some a)(h2:res Z y=some b)(k:f a b=some r):kG f x y Z=some (.ok r,Z):=by unfold kG;rw[h1,h2];dsimp only;rw[k]
theorem gN{i j:Int}{b:Bool}(h:decide (i=j)=b)(Z:List Sl):kG j6 (.fr (.int i)) (.fr (.int j)) Z=some (.ok (.fr (.bl (!b))),Z):=by rw[<-h];simp only[kG,res,j6,qc]
theorem kN{i j:Int}{b:Bool}(h:decide (i=j)=b)(Z:List Sl):kG mT (.fr (.int i)) (.fr (.int j)) Z=some (.ok (.fr (.bl b)),Z):=by rw[<-h];exact Hl i j Z
theorem k9{i j:Int}(h:j≠0)(Z:List Sl):kG mW (.fr (.int i)) (.fr (.int j)) Z=some (.ok (.fr (.int (i.fmod j))),Z):=fu (o:=none) rfl rfl (YY (by simpa using h))
theorem oN{i j:Int}(h:j≠0)(f:fits 9000 j=true)(Z:List Sl):kG kB (.fr (.int i)) (.fr (.int j)) Z=some (.ok (.fr (.int (i.fdiv j))),Z):=fu (o:=none) rfl rfl (YY (by rw[f];simpa using h))
theorem kO{i j:Int}(h:fits 20000 i=true)(k:fits 20000 j=true)(Z:List Sl):kG aZ (.fr (.int i)) (.fr (.int j)) Z=some (.ok (.fr (.int (i*j))),Z):=by have e:aZ (.int i) (.int j)=some (.fr (.int (i*j))):=YY (by simp only[h,k];rfl);exact fu (o:=none) rfl rfl e
theorem ft{n m:Nat}{i:Int}(h:L2.Bd n i)(k:n<=m):fits m i=true:=gX h k
theorem rF{f:A->Option Rr}{x:Rr}{a:A}(h:res Z x=some a)(k:f a=some r):Ow f x Z=some (.ok r,Z):=by unfold Ow;rw[h];dsimp only;rw[k]
theorem nG{m:Mi Rr}{x:Rr}{as:List A}(h:m Z=some (.ok x,U))(k:NO x U=some (.ok as,Z')):bZ m Z=some (.ok as,Z'):=bk h k
theorem vS{n:Nat}{t:Mi Bool}{b:Ms}{r:Option (Fl×List Sl)}(h:dC t b n Z=r):iU n t b Z=r:=h
variable{mk:Mi Rr}{S:List Sl}
theorem nD{m:Mi Rr}{Y:Rr}{q:Option (Fl×List Sl)}(h:m Z=some (.ok r,S))(l:FK S i=true)(hk:mk S=some (.ok Y,U))(k:Pu i r Y U=q):gf i mk m Z=q:=sk h ((YY l).trans (sk hk k))
theorem OZ{x y:Int}(h:y≠0)(d:L2.Bd 9000 y):Val fG [.int x,.int y] (.int (cd x y)):=by
 obtain⟨B,h1,q,r,rfl⟩:=xr (t:=ay (aB j6 (ab 1) (aC 0))) (b:=av (aG 2 (aB mW (ab 0) (ab 1))) (av (aG 0 (ab 1)) (aG 1 (ab 2))))
  (P:=λk Z=>X3 λp q r=>N4 (Z=[.fr (.int p),.fr (.int q),r]) (k=q.natAbs) (np r=true) ((q=0->p=cd x y)/\(q≠0->cd p q=cd x y)))
  (Q:=λZ=>X2 λq r=>Z=[.fr (.int (cd x y)),q,r]) (by
   rintro k Z ⟨p,q,r,rfl,rfl,S,h1,h2⟩;by_cases z:q=0
   .exact .inl ⟨_,aP (ag rfl rfl (gN (Y1 z) _)),_,_,by rw[<-h1 z]⟩
   .exact .inr ⟨_,[.fr (.int q),.fr (.int (p.fmod q)),.fr (.int (p.fmod q))],_,aP (ag rfl rfl (gN (Y0 z) _)),.inl (dN (aW (ag rfl rfl (k9 z _)) rfl rfl S rfl) <| dN (aW rfl rfl rfl rfl rfl) (aW rfl rfl rfl rfl rfl)),yT p z,q,p.fmod q,_,rfl,rfl,rfl,λe=>by rw[<-h2 z];exact Eo z e,λe=>by rw[DL z e];exact h2 z⟩) ⟨x,y,.un,rfl,rfl,rfl,λe=>absurd e h,λ_=>rfl⟩ (zj (QL d (S7 Z2 Z2)))
 exact Val.of (Wp.df (Wp.st (vS h1) (Wp.en (aV rfl rfl) rfl)))
def Wl(n:Int)(o:LO):Prop:=X3 λ(f c t:Int)=>N4 (o=.lst [.int f,.int c,.int t]) (f=0\/f=1) (f=0->c.natAbs<10^18) (0<=t/\t<=n)
variable{o:LO}
theorem Wl.mono{n m:Int}(h:Wl n o)(k:n<=m):Wl m o:=by obtain⟨f,c,t,h1,h2,h3,h4,h5⟩:=h;exact⟨f,c,t,h1,h2,h3,h4,by exact T6 ‹_› ‹_›⟩
theorem qh{i:Int}(h:i.natAbs<2^64):fits 20000 i=true:=gX h Z2
theorem zG{n:Int}{m:Int}(w:Wl n o)(hn:n<2^40)(R:0<m)(Y:m<2^64):X2 λr o'=>N4 (cD aD o [.int m] (.fr (.int r)) o') (0<=r) (r<m) (Wl (n+1) o'):=by
 suffices ∃s o',cD aD o [.int m] s o'/\∃r,N4 (s=.fr (.int r)) (0<=r) (r<m) (Wl (n+1) o') by obtain⟨s,o',v,r,rfl,h1,h2,h3⟩:=this;exact⟨r,o',v,h1,h2,h3⟩
 obtain⟨f,c,t,rfl,hf,hc,e,S⟩:=w
 have h:m≠0:=by exact Rg ‹_›
 refine cD.of (Wp.df ?_)
 have X:∀b,decide (f=1)=b->∀Z,ay (aB mT (mix (ab 0) (aC 0)) (aC 1)) (.pv (.lst [.int f,.int c,.int t])::Z)=some (.ok b,.pv (.lst [.int f,.int c,.int t])::Z):=λb d Z=>aP (ag (ag rfl rfl (bx (.inl rfl) rfl)) rfl (kN d _))
 rcases hf with rfl|rfl
 .have hc:=hc rfl
  have b1:=L2.Bd.mul (show (7919*(t+1)).natAbs<2^64 by lia) (show (t+1).natAbs<2^64 by lia)
  have b2:L2.Bd 130 (c+7919*(t+1)*(t+1)+(t+1)):=((L2.Bd.add (show c.natAbs<2^128 by exact vZ) b1).add (show (t+1).natAbs<2^128 by lia)).mono Z2
  have e1:∀i:Int,(i.fmod 2305843009213693951).natAbs<2^64:=λi=>by
   rw[Int.fmod_eq_emod_of_nonneg _ Z2]
   lia
  refine Wp.st (cY (X false rfl _) rfl) ?_
  refine Wp.st (aW (ag (ag rfl rfl (bx (.inl rfl) rfl)) rfl rfl) rfl rfl rfl rfl) ?_
  refine Wp.st (nD rfl rfl rfl rfl) ?_
  refine Wp.st (aW (ag (ag (ag (ag (ag rfl rfl (bx (.inl rfl) rfl)) (ag (ag rfl rfl (kO (qh Z2) (qh Q1) _)) rfl (kO (qh Q1) (qh Q1) _)) rfl) rfl rfl) rfl (kO (ft b2 Z2) (qh Z2) _)) rfl (k9 Z2 _)) rfl rfl rfl rfl) ?_
  exact Wp.en (aV (ag (ag (ag (ag (ag rfl rfl (kO (qh (e1 _)) (qh Z2) _)) rfl rfl) rfl (k9 Z2 _)) rfl (oN Z2 (gX (show (64:Int).natAbs<2^64 by decide) Z2) _)) rfl (k9 h _)) rfl) ⟨_,_,_,rfl,rfl,_,rfl,SV _ R,UD _ R,0,c,t+1,rfl,.inl rfl,λ_=>hc,by lia,by lia⟩
 .have x:∀Z,mix (ab 0) (aC 1) (.pv (.lst [.int 1,.int c,.int t])::Z)=some (.ok (.fr (.int c)),.pv (.lst [.int 1,.int c,.int t])::Z):=λZ=>ag rfl rfl (bx (.inl rfl) rfl)
  exact Wp.sr (eM (X true rfl _) (dN (aW (ag (x _) rfl (k9 h _)) rfl rfl rfl rfl) <| dN (nD (ag (x _) rfl (oN h (gX (show m.natAbs<2^64 by lia) Z2) _)) rfl rfl rfl) (aV rfl rfl))) ⟨_,.lst [.int 1,.int (c.fdiv m),.int t],_,rfl,rfl,_,rfl,SV c R,UD c R,1,c.fdiv m,t,rfl,.inr rfl,λz=>by lia,e,by lia⟩
variable{o':LO}
theorem NQ{f:Ms}{as:List A}{s:Sl}(h:cD f o as s o')(S:pC s=some r):∀Z,fk f [] (.rf 0::as.map Rr.fr) (.pv o::Z)=some (.ok r,.pv o'::Z):=λZ=>cE h S rfl
theorem tk{n:Int}(m:Int)(w:Wl n o)(hn:n<2^40)(R:0<m)(Y:m<2^64):X2 λr o'=>N4 (∀Z,fk aD [] [.rf 0,.fr (.int m)] (.pv o::Z)=some (.ok (.fr (.int r)),.pv o'::Z)) (0<=r) (r<m) (Wl (n+1) o'):=by obtain⟨r,o',h,h1,h2,h3⟩:=zG w hn R Y;exact⟨r,o',NQ h rfl,h1,h2,h3⟩
theorem pw(k v:Int)(h:0<=k/\k<=1000000/\(10:Int).natAbs<2^64)(e:(10:Int)^k.toNat=v)(Z:List Sl):aB kF (aC 10) (mC (.int k)) Z=some (.ok (.fr (.int v)),Z):=
 ag rfl rfl (fu (o:=none) rfl rfl (by rw[<-e];exact YY h))
theorem IH(ns:List Int)(k:Int)(s:0<=k)(G:k<=1000):∃o,mY gx [.lst (ns.map A.int),.int k] o/\Wl 17000 o:=by
 have key:∀c:Int,Wl 17000 (.lst [.int (if decide (1000000000000000000<=(if c<0 then -c else c))=true then 1 else 0),.int c,.int (17*k)]):=λc=>by
  refine⟨_,c,17*k,rfl,?_,λz=>?_,by lia,by lia⟩
  .generalize decide (1000000000000000000<=(if c<0 then -c else c))=d;cases d
   .exact .inl rfl
   .exact .inr rfl
  .by_cases h:1000000000000000000<=(if c<0 then -c else c)
   .simp[h] at z
   .split at h<;>lia
 have fin:∀c:Int,Wp (bW (d6 (fW (dg D3 (aB ES (dg Eu (ab 2)) (aB kF (aC 10) (aC 18)))) (ab 2) (aB aZ (aC 17) (ab 1))))) [.fr (.lst (ns.map A.int)),.fr (.int k),.fr (.int c)] λg _=>g=.rt (.lv (.lst [.int (if decide (1000000000000000000<=(if c<0 then -c else c))=true then 1 else 0),.int c,.int (17*k)])):=λc=>Wp.en (aV (fQ (ae (gh (ag rfl (pw 18 1000000000000000000 Z2 Z2 _) rfl) rfl) (ae rfl (ae (ag rfl rfl (kO (qh Z2) (qh Q1) _)) rfl))) rfl) rfl) rfl
 have X:∀b,decide (k<((ns.map A.int).length:Int))=b->ay (aB mI (ab 1) (dg cI (ab 0))) [.fr (.lst (ns.map A.int)),.fr (.int k),.fr (.int 0)]=some (.ok b,[.fr (.lst (ns.map A.int)),.fr (.int k),.fr (.int 0)]):=by rintro b rfl;rfl
 by_cases hk:k<((ns.map A.int).length:Int)
 .obtain⟨j,rfl⟩:∃j:Nat,k=j:=⟨k.toNat,by lia⟩
  have a:j<ns.length:=by rw[Qt] at hk;lia
  exact⟨_,mY.of (Wp.df (Wp.st rfl (Wp.st (eM (X true (Y1 hk)) (aW (ag rfl rfl (bx (.inl rfl) (dt (by simp only[Q0,QP a];rfl)))) rfl rfl rfl rfl)) (Wp.mono (fin ns[j]) λf _ e=>by rw[e])))),key ns[j]⟩
 .exact⟨_,mY.of (Wp.df (Wp.st rfl (Wp.st (cY (X false (Y0 hk)) rfl) (Wp.mono (fin 0) λf _ e=>by rw[e])))),key 0⟩
theorem yZ{t b:Int}(h:b≠0)(E:L2.Bd 9000 b):Val cA [.int t,.int b] (nm (dz t b)):=by
 have k:=ck (OZ (x:=t) h E);have hc:=vy (x:=t) h;have f:=gX (show L2.Bd 9000 (cd t b) from RL (LW h) E) (QB _);have d:∀(u:Int)(Z:List Sl),kG kB (.fr (.int u)) (.fr (.int (cd t b))) Z=some (.ok (.fr (.int (u.fdiv (cd t b)))),Z):=λu Z=>by unfold kG;simp only[res,GL,M.oK,f,bne_iff_ne,ne_eq,hc,not_false_eq_true,SH,decide_true,if_true]
 exact Val.of (Wp.df (Wp.st (yN (aA rfl (k _)) rfl) (Wp.en (aV (fP (ae (ag rfl rfl (d _ _)) (ae (ag rfl rfl (d _ _)) rfl)) rfl) rfl) rfl)))
theorem Jf{x:Sl}{t:Sl}(hi:S.length=i)(hx:∀o,x≠Sl.pv o):put i t (S++[x])=some (S++[t]):=by
 subst hi;unfold put;rw[Rl (QB _),SD];rw[Vn];have e:(S++[x]).set S.length t=S++[t]:=by rw[Uh _ _ (QB _),SD];rfl
 cases x with
 |pv o=>exact absurd rfl (hx o)
 |un=>simp only[e]
 |fr a=>simp only[e]
 |lv o=>simp only[e]
 |cf a=>simp only[e]
theorem lQ{n:Nat}{t:Mi Bool}{as ys:List A}{B:List Sl}(hl:as.length<=100000)(h:dm G t e as [] (Z++QD n .un)=some (ys,B)):gi n G t e as Z=some (.ok (.nw (.lst ys)),B.take Z.length):=by unfold gi;rw[YY hl,h]
variable{T:Type}
theorem bB{ts:List T}(k g:T->A)(hi:S.length=i)(hl:ts.length<=100000)(h:∀t∈ts,∃r,e (S++[.fr (k t)])=some (.ok r,S++[.fr (k t)])/\bS r (S++[.fr (k t)])=some (g t,S++[.fr (k t)])):
  gi 1 (aO i) aH e (ts.map k) S=some (.ok (.nw (.lst (ts.map g))),S):=by
 obtain⟨ys,B,h1,x,rfl,_,rfl⟩:=eP (G:=aO i) (t:=aH) (as:=ts.map k)
  (λj acc Z=>∃x:Sl,N3 (Z=S++[x]) (∀o,x≠Sl.pv o) (acc=(ts.take j).map g)) ⟨.un,rfl,(λo z=>by cases z),rfl⟩ (by
   rintro j q acc Z l ⟨x,rfl,hx,rfl⟩;rw[Q0] at l;cases a:ts[j]? with
   |none=>rw[a] at l;cases l
   | some t=>rw[a] at l;cases l;obtain⟨r,J,D⟩:=h t (Rq a);refine⟨S++[Sl.fr (k t)],(show put i (.fr (k t)) (S++[x])=some (S++[.fr (k t)]) from Jf hi hx),.inl ⟨_,r,_,g t,_,rfl,J,D,.fr (k t),rfl,(λo z=>by cases z),?_⟩⟩;simp only[TC,a,QZ];rfl)
 unfold gi;rw[YY (by rw[Qt];exact hl)];have e1:S++QD 1 Sl.un=S++[.un]:=rfl;simp only[e1,h1];simp
abbrev G2(i j:Nat):Mg:=fN 2 (bQ (aO i) (bQ (aO j) fq))
noncomputable abbrev lI(r:List Int):A:=.lst (r.map A.int)
abbrev gI(g:List (List Int)):A:=.lst (g.map lI)
variable{j:Nat}
theorem fh{r:List Int}(h:j<r.length):gn (r.map A.int) (j:Int)=some (.int (r.getD j 0)):=
 dt (by simp[QX,h])
theorem uv{g:List (List Int)}(h:j<g.length):gn (g.map lI) (j:Int)=some (lI (g.getD j [])):=
 dt (by simp[QX,h])
variable{α:Type}
theorem A7{xs:List α}{n:Nat}{v:α}(h:xs.length=n+1)(e:xs[n]?=some v):gn xs (-1)=some v:=by
 have k:L2.gk xs.length (-1)=some n:=by
  unfold L2.gk;rw[YZ Z2,YY Q1]
  congr 1;lia
 unfold gn;rw[k];exact e
theorem kQ{r:List Int}{n:Nat}(h:r.length=n+1):gn (r.map A.int) (-1)=some (.int (r.getD n 0)):=
 A7 (by simpa using h) (by simp[QX,h])
theorem vH{g:List (List Int)}{n:Nat}(h:g.length=n+1):gn (g.map lI) (-1)=some (lI (g.getD n [])):=
 A7 (by simpa using h) (by simp[QX,h])
theorem J6{xs:List A}{n:Nat}(h:xs.length=n+1):il xs none (some (-1))=xs.take n:=by
 have e:HT.cM xs.length xs.length (some (-1))=n:=by unfold HT.cM;simp[h];lia
 have I:HT.cM xs.length 0 none=0:=rfl;unfold il;simp only[e,I,Vv,Wo]
theorem Ju{xs:List A}{n:Nat}(h:xs.length=n+1):il xs (some (-1)) none=xs.drop n:=by
 have e:HT.cM xs.length 0 (some (-1))=n:=by unfold HT.cM;simp[h];lia
 have I:HT.cM xs.length xs.length none=xs.length:=rfl;unfold il;rw[e,I,T3 Z4]
variable{β:Type}
theorem gR{k:α->A}{l:β->A}(xs:List α)(ys:List β):rj (xs.map k) (ys.map l)=(xs.zip ys).map λp=>.tup [k p.1,l p.2]:=by unfold rj;simp only[List.zip_map,Q6];rfl
variable{tl:List Sl}
theorem gC{x t:Sl}(hi:S.length=i)(hx:np x=true):put i t (S++x::tl)=some (S++t::tl):=by subst hi;rw[F3,Rl (QB _),SD];simp only[Vn,hx,if_true];rw[Uh _ _ (QB _),SD];rfl
theorem qR{x y:Sl}{a b:A}(hi:S.length=i)(hx:np x=true)(hy:np y=true):G2 i (i+1) (.tup [a,b]) (S++x::y::tl)=some (S++.fr a::.fr b::tl):=by
 have e1:=gC (tl:=y::tl) (t:=.fr a) hi hx;have e2:=gC (S:=S++[.fr a]) (i:=i+1) (tl:=tl) (t:=.fr b) (by simp[hi]) hy;simp only[Qw,Qw] at e2;have N:fN 2 (bQ (aO i) (bQ (aO (i+1)) fq)) (.tup [a,b]) (S++x::y::tl)=some (S++.fr a::.fr b::tl):=by show bQ (aO i) (bQ (aO (i+1)) fq) [a,b] _=_;unfold bQ;simp only[aO,e1];show (match put (i+1) (Sl.fr b) (S++([Sl.fr a]++y::tl)) with|some U=>fq [] U|none=>none)=_;rw[e2];rfl
 exact N
theorem jU{ts:List T}(J D g:T->A)(hi:S.length=i)(hl:ts.length<=100000)
  (h:∀t∈ts,∃r,e (S++[.fr (J t),.fr (D t)])=some (.ok r,S++[.fr (J t),.fr (D t)])/\bS r (S++[.fr (J t),.fr (D t)])=some (g t,S++[.fr (J t),.fr (D t)])):
  gi 2 (G2 i (i+1)) aH e (ts.map λt=>.tup [J t,D t]) S=some (.ok (.nw (.lst (ts.map g))),S):=by
 obtain⟨ys,B,h1,x,y,rfl,_,_,rfl⟩:=eP (G:=G2 i (i+1)) (t:=aH) (as:=ts.map λt=>.tup [J t,D t])
  (λj acc Z=>X2 λ(x y:Sl)=>N4 (Z=S++[x,y]) (np x=true) (np y=true) (acc=(ts.take j).map g)) ⟨.un,.un,rfl,rfl,rfl,rfl⟩ (by
   rintro j q acc Z l ⟨x,y,rfl,hx,hy,rfl⟩;rw[Q0] at l;cases a:ts[j]? with
   |none=>rw[a] at l;cases l
   | some p=>rw[a] at l;cases l;obtain⟨r,J,D⟩:=h p (Rq a);refine⟨_,qR hi hx hy,.inl ⟨_,r,_,g p,_,rfl,J,D,_,_,rfl,rfl,rfl,?_⟩⟩;simp only[TC,a,QZ];rfl)
 unfold gi;rw[YY (by rw[Qt];exact hl)];have e1:S++QD 2 Sl.un=S++[.un,.un]:=rfl;rw[e1,h1];simp
theorem yV{r:List Int}(hl:r.length<=100000):mY aR [lI r] (.lst ((Sx.fH r).map A.int)):=
 mY.of (Wp.df (Wp.en (aV (bj rfl (bB (k:=A.int) (λx=>.int (-x)) rfl hl λx _=>⟨_,rfl,rfl⟩)) rfl) (by unfold Sx.fH;simp only[Q6];rfl)))
variable{c:Nat}
theorem cU{r:List Int}(h:c<r.length):r.getD c 0∈r:=by simp[QX,h]
variable{pr:List Int}{s:Int}{N:Nat}
theorem HK{row:List Int}(h1:row.length=N+1)(h2:pr.length=N+1)(hc:c<N+1)(hN:N<100)(hs:s≠0)(bs:L2.Bd 400 s)(b1:∀x∈row,L2.Bd 400 x)(b2:∀x∈pr,L2.Bd 400 x):
  mY eO [lI row,lI pr,.int c,.int s] (.lst ((Sx.j0 row pr c s).map A.int)):=by
 have fp:=ft (b2 _ (cU (show c<pr.length by lia))) (show 400<=20000 by decide);have e:=ft (b1 _ (cU (show c<row.length by lia))) (show 400<=20000 by decide);have fs:=ft bs (show 400<=9000 by decide);have G:∀Z:List Sl,mix (ab 1) (ab 2) (.fr (lI row)::.fr (lI pr)::.fr (.int c)::Z)=some (.ok (.fr (.int (pr.getD c 0))),.fr (lI row)::.fr (lI pr)::.fr (.int c)::Z):=λZ=>ag rfl rfl (bx (.inl rfl) (fh Q1));have D:∀Z:List Sl,mix (ab 0) (ab 2) (.fr (lI row)::.fr (lI pr)::.fr (.int c)::Z)=some (.ok (.fr (.int (row.getD c 0))),.fr (lI row)::.fr (lI pr)::.fr (.int c)::Z):=λZ=>ag rfl rfl (bx (.inl rfl) (fh Q1));have h:row.length<=100000:=by lia
 generalize i:pr.getD c 0=p at G fp;generalize Y:row.getD c 0=f at D e;refine mY.of (Wp.df (Wp.st (aW (G _) rfl rfl rfl rfl) (Wp.st (aW (D _) rfl rfl rfl rfl) ?_)));have X:∀b,decide (f=0)=b->∀x:Sl,ay (aB mT (ab 5) (aC 0)) [.fr (lI row),.fr (lI pr),.fr (.int c),.fr (.int s),.fr (.int p),.fr (.int f),x]=some (.ok b,[.fr (lI row),.fr (lI pr),.fr (.int c),.fr (.int s),.fr (.int p),.fr (.int f),x]):=λb d x=>aP (ag rfl rfl (kN d _));by_cases z:f=0
 .refine Wp.sr (eM (X true (Y1 z) _) (aV (bj rfl (bB (k:=A.int) (λx=>.int ((p*x).fdiv s)) rfl h λx hx=>⟨_,ag (ag rfl rfl (kO fp (ft (b1 x hx) Z2) _)) rfl (oN hs fs _),rfl⟩)) rfl)) ?_;unfold Sx.j0;rw[i,Y,YY z,Q6];rfl
 .refine Wp.st (cY (X false (Y0 z) _) rfl) ?_;refine Wp.st (aW (bj ?_ (jU (S:=[.fr (lI row),.fr (lI pr),.fr (.int c),.fr (.int s),.fr (.int p),.fr (.int f),.un]) (λt=>.int t.1) (λt=>.int t.2) (λt=>.int ((p*t.1-f*t.2).fdiv s)) rfl (by rw[Te];lia) λt l=>⟨_,ag (ag (ag rfl rfl (kO fp (ft (b1 _ (SJ l).1) Z2) _)) (ag rfl rfl (kO e (ft (b2 _ (SJ l).2) Z2) _)) rfl) rfl (oN hs fs _),rfl⟩)) rfl rfl rfl rfl) ?_
  .rw[<-gR];rfl
  .have R:c<((row.zip pr).map λt=>A.int ((p*t.1-f*t.2).fdiv s)).length:=by simp only[Qt,Te];lia
   have k:L2.gk ((row.zip pr).map λt=>A.int ((p*t.1-f*t.2).fdiv s)).length (c:Int)=some c:=by unfold L2.gk;rw[YY Z4,YY Q1];simp
   refine Wp.st (nD rfl rfl rfl (q:=some (.nx,[.fr (lI row),.fr (lI pr),.fr (.int c),.fr (.int s),.fr (.int p),.fr (.int f),.lv (.lst (((row.zip pr).map λt=>A.int ((p*t.1-f*t.2).fdiv s)).set c (.int (-f))))])) ?_) (Wp.en (aV rfl rfl) ?_)
   .show (match L2.gk ((row.zip pr).map λt=>A.int ((p*t.1-f*t.2).fdiv s)).length (c:Int) with|some n=>_|none=>_)=_;rw[k];rfl
   .unfold Sx.j0;rw[i,Y,YZ z,T5,Q6];rfl
theorem jC{m:Mi Rr}{n:Nat}(h:m Z=some (.ok (.fr (.int n)),U))(hn:n<=100000):dw m Z=some (.ok (bI 0 n),U):=by refine bk h ?_;show (if -(2^60)<=(n:Int)/\(n:Int)<2^60 then some (Rn (bI 0 (n:Int).toNat),U) else none)=_;rw[YY Q1];rfl
noncomputable def vA:Rr->A
 | .fr a=>a
 | .nw o=>o.a
 | .rf _=>.non
noncomputable def Fj:Rr->Bool
 | .rf _=>false
 |_=>true
theorem pF(Z:List Sl):∀rs:List Rr,rs.all Fj=true->cq rs Z=some ((rs.map vA).map Sl.fr,Z)
 |[],_=>rfl
 |r::rs,h=>by
  simp only[QV,Qq] at h;have e:take1 r Z=some (.fr (vA r),Z):=by
   cases r with
   |rf i=>cases h.1
   |fr a=>rfl
   |nw o=>rfl
  unfold cq;rw[e];dsimp only;rw[pF Z rs h.2];rfl
abbrev nS(n:Nat)(s:Int)(v:Nat->Int):A:=.tup ((QK n).map λj=>nm (dz (v j) s))
abbrev V9(n:Nat)(v:Nat->Int):Prop:=∀j,j<n->L2.Bd 900 (v j)
theorem FH{f:Nat->Int}{b:Nat}:∀{n:Nat},(∀j,j<n->L2.Bd b (f j))->n<=2^10->L2.Bd (b+10) (Sx.su n f):=by
 intro n h hn;have h1:=λj a=>QJ (h j a);by_cases z:n=0
 .subst z;exact Ta Z2
 .have:∀j,j<n->(f j).natAbs<=2^b-1:=λj a=>by have:=h j a;unfold L2.Bd at this;lia
  have h3:=Sx.EL this;have:n*(2^b-1)<n*2^b:=Nat.mul_lt_mul_of_pos_left (by have:=Ta (n:=b) (show 0<2 by decide);lia) Q1;show (Sx.su n f).natAbs<2^(b+10);rw[VJ];have:n*2^b<=2^b*2^10:=by rw[To];exact Nat.mul_le_mul_left _ hn
  lia
theorem uC(i j:Str):xQ (.str i) (.str j)=some (decide (i=j)):=by unfold xQ;exact YY (RP 40)
inductive Told(c:List Int)(R:List (List Int))(L:List Int):A->Prop
 | best {s w:Int} {x y:Nat->Int} (hs:0<s) (bs:L2.Bd 900 s) (hx:V9 c.length x) (hy:V9 R.length y) (bw:L2.Bd 900 w) (x0:∀j,j<c.length->0<=x j) (y0:∀k,k<R.length->0<=y k)
  (keep:∀i,i<R.length->(Sx.su c.length λj=>(R.getD i []).getD j 0*x j)<=L.getD i 0*s) (cov:∀j,j<c.length->c.getD j 0*s<=Sx.su R.length λk=>(R.getD k []).getD j 0*y k)
  (e1:(Sx.su c.length λj=>c.getD j 0*x j)=w) (e2:(Sx.su R.length λk=>L.getD k 0*y k)=w):Told c R L (.tup [.str "best",nm (dz w s),nS c.length s x,nS R.length s y])
 | opn {s:Int} {x z:Nat->Int} (hs:0<s) (bs:L2.Bd 900 s) (hx:V9 c.length x) (hz:V9 c.length z) (x0:∀j,j<c.length->0<=x j) (z0:∀j,j<c.length->0<=z j)
  (keep:∀i,i<R.length->(Sx.su c.length λj=>(R.getD i []).getD j 0*x j)<=L.getD i 0*s) (still:∀i,i<R.length->(Sx.su c.length λj=>(R.getD i []).getD j 0*z j)<=0)
  (pA:0<Sx.su c.length λj=>c.getD j 0*z j):Told c R L (.tup [.str "open",nS c.length s x,nS c.length s z])
 | non {s:Int} {y:Nat->Int} (hs:0<s) (bs:L2.Bd 900 s) (hy:V9 R.length y) (y0:∀k,k<R.length->0<=y k)
  (cov:∀j,j<c.length->0<=Sx.su R.length λk=>(R.getD k []).getD j 0*y k) (less:(Sx.su R.length λk=>L.getD k 0*y k)<0):Told c R L (.tup [.str "none",nS R.length s y])
structure mR(c:List Int)(R:List (List Int))(L:List Int):Prop where
 n:c.length<=6
 m:R.length<=9
 l:L.length=R.length
 r:∀r∈R,r.length=c.length
 bc:∀x∈c,x.natAbs<=10^13
 br:∀r∈R,∀x∈r,x.natAbs<=10^13
 bl:∀x∈L,x.natAbs<=10^13
abbrev bA(n m:Nat)(b:Sx.Bo):A:=.obj "Board" [("long",.int n),("many",.int m),("scale",.int b.s),("grid",gI b.g),("across",lI b.ac),("down",lI b.dn)]
def bO(n m:Nat)(b:Sx.Bo):LO:=.nob "Board" [("long",.int n),("many",.int m),("scale",.int b.s),("grid",gI b.g)] [("across",b.ac.map A.int),("down",b.dn.map A.int)]
def fc(f:Ms)(as:List A)(a:A):Prop:=∃Z,f (as.map Sl.fr)=some (.rt (.fr a),Z)/\Z.all np=true
theorem fc.v{f:Ms}{as:List A}{a:A}(h:fc f as a):Val f as a:=by obtain⟨Z,h,_⟩:=h;exact⟨Z,h⟩
theorem fc.of{f:Ms}{as:List A}{a:A}(k:Wp f (as.map Sl.fr) λg Z=>g=.rt (.fr a)/\Z.all np=true):fc f as a:=by obtain⟨g,Z,h,rfl,h2⟩:=k;exact⟨Z,h,h2⟩
theorem fc.Pw{f:Ms}{as:List A}{R:A->Prop}(k:Wp f (as.map Sl.fr) λg Z=>X2 λ(a:A)(_:Unit)=>N3 (g=.rt (.fr a)) (Z.all np=true) (R a)):∃a,fc f as a/\R a:=by obtain⟨g,Z,h,a,_,rfl,h2,h3⟩:=k;exact⟨a,⟨Z,h,h2⟩,h3⟩
structure Bb(n m N:Nat)(b:Sx.Bo):Prop where
 sh:Sx.Sh N m b
 hN:N<=10
 hn:n<=9
 hm:m<=9
 bg:∀r∈b.g,∀x∈r,L2.Bd 400 x
 bs:L2.Bd 400 b.s
 pos:0<b.s
section
variable{n m N:Nat}{b:Sx.Bo}(h:Bb n m N b)
include h
theorem Bb.gb{l:Nat}(hi:i<=m)(hl:l<=N):L2.Bd 400 (b.Gq i l):=by have z:=h.sh.row hi;exact h.bg _ (Sx.getD_mem (by rw[h.sh.g];exact Rj ‹_›)) _ (cU Q1)
theorem Bb.rowAt(hi:i<=m)(Z:List Sl)(a:(.fr (bA n m b)::Z)[j]?=some (.fr (.int i))):mix AC (ab j) (.fr (bA n m b)::Z)=some (.ok (.fr (lI (b.g.getD i []))),.fr (bA n m b)::Z):=
 ag rfl (show ab j _=some (.ok (.fr (.int i)),_) by unfold ab;simp only[a]) (bx (.inl rfl) (uv (by rw[h.sh.g];lia)))
theorem Bb.at2{l:Nat}(hi:i<=m)(hl:l<=N)(Z:List Sl){k:Nat}(a:(.fr (bA n m b)::Z)[j]?=some (.fr (.int i)))(hk:(.fr (bA n m b)::Z)[k]?=some (.fr (.int l))):mix (mix AC (ab j)) (ab k) (.fr (bA n m b)::Z)=some (.ok (.fr (.int (b.Gq i l))),.fr (bA n m b)::Z):=
 ag (h.rowAt hi Z a) (show ab k _=some (.ok (.fr (.int l)),_) by unfold ab;simp only[hk]) (bx (.inl rfl) (fh (by rw[h.sh.row hi];exact Rj ‹_›)))
theorem Bb.last(hi:i<=m)(Z:List Sl)(a:(.fr (bA n m b)::Z)[j]?=some (.fr (.int i))):mix (mix AC (ab j)) (aK aY (aC 1)) (.fr (bA n m b)::Z)=some (.ok (.fr (.int (b.Gq i N))),.fr (bA n m b)::Z):=
 ag (h.rowAt hi Z a) rfl (bx (.inl rfl) (kQ (h.sh.row hi)))
end
theorem g8{m:Mi Rr}{xs:List A}{n:Nat}(h:m Z=some (.ok (.fr (.lst xs)),Z))(hl:xs.length=n+1):cB m aE B' Z=some (.ok (.nw (.lst (xs.take n))),Z):=by refine bk h (bk rfl (bk rfl ?_));show some (Rn (Rr.nw (.lst (il xs none (some (-1))))),Z)=_;rw[J6 hl]
theorem BJ{k:Nat}:∀{xs:List Int},(∀x∈xs,L2.Bd k x)->xs.sum.natAbs<=xs.length*(2^k-1)
 |[],_=>by exact RP _
 |x::xs,h=>by have h1:=BJ λy hy=>h y (Qz _ hy);have h2:x.natAbs<2^k:=h x QH;simp only[Vi,QF,WO];lia
variable{xs:List Int}
theorem Cv{k:Nat}(h:∀x∈xs,L2.Bd k x)(l:xs.length<=2^10):L2.Bd (k+10) xs.sum:=by have h1:=BJ h;have h2:xs.length*(2^k-1)<=2^10*(2^k-1):=Nat.mul_le_mul_right _ l;have h3:0<2^k:=Ta Z2;show xs.sum.natAbs<2^(k+10);simp only[VJ];lia
noncomputable def stI(m:Nat)(b:Sx.Bo)(c:Nat):Int:=b.s*b.s+((b.g.take m).map λr=>r.getD c 0*r.getD c 0).sum
section
variable{n m N:Nat}{b:Sx.Bo}(h:Bb n m N b)
include h
theorem Bb.sb(hc:c<=N):L2.Bd 820 (stI m b c):=by
 have h1:=h.bs.mul h.bs;have h2:L2.Bd 810 ((b.g.take m).map λr=>r.getD c 0*r.getD c 0).sum:=Cv (λx hx=>by obtain⟨r,S,rfl⟩:=Q2.mp hx;have S:=RU S;have:=h.bg r S _ (cU (c:=c) (by have:=h.sh.r r S;lia));exact this.mul this) (by have:=h.hm;simp;lia)
 exact(L2.Bd.add (h1.mono (show 800<=810 by decide)) h2).mono (show max 810 810+1<=820 by decide)
theorem zO(hc:c<=N):Val eX [bA n m b,.int c] (.int (stI m b c)):=by
 have hm:=h.hm;have J:=h.sh.g;have fs:=ft h.bs (show 400<=20000 by decide);have e1:bZ (cB AC aE B') [.fr (bA n m b),.fr (.int c)]=some (.ok ((b.g.take m).map lI),[.fr (bA n m b),.fr (.int c)]):=by refine nG (g8 rfl (by rw[Qt,J])) ?_;rw[<-Sk];rfl
 have e2:=bB (ts:=b.g.take m) (k:=lI) (S:=[.fr (bA n m b),.fr (.int c)]) (λr=>.int (r.getD c 0*r.getD c 0)) rfl (by simp;lia) λr X=>by
  have X:=RU X;have l:=h.sh.r r X;have k:∀Z:List Sl,Z=[.fr (bA n m b),.fr (.int c),.fr (lI r)]->mix (ab 2) (ab 1) Z=some (.ok (.fr (.int (r.getD c 0))),Z):=by rintro Z rfl;exact ag rfl rfl (bx (.inl rfl) (fh Q1))
  have f:=ft (h.bg r X _ (cU (c:=c) Q1)) (show 400<=20000 by decide);exact⟨_,ag (k _ rfl) (k _ rfl) (kO f f _),rfl⟩
 refine Val.of (Wp.df (Wp.en (aV (ag (ag rfl rfl (kO fs fs _)) (gh (bj e1 e2) (rF (r:=.fr (.int ((b.g.take m).map λr=>r.getD c 0*r.getD c 0).sum)) rfl ?_)) rfl) rfl) rfl));rw[show (b.g.take m).map (λr=>A.int (r.getD c 0*r.getD c 0))=((b.g.take m).map λr=>r.getD c 0*r.getD c 0).map A.int by simp only[Q6];rfl];unfold xV;dsimp only;rw[se]
end
abbrev Gs(o:A)(gs:List Int)(f:A)(a q:Int)(D x5 h:Sl):List Sl:=[.fr o,.fr (lI gs),.fr f,.fr (.tup [.int a,.int q]),D,x5,h]
theorem ke{i j:Int}{b:Bool}(h:decide (j<i)=b)(Z:List Sl):kG vN (.fr (.int i)) (.fr (.int j)) Z=some (.ok (.fr (.bl b)),Z):=by rw[<-h];rfl
theorem ir{i j:Int}{b:Bool}(h:decide (i<j)=b)(Z:List Sl):kG mI (.fr (.int i)) (.fr (.int j)) Z=some (.ok (.fr (.bl b)),Z):=by rw[<-h];rfl
def Gn(gs:List Int)(i:Nat)(f:A)(a q:Int):Prop:=(f=.non/\a=0/\q=1/\∀j,j<i->gs.getD j 0<=0)\/∃k:Nat,k<i/\f=.int k/\0<gs.getD k 0/\L2.Bd 820 a/\L2.Bd 820 q
variable{gs:List Int}{q:Int}
theorem Gn.bd{f:A}{a:Int}(h:Gn gs i f a q):L2.Bd 820 a/\L2.Bd 820 q:=by
 rcases h with ⟨_,rfl,rfl,_⟩|⟨k,_,_,_,h⟩
 .exact⟨Ta Z2,show (1:Int).natAbs<2^820 by decide +kernel⟩
 .exact h
theorem Gn.no{f:A}{a:Int}(h:Gn gs i f a q)(hi:gs.getD i 0<=0):Gn gs (i+1) f a q:=by
 rcases h with ⟨h1,h2,h3,h4⟩|⟨k,h1,h2⟩
 .exact .inl ⟨h1,h2,h3,λj D=>by
   by_cases e:j=i
   .rw[e];exact hi
   .exact h4 j Q1⟩
 .exact .inr ⟨k,by exact QQ ‹_›,h2⟩
theorem F7{n m:Nat}{b:Sx.Bo}(h:Bb n m N b)(K:gs.length<=N)(bg:∀x∈gs,L2.Bd 400 x):∃f,fc bK [bA n m b,lI gs] f/\((f=.non/\∀j,j<gs.length->gs.getD j 0<=0)\/∃k:Nat,f=.int k/\k<gs.length/\0<gs.getD k 0):=by
 refine fc.Pw (Wp.df (Wp.st rfl (Wp.st (aW (fP (ae rfl (ae rfl rfl)) rfl) rfl rfl rfl rfl) (Wp.sq (Wp.fr (G:=G2 4 5) (as:=iz 0 (gs.map A.int))
  (λi Z=>X5 λ(f:A)(a q:Int)(D x5:Sl)=>∃z,N4 (Z=Gs (bA n m b) gs f a q D x5 z) (np D=true/\np x5=true) (np z=true) (Gn gs i f a q)) rfl ⟨.non,0,1,.un,.un,.un,rfl,⟨rfl,rfl⟩,rfl,.inl ⟨rfl,rfl,rfl,λj F=>absurd F (RV j)⟩⟩ ?_ ?_)))))
 .rintro i a0 Z T ⟨f,a,q,D,x5,z,rfl,⟨h4,h5⟩,w,g⟩;obtain⟨d,hd,rfl⟩:=lX _ _ _ _ T;rw[Q0] at hd;have hi:i<gs.length:=by
   cases e:gs[i]? with
   |none=>rw[e] at hd;cases hd
   |some x=>exact(Qv.mp e).1
  rw[QP hi] at hd;cases hd;have P:gs[i]=gs.getD i 0:=by simp[QX,hi]
  rw[P];have o:=bg _ (cU hi);generalize E:gs.getD i 0=v at o;rw[Ud];refine⟨_,qR (S:=[.fr (bA n m b),.fr (lI gs),.fr f,.fr (.tup [.int a,.int q])]) (tl:=[z]) rfl h4 h5,?_⟩;have p:∀t,decide (0<v)=t->ay (aB vN (ab 5) (aC 0)) (Gs (bA n m b) gs f a q (.fr (.int (i:Nat))) (.fr (.int v)) z)=some (.ok t,Gs (bA n m b) gs f a q (.fr (.int (i:Nat))) (.fr (.int v)) z):=λt l=>aP (ag rfl rfl (ke l _));by_cases L:0<v
  .have I:=ft o (show 400<=20000 by decide);have b2:L2.Bd 800 (v*v):=o.mul o;have bs:=h.sb (c:=i) Q1;have H:=ft b2 (show 800<=20000 by decide);have C:=ft bs (show 820<=20000 by decide);have X:=ft g.bd.1 (show 820<=20000 by decide);have U:=ft g.bd.2 (show 820<=20000 by decide);have r:aG 6 (gF (cF (aB aZ (ab 5) (ab 5)) (bu eX (cF (bM "Board" "stride" (ai 0)) (ai 4))))) (Gs (bA n m b) gs f a q (.fr (.int (i:Nat))) (.fr (.int v)) z)=some (.nx,Gs (bA n m b) gs f a q (.fr (.int (i:Nat))) (.fr (.int v)) (.fr (.tup [.int (v*v),.int (stI m b i)]))):=
    aW (fP (ae (ag rfl rfl (kO I I _)) (ae (aA (ae (jk rfl rfl) (ae rfl rfl)) (ck (zO h (c:=i) Q1) _)) rfl)) rfl) rfl rfl w rfl
   have R:∀t,decide (a*stI m b i<v*v*q)=t->ay (aB vN (aB aZ (mix (ab 6) (aC 0)) (mix (ab 3) (aC 1))) (aB aZ (mix (ab 3) (aC 0)) (mix (ab 6) (aC 1)))) (Gs (bA n m b) gs f a q (.fr (.int (i:Nat))) (.fr (.int v)) (.fr (.tup [.int (v*v),.int (stI m b i)])))=some (.ok t,Gs (bA n m b) gs f a q (.fr (.int (i:Nat))) (.fr (.int v)) (.fr (.tup [.int (v*v),.int (stI m b i)]))):=
    λt l=>aP (ag (ag (ag rfl rfl (bx (.inr rfl) rfl)) (ag rfl rfl (bx (.inr rfl) rfl)) (kO H U _)) (ag (ag rfl rfl (bx (.inr rfl) rfl)) (ag rfl rfl (bx (.inr rfl) rfl)) (kO X C _)) (ke l _))
   by_cases J:a*stI m b i<v*v*q
   .exact Wp.en (eM (p true (Y1 L)) (dN r (eM (R true (Y1 J)) (dN (aW rfl rfl rfl rfl rfl) (aW rfl rfl rfl rfl rfl))))) ⟨.inl rfl,_,_,_,_,_,_,rfl,⟨rfl,rfl⟩,rfl,.inr ⟨i,by exact Rc _,rfl,by rw[E];exact L,b2.mono Z2,bs⟩⟩
   .refine Wp.en (eM (p true (Y1 L)) (dN r (cY (R false (Y0 J)) rfl))) ⟨.inl rfl,_,_,_,_,_,_,rfl,⟨rfl,rfl⟩,rfl,?_⟩;rcases g with ⟨_,rfl,rfl,_⟩|⟨k,O,V⟩
    .exact absurd (by simp only[Si,SN];exact Up L L) J
    .exact .inr ⟨k,by exact QQ ‹_›,V⟩
  .exact Wp.en (cY (p false (Y0 L)) rfl) ⟨.inl rfl,_,_,_,_,_,_,rfl,⟨rfl,rfl⟩,w,g.no Q1⟩
 .rintro B ⟨f,a,q,D,x5,z,rfl,⟨h4,h5⟩,w,g⟩;rw[jP,Qt] at g;refine⟨rfl,Wp.en (aV rfl rfl) ⟨f,(),rfl,by simp only[QV,Tn,uI,h4,h5,w,Uv],?_⟩⟩;rcases g with ⟨h1,_,_,h2⟩|⟨k,O,V,Q,_⟩
  .exact .inl ⟨h1,h2⟩
  .exact .inr ⟨k,V,O,Q⟩
theorem fI:∀ns:List Int,eu (ns.map A.int)=some ns
 |[]=>rfl
 |n::ns=>by simp only[Rf,eu,fI ns]
theorem pM{u:Int}:∀{xs:List Int},u∈xs->t5 xs u=some (xs.idxOf u)
 |a::r,h=>by
  unfold t5;rw[List.idxOf_cons];by_cases e:a=u
  .rw[YY e,Y3.mpr e];rfl
  .have S:u∈r:=by
    rcases QC.mp h with z|z
    .exact absurd z.symm e
    .exact z
   rw[YZ e,beq_eq_false_iff_ne.mpr e,pM S];rfl
theorem qO(u:Int)(xs:List Int):JB false (.int u) (xs.map A.int)=some (.fr (.bl (decide (u∈xs)))):=by
 unfold JB;have h1:(fm (.int u)&&(xs.map A.int).all fm)=true:=by rw[UI];simp[fm]
 rw[YY h1]
 congr 3
 show Fn (kE (.int u)) ((xs.map A.int).map kE)=_;unfold Fn;rw[Q6,Vr];rw[Wa,V6,decide_eq_true_eq];constructor
 .rintro⟨x,hx,e⟩;rw[Y3.mp e] at hx;exact hx
 .exact λhx=>⟨u,hx,by show (u==u)=true;simp⟩
theorem Ge{u:Int}{c:Bool}(h:decide (u∈xs)=c)(Z:List Sl):kG (xg false) (.fr (.int u)) (.fr (lI xs)) Z=some (.ok (.fr (.bl c)),Z):=by exact fu (o:=none) rfl rfl (by rw[<-h];exact qO u xs)
def sf(b:Sx.Bo)(i:Nat)(u:Int):Int:=if u∈b.ac then b.Gq i (b.ac.idxOf u) else if b.Bq i=u then b.s else 0
section
variable{n m N:Nat}{b:Sx.Bo}(h:Bb n m N b)
include h
theorem FW(hi:i<m)(u:Int):Val bX [bA n m b,.int i,.int u] (.int (sf b i u)):=by
 have w:∀c,decide (u∈b.ac)=c->ay (aB (xg false) (ab 2) (aK (aq ["Board"] "across") (ab 0))) [.fr (bA n m b),.fr (.int i),.fr (.int u)]=some (.ok c,[.fr (bA n m b),.fr (.int i),.fr (.int u)]):=λc hc=>aP (ag rfl rfl (Ge hc _));unfold sf;by_cases L:u∈b.ac
 .rw[YY L];have hl:=RD L;rw[h.sh.ac] at hl;have z:vL (aK (aq ["Board"] "across") (ab 0)) (ab 2) [.fr (bA n m b),.fr (.int i),.fr (.int u)]=some (.ok (.fr (.int (b.ac.idxOf u))),[.fr (bA n m b),.fr (.int i),.fr (.int u)]):=by
   have e:yU (lI b.ac) (.int u)=some (.fr (.int (b.ac.idxOf u))):=by unfold yU;dsimp only;rw[fI];dsimp only;rw[pM L]
   refine bk rfl ?_;refine WE (YY rfl) ?_;show (match yU (lI b.ac) (.int u) with|some q=>_|none=>_)=_;simp only[e]
  exact Val.of (Wp.df (Wp.sr (eM (w true (Y1 L)) (aV (ag (h.rowAt Q1 _ rfl) z (bx (.inl rfl) (fh (by rw[h.sh.row Q1];exact QQ ‹_›)))) rfl)) rfl))
 .rw[YZ L];have o:∀c,decide (b.Bq i=u)=c->ay (aB mT (mix (aK (aq ["Board"] "down") (ab 0)) (ab 1)) (ab 2)) [.fr (bA n m b),.fr (.int i),.fr (.int u)]=some (.ok c,[.fr (bA n m b),.fr (.int i),.fr (.int u)]):=λc hc=>aP (ag (ag rfl rfl (bx (.inl rfl) (fh (by rw[h.sh.dn];exact hi)))) rfl (kN hc _));refine Val.of (Wp.df (Wp.st (cY (w false (Y0 L)) rfl) ?_));by_cases J:b.Bq i=u
  .rw[YY J];exact Wp.en (aV (by simp only[MN,o true (Y1 J)];rfl) rfl) rfl
  .rw[YZ J];exact Wp.en (aV (by simp only[MN,o false (Y0 J)];rfl) rfl) rfl
end
theorem NR{P:Sx.Pb}{b:Sx.Bo}(h:Sx.Ok P N b)(hi:i<P.m)(u:Int):sf b i u=Sx.Fb P N b i u:=by
 unfold sf;by_cases c:u∈b.ac
 .rw[YY c];have hl:=RD c;have e:b.Aq (b.ac.idxOf u)=u:=by simp only[Sx.Bo.Aq,QX,QP hl,SY];exact Uz hl
  have:=h.H9 (by rw[<-h.sh.ac];exact hl) i;rw[e] at this;exact this.symm
 .rw[YZ c,h.KP c i];by_cases e:b.Bq i=u
  .rw[YY e,YY ⟨hi,e⟩]
  .rw[YZ e,YZ λz=>e z.2]
theorem nN{G:Mg}{b:Ms}{Q:Fl->List Sl->Prop}:∀{T:Nat}{as:List A}(P:Nat->List Sl->Prop)(hl:T<as.length){Z:List Sl}(h0:P 0 Z)(hs:∀i a Z,i<T->as[i]?=some a->P i Z->∃U,G a Z=some U/\Wp b U λf Z'=>(f=.nx\/f=.ct)/\P (i+1) Z')
  (ht:∀a Z,as[T]?=some a->P T Z->∃U,G a Z=some U/\Wp b U λf Z'=>X2 λ(s:Sl)(_:Unit)=>f=.rt s/\Q (.rt s) Z'),∃f B,forL G b as Z=some (f,B)/\Q f B
 |_,[],_,hl,_,_,_,_=>absurd hl (RV _)
 |0,a::as,P,hl,Z,h0,hs,ht=>by obtain⟨U,e1,f,Z',e2,s,_,rfl,q⟩:=ht a Z rfl h0;refine⟨.rt s,Z',?_,q⟩;unfold forL;rw[e1];dsimp only;rw[e2]
 |T+1,a::as,P,hl,Z,h0,hs,ht=>by obtain⟨U,e1,f,Z',e2,hf,p⟩:=hs 0 a Z (by exact Ue _) rfl h0;obtain⟨g,B,N,q⟩:=nN (λi=>P (i+1)) (Vw hl) p (λi a Z hi c hp=>hs (i+1) a Z (by exact Rj ‹_›) c hp) ht;refine⟨g,B,?_,q⟩;unfold forL;rw[e1];dsimp only;rw[e2];rcases hf with rfl|rfl<;>exact N
theorem Wp.stop{H:Mi (List A)}{b:Ms}{T:Nat}{as:List A}(P:Nat->List Sl->Prop)(hm:H Z=some (.ok as,U))(hl:T<as.length)(m:P 0 U)(hs:∀i a Z,i<T->as[i]?=some a->P i Z->∃U,G a Z=some U/\Wp b U λf Z'=>(f=.nx\/f=.ct)/\P (i+1) Z')
  (l:∀a Z,as[T]?=some a->P T Z->∃U,G a Z=some U/\Wp b U λf Z'=>X2 λ(s:Sl)(_:Unit)=>f=.rt s/\Q (.rt s) Z'):Wp (iO H G b) Z Q:=by
 obtain⟨f,B,e,q⟩:=nN P hl m hs l;exact⟨f,B,sk hm e,q⟩
theorem Wp.Qj{m n:Ms}(k:Wp m Z λf U=>X2 λ(s:Sl)(_:Unit)=>f=.rt s/\Q (.rt s) U):Wp (av m n) Z Q:=by obtain⟨f,U,e,s,_,rfl,q⟩:=k;exact⟨.rt s,U,by unfold av;rw[e],q⟩
theorem yh(f:Nat->Int):∀M:Nat,(∀t,t<M->f t=0)\/∃t,t<M/\f t≠0/\∀u,u<t->f u=0
 |0=>.inl λt l=>absurd l (RV t)
 |M+1=>by
  rcases yh f M with h|⟨t,h1,h2⟩
  .by_cases e:f M=0
   .exact .inl λt l=>by
     by_cases c:t=M
     .rw[c];exact e
     .exact h t Q1
   .exact .inr ⟨M,by lia,e,h⟩
  .exact .inr ⟨t,by lia,h2⟩
variable{ma mb:Mi Rr}
theorem DE(h:ma Z=some (.ok (.fr (.int i)),Z))(k:mb Z=some (.ok (.fr (.int j)),Z))(hi:i<=1000)(a:j<=1000):rn ma mb Z=some (.ok (bI i (j-i)),Z):=by refine bk h (bk k ?_);show (if -(2^60)<=(i:Int)/\(i:Int)<2^60 /\ -(2^60)<=(j:Int)/\(j:Int)<2^60 then some (Rn (bI i ((j:Int)-i).toNat),Z) else none)=_;rw[YY Q1];rw[show ((j:Int)-i).toNat=j-i by simp]
theorem yz(l n:Nat):(bI (l:Int) n).length=n:=by simp[bI]
theorem pK{l n:Nat}{a:A}(h:(bI (l:Int) n)[i]?=some a):i<n/\a=.int ((l+i:Nat):Int):=by
 unfold bI at h;rw[Q0] at h;cases e:(QK n)[i]? with
 |none=>rw[e] at h;cases h
 |some x=>rw[e] at h;cases h;obtain⟨hi,e⟩:=Qv.mp e;rw[UA] at e;subst e;exact⟨by simpa using hi,rfl⟩
structure Gd(P:Sx.Pb)(N:Nat)(b:Sx.Bo):Prop where
 ok:Sx.Ok P N b
 bb:Bb P.n P.m N b
theorem FN{n m:Nat}{b:Sx.Bo}(h:Bb n m N b)(hi:i<m)(u:Int):L2.Bd 400 (sf b i u):=by
 unfold sf;by_cases c:u∈b.ac
 .rw[YY c];have hl:=RD c;exact h.gb (by exact QJ ‹_›) (by rw[<-h.sh.ac];exact QJ ‹_›)
 .rw[YZ c];by_cases e:b.Bq i=u
  .rw[YY e];exact h.bs
  .rw[YZ e];exact Ta Z2
noncomputable abbrev tG(o:A)(i k c:Nat)(D x5 h:Sl):List Sl:=[.fr o,.fr (.int i),.fr (.int k),.fr (.int c),D,x5,h]
abbrev OY:Ms:=av (aG 4 (aB aZ (bu bX (fW (bM "Board" "top_of" (ai 0)) (ai 1) (ai 6))) (mix (mix AC (ab 2)) (ab 3)))) (av (aG 5 (aB aZ (bu bX (fW (bM "Board" "top_of" (ai 0)) (ai 2) (ai 6))) (mix (mix AC (ab 1)) (ab 3)))) (ip (ay (aB j6 (ab 4) (ab 5))) (bW (aB mI (ab 4) (ab 5))) bV))
variable{x5:Sl}
section
variable{P:Sx.Pb}{N:Nat}{b:Sx.Bo}(h:Gd P N b){i k c:Nat}(hi:i<P.m)(hk:k<P.m)(hc:c<N)
include h hi hk hc
theorem pR{D:Sl}(h4:np D=true)(h5:np x5=true)(u:Int):Wp OY (tG (bA P.n P.m b) i k c D x5 (.fr (.int u))) λf Z=>Z=tG (bA P.n P.m b) i k c (.fr (.int (sf b i u*b.Gq k c))) (.fr (.int (sf b k u*b.Gq i c))) (.fr (.int u))/\f=if sf b i u*b.Gq k c=sf b k u*b.Gq i c then .nx else .rt (.fr (.bl (decide (sf b i u*b.Gq k c<sf b k u*b.Gq i c)))):=by
 have B:=ft (FN h.bb hi u) (show 400<=20000 by decide);have L:=ft (FN h.bb hk u) (show 400<=20000 by decide);have g:=ft (h.bb.gb (i:=i) (l:=c) (by exact QJ ‹_›) (by exact QJ ‹_›)) (show 400<=20000 by decide);have V:=ft (h.bb.gb (i:=k) (l:=c) (by exact QJ ‹_›) (by exact QJ ‹_›)) (show 400<=20000 by decide);have z:∀x5,aG 4 (aB aZ (bu bX (fW (bM "Board" "top_of" (ai 0)) (ai 1) (ai 6))) (mix (mix AC (ab 2)) (ab 3))) (tG (bA P.n P.m b) i k c D x5 (.fr (.int u)))=some (.nx,tG (bA P.n P.m b) i k c (.fr (.int (sf b i u*b.Gq k c))) x5 (.fr (.int u))):=
  λx5=>aW (ag (aA (ae (jk rfl rfl) (ae rfl (ae rfl rfl))) (ck (FW h.bb hi u) _)) (h.bb.at2 (by exact QJ ‹_›) (by exact QJ ‹_›) _ rfl rfl) (kO B V _)) rfl rfl h4 rfl
 have q:∀D,aG 5 (aB aZ (bu bX (fW (bM "Board" "top_of" (ai 0)) (ai 2) (ai 6))) (mix (mix AC (ab 1)) (ab 3))) (tG (bA P.n P.m b) i k c D x5 (.fr (.int u)))=some (.nx,tG (bA P.n P.m b) i k c D (.fr (.int (sf b k u*b.Gq i c))) (.fr (.int u))):=
  λD=>aW (ag (aA (ae (jk rfl rfl) (ae rfl (ae rfl rfl))) (ck (FW h.bb hk u) _)) (h.bb.at2 (by exact QJ ‹_›) Q1 _ rfl rfl) (kO L g _)) rfl rfl h5 rfl
 generalize sf b i u*b.Gq k c=x at *;generalize sf b k u*b.Gq i c=y at *;by_cases e:x=y
 .rw[YY e];exact Wp.en (dN (z _) (dN (q _) (cY (aP (ag rfl rfl (gN (Y1 e) _))) rfl))) ⟨rfl,rfl⟩
 .rw[YZ e];exact Wp.en (dN (z _) (dN (q _) (eM (aP (ag rfl rfl (gN (Y0 e) _))) (aV (ag rfl rfl (ir rfl _)) rfl)))) ⟨rfl,rfl⟩
theorem DU:∃r:Bool,Val eS [bA P.n P.m b,.int i,.int k,.int c] (.bl r)/\(r=true↔Sx.Bw P N b c i k):=by
 have g:=ft (h.bb.gb (i:=i) (l:=c) (by exact QJ ‹_›) (by exact QJ ‹_›)) (show 400<=20000 by decide);have V:=ft (h.bb.gb (i:=k) (l:=c) Q1 Q1) (show 400<=20000 by decide);have Q:=ft (h.bb.gb (i:=i) (l:=N) Q1 Q1) (show 400<=20000 by decide);have J:=ft (h.bb.gb (i:=k) (l:=N) Q1 Q1) (show 400<=20000 by decide);have p:aG 4 (aB aZ (mix (mix AC (ab 1)) (aK aY (aC 1))) (mix (mix AC (ab 2)) (ab 3))) (tG (bA P.n P.m b) i k c .un .un .un)=some (.nx,tG (bA P.n P.m b) i k c (.fr (.int (b.Gq i N*b.Gq k c))) .un .un):=
  aW (ag (h.bb.last (j:=1) (i:=i) Q1 _ rfl) (h.bb.at2 (j:=2) (k:=3) (i:=k) (l:=c) Q1 Q1 _ rfl rfl) (kO Q V _)) rfl rfl rfl rfl
 have q:∀D,aG 5 (aB aZ (mix (mix AC (ab 2)) (aK aY (aC 1))) (mix (mix AC (ab 1)) (ab 3))) (tG (bA P.n P.m b) i k c D .un .un)=some (.nx,tG (bA P.n P.m b) i k c D (.fr (.int (b.Gq k N*b.Gq i c))) .un):=
  λD=>aW (ag (h.bb.last (j:=2) (i:=k) Q1 _ rfl) (h.bb.at2 (j:=1) (k:=3) (i:=i) (l:=c) Q1 Q1 _ rfl rfl) (kO J g _)) rfl rfl rfl rfl
 have X:∀j,Sx.Rr P N b j 0=b.Gq j N:=λj=>YY rfl;have y:∀j t,j<P.m->sf b j ((P.n+t:Nat):Int)=Sx.Rr P N b j (t+1):=λj t F=>by rw[NR h.ok F];exact(YZ (UU t)).symm
 have O:∀D x5,rn AT (aB aJ AT A_) (tG (bA P.n P.m b) i k c D x5 .un)=some (.ok (bI P.n P.m),tG (bA P.n P.m b) i k c D x5 .un):=λD x5=>by have hn:=h.bb.hn;have hm:=h.bb.hm;have:=DE (Z:=tG (bA P.n P.m b) i k c D x5 .un) (i:=P.n) (j:=P.n+P.m) (ma:=aK (aq ["Board"] "long") (ab 0)) (mb:=aB aJ AT A_) rfl rfl Q1 Q1;rw[show P.n+P.m-P.n=P.m by lia] at this;exact this
 rcases yh (λt=>b.Gq i c*Sx.Rr P N b k t-b.Gq k c*Sx.Rr P N b i t) (P.m+1) with z|⟨t,E,o,s⟩
 .have z0:=z 0 Q1;simp only[X] at z0;refine⟨false,Val.of (Wp.df (Wp.st p (Wp.st (q _) (Wp.st (cY (aP (ag rfl rfl (gN (b:=true) (Y1 (by grind)) _))) rfl) (Wp.sq (Wp.fr (b:=OY) (λj Z=>X3 λ(D x5 e:Sl)=>N3 (Z=tG (bA P.n P.m b) i k c D x5 e) (np D=true/\np x5=true) (np e=true)) (O _ _) ⟨_,_,_,rfl,⟨rfl,rfl⟩,rfl⟩ ?_ ?_)))))),by simp;exact λw=>Sx.Mp z w⟩
  .rintro j a Z v ⟨D,x5,e,rfl,⟨h4,h5⟩,x⟩;obtain⟨F,rfl⟩:=pK v;refine⟨_,gC (S:=[.fr (bA P.n P.m b),.fr (.int i),.fr (.int k),.fr (.int c),D,x5]) (tl:=[]) rfl x,Wp.mono (pR h hi hk hc h4 h5 _) ?_⟩;rintro f Z ⟨rfl,hf⟩;have:=z (j+1) Q1;rw[YY (by rw[y i j hi,y k j hk];grind)] at hf;exact⟨.inl hf,_,_,_,rfl,⟨rfl,rfl⟩,rfl⟩
  .rintro B ⟨D,x5,e,rfl,_,_⟩;exact⟨rfl,Wp.en (aV rfl rfl) rfl⟩
 .have key:=Sx.LV (M:=P.m+1) (f:=λt=>b.Gq i c*Sx.Rr P N b k t-b.Gq k c*Sx.Rr P N b i t) E s o;refine⟨decide (Sx.Rr P N b i t*b.Gq k c<Sx.Rr P N b k t*b.Gq i c),Val.of (Wp.df (Wp.st p (Wp.st (q _) ?_))),?_⟩
  .cases t with
   |zero=>simp only[X] at o;refine Wp.sr (eM (aP (ag rfl rfl (gN (b:=false) (Y0 (by grind)) _))) (aV (ag rfl rfl (ir rfl _)) rfl)) ?_;rw[X,X]
   |succ t=>
    have z0:=s 0 Q1;simp only[X] at z0;refine Wp.st (cY (aP (ag rfl rfl (gN (b:=true) (Y1 (by grind)) _))) rfl) (Wp.Qj (Wp.stop (b:=OY) (T:=t) (λj Z=>X3 λ(D x5 e:Sl)=>N3 (Z=tG (bA P.n P.m b) i k c D x5 e) (np D=true/\np x5=true) (np e=true)) (O _ _) (by rw[yz];lia) ⟨_,_,_,rfl,⟨rfl,rfl⟩,rfl⟩ ?_ ?_))
    .rintro j a Z F v ⟨D,x5,e,rfl,⟨h4,h5⟩,x⟩;obtain⟨_,rfl⟩:=pK v;refine⟨_,gC (S:=[.fr (bA P.n P.m b),.fr (.int i),.fr (.int k),.fr (.int c),D,x5]) (tl:=[]) rfl x,Wp.mono (pR h hi hk hc h4 h5 _) ?_⟩;rintro f Z ⟨rfl,hf⟩;have:=s (j+1) Q1;rw[YY (by rw[y i j hi,y k j hk];grind)] at hf;exact⟨.inl hf,_,_,_,rfl,⟨rfl,rfl⟩,rfl⟩
    .rintro a Z v ⟨D,x5,e,rfl,⟨h4,h5⟩,x⟩;obtain⟨_,rfl⟩:=pK v;refine⟨_,gC (S:=[.fr (bA P.n P.m b),.fr (.int i),.fr (.int k),.fr (.int c),D,x5]) (tl:=[]) rfl x,Wp.mono (pR h hi hk hc h4 h5 _) ?_⟩;rintro f Z ⟨rfl,hf⟩;rw[YZ (by rw[y i t hi,y k t hk];grind),y i t hi,y k t hk] at hf;exact⟨_,(),hf,_,(),rfl,rfl⟩
  .rw[decide_eq_true_eq];refine Iff.trans ?_ key.symm;constructor
   .intro z;show 0<b.Gq i c*Sx.Rr P N b k t-b.Gq k c*Sx.Rr P N b i t;grind
   .intro z;have z:0<b.Gq i c*Sx.Rr P N b k t-b.Gq k c*Sx.Rr P N b i t:=z;grind
end
noncomputable def oA:Option Nat->A
 |none=>.non
 |some a=>.int a
noncomputable abbrev LH(o:A)(c:Nat)(f:A)(h:Sl):List Sl:=[.fr o,.fr (.int c),.fr f,h]
theorem v7{P:Sx.Pb}{b:Sx.Bo}(h:Gd P N b)(hc:c<N):∃f:Option Nat,fc a8 [bA P.n P.m b,.int c] (oA f)/\Sx.oI P N b c P.m f:=by
 have hm:=h.bb.hm
 suffices ∃a,fc a8 [bA P.n P.m b,.int c] a/\∃f:Option Nat,a=oA f/\Sx.oI P N b c P.m f by obtain⟨a,v,f,rfl,z⟩:=this;exact⟨f,v,z⟩
 refine fc.Pw (Wp.df (Wp.st rfl (Wp.sq (Wp.fr (λk Z=>X2 λ(f:Option Nat)(i:Sl)=>N3 (Z=LH (bA P.n P.m b) c (oA f) i) (np i=true) (Sx.oI P N b c k f)) (jC rfl Z5) ⟨none,.un,rfl,rfl,Sx.oI.zero⟩ ?_ ?_))))
 .rintro k a Z T ⟨f,i,rfl,h3,g⟩;obtain⟨hk,rfl⟩:=pN T;refine⟨_,gC (S:=[.fr (bA P.n P.m b),.fr (.int c),.fr (oA f)]) rfl h3,?_⟩;have w:∀t,decide (0<b.Gq k c)=t->ay (aB vN (mix (mix AC (ab 3)) (ab 1)) (aC 0)) (LH (bA P.n P.m b) c (oA f) (.fr (.int k)))=some (.ok t,LH (bA P.n P.m b) c (oA f) (.fr (.int k))):=λt l=>aP (ag (h.bb.at2 (by exact QJ ‹_›) (by exact QJ ‹_›) _ rfl rfl) rfl (ke l _));by_cases L:0<b.Gq k c
  .cases f with
   |none=>exact Wp.en (eM (pj (w true (Y1 L)) (Jt rfl)) (aW rfl rfl rfl rfl rfl)) ⟨.inl rfl,some k,_,rfl,rfl,g.one L⟩
   |some a=>
    have T:=g.1;obtain⟨r,v,e⟩:=DU h (k:=a) hk (by exact SX ‹_› ‹_›) hc;have o:mV (ay (aB vN (mix (mix AC (ab 3)) (ab 1)) (aC 0))) (Iu (ay (aB (qj false) (ab 2) (mC .non))) (ay (bu eS (DH (ai 0) (ai 3) (ai 2) (ai 1))))) (LH (bA P.n P.m b) c (oA (some a)) (.fr (.int k)))=some (.ok r,LH (bA P.n P.m b) c (oA (some a)) (.fr (.int k))):=pj (w true (Y1 L)) (yf rfl (aP (aA rfl (ck v _))));cases r with
    |true=>exact Wp.en (eM o (aW rfl rfl rfl rfl rfl)) ⟨.inl rfl,some k,_,rfl,rfl,g.put L (e.mp rfl)⟩
    |false=>exact Wp.en (cY o rfl) ⟨.inl rfl,some a,_,rfl,rfl,g.keep λz=>nomatch e.mpr z⟩
  .exact Wp.en (cY (o8 (w false (Y0 L))) rfl) ⟨.inl rfl,f,_,rfl,rfl,g.no (by exact Xm.mp ‹_›)⟩
 .rintro B ⟨f,i,rfl,h3,g⟩;rw[fw] at g;exact⟨rfl,Wp.en (aV rfl rfl) ⟨oA f,(),rfl,by simp only[QV,Tn,uI,h3,Uv],f,rfl,g⟩⟩
abbrev so(L:Nat)(s:Int)(g t:Nat->Int)(i:Nat):List A:=(QK L).map λ(j:Nat)=>nm (dz (Sx.su i λB=>if g B=(j:Int) then t B else 0) s)
theorem uE{n u:Nat}{f:Nat->α}{v:α}:((QK n).map f).set u v=(QK n).map λj=>if j=u then v else f j:=by
 refine US Z4 λi h1 h2=>?_;rw[List.getElem_set];simp only[V7,UA];by_cases e:i=u
 .rw[YY e.symm,YY e]
 .rw[YZ (Rz e),YZ e]
variable{L:Nat}
theorem Kz{g t:Nat->Int}(hs:s≠0):so L s g t 0=(QK L).map λ_=>nm (0,1):=by refine Rp λj _=>?_;rw[show Sx.su 0 _=0 from rfl,A6 hs]
theorem AU{g t:Nat->Int}(hd:∀B,B<i->g B≠g i)(q:0<=g i):(so L s g t i).set (g i).toNat (nm (dz (t i) s))=so L s g t (i+1):=by
 simp only[uE];refine Rp λj _=>?_;show _=nm (dz (Sx.su i _+if g i=(j:Int) then t i else 0) s);by_cases e:j=(g i).toNat
 .rw[YY e,YY Q1,Sx.fU λB hi=>YZ λz=>hd B hi Q1,Tp]
 .rw[YZ e,YZ Q1,RK]
theorem uy{g t:Nat->Int}(h:g i<0\/(L:Int)<=g i):so L s g t i=so L s g t (i+1):=by refine Rp λj a=>?_;show _=nm (dz (Sx.su i _+if g i=(j:Int) then t i else 0) s);have:=Rb.mp a;rw[YZ Q1,RK]
theorem tw{xs:List A}{k:Int}{a:A}(hl:az Z i=some (.lst xs))(s:0<=k)(h1:k<xs.length):Pu i (.fr a) (.fr (.int k)) Z=some (.nx,setAt Z i (.lst (xs.set k.toNat a))):=by
 show (match some (A.int k),az Z i with|some (.int k),some (.lst xs)=>(match L2.gk xs.length k with|some j=>some (Fl.nx,setAt Z i (.lst (xs.set j a)))|none=>none)|_,_=>none)=_;rw[hl];dsimp only;have e:L2.gk xs.length k=some k.toNat:=by unfold L2.gk;rw[YY s,YY h1]
 simp only[e]
abbrev E5(o:A)(ts:List Int)(xs:List A)(h D:Sl):List Sl:=[.fr o,.fr (lI ts),.lv (.lst xs),h,D]
theorem uD{ys:List Int}{a:A}(h:(rj (xs.map A.int) (ys.map A.int))[i]?=some a):i<xs.length/\i<ys.length/\a=.tup [.int (xs.getD i 0),.int (ys.getD i 0)]:=by
 rw[gR,Q0] at h;cases e:(xs.zip ys)[i]? with
 |none=>rw[e] at h;cases h
 |some p=>rw[e] at h;cases h;simp only[Sz] at e;obtain⟨e1,e2⟩:=e;exact⟨(Qv.mp e1).1,(Qv.mp e2).1,by simp[QX,e1,e2]⟩
theorem vf{m:Mi Rr}(hm:m S=some (.ok (.fr (.int L)),S))(hl:L<=100)(i:Nat)(hi:S.length=i):aL 1 (dw m) (aO i) aH (mC (.tup [.int 0,.int 1])) S=some (.ok (.nw (.lst ((QK L).map λ_=>nm (0,1)))),S):=by refine bj (jC hm Q1) ?_;exact bB (k:=λ(j:Nat)=>A.int (0+(j:Int))) (λ_=>nm (0,1)) hi (by simp;lia) λj _=>⟨_,rfl,rfl⟩
variable{ts:List Int}
section
variable{n m N:Nat}{b:Sx.Bo}(h:Bb n m N b)
include h
theorem q5(l:m<=ts.length)(C:∀i,i<m->0<=b.Bq i)(hd:∀i z,i<m->z<i->b.Bq z≠b.Bq i):fc cz [bA n m b,lI ts] (nS n b.s λj=>Sx.su m λi=>if b.Bq i=(j:Int) then ts.getD i 0 else 0):=by
 have ne:b.s≠0:=by have:=h.pos;exact Rg ‹_›
 have hn:=h.hn;refine fc.of (Wp.df (Wp.st (U:=E5 (bA n m b) ts (so n b.s b.Bq (λi=>ts.getD i 0) 0) .un .un) (aW (vf rfl Z5 5 rfl) rfl rfl rfl (by rw[Kz ne];rfl)) (Wp.sq (Wp.fr (λi Z=>X2 λ(e D:Sl)=>N3 (Z=E5 (bA n m b) ts (so n b.s b.Bq (λi=>ts.getD i 0) i) e D) (np e=true) (np D=true)) rfl ⟨_,_,rfl,rfl,rfl⟩ ?_ ?_))))
 .rintro i a Z f ⟨e,D,rfl,h3,h4⟩;obtain⟨F,I,rfl⟩:=uD f;simp only[h.sh.dn] at F;refine⟨_,qR (S:=[.fr (bA n m b),.fr (lI ts),.lv (.lst (so n b.s b.Bq (λi=>ts.getD i 0) i))]) rfl h3 h4,?_⟩;have w:=C i F;have x:∀t,decide (b.Bq i<(n:Int))=t->ay (aB mI (ab 3) AT) (E5 (bA n m b) ts (so n b.s b.Bq (λi=>ts.getD i 0) i) (.fr (.int (b.Bq i))) (.fr (.int (ts.getD i 0))))=some (.ok t,E5 (bA n m b) ts (so n b.s b.Bq (λi=>ts.getD i 0) i) (.fr (.int (b.Bq i))) (.fr (.int (ts.getD i 0)))):=λt l=>aP (ag rfl rfl (ir l _));by_cases c:b.Bq i<(n:Int)
  .refine Wp.en (eM (x true (Y1 c)) (nD (aA (ae rfl (ae rfl rfl)) (ck (yZ ne (h.bs.mono Z2)) _)) rfl rfl (tw rfl w (by simpa using c)))) ⟨.inl rfl,.fr (.int (b.Bq i)),.fr (.int (ts.getD i 0)),?_,rfl,rfl⟩;rw[AU (hd i · F) w];rfl
  .refine Wp.en (cY (x false (Y0 c)) rfl) ⟨.inl rfl,.fr (.int (b.Bq i)),.fr (.int (ts.getD i 0)),?_,rfl,rfl⟩;rw[uy (.inr (by exact Xm.mp ‹_›))]
 .rintro B ⟨e,D,rfl,h3,h4⟩;rw[show (rj (b.dn.map A.int) (ts.map A.int)).length=m by rw[gR,Qt,Te,h.sh.dn];lia];exact⟨rfl,Wp.en (aV rfl rfl) ⟨rfl,by simp only[QV,Tn,uI,EM,h3,h4,Uv]⟩⟩
theorem ym(y:N<=ts.length)(hd:∀i z,i<N->z<i->b.Aq z≠b.Aq i)(v:∀i,i<N->b.Aq i<(n+m:Nat)):fc aX [bA n m b,lI ts] (nS m b.s λk=>Sx.su N λl=>if b.Aq l=((n+k:Nat):Int) then ts.getD l 0 else 0):=by
 have ne:b.s≠0:=by have:=h.pos;lia
 have hm:=h.hm;have conv:∀i,so m b.s (λl=>b.Aq l-n) (λi=>ts.getD i 0) i=(QK m).map λk=>nm (dz (Sx.su i λl=>if b.Aq l=((n+k:Nat):Int) then ts.getD l 0 else 0) b.s):=λi=>by
  refine Rp λk _=>?_
  congr 2
  refine Sx.ba λl _=>?_;by_cases e:b.Aq l=((n+k:Nat):Int)
  .rw[YY e,YY (show b.Aq l-n=(k:Int) by lia)]
  .rw[YZ e,YZ (show ¬ b.Aq l-n=(k:Int) by lia)]
 unfold nS;rw[<-conv];refine fc.of (Wp.df (Wp.st (U:=E5 (bA n m b) ts (so m b.s (λl=>b.Aq l-n) (λi=>ts.getD i 0) 0) .un .un) (aW (vf rfl Q1 5 rfl) rfl rfl rfl (by rw[Kz ne];rfl)) (Wp.sq (Wp.fr (λi Z=>X2 λ(r D:Sl)=>N3 (Z=E5 (bA n m b) ts (so m b.s (λl=>b.Aq l-n) (λi=>ts.getD i 0) i) r D) (np r=true) (np D=true)) rfl ⟨_,_,rfl,rfl,rfl⟩ ?_ ?_))))
 .rintro i a Z f ⟨r,D,rfl,h3,h4⟩;obtain⟨F,I,rfl⟩:=uD f;rw[h.sh.ac] at F;refine⟨_,qR (S:=[.fr (bA n m b),.fr (lI ts),.lv (.lst (so m b.s (λl=>b.Aq l-n) (λi=>ts.getD i 0) i))]) (tl:=[]) rfl h3 h4,?_⟩;have b1:=v i F;have w:∀t,decide ((n:Int)<=b.Aq i)=t->ay (aB ES (ab 3) AT) (E5 (bA n m b) ts (so m b.s (λl=>b.Aq l-n) (λi=>ts.getD i 0) i) (.fr (.int (b.Aq i))) (.fr (.int (ts.getD i 0))))=some (.ok t,E5 (bA n m b) ts (so m b.s (λl=>b.Aq l-n) (λi=>ts.getD i 0) i) (.fr (.int (b.Aq i))) (.fr (.int (ts.getD i 0)))):=λt y=>aP (ag rfl rfl (by rw[<-y];rfl));by_cases c:(n:Int)<=b.Aq i
  .refine Wp.en (eM (w true (Y1 c)) (nD (aA (ae rfl (ae rfl rfl)) (ck (yZ (t:=ts.getD i 0) ne (h.bs.mono Z2)) _)) rfl (ag rfl rfl rfl) (tw (k:=b.Aq i-n) rfl Q1 (by simp;lia)))) ⟨.inl rfl,.fr (.int (b.Aq i)),.fr (.int (ts.getD i 0)),?_,rfl,rfl⟩;rw[<-AU (g:=λl=>b.Aq l-n) (t:=λi=>ts.getD i 0) (i:=i) (λz p=>by have:=hd i z F p;show b.Aq z-n≠b.Aq i-n;lia) (by show 0<=b.Aq i-n;lia)];rfl
  .refine Wp.en (cY (w false (Y0 c)) rfl) ⟨.inl rfl,.fr (.int (b.Aq i)),.fr (.int (ts.getD i 0)),?_,rfl,rfl⟩;rw[<-uy (g:=λl=>b.Aq l-n) (.inl (by show b.Aq i-n<0;lia))]
 .rintro B ⟨r,D,rfl,h3,h4⟩;rw[show (rj (b.ac.map A.int) (ts.map A.int)).length=N by rw[gR,Qt,Te,h.sh.ac];lia];exact⟨rfl,Wp.en (aV rfl rfl) ⟨rfl,by simp only[QV,Tn,uI,EM,h3,h4,Uv]⟩⟩
end
section
variable{P:Sx.Pb}{N:Nat}{b:Sx.Bo}
theorem Gd.O6(h:Gd P N b)(i B:Nat)(hi:i<P.m)(a:B<i):b.Bq B≠b.Bq i:=λe=>by
 have:=Sx.getD_inj (QE.mp h.ok.nd).2.1 (by rw[h.ok.sh.dn];exact SX ‹_› ‹_›) (by rw[h.ok.sh.dn];lia) e
 lia
theorem Gd.Qk(h:Gd P N b)(i B:Nat)(hi:i<N)(a:B<i):b.Aq B≠b.Aq i:=λe=>by
 have:=h.ok.Ai (show B<N by exact SX ‹_› ‹_›) hi e
 lia
theorem Gd.B0(h:Gd P P.n b)(i:Nat)(hi:i<P.m):0<=b.Bq i:=by have:=(h.ok.nm _).mp (Qs b.ac (h.ok.Bm hi));rw[YY rfl] at this;exact this.1
theorem Gd.Alt(h:Gd P N b)(i:Nat)(hi:i<N):b.Aq i<(P.n+P.m:Nat):=(h.ok.xR (Qu b.dn (h.ok.Am hi))).2
theorem Bb.M0{n m:Nat}(h:Bb n m N b){f:List Int->Int}(hi:i<m):(b.g.map f).getD i 0=f (b.g.getD i []):=Sx.getD_map (by rw[h.sh.g];lia)
theorem Dn(h:Gd P P.n b):fc bC [bA P.n P.m b] (nS P.n b.s λj=>Sx.vl P b P.n j):=by
 have hm:=h.bb.hm;have J:=h.bb.sh.g;have I:=bB (e:=mix (ab 1) (aK aY (aC 1))) (k:=lI) (S:=[.fr (bA P.n P.m b)]) (λr=>.int (r.getD P.n 0)) rfl Q1 λr X=>⟨_,ag rfl rfl (bx (.inl rfl) (kQ (h.bb.sh.r r X))),rfl⟩
 have Y:kA (aL 1 (bZ AC) (aO 1) aH (mix (ab 1) (aK aY (aC 1)))) [.fr (bA P.n P.m b)]=some (.ok (.fr (lI (b.g.map λ(r:List Int)=>r.getD P.n 0))),[.fr (bA P.n P.m b)]):=by refine ka (bj rfl I) ?_;unfold lI;rw[Q6];rfl
 have k:=(q5 h.bb (ts:=b.g.map λr=>r.getD P.n 0) (by rw[Qt];lia) h.B0 h.O6).v;have eq:nS P.n b.s (λj=>Sx.su P.m λi=>if b.Bq i=(j:Int) then (b.g.map λr=>r.getD P.n 0).getD i 0 else 0)=nS P.n b.s λj=>Sx.vl P b P.n j:=by
  unfold nS
  congr 1
  refine Rp λj _=>?_
  congr 2
  unfold Sx.vl;dsimp only;rw[YZ (λz=>absurd z.1 (QU _)),RK];refine Sx.ba λi hi=>?_;rw[h.bb.M0 hi,show Sx.qs P.n P.n=1 from YZ (QU _),RI];rfl
 simp only[eq] at k;exact fc.of (Wp.df (Wp.en (aV (aA (ae (jk rfl rfl) (ae Y rfl)) (ck k _)) rfl) ⟨rfl,rfl⟩))
theorem GQ(h:s≠0):dz s s=(1,1):=by have:=wo (q:=(1,1)) ⟨by decide,by decide⟩ h;simpa using this
theorem MR(h:Gd P P.n b)(hc:c<P.n):fc cT [bA P.n P.m b,.int c] (nS P.n b.s λj=>Sx.vl P b c j):=by
 have ne:b.s≠0:=by have:=h.bb.pos;exact Rg ‹_›
 have hm:=h.bb.hm;have J:=h.bb.sh.g;have I:=bB (e:=aK aY (mix (ab 3) (ab 1))) (ts:=b.g) (k:=lI) (S:=[.fr (bA P.n P.m b),.fr (.int c),.un]) (λr=>.int (-(r.getD c 0))) rfl Q1 λr X=>⟨.fr (.int (-(r.getD c 0))),gh (ag rfl rfl (bx (.inl rfl) (fh (by rw[h.bb.sh.r r X];exact QQ ‹_›)))) rfl,rfl⟩
 have Y:kA (aL 1 (bZ AC) (aO 3) aH (aK aY (mix (ab 3) (ab 1)))) [.fr (bA P.n P.m b),.fr (.int c),.un]=some (.ok (.fr (lI (b.g.map λ(r:List Int)=>-(r.getD c 0)))),[.fr (bA P.n P.m b),.fr (.int c),.un]):=by refine ka (bj rfl I) ?_;unfold lI;rw[Q6];rfl
 have k:=(q5 h.bb (ts:=b.g.map λr=>-(r.getD c 0)) (by rw[Qt];lia) h.B0 h.O6).v;have eq:∀j:Nat,(Sx.su P.m λi=>if b.Bq i=(j:Int) then (b.g.map λr=>-(r.getD c 0)).getD i 0 else 0)=Sx.su P.m λi=>if b.Bq i=(j:Int) then Sx.qs P.n c*b.Gq i c else 0:=λj=>Sx.ba λi hi=>by rw[h.bb.M0 hi,show Sx.qs P.n c = -1 from YY hc,RW];rfl
 simp only[eq] at k;have s2:aG 2 (dg i8 (bu cz (cF (bM "Board" "spread_down" (ab 0)) (kA (aL 1 (bZ AC) (aO 3) aH (aK aY (mix (ab 3) (ab 1)))))))) [.fr (bA P.n P.m b),.fr (.int c),.un]=some (.nx,[.fr (bA P.n P.m b),.fr (.int c),.lv (.lst ((QK P.n).map λ(j:Nat)=>nm (dz (Sx.su P.m λi=>if b.Bq i=(j:Int) then Sx.qs P.n c*b.Gq i c else 0) b.s)))]):=
  aW (gh (aA (ae (jk rfl rfl) (ae Y rfl)) (ck k _)) (rF (r:=.nw (.lst _)) rfl rfl)) rfl rfl rfl rfl
 have Z:∀x,mix (aK (aq ["Board"] "across") (ab 0)) (ab 1) [.fr (bA P.n P.m b),.fr (.int c),x]=some (.ok (.fr (.int (b.Aq c))),[.fr (bA P.n P.m b),.fr (.int c),x]):=λx=>ag rfl rfl (bx (.inl rfl) (fh (by rw[h.bb.sh.ac];exact hc)));have O:=(h.ok.nm _).mp (Qu b.dn (h.ok.Am hc));rw[YY rfl] at O;refine fc.of (Wp.df (Wp.st s2 ?_));have w:∀t x,decide (b.Aq c<(P.n:Int))=t->ay (aB mI (mix (aK (aq ["Board"] "across") (ab 0)) (ab 1)) AT) [.fr (bA P.n P.m b),.fr (.int c),x]=some (.ok t,[.fr (bA P.n P.m b),.fr (.int c),x]):=λt x l=>aP (ag (Z x) rfl (ir l _));by_cases L:b.Aq c<(P.n:Int)
 .refine Wp.st (eM (w true _ (Y1 L)) (nD rfl rfl (Z _) (tw (a:=nm (1,1)) (k:=b.Aq c) rfl O.1 (by simpa using L)))) (Wp.en (aV rfl rfl) ⟨?_,rfl⟩);rw[uE]
  congr 3
  refine Rp λj _=>?_;unfold Sx.vl;dsimp only;by_cases e:j=(b.Aq c).toNat
  .rw[YY e,YY ⟨hc,by lia⟩,Sx.fU λi hi=>YZ λz=>h.ok.AB hc hi Q1,Tp,GQ ne]
  .rw[YZ e,YZ λz=>by lia,RK]
 .refine Wp.st (cY (w false _ (Y0 L)) rfl) (Wp.en (aV rfl rfl) ⟨?_,rfl⟩);show Fl.rt (.fr (.tup _))=_
  congr 3
  refine Rp λj D=>?_;have:=Rb.mp D;unfold Sx.vl;dsimp only;rw[YZ λz=>by lia,RK]
theorem L9(h:Gd P N b)(y:N<=ts.length):fc aX [bA P.n P.m b,lI ts] (nS P.m b.s λk=>Sx.su N λl=>if b.Aq l=((P.n+k:Nat):Int) then ts.getD l 0 else 0):=ym h.bb y h.Qk h.Alt
end
noncomputable abbrev oB(n m:Nat)(s:Int)(g:A)(ac dn:List Int):LO:=.nob "Board" [("long",.int n),("many",.int m),("scale",.int s),("grid",g)] [("across",ac.map A.int),("down",dn.map A.int)]
theorem vR(n m:Nat)(b:Sx.Bo):bO n m b=oB n m b.s (gI b.g) b.ac b.dn:=rfl
theorem jw{n:Nat}(h:j<n):L2.gk n (j:Int)=some j:=by unfold L2.gk;rw[YY Z4,YY Q1];rfl
abbrev gm(n m:Nat)(s:Int)(g:A)(ac dn:List Int)(a c:Nat)(h D x5:Sl):List Sl:=[.pv (oB n m s g ac dn),.fr (.int a),.fr (.int c),h,D,x5]
variable{s':Int}
section
variable{n m N:Nat}{s:Int}{g:A}{ac dn:List Int}{a c:Nat}{x3 D x5:Sl}
theorem qq(he:e (gm n m s g ac dn a c x3 D x5)=some (.ok (.fr (.int s')),gm n m s g ac dn a c x3 D x5)):dI ["Board"] 0 "scale" e (gm n m s g ac dn a c x3 D x5)=some (.nx,gm n m s' g ac dn a c x3 D x5):=sk he rfl
theorem uK{g':A}{b:Sl}(he:e (gm n m s g ac dn a c x3 D x5)=some (.ok r,gm n m s g ac dn a c x3 D x5))(hf:bS r (gm n m s g ac dn a c x3 D x5)=some (g',gm n m s g ac dn a c x3 b x5)):dI ["Board"] 0 "grid" e (gm n m s g ac dn a c x3 D x5)=some (.nx,gm n m s g' ac dn a c x3 b x5):=sk he (by rw[hf];rfl)
theorem O4(hc:c<ac.length)(h5:np x5=true):aG 5 (oG ["Board"] 0 "across" (xJ 2)) (gm n m s g ac dn a c x3 D x5)=some (.nx,gm n m s g ac dn a c x3 D (.fr (.int (ac.getD c 0)))):=by refine aW (r:=.fr (.int (ac.getD c 0))) (U:=gm n m s g ac dn a c x3 D x5) ?_ rfl rfl h5 rfl;show (match gn (ac.map A.int) (c:Int) with|some a=>some (Rn (Rr.fr a),_)|none=>none)=_;simp only[fh hc]
theorem Mo(f:a<dn.length)(hc:c<ac.length):fA ["Board"] 0 "across" 2 (oG ["Board"] 0 "down" (xJ 1)) (gm n m s g ac dn a c x3 D x5)=some (.nx,gm n m s g (ac.set c (dn.getD a 0)) dn a c x3 D x5):=by
 refine sk (x:=.fr (.int (dn.getD a 0))) (U:=gm n m s g ac dn a c x3 D x5) ?_ ?_
 .show (match gn (dn.map A.int) (a:Int) with|some a=>some (Rn (Rr.fr a),_)|none=>none)=_;rw[fh f]
 .show (match L2.gk (ac.map A.int).length (c:Int) with|some n=>some (Fl.nx,fT _ 0 "across" ((ac.map A.int).set n _))|none=>none)=_;rw[jw (by simpa using hc)];show some (Fl.nx,[Sl.pv (LO.nob "Board" _ [("across",(ac.map A.int).set c (.int (dn.getD a 0))),("down",dn.map A.int)]),_,_,_,_,_])=_;rw[<-T5]
theorem LF{v:Int}(f:a<dn.length):fA ["Board"] 0 "down" 1 (ab 5) (gm n m s g ac dn a c x3 D (.fr (.int v)))=some (.nx,gm n m s g ac (dn.set a v) a c x3 D (.fr (.int v))):=by show (match L2.gk (dn.map A.int).length (a:Int) with|some n=>some (Fl.nx,fT _ 0 "down" ((dn.map A.int).set n _))|none=>none)=_;rw[jw (by simpa using f)];show some (Fl.nx,[Sl.pv (LO.nob "Board" _ [("across",ac.map A.int),("down",(dn.map A.int).set a (.int v))]),_,_,_,_,_])=_;rw[<-T5]
theorem G3{xs:List A}(f:a<xs.length)(hc:c<pr.length):uG ["Board"] 4 1 2 0 "scale" (dg i8 (ab 3)) (gm n m s g ac dn a c (.fr (lI pr)) (.lv (.lst xs)) x5)=some (.nx,gm n m s g ac dn a c (.fr (lI pr)) (.lv (.lst (xs.set a (lI (pr.set c s))))) x5):=by show (match L2.gk xs.length (a:Int),L2.gk (pr.map A.int).length (c:Int) with|some n,some q=>some (Fl.nx,setAt _ 4 (.lst (xs.set n (.lst ((pr.map A.int).set q (.int s))))))|_,_=>none)=_;rw[jw f,jw (by simpa using hc)];show some (Fl.nx,[_,_,_,_,Sl.lv (.lst (xs.set a (.lst ((pr.map A.int).set c (.int s))))),_])=_;rw[<-T5]
end
theorem Et{b:Sx.Bo}{a:Nat}:(b.g.map λrow=>lI (Sx.j0 row (b.g.getD a []) c b.s)).set a (lI ((b.g.getD a []).set c b.s))=(b.raw a c).map lI:=by unfold Sx.Bo.raw;simp only[T5,Q6];rfl
theorem tm{n m:Nat}{b:Sx.Bo}(h:Bb n m N b){a:Nat}(T:a<m)(hc:c<N):cD aF (bO n m b) [.int a,.int c] (.fr .non) (bO n m (b.turn a c)):=by
 have hm:=h.hm;have hN:=h.hN;have J:=h.sh.g;have X:=h.sh.row (show a<=m by exact QJ ‹_›);have ne:b.s≠0:=by have:=h.pos;exact Rg ‹_›
 have H:aG 3 (mix A' (ab 1)) (gm n m b.s (gI b.g) b.ac b.dn a c .un .un .un)=some (.nx,gm n m b.s (gI b.g) b.ac b.dn a c (.fr (lI (b.g.getD a []))) .un .un):=aW (ag (bP rfl) rfl (bx (.inl rfl) (uv Q1))) rfl rfl rfl rfl;have mem:b.g.getD a []∈b.g:=Sx.getD_mem Q1;have K:=bB (e:=bu eO (DH (ai 6) (ai 3) (ai 2) B_)) (ts:=b.g) (k:=lI) (S:=gm n m b.s (gI b.g) b.ac b.dn a c (.fr (lI (b.g.getD a []))) .un .un) (λrow=>lI (Sx.j0 row (b.g.getD a []) c b.s)) rfl Q1 λrow cg=>⟨.nw (.lst ((Sx.j0 row (b.g.getD a []) c b.s).map A.int)),aA (ae rfl (ae rfl (ae rfl (ae (bP rfl) rfl)))) (jv (HK (N:=N) (h.sh.r row cg) X Q1 Q1 ne h.bs (h.bg row cg) (h.bg _ mem)) _),rfl⟩
 have O:aG 4 (aL 1 (bZ A') (aO 6) aH (bu eO (DH (ai 6) (ai 3) (ai 2) B_))) (gm n m b.s (gI b.g) b.ac b.dn a c (.fr (lI (b.g.getD a []))) .un .un)=some (.nx,gm n m b.s (gI b.g) b.ac b.dn a c (.fr (lI (b.g.getD a []))) (.lv (.lst (b.g.map λrow=>lI (Sx.j0 row (b.g.getD a []) c b.s)))) .un):=
  aW (bj (nG (bP rfl) rfl) K) rfl rfl rfl rfl
 have p:=G3 (n:=n) (m:=m) (s:=b.s) (g:=gI b.g) (ac:=b.ac) (dn:=b.dn) (a:=a) (c:=c) (x5:=.un) (xs:=b.g.map λrow=>lI (Sx.j0 row (b.g.getD a []) c b.s)) (pr:=b.g.getD a []) (by rw[Qt];lia) Q1;rw[Et] at p;have o:dI ["Board"] 0 "scale" (mix (ab 3) (ab 2)) (gm n m b.s (gI b.g) b.ac b.dn a c (.fr (lI (b.g.getD a []))) (.lv (.lst ((b.raw a c).map lI))) .un)=some (.nx,gm n m (b.Gq a c) (gI b.g) b.ac b.dn a c (.fr (lI (b.g.getD a []))) (.lv (.lst ((b.raw a c).map lI))) .un):=qq (ag rfl rfl (bx (.inl rfl) (fh Q1)));have w:dI ["Board"] 0 "grid" (ab 4) (gm n m (b.Gq a c) (gI b.g) b.ac b.dn a c (.fr (lI (b.g.getD a []))) (.lv (.lst ((b.raw a c).map lI))) .un)=some (.nx,gm n m (b.Gq a c) (gI (b.raw a c)) b.ac b.dn a c (.fr (lI (b.g.getD a []))) (.fr (.lst ((b.raw a c).map lI))) .un):=uK rfl rfl;have q:∀t,decide (b.Gq a c<0)=t->ay (aB mI B_ (aC 0)) (gm n m (b.Gq a c) (gI (b.raw a c)) b.ac b.dn a c (.fr (lI (b.g.getD a []))) (.fr (.lst ((b.raw a c).map lI))) .un)=some (.ok t,gm n m (b.Gq a c) (gI (b.raw a c)) b.ac b.dn a c (.fr (lI (b.g.getD a []))) (.fr (.lst ((b.raw a c).map lI))) .un):=λt l=>aP (ag (bP rfl) rfl (ir l _));have tail:∀(s:Int)(g:A)(E D:Sl),Wp (av (aG 5 (oG ["Board"] 0 "across" (xJ 2))) (av (fA ["Board"] 0 "across" 2 (oG ["Board"] 0 "down" (xJ 1))) (fA ["Board"] 0 "down" 1 (ab 5)))) (gm n m s g b.ac b.dn a c E D .un) λf Z=>f=.nx/\∃U,Z=.pv (oB n m s g (b.ac.set c (b.dn.getD a 0)) (b.dn.set a (b.ac.getD c 0)))::U:=λs g E D=>Wp.st (O4 (by rw[h.sh.ac];exact hc) rfl) (Wp.st (Mo (by rw[h.sh.dn];exact T) (by rw[h.sh.ac];exact hc)) (Wp.en (LF (by rw[h.sh.dn];exact T)) ⟨rfl,_,rfl⟩))
 suffices ∃s o',cD aF (bO n m b) [.int a,.int c] s o'/\(s=.fr .non/\o'=bO n m (b.turn a c)) by obtain⟨s,o',v,rfl,rfl⟩:=this;exact v
 refine cD.of (Wp.df (Wp.st H (Wp.st O (Wp.st p (Wp.st o (Wp.st w ?_))))));by_cases z:b.Gq a c<0
 .have j:dI ["Board"] 0 "scale" (aK aY B_) (gm n m (b.Gq a c) (gI (b.raw a c)) b.ac b.dn a c (.fr (lI (b.g.getD a []))) (.fr (.lst ((b.raw a c).map lI))) .un)=some (.nx,gm n m (-b.Gq a c) (gI (b.raw a c)) b.ac b.dn a c (.fr (lI (b.g.getD a []))) (.fr (.lst ((b.raw a c).map lI))) .un):=qq (gh (bP rfl) rfl);have P:(b.raw a c).length=m+1:=by simp[Sx.Bo.raw,J]
  have i:=bB (e:=bu aR (cO (ai 6))) (ts:=b.raw a c) (k:=lI) (S:=gm n m (-b.Gq a c) (gI (b.raw a c)) b.ac b.dn a c (.fr (lI (b.g.getD a []))) (.fr (.lst ((b.raw a c).map lI))) .un) (λrow=>lI (Sx.fH row)) rfl Q1 λrow cg=>⟨.nw (.lst ((Sx.fH row).map A.int)),aA (ae rfl rfl) (jv (yV (by have:=h.sh.raw (c:=c) (show a<=m by lia) row cg;lia)) _),rfl⟩
  have x:dI ["Board"] 0 "grid" (aL 1 (bZ (ab 4)) (aO 6) aH (bu aR (cO (ai 6)))) (gm n m (-b.Gq a c) (gI (b.raw a c)) b.ac b.dn a c (.fr (lI (b.g.getD a []))) (.fr (.lst ((b.raw a c).map lI))) .un)=some (.nx,gm n m (-b.Gq a c) (gI ((b.raw a c).map Sx.fH)) b.ac b.dn a c (.fr (lI (b.g.getD a []))) (.fr (.lst ((b.raw a c).map lI))) .un):=by refine uK (bj rfl i) ?_;unfold gI;rw[Q6];rfl
  refine Wp.st (eM (q true (Y1 z)) (dN j x)) (Wp.mono (tail _ _ _ _) ?_);rintro f Z ⟨rfl,U,rfl⟩;refine⟨_,_,U,rfl,rfl,rfl,?_⟩;rw[vR];unfold Sx.Bo.turn;simp only[YY z]
 .refine Wp.st (cY (q false (Y0 z)) rfl) (Wp.mono (tail _ _ _ _) ?_);rintro f Z ⟨rfl,U,rfl⟩;refine⟨_,_,U,rfl,rfl,rfl,?_⟩;rw[vR];unfold Sx.Bo.turn;simp only[YZ z]
theorem An(f:α->β)(xs:List α)(k:Nat):(xs.map f).eraseIdx k=(xs.eraseIdx k).map f:=by simp only[Ri,Ri,QZ,Sk,Vj]
theorem Jn{xs:List A}{k:Nat}(h:k<=xs.length):il xs none (some (k:Int))=xs.take k:=by
 have e:HT.cM xs.length xs.length (some (k:Int))=k:=by rw[HT.vm];lia
 have I:HT.cM xs.length 0 none=0:=rfl;unfold il;rw[e,I,Vv,Wo]
theorem IX{xs:List A}{k:Nat}(h:k<=xs.length):il xs (some (k:Int)) none=xs.drop k:=by
 have e:HT.cM xs.length 0 (some (k:Int))=k:=by rw[HT.vm];lia
 have I:HT.cM xs.length xs.length none=xs.length:=rfl;unfold il;rw[e,I,T3 Z4]
theorem DT{m:Mi Rr}{xs:List A}{n:Nat}(h:m Z=some (.ok (.fr (.lst xs)),Z))(hl:xs.length=n+1):cB m B' aE Z=some (.ok (.nw (.lst (xs.drop n))),Z):=by refine bk h (bk rfl (bk rfl ?_));show some (Rn (Rr.nw (.lst (il xs (some (-1)) none))),Z)=_;rw[Ju hl]
theorem jS{xs ys:List A}(h:xs.length+ys.length<=100000)(Z:List Sl):kG aJ (.nw (.lst xs)) (.nw (.lst ys)) Z=some (.ok (.nw (.lst (xs++ys))),Z):=fu (o:=none) rfl rfl (YY h)
abbrev uc(n m:Nat)(s:Int)(g:A)(ac dn:List Int)(F:Sl):List Sl:=[.pv (oB n m s g ac dn),F]
theorem Jm{n m:Nat}{g:A}{ac dn:List Int}(hc:c<ac.length)(hl:ac.length<=100):cH (rJ ["Board"] 0 "across" (xJ 1)) (uc n m s g ac dn (.fr (.int c)))=some (.nx,uc n m s g (ac.eraseIdx c) dn (.fr (.int c))):=by
 refine dy (r:=.fr (.int (ac.getD c 0))) ?_;show (if (c:Int).natAbs<2^62 then (match XT (c:Int) (ac.map A.int).length with|some n=>(match (ac.map A.int)[n]? with|some a=>some (Rn (Rr.fr a),fT _ 0 "across" ((ac.map A.int).eraseIdx n))|none=>none)|none=>none) else none)=_;rw[YY Q1];have e:=(kK (jw (n:=(ac.map A.int).length) (by simpa using hc))).1;have e2:(ac.map A.int)[c]?=some (.int (ac.getD c 0)):=by simp[QX,hc]
 rw[e];dsimp only;rw[e2];show some (_,[Sl.pv (LO.nob "Board" _ [("across",(ac.map A.int).eraseIdx c),("down",dn.map A.int)]),_])=_;rw[show (ac.map A.int).eraseIdx c=(ac.eraseIdx c).map A.int from An _ _ _]
theorem Jw{n m:Nat}{b:Sx.Bo}(h:Bb n m N b)(u:-1∈b.ac):cD bf (bO n m b) [] (.fr .non) (bO n m (b.drop (b.ac.idxOf (-1)))):=by
 have hl:=RD u;have hN:=h.hN;have hm:=h.hm;have c:=h.sh.ac;generalize y:b.ac.idxOf (-1)=k at hl;have Y:aG 1 (fY ["Board"] 0 "across" (AS (SO 0))) (uc n m b.s (gI b.g) b.ac b.dn .un)=some (.nx,uc n m b.s (gI b.g) b.ac b.dn (.fr (.int k))):=by refine aW (r:=.fr (.int k)) (U:=uc n m b.s (gI b.g) b.ac b.dn .un) ?_ rfl rfl rfl rfl;show (match eu (b.ac.map A.int) with|some ns=>(match t5 ns (-1) with|some j=>some (Rn (Rr.fr (.int j)),_)|none=>none)|none=>none)=_;rw[fI];dsimp only;simp only[pM u,y]
 have F:=bB (e:=aB aJ (cB (ab 2) aE (bz (ab 1))) (cB (ab 2) (bz (aB aJ (ab 1) (aC 1))) aE)) (ts:=b.g) (k:=lI) (S:=uc n m b.s (gI b.g) (b.ac.eraseIdx k) b.dn (.fr (.int k))) (λrow=>lI (row.eraseIdx k)) rfl (by have:=h.sh.g;lia) λrow cg=>by
  have P:=h.sh.r row cg;have a1:∀x,cB (ab 2) aE (bz (ab 1)) [x,.fr (.int k),.fr (lI row)]=some (.ok (.nw (.lst ((row.map A.int).take k))),[x,.fr (.int k),.fr (lI row)]):=λx=>by show some (Rn (Rr.nw (.lst (il (row.map A.int) none (some (k:Int))))),_)=_;rw[Jn (by simp;lia)]
  have a2:∀x,cB (ab 2) (bz (aB aJ (ab 1) (aC 1))) aE [x,.fr (.int k),.fr (lI row)]=some (.ok (.nw (.lst ((row.map A.int).drop (k+1)))),[x,.fr (.int k),.fr (lI row)]):=λx=>by show some (Rn (Rr.nw (.lst (il (row.map A.int) (some ((k+1:Nat):Int)) none))),_)=_;rw[IX (by simp;lia)]
  refine⟨_,ag (a1 _) (a2 _) (jS (by simp;lia) _),?_⟩;show some (A.lst ((row.map A.int).take k++(row.map A.int).drop (k+1)),_)=_;rw[<-Ri,An]
 have H:dI ["Board"] 0 "grid" (aL 1 (bZ A') (aO 2) aH (aB aJ (cB (ab 2) aE (bz (ab 1))) (cB (ab 2) (bz (aB aJ (ab 1) (aC 1))) aE))) (uc n m b.s (gI b.g) (b.ac.eraseIdx k) b.dn (.fr (.int k)))=some (.nx,uc n m b.s (gI (b.g.map λr=>r.eraseIdx k)) (b.ac.eraseIdx k) b.dn (.fr (.int k))):=by refine sk (bj (nG (bP rfl) rfl) F) ?_;rw[show (b.g.map λrow=>lI (row.eraseIdx k))=(b.g.map λr=>r.eraseIdx k).map lI by rw[Q6];rfl];rfl
 suffices ∃s o',cD bf (bO n m b) [] s o'/\(s=.fr .non/\o'=bO n m (b.drop k)) by obtain⟨s,o',v,rfl,rfl⟩:=this;exact v
 exact cD.of (Wp.df (Wp.st Y (Wp.st (Jm hl Q1) (Wp.en H ⟨_,_,_,rfl,rfl,rfl,rfl⟩))))
theorem ly:∀xs:List Int,Ds (xs.map A.int)=true
 |[]=>rfl
 |x::xs=>by show (pl (.int x)&&Ds (xs.map A.int))=true;rw[ly xs];rfl
theorem rq{m:Mi Rr}(h1:nk i Z=some o)(h2:m (Z.set i (.fr o.a))=some (.ok r,Z.set i (.fr o.a)))(h3:Ie i Z=true)(h4:Og r=true):iB i m Z=some r:=by
 delta iB
 rw[h1]
 dsimp only
 rw[h2]
 exact YY ⟨rfl,h3,h4⟩
theorem vG{cs:List Str}{f:Str}{m:Mi Rr}{xs:List A}{a:A}(h1:ownAt cs Z i f=some xs)(h2:iB i m Z=some r)(h3:bS r Z=some (a,U))(h4:qm cs U i f a=some Z'):lg cs i f m Z=some (.ok (.fr .non),Z'):=by
 delta lg
 rw[h1,h2]
 dsimp only
 rw[h3]
 dsimp only
 rw[h4]
def wq(N m:Nat)(b:Sx.Bo):Sx.Bo:=⟨b.ac++[-1],b.dn,(b.g.take m).map (λr=>r.take N++[-1]++r.drop N)++[(b.g.getD m []).take N++[0]++(b.g.getD m []).drop N],b.s⟩
theorem MK{n m:Nat}{b:Sx.Bo}(h:Bb n m N b):cD bp (bO n m b) [] (.fr .non) (bO n m (wq N m b)):=by
 have hN:=h.hN;have hm:=h.hm;have z:=h.sh.ac;have J:=h.sh.g;have X:=h.sh.row (QB m);have Y:cH (qD ["Board"] 0 "across" (AS (SO 0))) (uc n m b.s (gI b.g) b.ac b.dn .un)=some (.nx,uc n m b.s (gI b.g) (b.ac++[-1]) b.dn .un):=by refine dy (r:=.fr .non) ?_;show (if (b.ac.map A.int).length<=100000 then some (Rn (Rr.fr .non),[Sl.pv (LO.nob "Board" _ [("across",b.ac.map A.int++[.int (-1)]),("down",b.dn.map A.int)]),_]) else none)=_;rw[YY (by simp;lia)];unfold uc oB;rw[QZ];rfl
 have t:aG 1 (mix A' (aK aY (aC 1))) (uc n m b.s (gI b.g) (b.ac++[-1]) b.dn .un)=some (.nx,uc n m b.s (gI b.g) (b.ac++[-1]) b.dn (.fr (lI (b.g.getD m [])))):=aW (ag (bP rfl) rfl (bx (.inl rfl) (vH J))) rfl rfl rfl rfl;have cut:∀{i:Nat}{row:List Int}{Z:List Sl}{m:Mi Rr}{v:Int},row.length=N+1->ab i Z=some (.ok (.fr (lI row)),Z)->m Z=some (.ok (.fr (.int v)),Z)->aB aJ (aB aJ (cB (ab i) aE B') (d6 (cO m))) (cB (ab i) B' aE) Z=some (.ok (.nw (.lst ((row.take N++[v]++row.drop N).map A.int))),Z):=λ{i row Z m v} hl c hm=>by have:=ag (ag (g8 c (n:=N) (by simpa using hl)) (fQ (show cO m Z=some (.ok [.fr (.int v)],Z) from ae hm rfl) rfl) (jS (ys:=[.int v]) (by simp;lia) _)) (DT c (n:=N) (by simpa using hl)) (jS (by simp;lia) _);rw[<-Sk,<-Vj,show [A.int v]=[v].map A.int from rfl,<-QZ,<-QZ] at this;exact this
 have F:=bB (e:=aB aJ (aB aJ (cB (ab 2) aE B') (d6 (cO (aK aY (aC 1))))) (cB (ab 2) B' aE)) (ts:=b.g.take m) (k:=lI) (S:=uc n m b.s (gI b.g) (b.ac++[-1]) b.dn (.fr (lI (b.g.getD m [])))) (λr=>lI (r.take N++[-1]++r.drop N)) rfl (by simp;lia) λrow cg=>⟨_,cut (i:=2) (m:=aK aY (aC 1)) (v:=-1) (h.sh.r row (RU cg)) rfl rfl,rfl⟩
 have H:iw ["Board"] 0 "grid" (aL 1 (bZ (cB A' aE B')) (aO 2) aH (aB aJ (aB aJ (cB (ab 2) aE B') (d6 (cO (aK aY (aC 1))))) (cB (ab 2) B' aE))) (uc n m b.s (gI b.g) (b.ac++[-1]) b.dn (.fr (lI (b.g.getD m []))))=some (.nx,[.pv (.nob "Board" [("long",.int n),("many",.int m),("scale",.int b.s)] [("across",(b.ac++[-1]).map A.int),("down",b.dn.map A.int),("grid",(b.g.take m).map λr=>lI (r.take N++[-1]++r.drop N))]),.fr (lI (b.g.getD m []))]):=by refine sk (bj (nG (g8 (bP rfl) (n:=m) (by simpa using J)) (as:=(b.g.take m).map lI) ?_) F) rfl;rw[<-Sk];rfl
 suffices ∃s o',cD bp (bO n m b) [] s o'/\(s=.fr .non/\o'=bO n m (wq N m b)) by obtain⟨s,o',v,rfl,rfl⟩:=this;exact v
 refine cD.of (Wp.df (Wp.st Y (Wp.st t (Wp.st H (Wp.en (f:=.nx) (U:=[.pv (.nob "Board" [("long",.int n),("many",.int m),("scale",.int b.s),("grid",.lst ((b.g.take m).map (λr=>lI (r.take N++[-1]++r.drop N))++[lI ((b.g.getD m []).take N++[0]++(b.g.getD m []).drop N)]))] [("across",(b.ac++[-1]).map A.int),("down",b.dn.map A.int)]),.fr (lI (b.g.getD m []))]) (dy (r:=.fr .non) ?_) ⟨_,_,_,rfl,rfl,rfl,?_⟩)))))
 .have lv:iB 0 (aB aJ (aB aJ (cB (ab 1) aE B') (d6 (cO (aC 0)))) (cB (ab 1) B' aE)) [.pv (.nob "Board" [("long",.int n),("many",.int m),("scale",.int b.s)] [("across",(b.ac++[-1]).map A.int),("down",b.dn.map A.int),("grid",(b.g.take m).map λr=>lI (r.take N++[-1]++r.drop N))]),.fr (lI (b.g.getD m []))]=some (.nw (.lst (((b.g.getD m []).take N++[0]++(b.g.getD m []).drop N).map A.int))):=by exact rq rfl (cut (i:=1) (m:=aC 0) (v:=0) X rfl rfl) rfl (ly _)
  refine vG rfl lv rfl ?_;show (if ((b.g.take m).map λr=>lI (r.take N++[-1]++r.drop N)).length<=100000 then _ else none)=_;rw[YY (by simp;lia)];rfl
 .rw[vR];unfold wq;dsimp only;have:gI ((b.g.take m).map (λr=>r.take N++[-1]++r.drop N)++[(b.g.getD m []).take N++[0]++(b.g.getD m []).drop N])=.lst ((b.g.take m).map (λr=>lI (r.take N++[-1]++r.drop N))++[lI ((b.g.getD m []).take N++[0]++(b.g.getD m []).drop N)]):=by unfold gI;rw[QZ,Q6];rfl
  rw[this]
variable{ns:List Int}
theorem wD(h:0<ns.length):rZ ns∈ns/\∀j,j<ns.length->rZ ns<=ns.getD j 0:=by obtain⟨h1,h2⟩:=argBest_lt (λi=>ns.getD i 0) (ns.length-1);exact⟨cU Q1,λj a=>h2 j Q1⟩
theorem xu(h:0<ns.length):tU ns∈ns/\∀j,j<ns.length->ns.getD j 0<=tU ns:=by obtain⟨h1,h2⟩:=argBest_gt (λi=>ns.getD i 0) (ns.length-1);exact⟨cU Q1,λj a=>h2 j Q1⟩
theorem Aw{t:Mi Bool}{ts:List T}(J D g:T->A)(c:T->Bool)(hi:S.length=i)(hl:ts.length<=100000)
  (h:∀x∈ts,t (S++[.fr (J x),.fr (D x)])=some (.ok (c x),S++[.fr (J x),.fr (D x)])/\∃r,e (S++[.fr (J x),.fr (D x)])=some (.ok r,S++[.fr (J x),.fr (D x)])/\bS r (S++[.fr (J x),.fr (D x)])=some (g x,S++[.fr (J x),.fr (D x)])):
  gi 2 (G2 i (i+1)) t e (ts.map λt=>.tup [J t,D t]) S=some (.ok (.nw (.lst ((ts.filter c).map g))),S):=by
 obtain⟨ys,B,h1,x,y,rfl,_,_,rfl⟩:=eP (G:=G2 i (i+1)) (as:=ts.map λt=>.tup [J t,D t])
  (λj acc Z=>X2 λ(x y:Sl)=>N4 (Z=S++[x,y]) (np x=true) (np y=true) (acc=((ts.take j).filter c).map g)) ⟨.un,.un,rfl,rfl,rfl,rfl⟩ (by
   rintro j q acc Z l ⟨x,y,rfl,hx,hy,rfl⟩;rw[Q0] at l;cases a:ts[j]? with
   |none=>rw[a] at l;cases l
   |some p=>
    rw[a] at l;cases l;obtain⟨s,r,u,I⟩:=h p (Rq a);refine⟨_,qR hi hx hy,?_⟩;rw[TC,a,List.filter_append];cases N:c p with
    |true=>rw[N] at s;exact .inl ⟨_,r,_,g p,_,s,u,I,_,_,rfl,rfl,rfl,by simp[N]⟩
    | false=>rw[N] at s;exact .inr ⟨_,s,_,_,rfl,rfl,rfl,by simp[N]⟩)
 unfold gi;rw[YY (by rw[Qt];exact hl)];have e1:S++QD 2 Sl.un=S++[.un,.un]:=rfl;rw[e1,h1];simp
theorem qE:∀(xs:List Int)(i:Nat),iz i (xs.map A.int)=(QK xs.length).map λj=>A.tup [.int ((i+j:Nat):Int),.int (xs.getD j 0)]
 |[],_=>rfl
 |x::xs,i=>by
  simp only[Rf,iz,qE xs (i+1),QF,TZ,Rf,Q6]
  congr 1
  refine Rp λj _=>?_;rw[show i+1+j=i+(j+1) by lia];rfl
theorem II{ls:List Int}(h:0<ls.length)(hl:ls.length<=100):∃a:Nat,Val dJ [lI ls] (.int a)/\a<ls.length/\(∀i,i<ls.length->ls.getD a 0<=ls.getD i 0)/\∀i,i<ls.length->a<i->ls.getD a 0<ls.getD i 0:=by
 obtain⟨Y,L⟩:=wD h;generalize n:rZ ls=w at Y L;have Z:=Aw (e:=ab 2) (t:=ay (aB mT (ab 3) (ab 1))) (ts:=QK ls.length) (S:=[.fr (lI ls),.fr (.int w)]) (λj=>.int j) (λj=>.int (ls.getD j 0)) (λj=>.int j) (λj=>decide (ls.getD j 0=w)) rfl (by simp;exact vZ) λj D=>⟨aP (ag rfl rfl (kN rfl _)),_,rfl,rfl⟩
 have b:∀i,i∈(QK ls.length).filter (λj=>decide (ls.getD j 0=w))↔i<ls.length/\ls.getD i 0=w:=λi=>by rw[T7,Rb,decide_eq_true_eq]
 have ex:∃i,i<ls.length/\ls.getD i 0=w:=by obtain⟨i,hi,e⟩:=RF Y;exact⟨i,hi,by simp[QX,hi,e]⟩
 generalize v:(QK ls.length).filter (λj=>decide (ls.getD j 0=w))=F at Z b;have ne:0<(F.map S4).length:=by obtain⟨i,hi⟩:=ex;rw[Qt];exact List.length_pos_of_mem ((b i).mpr hi)
 obtain⟨B,P⟩:=xu ne;obtain⟨a,f,E⟩:=Q2.mp B;have U:=(b a).mp f;have k:∀i,i<ls.length->ls.getD i 0=w->i<=a:=λi h1 h2=>by
  obtain⟨p,hp,e⟩:=RF ((b i).mpr ⟨h1,h2⟩);have:=P p (by rw[Qt];exact hp);rw[Sx.getD_map hp,<-E] at this;rw[show F.getD p 0=i by simp[QX,hp,e]] at this;have:(i:Int)<=(a:Int):=this
  lia
 refine⟨a,Val.of (Wp.df (Wp.st (aW (gh rfl (rF (r:=.fr (.int w)) rfl ?_)) rfl rfl rfl rfl) (Wp.en (aV (gh (bj ?_ Z) (rF (r:=.fr (.int a)) rfl ?_)) rfl) rfl))),U.1,λi hi=>by rw[U.2];exact L i hi,λi hi c=>?_⟩
 .unfold qX;dsimp only;rw[fI];dsimp only;rw[YZ (by intro z;rw[z] at h;exact absurd h Z2),n]
 .show some (Rn (iz 0 (ls.map A.int)),_)=_;rw[qE]
  congr 3
  refine Rp λj _=>?_;rw[Ud]
 .have e:F.map (λ(j:Nat)=>A.int (j:Int))=(F.map S4).map A.int:=by rw[Q6];rfl
  rw[e];unfold q9;dsimp only;rw[fI];dsimp only;rw[YZ (by intro z;rw[z] at ne;exact absurd ne Z2),<-E];rfl
 .rw[U.2];have:=L i hi;by_cases e:ls.getD i 0=w
  .have:=k i hi e;lia
  .lia
noncomputable def bG(c:List Int)(R:List (List Int))(L:List Int):Sx.Pb:=⟨c.length,R.length,λj=>c.getD j 0,λi j=>(R.getD i []).getD j 0,λi=>L.getD i 0⟩
theorem l8{α:Type}{f:Int->α}:∀xs:List Int,(QK xs.length).map (λj=>f (xs.getD j 0))=xs.map f
 |[]=>rfl
 |x::xs=>by simp only[QF,TZ,Rf,Q6,Rf,<-l8 xs];rfl
variable{R:List (List Int)}
theorem MV{c:List Int}{L:List Int}(f:mR c R L):(Sx.fB (bG c R L)).g.map lI=((R.zip L).map λp=>lI (p.1++[p.2]))++[lI (c.map (λx=>-x)++[0])]:=by
 delta Sx.fB bG
 simp only[QZ,l8]
 congr 1
 refine US (by simp[f.l]) λi h1 h2=>?_
 have hi:i<R.length:=by simpa using h1
 have e:i<L.length:=by rw[f.l];exact hi
 simp only[V7,UA,List.getElem_zip]
 have e1:R.getD i []=R[i]:=by simp[QX,hi]
 have e2:L.getD i 0=L[i]:=by simp[QX,e]
 have N:=f.r R[i] (S2 hi)
 simp only[e1,e2,<-N,l8 (f:=λx=>x),WG]
theorem Ov{cn:Str}{f:Ms}{as:List A}{Y:List Sl}(h:f (.pv (.obj cn [])::as.map Sl.fr)=some (.rt (.fr .non),.pv o::Y))(Z:List Sl):uO cn f [] (as.map Rr.fr) Z=some (.ok (.nw o),Z):=by unfold uO;rw[Ti,Rx,i9];simp only[pU,h];have:=jy Z as (ax (as.map Sl.fr).length Y) Z (by rw[cJ,Qt]);rw[this]
theorem Gu{m:Mi Rr}{n:Nat}(h:m Z=some (.ok (.fr (.int n)),Z))(hn:n<=100):iE m Z=some (.ok (.nw (.lst (bI 0 n))),Z):=by refine bk h ?_;show (if B1 0 (n:Int)=true then some (Rn (Rr.nw (.lst (bI 0 ((n:Int)-0).toNat))),Z) else none)=_;rw[YY (show B1 0 (n:Int)=true from Y1 Q1),show ((n:Int)-0).toNat=n by rfl]
theorem HP(h:ma Z=some (.ok (.fr (.int i)),Z))(k:mb Z=some (.ok (.fr (.int j)),Z))(hi:i<=100)(a:j<=100):kW ma mb Z=some (.ok (.nw (.lst (bI i (j-i)))),Z):=by refine bk h (bk k ?_);show (if B1 (i:Int) (j:Int)=true then some (Rn (Rr.nw (.lst (bI i ((j:Int)-i).toNat))),Z) else none)=_;rw[YY (show B1 (i:Int) (j:Int)=true from Y1 Q1),show ((j:Int)-i).toNat=j-i by lia]
theorem zK{c:List Int}{L:List Int}(f:mR c R L)(Z:List Sl):uO "Board" dD [] [.fr (lI c),.fr (gI R),.fr (lI L)] Z=some (.ok (.nw (bO c.length R.length (Sx.fB (bG c R L)))),Z):=by
 have hn:=f.n;have hm:=f.m
 suffices ∃Y,dD (.pv (.obj "Board" [])::[lI c,gI R,lI L].map Sl.fr)=some (.rt (.fr .non),.pv (bO c.length R.length (Sx.fB (bG c R L)))::Y) by obtain⟨Y,e⟩:=this;exact Ov (as:=[lI c,gI R,lI L]) e Z
 have go:Wp dD (.pv (.obj "Board" [])::[lI c,gI R,lI L].map Sl.fr) λg Z=>g=.rt (.fr .non)/\∃Y,Z=.pv (bO c.length R.length (Sx.fB (bG c R L)))::Y:=by
  have E:dI ["Board"] 0 "long" (dg cI (ab 1)) [.pv (.obj "Board" []),.fr (lI c),.fr (gI R),.fr (lI L)]=some (.nx,[.pv (.obj "Board" [("long",.int c.length)]),.fr (lI c),.fr (gI R),.fr (lI L)]):=by refine sk (x:=.fr (.int c.length)) (U:=[.pv (.obj "Board" []),.fr (lI c),.fr (gI R),.fr (lI L)]) ?_ rfl;show some (Rn (Rr.fr (.int (c.map A.int).length)),_)=_;rw[Qt]
  have t:dI ["Board"] 0 "many" (dg cI (ab 2)) [.pv (.obj "Board" [("long",.int c.length)]),.fr (lI c),.fr (gI R),.fr (lI L)]=some (.nx,[.pv (.obj "Board" [("long",.int c.length),("many",.int R.length)]),.fr (lI c),.fr (gI R),.fr (lI L)]):=by refine sk (x:=.fr (.int R.length)) (U:=[.pv (.obj "Board" [("long",.int c.length)]),.fr (lI c),.fr (gI R),.fr (lI L)]) ?_ rfl;show some (Rn (Rr.fr (.int (R.map lI).length)),_)=_;rw[Qt]
  have O:iw ["Board"] 0 "across" (iE BD) [.pv (.obj "Board" [("long",.int c.length),("many",.int R.length),("scale",.int 1)]),.fr (lI c),.fr (gI R),.fr (lI L)]=some (.nx,[.pv (.nob "Board" [("long",.int c.length),("many",.int R.length),("scale",.int 1)] [("across",bI 0 c.length)]),.fr (lI c),.fr (gI R),.fr (lI L)]):=sk (Gu (kT rfl rfl) Q1) rfl;have b:iw ["Board"] 0 "down" (kW BD (aB aJ BD (aQ (aN ["Board"] 0 "many") A_))) [.pv (.nob "Board" [("long",.int c.length),("many",.int R.length),("scale",.int 1)] [("across",bI 0 c.length)]),.fr (lI c),.fr (gI R),.fr (lI L)]=some (.nx,[.pv (.nob "Board" [("long",.int c.length),("many",.int R.length),("scale",.int 1)] [("across",bI 0 c.length),("down",bI c.length R.length)]),.fr (lI c),.fr (gI R),.fr (lI L)]):=by have:=HP (Z:=[.pv (.nob "Board" [("long",.int c.length),("many",.int R.length),("scale",.int 1)] [("across",bI 0 c.length)]),.fr (lI c),.fr (gI R),.fr (lI L)]) (i:=c.length) (j:=c.length+R.length) (ma:=aQ (aN ["Board"] 0 "long") AT) (mb:=aB aJ BD (aQ (aN ["Board"] 0 "many") A_)) (bP rfl) (ag (bP rfl) (bP rfl) rfl) Q1 Q1;rw[show c.length+R.length-c.length=R.length by lia] at this;exact sk this rfl
  have s:=jU (i:=4) (e:=aB aJ (dg i8 (ab 4)) (d6 (cO (ab 5)))) (ts:=R.zip L) (S:=[.pv (.nob "Board" [("long",.int c.length),("many",.int R.length),("scale",.int 1)] [("across",bI 0 c.length),("down",bI c.length R.length)]),.fr (lI c),.fr (gI R),.fr (lI L)]) (λp=>lI p.1) (λp=>.int p.2) (λp=>lI (p.1++[p.2])) rfl (by simp;lia) λp hp=>by have P:=f.r p.1 (SJ hp).1;refine⟨_,ag (gh rfl (rF (r:=.nw (.lst (p.1.map A.int))) rfl rfl)) (fQ (rs:=[.fr (.int p.2)]) rfl rfl) (jS (by simp;lia) _),?_⟩;show some (A.lst (p.1.map A.int++[.int p.2]),_)=_;unfold lI;rw[QZ];rfl
  have o:iw ["Board"] 0 "grid" (aL 2 (lN (ab 2) (ab 3)) (G2 4 5) aH (aB aJ (dg i8 (ab 4)) (d6 (cO (ab 5))))) [.pv (.nob "Board" [("long",.int c.length),("many",.int R.length),("scale",.int 1)] [("across",bI 0 c.length),("down",bI c.length R.length)]),.fr (lI c),.fr (gI R),.fr (lI L)]=some (.nx,[.pv (.nob "Board" [("long",.int c.length),("many",.int R.length),("scale",.int 1)] [("across",bI 0 c.length),("down",bI c.length R.length),("grid",(R.zip L).map λp=>lI (p.1++[p.2]))]),.fr (lI c),.fr (gI R),.fr (lI L)]):=by refine sk (bj (as:=(R.zip L).map λp=>A.tup [lI p.1,.int p.2]) ?_ s) rfl;rw[<-gR];rfl
  refine Wp.df (Wp.st E (Wp.st t (Wp.st rfl (Wp.st O (Wp.st b (Wp.st o (Wp.en (f:=.nx) (U:=[.pv (.nob "Board" [("long",.int c.length),("many",.int R.length),("scale",.int 1),("grid",.lst (((R.zip L).map λp=>lI (p.1++[p.2]))++[lI (c.map (λx=>-x)++[0])]))] [("across",bI 0 c.length),("down",bI c.length R.length)]),.fr (lI c),.fr (gI R),.fr (lI L)]) (dy (r:=.fr .non) ?_) ⟨rfl,[.fr (lI c),.fr (gI R),.fr (lI L)],?_⟩)))))))
  .have N:=bB (e:=aK aY (ab 4)) (ts:=c) (k:=A.int) (S:=[.fr (.obj "Board" [("long",.int c.length),("many",.int R.length),("scale",.int 1),("across",.lst (bI 0 c.length)),("down",.lst (bI c.length R.length)),("grid",.lst ((R.zip L).map λp=>lI (p.1++[p.2])))]),.fr (lI c),.fr (gI R),.fr (lI L)]) (λx=>.int (-x)) rfl Q1 λx _=>⟨_,rfl,rfl⟩
   rw[show (c.map λx=>A.int (-x))=(c.map λx=>-x).map A.int by rw[Q6];rfl] at N;have I:(c.map (λx=>-x)++[0]).map A.int=(c.map λx=>-x).map A.int++[A.int 0]:=by rw[QZ];rfl
   have lv:iB 0 (aB aJ (aL 1 (bZ (ab 1)) (aO 4) aH (aK aY (ab 4))) (d6 (cO (aC 0)))) [.pv (.nob "Board" [("long",.int c.length),("many",.int R.length),("scale",.int 1)] [("across",bI 0 c.length),("down",bI c.length R.length),("grid",(R.zip L).map λp=>lI (p.1++[p.2]))]),.fr (lI c),.fr (gI R),.fr (lI L)]=some (.nw (.lst ((c.map (λx=>-x)++[0]).map A.int))):=by have h:=ly (c.map (λx=>-x)++[0]);rw[I] at h ⊢;exact rq rfl (ag (bj rfl N) (fQ (rs:=[.fr (.int 0)]) rfl rfl) (jS (by simp;lia) _)) rfl h
   refine vG rfl lv rfl ?_;show (if ((R.zip L).map λp=>lI (p.1++[p.2])).length<=100000 then _ else none)=_;rw[YY (by simp;lia)];rfl
  .rw[vR];unfold gI;rw[MV f];have X:bI 0 c.length=(Sx.fB (bG c R L)).ac.map A.int:=by show _=((QK c.length).map S4).map A.int;unfold bI;rw[Q6];exact Rp λi _=>by show A.int (0+(i:Int))=A.int (i:Int);rw[Tp]
   have l:bI c.length R.length=(Sx.fB (bG c R L)).dn.map A.int:=by show _=((QK R.length).map λi=>((c.length+i:Nat):Int)).map A.int;unfold bI;rw[Q6];rfl
   rw[X,l];rfl
 obtain⟨g,Z,e,rfl,Y,rfl⟩:=go;exact⟨Y,e⟩
theorem iP{t:Mi Bool}{b:Ms}(P:Nat->List Sl->Prop)(Q:Fl->List Sl->Prop)(hs:∀k Z,P k Z->(∃U,t Z=some (.ok false,U)/\Q .nx U)\/∃U,t Z=some (.ok true,U)/\Wp b U λf Z'=>(f=.nx/\∃v,v<k/\P v Z')\/X2 λ(s:Sl)(_:Unit)=>f=.rt s/\Q (.rt s) Z'):∀n k Z,P k Z->k<n->∃f B,dC t b n Z=some (f,B)/\Q f B
 |0,_,_,_,h=>absurd h (RV _)
 |n+1,k,Z,p,h=>by
  rcases hs k Z p with ⟨U,e,q⟩|⟨U,e,f,Z',e2,z⟩
  .exact⟨.nx,U,by unfold dC;rw[e],q⟩
  .rcases z with ⟨rfl,v,hk,E⟩|⟨s,_,rfl,q⟩
   .obtain⟨f,B,N,q⟩:=iP P Q hs n v Z' E Q1;exact⟨f,B,by unfold dC;rw[e];dsimp only;rw[e2];exact N,q⟩
   .exact⟨.rt s,Z',by unfold dC;rw[e];dsimp only;rw[e2],q⟩
variable{rs:List Rr}
theorem qT{f:Ms}{s:Sl}(A:rs.all Fj=true)(h:cD f o (rs.map vA) s o')(X:pC s=some r)(hl:az Z i=some o):fk f [] (.rf i::rs) Z=some (.ok r,setAt Z i o'):=by
 simp only[<-cE h X hl];have n:((rs.map vA).map Rr.fr).all Fj=true:=by simp only[UI];simp[Fj]
 have e:∀Z,cq (.rf i::rs) Z=cq (.rf i::(rs.map vA).map Rr.fr) Z:=λZ=>by
  unfold cq;cases take1 (.rf i) Z with
  |none=>rfl
  |some p=>dsimp only;rw[pF _ _ A,pF _ _ n];rw[show ((rs.map vA).map Rr.fr).map vA=rs.map vA by rw[Q6];exact WG _]
 have e2:∀S ss Z,putL S (.rf i::rs) ss Z=putL S (.rf i::(rs.map vA).map Rr.fr) ss Z:=λS ss Z=>by
  cases ss with
  |nil=>rfl
  |cons s ss=>
   unfold putL;have key:∀(rs ts:List Rr)(ss:List Sl),rs.length=ts.length->rs.all Fj=true->ts.all Fj=true->putL S rs ss Z=putL S ts ss Z:=by
    intro rs;induction rs with
    |nil=>intro ts ss hl _ _;cases ts with
     |nil=>rfl
     |cons t ts=>cases hl
    |cons r rs m=>intro ts ss hl h1 h2;cases ts with
     |nil=>cases hl
     |cons t ts=>
      simp only[QV,Qq] at h1 h2;cases ss with
      |nil=>rfl
      |cons s ss=>
       unfold putL;rw[m ts ss (V1 hl) h1.2 h2.2];cases putL S ts ss Z with
       |none=>rfl
       |some U=>
        cases r with
        |rf i=>cases h1.1
        |fr a=>cases t with
         |rf i=>cases h2.1
         |fr a=>rfl
         |nw a=>rfl
        |nw a=>cases t with
         |rf i=>cases h2.1
         |fr a=>rfl
         |nw a=>rfl
   rw[key rs ((rs.map vA).map Rr.fr) ss Z4 A n]
 unfold fk;simp only[Ti,Rx,e,e2]
theorem hY:∀(n:Nat){Z:List Sl},Z.all np=true->ax n Z=QD n .un
 |0,_,_=>rfl
 |n+1,[],_=>by rw[ax,hY n rfl];rfl
 |n+1,s::Z,h=>by
  simp only[QV,Qq] at h;cases s with
  |pv o=>cases h.1
  |un=>rw[ax,hY n h.2];rfl;intro o z;cases z
  |fr a=>rw[ax,hY n h.2];rfl;intro o z;cases z
  |lv a=>rw[ax,hY n h.2];rfl;intro o z;cases z
  |cf a=>rw[ax,hY n h.2];rfl;intro o z;cases z
theorem DF(n:Nat):(QD n Sl.un).all xO=true:=by rw[RT];intro x hx;rw[SI hx];rfl
theorem mr{f:Ms}{c:Str}{fs:List (Str×A)}{ls:List (Str×List A)}{as:List A}{a:A}(h:fc f ((LO.nob c fs ls).a::as) a)(hp:pl a=true):cD (bF 0 f) (.nob c fs ls) as (.fr a) (.nob c fs ls):=by
 obtain⟨Z,h1,h2⟩:=h;refine⟨(QD as.length .un),?_⟩;show (match f (.fr (LO.nob c fs ls).a::as.map Sl.fr) with
  |some (.rt s,U)=>if AY (ax (as.map Sl.fr).length.succ U)[0]?&&(s::ax (as.map Sl.fr).length.succ U).all xO then some (Fl.rt s,(ax (as.map Sl.fr).length.succ U).set 0 (.pv (.nob c fs ls))) else none
  |some (.ex x,U)=>_
  | _=>none)=_
 rw[show f (.fr (LO.nob c fs ls).a::as.map Sl.fr)=some (.rt (.fr a),Z) from h1];dsimp only;rw[hY _ h2,Qt];have e:(AY (QD as.length.succ Sl.un)[0]?&&(Sl.fr a::QD as.length.succ Sl.un).all xO)=true:=by rw[Qq,QV,DF];exact⟨rfl,by rw[SH];exact hp⟩
 rw[YY e];rfl
theorem z8{f:Ms}{c:Str}{fs:List (Str×A)}{ls:List (Str×List A)}{as:List A}{s:Sl}(h:cD f (.nob c fs ls) as s o):cD f (.nob c fs ls) as s o:=h
theorem BF{f:Ms}{I:List A}{ms:Mi (List Rr)}(h:ms Z=some (.ok rs,U))(c:fk f I rs U=none):a7 f I ms Z=none:=bk h c
theorem BQ(n:Nat)(s:Int)(v:Nat->Int):pl (nS n s v)=true:=by
 show Ds ((QK n).map λj=>nm (dz (v j) s))=true;generalize QK n=l;induction l with
 |nil=>rfl
 |cons x l m=>show (pl (nm (dz (v x) s))&&Ds _)=true;rw[m];rfl
theorem IF:∀n,n<=6->Sx.Er (n+2)*(10^13)^(n+2)<2^400:=by decide +kernel
section
variable{c:List Int}{R:List (List Int)}{L:List Int}(fF:mR c R L){N:Nat}{b:Sx.Bo}
include fF
theorem KJ:(bG c R L).Le (10^13):=⟨by decide,λj a=>fF.bc _ (cU a),λi j hi a=>by have m:=Sx.getD_mem hi;exact fF.br _ m _ (cU (by rw[fF.r _ m];exact a)),λi hi=>fF.bl _ (cU (by rw[fF.l];exact hi))⟩
theorem qJ(h:Sx.Ok (bG c R L) N b):Gd (bG c R L) N b:=by
 have hN:N=c.length\/N=c.length+1:=h.hN;have hn:=fF.n;have hm:=fF.m;have k:=IF c.length hn;refine⟨h,h.sh,by lia,Q4 hn Z2,hm,λr S x hx=>?_,RL (h.Ob (KJ fF)) k,h.pos⟩;obtain⟨i,hi,rfl⟩:=RF S;obtain⟨l,hl,rfl⟩:=RF hx;have p:i<=R.length:=by have:=h.sh.g;show i<=(bG c R L).m;lia
 have Z:l<=N:=by have:=h.sh.r _ S;lia
 have e:b.Gq i l=b.g[i][l]:=by simp[Sx.Bo.Gq,QX,hi,hl]
 have:=h.Ot (KJ fF) p Z;simp only[e] at this;exact RL this k
end
theorem zm{P:Sx.Pb}{b:Sx.Bo}(h:Gd P N b)(hc:c<=N)(u:Int):L2.Bd 900 (Sx.vl P b c u):=by
 have hm:=h.bb.hm;have z:L2.Bd 400 (0:Int):=Ta Z2;have h1:L2.Bd 410 (Sx.su P.m λi=>if b.Bq i=u then Sx.qs P.n c*b.Gq i c else 0):=FH (λi hi=>by
  by_cases e:b.Bq i=u
  .rw[YY e];have:=h.bb.gb (i:=i) (by exact QJ ‹_›) hc;unfold Sx.qs;split
   .rw[RW];exact this.neg
   .rw[RI];exact this
  .rw[YZ e];exact z) Z5
 refine(L2.Bd.add h1 (?_:L2.Bd 400 _)).mono (show max 410 400+1<=900 by decide);split
 .exact h.bb.bs
 .exact z
theorem FJ{P:Sx.Pb}{b:Sx.Bo}(h:Gd P N b){r:Nat}(S:r<=P.m)(u:Int):L2.Bd 900 (Sx.Fc N b r u):=by
 have hN:=h.bb.hN;refine L2.Bd.mono (FH (b:=400) (λl hl=>?_) Z5) Z2;by_cases e:b.Aq l=u
 .rw[YY e];exact h.bb.gb S (by exact QJ ‹_›)
 .rw[YZ e];exact Ta Z2
theorem kZ:∀k,(Sx.allB k).length=2^k
 |0=>rfl
 |k+1=>by show ((Sx.allB k).map _++(Sx.allB k).map _).length=_;simp only[QO,Qt,Qt,kZ k,WS];lia
theorem Ho{P:Sx.Pb}(hn:P.n<=9)(hm:P.m<=9)(K:Sx.Bo->Prop)(ob:Sx.Bo->Nat->Int)(b:Sx.Bo):Sx.ms P K ob b<BY:=by refine RL Vx ?_;rw[kZ];exact Nat.pow_lt_pow_right Z2 Q1
abbrev HG(n m:Nat)(b:Sx.Bo)(F P h:Sl):List Sl:=[.pv (bO n m b),F,P,h]
abbrev zt:Mi Rr:=aQ (aN ["Board"] 0 "grid") AC
abbrev Pm:Mi Rr:=aQ (aN ["Board"] 0 "scale") At
abbrev Nz:Mi Rr:=aQ (bu bC (cO (aS "Board" "point" 0))) (aQ (a7 (bF 0 bC) [] (cO (aS "Board" "point" 0))) (bu bC (cO (bM "Board" "point" (ab 0)))))
abbrev MU(e:Mi Rr):Mi Rr:=aQ (bu aX (cF (aS "Board" "prices" 0) e)) (aQ (a7 (bF 0 aX) [] (cF (aS "Board" "prices" 0) e)) (bu aX (cF (bM "Board" "prices" (ab 0)) e)))
abbrev Pl:Mi Rr:=aQ (bu cT (cF (aS "Board" "way" 0) (ai 1))) (aQ (a7 (bF 0 cT) [] (cF (aS "Board" "way" 0) (ai 1))) (bu cT (cF (bM "Board" "way" (ab 0)) (ai 1))))
section
variable{P:Sx.Pb}{N:Nat}{b:Sx.Bo}{xs:List Sl}
theorem GF(n m:Nat):zt (.pv (bO n m b)::xs)=some (.ok (.fr (gI b.g)),.pv (bO n m b)::xs):=bP rfl
theorem oU{n m:Nat}(h:Bb n m N b):mix zt (aK aY (aC 1)) (.pv (bO n m b)::xs)=some (.ok (.fr (lI (b.g.getD m []))),.pv (bO n m b)::xs):=ag (GF n m) rfl (bx (.inl rfl) (vH h.sh.g))
theorem OS(h:Gd P P.n b):Nz (.pv (bO P.n P.m b)::xs)=some (.ok (.fr (nS P.n b.s λj=>Sx.vl P b P.n j)),.pv (bO P.n P.m b)::xs):=
 kT rfl (bP (aA rfl (cE (mr (as:=[]) (Dn h) (BQ _ _ _)) rfl rfl)))
theorem OA(h:Gd P P.n b)(hc:c<P.n){ys:List Sl}:Pl (.pv (bO P.n P.m b)::.fr (.int c)::ys)=some (.ok (.fr (nS P.n b.s λj=>Sx.vl P b c j)),.pv (bO P.n P.m b)::.fr (.int c)::ys):=
 kT rfl (bP (aA rfl (cE (mr (as:=[.int c]) (MR h hc) (BQ _ _ _)) rfl rfl)))
theorem Kp(h:Gd P N b)(y:N<=ts.length)(he:e (.pv (bO P.n P.m b)::xs)=some (.ok r,.pv (bO P.n P.m b)::xs))(S:Fj r=true)(A:vA r=lI ts):MU e (.pv (bO P.n P.m b)::xs)=some (.ok (.fr (nS P.m b.s λk=>Sx.su N λl=>if b.Aq l=((P.n+k:Nat):Int) then ts.getD l 0 else 0)),.pv (bO P.n P.m b)::xs):=by
 have c:cD (bF 0 aX) (bO P.n P.m b) [lI ts] (.fr (nS P.m b.s λk=>Sx.su N λl=>if b.Aq l=((P.n+k:Nat):Int) then ts.getD l 0 else 0)) (bO P.n P.m b):=mr (L9 h y) (BQ _ _ _);have hc:=qT (i:=0) (Z:=.pv (bO P.n P.m b)::xs) (by simp only[QV,S];rfl) (show cD _ _ ([r].map vA) _ _ by rw[Rf,A];exact c) rfl rfl;refine kT (BF (ae rfl (ae he rfl)) ?_) (bP (aA (ae rfl (ae he rfl)) hc));cases r with
 |rf i=>cases S
 |fr a=>rfl
 |nw o=>rfl
end
theorem uk{n m:Nat}{b:Sx.Bo}(h:Bb n m N b)(J:gs.length<=N)(bg:∀x∈gs,L2.Bd 400 x){xs:List Sl}(he:e (.pv (bO n m b)::xs)=some (.ok r,.pv (bO n m b)::xs))(S:Fj r=true)(A:vA r=lI gs):
  ∃f,a7 (bF 0 bK) [] (cF (ab 0) e) (.pv (bO n m b)::xs)=some (.ok (.fr f),.pv (bO n m b)::xs)/\((f=.non/\∀j,j<gs.length->gs.getD j 0<=0)\/∃k:Nat,f=.int k/\k<gs.length/\0<gs.getD k 0):=by
 obtain⟨f,v,z⟩:=F7 h J bg;have hp:pl f=true:=by rcases z with ⟨rfl,_⟩|⟨k,rfl,_⟩<;>rfl
 have c:cD (bF 0 bK) (bO n m b) [lI gs] (.fr f) (bO n m b):=z8 (mr (as:=[lI gs]) v hp);exact⟨f,aA (rs:=[.rf 0,r]) (ae rfl (ae he rfl)) (qT (rs:=[r]) (by rw[QV,S];rfl) (show cD _ _ ([r].map vA) _ _ by rw[Rf,A];exact c) rfl rfl),z⟩
theorem uM{P:Sx.Pb}{b:Sx.Bo}(h:Gd P N b)(hc:c<N){xs:List Sl}(a:(.pv (bO P.n P.m b)::xs)[j]?=some (.fr (.int c))):
  ∃f:Option Nat,a7 (bF 0 a8) [] (cF (ab 0) (ai j)) (.pv (bO P.n P.m b)::xs)=some (.ok (.fr (oA f)),.pv (bO P.n P.m b)::xs)/\Sx.oI P N b c P.m f:=by
 obtain⟨f,v,z⟩:=v7 h hc;have hp:pl (oA f)=true:=by cases f<;>rfl
 have A:cD (bF 0 a8) (bO P.n P.m b) [.int c] (.fr (oA f)) (bO P.n P.m b):=z8 (mr v hp);exact⟨f,aA (ae rfl (ae (DX a) rfl)) (cE (as:=[.int c]) A rfl rfl),z⟩
theorem AN{r:List Int}(h:j<r.length):(Sx.fH r).getD j 0 =-r.getD j 0:=Sx.getD_map h
theorem yX{r:List Int}{k:Nat}(h:j<k):(r.take k).getD j 0=r.getD j 0:=by simp[QX,h]
abbrev Nt:Ms:=av (aG 1 (a7 (bF 0 bK) [] (cF (ab 0) (bu aR (cO (kA (cB (mix zt (aK aY (aC 1))) aE B'))))))) (av (ip (ay (aB (qj false) (ab 1) (mC .non))) (av (aG 2 (bu cA (cF (mix (mix zt (aK aY (aC 1))) (aK aY (aC 1))) Pm))) (bW (gF (DH (mC (.str "best")) (ab 2) Nz (MU (mix zt (aK aY (aC 1)))))))) bV) (av (aG 3 (a7 (bF 0 a8) [] (cF (ab 0) (ai 1)))) (av (ip (ay (aB (qj false) (ab 3) (mC .non))) (bW (gF (fW (mC (.str "open")) Nz Pl))) bV) (cH (aQ (bu aF (fW (aS "Board" "turn" 0) (ai 3) (ai 1))) (aQ (a7 (bF 0 aF) [] (fW (aS "Board" "turn" 0) (ai 3) (ai 1))) (bu aF (fW (bM "Board" "turn" (ab 0)) (ai 3) (ai 1)))))))))
variable{x1 x2 x3:Sl}
section
variable{c:List Int}{R:List (List Int)}{L:List Int}(fF:mR c R L)
include fF
theorem B6{b:Sx.Bo}(K:Sx.K2 (bG c R L) b)(h1:np x1=true)(h2:np x2=true)(h3:np x3=true):Wp Nt (HG c.length R.length b x1 x2 x3) λg Z=>
  (g=.nx/\∃r x1 x2 x3,Z=HG c.length R.length r x1 x2 x3/\(np x1=true/\np x2=true/\np x3=true)/\Sx.K2 (bG c R L) r/\Sx.ms (bG c R L) (Sx.K2 (bG c R L)) (Sx.Lm (bG c R L)) r<Sx.ms (bG c R L) (Sx.K2 (bG c R L)) (Sx.Lm (bG c R L)) b) \/
  ∃t r xs,g=.rt (.fr t)/\Told c R L t/\Z=.pv (bO c.length R.length r)::xs:=by
 have ok:=K.1;have gd:=qJ fF ok;have bb:Bb c.length R.length c.length b:=gd.bb;have hn:=fF.n;have e:(b.g.getD R.length []).length=c.length+1:=bb.sh.row (QB _);have gs:∀xs:List Sl,bu aR (cO (kA (cB (mix zt (aK aY (aC 1))) aE B'))) (.pv (bO c.length R.length b)::xs)=some (.ok (.nw (.lst ((Sx.fH ((b.g.getD R.length []).take c.length)).map A.int))),.pv (bO c.length R.length b)::xs):=λxs=>by refine aA (rs:=[.fr (lI ((b.g.getD R.length []).take c.length))]) (ae (ka (g8 (oU bb) (n:=c.length) (by simpa using e)) ?_) rfl) (jv (yV (by rw[Rt,e];lia)) _);rw[<-Sk];rfl
 have gl:(Sx.fH ((b.g.getD R.length []).take c.length)).length=c.length:=by simp only[Sx.fH,Qt,Rt,e];simp
 have h:∀j,j<c.length->(Sx.fH ((b.g.getD R.length []).take c.length)).getD j 0 =-b.Gq R.length j:=λj D=>by rw[AN (by rw[Rt,e];lia),yX D];rfl
 obtain⟨v,U,p⟩:=uk bb (gs:=Sx.fH ((b.g.getD R.length []).take c.length)) Q1 (λx hx=>by obtain⟨y,hy,rfl⟩:=Q2.mp hx;exact(bb.bg _ (Sx.getD_mem (by rw[bb.sh.g];lia)) y (RU hy)).neg) (gs [x1,x2,x3]) rfl rfl
 refine Wp.st (aW U rfl rfl h1 rfl) ?_;rw[gl] at p;have ne:b.s≠0:=by have:=bb.pos;lia
 have F:L2.Bd 900 b.s:=bb.bs.mono Z2;have kp:=ok.keeps K.2;have z:∀xs:List Sl,Nz (.pv (bO c.length R.length b)::xs)=some (.ok (.fr (nS c.length b.s λj=>Sx.vl (bG c R L) b c.length j)),.pv (bO c.length R.length b)::xs):=λxs=>OS (P:=bG c R L) gd;have q:∀xs:List Sl,MU (mix zt (aK aY (aC 1))) (.pv (bO c.length R.length b)::xs)=some (.ok (.fr (nS R.length b.s λk=>Sx.Fc c.length b R.length ((c.length+k:Nat):Int))),.pv (bO c.length R.length b)::xs):=λxs=>Kp (P:=bG c R L) gd (ts:=b.g.getD R.length []) (by rw[e];show c.length<=_;lia) (oU bb) rfl rfl;rcases p with ⟨rfl,p⟩|⟨k,rfl,hk,p⟩
 .obtain⟨C,T,O,o⟩:=Sx.AM ok λl hl=>by have hl:l<c.length:=hl;have:=p l hl;rw[h l hl] at this;show 0<=b.Gq R.length l;lia
  have s2:∀x2,np x2=true->aG 2 (bu cA (cF (mix (mix zt (aK aY (aC 1))) (aK aY (aC 1))) Pm)) (HG c.length R.length b (.fr .non) x2 x3)=some (.nx,HG c.length R.length b (.fr .non) (.fr (nm (dz (b.Gq R.length c.length) b.s))) x3):=λx2 h2=>aW (aA (ae (ag (oU bb) rfl (bx (.inl rfl) (kQ e))) (ae (bP rfl) rfl)) (ck (yZ ne (bb.bs.mono Z2)) _)) rfl rfl h2 rfl
  refine Wp.sr (eM rfl (dN (s2 _ h2) (aV (fP (ae rfl (ae rfl (ae (z _) (ae (q _) rfl)))) rfl) rfl))) (.inr ⟨_,b,_,rfl,?_,rfl⟩);refine Told.best bb.pos F (λj D=>zm gd (QB _) _) (λk hk=>FJ gd (QB _) _) ((bb.gb (QB _) (QB _)).mono Z2) kp.nn (λk _=>T k) (λi hi=>by rw[Rh];exact kp.le i hi) (λj D=>?_) C ?_
  .rw[Rh];refine T6 (O j D) (UQ (Sx.ba λk _=>Rh _ _))
  .exact WE (Sx.ba λk _=>Rh _ _) o
 .rw[h k hk] at p;obtain⟨w,N,d⟩:=uM gd (c:=k) hk (xs:=[.fr (.int k),x2,x3]) (j:=1) rfl;refine Wp.st (cY rfl rfl) (Wp.st (aW N rfl rfl h3 rfl) ?_);cases w with
  |none=>obtain⟨V,o2⟩:=Sx.Az ok hk (show b.Gq R.length k<0 by lia) d;refine Wp.sr (eM rfl (aV (fP (ae rfl (ae (z _) (ae (OA (P:=bG c R L) gd hk) rfl))) rfl) rfl)) (.inr ⟨_,b,_,rfl,?_,rfl⟩);exact Told.opn bb.pos F (λj D=>zm gd (QB _) _) (λj D=>zm gd (QJ hk) _) kp.nn V.nn (λi hi=>by rw[Rh];exact kp.le i hi) (λi hi=>by have:=V.le i hi;rwa[show ({ bG c R L with L:=λ_=>0 }:Sx.Pb).L i=0 from rfl,Q9] at this) o2
  |some a=>obtain⟨f,hp,hl⟩:=d;obtain⟨H,lt⟩:=Sx.Ga K f hk hp (show b.Gq R.length k<0 by lia) hl;have S:=cE (i:=0) (Z:=HG c.length R.length b (.fr (.int k)) x2 (.fr (.int a))) (tm bb (a:=a) (c:=k) f hk) rfl rfl;refine Wp.st (cY rfl rfl) (Wp.en (dy (bP (aA (rs:=[.rf 0,.fr (.int a),.fr (.int k)]) rfl S))) (.inl ⟨rfl,b.turn a k,.fr (.int k),x2,.fr (.int a),rfl,⟨rfl,h2,rfl⟩,H,lt⟩))
theorem wX{b:Sx.Bo}(K:Sx.K2 (bG c R L) b):∃t r,cD hJ (bO c.length R.length b) [] (.fr t) (bO c.length R.length r)/\Told c R L t:=by
 suffices ∃s o',cD hJ (bO c.length R.length b) [] s o'/\∃t r,s=.fr t/\o'=bO c.length R.length r/\Told c R L t by obtain⟨s,o',v,t,r,rfl,rfl,h⟩:=this;exact⟨t,r,v,h⟩
 obtain⟨g,B,e,t,r,xs,rfl,l,rfl⟩:=iP (t:=ay (mC (.bl true)))
  (λk Z=>∃r x1 x2 x3,Z=HG c.length R.length r x1 x2 x3/\(np x1=true/\np x2=true/\np x3=true)/\Sx.K2 (bG c R L) r/\k=Sx.ms (bG c R L) (Sx.K2 (bG c R L)) (Sx.Lm (bG c R L)) r)
  (λg Z=>∃t r xs,g=.rt (.fr t)/\Told c R L t/\Z=.pv (bO c.length R.length r)::xs) (by
   rintro k Z ⟨b1,x1,x2,x3,rfl,⟨h1,h2,h3⟩,K1,rfl⟩;refine .inr ⟨_,rfl,Wp.mono (B6 fF K1 h1 h2 h3) ?_⟩;rintro g Z' (⟨rfl,b2,C,i,x,rfl,hy,K2,lt⟩|⟨t,b2,ys,rfl,l,rfl⟩)
   .exact .inl ⟨rfl,_,lt,b2,C,i,x,rfl,hy,K2,rfl⟩
   .exact .inr ⟨_,(),rfl,t,b2,ys,rfl,l,rfl⟩) BY _ (HG c.length R.length b .un .un .un) ⟨b,_,_,_,rfl,⟨rfl,rfl,rfl⟩,K,rfl⟩ (Ho (Q4 fF.n Z2) fF.m _ _ _)
 exact cD.of (Wp.df (Wp.en (vS e) ⟨_,_,xs,rfl,rfl,t,r,rfl,rfl,l⟩))
end
theorem A2(P:Sx.Pb):wq P.n P.m (Sx.fB P)=Sx.bT P:=by
 delta wq Sx.fB Sx.bT
 have h:((QK P.m).map λi=>((QK P.n).map λj=>P.R i j)++[P.L i]).length=P.m:=by simp
 congr 1
 rw[Tf h,Sx.cW Z4,h,SD,Q6]
 congr 1
 .refine Rp λi _=>?_
  show Xn P.n (_++_)++[-1]++V3 P.n (_++_)=_
  rw[Tf Z4,Wg Z4,Qw];rfl
 .show [Xn P.n (_++_)++[0]++V3 P.n (_++_)]=_
  rw[Tf Z4,Wg Z4,Qw];rfl
abbrev mO(n m:Nat)(b:Sx.Bo)(x1 x2:Sl):List Sl:=[.pv (bO n m b),x1,x2]
abbrev OH:Mi Bool:=ay (wK false ["Board"] 0 "down" (AS (SO 0)))
theorem L4{n m:Nat}{b:Sx.Bo}{t:Bool}(l:decide (-1∈b.dn)=t)(xs:List Sl):OH (.pv (bO n m b)::xs)=some (.ok t,.pv (bO n m b)::xs):=by
 refine aP ?_;have h1:(fm (.int (-1))&&(b.dn.map A.int).all fm)=true:=by rw[UI];simp[fm]
 have e:=qO (-1) b.dn;unfold JB at e;rw[YY h1,l] at e;refine WE (YY h1) ?_;exact Y2 (λo:Option Rr=>o.map λq=>(Rn q,Sl.pv (bO n m b)::xs)) e
abbrev Ph:Mi Rr:=fY ["Board"] 0 "down" (AS (SO 0))
theorem Oh{n m:Nat}{b:Sx.Bo}(h:-1∈b.dn)(xs:List Sl):Ph (.pv (bO n m b)::xs)=some (.ok (.fr (.int (Sx.cg b))),.pv (bO n m b)::xs):=by show (match eu (b.dn.map A.int) with|some ns=>(match t5 ns (-1) with|some j=>some (Rn (Rr.fr (.int j)),_)|none=>none)|none=>none)=_;rw[fI];dsimp only;rw[pM h];rfl
abbrev OF:Ms:=av (aG 1 (mix zt Ph)) (av (aG 2 (a7 (bF 0 bK) [] (cF (ab 0) (kA (cB (ab 1) aE B'))))) (av (ip (ay (aB (qj false) (ab 2) (mC .non))) (bW (MU (bu aR (cO (ai 1))))) bV) (cH (aQ (bu aF (fW (aS "Board" "turn" 0) (a7 (bF 0 a8) [] (cF (ab 0) (ai 2))) (ai 2))) (aQ (a7 (bF 0 aF) [] (fW (aS "Board" "turn" 0) (a7 (bF 0 a8) [] (cF (ab 0) (ai 2))) (ai 2))) (bu aF (fW (bM "Board" "turn" (ab 0)) (a7 (bF 0 a8) [] (cF (ab 0) (ai 2))) (ai 2))))))))
def Kf(P:Sx.Pb)(b:Sx.Bo):Prop:=Sx.Ok P (P.n+1) b/\Sx.Lp P (P.n+1) b
section
variable{c:List Int}{R:List (List Int)}{L:List Int}(fF:mR c R L)
include fF
theorem CF{b:Sx.Bo}(K:Sx.K1 (bG c R L) b)(h1:np x1=true)(h2:np x2=true):Wp OF (mO c.length R.length b x1 x2) λg Z=>
  (g=.nx/\∃S x1 x2,Z=mO c.length R.length S x1 x2/\(np x1=true/\np x2=true)/\((Sx.K1 (bG c R L) S/\Sx.ms (bG c R L) (Sx.K1 (bG c R L)) (Sx.G7 (bG c R L)) S<Sx.ms (bG c R L) (Sx.K1 (bG c R L)) (Sx.G7 (bG c R L)) b)\/(Kf (bG c R L) S /\ -1∉S.dn))) \/
  ∃a S xs,g=.rt (.fr a)/\Told c R L (.tup [.str "none",a])/\a≠.non/\Z=.pv (bO c.length R.length S)::xs:=by
 have ok:=K.1;have gd:=qJ fF ok;have bb:Bb c.length R.length (c.length+1) b:=gd.bb;have hn:=fF.n;have hl:Sx.cg b<R.length:=Sx.gY K;have C:=Sx.iS K;have h:(b.g.getD (Sx.cg b) []).length=c.length+1+1:=bb.sh.row (QJ hl);refine Wp.st (U:=mO c.length R.length b (.fr (lI (b.g.getD (Sx.cg b) []))) x2) (aW (ag (GF _ _) (Oh K.2.2 _) (bx (.inl rfl) (uv (by rw[bb.sh.g];lia)))) rfl rfl h1 rfl) ?_;have gl:((b.g.getD (Sx.cg b) []).take (c.length+1)).length=c.length+1:=by simp only[Rt,h];simp
 have E:kA (cB (ab 1) aE B') (.pv (bO c.length R.length b)::[.fr (lI (b.g.getD (Sx.cg b) [])),x2])=some (.ok (.fr (lI ((b.g.getD (Sx.cg b) []).take (c.length+1)))),.pv (bO c.length R.length b)::[.fr (lI (b.g.getD (Sx.cg b) [])),x2]):=by refine ka (g8 rfl (n:=c.length+1) (by simpa using h)) ?_;rw[<-Sk];rfl
 obtain⟨v,Q,p⟩:=uk bb (gs:=(b.g.getD (Sx.cg b) []).take (c.length+1)) Q1 (λx hx=>bb.bg _ (Sx.getD_mem (by rw[bb.sh.g];lia)) x (RU hx)) E rfl rfl;rw[gl] at p;have o:∀j,j<c.length+1->((b.g.getD (Sx.cg b) []).take (c.length+1)).getD j 0=b.Gq (Sx.cg b) j:=λj D=>by rw[yX D];rfl
 refine Wp.st (aW Q rfl rfl h2 rfl) ?_;rcases p with ⟨rfl,p⟩|⟨k,rfl,hk,p⟩
 .obtain⟨I,T,B⟩:=Sx.yi ok K.2.1 (r:=Sx.cg b) hl C λl H=>by have:=p l H;rwa[o l H] at this
  have en:bu aR (cO (ai 1)) (.pv (bO c.length R.length b)::[.fr (lI (b.g.getD (Sx.cg b) [])),.fr .non])=some (.ok (.nw (.lst ((Sx.fH (b.g.getD (Sx.cg b) [])).map A.int))),.pv (bO c.length R.length b)::[.fr (lI (b.g.getD (Sx.cg b) [])),.fr .non]):=aA (rs:=[.fr (lI (b.g.getD (Sx.cg b) []))]) rfl (jv (yV Q1) _);have w:MU (bu aR (cO (ai 1))) (.pv (bO c.length R.length b)::[.fr (lI (b.g.getD (Sx.cg b) [])),.fr .non])=some (.ok (.fr (nS R.length b.s λk=>Sx.su (c.length+1) λl=>if b.Aq l=((c.length+k:Nat):Int) then (Sx.fH (b.g.getD (Sx.cg b) [])).getD l 0 else 0)),.pv (bO c.length R.length b)::[.fr (lI (b.g.getD (Sx.cg b) [])),.fr .non]):=Kp (P:=bG c R L) gd (ts:=Sx.fH (b.g.getD (Sx.cg b) [])) (by show c.length+1<=_;rw[Sx.fH,Qt,h];lia) en rfl rfl;have eq:∀k:Nat,(Sx.su (c.length+1) λl=>if b.Aq l=((c.length+k:Nat):Int) then (Sx.fH (b.g.getD (Sx.cg b) [])).getD l 0 else 0) =-Sx.Fc (c.length+1) b (Sx.cg b) ((c.length+k:Nat):Int):=λk=>by
   unfold Sx.Fc;rw[<-RW,<-Sx.cw];refine Sx.ba λl hl=>?_;rw[AN Q1];split
   .rw[RW];rfl
   .rfl
  simp only[eq] at w;refine Wp.sr (eM rfl (aV w rfl)) (.inr ⟨_,b,_,rfl,?_,(λz=>nomatch z),rfl⟩);refine Told.non bb.pos (bb.bs.mono Z2) (λk hk=>(FJ gd (QJ hl) _).neg) (λk _=>I k) (λj D=>?_) ?_
  .exact T6 (T j D) (UQ (Sx.ba λk _=>Rh _ _))
  .exact Int.lt_of_le_of_lt (UQ (Sx.ba λk _=>Rh _ _)) B
 .rw[o k hk] at p;obtain⟨u,N,d⟩:=uM gd (c:=k) hk (xs:=[.fr (lI (b.g.getD (Sx.cg b) [])),.fr (.int k)]) (j:=2) rfl;cases u with
  |none=>have:=d (Sx.cg b) hl;lia
  |some a=>
   obtain⟨f,hp,q⟩:=d;have G:=cE (i:=0) (Z:=mO c.length R.length b (.fr (lI (b.g.getD (Sx.cg b) []))) (.fr (.int k))) (tm bb (a:=a) (c:=k) f hk) rfl rfl;refine Wp.st (cY rfl rfl) (Wp.en (dy (bP (aA (rs:=[.rf 0,.fr (.int a),.fr (.int k)]) (ae rfl (ae N rfl)) G))) (.inl ⟨rfl,b.turn a k,_,_,rfl,⟨rfl,rfl⟩,?_⟩));by_cases e:a=Sx.cg b
   .refine .inr ⟨⟨ok.turn f hk Q1,Sx.Lp.turn ok K.2.1 f hk hp q⟩,λz=>?_⟩;have O:=ok.turn f hk (show b.Gq a k≠0 by lia);have m:-1∈(b.turn a k).ac:=by
     have X:(b.turn a k).Aq k = -1:=by rw[Sx.Bo.oH ok.sh hk];unfold Sx.qi;rw[YY rfl,e,C]
     rw[<-X];exact O.Am hk
    exact(QE.mp O.nd).2.2 _ m _ z rfl
   .obtain⟨Y,_,lt⟩:=Sx.JZ K f e hk hp p q;exact .inl ⟨Y,lt⟩
end
abbrev Pt(a c:Mi Rr):Mi Rr:=aQ (bu aF (fW (aS "Board" "turn" 0) a c)) (aQ (a7 (bF 0 aF) [] (fW (aS "Board" "turn" 0) a c)) (bu aF (fW (bM "Board" "turn" (ab 0)) a c)))
abbrev NI(f:Ms)(n:Str):Ms:=cH (aQ (bu f (cO (aS "Board" n 0))) (aQ (a7 (bF 0 f) [] (cO (aS "Board" n 0))) (bu f (cO (bM "Board" n (ab 0))))))
abbrev PL:Mi Rr:=bu dJ (cO (kA (aL 1 (bZ (cB zt aE B')) (aO 3) aH (mix (ab 3) (aK aY (aC 1))))))
theorem KD:dG=cK 2 (av (NI bp "put_helper") (av (cH (Pt PL (aB jW (jH ["Board"] 0 "across") (aC 1)))) (av (iU BY OH OF) (av (NI bf "drop_helper") (bW (mC .non)))))):=rfl
section
variable{c:List Int}{R:List (List Int)}{L:List Int}(fF:mR c R L)
include fF
theorem Ji(I:∃i,i<R.length/\L.getD i 0<0):∃s U,cD dG (bO c.length R.length (Sx.fB (bG c R L))) [] (.fr s) (bO c.length R.length U)/\((s=.non/\Sx.K2 (bG c R L) U)\/(s≠.non/\Told c R L (.tup [.str "none",s]))):=by
 have hn:=fF.n;have hm:=fF.m;have D:=qJ fF (Sx.yF (bG c R L));have T:=qJ fF (Sx.qd (bG c R L));have p:Bb c.length R.length (c.length+1) (Sx.bT (bG c R L)):=T.bb;have F:NI bp "put_helper" (mO c.length R.length (Sx.fB (bG c R L)) .un .un)=some (.nx,mO c.length R.length (Sx.bT (bG c R L)) .un .un):=by have e:=cE (as:=[]) (i:=0) (Z:=mO c.length R.length (Sx.fB (bG c R L)) .un .un) (MK (n:=c.length) (m:=R.length) (N:=c.length) D.bb) rfl rfl;have J:=A2 (bG c R L);have e2:wq c.length R.length (Sx.fB (bG c R L))=Sx.bT (bG c R L):=J;rw[e2] at e;exact dy (bP (aA (rs:=[.rf 0]) rfl e))
 have eG:∀i,i<R.length->(Sx.bT (bG c R L)).Gq i (c.length+1)=L.getD i 0:=λi hi=>by have:=Sx.gL (P:=bG c R L) (i:=i) (l:=c.length+1) (QJ hi) (QB _);rw[YY (show i<(bG c R L).m from hi),YZ (show ¬ c.length+1<(bG c R L).n by show ¬ c.length+1<c.length;simp),YZ (show c.length+1≠(bG c R L).n by show c.length+1≠c.length;lia)] at this;exact this
 obtain⟨Q,O,C⟩:=I;have hg:=p.sh.g;have ll:((((Sx.bT (bG c R L)).g.take R.length).map λ(r:List Int)=>r.getD (c.length+1) 0)).length=R.length:=by rw[Qt,Rt];lia
 obtain⟨a,va,f,q,j⟩:=II (ls:=((Sx.bT (bG c R L)).g.take R.length).map λ(r:List Int)=>r.getD (c.length+1) 0) Q1 Q1;rw[ll] at f q j;have lv:∀i,i<R.length->((((Sx.bT (bG c R L)).g.take R.length).map λ(r:List Int)=>r.getD (c.length+1) 0)).getD i 0=L.getD i 0:=λi hi=>by
  rw[Sx.getD_map (d:=[]) (by rw[Rt];lia),<-eG i hi];unfold Sx.Bo.Gq
  congr 1
  simp only[QX,TJ hi]
 have ex:=bB (e:=mix (ab 3) (aK aY (aC 1))) (ts:=(Sx.bT (bG c R L)).g.take R.length) (k:=lI) (S:=mO c.length R.length (Sx.bT (bG c R L)) .un .un) (λr=>.int (r.getD (c.length+1) 0)) rfl (by rw[Rt];lia) λr hr=>⟨_,ag rfl rfl (bx (.inl rfl) (kQ (p.sh.r r (RU hr)))),rfl⟩
 have ef:kA (aL 1 (bZ (cB zt aE B')) (aO 3) aH (mix (ab 3) (aK aY (aC 1)))) (mO c.length R.length (Sx.bT (bG c R L)) .un .un)=some (.ok (.fr (lI (((Sx.bT (bG c R L)).g.take R.length).map λ(r:List Int)=>r.getD (c.length+1) 0))),mO c.length R.length (Sx.bT (bG c R L)) .un .un):=by
  refine ka (bj (nG (g8 (GF _ _) (n:=R.length) (by simpa using hg)) (as:=((Sx.bT (bG c R L)).g.take R.length).map lI) ?_) ex) ?_
  .rw[<-Sk];rfl
  .unfold lI;rw[Q6];rfl
 have e2:aB jW (jH ["Board"] 0 "across") (aC 1) (mO c.length R.length (Sx.bT (bG c R L)) .un .un)=some (.ok (.fr (.int c.length)),mO c.length R.length (Sx.bT (bG c R L)) .un .un):=by
  refine ag (x:=.fr (.int (((Sx.bT (bG c R L)).ac.map A.int).length:Nat))) (y:=.fr (.int 1)) rfl rfl (fu (o:=none) rfl rfl ?_);show some (Rr.fr (.int ((((Sx.bT (bG c R L)).ac.map A.int).length:Int)-1)))=_;rw[Qt,p.sh.ac]
  congr 3;lia
 have et:=cE (i:=0) (Z:=mO c.length R.length (Sx.bT (bG c R L)) .un .un) (tm p (a:=a) (c:=c.length) f Q1) rfl rfl;have l2:cH (Pt PL (aB jW (jH ["Board"] 0 "across") (aC 1))) (mO c.length R.length (Sx.bT (bG c R L)) .un .un)=some (.nx,mO c.length R.length ((Sx.bT (bG c R L)).turn a c.length) .un .un):=
  dy (bP (aA (rs:=[.rf 0,.fr (.int a),.fr (.int c.length)]) (ae rfl (ae (aA (ae ef rfl) (ck va _)) (ae e2 rfl))) et))
 have w:L.getD a 0<0:=by have:=q Q O;rw[lv a f,lv Q O] at this;lia
 obtain⟨E,H⟩:=Sx.wY (P:=bG c R L) (a:=a) f w (λi hi=>by have:=q i hi;rwa[lv a f,lv i hi] at this) (λi hi h=>by have:=j i hi h;rwa[lv a f,lv i hi] at this);have m1:-1∈((Sx.bT (bG c R L)).turn a c.length).dn:=by
  have eB:((Sx.bT (bG c R L)).turn a c.length).Bq a = -1:=by rw[Sx.Bo.mF (Sx.qd (bG c R L)).sh f];unfold Sx.qi;rw[YY rfl,Sx.pH (show c.length<(bG c R L).n+1 from Rc _),YZ (show ¬ c.length<(bG c R L).n from QU _)]
  rw[<-eB];exact E.Bm f
 suffices ∃s o',cD dG (bO c.length R.length (Sx.fB (bG c R L))) [] s o'/\∃t U,s=.fr t/\o'=bO c.length R.length U/\((t=.non/\Sx.K2 (bG c R L) U)\/(t≠.non/\Told c R L (.tup [.str "none",t]))) by obtain⟨s,o',v,t,U,rfl,rfl,z⟩:=this;exact⟨t,U,v,z⟩
 rw[KD];refine cD.of (Wp.df (Wp.st F (Wp.st l2 ?_)));obtain⟨g,B,e,z⟩:=iP (t:=OH) (b:=OF)
  (λk Z=>∃U x1 x2,Z=mO c.length R.length U x1 x2/\(np x1=true/\np x2=true)/\((Sx.K1 (bG c R L) U/\k=Sx.ms (bG c R L) (Sx.K1 (bG c R L)) (Sx.G7 (bG c R L)) U+1)\/(Kf (bG c R L) U /\ -1∉U.dn/\k=0)))
  (λg Z=>(g=.nx/\∃U x1 x2,Z=mO c.length R.length U x1 x2/\Kf (bG c R L) U /\ -1∉U.dn)\/∃a U xs,g=.rt (.fr a)/\Told c R L (.tup [.str "none",a])/\a≠.non/\Z=.pv (bO c.length R.length U)::xs) (by
   rintro k Z ⟨b1,x1,x2,rfl,⟨h1,h2⟩,z⟩;rcases z with ⟨K,rfl⟩|⟨K,nm,rfl⟩
   .refine .inr ⟨_,L4 (Y1 K.2.2) _,Wp.mono (CF fF K h1 h2) ?_⟩;rintro g Z' (⟨rfl,b2,u,G,rfl,hy,z⟩|z)
    .rcases z with ⟨K2,lt⟩|⟨K2,nm⟩
     .exact .inl ⟨rfl,_,Nat.succ_lt_succ lt,b2,u,G,rfl,hy,.inl ⟨K2,rfl⟩⟩
     .exact .inl ⟨rfl,0,Ue _,b2,u,G,rfl,hy,.inr ⟨K2,nm,rfl⟩⟩
    .obtain⟨a,b2,ys,rfl,z⟩:=z;exact .inr ⟨_,(),rfl,.inr ⟨a,b2,ys,rfl,z⟩⟩
   .exact .inl ⟨_,L4 (Y0 nm) _,.inl ⟨rfl,b1,x1,x2,rfl,K,nm⟩⟩) BY _ (mO c.length R.length ((Sx.bT (bG c R L)).turn a c.length) .un .un) ⟨_,_,_,rfl,⟨rfl,rfl⟩,.inl ⟨⟨E,H,m1⟩,rfl⟩⟩ (by refine zj ?_;unfold Sx.ms;refine RL (TV Vx) ?_;rw[kZ];refine RL (TV (S7 Z2 (show (bG c R L).n+(bG c R L).m+1<=19 by show c.length+R.length+1<=19;lia))) ?_;decide +kernel)
 rcases z with ⟨rfl,b2,x1,x2,rfl,K,nm⟩|⟨t,b2,xs,rfl,ht,V,rfl⟩
 .have ok:=K.1;have gd:=qJ fF ok;have X:-1∈b2.ac:=by
   have:=(ok.nm (-1)).mpr (by rw[YZ (show (bG c R L).n+1≠(bG c R L).n by lia)];lia);rcases Qx.mp this with z|z
   .exact z
   .exact absurd z nm
  have hl:=RD X;have Y:b2.Aq (b2.ac.idxOf (-1)) = -1:=by simp only[Sx.Bo.Aq,QX,QP hl,SY];exact Uz hl
  rw[ok.sh.ac] at hl;have bb:Bb c.length R.length (c.length+1) b2:=gd.bb;have ed:=cE (as:=[]) (i:=0) (Z:=mO c.length R.length b2 x1 x2) (Jw bb X) rfl rfl;have l5:NI bf "drop_helper" (mO c.length R.length b2 x1 x2)=some (.nx,mO c.length R.length (b2.drop (b2.ac.idxOf (-1))) x1 x2):=dy (bP (aA (rs:=[.rf 0]) rfl ed));exact Wp.st (vS e) (Wp.st l5 (Wp.en (aV rfl rfl) ⟨_,_,[x1,x2],rfl,rfl,.non,b2.drop (b2.ac.idxOf (-1)),rfl,rfl,.inl ⟨rfl,Sx.Ea ok hl Y,Sx.Ek ok K.2 hl Y⟩⟩))
 .exact Wp.sr (vS e) ⟨_,_,xs,rfl,rfl,t,b2,rfl,rfl,.inr ⟨V,ht⟩⟩
end
theorem mZ:∀bs:List Bool,gS (bs.map A.bl)=some bs
 |[]=>rfl
 |b::bs=>by simp only[Rf,gS,mZ bs]
theorem FZ(ts:List T)(p:T->Bool):kf (λbs=>VA bs id) (.lst (ts.map λx=>.bl (p x)))=some (.fr (.bl (ts.any p))):=by
 have e:(ts.map λx=>A.bl (p x))=(ts.map p).map A.bl:=by rw[Q6];rfl
 unfold kf;dsimp only;rw[e,mZ];dsimp only;rw[Vr];rfl
theorem LQ{s:A}(h:s≠.non)(Z:List Sl):kG (qj true) (.fr s) (.fr .non) Z=some (.ok (.fr (.bl true)),Z):=by cases s<;>first|exact absurd rfl h|rfl
section
variable{c:List Int}{R:List (List Int)}{L:List Int}(fF:mR c R L)
include fF
abbrev Fw(c:List Int)(R:List (List Int))(L:List Int)(b:Sx.Bo)(D:Sl):List Sl:=[.fr (lI c),.fr (gI R),.fr (lI L),.lv (bO c.length R.length b),D]
theorem Be:∃t,Val rV [lI c,gI R,lI L] t/\Told c R L t:=by
 have hm:=fF.m;have hl:=fF.l;have H:aG 3 (m9 "Board" dD [] (fW (ai 0) (ai 1) (ai 2))) [.fr (lI c),.fr (gI R),.fr (lI L),.un,.un]=some (.nx,Fw c R L (Sx.fB (bG c R L)) .un):=aW (Du (ae rfl (ae rfl (ae rfl rfl))) (zK fF _)) rfl rfl rfl rfl;have ex:=bB (e:=aB mI (ab 5) (aC 0)) (ts:=L) (k:=A.int) (S:=Fw c R L (Sx.fB (bG c R L)) .un) (λx=>.bl (decide (x<0))) rfl Q1 λx hx=>⟨_,ag rfl rfl (ir rfl _),rfl⟩
 have an:∀t,L.any (λx=>decide (x<0))=t->ay (dg (kf λbs=>VA bs id) (aL 1 (bZ (ab 2)) (aO 5) aH (aB mI (ab 5) (aC 0)))) (Fw c R L (Sx.fB (bG c R L)) .un)=some (.ok t,Fw c R L (Sx.fB (bG c R L)) .un):=λt y=>by exact aP (gh (bj rfl ex) (rF rfl (by rw[FZ,y])))
 have fin:∀b D,Sx.K2 (bG c R L) b->np D=true->∃t,Wp (bW (bu hJ (cO (ab 3)))) (Fw c R L b D) (λg _=>g=.rt (.fr t))/\Told c R L t:=λb D K h4=>by obtain⟨t,r,v,y⟩:=wX fF K;exact⟨t,Wp.en (aV (aA rfl (cE v rfl rfl)) rfl) rfl,y⟩
 by_cases q:∃i,i<R.length/\L.getD i 0<0
 .have I:L.any (λx=>decide (x<0))=true:=by obtain⟨i,hi,h⟩:=q;exact V6.mpr ⟨_,cU (show i<L.length by lia),Y1 h⟩
  obtain⟨s,r,v,z⟩:=Ji fF q;have n:=cE (i:=3) (Z:=Fw c R L (Sx.fB (bG c R L)) .un) v rfl rfl;have O:aG 4 (bu dG (cO (ab 3))) (Fw c R L (Sx.fB (bG c R L)) .un)=some (.nx,Fw c R L r (.fr s)):=aW (aA rfl n) rfl rfl rfl rfl;rcases z with ⟨rfl,K⟩|⟨V,y⟩
  .obtain⟨t,w,y⟩:=fin r (.fr .non) K rfl;exact⟨t,Val.of (Wp.df (Wp.st H (Wp.st (eM (an true I) (dN O (cY rfl rfl))) (Wp.mono w λg _ e=>by rw[e])))),y⟩
  .exact⟨.tup [.str "none",s],Val.of (Wp.df (Wp.st H (Wp.sr (eM (an true I) (dN O (eM (aP (ag rfl rfl (LQ V _))) (aV (fP (ae rfl (ae rfl rfl)) rfl) rfl)))) rfl))),y⟩
 .have nn:=λi hi=>by
   by_cases z:0<=L.getD i 0
   .exact z
   .exact absurd ⟨i,hi,by lia⟩ q
  have I:L.any (λx=>decide (x<0))=false:=by rw[Tx];intro x hx;obtain⟨i,hi,rfl⟩:=RF hx;have:=nn i Q1;simp only[QX,QP hi,SY] at this;simp;exact this
  obtain⟨t,w,y⟩:=fin _ .un ⟨Sx.yF (bG c R L),Sx.He nn⟩ rfl;exact⟨t,Val.of (Wp.df (Wp.st H (Wp.st (cY (an false I) rfl) (Wp.mono w λg _ e=>by rw[e])))),y⟩
theorem DR:∃t,fc dk [lI c,gI R,lI L] t/\Told c R L t:=by
 have hn:=fF.n;have hm:=fF.m;obtain⟨t,v,y⟩:=Be fF;have lc:∀Z,dg cI (ab 0) (.fr (lI c)::Z)=some (.ok (.fr (.int c.length)),.fr (lI c)::Z):=λZ=>by show some (Rn (Rr.fr (.int (c.map A.int).length)),_)=_;rw[Qt]
 have h:dg cI (ab 1) [.fr (lI c),.fr (gI R),.fr (lI L)]=some (.ok (.fr (.int R.length)),[.fr (lI c),.fr (gI R),.fr (lI L)]):=by show some (Rn (Rr.fr (.int (R.map lI).length)),_)=_;rw[Qt]
 have z:dg cI (ab 2) [.fr (lI c),.fr (gI R),.fr (lI L)]=some (.ok (.fr (.int R.length)),[.fr (lI c),.fr (gI R),.fr (lI L)]):=by show some (Rn (Rr.fr (.int (L.map A.int).length)),_)=_;rw[Qt,fF.l]
 have ne:∀(i:Nat) Z,kG j6 (.fr (.int i)) (.fr (.int i)) Z=some (.ok (.fr (.bl false)),Z):=λi Z=>by
  have e:j6 (.int i) (.int i)=some (.fr (.bl false)):=by unfold j6;simp only[qc,Y1 rfl];rfl
  exact fu (o:=none) rfl rfl e
 have ex:=bB (e:=aB j6 (dg cI (ab 3)) (dg cI (ab 0))) (ts:=R) (k:=lI) (S:=[.fr (lI c),.fr (gI R),.fr (lI L)]) (λx=>.bl false) rfl Z5 λr X=>by
  have H:dg cI (ab 3) ([.fr (lI c),.fr (gI R),.fr (lI L)]++[.fr (lI r)])=some (.ok (.fr (.int c.length)),[.fr (lI c),.fr (gI R),.fr (lI L)]++[.fr (lI r)]):=by show some (Rn (Rr.fr (.int (r.map A.int).length)),_)=_;rw[Qt,fF.r r X]
  exact⟨_,ag H (lc _) (ne _ _),rfl⟩
 refine⟨t,fc.of (Wp.df (Wp.st (cY (yf (aP (ag (lc _) rfl (ke (b:=false) (Y0 Q1) _))) (aP (ag h rfl (ke (b:=false) (Y0 Q1) _)))) rfl) (Wp.st (cY (aP (ag z h (ne _ _))) rfl) (Wp.st (cY (aP (gh (bj rfl ex) (rF (r:=.fr (.bl false)) rfl ?_))) rfl) (Wp.en (aV (aA rfl (ck v _)) rfl) ⟨rfl,rfl⟩))))),y⟩;rw[FZ R λ_=>false,Tx.mpr Z4]
theorem tO:∃t,Val dk [lI c,gI R,lI L] t/\Told c R L t:=by obtain⟨t,v,h⟩:=DR fF;exact⟨t,v.v,h⟩
end
inductive Tk(c:List Int)(R:List (List Int))(L:List Int):A->Prop
 | best {s w:Int} {x y:Nat->Int} {a1 a2:A} (hs:0<s) (bs:L2.Bd 900 s) (bw:L2.Bd 900 w) (k:Sx.Keeps (bG c R L) s x) (v:(Sx.su c.length λj=>c.getD j 0*x j)=w) (y0:∀k,k<R.length->0<=y k)
  (cov:∀j,j<c.length->s*c.getD j 0<=Sx.su R.length λk=>y k*(R.getD k []).getD j 0) (e:(Sx.su R.length λk=>y k*L.getD k 0)=w):Tk c R L (.tup [.str "best",nm (dz w s),a1,a2])
 |opn{s:Int}{x z:Nat->Int}{a1 a2:A}(hs:0<s)(k:Sx.Keeps (bG c R L) s x)(kz:Sx.Keeps (bG c R L) 0 z)(pA:0<Sx.su c.length λj=>c.getD j 0*z j):Tk c R L (.tup [.str "open",a1,a2])
 |non{y:Nat->Int}{a1:A}(y0:∀k,k<R.length->0<=y k)(cov:∀j,j<c.length->0<=Sx.su R.length λk=>y k*(R.getD k []).getD j 0)(less:(Sx.su R.length λk=>y k*L.getD k 0)<0):Tk c R L (.tup [.str "none",a1])
variable{w w':Int}
section
variable{c c':List Int}{R R':List (List Int)}{L L':List Int}{t t':A}{q s:Int}{x y:Nat->Int}
theorem LZ(j:Nat):(Sx.su R.length λk=>(R.getD k []).getD j 0*y k)=Sx.su R.length λk=>y k*(R.getD k []).getD j 0:=Sx.ba λk _=>Rh _ _
theorem Md:(Sx.su R.length λk=>L.getD k 0*y k)=Sx.su R.length λk=>y k*L.getD k 0:=Sx.ba λk _=>Rh _ _
theorem yB(x0:∀j,j<c.length->0<=x j)(k:∀i,i<R.length->(Sx.su c.length λj=>(R.getD i []).getD j 0*x j)<=L.getD i 0*s):Sx.Keeps (bG c R L) s x:=⟨x0,λi hi=>by show _<=s*L.getD i 0;rw[Rh];exact k i hi⟩
theorem Tk.of(h:Told c R L t):Tk c R L t:=by
 cases h with
 |best hs bs hx hy bw x0 y0 keep cov e1 e2=>exact .best hs bs bw (yB x0 keep) e1 y0 (λj a=>by rw[<-LZ,Rh];exact cov j a) (by rw[<-Md];exact e2)
 |opn hs bs hx hz x0 z0 keep still pA=>exact .opn hs (yB x0 keep) (yB z0 λi hi=>by simp only[Q9];exact still i hi) pA
 |non hs bs hy y0 cov less=>exact .non y0 (λj a=>by rw[<-LZ];exact cov j a) (by rw[<-Md];exact less)
def Sm(c:List Int)(R:List (List Int))(L:List Int)(c':List Int)(R':List (List Int))(L':List Int)(q t:Int):Prop:=∀(s:Int)(x:Nat->Int),0<=s->Sx.Keeps (bG c R L) s x->∃v,Sx.Keeps (bG c' R' L') s v/\q*(Sx.su c.length λj=>c.getD j 0*x j)=t*Sx.su c'.length λj=>c'.getD j 0*v j
inductive Sw(q:Int):A->A->Prop
 |best{s w s' w':Int}{a1 a2 a3 a4:A}(hs:0<s)(hs':0<s')(bs:L2.Bd 900 s)(bw:L2.Bd 900 w)(bs':L2.Bd 900 s')(bw':L2.Bd 900 w')(e:w'*s=q*w*s'):Sw q (.tup [.str "best",nm (dz w s),a1,a2]) (.tup [.str "best",nm (dz w' s'),a3,a4])
 |opn{a1 a2 a3 a4:A}:Sw q (.tup [.str "open",a1,a2]) (.tup [.str "open",a3,a4])
 |non{a1 a2:A}:Sw q (.tup [.str "none",a1]) (.tup [.str "none",a2])
theorem Ei(k:Sx.Keeps (bG c R L) s x)(hs:0<s)(y0:∀k,k<R.length->0<=y k)(cov:∀j,j<c.length->0<=Sx.su R.length λk=>y k*(R.getD k []).getD j 0)(less:(Sx.su R.length λk=>y k*L.getD k 0)<0):False:=Sx.CZ k hs y0 cov less
theorem LY(k:Sx.Keeps (bG c R L) 0 x)(pA:0<Sx.su c.length λj=>c.getD j 0*x j)(hs:0<s)(y0:∀k,k<R.length->0<=y k)(cov:∀j,j<c.length->s*c.getD j 0<=Sx.su R.length λk=>y k*(R.getD k []).getD j 0):False:=
 Sx.B8 (P:=bG c R L) (t:=s) (s:=0) (x:=x) ⟨k.nn,λi hi=>by have:=k.le i hi;simp only[Si] at this;show _<=0*(0:Int);simp only[Si];exact this⟩ (Sg _) pA hs y0 cov
theorem w_eq(h1:s'*(q*w)<=s*w')(h2:s*w'<=q*(s'*w)):w'*s=q*w*s':=by
 have e1:q*(s'*w)=s'*(q*w):=by grind
 have e2:q*w*s'=s'*(q*w):=by grind
 simp only[e2,Rh w' s];exact Int.le_antisymm (e1▸h2) h1
theorem Sw.of(l:0<q)(h:Tk c R L t)(h':Tk c' R' L' t')(f:Sm c R L c' R' L' q 1)(g:Sm c' R' L' c R L 1 q):Sw q t t':=by
 cases h with
 |best hs bs bw k v y0 cov e=>
  cases h' with
  |best hs' bs' bw' U o i Z J=>refine .best hs hs' bs bw bs' bw' ?_;obtain⟨x1,G,e1⟩:=f _ _ (Rw hs) k;obtain⟨x2,D,e2⟩:=g _ _ (Rw hs') U;have a:=Sx.weak (P:=bG c' R' L') G i Z;have b:=Sx.weak (P:=bG c R L) D y0 cov;simp only[show (Sx.su (bG c' R' L').m λk=>_*(bG c' R' L').L k)=_ from J,show (Sx.su (bG c' R' L').n λj=>(bG c' R' L').c j*x1 j)=_ from ((RI _).symm.trans e1.symm),v] at a;rw[show (Sx.su (bG c R L).m λk=>_*(bG c R L).L k)=_ from e] at b;have b2:=S9 b (Rw l);have N:q*(Sx.su (bG c R L).n λj=>(bG c R L).c j*x2 j)=_:=(e2.symm.trans (RI _)).trans o;rw[<-Sa,Rh q,Sa,N] at b2;exact w_eq a b2
  |opn hs' U Q x=>obtain⟨x2,D,e2⟩:=g _ _ (Sg 0) Q;refine(LY D ?_ hs y0 cov).elim;rw[RI] at e2;rw[e2] at x;exact Int.lt_of_mul_lt_mul_left (show q*0<q*_ by rw[Q9];exact x) (Rw l)
  |non i Z r=>obtain⟨x1,G,e1⟩:=f _ _ (Rw hs) k;exact(Ei G hs i Z r).elim
 |opn hs k z pA=>
  cases h' with
  |best hs' bs' bw' U o i Z J=>obtain⟨x1,G,e1⟩:=f _ _ (Sg 0) z;refine(LY G ?_ hs' i Z).elim;simp only[RI] at e1;rw[<-e1];exact Up l pA
  |opn hs' U Q x=>exact .opn
  |non i Z r=>obtain⟨x1,G,e1⟩:=f _ _ (Rw hs) k;exact(Ei G hs i Z r).elim
 |non y0 cov less=>
  cases h' with
  |best hs' bs' bw' U o i Z J=>obtain⟨x2,D,e2⟩:=g _ _ (Rw hs') U;exact(Ei D hs' y0 cov less).elim
  |opn hs' U Q x=>obtain⟨x2,D,e2⟩:=g _ _ (Rw hs') U;exact(Ei D hs' y0 cov less).elim
  |non i Z r=>exact .non
end
theorem uu{f:α->β}{xs:List α}{d:α}{e:β}(h:i<xs.length):(xs.map f).getD i e=f (xs.getD i d):=by simp[QX,h]
theorem Sm.by{c:List Int}{R:List (List Int)}{L:List Int}(q:Int):Sm c R L (c.map (q*·)) R L q 1/\Sm (c.map (q*·)) R L c R L 1 q:=by
 have e:∀x:Nat->Int,q*(Sx.su c.length λj=>c.getD j 0*x j)=1*Sx.su (c.map (q*·)).length λj=>(c.map (q*·)).getD j 0*x j:=λx=>by rw[RI,Qt,<-Sx.cw];exact Sx.ba λj a=>by rw[uu (d:=0) a,Sa]
 have l:(c.map (q*·)).length=c.length:=Qt _;refine⟨λs x _ k=>⟨x,⟨λj a=>k.nn j (by have a:j<(c.map (q*·)).length:=a;rw[l] at a;exact a),λi hi=>?_⟩,e x⟩,λs x _ k=>⟨x,⟨λj a=>k.nn j (by rw[show (bG (c.map (q*·)) R L).n=c.length from l];exact a),λi hi=>?_⟩,(e x).symm⟩⟩
 .have:=k.le i hi;show (Sx.su (c.map (q*·)).length λj=>_)<=_;simp only[l];exact this
 .have:=k.le i hi;have this:(Sx.su (c.map (q*·)).length λj=>(R.getD i []).getD j 0*x j)<=s*L.getD i 0:=this;simp only[l] at this;exact this
noncomputable def jl(Y:List Nat)(r:List Int)(b:Int):List Int:=Y.map (λj=>b*r.getD j 0)++[0]
structure L6(Y:List Nat)(R:List (List Int))(L:List Int)(p:List Int×Int)(i:Nat):Prop where
 ex:∃b:Int,0<b/\b<=10^4/\p=(jl Y (R.getD i []) b,b*L.getD i 0)
theorem L8{xs ys:List Nat}(h:xs.Perm ys)(f:Nat->Int):(xs.map f).sum=(ys.map f).sum:=by
 induction h with
 |nil=>rfl
 |cons a _ m=>simp only[Rf,Vi,m]
 |swap a b l=>simp only[Rf,Vi];lia
 |trans _ _ s I=>exact s.trans I
theorem oE(f:Nat->Int):∀n:Nat,((QK n).map f).sum=Sx.su n f
 |0=>rfl
 |n+1=>by simp only[List.range_succ,QZ,Wd,oE f n];show _+([f n].sum)=Sx.su n f+f n;simp
variable{Y:List Nat}
theorem Nd{n:Nat}(h:Y.Perm (QK n))(f:Nat->Int):(Sx.su n λj=>f (Y.getD j 0))=Sx.su n f:=by
 have ln:Y.length=n:=by simp only[h.length_eq,RH]
 simp only[<-oE f,<-L8 h f,<-oE]
 congr 1
 refine US (by simp[ln]) λi h1 h2=>?_;have s:i<Y.length:=by simp at h2;lia
 simp[QX,s]
section
variable{c:List Int}{R:List (List Int)}{L:List Int}{Y:List Nat}{ps:List (List Int×Int)}
theorem tK(h:Y.Perm (QK c.length))(r:List Int)(b:Int)(x:Nat->Int)(z:Int):(Sx.su (c.length+1) λj=>(jl Y r b).getD j 0*(if j<c.length then x (Y.getD j 0) else z))=b*Sx.su c.length λj=>r.getD j 0*x j:=by
 have ln:Y.length=c.length:=by simp only[h.length_eq,RH]
 show (Sx.su c.length λj=>(jl Y r b).getD j 0*_)+(jl Y r b).getD c.length 0*(if c.length<c.length then x (Y.getD c.length 0) else z)=_;unfold jl;rw[Sx.cW (by simp[ln]),YZ (QU _)];simp only[Qt,ln,SD];simp only[show [(0:Int)].getD 0 0=0 from rfl,Si,RK,<-Nd h λj=>r.getD j 0*x j,<-Sx.cw];refine Sx.ba λj a=>?_;rw[Sx.dh (by simp[ln];exact a),YY a,uu (d:=0) Q1,Sa]
structure wa(c:List Int)(R:List (List Int))(L:List Int)(Y:List Nat)(ps:List (List Int×Int)):Prop where
 h:Y.Perm (QK c.length)
 a:∀i,i<R.length->∃p∈ps,L6 Y R L p i
 b:∀p∈ps,(∃i,i<R.length/\L6 Y R L p i)\/(p.1=QD (c.length+1) 0/\0<=p.2/\p.2<=4)
variable(H:wa c R L Y ps)
include H
theorem wa.ln:(Y.map (λj=>c.getD j 0)++[0]).length=c.length+1:=by simp[H.h.length_eq]
theorem wa.sl:Y.length=c.length:=by simp only[H.h.length_eq,RH]
theorem wa.lt(e:j<c.length):Y.getD j 0<c.length:=by
 have a:j<Y.length:=by rw[H.sl];exact e
 rw[show Y.getD j 0=Y[j] by simp[QX,a]];exact Rb.mp (H.h.mem_iff.mp (S2 a))
theorem wa.eR(hi:i<ps.length):(ps.map (·.1)).getD i []=ps[i].1/\(ps.map (·.2)).getD i 0=ps[i].2:=by simp[QX,hi]
theorem wa.go(x:Nat->Int)(z:Int):(Sx.su (Y.map (λj=>c.getD j 0)++[0]).length λj=>(Y.map (λj=>c.getD j 0)++[0]).getD j 0*(if j<c.length then x (Y.getD j 0) else z))=Sx.su c.length λj=>c.getD j 0*x j:=by rw[H.ln];have:=tK H.h c 1 x z;unfold jl at this;rw[RI] at this;simp only[<-this];simp only[RI]
theorem wa.f:Sm c R L (Y.map (λj=>c.getD j 0)++[0]) (ps.map (·.1)) (ps.map (·.2)) 1 1:=λs x u k=>by
 refine⟨λj=>if j<c.length then x (Y.getD j 0) else 0,⟨λj a=>?_,λi hi=>?_⟩,by rw[H.go]⟩
 .have a:j<(Y.map (λj=>c.getD j 0)++[0]).length:=a;rw[H.ln] at a;show 0<=if j<c.length then x (Y.getD j 0) else 0
  by_cases e:j<c.length
  .rw[YY e];exact k.nn _ (H.lt e)
  .rw[YZ e];exact Sg _
 .have hi:i<(ps.map (·.1)).length:=hi;rw[Qt] at hi;obtain⟨e1,e2⟩:=H.eR hi;show (Sx.su (Y.map (λj=>c.getD j 0)++[0]).length λj=>((ps.map (·.1)).getD i []).getD j 0*_)<=s*(ps.map (·.2)).getD i 0;simp only[H.ln,e1,e2];rcases H.b _ (S2 hi) with ⟨B,p,⟨b,w,_,e⟩⟩|⟨N,K,_⟩
  .rw[e,tK H.h];have:=S9 (k.le B p) (Rw w);show b*_<=s*(b*L.getD B 0);simp only[show s*(b*L.getD B 0)=b*(s*L.getD B 0) by grind];exact this
  .rw[N,Sx.fU λj a=>by simp only[show (QD (c.length+1) (0:Int)).getD j 0=0 by simp[QX,TM];split<;>rfl,Si]];exact Int.mul_nonneg u K
theorem wa.g:Sm (Y.map (λj=>c.getD j 0)++[0]) (ps.map (·.1)) (ps.map (·.2)) c R L 1 1:=λs x Z k=>by
 have nn:∀j,j<c.length+1->0<=x j:=λj D=>k.nn j (by show j<(Y.map (λj=>c.getD j 0)++[0]).length;rw[H.ln];exact D);have sl:=H.sl;have u:∀j,j<c.length->x (Y.idxOf (Y.getD j 0))=x j:=λj D=>by
  have D:j<Y.length:=by lia
  rw[show Y.getD j 0=Y[j] by simp[QX,D],(H.h.symm.nodup UR).idxOf_getElem]
 have e:∀f:Nat->Int,(Sx.su (c.length+1) λj=>f j*(if j<c.length then x (Y.idxOf (Y.getD j 0)) else x c.length))=Sx.su (c.length+1) λj=>f j*x j:=λf=>Sx.ba λj D=>by
  by_cases z:j<c.length
  .rw[YY z,u j z]
  .rw[YZ z,show j=c.length by lia]
 refine⟨λi=>x (Y.idxOf i),⟨λi hi=>?_,λi hi=>?_⟩,by simp only[<-H.go (λi=>x (Y.idxOf i)) (x c.length),H.ln,e]⟩
 .refine nn _ ?_;have:=RD (H.h.mem_iff.mpr (Rb.mpr hi))
  lia
 .obtain⟨p,hp,⟨b,w,_,v⟩⟩:=H.a i hi;obtain⟨a,T,rfl⟩:=RF hp;obtain⟨e1,e2⟩:=H.eR T;have z:=k.le a (by show a<(ps.map (·.1)).length;rw[Qt];exact T);have z:(Sx.su (Y.map (λj=>c.getD j 0)++[0]).length λj=>((ps.map (·.1)).getD a []).getD j 0*x j)<=s*(ps.map (·.2)).getD a 0:=z;simp only[H.ln,e1,e2,v,<-e,tK H.h (x:=λi=>x (Y.idxOf i))] at z;have z:b*(Sx.su c.length λj=>(R.getD i []).getD j 0*x (Y.idxOf j))<=s*(b*L.getD i 0):=z;simp only[show s*(b*L.getD i 0)=b*(s*L.getD i 0) by grind] at z;exact Int.le_of_mul_le_mul_left z w
end
theorem FL(t b:Int)(d:b≠0):(dz t b).1*b=t*(dz t b).2:=by have ok:=lH (t:=t) d;have e:=pP (t:=t) d;have p:=ok.1;rw[nv,R9 (by exact Rg ‹_›) d] at e;exact e
theorem GH(hs:0<s)(hs':0<s')(e:w'*s=q*w*s'):(dz w' s').1*(dz w s).2=q*(dz w s).1*(dz w' s').2:=by
 have a:=FL w s (by exact Rg ‹_›);have b:=FL w' s' (by exact Rg ‹_›);generalize (dz w s).1=p at *;generalize (dz w s).2=d at *;generalize (dz w' s').1=p' at *;generalize (dz w' s').2=d' at *;have z:(p'*d)*(s*s')=(q*p*d')*(s*s'):=by
  have h1:(p'*d)*(s*s')=(p'*s')*(d*s):=by grind
  have h2:(q*p*d')*(s*s')=q*d'*s'*(p*s):=by grind
  simp only[h1,h2,a,b];have h3:w'*d'*(d*s)=d'*d*(w'*s):=by grind
  simp only[h3,e];grind
 exact RO (Rg (Up hs hs')) z
theorem val_eq(hs:0<s)(hs':0<s')(e:w'*s=1*w*s'):dz w' s'=dz w s:=by
 have U:s≠0:=by exact Rg ‹_›
 have K:s'≠0:=by exact Rg ‹_›
 refine FQ (lH K) (lH U) ?_;simp only[pP K,pP U,R9 K U,e,RI]
variable{ps:List (List Int×Int)}
theorem wa.Oc{c:List Int}{L:List Int}(H:wa c R L Y ps)(hn:c.length<=5)(hm:ps.length<=9)(U:L.length=R.length)(bc:∀z∈c,z.natAbs<=10^9)(n:∀r∈R,r.length=c.length/\∀x∈r,x.natAbs<=10^9)(v:∀x∈L,x.natAbs<=10^9):mR (Y.map (λj=>c.getD j 0)++[0]) (ps.map (·.1)) (ps.map (·.2)):=by
 have mb:∀b z:Int,0<b->b<=10^4->z.natAbs<=10^9->(b*z).natAbs<=10^13:=λb z s h1 h2=>by rw[Ry];exact Q4 (Um (show b.natAbs<=10^4 by lia) h2) Z2
 have k:∀j,j∈Y->j<c.length:=λj a=>Rb.mp (H.h.mem_iff.mp a);refine⟨by rw[H.ln];exact Pq,by rw[Qt];exact hm,by simp,λr S=>?_,λz hz=>?_,λr S z hz=>?_,λz hz=>?_⟩
 .obtain⟨p,hp,rfl⟩:=Q2.mp S;rw[H.ln];rcases H.b p hp with ⟨i,hi,b,w,O,e⟩|⟨e,_⟩
  .rw[e];show (jl Y (R.getD i []) b).length=_;unfold jl;simp[H.sl]
  .simp only[e,Ug]
 .rcases Qx.mp hz with h|h
  .obtain⟨j,a,rfl⟩:=Q2.mp h;exact Q4 (bc _ (cU (k j a))) Z2
  .rw[QR.mp h];decide
 .obtain⟨p,hp,rfl⟩:=Q2.mp S;rcases H.b p hp with ⟨i,hi,b,w,O,e⟩|⟨e,_⟩
  .rw[e] at hz;have hz:z∈jl Y (R.getD i []) b:=hz;unfold jl at hz;have Z:=n _ (Sx.getD_mem hi);rcases Qx.mp hz with h|h
   .obtain⟨j,a,rfl⟩:=Q2.mp h;exact mb _ _ w O (Z.2 _ (cU (by rw[Z.1];exact k j a)))
   .rw[QR.mp h];decide
  .rw[e] at hz;rw[SI hz];decide
 .obtain⟨p,hp,rfl⟩:=Q2.mp hz;rcases H.b p hp with ⟨i,hi,b,w,O,e⟩|⟨_,e1,e2⟩
  .rw[e];exact mb _ _ w O (v _ (cU Q1))
  .lia
def EF(F:Ms)(Pr:Int->Prop):Prop:=∀(n:Int)(o:LO),Wl n o->n<2^36->X2 λ(r:Int)(o':LO)=>N3 (cD F o [] (.fr (.int r)) o') (Pr r) (Wl (n+10) o')
theorem oW:EF cp λr=>r.natAbs<=10^9:=λn o w hn=>by
 suffices ∃s o',cD cp o [] s o'/\∃r:Int,N3 (s=.fr (.int r)) (r.natAbs<=10^9) (Wl (n+10) o') by obtain⟨s,o',v,r,rfl,h1,h2⟩:=this;exact⟨r,o',v,h1,h2⟩
 obtain⟨g,V,e1,a1,b1,T⟩:=tk 8 w (by exact Kd) Z2 Z2
 have x:∀(k:Int) t Z,decide (g<k)=t->ay (aB mI (ab 1) (aC k)) (.pv V::.fr (.int g)::Z)=some (.ok t,.pv V::.fr (.int g)::Z):=λk t Z y=>aP (ag rfl rfl (ir y _))
 refine cD.of (Wp.df (Wp.st (aW (aA (ae rfl (ae rfl rfl)) (e1 _)) rfl rfl rfl rfl) ?_))
 by_cases L:g<3
 .exact Wp.sr (eM (x 3 true _ (Y1 L)) (aV rfl rfl)) ⟨_,V,_,rfl,rfl,0,rfl,by decide,T.mono (by exact PH)⟩
 .refine Wp.st (cY (x 3 false _ (Y0 L)) rfl) ?_
  by_cases J:g<7
  .obtain⟨l,o2,e2,a2,b2,Q⟩:=tk 9 T Q1 Z2 Z2
   exact Wp.sr (eM (x 7 true _ (Y1 J)) (aV (ag (aA (ae rfl (ae rfl rfl)) (e2 _)) rfl rfl) rfl)) ⟨_,o2,_,rfl,rfl,l-4,rfl,by lia,Q.mono Q1⟩
  .obtain⟨l,o2,e2,a2,b2,Q⟩:=tk 2000000001 T Q1 Z2 Z2
   have e:=pw 9 1000000000 Z2 Z2
   have E:∀Z,kA (aB aJ (aB aZ (aC 2) (aB kF (aC 10) (aC 9))) (aC 1)) Z=some (.ok (.fr (.int 2000000001)),Z):=λZ=>ka (ag (ag rfl (e _) (kO (qh Z2) (qh Z2) _)) rfl rfl) rfl
   exact Wp.st (cY (x 7 false _ (Y0 J)) rfl) (Wp.en (aV (ag (aA (ae rfl (ae (E _) rfl)) (e2 _)) (e _) rfl) rfl) ⟨_,o2,_,rfl,rfl,l-1000000000,rfl,by lia,Q.mono Q1⟩)
variable{mm:Mi Rr}
section
variable{a0 a1:Sl}{F:Ms}{Pr:Int->Prop}(hF:EF F Pr)
include hF
theorem lh{rest:List Sl}(hi:rest.length+3=i){n:Int}(w:Wl n o)(k:Nat)(hk:k<=20)(hn:n<2^34)(hm:mm (a0::a1::.lv o::rest)=some (.ok (.fr (.int k)),a0::a1::.lv o::rest)):
  X2 λ(ns:List Int)(o':LO)=>N4 (aL 1 (dw mm) (aO i) aH (bu F (cO (ab 2))) (a0::a1::.lv o::rest)=some (.ok (.nw (.lst (ns.map A.int))),a0::a1::.lv o'::rest)) (ns.length=k) (∀x∈ns,Pr x) (Wl (n+10*k) o'):=by
 obtain⟨ys,B,h1,o',x,ns,rfl,_,c,rfl,h4,h5⟩:=eP (G:=aO i) (t:=aH) (e:=bu F (cO (ab 2))) (as:=bI 0 k) (Z:=(a0::a1::.lv o::rest)++[.un])
  (λj acc Z=>X3 λ(o':LO)(x:Sl)(ns:List Int)=>N6 (Z=(a0::a1::.lv o'::rest)++[x]) (np x=true) (Wl (n+10*j) o') (acc=ns.map A.int) (ns.length=j) (∀x∈ns,Pr x)) ⟨o,.un,[],rfl,rfl,by simpa using w,rfl,rfl,λx hx=>by cases hx⟩ (by
   rintro j q acc Z l ⟨V,x,ns,rfl,hx,c,rfl,h4,h5⟩;obtain⟨a,rfl⟩:=pN l;obtain⟨r,o2,v,X,Q⟩:=hF _ _ c Q1;have b:aO i (.int (j:Nat)) ((a0::a1::.lv V::rest)++[x])=some ((a0::a1::.lv V::rest)++[.fr (.int (j:Nat))]):=gC (i:=i) (S:=a0::a1::.lv V::rest) (tl:=[]) (by simp;lia) hx;have h:bu F (cO (ab 2)) ((a0::a1::.lv V::rest)++[.fr (.int (j:Nat))])=some (.ok (.fr (.int r)),(a0::a1::.lv o2::rest)++[.fr (.int (j:Nat))]):=aA (rs:=[.rf 2]) rfl (cE (as:=[]) (i:=2) (Z:=(a0::a1::Sl.lv V::rest)++[Sl.fr (A.int (j:Nat))]) (r:=Rr.fr (A.int r)) v rfl rfl);refine⟨(a0::a1::.lv V::rest)++[.fr (.int (j:Nat))],b,.inl ⟨_,.fr (.int r),(a0::a1::.lv o2::rest)++[.fr (.int (j:Nat))],.int r,_,rfl,h,rfl,o2,_,ns++[r],rfl,rfl,Q.mono Q1,by simp only[QZ];rfl,by simp[h4],λy hy=>?_⟩⟩;rcases Qx.mp hy with z|z
   .exact h5 y z
   .rw[QR.mp z];exact X)
 rw[fw] at c h4;have e:=lQ (n:=1) (by rw[fw];lia) h1;refine⟨ns,o',bj (jC hm Q1) (e.trans ?_),h4,h5,c⟩;rw[show (a0::a1::Sl.lv o::rest).length=(a0::a1::Sl.lv o'::rest).length from rfl,Tf rfl]
theorem yM{rest:List Sl}(hi:rest.length+3=i){n:Int}(w:Wl n o)(k m:Nat)(hk:k<=20)(C:m<=20)(hn:n<2^30)(hm:mm (a0::a1::.lv o::rest)=some (.ok (.fr (.int m)),a0::a1::.lv o::rest))(b:∀o x,mk (a0::a1::.lv o::(rest++[x]))=some (.ok (.fr (.int k)),a0::a1::.lv o::(rest++[x]))):
  X2 λ(R:List (List Int))(o':LO)=>N4 (aL 1 (dw mm) (aO i) aH (aL 1 (dw mk) (aO (i+1)) aH (bu F (cO (ab 2)))) (a0::a1::.lv o::rest)=some (.ok (.nw (.lst (R.map lI))),a0::a1::.lv o'::rest)) (R.length=m) (∀r∈R,r.length=k/\∀x∈r,Pr x) (Wl (n+200*m) o'):=by
 obtain⟨ys,B,h1,o',x,R,rfl,_,c,rfl,h4,h5⟩:=eP (t:=aH) (as:=bI 0 m)
  (λj acc Z=>X3 λ(o':LO)(x:Sl)(R:List (List Int))=>N6 (Z=(a0::a1::.lv o'::rest)++[x]) (np x=true) (Wl (n+200*j) o') (acc=R.map lI) (R.length=j) (∀r∈R,r.length=k/\∀x∈r,Pr x)) ⟨o,.un,[],rfl,rfl,by simpa using w,rfl,rfl,λx hx=>by cases hx⟩ (by
   rintro j q acc Z l ⟨V,x,R,rfl,hx,c,rfl,h4,h5⟩;obtain⟨a,rfl⟩:=pN l;obtain⟨ns,o2,v,hl,X,Q⟩:=lh hF (a1:=a1) (rest:=rest++[.fr (.int (j:Nat))]) (i:=i+1) (by simp;lia) c k hk Q1 (b V _);have h:aO i (.int (j:Nat)) ((a0::a1::.lv V::rest)++[x])=some ((a0::a1::.lv V::rest)++[.fr (.int (j:Nat))]):=gC (i:=i) (S:=a0::a1::.lv V::rest) (tl:=[]) (by simp;lia) hx;refine⟨(a0::a1::.lv V::rest)++[.fr (.int (j:Nat))],h,.inl ⟨_,.nw (.lst (ns.map A.int)),(a0::a1::.lv o2::rest)++[.fr (.int (j:Nat))],lI ns,_,rfl,v,rfl,o2,_,R++[ns],rfl,rfl,Q.mono Q1,by rw[QZ];rfl,by simp[h4],λy hy=>?_⟩⟩;rcases Qx.mp hy with z|z
   .exact h5 y z
   .rw[QR.mp z];exact⟨hl,X⟩)
 rw[fw] at c h4;have e:=lQ (n:=1) (by rw[fw];lia) h1;refine⟨R,o',bj (jC hm Q1) (e.trans ?_),h4,h5,c⟩;rw[show (a0::a1::Sl.lv o::rest).length=(a0::a1::Sl.lv o'::rest).length from rfl,Tf rfl]
end
theorem vU{w v:Str}{as:List A}{b:Bool}(h:Z[i]?=some (.fr (.tup (.str w::as))))(d:decide (w=v)=b):ay (aB mT (mix (ab i) (aC 0)) (mC (.str v))) Z=some (.ok b,Z):=by
 have e:ab i Z=some (.ok (.fr (.tup (.str w::as))),Z):=by unfold ab;simp only[h]
 exact aP (ag (ag e rfl (bx (.inr rfl) (dt rfl))) rfl (fu (o:=none) rfl rfl (by unfold mT;simp only[uC,d])))
theorem Ak{w a:A}{as:List A}(h:Z[i]?=some (.fr (.tup (w::a::as)))):mix (ab i) (aC 1) Z=some (.ok (.fr a),Z):=by
 have e:ab i Z=some (.ok (.fr (.tup (w::a::as))),Z):=by unfold ab;simp only[h]
 exact ag e rfl (bx (.inr rfl) (dt rfl))
inductive Sd:A->A->Prop
 |best{v a b:A}:Sd (.tup [.str "best",v,a,b]) (.tup [.str "best",v])
 |opn{a b:A}:Sd (.tup [.str "open",a,b]) (.tup [.str "open"])
 |non{a:A}:Sd (.tup [.str "none",a]) (.tup [.str "none"])
theorem Tk.sd{c:List Int}{L:List Int}{t:A}(h:Tk c R L t):∃u,Val dW [t] u/\Sd t u:=by
 cases h with
 |best=>exact⟨_,Val.of (Wp.df (Wp.sr (eM (vU rfl Z2) (aV (bk rfl (bk rfl (bk rfl (YZ (show ¬ (HT.cM 4 0 none=0/\HT.cM 4 4 (some 2)=4) by decide))))) rfl)) rfl)),.best⟩
 |opn=>exact⟨_,Val.of (Wp.df (Wp.st (cY (vU rfl Z2) rfl) (Wp.en (aV (bk rfl (bk rfl (bk rfl (YZ (show ¬ (HT.cM 3 0 none=0/\HT.cM 3 3 (some 1)=3) by decide))))) rfl) rfl))),.opn⟩
 |non=>exact⟨_,Val.of (Wp.df (Wp.st (cY (vU rfl Z2) rfl) (Wp.en (aV (bk rfl (bk rfl (bk rfl (YZ (show ¬ (HT.cM 2 0 none=0/\HT.cM 2 2 (some 1)=2) by decide))))) rfl) rfl))),.non⟩
theorem Sw.F6{t t' u k:A}(h:Sw 1 t t')(d:Sd t u)(d':Sd t' k):k=u/\Dt 40 u:=by
 cases h with
 |best hs hs' bs bw bs' bw' e=>cases d;cases d';rw[val_eq hs hs' e];exact⟨rfl,Dt.tup (.cons (.str _) (.cons (Dt.nm _) .nil))⟩
 |opn=>cases d;cases d';exact⟨rfl,Dt.tup (.cons (.str _) .nil)⟩
 |non=>cases d;cases d';exact⟨rfl,Dt.tup (.cons (.str _) .nil)⟩
theorem six{k:Int}{n:Nat}(s:0<=k)(h1:k<n):XT k n=some k.toNat:=WT s h1
theorem vP{α β:Type}(f:α->β):∀(l:List α)(i:Nat),(l.map f).eraseIdx i=(l.eraseIdx i).map f
 |[],_=>rfl
 |a::l,0=>rfl
 |a::l,i+1=>Y2 (f a::·) (vP f l i)
theorem qV{α:Type}:∀(l:List α)(i:Nat)(h:i<l.length),(l[i]::l.eraseIdx i).Perm l
 |a::l,0,_=>.refl _
 |a::l,i+1,h=>(VM a _ _).trans ((qV l i (Vw h)).cons a)
noncomputable abbrev nA(j:Nat):A:=.int (j:Int)
theorem GX(m:Nat):bI 0 m=(QK m).map nA:=Rp λi _=>by rw[Tp]
theorem u6{n:Int}(w:Wl n o)(hn:n<2^36)(m:Nat)(hm:m<=20):X2 λ(Y:List Nat)(o':LO)=>N3 (cD cX o [.int m] (.lv (.lst (Y.map nA))) o') (Y.Perm (QK m)) (Wl (n+m) o'):=by
 suffices ∃s o',cD cX o [.int m] s o'/\∃Y:List Nat,N3 (s=.lv (.lst (Y.map nA))) (Y.Perm (QK m)) (Wl (n+m) o') by obtain⟨s,o',v,ss,rfl,h1,h2⟩:=this;exact⟨ss,o',v,h1,h2⟩
 have J:aG 2 (iE (ab 1)) [.pv o,.fr (.int m),.un]=some (.nx,[.pv o,.fr (.int m),.lv (.lst ((QK m).map nA))]):=by refine aW (r:=.nw (.lst ((QK m).map nA))) (U:=[.pv o,.fr (.int m),.un]) (bk rfl ?_) rfl rfl rfl rfl;show (if B1 0 (m:Int)=true then some (Rn (Rr.nw (.lst (bI 0 ((m:Int)-0).toNat))),_) else none)=_;rw[YY (show B1 0 (m:Int)=true from Y1 Q1),show ((m:Int)-0).toNat=m by rfl,GX]
 refine cD.of (Wp.df (Wp.st J ?_))
 obtain⟨ys,B,hc,ns,M,b,rfl,e2,N,⟨x,rfl,hx⟩,k,hp⟩:=eP (G:=aO 3) (t:=aH) (e:=jT 2 (bu aD (cF (ab 0) (dg cI (ab 2))))) (as:=bI 0 m) (Z:=[.pv o,.fr (.int m),.lv (.lst ((QK m).map nA)),.un])
  (λi acc Z=>X3 λ(ns M:List Nat)(b:LO)=>N6 (acc=ns.map nA) (ns.length=i) (M.length+i=m) (∃x,Z=[.pv b,.fr (.int m),.lv (.lst (M.map nA)),x]/\np x=true) (Wl (n+i) b) ((ns++M).Perm (QK m)))
  ⟨[],QK m,o,rfl,rfl,by simp,⟨.un,rfl,rfl⟩,w.mono Z4,.refl _⟩ (by
   rintro i z acc Z f ⟨ns,M,b,rfl,h,em,⟨x,rfl,hx⟩,k,hp⟩;obtain⟨hi,rfl⟩:=pN f;obtain⟨T,I,c,a3,P,K⟩:=tk (M.length:Int) k Q1 Q1 Q1;have X:T.toNat<M.length:=by lia
   have F:cI (.lst (M.map nA))=some (.fr (.int (M.length:Int))):=by show some (Rr.fr (.int ((M.map nA).length:Int)))=_;rw[Qt]
   refine⟨[.pv b,.fr (.int m),.lv (.lst (M.map nA)),.fr (.int (i:Nat))],gC (S:=[.pv b,.fr (.int m),.lv (.lst (M.map nA))]) (tl:=[]) rfl hx,.inl ⟨_,.fr (nA M[T.toNat]),[.pv I,.fr (.int m),.lv (.lst ((M.eraseIdx T.toNat).map nA)),.fr (.int (i:Nat))],nA M[T.toNat],_,rfl,?_,rfl,ns++[M[T.toNat]],M.eraseIdx T.toNat,I,?_,?_,?_,⟨.fr (.int (i:Nat)),rfl,rfl⟩,K.mono Q1,?_⟩⟩
   .unfold jT jK;rw[YY (show FK [.pv b,.fr (.int m),.lv (.lst (M.map nA)),.fr (.int (i:Nat))] 2=true from rfl)];refine bk (aA (ae rfl (ae (gh rfl (rF rfl F)) rfl)) (c _)) ?_;show (if -(2^60)<=T/\T<2^60 then (match XT T (M.map nA).length with|some j=>(match (M.map nA)[j]? with|some a=>some ((Rn (Rr.fr a):Except Str Rr),[Sl.pv I,.fr (.int m),.lv (.lst ((M.map nA).eraseIdx j)),.fr (.int (i:Nat))])|none=>none)|none=>none) else none)=_;rw[YY Q1,Qt,six a3 P];dsimp only;rw[Q0,QP X,vP];rfl
   .rw[QZ];rfl
   .rw[QO,h];rfl
   .rw[List.length_eraseIdx_of_lt X];lia
   .refine VC ?_ hp;rw[Qw];exact(qV M _ X).append_left ns)
 rw[fw] at e2 N k
 obtain rfl:M=[]:=List.eq_nil_of_length_eq_zero Q1
 rw[Rx] at hp
 have q:=lQ (n:=1) (Z:=[.pv o,.fr (.int m),.lv (.lst ((QK m).map nA))]) (by rw[fw];lia) hc
 exact Wp.en (aV (bj (jC rfl Q1) q) rfl) ⟨_,_,_,rfl,rfl,ns,rfl,hp,k⟩
abbrev kU(p:List Int×Int):A:=.tup [lI p.1,.int p.2]
theorem rK{xs ys:List A}(h:xs.length+ys.length<=100000)(Z:List Sl):kG aJ (.nw (.lst xs)) (.nw (.lst ys)) Z=some (.ok (.nw (.lst (xs++ys))),Z):=fu (o:=none) rfl rfl (YY h)
theorem Dv{k:Nat}(h:k<=1000)(Z:List Sl):kG wd (.nw (.lst [.int 0])) (.fr (.int k)) Z=some (.ok (.nw (.lst ((QD k (0:Int)).map A.int))),Z):=by refine fu (o:=none) rfl rfl ?_;show (if 0<=(k:Int)/\(k:Int)<=1000/\[A.int 0].length<=100 then some (Rr.nw (.lst (QD (k:Int).toNat [A.int 0]).flatten)) else none)=_;rw[YY ⟨by simp,by lia,by decide⟩,SU,List.flatten_replicate_singleton,List.map_replicate]
theorem ID{m n:Mi Rr}{Z0:List Sl}{k:Nat}{a:A}{xs:List A}(s:FK Z i=true)(h:m Z=some (.ok (.fr (.int k)),U))(h2:n U=some (.ok (.fr a),Z'))(l:az Z' i=some (.lst xs))(hk:k<=xs.length)(hl:xs.length<=16000000)(e:setAt Z' i (.lst (xs.take k++a::xs.drop k))=Z0):cH (hW i m n) Z=some (.nx,Z0):=by
 refine dy (r:=.fr .non) ?_
 delta hW jK
 rw[YY s];refine bk h (bk h2 ?_);have f:dr [.fr (.int k),.fr a] Z'=some ([.int k,a],Z'):=rfl;rw[f];dsimp only;rw[l];dsimp only;rw[YY ⟨by simp,by lia,hl⟩,SU,e]
abbrev pS(o:LO)(c L:List Int)(R:List (List Int))(D:Sl)(ps:List (List Int×Int))(h e b:Sl):List Sl:=[.pv o,.fr (lI c),.fr (gI R),.fr (lI L),D,.lv (.lst (ps.map kU)),h,e,b]
abbrev Pc:Ms:=av (aG 7 (aB aJ (aC 1) (bu aD (cF (ab 0) (mix (d6 (cF (aC 3) (aB kF (aC 10) (aC 4)))) (bu aD (cF (ab 0) (aC 2)))))))) (cH (jK 5 (g9 5 (gF (cF (aB aJ (aL 1 (bZ (ab 4)) (aO 9) aH (aB aZ (ab 7) (mix (mix (ab 2) (ab 6)) (ab 9)))) (d6 (cO (aC 0)))) (aB aZ (ab 7) (mix (ab 3) (ab 6))))))))
variable{x7 x8:Sl}
section
variable{c L:List Int}{R:List (List Int)}{Y:List Nat}(hs:Y.Perm (QK c.length))(hn:c.length<=6)(hm:R.length<=6)(lL:L.length=R.length)(hR:∀r∈R,r.length=c.length/\∀x∈r,x.natAbs<=10^9)(hL:∀x∈L,x.natAbs<=10^9)
include hs hn hm lL hR hL
theorem CG(hi:i<R.length)(hp:ps.length<=20){n:Int}(w:Wl n o)(d:n<2^34)(z:np x7=true){D:Sl}(h4:D=.lv (.lst (Y.map nA))\/D=.fr (.lst (Y.map nA))):
  Wp Pc (pS o c L R D ps (.fr (nA i)) x7 x8) λf Z=>f=.nx/\X3 λ(o':LO)(p:List Int×Int)(x7:Sl)=>N4 (Z=pS o' c L R (.fr (.lst (Y.map nA))) (ps++[p]) (.fr (nA i)) x7 x8) (np x7=true) (L6 Y R L p i) (Wl (n+2) o'):=by
 have sl:Y.length=c.length:=by simp only[hs.length_eq,RH]
 obtain⟨g,V,e1,a1,b1,T⟩:=tk 2 w (by exact Kd) Z2 Z2;obtain⟨k,hx,s,G⟩:∃k:Int,gn [A.int 3,.int 10000] g=some (.int k)/\0<k/\k<=10^4:=by
  have:g=0\/g=1:=by lia
  rcases this with rfl|rfl
  .exact⟨3,rfl,by decide,by decide⟩
  .exact⟨10000,rfl,by decide,by decide⟩
 obtain⟨l,o2,e2,a2,b2,Q⟩:=tk k T (by exact Ny) s Q1;have r:=pw 4 10000 Z2 Z2;have x:aG 7 (aB aJ (aC 1) (bu aD (cF (ab 0) (mix (d6 (cF (aC 3) (aB kF (aC 10) (aC 4)))) (bu aD (cF (ab 0) (aC 2))))))) (pS o c L R D ps (.fr (nA i)) x7 x8)=some (.nx,pS o2 c L R D ps (.fr (nA i)) (.fr (.int (1+l))) x8):=
  aW (ag rfl (aA (ae rfl (ae (ag (fQ (ae rfl (ae (r _) rfl)) rfl) (aA (ae rfl (ae rfl rfl)) (e1 _)) (bx (.inl rfl) hx)) rfl)) (e2 _)) rfl) rfl rfl z rfl
 refine Wp.st x ?_;generalize P:1+l=b;have h:0<b:=by lia
 have O:b<=10^4:=by lia
 have e:=hR _ (Sx.getD_mem hi);have N:gi 1 (aO 9) aH (aB aZ (ab 7) (mix (mix (ab 2) (ab 6)) (ab 9))) (Y.map nA) (pS o2 c L R (.fr (.lst (Y.map nA))) ps (.fr (nA i)) (.fr (.int b)) x8)=some (.ok (.nw (.lst (Y.map λj=>.int (b*(R.getD i []).getD j 0)))),pS o2 c L R (.fr (.lst (Y.map nA))) ps (.fr (nA i)) (.fr (.int b)) x8):=
  bB (k:=nA) (S:=pS o2 c L R (.fr (.lst (Y.map nA))) ps (.fr (nA i)) (.fr (.int b)) x8) (λj=>.int (b*(R.getD i []).getD j 0)) rfl Q1 λj a=>by
   have a:j<(R.getD i []).length:=by rw[e.1];exact Rb.mp (hs.mem_iff.mp a)
   exact⟨_,ag rfl (ag (ag rfl rfl (bx (.inl rfl) (uv hi))) rfl (bx (.inl rfl) (fh a))) (kO (qh Q1) (qh (by have:=e.2 _ (cU a);exact O8)) _),rfl⟩
 have eq:bZ (ab 4) (pS o2 c L R D ps (.fr (nA i)) (.fr (.int b)) x8)=some (.ok (Y.map nA),pS o2 c L R (.fr (.lst (Y.map nA))) ps (.fr (nA i)) (.fr (.int b)) x8):=by rcases h4 with rfl|rfl<;>rfl
 have E:gF (cF (aB aJ (aL 1 (bZ (ab 4)) (aO 9) aH (aB aZ (ab 7) (mix (mix (ab 2) (ab 6)) (ab 9)))) (d6 (cO (aC 0)))) (aB aZ (ab 7) (mix (ab 3) (ab 6)))) (pS o2 c L R D ps (.fr (nA i)) (.fr (.int b)) x8)=some (.ok (.fr (kU (jl Y (R.getD i []) b,b*L.getD i 0))),pS o2 c L R (.fr (.lst (Y.map nA))) ps (.fr (nA i)) (.fr (.int b)) x8):=by refine fP (ae (ag (bj eq N) (fQ (rs:=[.fr (.int 0)]) rfl rfl) (rK (by simp;lia) _)) (ae (ag rfl (ag rfl rfl (bx (.inl rfl) (fh Q1))) (kO (qh Q1) (qh (by have:=hL _ (cU (c:=i) Q1);lia)) _)) rfl)) ?_;show some (Rn (Rr.fr (.tup [.lst ((Y.map λj=>A.int (b*(R.getD i []).getD j 0))++[.int 0]),_])),_)=some (Rn (Rr.fr (.tup [.lst ((jl Y (R.getD i []) b).map A.int),_])),_);unfold jl;rw[QZ,Q6];rfl
 refine Wp.en (yE rfl E rfl rfl (by simp;lia) rfl) ⟨rfl,o2,(jl Y (R.getD i []) b,b*L.getD i 0),.fr (.int b),?_,rfl,⟨b,h,O,rfl⟩,Q.mono Q1⟩;unfold pS;rw[QZ];rfl
end
section
variable{c L:List Int}{R:List (List Int)}(hn:c.length<=6)(hm:R.length<=6)(lL:L.length=R.length)(hR:∀r∈R,r.length=c.length/\∀x∈r,x.natAbs<=10^9)(hL:∀x∈L,x.natAbs<=10^9)
include hn hm lL hR hL
theorem GJ{n:Int}(w:Wl n o)(hw:n<2^30)(m0:0<R.length):X3 λ(Y:List Nat)(ps:List (List Int×Int))(o':LO)=>N4 (cD cj o [lI c,gI R,lI L] (.fr (.tup [lI (Y.map (λj=>c.getD j 0)++[0]),gI (ps.map (·.1)),lI (ps.map (·.2))])) o') (wa c R L Y ps) (ps.length=R.length+2) (Wl (n+100) o'):=by
 suffices ∃s o',cD cj o [lI c,gI R,lI L] s o'/\X2 λ(Y:List Nat)(ps:List (List Int×Int))=>N4 (s=.fr (.tup [lI (Y.map (λj=>c.getD j 0)++[0]),gI (ps.map (·.1)),lI (ps.map (·.2))])) (wa c R L Y ps) (ps.length=R.length+2) (Wl (n+100) o') by obtain⟨s,o',v,Y,ps,rfl,h1,h2,h3⟩:=this;exact⟨Y,ps,o',v,h1,h2,h3⟩
 obtain⟨Y,V,vs,hs,w1⟩:=u6 w (by exact Kd) c.length Q1
 obtain⟨τ,o2,vt,y,w2⟩:=u6 w1 Q1 R.length Q1
 have tl:τ.length=R.length:=by rw[y.length_eq,RH]
 have sl:Y.length=c.length:=by rw[hs.length_eq,RH]
 have ln:∀(o:LO)(xs:List A)(i:Nat)(Z:List Sl),Z[i]?=some (.fr (.lst xs))->dg cI (ab i) Z=some (.ok (.fr (.int (xs.length:Nat))),Z):=λo xs i Z e=>by refine gh (x:=.fr (.lst xs)) ?_ rfl;unfold ab;rw[e]
 have l4:aG 4 (bu cX (cF (ab 0) (dg cI (ab 1)))) [.pv o,.fr (lI c),.fr (gI R),.fr (lI L),.un,.un,.un,.un,.un]=some (.nx,[.pv V,.fr (lI c),.fr (gI R),.fr (lI L),.lv (.lst (Y.map nA)),.un,.un,.un,.un]):=
  aW (aA (rs:=[.rf 0,.fr (.int c.length)]) (ae rfl (ae ((ln o _ 1 _ rfl).trans (by rw[Qt])) rfl)) (NQ vs rfl _)) rfl rfl rfl rfl
 refine cD.of (Wp.df (Wp.st l4 ?_))
 refine Wp.st (U:=pS V c L R (.lv (.lst (Y.map nA))) [] .un .un .un) (aW (fQ (rs:=[]) rfl rfl) rfl rfl rfl rfl) ?_
 have e6:bZ (bu cX (cF (ab 0) (dg cI (ab 2)))) (pS V c L R (.lv (.lst (Y.map nA))) [] .un .un .un)=some (.ok (τ.map nA),pS o2 c L R (.lv (.lst (Y.map nA))) [] .un .un .un):=
  nG (aA (rs:=[.rf 0,.fr (.int R.length)]) (ae rfl (ae ((ln o _ 2 _ rfl).trans (by rw[Qt])) rfl)) (NQ vt rfl _)) rfl
 refine Wp.sq (Wp.fr (b:=Pc) (as:=τ.map nA) (λj Z=>∃(o':LO)(ps:List (List Int×Int))(D E x7:Sl),Z=pS o' c L R D ps E x7 .un/\np E=true/\np x7=true/\(D=.lv (.lst (Y.map nA))\/D=.fr (.lst (Y.map nA)))/\Wl (n+c.length+R.length+2*j) o'/\ps.length=j/\(∀a,a<j->∃p∈ps,L6 Y R L p (τ.getD a 0))/\∀p∈ps,∃i,i<R.length/\L6 Y R L p i) e6 ⟨o2,[],_,_,_,rfl,rfl,rfl,.inl rfl,w2.mono Q1,rfl,λa T=>by lia,λp hp=>by cases hp⟩ ?_ ?_)
 .rintro j a Z T ⟨o',ps,D,E,x7,rfl,t,I,h4,w,X,C,Q⟩
  rw[Q0] at T
  have F:j<τ.length:=by
   by_cases z:j<τ.length
   .exact z
   .rw[RQ Q1] at T;cases T
  rw[QP F] at T
  cases T
  have hi:τ[j]<R.length:=Rb.mp (y.mem_iff.mp (S2 F))
  refine⟨pS o' c L R D ps (.fr (nA τ[j])) x7 .un,gC (S:=[.pv o',.fr (lI c),.fr (gI R),.fr (lI L),D,.lv (.lst (ps.map kU))]) (tl:=[x7,.un]) rfl t,Wp.mono (CG hs hn hm lL hR hL hi Q1 w Q1 I h4) ?_⟩
  rintro f Z ⟨rfl,J,p,y7,rfl,k7,hp,N⟩
  refine⟨.inl rfl,J,_,_,_,_,rfl,rfl,k7,.inr rfl,N.mono Q1,by simp[X],λa T=>?_,λq l=>?_⟩
  .by_cases z:a=j
   .refine⟨p,by simp,?_⟩
    rw[z,show τ.getD j 0=τ[j] by simp[QX,F]];exact hp
   .obtain⟨q,l,k⟩:=C a Q1
    exact⟨q,Qu _ l,k⟩
  .rcases Qx.mp l with z|z
   .exact Q q z
   .rw[QR.mp z];exact⟨_,hi,hp⟩
 .rintro B ⟨J,ps,D,E,x7,rfl,t,I,h4,N,X,C,Q⟩
  rw[Qt] at N X C
  refine⟨rfl,?_⟩
  have d:∀(o:LO)(ps:List (List Int×Int)) D x8,dg cI (ab 5) (pS o c L R D ps E x7 x8)=some (.ok (.fr (.int (ps.length:Nat))),pS o c L R D ps E x7 x8):=λo ps D x8=>by show some (Rn (Rr.fr (.int ((ps.map kU).length:Nat))),_)=_;rw[Qt]
  obtain⟨r1,m,e1,a1,b1,w4⟩:=tk (ps.length:Int) N Q1 Q1 Q1
  obtain⟨G,rfl⟩:∃k:Nat,r1=k:=⟨r1.toNat,by lia⟩
  have K:G<ps.length:=by lia
  refine Wp.st (U:=pS m c L R D ps E x7 (.fr (kU ps[G]))) (aW (ag rfl (aA (ae rfl (ae (d _ _ _ _) rfl)) (e1 _)) (bx (.inl rfl) (dt (by rw[Q0,QP K];rfl)))) rfl rfl rfl rfl) ?_
  obtain⟨P,o5,e2,a2,b2,w5⟩:=tk 5 w4 Q1 Z2 Z2
  have l1:aB aJ (dg cI (ab 1)) (aC 1) (pS m c L R D ps E x7 (.fr (kU ps[G])))=some (.ok (.fr (.int ((c.length+1:Nat)))),pS m c L R D ps E x7 (.fr (kU ps[G]))):=ag ((ln o _ 1 _ rfl).trans (by rw[Qt])) rfl rfl
  refine Wp.st (U:=pS o5 c L R D (ps++[(QD (c.length+1) 0,P)]) E x7 (.fr (kU ps[G]))) (yE rfl (fP (ae (ag (fQ (rs:=[.fr (.int 0)]) rfl rfl) l1 (Dv Q1 _)) (ae (aA (ae rfl (ae rfl rfl)) (e2 _)) rfl)) rfl) rfl rfl (by simp;lia) ?_) ?_
  .unfold pS
   rw[QZ];rfl
  generalize l:ps++[(QD (c.length+1) 0,P)]=qs
  have lq:qs.length=R.length+1:=by rw[<-l];simp[X,tl]
  obtain⟨r3,H,e3,a3,b3,w6⟩:=tk ((qs.length:Int)+1) w5 Q1 Q1 Q1
  obtain⟨u,rfl⟩:∃k:Nat,r3=k:=⟨r3.toNat,by lia⟩
  refine Wp.st (U:=pS H c L R D (qs.take u++ps[G]::qs.drop u) E x7 (.fr (kU ps[G]))) (ID rfl (aA (ae rfl (ae (ka (ag (d _ _ _ _) rfl rfl) rfl) rfl)) (e3 _)) rfl rfl (by simp;lia) (by simp;lia) ?_) ?_
  .show (pS H c L R D qs E x7 (.fr (kU ps[G]))).set 5 _=_
   unfold pS
   rw[QZ,Sk,Rf,Vj];rfl
  generalize hz:qs.take u++ps[G]::qs.drop u=zs
  have mz:∀p,p∈zs↔p=ps[G]\/p∈qs:=λp=>by
   rw[<-hz];have:=R1 u qs;constructor
   .intro h;rcases Qx.mp h with h|h
    .exact .inr (RU h)
    .rcases QC.mp h with h|h
     .exact .inl h
     .exact .inr (List.mem_of_mem_drop h)
   .rintro(rfl|h)
    .simp
    .rw[<-this] at h;rcases Qx.mp h with h|h
     .exact Qu _ h
     .exact Qs _ (Qz _ h)
  have lz:zs.length=R.length+2:=by rw[<-hz];simp;lia
  have O:wa c R L Y zs:=⟨hs,λi hi=>by
   obtain⟨a,T,e⟩:=RF (y.mem_iff.mpr (Rb.mpr hi));obtain⟨p,hp,k⟩:=C a T;refine⟨p,(mz p).mpr (.inr (by rw[<-l];exact Qu _ hp)),?_⟩;rw[show τ.getD a 0=i by simp[QX,T,e]] at k;exact k,λp hp=>by
   rcases(mz p).mp hp with rfl|h
   .exact .inl (Q _ (S2 K))
   .rw[<-l] at h;rcases Qx.mp h with h|h
    .exact .inl (Q p h)
    .rw[QR.mp h];exact .inr ⟨rfl,a2,by show P<=4;lia⟩⟩
  have ec:gi 1 (aO 9) aH (mix (ab 1) (ab 9)) (Y.map nA) (pS H c L R (.fr (.lst (Y.map nA))) zs E x7 (.fr (kU ps[G])))=some (.ok (.nw (.lst (Y.map λj=>.int (c.getD j 0)))),pS H c L R (.fr (.lst (Y.map nA))) zs E x7 (.fr (kU ps[G]))):=
   bB (k:=nA) (S:=pS H c L R (.fr (.lst (Y.map nA))) zs E x7 (.fr (kU ps[G]))) (λj=>.int (c.getD j 0)) rfl Q1 λj F=>⟨_,ag rfl rfl (bx (.inl rfl) (fh (Rb.mp (hs.mem_iff.mp F)))),rfl⟩
  have eq:bZ (ab 4) (pS H c L R D zs E x7 (.fr (kU ps[G])))=some (.ok (Y.map nA),pS H c L R (.fr (.lst (Y.map nA))) zs E x7 (.fr (kU ps[G]))):=by rcases h4 with rfl|rfl<;>rfl
  have e1:aB aJ (aL 1 (bZ (ab 4)) (aO 9) aH (mix (ab 1) (ab 9))) (d6 (cO (aC 0))) (pS H c L R D zs E x7 (.fr (kU ps[G])))=some (.ok (.nw (.lst ((Y.map λj=>A.int (c.getD j 0))++[.int 0]))),pS H c L R (.fr (.lst (Y.map nA))) zs E x7 (.fr (kU ps[G]))):=
   ag (bj eq ec) (fQ (rs:=[.fr (.int 0)]) rfl rfl) (rK (by simp;lia) _)
  have c1:∀(i:Nat)(g:List Int×Int->A)(Z:List Sl),Z.length=9->(∀p,∃r,ab i (Z++[.fr (lI p.1),.fr (.int p.2)])=some (.ok r,Z++[.fr (lI p.1),.fr (.int p.2)])/\bS r (Z++[.fr (lI p.1),.fr (.int p.2)])=some (g p,Z++[.fr (lI p.1),.fr (.int p.2)]))->gi 2 (G2 9 10) aH (ab i) (zs.map kU) Z=some (.ok (.nw (.lst (zs.map g))),Z):=λi g Z hl h=>jU (i:=9) (λp=>lI p.1) (λp=>.int p.2) g hl Q1 λp _=>h p
  refine Wp.en (aV (fP (ae e1 (ae (bj (as:=zs.map kU) rfl (c1 9 (λp=>lI p.1) [.pv H,.fr (lI c),.fr (gI R),.fr (lI L),.fr (.lst (Y.map nA)),.fr (.lst (zs.map kU)),E,x7,.fr (kU ps[G])] rfl λp=>⟨_,rfl,rfl⟩)) (ae (bj (as:=zs.map kU) rfl (c1 10 (λp=>.int p.2) [.pv H,.fr (lI c),.fr (gI R),.fr (lI L),.fr (.lst (Y.map nA)),.fr (.lst (zs.map kU)),E,x7,.fr (kU ps[G])] rfl λp=>⟨_,rfl,rfl⟩)) rfl))) rfl) rfl) ⟨_,_,_,rfl,rfl,Y,zs,?_,O,lz,w6.mono Q1⟩
  show Sl.fr (.tup [.lst ((Y.map λj=>A.int (c.getD j 0))++[.int 0]),.lst (zs.map λp=>lI p.1),.lst (zs.map λp=>A.int p.2)])=.fr (.tup [.lst ((Y.map (λj=>c.getD j 0)++[0]).map A.int),.lst ((zs.map (·.1)).map lI),.lst ((zs.map (·.2)).map A.int)])
  rw[QZ,Q6,Q6,Q6];rfl
end
abbrev leB:Ms:=av (Kc (ay (aB j6 (mix (ab 11) (aC 0)) (mix (ab 8) (aC 0))))) (Kc (mV (ay (aB mT (mix (ab 8) (aC 0)) (mC (.str "best")))) (ay (aB j6 (aB aZ (mix (mix (ab 11) (aC 1)) (aC 0)) (mix (mix (ab 8) (aC 1)) (aC 1))) (aB aZ (aB aZ (ab 10) (mix (mix (ab 8) (aC 1)) (aC 0))) (mix (mix (ab 11) (aC 1)) (aC 1)))))))
abbrev Ox:Ms:=av (aG 2 (bu gx (cF (ai 0) (ai 1)))) (av (aG 3 (aB aJ (aC 1) (bu aD (cF (ab 2) (aC 5))))) (av (aG 4 (aB aJ (aC 1) (bu aD (cF (ab 2) (aC 5))))) (av (aG 5 (aL 1 (dw (ab 3)) (aO 12) aH (bu cp (cO (ab 2))))) (av (aG 6 (aL 1 (dw (ab 4)) (aO 12) aH (aL 1 (dw (ab 3)) (aO 13) aH (bu cp (cO (ab 2)))))) (av (aG 7 (aL 1 (dw (ab 4)) (aO 12) aH (bu cp (cO (ab 2))))) (av (aG 8 (bu dW (cO (bu dk (fW (ai 5) (ai 6) (ai 7)))))) (av (aG 9 (bu cj (DH (ab 2) (ai 5) (ai 6) (ai 7)))) (av (Kc (ay (aB j6 (bu dW (cO (bu dk (fW (mix (ab 9) (aC 0)) (mix (ab 9) (aC 1)) (mix (ab 9) (aC 2)))))) (ab 8)))) (av (aG 10 (aB aJ (aC 1) (bu aD (cF (ab 2) (aC 50))))) (av (aG 11 (bu dk (fW (kA (aL 1 (bZ (ab 5)) (aO 12) aH (aB aZ (ab 10) (ab 12)))) (ai 6) (ai 7)))) (leB)))))))))))
abbrev m7(sc:A)(x1 x2 x3 D x5 h x7 x8 b e i:Sl):List Sl:=[.fr sc,x1,x2,x3,D,x5,h,x7,x8,b,e,i]
theorem tE(s:Str)(Z:List Sl):kG j6 (.fr (.str s)) (.fr (.str s)) Z=some (.ok (.fr (.bl false)),Z):=fu (o:=none) rfl rfl (by unfold j6;rw[uC,Y1 rfl];rfl)
theorem sV{w:A}{as:List A}(h:Z[i]?=some (.fr (.tup (w::as)))):mix (ab i) (aC 0) Z=some (.ok (.fr w),Z):=by
 have e:ab i Z=some (.ok (.fr (.tup (w::as))),Z):=by unfold ab;simp only[h]
 exact ag e rfl (bx (.inr rfl) (dt rfl))
theorem O7(a b:A):gn [a,b] 1=some b:=dt (j:=1) rfl
theorem NZ{w v a:A}{as:List A}(h:Z[i]?=some (.fr (.tup (w::v::a::as)))):mix (ab i) (aC 2) Z=some (.ok (.fr a),Z):=by
 have e:ab i Z=some (.ok (.fr (.tup (w::v::a::as))),Z):=by unfold ab;simp only[h]
 exact ag e rfl (bx (.inr rfl) (dt (j:=2) rfl))
variable{x6 x9:Sl}
theorem Jx{t t' u:A}(l:q.natAbs<2^64)(h:Sw q t t')(d:Sd t u){sc:A}{D:Sl}:leB (m7 sc x1 x2 x3 D x5 x6 x7 (.fr u) x9 (.fr (.int q)) (.fr t'))=some (.nx,m7 sc x1 x2 x3 D x5 x6 x7 (.fr u) x9 (.fr (.int q)) (.fr t')):=by
 cases h with
 |@best s w s' w' a1 a2 a3 a4 hs hs' bs bw bs' bw' e=>cases d;have U:NB 900 (dz w s):=NB.dz (by exact Rg ‹_›) bw bs;have K:NB 900 (dz w' s'):=NB.dz (by exact Rg ‹_›) bw' bs';have v:=GH hs hs' e;generalize dz w s=x at *;generalize dz w' s'=y at *;refine dN (cY (aP (ag (sV rfl) (sV rfl) (tE _ _))) rfl) (cY (pj (vU rfl Z2) (aP (ag (ag (ag (Ak rfl) rfl (bx (.inr rfl) (dt rfl))) (ag (Ak rfl) rfl (bx (.inr rfl) (O7 _ _))) (kO (ft K.b1 Z2) (ft U.b2 Z2) _)) (ag (ag rfl (ag (Ak rfl) rfl (bx (.inr rfl) (dt rfl))) (kO (qh l) (ft U.b1 Z2) _)) (ag (Ak rfl) rfl (bx (.inr rfl) (O7 _ _))) (kO (gX (L2.Bd.mul (show L2.Bd 64 q from l) U.b1) Z2) (ft K.b2 Z2) _)) (gN (b:=true) (Y1 v) _)))) rfl)
 |opn=>cases d;exact dN (cY (aP (ag (sV rfl) (sV rfl) (tE _ _))) rfl) (cY (o8 (vU rfl Z2)) rfl)
 |non=>cases d;exact dN (cY (aP (ag (sV rfl) (sV rfl) (tE _ _))) rfl) (cY (o8 (vU rfl Z2)) rfl)
theorem oS{a b c:Int}(h:a+b=c)(Z:List Sl):kG aJ (.fr (.int a)) (.fr (.int b)) Z=some (.ok (.fr (.int c)),Z):=by rw[<-h];rfl
theorem OU{n:Int}(m:Int)(w:Wl n o)(hn:n<2^40)(R:0<m)(Y:m<2^64):X2 λ(r:Int)(o':LO)=>N4 (∀a0 a1 Z,fk aD [] [.rf 2,.fr (.int m)] (a0::a1::.lv o::Z)=some (.ok (.fr (.int r)),a0::a1::.lv o'::Z)) (0<=r) (r<m) (Wl (n+1) o'):=by obtain⟨r,o',h,h1,h2,h3⟩:=zG w hn R Y;exact⟨r,o',λa0 a1 Z=>cE h rfl rfl,h1,h2,h3⟩
theorem Cj{i:Int}(d:0<=i)(i1:i<=1000){D v b:Sl}(h2:np x2=true)(h3:np x3=true)(h4:np D=true)(h5:np x5=true)(h6:np x6=true)(h7:np x7=true)(h8:np x8=true)(h9:np x9=true)(E:np v=true)(C:np b=true):
  Wp Ox (m7 (.lst (ns.map A.int)) (.fr (.int i)) x2 x3 D x5 x6 x7 x8 x9 v b) λf Z=>f=.nx/\∃x2 x3 D x5 x6 x7 x8 x9 v b,Z=m7 (.lst (ns.map A.int)) (.fr (.int i)) x2 x3 D x5 x6 x7 x8 x9 v b/\(np x2=true/\np x3=true/\np D=true/\np x5=true/\np x6=true/\np x7=true/\np x8=true/\np x9=true/\np v=true/\np b=true):=by
 obtain⟨o,I,w0⟩:=IH ns i d i1;generalize A.lst (ns.map A.int)=sc at I ⊢;obtain⟨V,o1,e1,a1,b1,w1⟩:=OU 5 w0 Z2 Z2 Z2;obtain⟨l,o2,e2,a2,b2,w2⟩:=OU 5 w1 Z2 Z2 Z2;obtain⟨n,hn⟩:∃n:Nat,1+V=n:=⟨(1+V).toNat,by lia⟩
 obtain⟨m,hm⟩:∃m:Nat,1+l=m:=⟨(1+l).toNat,by lia⟩
 refine Wp.st (U:=m7 sc (.fr (.int i)) (.lv o) x3 D x5 x6 x7 x8 x9 v b) (aW (aA (ae rfl (ae rfl rfl)) (jv I _)) rfl rfl h2 rfl) ?_;refine Wp.st (U:=m7 sc (.fr (.int i)) (.lv o1) (.fr (.int n)) D x5 x6 x7 x8 x9 v b) (aW (ag rfl (aA (rs:=[.rf 2,.fr (.int 5)]) rfl (e1 _ _ _)) (oS hn _)) rfl rfl h3 rfl) ?_;refine Wp.st (U:=m7 sc (.fr (.int i)) (.lv o2) (.fr (.int n)) (.fr (.int m)) x5 x6 x7 x8 x9 v b) (aW (ag rfl (aA (rs:=[.rf 2,.fr (.int 5)]) rfl (e2 _ _ _)) (oS hm _)) rfl rfl h4 rfl) ?_;obtain⟨c,o3,e3,lc,bc,w3⟩:=lh oW (a0:=.fr sc) (a1:=.fr (.int i)) (rest:=[.fr (.int n),.fr (.int m),x5,x6,x7,x8,x9,v,b]) (i:=12) rfl w2 n Q1 Z2 (mm:=ab 3) rfl;refine Wp.st (U:=m7 sc (.fr (.int i)) (.lv o3) (.fr (.int n)) (.fr (.int m)) (.lv (.lst (c.map A.int))) x6 x7 x8 x9 v b) (aW e3 rfl rfl h5 rfl) ?_;obtain⟨R,o4,e4,lR,K,w4⟩:=yM oW (a0:=.fr sc) (a1:=.fr (.int i)) (rest:=[.fr (.int n),.fr (.int m),.lv (.lst (c.map A.int)),x6,x7,x8,x9,v,b]) (i:=12) rfl w3 n m Q1 Q1 Q1 (mm:=ab 4) (mk:=ab 3) rfl (λ_ _=>rfl);refine Wp.st (U:=m7 sc (.fr (.int i)) (.lv o4) (.fr (.int n)) (.fr (.int m)) (.lv (.lst (c.map A.int))) (.lv (.lst (R.map lI))) x7 x8 x9 v b) (aW e4 rfl rfl h6 rfl) ?_;obtain⟨L,a,e5,w,Q,w5⟩:=lh oW (a0:=.fr sc) (a1:=.fr (.int i)) (rest:=[.fr (.int n),.fr (.int m),.lv (.lst (c.map A.int)),.lv (.lst (R.map lI)),x7,x8,x9,v,b]) (i:=12) rfl w4 m Q1 Q1 (mm:=ab 4) rfl;refine Wp.st (U:=m7 sc (.fr (.int i)) (.lv a) (.fr (.int n)) (.fr (.int m)) (.lv (.lst (c.map A.int))) (.lv (.lst (R.map lI))) (.lv (.lst (L.map A.int))) x8 x9 v b) (aW e5 rfl rfl h7 rfl) ?_;subst lc;subst lR;have n5:c.length<=5:=by lia
 have m5:R.length<=5:=by lia
 have h:∀r∈R,r.length=c.length/\∀x∈r,x.natAbs<=10^9:=K;have f:mR c R L:=⟨by lia,by lia,w,λr X=>(K r X).1,λz hz=>Q4 (bc z hz) Z2,λr X z hz=>Q4 ((K r X).2 z hz) Z2,λz hz=>Q4 (Q z hz) Z2⟩
 obtain⟨t,vt,ht⟩:=tO f;have T:=Tk.of ht;obtain⟨u,vu,F⟩:=T.sd;refine Wp.st (U:=m7 sc (.fr (.int i)) (.lv a) (.fr (.int c.length)) (.fr (.int R.length)) (.fr (lI c)) (.fr (gI R)) (.fr (lI L)) (.fr u) x9 v b) (aW (aA (ae (aA (ae rfl (ae rfl (ae rfl rfl))) (ck vt _)) rfl) (ck vu _)) rfl rfl h8 rfl) ?_;obtain⟨Y,ps,o6,vp,O,lp,w6⟩:=GJ Q1 Q1 w h Q w5 Q1 Q1;refine Wp.st (U:=m7 sc (.fr (.int i)) (.lv o6) (.fr (.int c.length)) (.fr (.int R.length)) (.fr (lI c)) (.fr (gI R)) (.fr (lI L)) (.fr u) (.fr (.tup [lI (Y.map (λj=>c.getD j 0)++[0]),gI (ps.map (·.1)),lI (ps.map (·.2))])) v b) (aW (aA (rs:=[.rf 2,.fr (lI c),.fr (gI R),.fr (lI L)]) (ae rfl (ae rfl (ae rfl (ae rfl rfl)))) (cE (as:=[lI c,gI R,lI L]) (i:=2) vp rfl rfl)) rfl rfl h9 rfl) ?_;obtain⟨t',p,s⟩:=tO (O.Oc n5 Q1 w bc h Q);have J:=Tk.of s;obtain⟨H,G,P⟩:=J.sd;obtain⟨rfl,du⟩:=(Sw.of Z2 T J O.f O.g).F6 F P;generalize hg:lI (Y.map (λj=>c.getD j 0)++[0])=G0 at p ⊢;generalize gI (ps.map (·.1))=G1 at p ⊢;generalize lI (ps.map (·.2))=G2' at p ⊢;refine Wp.st (cY (aP (ag (aA (ae (aA (ae (sV rfl) (ae (Ak rfl) (ae (NZ rfl) rfl))) (ck p _)) rfl) (ck G _)) rfl (fu (o:=none) (r:=.fr (.bl false)) rfl rfl (by unfold j6;rw[AI du];rfl)))) rfl) ?_;obtain⟨r3,B,e7,a3,b3,w7⟩:=OU 50 w6 Q1 Z2 Z2;obtain⟨q,hq⟩:∃q:Int,1+r3=q:=⟨_,rfl⟩
 refine Wp.st (U:=m7 sc (.fr (.int i)) (.lv B) (.fr (.int c.length)) (.fr (.int R.length)) (.fr (lI c)) (.fr (gI R)) (.fr (lI L)) (.fr H) (.fr (.tup [G0,G1,G2'])) (.fr (.int q)) b) (aW (ag rfl (aA (rs:=[.rf 2,.fr (.int 50)]) rfl (e7 _ _ _)) (oS hq _)) rfl rfl E rfl) ?_;have q0:0<q:=by lia
 have q1:q<=50:=by lia
 have f2:mR (c.map (q*·)) R L:=⟨by rw[Qt];lia,f.m,w,λr X=>by rw[Qt];exact f.r r X,λz hz=>by obtain⟨y,hy,rfl⟩:=Q2.mp hz;rw[Ry];exact Q4 (Um (show q.natAbs<=50 by lia) (bc y hy)) Z2,f.br,f.bl⟩
 obtain⟨t2,v2,N⟩:=tO f2;have ec:=bB (e:=aB aZ (ab 10) (ab 12)) (ts:=c) (k:=A.int) (S:=m7 sc (.fr (.int i)) (.lv B) (.fr (.int c.length)) (.fr (.int R.length)) (.fr (lI c)) (.fr (gI R)) (.fr (lI L)) (.fr H) (.fr (.tup [G0,G1,G2'])) (.fr (.int q)) b) (λz=>.int (q*z)) rfl Q1 λz hz=>⟨_,ag rfl rfl (kO (qh Q1) (qh (by have:=bc z hz;lia)) _),rfl⟩
 have ef:kA (aL 1 (bZ (ab 5)) (aO 12) aH (aB aZ (ab 10) (ab 12))) (m7 sc (.fr (.int i)) (.lv B) (.fr (.int c.length)) (.fr (.int R.length)) (.fr (lI c)) (.fr (gI R)) (.fr (lI L)) (.fr H) (.fr (.tup [G0,G1,G2'])) (.fr (.int q)) b)=some (.ok (.fr (lI (c.map (q*·)))),m7 sc (.fr (.int i)) (.lv B) (.fr (.int c.length)) (.fr (.int R.length)) (.fr (lI c)) (.fr (gI R)) (.fr (lI L)) (.fr H) (.fr (.tup [G0,G1,G2'])) (.fr (.int q)) b):=by refine ka (bj rfl ec) ?_;unfold lI;rw[Q6];rfl
 refine Wp.st (U:=m7 sc (.fr (.int i)) (.lv B) (.fr (.int c.length)) (.fr (.int R.length)) (.fr (lI c)) (.fr (gI R)) (.fr (lI L)) (.fr H) (.fr (.tup [G0,G1,G2'])) (.fr (.int q)) (.fr t2)) (aW (aA (ae ef (ae rfl (ae rfl rfl))) (ck v2 _)) rfl rfl C rfl) ?_;exact Wp.en (Jx Q1 (Sw.of q0 T (Tk.of N) (Sm.by q).1 (Sm.by q).2) F) ⟨rfl,_,_,_,_,_,_,_,_,_,_,rfl,rfl,rfl,rfl,rfl,rfl,rfl,rfl,rfl,rfl,rfl⟩
theorem DG:∀j,j<=61->IS 0 ((j:Nat):Int) 15=true/\Bg 0 ((j:Nat):Int) 15<=5:=by decide +kernel
theorem law_true:∀ns:List Int,ns.length<=63->∃Z,mK.M [.fr (.lst (ns.map A.int))]=some (.rt (.fr (.bl true)),Z):=by
 intro ns c;show ∃Z,MZ [.fr (.lst (ns.map A.int))]=some (.rt (.fr (.bl true)),Z);obtain⟨j,n,F⟩:∃j:Nat,(∀Z,aB aJ (E3 wU (dg cI (ab 0)) (aC 60)) (aC 1) (.fr (.lst (ns.map A.int))::Z)=some (.ok (.fr (.int j)),.fr (.lst (ns.map A.int))::Z))/\j<=61:=by
  refine⟨min ns.length 60+1,λZ=>?_,by lia⟩;refine ag (x:=.fr (.int (if (60:Int)<((ns.map A.int).length:Int) then 60 else ((ns.map A.int).length:Int)))) (y:=.fr (.int 1)) rfl rfl (fu (o:=none) rfl rfl ?_);show some (Rr.fr (.int ((if (60:Int)<((ns.map A.int).length:Int) then 60 else ((ns.map A.int).length:Int))+1)))=_;rw[Qt]
  congr 3
  split<;>lia
 obtain⟨s1,s2⟩:=DG j F;have Q:rX (aC 0) (aB aJ (E3 wU (dg cI (ab 0)) (aC 60)) (aC 1)) (aC 15) (m7 (.lst (ns.map A.int)) .un .un .un .un .un .un .un .un .un .un .un)=some (.ok (rb 0 15 (Bg 0 j 15)),m7 (.lst (ns.map A.int)) .un .un .un .un .un .un .un .un .un .un .un):=by refine bk (x:=.fr (.int 0)) rfl (bk (n _) (bk (x:=.fr (.int 15)) rfl ?_));show (if IS 0 (j:Int) 15=true then some (Rn (rb 0 15 (Bg 0 j 15)),_) else none)=_;rw[YY s1]
 suffices Wp (cK 11 (av (iO (rX (aC 0) (aB aJ (E3 wU (dg cI (ab 0)) (aC 60)) (aC 1)) (aC 15)) (aO 1) Ox) (bW (mC (.bl true))))) [.fr (.lst (ns.map A.int))] λg _=>g=.rt (.fr (.bl true)) by obtain⟨f,Z,e,rfl⟩:=this;exact⟨Z,e⟩
 refine Wp.df (Wp.sq (Wp.P0 (b:=Ox) (rb 0 15 (Bg 0 j 15)) (λZ=>∃x1 x2 x3 D x5 x6 x7 x8 x9 v z,Z=m7 (.lst (ns.map A.int)) x1 x2 x3 D x5 x6 x7 x8 x9 v z/\np x1=true/\(np x2=true/\np x3=true/\np D=true/\np x5=true/\np x6=true/\np x7=true/\np x8=true/\np x9=true/\np v=true/\np z=true)) Q ⟨_,_,_,_,_,_,_,_,_,_,_,rfl,rfl,rfl,rfl,rfl,rfl,rfl,rfl,rfl,rfl,rfl,rfl⟩ ?_ ?_))
 .rintro a T Z ⟨x1,x2,x3,D,x5,x6,x7,x8,x9,v,z,rfl,h1,h2,h3,h4,h5,t,I,O,q,E,C⟩;obtain⟨i,hi,rfl⟩:=Q2.mp T;have hi:=Rb.mp hi;refine⟨_,gC (S:=[.fr (.lst (ns.map A.int))]) (tl:=[x2,x3,D,x5,x6,x7,x8,x9,v,z]) rfl h1,Wp.mono (Cj (i:=0+(i:Nat)*15) Q1 Q1 h2 h3 h4 h5 t I O q E C) ?_⟩;rintro f Z' ⟨rfl,G,U,p,w,H,R,K,u,k,r,rfl,hy⟩;exact⟨.inl rfl,_,G,U,p,w,H,R,K,u,k,r,rfl,rfl,hy⟩
 .rintro B ⟨x1,x2,x3,D,x5,x6,x7,x8,x9,v,z,rfl,h⟩;exact⟨rfl,Wp.en (aV rfl rfl) rfl⟩
end W
set_option maxHeartbeats 4000000
theorem PySem.Challenge.cw_fitwhatever_k35_programs_put_otherwise_holds : PySem.Challenge.rw_fitwhatever_k35_programs_put_otherwise.Holds :=
 W.fin W.law_true
#print axioms PySem.Challenge.cw_fitwhatever_k35_programs_put_otherwise_holds
