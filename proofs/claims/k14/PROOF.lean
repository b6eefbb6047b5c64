import PyProof.Rows.All
import Wide.All
import OpenK.AllK
import Wide.FinOn
import Lean
import PyProof.EqAt
import PyProof.EqKinds
import PyProof.TupleCall
import PyProof.StrLaws
import PySem.Challenge.RW_fitwhatever_k14_faces_put
set_option genSizeOf false
set_option genInjectivity false
set_option bootstrap.genMatcherCode false
set_option compiler.extract_closed false
open Bool renaming and_eq_true->QR,not_eq_true'->Rq,false_ne_true->RE,or_eq_true->R5,and_false->Tn,eq_iff_iff->T3,beq_eq_decide_eq->T8,false_and->Uc,and_true->Uq,and_eq_true_iff->VE,eq_false_iff->VW,false_or->Ws,true_and->Wu
open PySem.W renaming Frag->QU,findIn->RP,emptyDict->RZ,kitOne->R4,keepIn->R8,instObj->Sb,plainGet->S3,hasDictIn->Tj,methodCall_KW->TJ,lookIn->TV,codeIn->TZ,plainGet_of->Ua,callWith_K->Ud,methodObj->Uh,isFn->Uj,plainOver->Uk,fnOf->Um,kitx_list->Ur,kitx_dict->Us,takerIn->UG,makesIn->UH,cellsFrom_some->U7,nsIn->Vb,kitx_tuple->Vv,handedIn->VH,OpenLaw->VQ,WalkO->V7,Hook->Wf
open List renaming mem_append_right->QV,mem_append->QW,mem_append_left->QX,length_map->QY,append_assoc->QZ,size_toArray->Q0,getElem?_eq_some_iff->Q2,mem_cons_of_mem->Q4,mem_singleton->Q5,length_cons->Q6,nodup_append->Q8,mem_cons->Ra,mem_cons_self->Rb,length_append->Rc,getElem?_eq_getElem->Rg,map_cons->Ri,map_append->Rj,lookup_cons->Rk,replicate->Rl,getElem?_map->Rn,getElem?_set_self->Rp,mem_of_getElem?->Rt,take_append_of_le_length->Rv,getElem?_append_right->Rx,nodup_cons->Ry,getElem?_set_ne->Rz,all_cons->RB,mem_map->RC,getElem?_append_left->RF,all_eq_true->RG,take_length->RH,append_nil->RK,find?_cons->RL,drop_eq_getElem_cons->RT,map_map->RV,length_take->RX,getD_eq_getElem?_getD->R0,any_eq_true->R9,range->Sg,mem_map_of_mem->Sj,getElem_mem->Sk,any_cons->Ss,perm_append_comm->Sw,take_add_one->Sy,pairwise_map->SA,cons_append->SH,isEmpty_iff->SI,sublist_append_right->SJ,mem_filter->SK,nil_append->SN,pairwise_cons->SO,zip_cons_cons->SQ,mem_range->SS,take_sublist->SU,ext_getElem?->SV,reverse_cons->SW,filter_eq_nil_iff->SX,all->SY,length_singleton->S7,take_append_drop->S8,lookup->Ta,length->Tc,mem_of_mem_take->Td,filterMap_cons->Te,getElem?_range->Tf,map_congr_left->Tg,map_nil->Th,getElem?_take_of_lt->Tv,drop_length->TC,perm_middle->TF,take_of_length_le->TR,of_mem_zip->TY,length_nil->T2,getElem?_eq_none->T5,set_append_right->T7,contains_iff_mem->T9,perm_iff_count->Ue,getElem_of_mem->Ug,mem_filterMap->Uu,any_eq_false->Uy,all_map->Uz,count_append->UA,length_range->UB,flatMap_cons->UC,not_lt->UO,eq_nil_of_length_eq_zero->UP,take_left->U3,drop_zero->U4,take_zero->U6,getElem?_eq_none_iff->Va,eq_of_mem_replicate->Vj,getElem?_replicate->Vl,length_replicate->Vs,eq_nil_or_concat->Vz,concat_eq_append->VA,length_filter_le->VB,map_id->VF,flatMap_append->VM,countP_append->VP,lookup_append->VS,find?_eq_none->VT,map_singleton->VU,length_drop->VZ,countP_cons->V3,le_antisymm->V4,map_reverse->V5,getElem_zip->V6,filter_cons->V8,forIn_cons->Wa,foldl_cons->Wb,append_inj->Wc,map->Wo,drop_nil->Wv,all_nil->WB,foldl->Xn
open PySem.Heap renaming get?_push_of_some->Q3,lt_size->Rh,get?_push_size->Ro,SameBut->TN,get?_none_of_le->Ub,size_push->UZ,get?_update_other->Vo
open Nat renaming lt_of_lt_of_le->Q7,le_refl->Rf,le_trans->Rm,ne_of_lt->Ru,lt_irrefl->RQ,pow_le_pow_right->RY,zero_le->R1,le_of_ble_eq_true->R3,add_sub_cancel_left->R6,le_add_right->So,lt_of_le_of_lt->SR,le_of_lt->S0,ble->Ti,le_succ->Tu,lt_succ_self->TH,mul_le_mul_left->Ut,le_of_eq->UI,lt_succ_of_lt->UK,min_self->Vu,sub_zero->Vy,mul_one->VL,le_max_right->V9,succ_ne_zero->We,le_max_left->Wh,le_add_left->Wj,ne_of_gt->WD,zero_add->WQ,sub_self->WR,log2_lt->WW,sub_le->Xu,mod_lt->Xw
open Option.some renaming inj->Q9,injEq->Xv
open PySem.Value renaming ref->RD,builtin->Ts,str->UE,none->US,int->Vf,bool->VG,isStrOf->Wg,isInt->Ww,bytes->Wx,float->Wy,type->WC
open Int renaming gcd->RI,gcd_pos_of_ne_zero_right->Su,mul_fdiv_cancel_left->SM,fmod_nonneg_of_pos->S4,gcd_dvd_right->Tw,mul_ne_zero->T6,lt_or_gt_of_ne->Uw,fmod_lt_of_pos->Ux,toNat_natCast->UJ,mul_comm->UL,gcd_dvd_left->UN,natAbs_mul->U9,fmod_eq_emod_of_nonneg->Vd,gcd_comm->Vx,natAbs_dvd_natAbs->VD,gcd_zero_right->VX,emod_nonneg->Wi,lt_or_le->WM,le_of_lt->WN,neg_dvd->WX,neg_gcd->WY
open PySem.Builtin.Str renaming strSliceIndices->RJ,occurrences->RU,glued->RW,tooLong->TM
open Sum renaming inr->RM,inl->UD
open Array renaming length_toList->RN,getElem?_toList->S5,toArray_toList->Vw,toList_inj->VY,toList->Wr
open PyProof.Rows renaming slot_tuple_getitem->RO,sortedS->Tx,callWith_type1->Ui,risingS->UQ,callWith_builtin1->WU,tuple_addW0->WZ,ltCps_eq->W0,strKind->W2,list_addW->W4,envOfC->Xm
open Option renaming isNone_iff_eq_none->RS,isSome_map->Uv,getD_none->VO
open Except renaming ok->R7
open PySem.Txt renaming slice->Sa
open Ne renaming symm->Sd
open False renaming elim->Se
open PySem.F renaming plainAttrs_list->Sh,args_tuple_add_2->To,entry_tuple_add->Tp,slot_tuple_add->Tz,slot_tuple_getattribute->TB,slot_dict_get->TL,slot_list_append->UU,type_list_append->UW,slot_list_extend->UX,args_dict_get_3->U0,entry_dict_get->U8,plainAttrs_str->Vc,excAttr_ValueError->VV
open PySem renaming mem_of_lookup->Si,Str->Ve,Within->Vk,call->VJ
open List.Sublist renaming refl->Sn,append->Sv,countP_le->Xo
open PySem.Builtin.Slice renaming slicePlaces->Sr,sliceAdjust->S9,sliceApplied->Uo,slicePartIndex->WI,sliceFields->WJ
open PySem.Builtin.Tuple renaming tupleExact->Sx,tupleItemsOf->Up,tupleIsExact->WO
open PySem.Builtin.List renaming listTooLong->SD
open ForInStep renaming yield->SE
open PySem.NameKind renaming free->SF
open PySem.SeqAt renaming EqAt->S6,notIn_listAt->VI,in_listAt->V0
open PySem.Calls renaming callWith_builtin->TK,spliced_cons->Ul,Name_function_global->UT,call_function_entry->U2,evalArgs_plain->Vt,spliced_nil->VN
open True renaming intro->TQ
open Sum.inr renaming inj->TU
open PySem.Obj renaming mapSeq->T1
open Rat renaming intCast_lt_intCast->T4,divInt_eq_divInt_iff->Vm,divInt_eq_div->V2,intCast_inj->Wm,intCast_mul->Wn,divInt->Xr
open PySem.Builtin.Dict renaming updateFrom->UM,addKeywords->W5,pairItems->W6,selfAndRest->W7
open PySem.AutoSeq1 renaming wpAny_loadPart'->UR
open PySem.Paired renaming length->UY,snoc->Wt
open PySem.Builtin.Int renaming intBits->U1
open Prod renaming fst->U5,ext->VC
open PySem.SeqAt.EqAt renaming int_str->Vg,str_int->Vh
open PySem.Around renaming under->Vi,under_plainId->Vr
open PySem.Code renaming isFrame->Vn,frames->WH
open PySem.Heap.DictOf renaming new->Vp
open PySem.Spec renaming ltCps->Vq
open PySem.Builtin.ObjectAttr renaming bindTo->V1
open PySem.W.SharedT renaming abs->Wq
open PySem.Heap.IsSliceOf renaming new->Wz
open PySem.W.WShape renaming has->WA
open PySem.Builtin.Range renaming rangeSize->WE
open PySem.W.Looks renaming here->WG
open PySem.Str renaming ofString->WK,length->Xq
open List.Pairwise renaming nil->WL,imp_of_mem->WS
open PySem.Within renaming cons->WT
open PySem.W.WData renaming int->WV
open PySem.Str.mk renaming injEq->W3
open PySem.W.Fast renaming tw11892475500146522536->W8,tw14364793385576792824->W9,tw6613529449190102663->Xa,tw10156331382660048174->Xb,tw10274390034422433532->Xc,tw14289696077712309145->Xd,tw4187177175401517315->Xe,te11892475500146522536->Xf,te14364793385576792824->Xg,te6613529449190102663->Xh,te10156331382660048174->Xi,te10274390034422433532->Xj,te14289696077712309145->Xk,te4187177175401517315->Xl
open PySem.Flow renaming next->Xp
open Nat.Coprime renaming dvd_of_dvd_mul_left->Xs
set_option Elab.async false
set_option linter.all false
set_option maxRecDepth 100000
abbrev gP(x:Ve):Prop:=(x==("__debug__" : Ve))=false
abbrev p4(x:Ve):Prop:=(x==("__classdict__" : Ve))=false
noncomputable section
namespace L2
open PySem PySem.Spec PyProof.Rows
noncomputable abbrev Key:=Sum Int Str
noncomputable def mT:Key->Value->Bool
 | .inl k,v=>Ww k v
 | .inr x,v=>Wg x v
noncomputable def Oz(w:World):Key->Int
 | .inl k=>hashInt k
 | .inr x=>hashStr w x
theorem bP:∀{k:Key}{v:Value},mT k v=true->(∃i t,k=UD i/\v=Vf i t)\/(∃x t,k=RM x/\v=UE x t)
 | .inl i,v,h=>by obtain⟨t,e⟩:=Value.isInt_shape (k:=i) (v:=v) h;exact .inl ⟨i,t,rfl,e⟩
 | .inr x,v,h=>by obtain⟨t,e⟩:=Value.isStrOf_shape (x:=x) (v:=v) h;exact .inr ⟨x,t,rfl,e⟩
theorem xN(i:Int)(t:Tok):mT (.inl i) (.int i t)=true:=by simp[mT,Ww]
theorem xx(x:Str)(t:Tok):mT (.inr x) (.str x t)=true:=by simp[mT,Wg]
theorem KH(a b:Int):decide ((UD a:Key)=UD b)=(a==b):=by
 by_cases e:a=b
 .subst e;simp
 .have h:¬ (UD a:Key)=UD b:=λq=>e (UD.inj q);rw[decide_eq_false h];exact(beq_eq_false_iff_ne.mpr e).symm
theorem KJ(a b:Str):decide ((RM a:Key)=RM b)=decide (a=b):=by
 by_cases e:a=b
 .subst e;simp
 .have h:¬ (RM a:Key)=RM b:=λq=>e (TU q);rw[decide_eq_false h,decide_eq_false e]
theorem Ka(a:Int)(b:Str):decide ((UD a:Key)=RM b)=false:=decide_eq_false (λq=>nomatch q)
theorem Ic(a:Str)(b:Int):decide ((RM a:Key)=UD b)=false:=decide_eq_false (λq=>nomatch q)
def ba(prog:Program)(w:World):PySem.KeyKind prog w Key where
 is:=mT
 hash:=Oz w
 inj:=λv a b ha d=>by
  rcases bP ha with ⟨i,t,rfl,rfl⟩|⟨x,t,rfl,rfl⟩
  .rcases bP d with ⟨j,u,rfl,e⟩|⟨y,u,rfl,e⟩
   .injection e with e1 _;rw[e1]
   .exact nomatch e
  .rcases bP d with ⟨j,u,rfl,e⟩|⟨y,u,rfl,e⟩
   .exact nomatch e
   .injection e with e1 _;rw[e1]
 byValue:=λk v h=>by rcases bP h with ⟨i,t,rfl,rfl⟩|⟨x,t,rfl,rfl⟩<;>rfl
 pyHash:=λc h=>by
  rcases bP c with ⟨i,t,rfl,rfl⟩|⟨x,t,rfl,rfl⟩
  .exact wpAny_pyHash_int h
  .exact wpAny_pyHash_str h
 eqBool:=λf c h=>by
  rcases bP f with ⟨i,t,rfl,rfl⟩|⟨x,t,rfl,rfl⟩
  .rcases bP c with ⟨j,u,rfl,rfl⟩|⟨y,u,rfl,rfl⟩
   .rw[KH] at h;exact wpAny_eqBool_int h
   .rw[Ka] at h;exact Vg i t y u _ _ _ _ h
  .rcases bP c with ⟨j,u,rfl,rfl⟩|⟨y,u,rfl,rfl⟩
   .rw[Ic] at h;exact Vh x t j u _ _ _ _ h
   .rw[KJ] at h;exact wpAny_eqBool_str h
 «strs»:=λk x t v h=>by
  rcases bP h with ⟨i,u,rfl,e⟩|⟨y,u,rfl,e⟩
  .exact nomatch e
  .injection e with e1 _;subst e1;cases v<;>rfl
theorem si(prog:Program)(w:World)(i:Int)(t:Tok):(ba prog w).is (.inl i) (.int i t)=true:=xN i t
theorem rJ(prog:Program)(w:World)(x:Str)(t:Tok):(ba prog w).is (.inr x) (.str x t)=true:=xx x t
inductive V where
 |non|bl(b:Bool)|int(i:Int)|str(x:Str)|byt(b:Array UInt8)|flt(b:UInt64)|ref(a:Addr)|ty(n:String)
 deriving DecidableEq
def RelV:V->Value->Prop
 | .non,u=>u=US
 | .bl b,u=>u=VG b
 | .int i,u=>∃t,u=Vf i t
 | .str x,u=>∃t,u=UE x t
 | .byt b,u=>∃t,u=Wx b t
 | .flt b,u=>∃t,u=Wy b t
 | .ref a,u=>u=RD a
 | .ty n,u=>u=WC n
abbrev Vals:List V->List Value->Prop:=Paired RelV
theorem Vals.length{xs:List V}{us:List Value}(r:Vals xs us):xs.length=us.length:=UY r
theorem Vals.get:∀{xs:List V}{us:List Value}{i:Nat}{x:V},Vals xs us->xs[i]?=some x->∃u,us[i]?=some u/\RelV x u
 |_,_,_,_,.nil,e=>by simp at e
 |_,_,0,_,.cons r _,e=>by simp at e;subst e;exact⟨_,rfl,r⟩
 |_,_,i+1,x,.cons _ t,e=>by obtain⟨u,h1,h2⟩:=Vals.get (i:=i) (x:=x) t (by simpa using e);exact⟨u,by simpa using h1,h2⟩
theorem Vals.set{x:V}{u:Value}(r:RelV x u):∀{xs:List V}{us:List Value}(i:Nat),Vals xs us->Vals (xs.set i x) (us.set i u)
 |_,_,_,.nil=>.nil
 |_,_,0,.cons _ t=>.cons r t
 |_,_,i+1,.cons q t=>.cons q (Vals.set r i t)
theorem Vals.append:∀{xs ys:List V}{us ws:List Value},Vals xs us->Vals ys ws->Vals (xs++ys) (us++ws)
 |_,_,_,_,.nil,s=>s
 |_,_,_,_,.cons r t,s=>.cons r (Vals.append t s)
theorem Vals.take:∀{xs:List V}{us:List Value}(n:Nat),Vals xs us->Vals (xs.take n) (us.take n)
 |_,_,0,_=>.nil
 |_,_,_+1,.nil=>.nil
 |_,_,n+1,.cons r t=>.cons r (Vals.take n t)
theorem Vals.drop:∀{xs:List V}{us:List Value}(n:Nat),Vals xs us->Vals (xs.drop n) (us.drop n)
 |_,_,0,r=>r
 |_,_,_+1,.nil=>.nil
 |_,_,n+1,.cons _ t=>Vals.drop n t
def gU:Option V->Option Value->Prop
 |some v,some u=>RelV v u
 |none,none=>True
 |_,_=>False
def KV{D:Type}:List (D×V)->List (D×Value)->Prop:=Paired λ(p:D×V)(q:D×Value)=>p.1=q.1/\RelV p.2 q.2
noncomputable def kV:Key->V
 | .inl i=>.int i
 | .inr x=>.str x
inductive HO where
  |lst(xs:List V)
  |tup(xs:List V)
  |dK(kvs:List (Key×V))|dT(kvs:List (List Key×V))
  |set(S:Int->Bool)(n:Nat)
  |ins(C dx:Addr)(fs:List (Str×V))
  |own(x:Addr)
  |xd(fs:List (Str×V))
  |met(f x:Addr)
  |rng(lo hi:Int)
  |frz(o:Obj)(u:HO)
  |tbl(ps:Array Value)
  |ext(φ:Heap->Prop)
noncomputable abbrev Hp:=Addr->Option HO
noncomputable def upd(H:Hp)(a:Addr)(o:HO):Hp:=λb=>if b=a then some o else H b
variable{H:Hp}
theorem bW{a:Addr}{o:HO}:upd H a o a=some o:=by unfold upd;rw[if_pos rfl]
variable{b:Addr}
theorem aF{a:Addr}{o:HO}(h:b≠a):upd H a o b=H b:=by unfold upd;rw[if_neg h]
theorem LA{a:Addr}{o u:HO}(h:H a=some o)(h':H b=some u)(d:o≠u):a≠b:=by intro e;subst e;rw[h] at h';exact d (Q9 h')
theorem aS{a:Addr}{o:HO}(h:H a=some o)(h':H b=none):a≠b:=by intro e;subst e;rw[h] at h';cases h'
variable{h:Heap}
section
variable(P:Program)(w:World)
def fA(h:Heap)(a:Addr)(items:Array Value):Prop:=∃o,h.get? a=some o/\o.cls=.type "tuple" /\ ∃n,o.data=.seq items n/\o.dict=none
theorem fA.t{a:Addr}{items:Array Value}(x:fA h a items):IsTup h a items:=let ⟨o,e,c,n,d,_⟩:=x;⟨o,e,c,n,d⟩
theorem fA.new(h:Heap)(items:Array Value):fA (h.push { cls:=.type "tuple",data:=.seq items }) h.objs.size items:=⟨_,Ro _ rfl,rfl,_,rfl,rfl⟩
def cb(H:Hp)(h:Heap)(a:Addr):HO->Prop
 | .lst xs=>xs.length<=sizeLine/\∃(its:List Value)(n:Nat),Vals xs its/\h.get? a=some { cls:=.type "list",data:=.seq its.toArray n }
 | .tup xs=>xs.length<=sizeLine/\∃its:List Value,Vals xs its/\fA h a its.toArray
 | .dK kvs=>kvs.length<=sizeLine/\(a==sysModules)=false/\∃vs,KV kvs vs/\h.DictOf (ba P w) a vs
 | .dT kvs=>kvs.length<=sizeLine/\(a==sysModules)=false/\∃xs:List (List Key×Addr×Value),
   Paired (λ(p:List Key×V)(q:List Key×Addr×Value)=>p.1=q.1/\H q.2.1=some (.tup (p.1.map kV))/\RelV p.2 q.2.2) kvs xs /\
   ∃o es ep,h.get? a=some o/\o.ExactDict/\o.data=.dict es ep/\es.toList=xs.map (entryOfKey (tupleKind (ba P w)))/\(xs.map (·.1)).Nodup
 | .set S n=>h.SetOf (intKind P w) a S n
 | .ins C dx fs=>H dx=some (.own a)/\fs.length<=1000/\dx≠a/\h.get? a=some (Sb C dx) /\
   ∃mA,h.Ns1 dx mA/\(∀f,gU (fs.lookup f) (mA f))/\Vk mA (fs.map (·.1))
 | .own _=>∃o,h.get? a=some o
 | .xd fs=>∃mA,h.Ns1 a mA/\∀f,gU (fs.lookup f) (mA f)
 | .rng lo hi=>∃t u v,h.get? a=some { cls:=.type "range",data:=.fields #[.int lo t,.int hi u,.int 1 v] }
 | .frz o u=>h.get? a=some o/\cb H h a u
 | .tbl ps=>h.get? a=some { cls:=.none,data:=.fields ps }
 | .met f x=>h.get? a=some (Uh (.ref f) (.ref x))
 | .ext φ=>φ h/\(∃o,h.get? a=some o)/\∀h1 h2:Heap,φ h1->(∀o,h1.get? a=some o->h2.get? a=some o)->φ h2
def jH(H:Hp)(h:Heap):Prop:=∀a o,H a=some o->cb P w H h a o
end
section
variable{P:Program}{w:World}{H H':Hp}{h h':Heap}{a:Addr}{o:HO}
theorem cb.lt(x:cb P w H h a o):a<h.objs.size:=by
 cases o with
 |lst xs=>obtain⟨_,_,_,_,e⟩:=x;exact Rh e
 |tup xs=>obtain⟨_,_,_,p⟩:=x;exact p.t.lt
 |dK kvs=>obtain⟨_,_,_,_,o,_,_,e,_⟩:=x;exact Rh e
 |dT kvs=>obtain⟨_,_,_,_,o,_,_,e,_⟩:=x;exact Rh e
 |set S n=>obtain⟨o,_,_,_,e,_⟩:=x;exact Rh e
 |ins C dx fs=>obtain⟨_,_,_,e,_⟩:=x;exact Rh e
 |own y=>obtain⟨_,e⟩:=x;exact Rh e
 |xd fs=>obtain⟨_,⟨_,_,_,e,_⟩,_⟩:=x;exact Rh e
 |rng lo hi=>obtain⟨_,_,_,e⟩:=x;exact Rh e
 |frz ob u=>obtain⟨e,_⟩:=x;exact Rh e
 |tbl ps=>exact Rh (show h.get? a=some _ from x)
 |met f y=>exact Rh (show h.get? a=some _ from x)
 |ext φ=>obtain⟨_,⟨_,e⟩,_⟩:=x;exact Rh e
theorem Paired.HX{α β:Type}{F G:α->β->Prop}:∀{e:List α}{g:List β},Paired F e g->(∀a b,F a b->G a b)->Paired G e g
 |_,_,.nil,_=>.nil
 |_,_,.cons r t,f=>.cons (f _ _ r) (Paired.HX t f)
theorem cb.hZ(x:cb P w H h a o)(k:∀b u,(b=a\/H b=some (.own a))->h.get? b=some u->h'.get? b=some u)
  (i:∀b,H b=some (.own a)->H' b=some (.own a))(ht:∀b xs,H b=some (.tup xs)->H' b=some (.tup xs)):cb P w H' h' a o:=by
 induction o with
 |lst xs=>obtain⟨z,its,n,r,e⟩:=x;exact⟨z,its,n,r,k _ _ (.inl rfl) e⟩
 |tup xs=>obtain⟨z,its,r,ob,e,c⟩:=x;exact⟨z,its,r,ob,k _ _ (.inl rfl) e,c⟩
 |dK kvs=>obtain⟨z,y,vs,r,ob,es,ep,e,c⟩:=x;exact⟨z,y,vs,r,ob,es,ep,k _ _ (.inl rfl) e,c⟩
 |dT kvs=>obtain⟨z,y,xs,r,ob,es,ep,e,c⟩:=x;exact⟨z,y,xs,Paired.HX r λp q z=>⟨z.1,ht _ _ z.2.1,z.2.2⟩,ob,es,ep,k _ _ (.inl rfl) e,c⟩
 |set S n=>obtain⟨ob,es,ep,t,e,c⟩:=x;exact⟨ob,es,ep,t,k _ _ (.inl rfl) e,c⟩
 |ins C dx fs=>obtain⟨d,z,ne,e,mA,⟨od,es,ep,j,c⟩,r⟩:=x;exact⟨i _ d,z,ne,k _ _ (.inl rfl) e,mA,⟨od,es,ep,k _ _ (.inr d) j,c⟩,r⟩
 |own y=>obtain⟨ob,e⟩:=x;exact⟨ob,k _ _ (.inl rfl) e⟩
 |xd fs=>obtain⟨mA,⟨od,es,ep,e,c⟩,r⟩:=x;exact⟨mA,⟨od,es,ep,k _ _ (.inl rfl) e,c⟩,r⟩
 |rng lo hi=>obtain⟨t,u,v,e⟩:=x;exact⟨t,u,v,k _ _ (.inl rfl) e⟩
 |frz ob u l=>obtain⟨e,q⟩:=x;exact⟨k _ _ (.inl rfl) e,l q⟩
 |tbl ps=>have e:h.get? a=some { cls:=.none,data:=.fields ps }:=x;show h'.get? a=some { cls:=.none,data:=.fields ps };exact k a _ (.inl rfl) e
 |met f y=>have e:h.get? a=some (Uh (.ref f) (.ref y)):=x;show h'.get? a=some (Uh (.ref f) (.ref y));exact k a _ (.inl rfl) e
 |ext φ=>obtain⟨p,⟨o,e⟩,st⟩:=x;exact⟨st _ _ p λo q=>k _ _ (.inl rfl) q,⟨o,k _ _ (.inl rfl) e⟩,st⟩
theorem jH.lt(x:jH P w H h)(e:H a=some o):a<h.objs.size:=(x a o e).lt
theorem jH.fresh(x:jH P w H h)(e:h.objs.size<=a):H a=none:=by
 cases q:H a with
 |none=>rfl
 |some u=>exact absurd (Q7 (x.lt q) e) (RQ _)
theorem jH.kept(x:jH P w H h)(k:∀b u,h.get? b=some u->h'.get? b=some u):jH P w H h':=λa o e=>(x a o e).hZ (λb u _ q=>k b u q) (λ_ q=>q) λ_ _ q=>q
theorem jH.laid(x:jH P w H h)(k:∀b u,h.get? b=some u->h'.get? b=some u)(hp:h.objs.size<=a)(new:cb P w (upd H a o) h' a o):jH P w (upd H a o) h':=λb u e=>by
 have hn:=x.fresh hp;by_cases d:b=a
 .subst d;rw[bW] at e;cases e;exact new
 .rw[aF d] at e;exact(x b u e).hZ (λc v _ q=>k c v q) (λc q=>by rw[aF (aS q hn)];exact q) λc xs q=>by rw[aF (aS q hn)];exact q
end
def Rd(H:Hp)(a:Addr)(u:HO):Prop:=H a=some u\/∃o,H a=some (.frz o u)
variable{P:Program}{w:World}
theorem Rd.ok{a:Addr}{u:HO}(r:Rd H a u)(x:jH P w H h):cb P w H h a u:=by
 rcases r with r|⟨o,r⟩
 .exact x a u r
 .obtain⟨_,q⟩:=x a _ r;exact q
def Mw:Option HO->Prop
 |some (.lst _)=>True
 |some (.dK _)=>True
 |some (.dT _)=>True
 |some (.set _ _)=>True
 |some (.ins _ _ _)=>True
 |some (.ext _)=>True
 |_=>False
section
variable{P:Program}{w:World}{H:Hp}{h h':Heap}{x e:Addr}{o':HO}
theorem jH.write(ok:jH P w H h)(mu:Mw (H x))(p:e=x\/H e=some (.own x))(k:∀b u,b≠e->h.get? b=some u->h'.get? b=some u)(o:∃u,h'.get? e=some u)
  (new:cb P w (upd H x o') h' x o'):jH P w (upd H x o') h':=λb u q=>by
 have m:∀c y,H c=some (.own y)->c≠x:=λc y r z=>by subst z;rw[r] at mu;exact mu
 have n:∀c xs,H c=some (.tup xs)->c≠x:=λc xs r z=>by subst z;rw[r] at mu;exact mu
 by_cases d:b=x
 .subst d;rw[bW] at q;cases q;exact new
 .rw[aF d] at q;by_cases a:b=e
  .have s:H b=some (.own x):=by
    rcases p with z|z
    .exact absurd (a.trans z) d
    .rw[a];exact z
   rw[q] at s;cases s;obtain⟨v,t⟩:=o;exact⟨v,by rw[a];exact t⟩
  .refine(ok b u q).hZ (λc v hc r=>k c v ?_ r) (λc r=>by rw[aF (m c b r)];exact r) λc xs r=>by rw[aF (n c xs r)];exact r
   rcases hc with rfl|hc
   .exact a
   .rintro rfl;rcases p with z|z
    .exact m c b hc z
    .rw[hc] at z;cases z;exact d rfl
end
structure Un(fs ex:List Addr)(H H':Hp)(h h':Heap):Prop where
 keep:∀b o,h.get? b=some o->H b=none->b∉fs->b∉ex->h'.get? b=some o
 slot:∀b o,h.get? b=some o->H b=none->b∈fs->b∉ex->∃sl,h'.get? b=some { o with slots:=sl }
 free:∀b o,h.get? b=some o->H b=none->b∉ex->H' b=none
 there:∀b o,h.get? b=some o->b∉ex->∃o',h'.get? b=some o'
 tups:∀b xs,H b=some (.tup xs)->H' b=some (.tup xs)
 frzs:∀b o u,H b=some (.frz o u)->H' b=some (.frz o u)
 tbls:∀b ps,H b=some (.tbl ps)->∃more,H' b=some (.tbl (ps++more))
section
variable{fs fs' ex ex':List Addr}{H H1 H2:Hp}{h h1 h2 h':Heap}{a x e:Addr}{o:HO}
theorem Un.any(u:Un fs ex H H1 h h1){ob:Obj}(q:h.get? b=some ob)(n:H b=none)(k:b∉ex):∃sl,h1.get? b=some { ob with slots:=sl }:=by
 by_cases d:b∈fs
 .exact u.slot b ob q n d k
 .exact⟨ob.slots,u.keep b ob q n d k⟩
theorem Un.kept(k:∀b u,h.get? b=some u->h'.get? b=some u):Un fs ex H H h h':=
 ⟨λb ob q _ _ _=>k b ob q,λb ob q _ _ _=>⟨ob.slots,k b ob q⟩,λ_ _ _ n _=>n,λb ob q _=>⟨ob,k b ob q⟩,λ_ _ q=>q,λ_ _ _ q=>q,λ_ ps q=>⟨#[],by rw[q];simp⟩⟩
theorem Un.refl:Un fs ex H H h h:=Un.kept λ_ _ q=>q
theorem Un.laid(k:∀b u,h.get? b=some u->h'.get? b=some u)(hp:h.objs.size<=a)(hn:H a=none):Un fs ex H (upd H a o) h h' where
 keep:=λb u q _ _ _=>k b u q
 slot:=λb u q _ _ _=>⟨u.slots,k b u q⟩
 free:=λb u q n _=>by rw[aF (Ru (Q7 (Rh q) hp))];exact n
 there:=λb u q _=>⟨u,k b u q⟩
 tups:=λb xs q=>by rw[aF (aS q hn)];exact q
 frzs:=λb u xs q=>by rw[aF (aS q hn)];exact q
 tbls:=λb ps q=>⟨#[],by rw[aF (aS q hn),q];simp⟩
theorem Un.write(mu:Mw (H x))(p:e=x\/H e=some (.own x))(k:∀b u,b≠e->h.get? b=some u->h'.get? b=some u)(v:∃u,h'.get? e=some u):Un fs ex H (upd H x o) h h':=by
 have w:∀b,H b=none->b≠x:=λb n z=>by subst z;rw[n] at mu;exact mu
 have d:∀b,H b=none->b≠e:=λb n z=>by
  subst z;rcases p with r|r
  .exact w b n r
  .rw[n] at r;cases r
 have hm:∀b u,H b=some u->¬ Mw (some u)->b≠x:=λb u q nm z=>by subst z;rw[q] at mu;exact nm mu
 refine⟨λb u q n _ _=>k b u (d b n) q,λb u q n _ _=>⟨u.slots,k b u (d b n) q⟩,λb u q n _=>by rw[aF (w b n)];exact n,λb u q _=>?_,
  λb xs q=>by rw[aF (hm b _ q λz=>z)];exact q,λb u xs q=>by rw[aF (hm b _ q λz=>z)];exact q,λb ps q=>⟨#[],by rw[aF (hm b _ q λz=>z),q];simp⟩⟩
 by_cases a:b=e
 .subst a;exact v
 .exact⟨u,k b u a q⟩
end
noncomputable def Ox(h:Heap)(H:Hp):List Addr:=(Sg h.objs.size).filter λa=>(H a).isSome
def qc(h:Heap)(H:Hp):Heap:=PySem.W.hideAll h (Ox h H)
theorem wQ(h:Heap)(H:Hp):(qc h H).objs.size=h.objs.size:=PySem.W.hideAll_size _ _
variable{o:Obj}
theorem zx(e:h.get? b=some o)(n:H b=none):(qc h H).get? b=some o:=
 PySem.W.hideAll_get _ e λhm=>by have q:(H b).isSome=true:=(SK.mp hm).2;rw[n] at q;simp at q
theorem C8(e:(qc h H).get? b=some o):h.get? b=some o/\H b=none:=by
 have r:h.get? b=some o:=PySem.W.of_hideAll (Ox h H) e;refine⟨r,?_⟩;cases q:H b with
 |none=>rfl
 |some x=>have hm:b∈Ox h H:=SK.mpr ⟨SS.mpr (Rh r),by simp[q]⟩;have z:(qc h H).get? b=none:=PySem.W.hideAll_none (Ox h H) hm;rw[z] at e;cases e
noncomputable def Ef(g h:Heap)(L:Addr):List (Addr×Obj):=(Sg h.objs.size).filterMap λa=>if a=L\/(g.get? a).isSome=true then none else (h.get? a).map λo=>(a,o)
def rest(g h:Heap)(L d:Addr):List (Addr×Obj):=(Ef g h L).filter λp=>decide (p.1≠d)
structure Mod(K:QU)(mg:Str->Option Value)(base:Heap):Prop where
 kin:K.In base
 glob:base.Ns mainGlobals mg
 blt:∃mb,base.Ns builtinsNs mb/\∀x:Str,x ≠ "__name__" -> mb x=bootBuiltins x
 nolimit:base.NoLimit
structure Cx where
 prog:Program
 w:World
 K:QU
 mg:Str->Option Value
 base:Heap
 A:Around
 N:List Str
 s₀:Shared
 H₀:Hp
 env:Env
 outer:List Env
 stack:List Env
 ex:List Addr
 fn:Str->Bool
 calm:Bool
 pn:List (Addr×Obj)
 xe:Value->Shared->Prop
noncomputable def lR(l:List Env):List Addr:=l.filterMap (·.frame)
abbrev Cx.fs(X:Cx):List Addr:=lR X.outer
def nY(sc:Scope)(x:Str):Prop:=sc.names.lookup x=some .local\/sc.names.lookup x=some .cell\/sc.names.lookup x=some .free
def Loc(sc:Scope)(x:Str):Prop:=sc.names.lookup x=some .local\/sc.names.lookup x=some .cell
def Look(env:Env)(h:Heap)(m:Str->Option Value)(x:Str)(u:Value):Prop:=
 (env.kindOf x=some .local/\m x=some u)\/((env.kindOf x=some .cell\/env.kindOf x=some .free)/\∃c,env.cells.lookup x=some c/\h.IsCell c (some u))
structure Cx.Ok(X:Cx):Prop where
 mod:Mod X.K X.mg X.base
 kind:X.env.scope.kind=.function
 glob:X.env.globals=mainGlobals
 blt:X.env.builtins=builtinsNs
 above:X.s₀.heap.objs.size<=X.env.locals
 inj:∀x y c,X.env.cells.lookup x=some c->X.env.cells.lookup y=some c->x=y
 has:∀x,(X.env.kindOf x=some .cell\/X.env.kindOf x=some .free)->∃c,X.env.cells.lookup x=some c
 cab:∀x c,X.fn x=true->X.env.cells.lookup x=some c->X.s₀.heap.objs.size<=c
 hd:X.calm=true->X.A.handled=none
 frames:X.A.frames=some X.stack
 stk:X.stack=X.outer\/(X.stack=X.env::X.outer/\X.env.frame=some X.env.locals)
 exf:∀b∈X.ex,b≠X.env.locals/\∀x c,X.env.cells.lookup x=some c->c≠b
 bs:∀b o,X.base.get? b=some o->X.s₀.heap.get? b=some o/\X.H₀ b=none
 bsz:X.base.objs.size<=X.s₀.heap.objs.size
 noex:∀b o,X.base.get? b=some o->b∉X.ex
 exfs:∀b∈X.ex,b∉X.fs
 n9:X.s₀.heap.FunFrames X.base X.outer
 frf:∀b∈X.fs,X.H₀ b=none
structure Inv(X:Cx)(pins:List (Addr×Obj))(Y:List (Option V))(H:Hp)(s:Shared):Prop where
 ok:X.Ok
 os:s.os=X.s₀.os
 bare:AllBare s.gens
 base:Un X.fs X.ex X.H₀ H X.s₀.heap s.heap
 loc:∃m,s.heap.Ns X.env.locals m/\∀(i:Nat)(x:Str)(v:V),X.N[i]?=some x->Y[i]?=some (some v)->nY X.env.scope x->∃u,RelV v u/\Look X.env s.heap m x u
 cell:∀x c,X.env.cells.lookup x=some c->∃v,s.heap.IsCell c v
 free:H X.env.locals=none
 freeC:∀x c,X.env.cells.lookup x=some c->H c=none
 pin:∀p∈X.pn++pins,s.heap.get? p.1=some p.2/\H p.1=none/\p.1≠X.env.locals/\p.1∉X.fs/\∀v,p.2.data≠.cell v
 hok:jH X.prog X.w H s.heap
 len:Y.length=X.N.length
variable{g':Array GenState}{t' i j:Nat}{d':Drawn}{ch:List Addr}{it:Addr}{N:List Str}{x:Str}{E:Value->Shared->Prop}{v:V}{u:Value}
section
variable{X:Cx}{pins:List (Addr×Obj)}{Y:List (Option V)}{H H':Hp}{s:Shared}{h':Heap}
theorem Cx.Ok.O2(ok:X.Ok)(e:X.base.get? b=some o):b∉X.fs:=λd=>by have:=(ok.n9.mem d).1;rw[e] at this;cases this
theorem Inv.bs(I:Inv X pins Y H s):∀b o,X.base.get? b=some o->s.heap.get? b=some o/\H b=none:=λb o e=>⟨I.base.keep b o (I.ok.bs b o e).1 (I.ok.bs b o e).2 (I.ok.O2 e) (I.ok.noex b o e),I.base.free b o (I.ok.bs b o e).1 (I.ok.bs b o e).2 (I.ok.noex b o e)⟩
theorem Inv.bk(I:Inv X pins Y H s):∀b o,X.base.get? b=some o->s.heap.get? b=some o:=λb o e=>(I.bs b o e).1
theorem Inv.mod(I:Inv X pins Y H s):Mod X.K X.mg X.base:=I.ok.mod
theorem Inv.sS(I:Inv X pins Y H s):X.K.In s.heap:=I.ok.mod.kin.keeps I.bk
theorem Inv.lt(I:Inv X pins Y H s):X.env.locals<s.heap.objs.size:=let ⟨_,hn,_⟩:=I.loc;hn.lt
theorem Inv.sz(I:Inv X pins Y H s):X.s₀.heap.objs.size<=s.heap.objs.size:=Rm I.ok.above (S0 I.lt)
theorem Inv.Ll(I:Inv X pins Y H s){a:Addr}(h:s.heap.objs.size<=a):a∉X.fs:=λd=>by obtain⟨_,o,i,_⟩:=I.ok.n9.mem d;exact absurd (Q7 (Rh i) (Rm I.sz h)) (RQ _)
theorem Inv.IZ(I:Inv X pins Y H s):∀x c,X.env.cells.lookup x=some c->c≠X.env.locals:=λx c e z=>by obtain⟨v,o,i,hd⟩:=I.cell x c e;obtain⟨m,⟨o',es,ep,b,h,_⟩,_⟩:=I.loc;rw[z,b] at i;cases i;rw[h] at hd;cases hd
theorem Inv.n9(I:Inv X pins Y H s):s.heap.FunFrames X.base X.outer:=by
 have all:∀(l:List Env),(∀b∈lR l,b∈X.fs)->X.s₀.heap.FunFrames X.base l->s.heap.FunFrames X.base l:=by
  intro l;induction l with
  |nil=>intro _ _;trivial
  |cons env r x=>intro u hl;obtain⟨hk,⟨L,o,hf,hn,i,hd⟩,y⟩:=hl;have q:L∈X.fs:=u L (by unfold lR;rw[Te,hf];exact Rb);obtain⟨sl,e⟩:=I.base.slot L o i (I.ok.frf L q) q λz=>I.ok.exfs L z q;exact⟨hk,⟨L,_,hf,hn,e,hd⟩,x (λb d=>u b (by unfold lR;rw[Te,hf];exact Q4 _ d)) y⟩
 exact all X.outer (λ_ d=>d) I.ok.n9
theorem Inv.stack(I:Inv X pins Y H s):s.heap.FunFrames X.base X.stack:=by
 rcases I.ok.stk with e|⟨e,hf⟩
 .rw[e];exact I.n9
 .rw[e];obtain⟨m,hn,_⟩:=I.loc;refine .cons (by rw[I.ok.kind];decide) hf hn ?_ I.n9;exact Ub (Rm I.ok.bsz I.ok.above)
theorem Inv.kI(I:Inv X pins Y H s):∀b∈lR X.stack,b∈X.env.locals::X.fs:=λb d=>by
 rcases I.ok.stk with e|⟨e,hf⟩
 .rw[e] at d;exact Q4 _ d
 .rw[e] at d;unfold lR at d;rw[Te,hf] at d;exact d
theorem Inv.vc(I:Inv X pins Y H s):∀b∈lR X.stack,H b=none:=λb d=>by
 rcases Ra.mp (I.kI b d) with e|d
 .rw[e];exact I.free
 .obtain⟨_,o,i,_⟩:=I.ok.n9.mem d;exact I.base.free b o i (I.ok.frf b d) λz=>I.ok.exfs b z d
theorem Inv.step(I:Inv X pins Y H s)
  (B:∀b∈ch,(b∈X.ex\/X.s₀.heap.objs.size<=b)/\b≠X.env.locals/\(∀x c,X.env.cells.lookup x=some c->c≠b)/\∀p∈X.pn++pins,p.1≠b)
  (keep:∀b o,b≠X.env.locals->b∉X.fs->b∉ch->s.heap.get? b=some o->H b=none->h'.get? b=some o)
  (slot:∀b o,b≠X.env.locals->b∈X.fs->b∉ch->s.heap.get? b=some o->H b=none->∃sl,h'.get? b=some { o with slots:=sl })(free:∀b o,b∉ch->s.heap.get? b=some o->H b=none->H' b=none)
  (there:∀b o,b∉ch->s.heap.get? b=some o->∃o',h'.get? b=some o')
  (tups:∀b xs,H b=some (.tup xs)->H' b=some (.tup xs))(frzs:∀b o u,H b=some (.frz o u)->H' b=some (.frz o u))(tbls:∀b ps,H b=some (.tbl ps)->∃more,H' b=some (.tbl (ps++more)))
  (ns:∀m,s.heap.Ns X.env.locals m->h'.Ns X.env.locals m)(hok:jH X.prog X.w H' h')(N:AllBare g'):
  Inv X pins Y H' { s with heap:=h',gens:=g',drawn:=d',toks:=t' }:=by
 have K:∀b o,X.s₀.heap.get? b=some o->b≠X.env.locals:=λb o e=>Ru (Q7 (Rh e) I.ok.above);have E:∀b o,X.s₀.heap.get? b=some o->b∉X.ex->b∉ch:=λb o e A G=>by
  rcases(B b G).1 with z|z
  .exact A z
  .exact absurd (Q7 (Rh e) z) (RQ _)
 have C:∀x c,X.env.cells.lookup x=some c->∀v,s.heap.IsCell c v->h'.IsCell c v:=λx c e v ⟨o,J,hd⟩=>by
  have D:c∉ch:=λz=>(B c z).2.2.1 x c e rfl;by_cases hc:c∈X.fs
  .obtain⟨sl,q⟩:=slot c o (I.IZ x c e) hc D J (I.freeC x c e);exact⟨_,q,hd⟩
  .exact⟨o,keep c o (I.IZ x c e) hc D J (I.freeC x c e),hd⟩
 refine⟨I.ok,I.os,N,⟨λb o e n G A=>?_,λb o e n G A=>?_,λb o e n A=>?_,λb o e A=>?_,λb xs e=>tups b xs (I.base.tups b xs e),λb o xs e=>frzs b o xs (I.base.frzs b o xs e),λb ps e=>?_⟩,?_,λx c e=>?_,?_,λx c e=>?_,λp hp=>?_,hok,I.len⟩
 .exact keep b o (K b o e) G (E b o e A) (I.base.keep b o e n G A) (I.base.free b o e n A)
 .obtain⟨sl,F⟩:=I.base.slot b o e n G A;obtain⟨L,j⟩:=slot b _ (K b o e) G (E b o e A) F (I.base.free b o e n A);exact⟨L,j⟩
 .obtain⟨o',F⟩:=I.base.there b o e A;exact free b o' (E b o e A) F (I.base.free b o e n A)
 .obtain⟨o',F⟩:=I.base.there b o e A;exact there b o' (E b o e A) F
 .obtain⟨O,F⟩:=I.base.tbls b ps e;obtain⟨P,j⟩:=tbls b _ F;exact⟨O++P,by rw[j,Array.append_assoc]⟩
 .obtain⟨m,hn,hl⟩:=I.loc;refine⟨m,ns m hn,λi x v F j Q=>?_⟩;obtain⟨u,r,l⟩:=hl i x v F j Q;refine⟨u,r,?_⟩;rcases l with l|⟨k,c,e,z⟩
  .exact .inl l
  .exact .inr ⟨k,c,e,C x c e _ z⟩
 .obtain⟨v,z⟩:=I.cell x c e;exact⟨v,C x c e v z⟩
 .obtain⟨m,⟨o,_,_,J,_⟩,_⟩:=I.loc;exact free _ o (λz=>(B _ z).2.1 rfl) J I.free
 .obtain⟨v,o,J,hd⟩:=I.cell x c e;exact free c o (λz=>(B c z).2.2.1 x c e rfl) J (I.freeC x c e)
 .obtain⟨e,n,ne,nf,d⟩:=I.pin p hp;have D:p.1∉ch:=λz=>(B p.1 z).2.2.2 p hp rfl;exact⟨keep p.1 p.2 ne nf D e n,free p.1 p.2 D e n,ne,nf,d⟩
theorem Inv.un(I:Inv X pins Y H s)(u:Un X.fs [] H H' s.heap h')(hok:jH X.prog X.w H' h'):Inv X pins Y H' { s with heap:=h',toks:=t' }:=by
 obtain⟨m,⟨o,es,ep,i,r⟩,_⟩:=id I.loc;obtain⟨sl,q⟩:=u.any i I.free (by simp);exact I.step (g':=s.gens) (d':=s.drawn) (ch:=[]) (λ_ z=>nomatch z) (λb o _ d _ e n=>u.keep b o e n d (by simp)) (λb o _ d _ e n=>u.slot b o e n d (by simp)) (λb o _ e n=>u.free b o e n (by simp)) (λb o _ e=>u.there b o e (by simp)) u.tups u.frzs u.tbls (λU hm=>by obtain⟨o',S,T,R,r'⟩:=hm;rw[i] at R;cases R;exact⟨_,S,T,q,r'⟩) hok I.bare
theorem Inv.call(I:Inv X pins Y H s)(u:Un (lR X.stack) ch H H' s.heap h')(hok:jH X.prog X.w H' h')(N:AllBare g')
  (B:∀b∈ch,(b∈X.ex\/X.s₀.heap.objs.size<=b)/\b≠X.env.locals/\(∀x c,X.env.cells.lookup x=some c->c≠b)/\∀p∈X.pn++pins,p.1≠b):
  Inv X pins Y H' { s with heap:=h',gens:=g',drawn:=d',toks:=t' }:=by
 obtain⟨m,⟨o,es,ep,i,r⟩,_⟩:=id I.loc;obtain⟨sl,q⟩:=u.any i I.free λz=>(B _ z).2.1 rfl;exact I.step (ch:=ch) B (λb o q d hc e n=>u.keep b o e n (λz=>(Ra.mp (I.kI b z)).elim q d) hc) (λb o _ _ hc e n=>u.any e n hc) (λb o hc e n=>u.free b o e n hc) (λb o hc e=>u.there b o e hc) u.tups u.frzs u.tbls (λU hm=>by obtain⟨o',S,T,R,r'⟩:=hm;rw[i] at R;cases R;exact⟨_,S,T,q,r'⟩) hok N
theorem Inv.turned(I:Inv X pins Y H s)(k:∀b o,b≠it->s.heap.get? b=some o->h'.get? b=some o)(hn:H it=none)(Z:it≠X.env.locals)
  (h1:it∈X.ex\/X.s₀.heap.objs.size<=it)(h2:∀x c,X.env.cells.lookup x=some c->c≠it)(h3:∀p∈X.pn++pins,p.1≠it):Inv X pins Y H { s with heap:=h',toks:=t' }:=by
 have V:∀b u,H b=some u->b≠it:=λb u e z=>by rw[z,hn] at e;cases e
 refine I.step (g':=s.gens) (d':=s.drawn) (ch:=[it]) (λb d=>?_) (λb o _ _ hc e _=>k b o (λz=>hc (by simp[z])) e) (λb o _ _ hc e _=>⟨o.slots,k b o (λz=>hc (by simp[z])) e⟩) (λ_ _ _ _ n=>n)
  (λb o hc e=>⟨o,k b o (λz=>hc (by simp[z])) e⟩) (λ_ _ e=>e) (λ_ _ _ e=>e) (λb ps e=>⟨#[],by rw[e];simp⟩) (λm hm=>?_) (λb u e=>?_) I.bare
 .have e:b=it:=by simpa using d
  subst e;exact⟨h1,Z,h2,h3⟩
 .obtain⟨o,es,ep,i,r⟩:=hm;exact⟨o,es,ep,k _ o (Sd Z) i,r⟩
 .refine(I.hok b u e).hZ (λc v hc q=>k c v ?_ q) (λ_ q=>q) λ_ _ q=>q;rcases hc with z|z
  .rw[z];exact V b u e
  .exact V c _ z
theorem Inv.tok(I:Inv X pins Y H s)(t:Nat):Inv X pins Y H { s with toks:=t }:=I.un (h':=s.heap) (t':=t) Un.refl I.hok
theorem Inv.kept{t':Nat}(I:Inv X pins Y H s)(k:∀b u,s.heap.get? b=some u->h'.get? b=some u):Inv X pins Y H { s with heap:=h',toks:=t' }:=I.un (Un.kept k) (I.hok.kept k)
theorem Inv.laid{a:Addr}{o:HO}{t':Nat}(I:Inv X pins Y H s)(k:∀b u,s.heap.get? b=some u->h'.get? b=some u)(hp:s.heap.objs.size<=a)(new:cb X.prog X.w (upd H a o) h' a o):
  Inv X pins Y (upd H a o) { s with heap:=h',toks:=t' }:=I.un (Un.laid k hp (I.hok.fresh hp)) (I.hok.laid k hp new)
theorem Inv.write{x e:Addr}{o:HO}{t':Nat}(I:Inv X pins Y H s)(mu:Mw (H x))(p:e=x\/H e=some (.own x))(k:∀b u,b≠e->s.heap.get? b=some u->h'.get? b=some u)(v:∃u,h'.get? e=some u)
  (new:cb X.prog X.w (upd H x o) h' x o):Inv X pins Y (upd H x o) { s with heap:=h',toks:=t' }:=I.un (Un.write mu p k v) (I.hok.write mu p k v new)
theorem Inv.qN{b:List (Addr×Obj)}(I:Inv X pins Y H s)(h:∀p∈b,s.heap.get? p.1=some p.2/\H p.1=none/\p.1≠X.env.locals/\p.1∉X.fs/\∀v,p.2.data≠.cell v):Inv X b Y H s:=
 ⟨I.ok,I.os,I.bare,I.base,I.loc,I.cell,I.free,I.freeC,λp hp=>(QW.mp hp).elim (λz=>I.pin p (QX _ z)) (h p),I.hok,I.len⟩
theorem sv(z:N.Nodup)(a:N[i]?=some x)(b:N[j]?=some x):i=j:=by obtain⟨h1,F⟩:=Q2.mp a;obtain⟨h2,H⟩:=Q2.mp b;exact(List.getElem_inj z).mp (F.trans H.symm)
theorem pC{M:Model}{A:Around}{Q:Unit->Shared->Prop}(I:Inv X pins Y H s)(hN:X.N.Nodup)(hi:X.N[i]?=some x)(hx:Loc X.env.scope x)(r:RelV v u)
  (h:∀s',Inv X pins (Y.set i (some v)) H s'->(∃a,TN a s.heap s'.heap/\(a=X.env.locals\/X.env.cells.lookup x=some a))->Q () s')(hf:X.fn x=true\/X.env.scope.names.lookup x=some .local:=by first|exact .inl rfl|exact .inr rfl|assumption):wpAny M A (storeName X.env x u) Q E s:=by
 obtain⟨m,hn,hl⟩:=id I.loc;have hcls:(X.env.scope.kind==.class || (X.env.scope.kind==.module&&X.env.locals != X.env.globals))=false:=by rw[I.ok.kind];rfl
 have hiσ:i<Y.length:=by rw[I.len];exact(Q2.mp hi).1
 have IZ:=I.IZ;have tracked:∀{a:Addr}{h':Heap},(∃o,s.heap.get? a=some o/\H a=none)->TN a s.heap h'->jH X.prog X.w H h':=λ{a h'} ha hs b ob e=>by
  obtain⟨_,_,hfree⟩:=ha;refine(I.hok b ob e).hZ (λc w' hc q=>(hs.2 c ?_).trans q) (λ_ q=>q) λ_ _ q=>q;rintro rfl;rcases hc with rfl|hc
  .rw[hfree] at e;cases e
  .rw[hfree] at hc;cases hc
 rcases hx with hk|hk
 .refine wpAny_storeName_local hk hn (λh' hn' hs=>?_) hcls;obtain⟨oL,_,_,hoL,_⟩:=id hn;refine h _ ⟨I.ok,I.os,I.bare,⟨λb o e n hb hx=>?_,λb o e n hb hx=>?_,I.base.free,λb o e hx=>?_,I.base.tups,I.base.frzs,I.base.tbls⟩,⟨_,hn',λj y v' e1 e2 e3=>?_⟩,λy c e=>?_,I.free,I.freeC,λp hp=>?_,tracked ⟨oL,hoL,I.free⟩ hs,by simpa using I.len⟩ ⟨_,hs,.inl rfl⟩
  .exact(hs.2 b (Ru (Q7 (Rh e) I.ok.above))).trans (I.base.keep b o e n hb hx)
  .obtain⟨sl,e1⟩:=I.base.slot b o e n hb hx;exact⟨sl,(hs.2 b (Ru (Q7 (Rh e) I.ok.above))).trans e1⟩
  .obtain⟨o',e1⟩:=I.base.there b o e hx;exact⟨o',(hs.2 b (Ru (Q7 (Rh e) I.ok.above))).trans e1⟩
  .by_cases hj:j=i
   .subst hj;rw[hi] at e1;cases e1;rw[Rp hiσ] at e2;cases e2;exact⟨u,r,.inl ⟨hk,by simp⟩⟩
   .rw[Rz (Sd hj)] at e2;obtain⟨u',r',q⟩:=hl j y v' e1 e2 e3;refine⟨u',r',?_⟩;rcases q with ⟨k,e⟩|⟨k,c,e,z⟩
    .refine .inl ⟨k,?_⟩;have:y≠x:=λe=>hj (sv hN e1 (e▸hi));simp[this,e]
    .exact .inr ⟨k,c,e,z.sameBut hs (IZ y c e)⟩
  .obtain⟨w',z⟩:=I.cell y c e;exact⟨w',z.sameBut hs (IZ y c e)⟩
  .obtain⟨e,n,ne,nf,d⟩:=I.pin p hp;exact⟨(hs.2 p.1 ne).trans e,n,ne,nf,d⟩
 .have hfn:X.fn x=true:=by
   rcases hf with z|z
   .exact z
   .rw[z] at hk;cases hk
  obtain⟨c,hc⟩:=I.ok.has x (.inl hk);obtain⟨w',z⟩:=I.cell x c hc;refine wpAny_storeName_cell I.ok.kind hk hc z (λh' hc' hs=>?_);obtain⟨oc,hoc,hocd⟩:=id z;refine h { s with heap:=h' } ⟨I.ok,I.os,I.bare,⟨λb o e n hb hx=>?_,λb o e n hb hx=>?_,I.base.free,λb o e hx=>?_,I.base.tups,I.base.frzs,I.base.tbls⟩,⟨m,hn.sameBut hs (Sd (IZ x c hc)),λj y v' e1 e2 e3=>?_⟩,λy c' e=>?_,I.free,I.freeC,λp hp=>?_,tracked ⟨oc,hoc,I.freeC x c hc⟩ hs,by simpa using I.len⟩ ⟨c,hs,.inr hc⟩
  .exact(hs.2 b (Ru (Q7 (Rh e) (I.ok.cab x c hfn hc)))).trans (I.base.keep b o e n hb hx)
  .obtain⟨sl,e1⟩:=I.base.slot b o e n hb hx;exact⟨sl,(hs.2 b (Ru (Q7 (Rh e) (I.ok.cab x c hfn hc)))).trans e1⟩
  .obtain⟨o',e1⟩:=I.base.there b o e hx;exact⟨o',(hs.2 b (Ru (Q7 (Rh e) (I.ok.cab x c hfn hc)))).trans e1⟩
  .by_cases hj:j=i
   .subst hj;rw[hi] at e1;cases e1;rw[Rp hiσ] at e2;cases e2;exact⟨u,r,.inr ⟨.inl hk,c,hc,hc'⟩⟩
   .rw[Rz (Sd hj)] at e2;obtain⟨u',r',q⟩:=hl j y v' e1 e2 e3;refine⟨u',r',?_⟩;rcases q with q|⟨k,c',e,z'⟩
    .exact .inl q
    .refine .inr ⟨k,c',e,z'.sameBut hs ?_⟩;rintro rfl;exact hj (sv hN e1 (I.ok.inj _ _ _ e hc▸hi))
  .by_cases hcc:c'=c
   .subst hcc;exact⟨_,hc'⟩
   .obtain⟨w2,z2⟩:=I.cell y c' e;exact⟨w2,z2.sameBut hs hcc⟩
  .obtain⟨e,n,ne,nf,d⟩:=I.pin p hp;refine⟨(hs.2 p.1 ?_).trans e,n,ne,nf,d⟩;intro q;rw[q,hoc] at e;have q':oc=p.2:=Q9 e;exact d w' (by rw[<-q'];exact hocd)
theorem jZ{M:Model}{A:Around}{Q:Unit->Shared->Prop}(I:Inv X pins Y H s)(hN:X.N.Nodup)(hi:X.N[i]?=some x)(hx:Loc X.env.scope x)(r:RelV v u)
  (h:∀s',Inv X pins (Y.set i (some v)) H s'->Q () s')(hf:X.fn x=true\/X.env.scope.names.lookup x=some .local:=by first|exact .inl rfl|exact .inr rfl|assumption):wpAny M A (storeName X.env x u) Q E s:=
 pC I hN hi hx r (λs' I' _=>h s' I') hf
theorem Inv.Lx{s':Shared}(I:Inv X pins Y H s)(i:s'.os=s.os)(u:Un (lR X.stack) ch H H' s.heap s'.heap)(hok:jH X.prog X.w H' s'.heap)(N:AllBare s'.gens)
  (B:∀b∈ch,(b∈X.ex\/X.s₀.heap.objs.size<=b)/\b≠X.env.locals/\(∀x c,X.env.cells.lookup x=some c->c≠b)/\∀p∈X.pn++pins,p.1≠b):Inv X pins Y H' s':=by
 obtain⟨h',g',d',t',o'⟩:=s';have e:o'=s.os:=i;subst e;exact I.call (g':=g') (t':=t') (d':=d') u hok N B
end
abbrev XK:=Value->Option Addr->Hp->Prop
noncomputable abbrev St:=List (Option V)
abbrev VK:=V->Hp->Prop
abbrev TE:=St->Hp->VK->Prop
abbrev TT:=St->Hp->(Bool->Hp->Prop)->Prop
abbrev TA:=St->Hp->(List V->Hp->Prop)->Prop
structure Ends where
 nx:St->Hp->Prop
 rt:VK
 bk:St->Hp->Prop:=λ_ _=>False
 ct:St->Hp->Prop:=λ_ _=>False
abbrev TS:=Ends->St->Hp->Prop
inductive EP(X:Cx)(pins:List (Addr×Obj))(Y:St)(Q:VK)(u:Value)(s':Shared):Prop
 |mk(v:V)(H':Hp)(i:Inv X pins Y H' s')(r:RelV v u)(q:Q v H')
inductive TP(X:Cx)(pins:List (Addr×Obj))(Y:St)(Q:Bool->Hp->Prop)(b:Bool)(s':Shared):Prop
 |mk(H':Hp)(i:Inv X pins Y H' s')(q:Q b H')
inductive AP(X:Cx)(pins:List (Addr×Obj))(Y:St)(Q:List V->Hp->Prop)(us:List Value)(s':Shared):Prop
 |mk(vs:List V)(H':Hp)(i:Inv X pins Y H' s')(r:Vals vs us)(q:Q vs H')
def SP(X:Cx)(pins:List (Addr×Obj))(D:Ends)(f:Flow)(s':Shared):Prop:=
 match f with
 | .next=>∃Z0 H',Inv X pins Z0 H' s'/\D.nx Z0 H'
 | .brk=>∃Z0 H',Inv X pins Z0 H' s'/\D.bk Z0 H'
 | .cont=>∃Z0 H',Inv X pins Z0 H' s'/\D.ct Z0 H'
 | .ret u=>∃v Z0 H',Inv X pins Z0 H' s'/\RelV v u/\D.rt v H'
def PE(X:Cx)(e:Expr)(t:TE):Prop:=
 ∀(pins:List (Addr×Obj))(s:Shared)(Y:St)(H:Hp)(Q:VK),Inv X pins Y H s->t Y H Q->wpAny (model X.prog X.w) X.A (eval e X.env) (EP X pins Y Q) X.xe s
def PT(X:Cx)(e:Expr)(t:TT):Prop:=
 ∀(pins:List (Addr×Obj))(s:Shared)(Y:St)(H:Hp)(Q:Bool->Hp->Prop),Inv X pins Y H s->t Y H Q->wpAny (model X.prog X.w) X.A (isTrue e X.env (eval e X.env)) (TP X pins Y Q) X.xe s
def PW(X:Cx)(e:Expr)(t:TT):Prop:=
 ∀(I:Sem Value)(pins:List (Addr×Obj))(s:Shared)(Y:St)(H:Hp)(Q:Bool->Hp->Prop),Inv X pins Y H s->t Y H Q->wpAny (model X.prog X.w) X.A (isTrue e X.env I) (TP X pins Y Q) X.xe s
variable{X:Cx}{e:Expr}
theorem PW.pt{t:TT}(h:PW X e t):PT X e t:=h _
def PA(X:Cx)(es:List Expr)(t:TA):Prop:=
 ∀(pos:Pos)(pins:List (Addr×Obj))(s:Shared)(Y:St)(H:Hp)(Q:List V->Hp->Prop),Inv X pins Y H s->t Y H Q->wpAny (model X.prog X.w) X.A (spliced (backTo pos (starEach es X.env))) (AP X pins Y Q) X.xe s
def PS(X:Cx)(st:Stmt)(t:TS):Prop:=
 ∀(pins:List (Addr×Obj))(s:Shared)(Y:St)(H:Hp)(D:Ends),Inv X pins Y H s->t D Y H->wpAny (model X.prog X.w) X.A (exec st X.env) (SP X pins D) X.xe s
def sT(X:Cx)(st:List Stmt)(t:TS):Prop:=
 ∀(pins:List (Addr×Obj))(s:Shared)(Y:St)(H:Hp)(D:Ends),Inv X pins Y H s->t D Y H->wpAny (model X.prog X.w) X.A (execs st X.env) (SP X pins D) X.xe s
variable{α:Type}{s:Shared}
theorem bN{t:Sem α}{Q X:α->Shared->Prop}{M:Model}{A:Around}(h:wpAny M A t Q E s)(Y:∀a s,Q a s->X a s):wpAny M A t X E s:=wpAny_mono h Y λ_ _ x=>x
variable{pins:List (Addr×Obj)}{Y:St}{R:V->V->Hp->Prop}{pos:Pos}{Q:Value->Shared->Prop}{op:CmpOp}{c:Expr}
section
variable{X:Cx}
theorem bin{a b:Expr}{ta tb:TE}(ha:PE X a ta)(d:PE X b tb)(I:Inv X pins Y H s)(h:ta Y H λx e=>tb Y e λy c=>R x y c)
  {Q:α->Shared->Prop}{f:Value->Value->Sem α}
  (hf:∀v u s2 x y c,Inv X pins Y c s2->RelV x v->RelV y u->R x y c->wpAny (model X.prog X.w) X.A (f v u) Q X.xe s2):
  wpAny (model X.prog X.w) X.A (eval a X.env) (λv Z=>wpAny (model X.prog X.w) X.A (eval b X.env) (λu U=>wpAny (model X.prog X.w) X.A (f v u) Q X.xe U) X.xe Z) X.xe s:=by
 refine bN (ha pins s Y H _ I h) λv s1 ⟨x,e,g,k,l⟩=>?_;refine bN (d pins s1 Y e _ g l) λu s2 ⟨y,c,m,n,o⟩=>?_;exact hf v u s2 x y c m k n o
noncomputable def Ew(i:Nat):TE:=λY H Q=>∃v,Y[i]?=some (some v)/\Q v H
noncomputable def tC(v:V):TE:=λ_ H Q=>Q v H
theorem cD(hN:X.N[i]?=some x)(hv:nY X.env.scope x)(hd:gP x:=by decide)(hcd:p4 x:=by decide):PE X (.Name x pos) (Ew i):=by
 intro pins s Y H Q I h;obtain⟨v,e,h⟩:=h;obtain⟨m,hn,hl⟩:=I.loc;obtain⟨u,r,l⟩:=hl i x v hN e hv;have fin:EP X pins Y Q u s:=⟨v,H,I,r,h⟩
 rcases l with ⟨hk,hm⟩|⟨hk,c,hc,hcell⟩
 .exact wpAny_Name (wpAny_loadName_local I.ok.kind hk hn hm fin) hd
 .rcases hk with hk|hk
  .exact wpAny_Name (wpAny_loadName_cell I.ok.kind hk hc hcell fin) hd
  .exact wpAny_Name (wpAny_loadName_free I.ok.kind hk hc hcell fin hcd) hd
theorem JN{i j pos}:PE X (.Constant (.int i) j pos) (tC (.int i)):=λ_ _ _ H _ I h=>wpAny_Constant_int ⟨.int i,H,I.tok _,⟨_,rfl⟩,h⟩
theorem NJ{b j pos}:PE X (.Constant (.bool b) j pos) (tC (.bl b)):=λ_ _ _ H _ I h=>Constant_bool ⟨.bl b,H,I,rfl,h⟩
theorem IA{j pos}:PE X (.Constant .none j pos) (tC .non):=λ_ _ _ H _ I h=>Constant_none ⟨.non,H,I,rfl,h⟩
theorem G8{x j pos}:PE X (.Constant (.str x) j pos) (tC (.str x)):=λ_ _ _ H _ I h=>Calls.Constant_str ⟨.str x,H,I.tok _,⟨_,rfl⟩,h⟩
def Gl(X:Cx)(x:Str):Prop:=X.env.kindOf x=some .globalImplicit
theorem qQ(I:Inv X pins Y H s)(hg:Gl X x)(hm:X.mg x=some u)(h:Q u s)
  (hd:gP x:=by decide):wpAny (model X.prog X.w) X.A (eval (.Name x pos) X.env) Q E s:=
 UT I.ok.kind hg (Calls.loadGlobal_global (by rw[I.ok.glob];exact I.mod.glob.keeps I.bk) hm h) hd
theorem qD(I:Inv X pins Y H s)(hg:Gl X x)(hm:X.mg x=none)(hv:bootBuiltins x=some u)(h:Q u s)
  (hn:x ≠ "__name__" := by decide)(hd:gP x:=by decide):wpAny (model X.prog X.w) X.A (eval (.Name x pos) X.env) Q E s:=by
 obtain⟨mb,h1,h2⟩:=I.mod.blt;exact UT I.ok.kind hg (Calls.loadGlobal_builtin (by rw[I.ok.glob];exact I.mod.glob.keeps I.bk) hm (by rw[I.ok.blt];exact h1.keeps I.bk) ((h2 x hn).trans hv) h) hd
theorem DQ(hg:Gl X x)(hm:X.mg x=some u)(r:RelV v u)(hd:gP x:=by decide):PE X (.Name x pos) (tC v):=
 λ_ _ _ H _ I h=>qQ I hg hm ⟨v,H,I,r,h⟩ hd
theorem DF(hg:Gl X x)(hm:X.mg x=none)(hv:bootBuiltins x=some u)(r:RelV v u)(hn:x ≠ "__name__" := by decide)(hd:gP x:=by decide):PE X (.Name x pos) (tC v):=
 λ_ _ _ H _ I h=>qD I hg hm hv ⟨v,H,I,r,h⟩ hn hd
variable{a b:Expr}{ta tb:TE}{pos:Pos}
def PC(X:Cx)(op:CmpOp)(a b:Expr)(t:TE):Prop:=
 ∀(pins:List (Addr×Obj))(s:Shared)(Y:St)(H:Hp)(Q:VK),Inv X pins Y H s->t Y H Q->
  wpAny (model X.prog X.w) X.A (eval a X.env) (λv Z=>wpAny (model X.prog X.w) X.A (eval b X.env) (λu U=>wpAny (model X.prog X.w) X.A (compareOp op v u) (EP X pins Y Q) X.xe U) X.xe Z) X.xe s
noncomputable def tB(t:TE):TT:=λY H Q=>t Y H λx e=>∃c,x=.bl c/\Q c e
theorem AN{t:TE}(h:PC X op a b t)(h1:behindInMarks op b=false:=by first|exact nobehind _ (by decide) (by decide)|rfl):PE X (.Compare a [op] [b] pos) t:=λpins s Y H Q I hw=>wpAny_Compare1 (h pins s Y H Q I hw) h1
theorem yJ{t:TE}(h:PC X op a b t)(h1:behindInMarks op b=false:=by first|exact nobehind _ (by decide) (by decide)|rfl):PT X (.Compare a [op] [b] pos) (tB t):=by intro pins s Y H Q I hw;refine wpAny_isTrue_Compare1 (bN (h pins s Y H _ I hw) λv s1 h1=>bN h1 λu s2 h2=>bN h2 λc s3 ⟨x,H1,I1,r1,q1⟩=>?_) h1;obtain⟨d,rfl,q⟩:=q1;cases r1;exact wpAny_truthy_bool ⟨H1,I1,q⟩
theorem IH{t:TE}(h:PE X e t)(he:∀whole,isTrue e X.env whole=(do let v <- whole;standAt e.pos;holding [v] (truthy v)):=by intro _;rfl):PT X e (tB t):=by intro pins s Y H Q I hw;refine isTrue_plain (bN (h pins s Y H _ I hw) λv s1 ⟨x,H1,I1,r1,q1⟩=>?_) (he _);obtain⟨d,rfl,q⟩:=q1;cases r1;exact wpAny_truthy_bool ⟨H1,I1,q⟩
variable{tA tB':TT}{rest:List Expr}
noncomputable def OK(t u:TT):TT:=λY H Q=>t Y H λc e=>if c=true then u Y e Q else Q false e
noncomputable def Qu(t u:TT):TT:=λY H Q=>t Y H λc e=>if c=true then Q true e else u Y e Q
noncomputable def PL(t:TT):TT:=λY H Q=>t Y H λc e=>Q (!c) e
theorem CV(ha:PT X a tA):PW X (.BoolOp .And [a] pos) tA:=by
 intro f pins s Y H Q I h;refine isTrue_and (bN (ha pins s Y H Q I h) λc s1 e=>?_);cases c with
 |true=>exact isTrue_and_nil e
 |false=>exact e
theorem Jn(ha:PT X a tA):PW X (.BoolOp .Or [a] pos) tA:=by
 intro f pins s Y H Q I h;refine isTrue_or (bN (ha pins s Y H Q I h) λc s1 e=>?_);cases c with
 |false=>exact isTrue_or_nil e
 |true=>exact e
theorem G0(ha:PT X a tA)(d:PW X (.BoolOp .And (b::rest) pos) tB'):PW X (.BoolOp .And (a::b::rest) pos) (OK tA tB'):=by
 intro f pins s Y H Q I h;refine isTrue_and (bN (ha pins s Y H _ I h) λc s1 ⟨e,g,l⟩=>?_);cases c with
 |true=>exact d f pins s1 Y e Q g l
 |false=>exact⟨e,g,l⟩
theorem Oa(ha:PT X a tA)(d:PW X (.BoolOp .Or (b::rest) pos) tB'):PW X (.BoolOp .Or (a::b::rest) pos) (Qu tA tB'):=by
 intro f pins s Y H Q I h;refine isTrue_or (bN (ha pins s Y H _ I h) λc s1 ⟨e,g,l⟩=>?_);cases c with
 |true=>exact⟨e,g,l⟩
 |false=>exact d f pins s1 Y e Q g l
theorem Jj(ha:PT X a tA):PT X (.UnaryOp .Not a pos) (PL tA):=by intro pins s Y H Q I h;exact isTrue_not (bN (ha pins s Y H (λc e=>Q (!c) e) I h) λc s' ⟨H',i,q⟩=>⟨H',i,q⟩)
noncomputable def LS(ta tb:TE):TE:=λY H Q=>ta Y H λx e=>∃c,x=.bl c/\if c=true then tb Y e Q else Q (.bl false) e
noncomputable def OT(ta tb:TE):TE:=λY H Q=>ta Y H λx e=>∃c,x=.bl c/\if c=true then Q (.bl true) e else tb Y e Q
noncomputable def LX(ta:TE):TE:=λY H Q=>ta Y H λx e=>∃c,x=.bl c/\Q (.bl (!c)) e
theorem Im{op}{t:TE}(h:PE X a t):PE X (.BoolOp op [a] pos) t:=λpins s Y H Q I r=>BoolOp_one (h pins s Y H Q I r)
theorem IU(ha:PE X a ta)(d:PE X (.BoolOp .And (b::rest) pos) tb):PE X (.BoolOp .And (a::b::rest) pos) (LS ta tb):=by
 intro pins s Y H Q I h;refine BoolOp_and (bN (ha pins s Y H _ I h) λv s1 ⟨x,e,g,k,l⟩=>?_);obtain⟨c,rfl,l⟩:=l;cases k;refine wpAny_truthy_bool ?_;cases c with
 |true=>exact d pins s1 Y e Q g l
 |false=>exact⟨.bl false,e,g,rfl,l⟩
theorem L4(ha:PE X a ta)(d:PE X (.BoolOp .Or (b::rest) pos) tb):PE X (.BoolOp .Or (a::b::rest) pos) (OT ta tb):=by
 intro pins s Y H Q I h;refine BoolOp_or (bN (ha pins s Y H _ I h) λv s1 ⟨x,e,g,k,l⟩=>?_);obtain⟨c,rfl,l⟩:=l;cases k;refine wpAny_truthy_bool ?_;cases c with
 |false=>exact d pins s1 Y e Q g l
 |true=>exact⟨.bl true,e,g,rfl,l⟩
theorem IF(ha:PE X a ta):PE X (.UnaryOp .Not a pos) (LX ta):=by intro pins s Y H Q I h;refine UnaryOp_ (bN (ha pins s Y H _ I h) λv s1 ⟨x,e,g,k,l⟩=>?_);obtain⟨c,rfl,l⟩:=l;cases k;exact not_of (wpAny_truthy_bool ⟨.bl (!c),e,g,rfl,l⟩)
noncomputable def Qq(t:TT)(ta tb:TE):TE:=λY H Q=>t Y H λc e=>if c=true then ta Y e Q else tb Y e Q
theorem xW(hc:PT X c tA)(ha:PE X a ta)(G:PE X b tb):PE X (.IfExp c a b pos) (Qq tA ta tb):=by
 intro pins s Y H Q I h;refine wpAny_IfExp (bN (hc pins s Y H _ I h) λd s1 ⟨e,g,l⟩=>?_);cases d with
 |true=>exact ha pins s1 Y e Q g l
 |false=>exact G pins s1 Y e Q g l
end
def gu(K:QU)(H:Hp)(a:Addr)(xs:List V):Prop:=
 Rd H a (.lst xs) \/
  ∃(o:Obj)(its:Array Value)(n:Nat),K.lookup a=some o/\o.cls=.type "list" /\ o.dict=none/\o.data=.seq its n/\its.size<=sizeLine/\Vals xs its.toList
def gv(K:QU)(H:Hp)(a:Addr)(xs:List V):Prop:=
 Rd H a (.tup xs) \/
  ∃(o:Obj)(its:Array Value)(n:Nat),K.lookup a=some o/\(o.cls=.type "tuple" /\ o.dict=none)/\o.data=.seq its n/\its.size<=sizeLine/\Vals xs its.toList
noncomputable def Pu:Value->Option V
 | .none=>some .non
 | .bool b=>some (.bl b)
 | .int i _=>some (.int i)
 | .str x _=>some (.str x)
 | .bytes b _=>some (.byt b)
 | .float b _=>some (.flt b)
 | .ref a=>some (.ref a)
 | .type n=>some (.ty n)
 |_=>none
theorem RelV.abs{x:V}(r:RelV x u):Pu u=some x:=by
 cases x with
 |non=>cases r;rfl
 |bl _=>cases r;rfl
 |int _=>obtain⟨t,rfl⟩:=r;rfl
 |str _=>obtain⟨t,rfl⟩:=r;rfl
 |byt _=>obtain⟨t,rfl⟩:=r;rfl
 |flt _=>obtain⟨t,rfl⟩:=r;rfl
 |ref _=>cases r;rfl
 |ty _=>cases r;rfl
variable{y:V}
theorem RelV.inj{x:V}(r:RelV x u)(q:RelV y u):x=y:=Q9 (r.abs.symm.trans q.abs)
theorem Vals.inj:∀{xs ys:List V}{us:List Value},Vals xs us->Vals ys us->xs=ys
 |_,_,_,.nil,.nil=>rfl
 |_,_,_,.cons r t,.cons r' t'=>by rw[r.inj r',Vals.inj t t']
section
variable{X:Cx}{pins:List (Addr×Obj)}{Y:St}{H:Hp}{s:Shared}{a:Addr}{xs ys:List V}
theorem Inv.list(I:Inv X pins Y H s)(h:gu X.K H a xs):∃its:List Value,Vals xs its/\PlainL s.heap a its.toArray/\xs.length<=sizeLine:=by
 rcases h with h|⟨o,its,n,hk,hc,hd,u,hz,r⟩
 .obtain⟨z,its,n,r,e⟩:=h.ok I.hok;exact⟨its,r,⟨_,n,e,rfl,rfl,rfl⟩,z⟩
 .refine⟨its.toList,r,⟨o,n,I.sS a o hk,hc,hd,by simpa using u⟩,?_⟩;have e:=r.length;simp only[RN] at e;lia
theorem Inv.tuple(I:Inv X pins Y H s)(h:gv X.K H a xs):∃its:List Value,Vals xs its/\IsTup s.heap a its.toArray/\xs.length<=sizeLine:=by
 rcases h with h|⟨o,its,n,hk,hc,u,hz,r⟩
 .obtain⟨z,its,r,p⟩:=h.ok I.hok;exact⟨its,r,p.t,z⟩
 .refine⟨its.toList,r,⟨o,I.sS a o hk,hc.1,n,by simpa using u⟩,?_⟩;have e:=r.length;simp only[RN] at e;lia
theorem Inv.Ho(I:Inv X pins Y H s)(h:gv X.K H a xs):∃its:List Value,Vals xs its/\fA s.heap a its.toArray/\xs.length<=sizeLine:=by
 rcases h with h|⟨o,its,n,hk,hc,u,hz,r⟩
 .obtain⟨z,its,r,p⟩:=h.ok I.hok;exact⟨its,r,p,z⟩
 .refine⟨its.toList,r,⟨o,I.sS a o hk,hc.1,n,by simpa using u,hc.2⟩,?_⟩;have e:=r.length;simp only[RN] at e;lia
theorem Inv.rn(I:Inv X pins Y H s)(h:gu X.K H a xs)(h':gu X.K H a ys):xs=ys:=by
 obtain⟨its,r,⟨o,n,e,_,_,d⟩,_⟩:=I.list h;obtain⟨its',r',⟨o',w,t,_,_,d'⟩,_⟩:=I.list h';rw[e] at t;cases t;rw[d] at d';injection d' with d1 _;have:its=its':=by simpa using congrArg Wr d1
 subst this;exact r.inj r'
theorem Inv.pK(I:Inv X pins Y H s)(h:gv X.K H a xs)(h':gv X.K H a ys):xs=ys:=by
 obtain⟨its,r,⟨o,e,_,n,d⟩,_⟩:=I.tuple h;obtain⟨its',r',⟨o',t,_,w,d'⟩,_⟩:=I.tuple h';rw[e] at t;cases t;rw[d] at d';injection d' with d1 _;have:its=its':=by simpa using congrArg Wr d1
 subst this;exact r.inj r'
end
section
variable{X:Cx}{st:Stmt}{rest:List Stmt}{t u:TS}{e:Expr}{te:TE}{pos:Pos}
noncomputable def GA:TS:=λD Y H=>D.nx Y H
noncomputable def OI(t u:TS):TS:=λD Y H=>t { D with nx:=u D } Y H
theorem En:sT X [] GA:=λ_ _ Y H _ I h=>wpAny_execs_nil ⟨Y,H,I,h⟩
theorem Bk(h1:PS X st t)(h2:sT X rest u):sT X (st::rest) (OI t u):=by
 intro pins s Y H D I h;refine wpAny_execs_cons (bN (h1 pins s Y H { D with nx:=u D } I h) λf s1 q=>?_);cases f with
 |next=>obtain⟨Z0,H',x,q⟩:=q;exact h2 pins s1 Z0 H' D x q
 |ret v=>exact q
 |brk=>exact q
 |cont=>exact q
theorem CS(h1:PS X st t):sT X [st] t:=by
 intro pins s Y H D I h;refine wpAny_execs_cons (bN (h1 pins s Y H D I h) λf s1 q=>?_);cases f with
 |next=>exact wpAny_execs_nil q
 |ret v=>exact q
 |brk=>exact q
 |cont=>exact q
noncomputable def Iu:TS:=λD Y H=>D.bk Y H
noncomputable def Nt:TS:=λD Y H=>D.ct Y H
theorem Ek:PS X (.Pass pos) GA:=λ_ _ Y H _ I h=>wpAny_Pass ⟨Y,H,I,h⟩
theorem yc:PS X (.Break pos) Iu:=λ_ _ Y H _ I h=>wpAny_Break ⟨Y,H,I,h⟩
theorem rS:PS X (.Continue pos) Nt:=λ_ _ Y H _ I h=>wpAny_Continue ⟨Y,H,I,h⟩
theorem Inv.quiet(I:Inv X pins Y H s):interactive X.env=false:=by simp[interactive,I.ok.kind]
noncomputable def LV(te:TE):TS:=λD Y H=>te Y H λ_ e=>D.nx Y e
theorem Dd(he:PE X e te)(hs:swapsWith e none pos.line X.env=pure false:=by rfl):PS X (.Expr e pos) (LV te):=by intro pins s Y H D I h;exact wpAny_Expr_any (bN (he pins s Y H _ I h) λv s1 ⟨x,H1,I1,r1,q1⟩=>⟨Y,H1,I1,q1⟩) I.quiet hs
noncomputable def Px(te:TE):TS:=λD Y H=>te Y H D.rt
theorem IT(p:PE X e te):PS X (.Return (some e) pos) (Px te):=by intro pins s Y H D I h;exact wpAny_Return_some (bN (p pins s Y H _ I h) λv s1 ⟨x,y,g,k,l⟩=>⟨x,Y,y,g,k,l⟩)
noncomputable def NU:TS:=λD _ H=>D.rt .non H
theorem Dl:PS X (.Return none pos) NU:=λ_ _ Y H _ I h=>wpAny_Return_none ⟨.non,Y,H,I,rfl,h⟩
noncomputable def OW(c:TT)(t u:TS):TS:=λD Y H=>c Y H λb e=>if b=true then t D Y e else u D Y e
theorem Lc{a b:List Stmt}{j:TT}(hc:PT X c j)(ha:sT X a t)(G:sT X b u):PS X (.If c a b pos) (OW j t u):=by
 intro pins s Y H D I h;refine wpAny_If (bN (hc pins s Y H _ I h) λd s1 ⟨e,g,l⟩=>?_);cases d with
 |true=>exact ha pins s1 Y e D g l
 |false=>exact G pins s1 Y e D g l
end
abbrev TG:=V->St->Hp->(St->Hp->Prop)->Prop
abbrev Gb:=List V->St->Hp->(St->Hp->Prop)->Prop
def PG(X:Cx)(h:Expr)(t:TG):Prop:=
 ∀(pins:List (Addr×Obj))(s:Shared)(Y:St)(H:Hp)(v:V)(u:Value)(Q:St->Hp->Prop),Inv X pins Y H s->RelV v u->t v Y H Q->
  wpAny (model X.prog X.w) X.A (assign h X.env u) (λ_ s'=>∃Z0 H',Inv X pins Z0 H' s'/\Q Z0 H') X.xe s
def JO(X:Cx)(ts:List Expr)(t:Gb):Prop:=
 ∀(pins:List (Addr×Obj))(s:Shared)(Y:St)(H:Hp)(vs:List V)(us:List Value)(Q:St->Hp->Prop),Inv X pins Y H s->Vals vs us->t vs Y H Q->
  wpAny (model X.prog X.w) X.A (assignInOrder ((assignEach ts X.env).map (·.2)) us) (λ_ s'=>∃Z0 H',Inv X pins Z0 H' s'/\Q Z0 H') X.xe s
abbrev Jw:=V->V->V->Hp->(Hp->Prop)->Prop
def NV(X:Cx)(t:Jw):Prop:=
 ∀(pins:List (Addr×Obj))(s:Shared)(Y:St)(H:Hp)(o i v:V)(z C u:Value)(Q:Hp->Prop),Inv X pins Y H s->RelV o z->RelV i C->RelV v u->t o i v H Q->
  wpAny (model X.prog X.w) X.A (setItem z C u) (λ_ s'=>∃H',Inv X pins Y H' s'/\Q H') X.xe s
variable{es:List Expr}{k:Nat}{tg:Expr}{te:TE}
section
variable{X:Cx}{pos:Pos}
noncomputable def yR(i:Nat):TG:=λv Y H Q=>Q (Y.set i (some v)) H
theorem Ed(hN:X.N.Nodup)(hi:X.N[i]?=some x)(hx:Loc X.env.scope x)(hf:X.fn x=true\/X.env.scope.names.lookup x=some .local:=by first|exact .inl rfl|exact .inr rfl|assumption):PG X (.Name x pos) (yR i):=by intro pins s Y H v u Q I r h;exact wpAny_assign_Name (jZ I hN hi hx r (λs' I'=>⟨_,H,I',h⟩) hf)
noncomputable def PD:Gb:=λvs Y H Q=>vs=[]/\Q Y H
noncomputable def Gn(t:TG)(u:Gb):Gb:=λvs Y H Q=>∃v r,vs=v::r/\t v Y H λZ0 H'=>u r Z0 H' Q
theorem DA:JO X [] PD:=by intro pins s Y H vs us Q I r h;obtain⟨e,h⟩:=h;subst e;cases r;exact assignInOrder_nil ⟨Y,H,I,h⟩
theorem B2{t:TG}{u:Gb}(h1:PG X e t)(h2:JO X es u)
  (hs:(assignEach (e::es) X.env).map (·.2)=assign e X.env::(assignEach es X.env).map (·.2):=by rfl):JO X (e::es) (Gn t u):=by
 intro pins s Y H vs us Q I r h;obtain⟨v,vr,e1,h⟩:=h;subst e1;cases r with
 |cons r rr=>rw[hs];refine assignInOrder_cons (bN (h1 pins s Y H _ _ _ I r h) λ_ s1 ⟨σ1,H1,I1,q1⟩=>?_);exact h2 pins s1 σ1 H1 _ _ Q I1 rr q1
noncomputable def Pq(K:QU)(n:Nat)(t:Gb):TG:=λv Y H Q=>∃a xs,v=.ref a/\gv K H a xs/\xs.length=n/\t xs Y H Q
theorem Ji{t:Gb}{n:Nat}(hc:X.calm=true)(h:JO X es t)
  (hn:(assignEach es X.env).length=n:=by rfl)(hst:(assignEach es X.env).findIdx? (·.1)=none:=by rfl):PG X (.Tuple es k pos) (Pq X.K n t):=by
 intro pins s Y H v u Q I r hw;obtain⟨a,xs,e1,hq,hl,hw⟩:=hw;subst e1;cases r;obtain⟨its,rv,ht,hz⟩:=I.tuple hq;refine assign_Tuple_tuple (I.ok.hd hc) ht (by simp[hn,<-hl,rv.length]) hst λh' hx=>?_;have I1:Inv X pins Y H { s with heap:=h' }:=I.kept (t':=s.toks) λb o e=>hx b o (Ru (Rh e)) e;exact h pins _ Y H xs _ Q I1 (by simpa using rv) hw
noncomputable def LW(s A:TE)(t:Jw):TG:=λv Y H Q=>s Y H λo e=>A Y e λi c=>t o i v c λD=>Q Y D
theorem IL{o i:Expr}{to ti:TE}{t:Jw}(ho:PE X o to)(hi:PE X i ti)(hs:NV X t)
  (ha:∀v,assign (.Subscript o i pos) X.env v=(do
   let ov <- holding [v] (eval o X.env)
   let iv <- holding [v,ov] (eval i X.env)
   standAt pos
   holding [v,ov,iv] (setItem ov iv v)
   release [v,ov,iv] []):=by intro _;rfl):PG X (.Subscript o i pos) (LW to ti t):=by
 intro pins s Y H v u Q I r h;rw[ha];refine wpAny_bind (wpAny_holding (bN (ho pins s Y H _ I h) λov s1 ⟨x,H1,I1,r1,q1⟩=>?_));refine wpAny_bind (wpAny_holding (bN (hi pins s1 Y H1 _ I1 q1) λiv s2 ⟨y,H2,I2,r2,q2⟩=>?_));refine wpAny_bind (wpAny_standAt (wpAny_bind (wpAny_holding (bN (hs pins s2 Y H2 x y v ov iv u _ I2 r1 r2 r q2) λ_ s3 ⟨H3,I3,q3⟩=>?_))));exact wpAny_release ⟨Y,H3,I3,q3⟩
noncomputable def yQ(te:TE)(g:TG):TS:=λD Y H=>te Y H λx e=>g x Y e D.nx
theorem As{g:TG}(he:PE X e te)(hg:PG X tg g)(hs:swapsWithSole [tg] e pos.line X.env=pure false:=by rfl)(hw:swappedStores [tg] e X.env=pure none:=by rfl)
  (h1:(assignEach [tg] X.env).map (·.2)=[assign tg X.env]:=by rfl):PS X (.Assign [tg] e pos) (yQ te g):=by
 intro pins s Y H D I h;refine wpAny_Assign_stores (bN (he pins s Y H _ I h) λv s1 ⟨x,H1,I1,r1,q1⟩=>?_) hs hw;rw[h1];exact bN (hg pins s1 Y H1 x v _ I1 r1 q1) λ_ s2 q=>q
theorem J6{pos':Pos}(hN:X.N.Nodup)(hi:X.N[i]?=some x)(hx:Loc X.env.scope x)(he:PE X e te)(hs:swapsWith e (some (.Name x pos')) pos.line X.env=pure false:=by rfl)(hf:X.fn x=true\/X.env.scope.names.lookup x=some .local:=by first|exact .inl rfl|exact .inr rfl|assumption):
  PS X (.Assign [.Name x pos'] e pos) (yQ te (yR i)):=by
 intro pins s Y H D I h;refine wpAny_Assign_Name (bN (he pins s Y H _ I h) λv s1 ⟨y,H1,I1,r1,q1⟩=>?_) hs;exact jZ I1 hN hi hx r1 (λs2 I2=>⟨_,H1,I2,q1⟩) hf
noncomputable def K9(i j:Nat)(ta:TA):TS:=λD Y H=>ta Y H λvs e=>∃v w,vs=[v,w]/\D.nx ((Y.set i (some v)).set j (some w)) e
theorem HI{y:Str}{a b:Expr}{ta:TA}{px py pt:Pos}{kt k2 pt2}(hc:X.calm=true)(hN:X.N.Nodup)(hi:X.N[i]?=some x)(hj:X.N[j]?=some y)(hij:i≠j)
  (hx:X.env.scope.names.lookup x=some .local)(hy:X.env.scope.names.lookup y=some .local)(ha:PA X [a,b] ta)
  (hw:swappedStores [.Tuple [.Name x px,.Name y py] kt pt] (.Tuple [a,b] k2 pt2) X.env=pure (some [x,y]))
  (hs:swapsWithSole [.Tuple [.Name x px,.Name y py] kt pt] (.Tuple [a,b] k2 pt2) pos.line X.env=pure false:=by rfl):
  PS X (.Assign [.Tuple [.Name x px,.Name y py] kt pt] (.Tuple [a,b] k2 pt2) pos) (K9 i j ta):=by
 intro pins s Y H D I h;rw[exec_Assign_arm];refine wpAny_bind (wpAny_standAt ?_);rw[hs];refine wpAny_bind (wpAny_pure ?_);rw[if_neg (by decide)];refine wpAny_bind (Tuple_ (bN (ha _ pins s Y H _ I h) λus s1 ⟨vs,H1,I1,r1,q1⟩=>?_));obtain⟨v,w,e1,q1⟩:=q1;subst e1;obtain⟨u1,u2,rfl,rv,rw'⟩:∃u1 u2,us=[u1,u2]/\RelV v u1/\RelV w u2:=by
  cases r1 with
  |cons p q=>
   cases q with
   |cons p' q'=>cases q';exact⟨_,_,rfl,p,p'⟩
 refine wpAny_newObj_type ?_ (by show 2<=sizeLine;decide);have I2:Inv X pins Y H1 { s1 with heap:=s1.heap.push { cls:=.type "tuple",data:=.seq [u1,u2].toArray } }:=I1.kept (t':=s1.toks) λb o e=>Q3 _ e;rw[hw];refine wpAny_bind (wpAny_pure ?_);show wpAny (model X.prog X.w) X.A (do rule "assign.swapped-stores";let items <- unpackItems (.ref s1.heap.objs.size) 2 none;assignInOrder [λv=>bindName X.env y v,λv=>bindName X.env x v] items.reverse;pure Xp) _ _ _;refine wpAny_bind (wpAny_rule (wpAny_bind (unpackItems_tuple (items:=#[u1,u2]) (I.ok.hd hc) (IsTup.new s1.heap _) λh' hx'=>?_)));have I3:=I2.kept (h':=h') (t':=s1.toks) λb o e=>hx' b o (Ru (Rh e)) e;show wpAny _ _ (assignInOrder [λv=>bindName X.env y v,λv=>bindName X.env x v] [u2,u1] >>= λ_=>pure Xp) _ _ _;refine wpAny_bind (assignInOrder_cons (wpAny_bindName (jZ I3 hN hj (.inl hy) rw' (λs2 I4=>?_) (.inr hy))));refine assignInOrder_cons (wpAny_bindName (jZ I4 hN hi (.inl hx) rv (λs3 I5=>assignInOrder_nil (wpAny_pure ?_)) (.inr hx)));rw[List.set_comm _ _ (Sd hij)] at I5;exact⟨_,H1,I5,q1⟩
end
variable{body:List Stmt}{tb:TS}
section
variable{X:Cx}{pos:Pos}
def Jo (c:TT) (tb:TS):TS:=fun D Y H=>∃ W:Nat → St → Hp → Prop,(∃ m,W m Y H) ∧ ∀ m Y H,W m Y H →
 c Y H fun b H1=>if b = true then ∃ N:St → Hp → Prop,(∀ Z0 H',N Z0 H' → ∃ U,U < m ∧ W U Z0 H') ∧ tb { D with nx:=N,ct:=N,bk:=D.nx } Y H1 else D.nx Y H1
theorem BB   {j:TT}  (hp:PassesOwn (model X.prog X.w) X.A X.env X.xe) (hc:PT X c j) (d:sT X body tb):PS X (.While c body [] pos) (Jo j tb):=by
 intro pins s Y H D I h;obtain ⟨W,⟨Z,a⟩,J⟩:=h;refine wpAny_While (codeAny_whileLoop (fun n s'=>∃ Z0 H',Inv X pins Z0 H' s' ∧ W n Z0 H') ?_ Z ⟨Y,H,I,a⟩);rintro n s1 ⟨E,e,g,m⟩;refine wpAny_passesOwn hp (bN (hc pins s1 E e _ g (J n E e m)) fun b s2 ⟨H2,I2,o⟩=>?_);cases b with
 |true=>
  obtain ⟨N,z,o⟩:=o;rw [if_pos rfl];refine wpAny_passesOwn hp (bN (d pins s2 E H2 _ I2 o) λf r L=>?_);cases f with
  |next=>obtain⟨V,K,O,P⟩:=L;obtain⟨U,hm,Q⟩:=z V K P;exact⟨U,hm,V,K,O,Q⟩
  |cont=>obtain⟨V,K,O,P⟩:=L;obtain⟨U,hm,Q⟩:=z V K P;exact⟨U,hm,V,K,O,Q⟩
  |brk=>exact L
  |ret v=>exact L
 |false=>rw[if_neg RE];exact wpAny_execs_nil ⟨E,H2,I2,o⟩
end
structure It where
 go:Nat->Hp->Prop
 yld:Nat->Hp->V->Hp->Prop
 stop:Nat->Hp->Prop
def mU(X:Cx)(pins:List (Addr×Obj))(H:Hp)(b:Addr):Prop:=
 H b=none/\b≠X.env.locals/\b∉X.fs/\(b∈X.ex\/X.s₀.heap.objs.size<=b)/\(∀x c,X.env.cells.lookup x=some c->c≠b)/\∀p∈X.pn++pins,p.1≠b
theorem Inv.Bc{H':Hp}(I:Inv X pins Y H s)(d:s.heap.objs.size<=b)(hn:H' b=none):mU X pins H' b:=by
 refine⟨hn,WD (Q7 I.lt d),I.Ll d,.inr (Rm I.sz d),λx c e z=>?_,λp hp z=>?_⟩
 .obtain⟨v,q⟩:=I.cell x c e;exact absurd (Q7 q.lt (by rw[z];exact d)) (RQ _)
 .exact absurd (Q7 (Rh (I.pin p hp).1) (by rw[z];exact d)) (RQ _)
structure Turn(P:Program)(w:World)(K:QU)(tg:Expr)(J:It)(fp:List Addr)(it:Addr)(tn:Nat->Heap->Prop):Prop where
 mem:it∈fp
 obj:∀i h,tn i h->∀b∈fp,∃o,h.get? b=some o/\∀v,o.data≠.cell v
 keep:∀i h h',tn i h->(∀b∈fp,∀o,h.get? b=some o->h'.get? b=some o)->tn i h'
 item:∀(X:Cx),X.prog=P->X.w=w->X.K=K->X.calm=true->∀(i:Nat)(pins:List (Addr×Obj))(s:Shared)(Y:St)(H:Hp)(E:Value->Shared->Prop),Inv X pins Y H s->(∀b∈fp,mU X pins H b)->tn i s.heap->J.go i H->
  wpAny (model P w) X.A (pyNext (.ref it)) (λr s1=>∃u,r=some u /\
   wpAny (model P w) X.A (letOwnedTupleGo tg (.ref it) u) (λ_ s2=>∃x H',Inv X pins Y H' s2/\RelV x u/\J.yld i H x H'/\tn (i+1) s2.heap/\∀b∈fp,H' b=none) E s1) E s
 done:∀(X:Cx),X.prog=P->X.w=w->X.K=K->X.calm=true->∀(i:Nat)(pins:List (Addr×Obj))(s:Shared)(Y:St)(H:Hp)(E:Value->Shared->Prop),Inv X pins Y H s->(∀b∈fp,mU X pins H b)->tn i s.heap->J.stop i H->
  wpAny (model P w) X.A (pyNext (.ref it)) (λr s1=>r=none/\Inv X pins Y H s1) E s
 self:∀(A:Around)(i:Nat)(s:Shared)(Q:Value->Shared->Prop)(E:Value->Shared->Prop),tn i s.heap->Q (.ref it) s->wpAny (model P w) A (pyIter (.ref it)) Q E s
abbrev TI:=St->Hp->(It->Hp->Prop)->Prop
def P4(X:Cx)(pins:List (Addr×Obj))(Y:St)(tg:Expr)(R:It->Hp->Prop)(H:Value)(s2:Shared):Prop:=
 ∃(it:Addr)(fp:List Addr)(tn:Nat->Heap->Prop)(J:It)(H':Hp),H=.ref it/\Inv X pins Y H' s2/\Turn X.prog X.w X.K tg J fp it tn/\tn 0 s2.heap/\(∀b∈fp,mU X pins H' b)/\R J H'
def PI(X:Cx)(tg iter:Expr)(I:TI):Prop:=
 ∀(pins:List (Addr×Obj))(s:Shared)(Y:St)(H:Hp)(R:It->Hp->Prop),Inv X pins Y H s->I Y H R->
  wpAny (model X.prog X.w) X.A (eval iter X.env) (λv s1=>wpAny (model X.prog X.w) X.A (pyIter v) (P4 X pins Y tg R) X.xe s1) X.xe s
theorem rC{M:Model}{A:Around}{n:String}{vs:Array Value}{Q:Unit->Shared->Prop}(i:s.heap.get? it=some o)(hc:o.cls=.type n)(hd:o.data=.fields vs)
    (hn:["enumerate", "zip", "dict_itemiterator", "dict_reverseitemiterator", "odict_iterator", "itertools.zip_longest", "itertools.pairwise"].contains n=false)(Y:Q () s):wpAny M A (letOwnedTupleGo tg (.ref it) u) Q E s:=by
  unfold letOwnedTupleGo;cases tg<;>first
    |exact wpAny_pure Y
    | (cases u<;>first
        |exact wpAny_pure Y
        | (refine wpAny_bind (wpAny_load i ?_)
           rw[hc,hd]
           show wpAny M A (if (["enumerate", "zip", "dict_itemiterator", "dict_reverseitemiterator", "odict_iterator", "itertools.zip_longest", "itertools.pairwise"].contains n&&vs[0]?==some (rawInt _))=true then _ else _) Q E s
           rw[if_neg (by intro h;rw[hn,Uc] at h;cases h)]
           exact wpAny_pure Y))
noncomputable def Pe(K:QU)(a:Addr):It:=
 ⟨λi H=>∃xs x,gu K H a xs/\xs[i]?=some x,λi H x H'=>H'=H/\∀xs,gu K H a xs->xs[i]?=some x,λi H=>∃xs,gu K H a xs/\xs.length<=i⟩
noncomputable def P9(K:QU)(a:Addr):It:=
 ⟨λi H=>∃xs x,gv K H a xs/\xs[i]?=some x,λi H x H'=>H'=H/\∀xs,gv K H a xs->xs[i]?=some x,λi H=>∃xs,gv K H a xs/\xs.length<=i⟩
noncomputable def Ou(lo:Int)(n:Nat):It:=⟨λi _=>i<n,λi H x H'=>H'=H/\x=.int (lo+i),λi _=>n<=i⟩
variable{K:QU}
theorem oS(a it:Addr):Turn P w K tg (Pe K a) [it] it (λi h=>h.IsListIter it a i) where
 mem:=by simp
 obj:=λi h st b G=>by
  have e:b=it:=by simpa using G
  subst e;obtain⟨o,e,c,d⟩:=st;exact⟨o,e,λv z=>by rw[d] at z;cases z⟩
 keep:=λi h h' st k=>st.at λo e=>k it (by simp) o e
 item:=by intro X n r y hc i pins s Y H E I hf st N;subst n r y;obtain⟨xs,x,j,A⟩:=N;obtain⟨its,C,p,hz⟩:=I.list j;obtain⟨u,f,Q⟩:=C.get A;obtain⟨D,F,R,J,L,O⟩:=hf it (by simp);refine wpAny_pyNext_list_item st p.isList (x:=u) (by simpa using f) λh' V S=>?_;have g:Inv X pins Y H { s with heap:=h' }:=I.turned (t':=s.toks) (λb o G e=>(S.2 b G).trans e) D F J L O;obtain⟨o,e,c,d⟩:=id V;exact⟨u,rfl,rC (s:={ s with heap:=h' }) e c d (by decide) ⟨x,H,g,Q,⟨rfl,λys T=>by rw[I.rn T j];exact A⟩,V,λb G=>(hf b G).1⟩⟩
 done:=by intro X n r y hc i pins s Y H E I hf st N;subst n r y;obtain⟨xs,j,A⟩:=N;obtain⟨its,C,p,hz⟩:=I.list j;obtain⟨D,F,R,J,L,O⟩:=hf it (by simp);have hl:=C.length;exact wpAny_pyNext_list_end (I.ok.hd hc) st p.isList (by simp;lia) λh' Z=>⟨rfl,I.turned (t':=s.toks) (λb o G e=>Z b o G e) D F J L O⟩
 self:=λ_ _ _ _ _ st h=>wpAny_pyIter_listiter st h
theorem uA(a it:Addr):Turn P w K tg (P9 K a) [it] it (λi h=>h.IsTupleIter it a i) where
 mem:=by simp
 obj:=λi h st b G=>by
  have e:b=it:=by simpa using G
  subst e;obtain⟨o,e,c,d⟩:=st;exact⟨o,e,λv z=>by rw[d] at z;cases z⟩
 keep:=λi h h' st k=>st.at λo e=>k it (by simp) o e
 item:=by intro X n r y hc i pins s Y H E I hf st N;subst n r y;obtain⟨xs,x,j,A⟩:=N;obtain⟨its,C,p,hz⟩:=I.tuple j;obtain⟨u,f,Q⟩:=C.get A;obtain⟨D,F,R,J,L,O⟩:=hf it (by simp);refine wpAny_pyNext_tuple_item st (show s.heap.IsTuple a its.toArray from p) (x:=u) (by simpa using f) λh' V S=>?_;have g:Inv X pins Y H { s with heap:=h' }:=I.turned (t':=s.toks) (λb o G e=>(S.2 b G).trans e) D F J L O;obtain⟨o,e,c,d⟩:=id V;exact⟨u,rfl,rC (s:={ s with heap:=h' }) e c d (by decide) ⟨x,H,g,Q,⟨rfl,λys T=>by rw[I.pK T j];exact A⟩,V,λb G=>(hf b G).1⟩⟩
 done:=by intro X n r y hc i pins s Y H E I hf st N;subst n r y;obtain⟨xs,j,A⟩:=N;obtain⟨its,C,p,hz⟩:=I.tuple j;obtain⟨D,F,R,J,L,O⟩:=hf it (by simp);have hl:=C.length;exact wpAny_pyNext_tuple_end (I.ok.hd hc) st (show s.heap.IsTuple a its.toArray from p) (by simp;lia) λh' Z=>⟨rfl,I.turned (t':=s.toks) (λb o G e=>Z b o G e) D F J L O⟩
 self:=λ_ _ _ _ _ st h=>wpAny_pyIter_tupleiter st h
theorem tF(it:Addr)(lo:Int)(n:Nat):Turn P w K tg (Ou lo n) [it] it (λi h=>IsRangeIter h it (lo+(i:Nat)*1) ((n:Int)-(i:Nat)) 1) where
 mem:=by simp
 obj:=λi h st b d=>by
  have e:b=it:=by simpa using d
  subst e;exact⟨_,st,λv z=>by have a:Data.fields _=Data.cell v:=z;cases a⟩
 keep:=λi h h' st k=>k it (by simp) _ st
 item:=by intro X x r y hc i pins s Y H E I hf st N;subst x r y;obtain⟨D,F,R,J,L,O⟩:=hf it (by simp);have W:=Walks.range (prog:=X.prog) (w:=X.w) (I.ok.hd hc) it lo 1 n;refine W.item i s _ _ N st λv h' tk c V m=>?_;obtain⟨t,rfl⟩:=c;have g:Inv X pins Y H { s with heap:=h',toks:=tk }:=I.turned (λb o d e=>m b o (by simpa using d) e) D F J L O;refine⟨_,rfl,rC (s:={ s with heap:=h',toks:=tk }) (n:= "range_iterator") V rfl rfl (by decide) ⟨.int (lo+i),H,g,⟨t,?_⟩,⟨rfl,rfl⟩,V,λb d=>(hf b d).1⟩⟩;rw[Int.mul_one]
 done:=by intro X x r y hc i pins s Y H E I hf st N;subst x r y;obtain⟨D,F,R,J,L,O⟩:=hf it (by simp);exact wpAny_pyNext_range_end (I.ok.hd hc) st (by have:n<=i:=N;lia) λh' Z=>⟨rfl,I.turned (t':=s.toks) (λb o d e=>Z b o d e) D F J L O⟩
 self:=λ_ _ _ _ _ st h=>wpAny_pyIter_rangeiter st h
variable{fp:List Addr}
section
variable{X:Cx}{tg:Expr}
def GQ(K:QU)(X:TE):TI:=λY H R=>X Y H λx e=>∃a,x=.ref a/\(∃xs,gu K e a xs)/\R (Pe K a) e
theorem Dz{l:Expr}{E:TE}(hl:PE X l E):PI X tg l (GQ X.K E):=by
 intro pins s Y H R I h;refine bN (hl pins s Y H _ I h) λv s1 ⟨x,y,g,k,P⟩=>?_;obtain⟨a,e,⟨xs,j⟩,q⟩:=P;subst e;cases k;obtain⟨its,C,p,hz⟩:=g.list j;refine wpAny_pyIter_list p.isList ?_;refine⟨s1.heap.objs.size,[s1.heap.objs.size],_,_,y,rfl,g.kept (t':=s1.toks) λb o e=>Q3 _ e,oS a _,⟨_,Ro _ rfl,rfl,rfl⟩,λb d=>?_,q⟩;have e:b=s1.heap.objs.size:=by simpa using d
 subst e;exact g.Bc (Rf _) (g.hok.fresh (Rf _))
theorem AX{R:It->Hp->Prop}{lo hi:Int}{t u v:Tok}{tk:Nat}(I:Inv X pins Y H s)(h1:-(2^62)<=lo)(h2:lo<2^62)(h3:-(2^62)<=hi)(h4:hi<2^62)
  (q:R (Ou lo (hi-lo).toNat) H):wpAny (model X.prog X.w) X.A (pyIter (.ref s.heap.objs.size)) (P4 X pins Y tg R) E { s with heap:=s.heap.push { cls:=.type "range",data:=.fields #[.int lo t,.int hi u,.int 1 v] },toks:=tk }:=by
 refine wpAny_pyIter_range (IsRange.new ..) (small_one h1 h2 h3 h4) ?_;have g:Inv X pins Y H { s with heap:=s.heap.push { cls:=.type "range",data:=.fields #[.int lo t,.int hi u,.int 1 v] },toks:=tk }:=I.kept λb o e=>Q3 _ e;refine⟨(s.heap.push { cls:=.type "range",data:=.fields #[.int lo t,.int hi u,.int 1 v] }).objs.size,[(s.heap.push { cls:=.type "range",data:=.fields #[.int lo t,.int hi u,.int 1 v] }).objs.size],_,_,H,rfl,
  g.kept (t':=tk) λb o e=>Q3 _ e,tF _ lo (hi-lo).toNat,?_,λb d=>?_,q⟩
 .have F:lo+((0:Nat):Int)*1=lo:=by simp
  have j:(((hi-lo).toNat:Nat):Int)-((0:Nat):Int)=WE lo hi 1:=by rw[rangeSize_one];split<;>lia
  show IsRangeIter _ _ (lo+((0:Nat):Int)*1) ((((hi-lo).toNat:Nat):Int)-((0:Nat):Int)) 1;rw[F,j];exact Ro _ rfl
 .have e:b=(s.heap.push { cls:=.type "range",data:=.fields #[.int lo t,.int hi u,.int 1 v] }).objs.size:=by simpa using d
  subst e;exact g.Bc (Rf _) (g.hok.fresh (Rf _))
def Ny(ta:TA):TI:=λY H R=>ta Y H λvs e=>∃j:Int,vs=[.int j] /\ -(2^62)<=j/\j<2^62/\R (Ou 0 j.toNat) e
theorem xD{a:Expr}{ta:TA}{p:Pos}(hg:Gl X "range")(hm:X.mg "range" = none)(ha:PA X [a] ta)(hs:starEach [a] X.env=[(false,eval a X.env)]:=by rfl):PI X tg (.Call (.Name "range" p) [a] [] pos) (Ny ta):=by
 intro pins s Y H R I h;refine Call_ (qD I hg hm boot_range (Ui (bN (ha pos pins s Y H _ I h) λus s1 ⟨vs,H1,I1,r1,q1⟩=>?_) hs rfl));obtain⟨j,e,q1,q2,q⟩:=q1;subst e;cases r1 with
 |cons r rr=>cases rr;obtain⟨t,rfl⟩:=r;exact call_range_1 (AX I1 (by lia) (by lia) q1 q2 (by simpa using q))
def PM(I:TI)(g:TG)(tb:TS):TS:=λD Y H=>I Y H λJ e=>∃W:Nat->Nat->St->Hp->Prop,(∃m,W 0 m Y e)/\∀i m Y H,W i m Y H->
 (J.stop i H/\D.nx Y H)\/(J.go i H/\∃N:St->Hp->Prop,(∀Z0 H',N Z0 H'->∃U,U<m/\W (i+1) U Z0 H')/\∀x H',J.yld i H x H'->g x Y H' λR c=>tb { D with nx:=N,ct:=N,bk:=D.nx } R c)
noncomputable def mL(fp:List Addr)(h:Heap):List (Addr×Obj):=fp.filterMap λb=>(h.get? b).map λo=>(b,o)
theorem gA(d:b∈fp)(e:h.get? b=some o):(b,o)∈mL fp h:=Uu.mpr ⟨b,d,by rw[e];rfl⟩
theorem xk{p:Addr×Obj}(hp:p∈mL fp h):p.1∈fp/\h.get? p.1=some p.2:=by
 obtain⟨b,d,e⟩:=Uu.mp hp;cases q:h.get? b with
 |none=>rw[q] at e;cases e
 |some o=>rw[q] at e;have t:(b,o)=p:=Q9 e;subst t;exact⟨d,q⟩
theorem Inv.pinned(I:Inv X pins Y H s)(hf:∀b∈fp,mU X pins H b)(i:∀b∈fp,∃o,s.heap.get? b=some o/\∀v,o.data≠.cell v):Inv X (pins++mL fp s.heap) Y H s:=
 I.qN λp hp=>(QW.mp hp).elim (λz=>I.pin p (QV _ z)) λz=>by obtain⟨G,e⟩:=xk z;obtain⟨D,F,R,_⟩:=hf p.1 G;obtain⟨o,t,d⟩:=i p.1 G;rw[e] at t;cases t;exact⟨e,D,F,R,d⟩
theorem Inv.dS{pl:List (Addr×Obj)}(I:Inv X (pins++pl) Y H s):Inv X pins Y H s:=I.qN λp hp=>I.pin p (QV _ (QX _ hp))
theorem Kl{iter:Expr}{wi:TI}{g:TG}(hp:PassesOwn (model X.prog X.w) X.A X.env X.xe)(hc:X.calm=true)(hi:PI X tg iter wi)(hg:PG X tg g)(hb:sT X body tb)
  (hs:∀x,foldedSetIterable iter X.env x=pure x:=by intro _;rfl):PS X (.For tg iter body [] pos) (PM wi g tb):=by
 intro pins s Y H D I h;refine wpAny_For (bN (hi pins s Y H _ I h) λv s1 h1=>bN h1 λitv s2 h2=>?_) hs;obtain⟨it,fp,tn,J,H2,e,I2,T,st2,f2,W,⟨m0,w0⟩,turn⟩:=h2;subst e;have stat:∀{H':Hp},(∀b∈fp,H' b=none)->∀b∈fp,mU X pins H' b:=λhn b hb=>⟨hn b hb,(f2 b hb).2⟩
 refine codeAny_forLoop_any (λn s'=>∃i Z0 H',Inv X pins Z0 H' s'/\tn i s'.heap/\(∀b∈fp,H' b=none)/\W i n Z0 H') ?_ m0 ⟨0,Y,H2,I2,st2,λb hb=>(f2 b hb).1,w0⟩;rintro n s3 ⟨i,V,H3,I3,st3,fr3,w3⟩;rcases turn i n V H3 w3 with ⟨stop,qn⟩|⟨go,N,hN,step⟩
 .refine wpAny_passesOwn hp (bN (T.done X rfl rfl rfl hc i pins s3 V H3 X.xe I3 (stat fr3) st3 stop) λr s4 ⟨hr,I4⟩=>?_);subst hr;exact wpAny_execs_nil ⟨V,H3,I4,qn⟩
 .refine wpAny_passesOwn hp (bN (T.item X rfl rfl rfl hc i pins s3 V H3 X.xe I3 (stat fr3) st3 go) λr s4 ⟨u,hr,h4⟩=>?_);subst hr;refine wpAny_passesOwn hp (bN h4 λ_ s5 ⟨x,H5,I5,r5,y5,st5,fr5⟩=>?_);have I5':=I5.pinned (stat fr5) (T.obj _ _ st5);refine wpAny_passesOwn hp (bN (hg _ s5 V H5 x u _ I5' r5 (step x H5 y5)) λ_ s6 ⟨R,H6,I6,q6⟩=>?_);refine wpAny_passesOwn hp (bN (hb _ s6 R H6 _ I6 q6) λf s7 q7=>?_);have again:∀{Z:St}{H7:Hp},Inv X (pins++mL fp s5.heap) Z H7 s7->N Z H7->∃m,m<n/\∃i Z0 H',Inv X pins Z0 H' s7/\tn i s7.heap/\(∀b∈fp,H' b=none)/\W i m Z0 H':=λ{Z H7} I7 n7=>by obtain⟨m',hm,w7⟩:=hN Z H7 n7;refine⟨m',hm,i+1,Z,H7,I7.dS,T.keep _ _ _ st5 λb hb o e=>(I7.pin (b,o) (QV _ (QV _ (gA hb e)))).1,λb hb=>?_,w7⟩;obtain⟨o,e,d⟩:=T.obj _ _ st5 b hb;exact(I7.pin (b,o) (QV _ (QV _ (gA hb e)))).2.1
  cases f with
  |next=>obtain⟨Z,H7,I7,n7⟩:=q7;exact again I7 n7
  |cont=>obtain⟨Z,H7,I7,n7⟩:=q7;exact again I7 n7
  |brk=>obtain⟨Z,H7,I7,q7⟩:=q7;exact⟨Z,H7,I7.dS,q7⟩
  |ret v=>obtain⟨x7,Z,H7,I7,r7,q7⟩:=q7;exact⟨x7,Z,H7,I7.dS,r7,q7⟩
end
abbrev R2:=V->V->Hp->VK->Prop
def d0(X:Cx)(f:Value->Value->Sem Value)(r:R2):Prop:=
 ∀(pins:List (Addr×Obj))(s:Shared)(Y:St)(H:Hp)(x y:V)(v u:Value)(Q:VK),Inv X pins Y H s->RelV x v->RelV y u->r x y H Q->
  wpAny (model X.prog X.w) X.A (f v u) (EP X pins Y Q) X.xe s
def OX(X:Cx)(f:Value->Sem Value)(r:V->Hp->VK->Prop):Prop:=
 ∀(pins:List (Addr×Obj))(s:Shared)(Y:St)(H:Hp)(x:V)(v:Value)(Q:VK),Inv X pins Y H s->RelV x v->r x H Q->
  wpAny (model X.prog X.w) X.A (f v) (EP X pins Y Q) X.xe s
def cx(X:Cx)(f:Value)(r:List V->Hp->VK->Prop):Prop:=
 ∀(pins:List (Addr×Obj))(s:Shared)(Y:St)(H:Hp)(xs:List V)(us:List Value)(Q:VK),Inv X pins Y H s->Vals xs us->r xs H Q->
  wpAny (model X.prog X.w) X.A (call f us) (EP X pins Y Q) X.xe s
noncomputable def MD(r:R2)(ta tb:TE):TE:=λY H Q=>ta Y H λx e=>tb Y e λy c=>r x y c Q
noncomputable def QD(r:V->Hp->VK->Prop)(ta:TE):TE:=λY H Q=>ta Y H λx e=>r x e Q
noncomputable def rI(C:Int->Int->Prop)(g:Int->Int->V):R2:=λx y H Q=>∃i j,x=.int i/\y=.int j/\C i j/\Q (g i j) H
noncomputable def sM(g:Int->Int->V):R2:=λx y H Q=>∃i j,x=.int i/\y=.int j/\Q (g i j) H
def rU(g:Int->V):V->Hp->VK->Prop:=λx H Q=>∃i,x=.int i/\Q (g i) H
variable{f:Value->Value->Sem Value}{r:R2}
section
variable{X:Cx}{a b c:Expr}{ta tb j:TE}{pos:Pos}
theorem IM(ha:PE X a ta)(d:PE X b tb)(I:Inv X pins Y H s)
  (h:ta Y H λx e=>tb Y e λy c=>R x y c)
  (hf:∀v u s2 x y c,Inv X pins Y c s2->RelV x v->RelV y u->R x y c->wpAny (model X.prog X.w) X.A (f v u) Q X.xe s2):
  wpAny (model X.prog X.w) X.A (eval a X.env) (λv Z=>wpAny (model X.prog X.w) X.A (eval b X.env) (λu U=>wpAny (model X.prog X.w) X.A (f v u) Q X.xe U) X.xe Z) X.xe s:=by
 refine bN (ha pins s Y H _ I h) λv s1 ⟨x,e,g,k,l⟩=>?_;refine bN (d pins s1 Y e _ g l) λu s2 ⟨y,c,m,n,o⟩=>?_;exact hf v u s2 x y c m k n o
theorem NG{op:Operator}(i:d0 X (binaryOp op) r)(ha:PE X a ta)(d:PE X b tb):PE X (.BinOp a op b pos) (MD r ta tb):=by intro pins s Y H Q I h;exact wpAny_BinOp (IM ha d I h λv u s2 x y c m K w q=>i pins s2 Y c x y v u Q m K w q)
theorem Nr{op:UnaryOp}{r:V->Hp->VK->Prop}(i:OX X (unaryOp op) r)(ha:PE X a ta):PE X (.UnaryOp op a pos) (QD r ta):=by intro pins s Y H Q I h;exact UnaryOp_ (bN (ha pins s Y H _ I h) λv s1 ⟨x,e,g,k,l⟩=>i pins s1 Y e x v Q g k l)
theorem n5{C:Int->Int->Prop}{g:Int->Int->Int}
  (rule:∀(i j:Int)(t u:Tok)(s:Shared)(Q:Value->Shared->Prop)(E:Value->Shared->Prop),C i j->Q (.int (g i j) s.toks) { s with toks:=s.toks+1 }->wpAny (model X.prog X.w) X.A (f (.int i t) (.int j u)) Q E s):
  d0 X f (rI C λi j=>.int (g i j)):=by
 intro pins s Y H x y v u Q I K b h;obtain⟨i,j,rfl,rfl,hc,q⟩:=h;obtain⟨t,rfl⟩:=K;obtain⟨t',rfl⟩:=b;exact rule i j t t' s _ _ hc ⟨.int (g i j),H,I.tok _,⟨_,rfl⟩,q⟩
theorem LQ{g:Int->Int->Int}
  (rule:∀(i j:Int)(t u:Tok)(s:Shared)(Q:Value->Shared->Prop)(E:Value->Shared->Prop),Q (.int (g i j) s.toks) { s with toks:=s.toks+1 }->wpAny (model X.prog X.w) X.A (f (.int i t) (.int j u)) Q E s):
  d0 X f (sM λi j=>.int (g i j)):=by
 intro pins s Y H x y v u Q I K b h;obtain⟨i,j,rfl,rfl,q⟩:=h;obtain⟨t,rfl⟩:=K;obtain⟨t',rfl⟩:=b;exact rule i j t t' s _ _ ⟨.int (g i j),H,I.tok _,⟨_,rfl⟩,q⟩
theorem D5{g:Int->Int->Bool}
  (rule:∀(i j:Int)(t u:Tok)(s:Shared)(Q:Value->Shared->Prop)(E:Value->Shared->Prop),Q (.bool (g i j)) s->wpAny (model X.prog X.w) X.A (f (.int i t) (.int j u)) Q E s):
  d0 X f (sM λi j=>.bl (g i j)):=by
 intro pins s Y H x y v u Q I K b h;obtain⟨i,j,rfl,rfl,q⟩:=h;obtain⟨t,rfl⟩:=K;obtain⟨t',rfl⟩:=b;exact rule i j t t' s _ _ ⟨.bl (g i j),H,I,rfl,q⟩
def Mp(i j:Int):Prop:=0<=j/\j<=1000000/\i.natAbs<2^64
theorem KQ:d0 X (binaryOp .Add) (sM λi j=>.int (i+j)):=LQ λ_ _ _ _ _ _ _ q=>add_int q
theorem IB:d0 X (binaryOp .Sub) (sM λi j=>.int (i-j)):=LQ λ_ _ _ _ _ _ _ q=>sub_int q
theorem DO:d0 X (binaryOp .Mod) (rI (λ_ j=>j≠0) λi j=>.int (i.fmod j)):=n5 λ_ _ _ _ _ _ _ hc q=>mod_int' hc q
theorem Kv:d0 X (binaryOp .Pow) (rI Mp λi j=>.int (i^j.toNat)):=n5 λ_ _ _ _ _ _ _ hc q=>pow_int_small hc.1 hc.2.1 hc.2.2 q
theorem Qz{f:Value->Sem Value}{g:Int->Int}
  (rule:∀(i:Int)(t:Tok)(s:Shared)(Q:Value->Shared->Prop)(E:Value->Shared->Prop),Q (.int (g i) s.toks) { s with toks:=s.toks+1 }->wpAny (model X.prog X.w) X.A (f (.int i t)) Q E s):
  OX X f (rU λi=>.int (g i)):=by
 intro pins s Y H x v Q I K h;obtain⟨i,rfl,q⟩:=h;obtain⟨t,rfl⟩:=K;exact rule i t s _ _ ⟨.int (g i),H,I.tok _,⟨_,rfl⟩,q⟩
theorem Kk:OX X (unaryOp .USub) (rU λi=>.int (-i)):=Qz λ_ _ _ _ _ q=>neg_int q
end
variable{op':CmpOp}{r':R2}{us:List Value}
section
variable{X:Cx}{a b c:Expr}{ta tb j:TE}{pos:Pos}
theorem qq{Q:VK}{k h:Bool}(I:Inv X pins Y H s)(q:Q (.bl k) H)(e:k=h):EP X pins Y Q (.bool h) s:=by subst e;exact⟨.bl k,H,I,rfl,q⟩
theorem vf:d0 X (compareOp .Lt) (sM λi j=>.bl (decide (i<j))):=D5 λ_ _ _ _ _ _ _ q=>lt_int q
theorem FT:d0 X (compareOp .LtE) (sM λi j=>.bl (decide (i<=j))):=D5 λ_ _ _ _ _ _ _ q=>le_int q
theorem BN:d0 X (compareOp .Gt) (sM λi j=>.bl (decide (j<i))):=D5 λ_ _ _ _ _ _ _ q=>gt_int q
theorem Bv:d0 X (compareOp .GtE) (sM λi j=>.bl (decide (j<=i))):=D5 λ_ _ _ _ _ _ _ q=>ge_int q
theorem oZ:d0 X (compareOp .In) (λx y H Q=>∃i j,x=.str i/\y=.str j/\Q (.bl (!(RU j i 0 j.length 1).isEmpty)) H):=by intro pins s Y H x y v u Q I K b h;obtain⟨i,j,rfl,rfl,q⟩:=h;obtain⟨t,rfl⟩:=K;obtain⟨t',rfl⟩:=b;exact in_str (qq I q rfl)
theorem Cd:d0 X (compareOp .Is) (λx y H Q=>y=.non/\Q (.bl (decide (x=.non))) H):=by
 intro pins s Y H x y v u Q I K b h;obtain⟨rfl,q⟩:=h;cases b;refine is_none_gen (qq I q ?_);cases x<;>first
  |(cases K;rfl)
  |(obtain⟨t,rfl⟩:=K;rfl)
theorem wm:d0 X (compareOp .IsNot) (λx y H Q=>y=.non/\Q (.bl (!decide (x=.non))) H):=by
 intro pins s Y H x y v u Q I K b h;obtain⟨rfl,q⟩:=h;cases b;refine isnot_none_gen (qq I q ?_);cases x<;>first
  |(cases K;rfl)
  |(obtain⟨t,rfl⟩:=K;rfl)
theorem jS:d0 X (compareOp .NotIn) (λx y H Q=>∃i j,x=.str i/\y=.str j/\Q (.bl (!(!(RU j i 0 j.length 1).isEmpty))) H):=by intro pins s Y H x y v u Q I K b h;obtain⟨i,j,rfl,rfl,q⟩:=h;obtain⟨t,rfl⟩:=K;obtain⟨t',rfl⟩:=b;exact notIn_str (qq I q rfl)
theorem dm(b:Expr)(h:op≠.In:=by decide)(h2:op≠.NotIn:=by decide):behindInMarks op b=false:=by
 have e1:(op==CmpOp.In)=false:=by cases op<;>first|rfl|exact absurd rfl h
 have e2:(op==CmpOp.NotIn)=false:=by cases op<;>first|rfl|exact absurd rfl h2
 cases b<;>simp[behindInMarks,e1,e2]
theorem Fe(i:d0 X (compareOp op) r)(ha:PE X a ta)(d:PE X b tb)(hm:behindInMarks op b=false):PE X (.Compare a [op] [b] pos) (MD r ta tb):=by intro pins s Y H Q I h;exact wpAny_Compare1 (IM ha d I h λv u s2 x y c m K w q=>i pins s2 Y c x y v u Q m K w q) hm
noncomputable def Gq(t:TE):TT:=λY H Q=>t Y H λx H'=>∃k,x=.bl k/\Q k H'
theorem CN(i:d0 X (compareOp op) r)(ha:PE X a ta)(d:PE X b tb)(hm:behindInMarks op b=false):PT X (.Compare a [op] [b] pos) (Gq (MD r ta tb)):=by
 intro pins s Y H Q I h;refine wpAny_isTrue_Compare1 (bN (ha pins s Y H _ I h) λv s1 ⟨x,q,g,B,l⟩=>bN (d pins s1 Y q _ g l) λu s2 ⟨y,E,m,n,o⟩=>bN (i pins s2 Y E x y v u _ m B n o) λc p ⟨z,D,O,P,k,e,L⟩=>?_) hm
 subst e;cases P;exact wpAny_truthy_bool ⟨D,O,L⟩
noncomputable def uu(r r':R2)(ta tb j:TE):TE:=λY H Q=>ta Y H λx e=>tb Y e λy c=>r x y c λz D=>∃k,z=.bl k /\
 (if k=true then j Y D λs v=>r' y s v Q else Q (.bl false) D)
theorem BM(ho:d0 X (compareOp op) r)(ho':d0 X (compareOp op') r')(ha:PE X a ta)(hb:PE X b tb)(hc:PE X c j)
  (hm:lastMarks [op,op'] [b,c]=false:=by with_unfolding_all rfl):PE X (.Compare a [op,op'] [b,c] pos) (uu r r' ta tb j):=by
 intro pins s Y H Q I h;refine Compare_chain (bN (ha pins s Y H _ I h) λv s1 ⟨x,H1,I1,r1,q1⟩=>chain_link (bN (hb pins s1 Y H1 _ I1 q1) λu s2 ⟨y,H2,I2,r2,q2⟩=>bN (ho pins s2 Y H2 x y v u _ I2 r1 r2 q2) λd s3 ⟨z,H3,I3,r3,k,e,q3⟩=>?_)) hm
 subst e;cases r3;refine wpAny_truthy_bool ?_;cases k with
 |false=>exact ite_ff ⟨.bl false,H3,I3,rfl,q3⟩
 |true=>exact ite_tt (chain_last (bN (hc pins s3 Y H3 _ I3 q3) λw' s4 ⟨z',H4,I4,r4,q4⟩=>ho' pins s4 Y H4 y z' u w' Q I4 r2 r4 q4))
theorem yL(ho:d0 X (compareOp op) r)(ho':d0 X (compareOp op') r')(ha:PE X a ta)(hb:PE X b tb)(hc:PE X c j)
  (hm:lastMarks [op,op'] [b,c]=false:=by with_unfolding_all rfl):PT X (.Compare a [op,op'] [b,c] pos) (Gq (uu r r' ta tb j)):=by
 intro pins s Y H Q I h;refine isTrue_chain (bN (ha pins s Y H _ I h) λv s1 ⟨x,H1,I1,r1,q1⟩=>test_link (bN (hb pins s1 Y H1 _ I1 q1) λu s2 ⟨y,H2,I2,r2,q2⟩=>bN (ho pins s2 Y H2 x y v u _ I2 r1 r2 q2) λd s3 ⟨z,H3,I3,r3,k,e,q3⟩=>?_)) hm
 subst e;cases r3;refine wpAny_truthy_bool ?_;cases k with
 |false=>obtain⟨k',e',q'⟩:=q3;cases e';exact ite_ff ⟨H3,I3,q'⟩
 |true=>refine ite_tt (test_last (bN (hc pins s3 Y H3 _ I3 q3) λw' s4 ⟨z',H4,I4,r4,q4⟩=>bN (ho' pins s4 Y H4 y z' u w' _ I4 r2 r4 q4) λd' s5 ⟨z2,H5,I5,r5,k2,e2,q5⟩=>?_));subst e2;cases r5;exact wpAny_truthy_bool ⟨H5,I5,q5⟩
theorem nJ:(sizeLine:Nat)<2^63:=by rw[sizeLine_eq];decide
theorem tY:d0 X (binaryOp .Add) (λx y H Q=>∃i j,x=.str i/\y=.str j/\i.length+j.length<=sizeLine/\Q (.str (i++j)) H):=by intro pins s Y H x y v u Q I K b h;obtain⟨i,j,rfl,rfl,hz,q⟩:=h;obtain⟨t,rfl⟩:=K;obtain⟨t',rfl⟩:=b;exact add_str (λt' tk=>⟨.str (i++j),H,I.tok _,⟨_,rfl⟩,q⟩) hz
theorem vals1{x:V}(r:Vals [x] us):∃u,us=[u]/\RelV x u:=by
 cases r with
 |cons k n=>cases n;exact⟨_,rfl,k⟩
theorem vals2{x:V}(r:Vals [x,y] us):∃u s,us=[u,s]/\RelV x u/\RelV y s:=by
 cases r with
 |cons k n=>
  cases n with
  |cons P H=>cases H;exact⟨_,_,rfl,k,P⟩
theorem AD:cx X (.builtin "abs") (λxs H Q=>∃i,xs=[.int i]/\Q (.int (if i<0 then -i else i)) H):=by intro pins s Y H xs us Q I r h;obtain⟨i,rfl,q⟩:=h;obtain⟨u,rfl,t,rfl⟩:=vals1 r;exact call_abs_int λu tk=>⟨.int (if i<0 then -i else i),H,I.tok _,⟨_,rfl⟩,q⟩
theorem wY(hc:X.calm=true):cx X (.builtin "max") (λxs H Q=>∃i j,xs=[.int i,.int j]/\Q (.int (if j > i then j else i)) H):=by
 intro pins s Y H xs us Q I r h;obtain⟨i,j,rfl,q⟩:=h;obtain⟨u,x,rfl,⟨t,rfl⟩,⟨t',rfl⟩⟩:=vals2 r;refine max_two_ints (I.ok.hd hc) λh' tk k=>⟨_,H,I.kept k,?_,q⟩
 by_cases v:j > i
 .rw[if_pos v,if_pos v];exact⟨_,rfl⟩
 .rw[if_neg v,if_neg v];exact⟨_,rfl⟩
theorem wM(hc:X.calm=true):cx X (.builtin "min") (λxs H Q=>∃i j,xs=[.int i,.int j]/\Q (.int (if j<i then j else i)) H):=by
 intro pins s Y H xs us Q I r h;obtain⟨i,j,rfl,q⟩:=h;obtain⟨u,x,rfl,⟨t,rfl⟩,⟨t',rfl⟩⟩:=vals2 r;refine min_two_ints (I.ok.hd hc) λh' tk k=>⟨_,H,I.kept k,?_,q⟩
 by_cases v:j<i
 .rw[if_pos v,if_pos v];exact⟨_,rfl⟩
 .rw[if_neg v,if_neg v];exact⟨_,rfl⟩
theorem xa:cx X (.type "int") (λxs H Q=>(∃i,xs=[.int i]/\Q (.int i) H)\/∃k,xs=[.bl k]/\Q (.int (if k then 1 else 0)) H):=by
 intro pins s Y H xs us Q I r h;rcases h with ⟨i,rfl,q⟩|⟨k,rfl,q⟩
 .obtain⟨u,rfl,t,rfl⟩:=vals1 r;exact call_int_int ⟨.int i,H,I,⟨_,rfl⟩,q⟩
 .obtain⟨u,rfl,B⟩:=vals1 r;cases B;exact call_int_bool ⟨.int (if k then 1 else 0),H,I.tok _,⟨_,rfl⟩,q⟩
def N7(K:QU)(x:V)(H:Hp)(n:Nat):Prop:=
 match x with
 | .str y=>y.length<=sizeLine/\n=y.length
 | .byt y=>y.size<=sizeLine/\n=y.size
 | .ref p=>(∃xs,gu K H p xs/\n=xs.length)\/∃xs,gv K H p xs/\n=xs.length
 |_=>False
theorem A8:cx X (.builtin "len") (λxs H Q=>∃x n,xs=[x]/\N7 X.K x H n/\Q (.int n) H):=by
 intro pins s Y H xs us Q I r h;obtain⟨x,n,rfl,e,q⟩:=h;obtain⟨u,rfl,A⟩:=vals1 r;have hl:=nJ;have E:sizeLine=16777216:=sizeLine_eq;cases x with
 |str y=>obtain⟨t,rfl⟩:=A;obtain⟨T,a⟩:y.length<=sizeLine/\n=y.length:=e;subst a;exact len_str (by lia) ⟨.int _,H,I.tok _,⟨_,rfl⟩,q⟩
 |byt y=>obtain⟨t,rfl⟩:=A;obtain⟨T,a⟩:y.size<=sizeLine/\n=y.size:=e;subst a;exact PySem.W.len_bytes (by lia) ⟨.int _,H,I.tok _,⟨_,rfl⟩,q⟩
 |ref p=>
  cases A;have a:(∃xs,gu X.K H p xs/\n=xs.length)\/∃xs,gv X.K H p xs/\n=xs.length:=e;rcases a with ⟨xs,w,a⟩|⟨xs,w,a⟩
  .subst a;obtain⟨its,r',pl,hz⟩:=I.list w;have z:=r'.length;exact Calls.call_len_list pl.isList (by simp only[Q0];lia) ⟨.int xs.length,H,I.tok _,⟨_,by simp only[Q0];rw[z]⟩,q⟩
  .subst a;obtain⟨its,r',pl,hz⟩:=I.tuple w;have z:=r'.length;exact len_tuple pl (by simp only[Q0];lia) ⟨.int xs.length,H,I.tok _,⟨_,by simp only[Q0];rw[z]⟩,q⟩
 |_=>exact(show False from e).elim
end
structure t4(h:Heap)(x dx C:Addr)(mA:Str->Option Value):Prop where
 obj:h.get? x=some (Sb C dx)
 ns:h.Ns1 dx mA
 ne:dx≠x
variable{dx:Addr}{mA:Str->Option Value}
theorem wA(n:h.Ns1 dx mA):∃od,h.get? dx=some od/\∀name,TV name od=some (mA name):=by
 obtain⟨o,es,ep,i,hd,hk,_,hm⟩:=n;refine⟨o,i,λname=>?_⟩;have e:=hm name;unfold nsFind findBy at e;rw[<-Array.find?_toList] at e;unfold TV;rw[hd];dsimp only;split
 .rename_i y q;rw[q] at e;exact congrArg some e
 .rename_i q;rw[q] at e;have a:es.toList.any (·.refKey)=false:=by rw[Uy];intro y T;obtain⟨z,t,X⟩:=hk y (Array.mem_toList_iff.mp T);simp[DictEntry.refKey,X]
  have a':¬ es.toList.any (·.refKey)=true:=by rw[a];exact RE
  rw[if_neg a'];exact congrArg some e
variable{C:Addr}
theorem t4.look{x:Addr}(I:t4 h x dx C mA):∃od,PySem.W.InstAt h x (Sb C dx) C (some od)/\∀name,TV name od=some (mA name):=
 let ⟨od,ho,hl⟩:=wA I.ns
 ⟨od,⟨I.obj,rfl,rfl,ho⟩,hl⟩
variable{kw:List (Str×Value)}
section
variable{prog:Program}{w:World}{A:Around}{E:Value->Shared->Prop}{s:Shared}{K:QU}{x dx C f:Addr}{mA:Str->Option Value}{name:Str}{v:Value}
theorem get_map{expr:Bool}(X:K.In s.heap)(I:t4 s.heap x dx C mA)(N:S3 K C name=true)(H:Tj K C=true)
  (ha:RP K (.ref C) name=some none)(c:mA name=some v)(Y:VH v=true)(h:Q v { s with toks:=s.toks+1 }):
  wpAny (model prog w) A (getAttr (.ref x) name expr) Q E s:=by
 obtain⟨od,J,hl⟩:=I.look;exact PySem.W.get_value X J (Ua N).1 (PySem.W.findObj_own H ha rfl (by rw[hl,c])) Y h
theorem zd{pl:Sem Bool}{Q:Value×List Value->Shared->Prop}(X:K.In s.heap)(I:t4 s.heap x dx C mA)(N:S3 K C name=true)
  (hf:RP K (.ref C) name=some (some (.ref f)))(ht:Uj K (.ref f)=true)(c:mA name=none)(h:Q (.ref f,[.ref x]) s):
  wpAny (model prog w) A (getMethod (.ref x) name pl) Q E s:=by
 obtain⟨od,J,hl⟩:=I.look;exact PySem.W.method_fn X J (Ua N).1 (Ua N).2 hf (beq_iff_eq.mp ht) (by show (TV name od).map (·.isSome)=some false;rw[hl,c];rfl) h
theorem Eb{ns:List Str}{Q:Unit->Shared->Prop}(X:K.In s.heap)(I:t4 s.heap x dx C mA)
  (V:RP K (.ref C) "__setattr__" = some (some (.builtin "object.__setattr__")))(hp:Uk K C=true)(ht:UG K C name=some none)(o:Tj K C=true)
  (p:Vk mA ns)(hsz:ns.length<=sizeLine)
  (h:∀h',t4 h' x dx C (λy=>if y=name then some v else mA y)->TN dx s.heap h'->Q () { s with heap:=h',toks:=s.toks+2 }):
  wpAny (model prog w) A (setAttr (.ref x) name v) Q E s:=by
 obtain⟨od,J,hl⟩:=I.look;refine PySem.W.set_plain X J V (PySem.W.osa_open (s:={ s with toks:=s.toks+1 }) (r:=none) X J hp ht λb=>?_);obtain⟨cd,hc,u⟩:=PySem.W.any_some o;have k:s.heap.get? x=some ⟨.ref C,some dx,.plain,#[]⟩:=I.obj;refine wpAny_bind (wpAny_pure (wpAny_bind (wpAny_bind (wpAny_loadPart k (wpAny_bind (WG (s:={ s with toks:=s.toks+1 }) (PySem.W.looks_clsIn X hc) ?_))))));rw[u];refine wpAny_pure (a:=some dx) (wpAny_bind (wpAny_pure (wpAny_bind ?_)));refine wpAny_nsSet1 (s:={ s with toks:=s.toks+1 }) I.ns λh' Y q=>?_;obtain⟨P,t,B,z,H,S⟩:=Y.count (WT name v p);refine wpAny_bind (wpAny_lookBehind z (by rw[H];exact pastItsLine_dict (Rm S (by rw[Q6];lia))) ?_);exact wpAny_pure (h _ ⟨(q.2 _ (Sd I.ne)).trans I.obj,Y,I.ne⟩ q)
theorem yV{R:Result->Shared->Prop}{vs:List Value}(X:K.In s.heap)(hm:UH K C=true)
  (hi:RP K (.ref C) "__init__" = some (some (.ref f)))(hf:PySem.W.typeIn K (.ref f)=some (.type "function"))
  (h:codeAny (model prog w) (A.under (.builtin "type.__call__" ⟨.ref C::vs,kw⟩)) (.call (.ref f) ⟨.ref (s.heap.objs.size+1)::vs,kw⟩) (PySem.W.InitBack (s.heap.objs.size+1) R)
   { s with heap:=(s.heap.push RZ).push (Sb C s.heap.objs.size) }):
  codeAny (model prog w) A (.call (.ref C) ⟨vs,kw⟩) R s:=by
 obtain⟨H,g,d,t,os⟩:=s;exact PySem.W.make_core (PySem.W.makes_of X hm) (PySem.W.looks_findIn X hi) (λself=>PySem.W.bind_fn X self hf) (.inl rfl) h
end
noncomputable def fS(f:Str)(v:V):List (Str×V)->List (Str×V)
 |[]=>[(f,v)]
 |(g,x)::r=>if g=f then (g,v)::r else (g,x)::fS f v r
theorem lB(f g:Str)(v:V):∀fs:List (Str×V),(fS f v fs).lookup g=if g=f then some v else fs.lookup g
 |[]=>by
  show Ta g [(f,v)]=_;by_cases h:g=f
  .have d:(g==f)=true:=beq_iff_eq.mpr h;simp only[Ta,d,if_pos h]
  .have d:(g==f)=false:=beq_eq_false_iff_ne.mpr h;simp only[Ta,d,if_neg h]
 |(k,x)::r=>by
  have l:=lB f g v r;rw[show fS f v ((k,x)::r)=(if k=f then (k,v)::r else (k,x)::fS f v r) from rfl];by_cases hk:k=f
  .rw[if_pos hk];by_cases h:g=k
   .have d:(g==k)=true:=beq_iff_eq.mpr h;simp only[Ta,d,if_pos (h.trans hk)]
   .have d:(g==k)=false:=beq_eq_false_iff_ne.mpr h;simp only[Ta,d,if_neg (λe:g=f=>h (e.trans hk.symm))]
  .rw[if_neg hk];by_cases h:g=k
   .have d:(g==k)=true:=beq_iff_eq.mpr h;simp only[Ta,d,if_neg (λe:g=f=>hk (h.symm.trans e))]
   .have d:(g==k)=false:=beq_eq_false_iff_ne.mpr h;simp only[Ta,d];exact l
theorem kD(f:Str)(v:V):∀fs:List (Str×V),f∈(fS f v fs).map (·.1)/\∀g,g∈fs.map (·.1)->g∈(fS f v fs).map (·.1)
 |[]=>⟨by simp[fS],λg h=>by simp at h⟩
 |(k,x)::r=>by
  obtain⟨I,X⟩:=kD f v r;rw[show fS f v ((k,x)::r)=(if k=f then (k,v)::r else (k,x)::fS f v r) from rfl];by_cases hk:k=f
  .rw[if_pos hk];subst hk;exact⟨by simp,λg h=>by simpa using h⟩
  .rw[if_neg hk];refine⟨?_,λg h=>?_⟩
   .rw[Ri];exact Q4 _ I
   .rw[Ri] at h ⊢;rcases Ra.mp h with e|e
    .exact Ra.mpr (.inl e)
    .exact Q4 _ (X g e)
theorem ly(f:Str)(v:V):∀fs:List (Str×V),(fS f v fs).length<=fs.length+1
 |[]=>by simp[fS]
 |(k,x)::r=>by
  have l:=ly f v r;rw[show fS f v ((k,x)::r)=(if k=f then (k,v)::r else (k,x)::fS f v r) from rfl];by_cases hk:k=f
  .rw[if_pos hk,Q6,Q6];lia
  .rw[if_neg hk,Q6,Q6];lia
theorem gU.some_of{o:Option Value}(r:gU (some v) o):∃u,o=some u/\RelV v u:=by
 cases o with
 |none=>exact(show False from r).elim
 |some u=>exact⟨u,rfl,r⟩
theorem gU.none_of{o:Option Value}(r:gU none o):o=none:=by
 cases o with
 |none=>rfl
 |some u=>exact(show False from r).elim
theorem wW(r:RelV v u):VH u=true:=by
 cases v with
 |non=>cases (show u=US from r);rfl
 |bl b=>cases (show u=VG b from r);rfl
 |int i=>obtain⟨t,e⟩:=(show ∃t,u=Vf i t from r);cases e;rfl
 |str x=>obtain⟨t,e⟩:=(show ∃t,u=UE x t from r);cases e;rfl
 |byt b=>obtain⟨t,e⟩:=(show ∃t,u=Wx b t from r);cases e;rfl
 |flt b=>obtain⟨t,e⟩:=(show ∃t,u=Wy b t from r);cases e;rfl
 |ref a=>cases (show u=RD a from r);rfl
 |ty n=>cases (show u=WC n from r);rfl
section
variable{P:Program}{w:World}{H H':Hp}{h h':Heap}{a C dx:Addr}{fs fs':List (Str×V)}
theorem l4(hok:jH P w H h)(e:H a=some (.ins C dx fs)):∃mA,t4 h a dx C mA/\(∀f,gU (fs.lookup f) (mA f))/\Vk mA (fs.map (·.1))/\fs.length<=1000/\H dx=some (.own a):=by
 obtain⟨d,z,ne,ob,mA,n,r,q⟩:=(show cb P w H h a (.ins C dx fs) from hok a _ e)
 exact⟨mA,⟨ob,n,ne⟩,r,q,z,d⟩
end
structure k6(K:QU)(C:Addr):Prop where
 pg:S3 K C Str.empty=true
 hd:Tj K C=true
 po:Uk K C=true
 sa:RP K (.ref C) "__setattr__" = some (some (.builtin "object.__setattr__"))
theorem k6.get(c:k6 K C)(f:Str):S3 K C f=true:=c.pg
def dr(K:QU)(C:Addr)(f:Str):Prop:=RP K (.ref C) f=some none
theorem dr.Mh{f:Str}(n:dr K C f):UG K C f=some none:=by unfold UG;rw[show RP K (.ref C) f=some none from n];rfl
structure Meth(K:QU)(C:Addr)(m:Str)(f:Addr):Prop where
 at_:RP K (.ref C) m=some (some (.ref f))
 fn:Uj K (.ref f)=true
 kp:R8 K (.ref f)=true
variable{m:Str}
section
variable{X:Cx}{pins:List (Addr×Obj)}{Y:St}{H:Hp}{s:Shared}{a C dx:Addr}{fs:List (Str×V)}{f:Str}{v:V}{A:Around}{E:Value->Shared->Prop}
theorem uQ{b:Bool}(I:Inv X pins Y H s)(e:H a=some (.ins C dx fs))(c:k6 X.K C)(n:dr X.K C f)(l:fs.lookup f=some v)
  (h:∀u s',Inv X pins Y H s'->RelV v u->Q u s'):wpAny (model X.prog X.w) A (getAttr (.ref a) f b) Q E s:=by
 obtain⟨mA,O,r,_,_,_⟩:=l4 I.hok e;obtain⟨u,x,q⟩:=gU.some_of (v:=v) (o:=mA f) (by rw[<-l];exact r f);exact get_map I.sS O (c.get f) c.hd n x (wW q) (h u _ (I.tok _) q)
theorem jo{g:Addr}{pl:Sem Bool}{Q:Value×List Value->Shared->Prop}(I:Inv X pins Y H s)(e:H a=some (.ins C dx fs))(c:k6 X.K C)(k:Meth X.K C m g)(l:fs.lookup m=none)
  (h:Q (.ref g,[.ref a]) s):wpAny (model X.prog X.w) A (getMethod (.ref a) m pl) Q E s:=by
 obtain⟨mA,O,r,_,_,_⟩:=l4 I.hok e;have hn:mA m=none:=gU.none_of (by rw[<-l];exact r m);exact zd I.sS O (c.get m) k.at_ k.fn hn h
theorem uc{Q:Unit->Shared->Prop}(I:Inv X pins Y H s)(e:H a=some (.ins C dx fs))(c:k6 X.K C)(n:dr X.K C f)(hl:fs.length<1000)(S:RelV y u)
  (h:∀s',Inv X pins Y (upd H a (.ins C dx (fS f y fs))) s'->Q () s'):wpAny (model X.prog X.w) A (setAttr (.ref a) f u) Q E s:=by
 obtain⟨mA,O,r,J,_,i⟩:=l4 I.hok e;have hz:(fs.map (·.1)).length<=sizeLine:=by rw[QY,sizeLine_eq];lia
 refine Eb I.sS O c.sa c.po n.Mh c.hd J hz λh' v U=>h _ ?_;have hd:∃o,h'.get? dx=some o:=let ⟨o,_,_,e',_⟩:=v.ns;⟨o,e'⟩
 refine I.write (x:=a) (e:=dx) (by rw[e];exact TQ) (.inr i) (λb q d z=>(U.2 b d).trans z) hd ?_;refine⟨by rw[aF O.ne];exact i,?_,O.ne,v.obj,_,v.ns,λg=>?_,λg N=>?_⟩
 .have:=ly f y fs;lia
 .show gU ((fS f y fs).lookup g) (if g=f then some u else mA g);rw[lB];by_cases q:g=f
  .rw[if_pos q,if_pos q];exact S
  .rw[if_neg q,if_neg q];exact r g
 .by_cases q:g=f
  .rw[q];exact(kD f y fs).1
  .refine(kD f y fs).2 g (J g λz=>N ?_);show (if g=f then some u else mA g)=none;rw[if_neg q];exact z
theorem Inv.made(I:Inv X pins Y H s):Inv X pins Y (upd (upd H s.heap.objs.size (.own (s.heap.objs.size+1))) (s.heap.objs.size+1) (.ins C s.heap.objs.size []))
  { s with heap:=(s.heap.push RZ).push (Sb C s.heap.objs.size) }:=by
 have F:(s.heap.push RZ).get? s.heap.objs.size=some RZ:=Ro s.heap rfl;have j:((s.heap.push RZ).push (Sb C s.heap.objs.size)).get? (s.heap.objs.size+1)=some (Sb C s.heap.objs.size):=by have:=Ro (s.heap.push RZ) (o:=Sb C s.heap.objs.size) rfl;rwa[UZ] at this
 have Q:(s.heap.push RZ).Ns s.heap.objs.size (λ_=>none):=⟨RZ,#[],_,F,rfl,(λe p=>absurd p (by simp)),λ_=>rfl⟩
 have g:=I.laid (a:=s.heap.objs.size) (o:=.own (s.heap.objs.size+1)) (h':=s.heap.push RZ) (t':=s.toks) (λb u q=>Q3 _ q) (Rf _) ⟨_,F⟩;refine g.laid (a:=s.heap.objs.size+1) (o:=.ins C s.heap.objs.size []) (t':=s.toks) (λb u q=>Q3 _ q) (UI (UZ _ _)) ?_;have ne:s.heap.objs.size≠s.heap.objs.size+1:=Ru (TH _);refine⟨by rw[aF ne,bW],R1 _,ne,j,λ_=>none,(Heap.Ns1.of_empty Q).at λo q=>Q3 _ q,λ_=>TQ,λy T=>absurd rfl T⟩
theorem CP{prog:Program}{env:Env}{f:Str}(d:attributeBase e f env (eval e env)=eval e env)
  (h:wpAny (model prog w) A (eval e env) (λo Z=>wpAny (model prog w) A (getAttr o f true) Q E Z) E s):wpAny (model prog w) A (eval (.Attribute e f pos) env) Q E s:=
 Attribute_any_ h (by rw[arm_eval_Attribute,d])
end
def OC(K:QU)(ta:TE)(f:Str):TE:=λY H Q=>ta Y H λx e=>∃a C dx fs v,x=.ref a/\e a=some (.ins C dx fs)/\k6 K C/\dr K C f/\fs.lookup f=some v/\Q v e
def OU(K:QU)(ta h:TE)(f:Str):TS:=λD Y H=>h Y H λy e=>ta Y e λx c=>∃a C dx fs,x=.ref a/\c a=some (.ins C dx fs)/\k6 K C/\dr K C f/\fs.length<1000 /\
 D.nx Y (upd c a (.ins C dx (fS f y fs)))
section
variable{X:Cx}{o e value:Expr}{f:Str}{pos pos' I:Pos}{ta tv:TE}
theorem uz(p:PE X e ta)(d:attributeBase e f X.env (eval e X.env)=eval e X.env):PE X (.Attribute e f pos) (OC X.K ta f):=by intro pins s Y H Q I h;refine CP d (bN (p pins s Y H _ I h) λu s1 ⟨x,y,g,A,a,C,dx,fs,v,ex,ea,c,n,l,q⟩=>?_);subst ex;obtain rfl:u=RD a:=A;exact uQ g ea c n l λE s2 m z=>⟨v,y,m,z,q⟩
theorem Bs(ha:PE X o ta)(t:PE X value tv)(V:swapsWith value (some (.Attribute o f pos')) pos.line X.env=pure false):PS X (.Assign [.Attribute o f pos'] value pos) (OU X.K ta tv f):=by intro pins s Y H D I h;refine plainObj_wpAny_Assign_Attribute (bN (t pins s Y H _ I h) λu s1 ⟨y,e,g,b,q⟩=>bN (ha pins s1 Y e _ g q) λz s2 ⟨x,E,m,A,a,C,dx,fs,ex,ea,c,n,l,Q⟩=>?_) V;subst ex;obtain rfl:z=RD a:=A;exact uc m ea c n l b λr O=>⟨Y,_,O,Q⟩
theorem GL{pl:Sem Bool}{apos:Pos}{args:List Expr}(p:PE X e te)(I:Inv X pins Y H s)
  (h:te Y H λx y=>∃a C dx fs g,x=.ref a/\y a=some (.ins C dx fs)/\k6 X.K C/\Meth X.K C m g/\fs.lookup m=none /\
   ∀s1,Inv X pins Y y s1->wpAny (model X.prog X.w) X.A (callWith pos (.ref g) [.ref a] (backTo pos (starEach args X.env)) (backToKw pos (keywordEach [] X.env))) Q X.xe s1)
  (ht:eval (.Call (.Attribute e m apos) args [] pos) X.env=(do
   let ov <- eval e X.env
   standAt apos.atName
   let (f,first) <- holding [ov] (getMethod ov m pl)
   callWith pos f first (backTo pos (starEach args X.env)) (backToKw pos (keywordEach [] X.env)))):
  wpAny (model X.prog X.w) X.A (eval (.Call (.Attribute e m apos) args [] pos) X.env) Q X.xe s:=by
 refine TJ (pl:=pl) (bN (p pins s Y H _ I h) λu s1 ⟨x,y,Z,o,a,C,dx,fs,g,ex,ea,c,k,l,q⟩=>?_) ht;subst ex;obtain rfl:u=RD a:=o;exact jo Z ea c k l (q s1 Z)
end
section
variable{X:Cx}{pins:List (Addr×Obj)}{Y:St}{H:Hp}{s:Shared}{A:Around}{E:Value->Shared->Prop}{Q:Value->Shared->Prop}{c:Value}{b:Bool}
inductive lK(K:QU)(H:Hp):V->Value->Prop where
 |non:lK K H .non (.type "NoneType")
 |bl(x:Bool):lK K H (.bl x) (.type "bool")
 |int(i:Int):lK K H (.int i) (.type "int")
 |str(x:Str):lK K H (.str x) (.type "str")
 |flt(x:UInt64):lK K H (.flt x) (.type "float")
 |lst{a:Addr}{xs:List V}(e:H a=some (.lst xs)):lK K H (.ref a) (.type "list")
 |frz{a:Addr}{o:Obj}{xs:List V}(e:H a=some (.frz o (.lst xs))):lK K H (.ref a) (.type "list")
 |tup{a:Addr}{xs:List V}(e:H a=some (.tup xs)):lK K H (.ref a) (.type "tuple")
 |dK{a:Addr}{kvs:List (Key×V)}(e:H a=some (.dK kvs)):lK K H (.ref a) (.type "dict")
 |dT{a:Addr}{kvs:List (List Key×V)}(e:H a=some (.dT kvs)):lK K H (.ref a) (.type "dict")
 | ins {a C dx:Addr} {fs:List (Str×V)} (e:H a=some (.ins C dx fs)) (cl:k6 K C) (ha:RP K (.ref C) "__class__" = some (some (.builtin "object.__class__")))
   (hn:PySem.W.specialIn K (.builtin "object.__class__") "__get__" = some (some (.builtin "getset_descriptor.__get__"))) (htk:PySem.W.takesIn K (.builtin "object.__class__")=some true)
   (hm:PySem.W.mroIn K C (.type "object")=some true):lK K H (.ref a) (.ref C)
end
structure cP(k:Nat)(A:Around):Prop where
 hd:A.handled=none
 dp:A.depth+3*k+5<recursionLimit
 un:A.units+16*k+200<cLine
theorem cP.mono{A:Around}(r:cP k A)(h:j<=k):cP j A:=⟨r.hd,by have:=r.dp;lia,by have:=r.un;lia⟩
theorem cP.deeper{k:Nat}{A:Around}(r:cP (k+1) A)(env:Env):cP k (A.deeper env):=
 ⟨r.hd,by have:=r.dp;show A.depth+1+3*k+5<_;lia,by have:=r.un;show A.units+3+16*k+200<_;lia⟩
theorem tj{A:Around}:(A.under (.builtin "type.__call__" ⟨.ref C::us,kw⟩)).depth=A.depth+1:=by first|rfl|simp[Vi,Code.weight,Code.isCreation,Code.isGuard,Code.isCaller,WH,Vn,guardIds]
theorem uo{A:Around}:(A.under (.builtin "type.__call__" ⟨.ref C::us,kw⟩)).units=A.units+1:=by first|rfl|simp[Vi,Code.cUnits,WH,Vn]
theorem cP.make{A:Around}(r:cP (k+1) A)(C:Addr)(us:List Value)(kw:List (Str×Value)):cP k (A.under (.builtin "type.__call__" ⟨.ref C::us,kw⟩)):=
 ⟨r.hd,by have:=r.dp;rw[tj];lia,by have:=r.un;rw[uo];lia⟩
theorem cP.depth{k:Nat}{A:Around}(r:cP k A):A.depth<recursionLimit:=by have:=r.dp;lia
theorem cP.units{k:Nat}{A:Around}(r:cP k A):A.units+64<cLine:=by have:=r.un;lia
noncomputable def Bb:TA:=λ_ H Q=>Q [] H
noncomputable def vW(ta:TE)(tr:TA):TA:=λY H Q=>ta Y H λx e=>tr Y e λxs c=>Q (x::xs) c
section
variable{X:Cx}{e:Expr}{es:List Expr}{te:TE}{t:TA}{pos:Pos}
theorem dB:PA X [] Bb:=λ_ _ _ _ H Q I h=>VN ⟨[],H,I,.nil,h⟩
theorem cq(ha:PE X e te)(hr:PA X es t)(hs:starEach (e::es) X.env=(false,eval e X.env)::starEach es X.env:=by rfl):PA X (e::es) (vW te t):=by intro pos pins s Y H Q I h;rw[hs];show wpAny _ _ (spliced ((false,eval e X.env)::backTo pos (starEach es X.env))) _ _ s;refine Ul (bN (ha pins s Y H _ I h) λu s1 ⟨x,H1,I1,r1,q1⟩=>?_);exact bN (hr pos pins s1 Y H1 _ I1 q1) λus s2 ⟨xs,H2,I2,r2,q2⟩=>⟨x::xs,H2,I2,.cons r1 r2,q2⟩
def O8(t:TA):TE:=λY H Q=>t Y H λxs e=>xs.length<=sizeLine/\∀p,e p=none->Q (.ref p) (upd e p (.tup xs))
def Pm(t:TA):TE:=λY H Q=>t Y H λxs e=>xs.length<=sizeLine/\∀p,e p=none->Q (.ref p) (upd e p (.lst xs))
theorem xZ{x1}(h:PA X es t):PE X (.Tuple es x1 pos) (O8 t):=by intro pins s Y H Q I j;refine wpAny_Tuple_spliced (bN (h pos pins s Y H _ I j) λus s1 ⟨xs,y,g,r,z,q⟩=>⟨by rw[<-r.length];exact z,?_⟩);have hf:y s1.heap.objs.size=none:=g.hok.fresh (Rf _);refine⟨.ref s1.heap.objs.size,upd y s1.heap.objs.size (.tup xs),g.laid (t':=s1.toks) (λb u e=>Q3 _ e) (Rf _) ?_,rfl,q _ hf⟩;exact⟨z,us,r,⟨_,Ro _ rfl,rfl,_,rfl,rfl⟩⟩
theorem yi(h:PA X es t):PE X (.List es pos) (Pm t):=by intro pins s Y H Q I j;refine wpAny_List_spliced (bN (h pos pins s Y H _ I j) λus s1 ⟨xs,y,g,r,z,q⟩=>⟨by rw[<-r.length];exact z,?_⟩);have hf:y s1.heap.objs.size=none:=g.hok.fresh (Rf _);refine⟨.ref s1.heap.objs.size,upd y s1.heap.objs.size (.lst xs),g.laid (t':=s1.toks) (λb u e=>Q3 _ e) (Rf _) ?_,rfl,q _ hf⟩;exact⟨z,us,0,r,Ro _ rfl⟩
end
abbrev Sp:=List V->Hp->VK->XK->Prop
abbrev qY:=List Env->Hp->Shared->XK->Value->Shared->Prop
structure tS(P:Program)(w:World)(K:QU)(mg:Str->Option Value)(base:Heap)(A:Around)(outer:List Env)(s:Shared)(H:Hp):Prop where
 frames:A.frames=some outer
 mod:Mod K mg base
 bs:∀b o,base.get? b=some o->s.heap.get? b=some o/\H b=none
 bsz:base.objs.size<=s.heap.objs.size
 n9:s.heap.FunFrames base outer
 frf:∀b∈lR outer,H b=none
 hok:jH P w H s.heap
 bare:AllBare s.gens
def CE(outer:List Env)(P:Program)(w:World)(H:Hp)(s:Shared)(Q:VK)(u:Value)(s':Shared):Prop:=
 ∃v H',s'.os=s.os/\AllBare s'.gens/\Un (lR outer) [] H H' s.heap s'.heap/\jH P w H' s'.heap/\RelV v u/\Q v H'
def CR(CX:qY)(outer:List Env)(P:Program)(w:World)(H:Hp)(s:Shared)(Q:VK)(E:XK)(r:Result)(s':Shared):Prop:=
 match r with
 | .ok (.ret u)=>CE outer P w H s Q u s'
 | .ok _=>False
 | .error e=>CX outer H s E e s'
structure dg(P:Program)(w:World)(K:QU)(mg:Str->Option Value)(base:Heap)(CX:qY)(k:Nat)(f:Addr)(fd:FuncData)(ps:List Str)(sp:Sp):Prop where
 len:∀vs H Q E,sp vs H Q E->vs.length=ps.length
 run:∀(A:Around)(outer:List Env)(s:Shared)(H:Hp)(args:Args)(us:List Value)(vs:List V)(Q:VK)(E:XK),cP k A->tS P w K mg base A outer s H->BindsTo s fd args (ps.zip us)->Vals vs us->sp vs H Q E->
  codeAny (model P w) A (.call (.ref f) args) (CR CX outer P w H s Q E) s
theorem dg.mono{P:Program}{w:World}{K:QU}{mg:Str->Option Value}{base:Heap}{CX:qY}{j k:Nat}{f:Addr}{fd:FuncData}{ps:List Str}{sp:Sp}(F:dg P w K mg base CX j f fd ps sp)(h:j<=k):
  dg P w K mg base CX k f fd ps sp:=⟨F.len,λA outer s H args us vs Q E y=>F.run A outer s H args us vs Q E (y.mono h)⟩
variable{mg:Str->Option Value}{base:Heap}{CX:qY}{fd:FuncData}{ps:List Str}
theorem dg.imp{f:Addr}{sp I:Sp}(F:dg P w K mg base CX k f fd ps sp)
  (h:∀vs H Q E,I vs H Q E->sp vs H Q E):dg P w K mg base CX k f fd ps I:=
 ⟨λvs H Q E q=>F.len vs H Q E (h _ _ _ _ q),λA outer s H args us vs Q E y p d c u=>F.run A outer s H args us vs Q E y p d c (h _ _ _ _ u)⟩
variable{outer:List Env}
theorem tS.make{A:Around}(e:tS P w K mg base A outer s H)(C:Addr)(us:List Value)(kw:List (Str×Value)):
  tS P w K mg base (A.under (.builtin "type.__call__" ⟨.ref C::us,kw⟩)) outer s H:=⟨by first|exact e.frames|(simpa[Vi,Code.envs,Vn,pushEnvs] using e.frames),e.mod,e.bs,e.bsz,e.n9,e.frf,e.hok,e.bare⟩
section
variable{X:Cx}{pins:List (Addr×Obj)}{Y:St}{H:Hp}{s s':Shared}
theorem Inv.Nh(I:Inv X pins Y H s):tS X.prog X.w X.K X.mg X.base X.A X.stack s H:=
 ⟨I.ok.frames,I.ok.mod,I.bs,Rm I.ok.bsz I.sz,I.stack,I.vc,I.hok,I.bare⟩
theorem Inv.after{Q:VK}(I:Inv X pins Y H s)(h:CE X.stack X.prog X.w H s Q u s'):EP X pins Y Q u s':=by obtain⟨v,H',os,bare,un,hok,r,q⟩:=h;obtain⟨o,g,d,t,a⟩:=s';obtain rfl:a=s.os:=os;exact⟨v,H',I.call (h':=o) (g':=g) (d':=d) (t':=t) (ch:=[]) un hok bare (λb z=>absurd z (by simp)),r,q⟩
end
noncomputable def NY(sp:Sp)(dvs:List V)(E:XK)(t:TA):TE:=λY H Q=>t Y H λvs e=>sp (vs++dvs) e Q E
def vE(C:Addr)(m:Str)(sp:Sp)(dvs:List V)(E:XK)(ta:TE)(t:TA):TE:=λY H Q=>ta Y H λx e=>∃a dx fs,x=.ref a/\e a=some (.ins C dx fs)/\fs.lookup m=none /\
 t Y e λvs c=>sp (x::(vs++dvs)) c Q E
def Ga(C:Addr)(sp:Sp)(dvs:List V)(E:XK)(t:TA):TE:=λY H Q=>t Y H λvs e=>∀x dx,e x=none->e dx=none->dx≠x->
 sp (.ref x::(vs++dvs)) (upd (upd e dx (.own x)) x (.ins C dx [])) (λv c=>v=.non/\Q (.ref x) c) E
def Binds(K:QU)(fd:FuncData)(ps:List Str)(ds:List Value):Prop:=
 ∀(s:Shared)(us:List Value),K.In s.heap->(us++ds).length=ps.length->BindsTo s fd ⟨us,[]⟩ (ps.zip (us++ds))
theorem Binds.all(h:∀us:List Value,us.length=ps.length->bindArgs fd ⟨us,[]⟩=pure (ps.zip us)):Binds K fd ps []:=λs us _ hl=>by rw[RK] at hl ⊢;exact .of_eq (h us hl)
def Passes(CX:qY)(X:Cx)(E:XK):Prop:=∀(pins:List (Addr×Obj))(Y:St)(H:Hp)(s:Shared)(e:Value)(s':Shared),Inv X pins Y H s->CX X.stack H s E e s'->X.xe e s'
variable{vs:List V}
section
variable{X:Cx}{CX:qY}{k:Nat}{f C:Addr}{fd:FuncData}{ps:List Str}{sp:Sp}{dvs:List V}{ds:List Value}{E:XK}{x m:Str}{p pos apos:Pos}{e o:Expr}{es:List Expr}{ta:TE}{t:TA}
theorem s9{Q:VK}(F:dg X.prog X.w X.K X.mg X.base CX k f fd ps sp)(y:cP k X.A)(d:Binds X.K fd ps ds)(hd:Vals dvs ds)(C:Passes CX X E)
  (I:Inv X pins Y H s)(r:Vals vs us)(h:sp (vs++dvs) H Q E):wpAny (model X.prog X.w) X.A (call (.ref f) us) (EP X pins Y Q) X.xe s:=by
 have n:Vals (vs++dvs) (us++ds):=r.append hd;have hl:(us++ds).length=ps.length:=by rw[<-n.length];exact F.len _ _ _ _ h
 refine wpAny_call (codeAny_mono (F.run X.A X.stack s H ⟨us,[]⟩ (us++ds) (vs++dvs) Q E y I.Nh (d s us I.sS hl) n h) λr s' j=>?_);cases r with
 |error e=>exact C pins Y H s e s' I j
 |ok fl=>
  cases fl with
  |ret u=>exact I.after j
  |next=>exact Se j
  |brk=>exact Se j
  |cont=>exact Se j
theorem Ds(F:dg X.prog X.w X.K X.mg X.base CX k f fd ps sp)(hr:cP k X.A)(hg:Gl X x)(hm:X.mg x=some (.ref f))(hk:R8 X.K (.ref f)=true)(hb:Binds X.K fd ps ds)(hd:Vals dvs ds)(hx:Passes CX X E)
  (ha:PA X (e::es) t)(hdb:gP x:=by decide)(he:starEach (e::es) X.env=(false,eval e X.env)::starEach es X.env:=by rfl)(hpl:(backTo pos (starEach es X.env)).any (·.1)=false:=by rfl):
  PE X (.Call (.Name x p) (e::es) [] pos) (NY sp dvs E t):=by
 intro pins s Y H Q I h;refine wpAny_Call_Name_kw (qQ I hg hm ?_ hdb);refine Ud (h₀:=X.base) I.ok.mod.kin hk (bN (ha pos pins s Y H _ I h) λus s1 ⟨vs,H1,I1,r,q⟩=>⟨I1.sS,?_⟩) he hpl;exact s9 F hr hb hd hx I1 r q
theorem vX{pl:Sem Bool}(he:PE X o ta)(c:k6 X.K C)(hm:Meth X.K C m f)(F:dg X.prog X.w X.K X.mg X.base CX k f fd ps sp)(hr:cP k X.A)(hb:Binds X.K fd ps ds)(hd:Vals dvs ds)(hx:Passes CX X E)(ha:PA X (e::es) t)
  (hst:starEach (e::es) X.env=(false,eval e X.env)::starEach es X.env:=by rfl)(hpl:(backTo pos (starEach es X.env)).any (·.1)=false:=by rfl)
  (ht:eval (.Call (.Attribute o m apos) (e::es) [] pos) X.env=(do
   let ov <- eval o X.env
   standAt apos.atName
   let (f,first) <- holding [ov] (getMethod ov m pl)
   callWith pos f first (backTo pos (starEach (e::es) X.env)) (backToKw pos (keywordEach [] X.env))):=by rfl):
  PE X (.Call (.Attribute o m apos) (e::es) [] pos) (vE C m sp dvs E ta t):=by
 intro pins s Y H Q I h;refine TJ (pl:=pl) (bN (he pins s Y H _ I h) λu s1 ⟨x,H1,I1,rx,a,dx,fs,ex,ea,l,q⟩=>?_) ht;subst ex;obtain rfl:u=RD a:=rx;refine jo I1 ea c hm l ?_;refine Ud (first:=[.ref a]) (h₀:=X.base) I.ok.mod.kin hm.kp (bN (ha pos pins s1 Y H1 _ I1 q) λus s2 ⟨vs,H2,I2,r,q2⟩=>⟨I2.sS,?_⟩) hst hpl;exact s9 (us:=.ref a::us) (vs:=.ref a::vs) F hr hb hd hx I2 (.cons rfl r) q2
theorem rG{pl:Sem Bool}(he:PE X o ta)(c:k6 X.K C)(hm:Meth X.K C m f)(F:dg X.prog X.w X.K X.mg X.base CX k f fd ps sp)(hr:cP k X.A)(hb:Binds X.K fd ps ds)(hd:Vals dvs ds)(hx:Passes CX X E)
  (ht:eval (.Call (.Attribute o m apos) [] [] pos) X.env=(do
   let ov <- eval o X.env
   standAt apos.atName
   let (f,first) <- holding [ov] (getMethod ov m pl)
   callWith pos f first (backTo pos (starEach [] X.env)) (backToKw pos (keywordEach [] X.env))):=by rfl):
  PE X (.Call (.Attribute o m apos) [] [] pos) (vE C m sp dvs E ta Bb):=by
 intro pins s Y H Q I h;refine TJ (pl:=pl) (bN (he pins s Y H _ I h) λu s1 ⟨x,H1,I1,rx,a,dx,fs,ex,ea,l,q⟩=>?_) ht;subst ex;obtain rfl:u=RD a:=rx;refine jo I1 ea c hm l ?_;exact PySem.W.callWith_K0 (first:=[.ref a]) I1.sS hm.kp (s9 (us:=[.ref a]) (vs:=[.ref a]) F hr hb hd hx I1 (.cons rfl .nil) q)
structure Mk(K:QU)(C f:Addr):Prop where
 makes:UH K C=true
 init:RP K (.ref C) "__init__" = some (some (.ref f))
 fn:Uj K (.ref f)=true
 kp:R8 K (.ref C)=true
theorem yf{Q:VK}(M:Mk X.K C f)(F:dg X.prog X.w X.K X.mg X.base CX k f fd ps sp)(y:cP (k+1) X.A)(d:Binds X.K fd ps ds)(hd:Vals dvs ds)
  (q:Passes CX X E)(I:Inv X pins Y H s)(r:Vals vs us)
  (h:∀x dx,H x=none->H dx=none->dx≠x->sp (.ref x::(vs++dvs)) (upd (upd H dx (.own x)) x (.ins C dx [])) (λv c=>v=.non/\Q (.ref x) c) E):
  wpAny (model X.prog X.w) X.A (call (.ref C) us) (EP X pins Y Q) X.xe s:=by
 have j:=h (s.heap.objs.size+1) s.heap.objs.size (I.hok.fresh (Tu _)) (I.hok.fresh (Rf _)) (Ru (TH _));have m:=Inv.made (C:=C) I;have n:Vals (V.ref (s.heap.objs.size+1)::(vs++dvs)) (RD (s.heap.objs.size+1)::(us++ds)):=.cons rfl (r.append hd);have hl:(RD (s.heap.objs.size+1)::us++ds).length=ps.length:=by have e:=n.length;rw[F.len _ _ _ _ j] at e;exact e.symm
 refine wpAny_call (yV (f:=f) I.sS M.makes M.init (beq_iff_eq.mp M.fn) (codeAny_mono (F.run _ X.stack _ _ ⟨RD (s.heap.objs.size+1)::us,[]⟩ (RD (s.heap.objs.size+1)::(us++ds)) _ _ E (y.make C us [])
  (m.Nh.make C us []) (d _ (RD (s.heap.objs.size+1)::us) m.sS hl) n j) λr s' a=>?_))
 cases r with
 |error e=>exact q pins Y _ _ e s' m a
 |ok fl=>
  cases fl with
  |ret u=>obtain⟨v,H',O,B,G,L⟩:=m.after a;subst G;exact⟨B,⟨V.ref (s.heap.objs.size+1),H',O,rfl,L⟩⟩
  |next=>exact Se a
  |brk=>exact Se a
  |cont=>exact Se a
theorem CW(M:Mk X.K C f)(F:dg X.prog X.w X.K X.mg X.base CX k f fd ps sp)(hr:cP (k+1) X.A)(hg:Gl X x)(hm:X.mg x=some (.ref C))(hb:Binds X.K fd ps ds)(hd:Vals dvs ds)(hx:Passes CX X E)
  (ha:PA X (e::es) t)(hdb:gP x:=by decide)(he:starEach (e::es) X.env=(false,eval e X.env)::starEach es X.env:=by rfl)(hpl:(backTo pos (starEach es X.env)).any (·.1)=false:=by rfl):
  PE X (.Call (.Name x p) (e::es) [] pos) (Ga C sp dvs E t):=by
 intro pins s Y H Q I h;refine wpAny_Call_Name_kw (qQ I hg hm ?_ hdb);refine Ud (h₀:=X.base) I.ok.mod.kin M.kp (bN (ha pos pins s Y H _ I h) λus s1 ⟨vs,H1,I1,r,q⟩=>⟨I1.sS,?_⟩) he hpl;exact yf M F hr hb hd hx I1 r q
end
structure j6(N P:List Str)(sc:Scope):Prop where
 kind:sc.kind=.function
 co:sc.isCoroutine=false
 gen:sc.isGenerator=false
 nd:N.Nodup
 pre:N.take P.length=P
 par:∀x∈P,sc.names.lookup x=some .local\/sc.names.lookup x=some .cell
 nofree:∀y∈sc.names,y.2≠.free
theorem pE{kindOf:Str->Option NameKind}{x:Str}:∀{s:List (Str×Value)}{m:Str->Option Value},(∀v,(x,v)∉s)->bindL kindOf s m x=m x
 |[],_,_=>rfl
 |(n,v)::r,m,h=>by
  unfold bindL;rw[pE λw p=>h w (Q4 _ p)];split
  .have:x≠n:=by rintro rfl;exact h v Rb
   simp[this]
  .rfl
theorem pR{kindOf:Str->Option NameKind}{x:Str}:∀{s:List (Str×Value)}{m:Str->Option Value},(∀v,(x,v)∉s)->bindC kindOf s m x=m x
 |[],_,_=>rfl
 |(n,v)::r,m,h=>by
  unfold bindC;rw[pR λw p=>h w (Q4 _ p)];split
  .rfl
  .have:x≠n:=by rintro rfl;exact h v Rb
   simp[this]
theorem oA{kindOf:Str->Option NameKind}{x:Str}{v:Value}:∀{P:List Str}{vs:List Value}{i:Nat}{m:Str->Option Value},P.Nodup->P[i]?=some x->vs[i]?=some v->kindOf x=some .local->
  bindL kindOf (P.zip vs) m x=some v
 |[],_,_,_,_,h,_,_=>by simp at h
 |_::_,[],_,_,_,_,h,_=>by simp at h
 |p::P,w::vs,0,m,nd,h1,h2,hk=>by simp at h1 h2;subst h1;subst h2;show bindL kindOf ((p,w)::P.zip vs) m p=_;unfold bindL;rw[pE λv c=>(Ry.mp nd).1 (TY c).1,if_pos hk];simp
 |p::P,w::vs,i+1,m,nd,h1,h2,hk=>by show bindL kindOf ((p,w)::P.zip vs) m x=_;unfold bindL;exact oA (i:=i) (Ry.mp nd).2 (by simpa using h1) (by simpa using h2) hk
theorem pH{kindOf:Str->Option NameKind}{x:Str}{v:Value}:∀{P:List Str}{vs:List Value}{i:Nat}{m:Str->Option Value},P.Nodup->P[i]?=some x->vs[i]?=some v->kindOf x≠some .local->
  bindC kindOf (P.zip vs) m x=some v
 |[],_,_,_,_,h,_,_=>by simp at h
 |_::_,[],_,_,_,_,h,_=>by simp at h
 |p::P,w::vs,0,m,nd,h1,h2,hk=>by simp at h1 h2;subst h1;subst h2;show bindC kindOf ((p,w)::P.zip vs) m p=_;unfold bindC;rw[pR λv c=>(Ry.mp nd).1 (TY c).1,if_neg hk];simp
 |p::P,w::vs,i+1,m,nd,h1,h2,hk=>by show bindC kindOf ((p,w)::P.zip vs) m x=_;unfold bindC;exact pH (i:=i) (Ry.mp nd).2 (by simpa using h1) (by simpa using h2) hk
noncomputable def start(N:List Str)(vs:List V):St:=vs.map some++Rl (N.length-vs.length) none
noncomputable def sZ(CX:qY)(P:Program)(w:World)(K:QU)(mg:Str->Option Value)(base:Heap)(N:List Str)(qual:Str)(scope:Scope)(f:Addr)(cd:Value)(A:Around)(outer:List Env)(s:Shared)(H:Hp)(E:XK):Cx where
 prog:=P
 w:=w
 K:=K
 mg:=mg
 base:=base
 A:=A.deeper (envOfC qual scope s.heap.objs.size f cd)
 N:=N
 s₀:=s
 H₀:=H
 env:=envOfC qual scope s.heap.objs.size f cd
 outer:=outer
 stack:=envOfC qual scope s.heap.objs.size f cd::outer
 ex:=[]
 calm:=true
 fn:=λ_=>true
 pn:=[]
 xe:=λe s'=>wpAny (model P w) (A.deeper (envOfC qual scope s.heap.objs.size f cd)) (leaving (envOfC qual scope s.heap.objs.size f cd) e) (λ_ h=>CX outer H s E e h) (λt h=>CX outer H s E t h) s'
theorem sI{sc:Scope}{n:Nat}(h:sc.names.lookup x=some .cell):∃c,(cellsFrom n sc.names []).lookup x=some c:=by have q:=U7 sc.names n [] (.inl h);exact Option.isSome_iff_exists.mp q
variable{scope:Scope}
theorem wI{qual:Str}{f:Addr}{cd:Value}{A:Around}{s1:Shared}{E:XK}
  (S:j6 N ps scope)(hd:A.handled=none)(X:tS P w K mg base A outer s H)(hl:vs.length=ps.length)(r:Vals vs us)
  (x:InCallC s s.heap.objs.size (bindL (envOfC qual scope s.heap.objs.size f cd).kindOf (ps.zip us) λ_=>none) (cellsFrom (s.heap.objs.size+1) scope.names []) (bindC (envOfC qual scope s.heap.objs.size f cd).kindOf (ps.zip us) λ_=>none) s1):
  Inv (sZ CX P w K mg base N qual scope f cd A outer s H E) [] (start N vs) H s1:=by
 have J:ps.length<=N.length:=by have:=congrArg Tc S.pre;rw[RX] at this;lia
 obtain⟨h1,tk,rfl,hk⟩:=x.done;have Y:∀b:Addr,b∉(sZ CX P w K mg base N qual scope f cd A outer s H E).ex:=λb z=>absurd (show b∈([]:List Addr) from z) (by simp);refine⟨⟨X.mod,S.kind,rfl,rfl,Rf _,λy z c h1 h2=>?_,λy T=>?_,λy c _ h=>?_,λ_=>hd,Around.frames_deeper X.frames,.inr ⟨rfl,rfl⟩,λb z=>absurd z (Y b),X.bs,X.bsz,λb _ _=>Y b,λb z=>absurd z (Y b),X.n9,X.frf⟩,
  rfl,X.bare,Un.kept hk,⟨_,x.toInCall.ns,λi y v h1 h2 h3=>?_⟩,λy c h=>⟨_,x.cell y c h⟩,X.hok.fresh (Rf _),λy c h=>?_,λp hp=>absurd (show p∈([]:List (Addr×Obj)) from hp) (by simp),X.hok.kept hk,?_⟩
 .exact name_of_addr x.apart (Si h1) (Si h2)
 .have T:scope.names.lookup y=some .cell\/scope.names.lookup y=some .free:=T;rcases T with T|T
  .exact sI T
  .exact absurd rfl (S.nofree _ (Si T))
 .exact S0 (x.above y c (Si h))
 .have hi:i<vs.length:=by
   unfold start at h2;by_cases hi:i<vs.length
   .exact hi
   .rw[Rx (by simpa using hi)] at h2;rw[Vl] at h2;split at h2<;>cases h2
  have ha:vs[i]?=some v:=by
   unfold start at h2;rw[RF (by simpa using hi),Rn] at h2;cases e:vs[i]? with
   |none=>rw[e] at h2;cases h2
   |some a=>rw[e] at h2;cases h2;rfl
  obtain⟨u,C,B⟩:=r.get ha;have hp:ps[i]?=some y:=by rw[<-S.pre,Tv (by lia)];exact h1
  have I:ps.Nodup:=by rw[<-S.pre];exact S.nd.sublist (SU _ _)
  refine⟨u,B,?_⟩;rcases S.par y (Rt hp) with k|k
  .exact .inl ⟨k,oA I hp C k⟩
  .obtain⟨c,e⟩:=sI (n:=s.heap.objs.size+1) k;refine .inr ⟨.inl k,c,e,?_⟩;have q:=x.cell y c e;rw[pH I hp C (by show scope.names.lookup y≠_;rw[k];decide)] at q;exact q
 .exact X.hok.fresh (S0 (x.above y c (Si h)))
 .unfold start;show _=N.length;rw[Rc,QY,Vs];lia
theorem Nl{f:Addr}{name qual:Str}{h:Arguments}{dV kV doc pm cdv ct oc:Value}{an od:Option Addr}
  {osl:Array (Option Value)}{sp:Sp}(L:K.lookup f=some ⟨oc,od,.func (Um name qual h body scope dV kV doc pm an cdv ct),osl⟩)(a:TZ K cdv qual=true)(S:j6 N ps scope)
  (len:∀vs H Q E,sp vs H Q E->vs.length=ps.length)
  (X:∀(A:Around)(outer:List Env)(s:Shared)(H:Hp)(vs:List V)(Q:VK)(E:XK),cP k (A.deeper (envOfC qual scope s.heap.objs.size f cdv))->sp vs H Q E->
   ∃t,sT (sZ CX P w K mg base N qual scope f cdv A outer s H E) body t/\t { nx:=λ_ H'=>Q .non H',rt:=Q } (start N vs) H):
  dg P w K mg base CX (k+1) f (Um name qual h body scope dV kV doc pm an cdv ct) ps sp:=by
 refine⟨len,λA outer s H args us vs Q E z U d r Z=>?_⟩;have hl:=len _ _ _ _ Z;have G:K.In s.heap:=U.mod.kin.keeps λb o e=>(U.bs b o e).1;have C:s.heap.NoLimit:=U.mod.nolimit.keeps λb o e=>(U.bs b o e).1;have Y:∀y∈ps.zip us,scope.names.lookup y.1=some .local\/(scope.names.lookup y.1=some .cell/\((cellsFrom (s.heap.objs.size+1) scope.names []).lookup y.1).isSome=true):=λ⟨n,v⟩ T=>by
  rcases S.par n (TY T).1 with q|q
  .exact .inl q
  .exact .inr ⟨q,U7 _ _ _ (.inl q)⟩
 refine codeAny_call_function z.depth (G _ _ L) rfl S.co S.gen rfl (PySem.W.codeRec_of G a) (d _ _ _ _ ?_);refine wpAny_newFunctionEnv_cells S.kind Y λenv p s1 x=>?_;subst p;refine⟨C.keeps x.toInCall.keep,codeAny_func ?_⟩;obtain⟨t,ht,j⟩:=X A outer s H vs Q E (z.deeper _) Z;have I:Inv (sZ CX P w K mg base N qual scope f cdv A outer s H E) [] (start N vs) H s1:=wI S z.hd U hl r x;refine wpAny_mono (ht [] s1 (start N vs) H _ I j) (λfl s' R=>?_) λe s' R=>R;have fin:∀{Z0:St}{H':Hp}{v:V}{u:Value},Inv (sZ CX P w K mg base N qual scope f cdv A outer s H E) [] Z0 H' s'->RelV v u->Q v H'->CE outer P w H s Q u s':=
  λ{Z0 H' v u} J B q=>⟨v,H',J.os,J.bare,J.base,J.hok,B,q⟩
 cases fl with
 |ret u=>obtain⟨v,Z0,H',J,B,q⟩:=R;exact fin J B q
 |next=>obtain⟨Z0,H',J,q⟩:=R;exact fin (v:=V.non) (u:=US) J rfl q
 |brk=>obtain⟨_,_,_,q⟩:=R;exact Se q
 |cont=>obtain⟨_,_,_,q⟩:=R;exact Se q
section
variable{X:Cx}{x:Str}{p pos:Pos}{e:Expr}{es:List Expr}{t:TA}{id T:String}{r:List V->Hp->VK->Prop}
noncomputable def P5(r:List V->Hp->VK->Prop)(t:TA):TE:=λY H Q=>t Y H λvs e=>r vs e Q
theorem mV(hc:cx X (.builtin id) r)(hg:Gl X x)(hm:X.mg x=none)(hv:bootBuiltins x=some (.builtin id))(ha:PA X (e::es) t)(hn:x ≠ "__name__" := by decide)(hdb:gP x:=by decide)
  (he:starEach (e::es) X.env=(false,eval e X.env)::starEach es X.env:=by rfl)(hpl:(backTo pos (starEach es X.env)).any (·.1)=false:=by rfl):PE X (.Call (.Name x p) (e::es) [] pos) (P5 r t):=by
 intro pins s Y H Q I h;refine wpAny_Call_Name_kw (qD I hg hm hv ?_ hn hdb);exact WU (bN (ha pos pins s Y H _ I h) λus s1 ⟨vs,H1,I1,r1,q1⟩=>hc pins s1 Y H1 vs us Q I1 r1 q1) he hpl
theorem wx(hc:cx X (.type T) r)(hg:Gl X x)(hm:X.mg x=none)(hv:bootBuiltins x=some (.type T))(ha:PA X (e::es) t)(hn:x ≠ "__name__" := by decide)(hdb:gP x:=by decide)
  (he:starEach (e::es) X.env=(false,eval e X.env)::starEach es X.env:=by rfl)(hpl:(backTo pos (starEach es X.env)).any (·.1)=false:=by rfl):PE X (.Call (.Name x p) (e::es) [] pos) (P5 r t):=by
 intro pins s Y H Q I h;refine wpAny_Call_Name_kw (qD I hg hm hv ?_ hn hdb);exact Ui (bN (ha pos pins s Y H _ I h) λus s1 ⟨vs,H1,I1,r1,q1⟩=>hc pins s1 Y H1 vs us Q I1 r1 q1) he hpl
end
end L2
namespace HT
open PySem PyProof.Rows
variable{Q:Value->Shared->Prop}{sl:Addr}{vl vu:Value}{lo hi:Option Int}
section
variable{prog:Program}{w:World}{A:Around}{E:Value->Shared->Prop}{s:Shared}
theorem CK{t b:Addr}{vs ws:List Value}(ht:IsTup s.heap t vs.toArray)(d:IsTup s.heap b ws.toArray)(c:vs≠[])
  (h1:ws=[]->Q (.ref t) s)(h2:ws≠[]->Q (.ref s.heap.objs.size) { s with heap:=s.heap.push { cls:=.type "tuple",data:=.seq (vs++ws).toArray } })
  (hsz:vs.length+ws.length<=sizeLine):wpAny (model prog w) A (binaryOp .Add (.ref t) (.ref b)) Q E s:=by
 obtain⟨⟨cls,I,data,sl⟩,i,hc,n,hd⟩:=id ht;obtain⟨⟨P,u,data2,v⟩,h,x,S,H⟩:=id d;simp only at hc hd x H;subst hc hd x H;have e:vs.toArray++ws.toArray=(vs++ws).toArray:=by simp
 by_cases r:ws=[]
 .exact concat_meets ⟨_,i,rfl⟩ ⟨_,h,rfl⟩ noFill_tuple_add seq_tuple_add Tz Tp (To _ _)
   (tuple_addW1 t b vs.toArray ws.toArray n S I u sl v (by simpa using c) (by simp[r])) ⟨i,h,h1 r⟩
 .refine concat_meets ⟨_,i,rfl⟩ ⟨_,h,rfl⟩ noFill_tuple_add seq_tuple_add Tz Tp (To _ _)
   (tuple_addW2 t b vs.toArray ws.toArray n S I u sl v (by simpa using c) (by simpa using r) (by rw[Q0,Q0];exact hsz)) ⟨i,h,?_⟩
  rw[e];exact h2 r
noncomputable def cT(n d:Nat):Option Int->Nat
 |none=>d
 |some v=>if v<0 then (v+(n:Int)).toNat else min v.toNat n
theorem AV(n d:Nat):cT n d none=d:=rfl
theorem CD(n d k:Nat):cT n d (some (k:Int))=min k n:=by show (if (k:Int)<0 then ((k:Int)+(n:Int)).toNat else min (k:Int).toNat n)=min k n;rw[if_neg (by lia),UJ]
theorem Hk(n d:Nat)(hd:d<=n)(o:Option Int):cT n d o<=n:=by
 cases o with
 |none=>exact hd
 |some v=>
  show (if v<0 then (v+(n:Int)).toNat else min v.toNat n)<=n;by_cases c:v<0
  .rw[if_pos c];lia
  .rw[if_neg c];exact Nat.min_le_right _ _
theorem vM(v:Int)(n d:Nat):(if v<0 then max (v+(n:Int)) 0 else min v (n:Int))=((cT n d (some v):Nat):Int):=by
 show (if v<0 then max (v+(n:Int)) 0 else min v (n:Int))=(((if v<0 then (v+(n:Int)).toNat else min v.toNat n):Nat):Int);by_cases c:v<0
 .simp only[if_pos c];lia
 .simp only[if_neg c];lia
theorem tX(lo hi:Option Int)(n:Nat):S9 lo hi 1 (n:Int)=(((cT n 0 lo:Nat):Int),((cT n n hi:Nat):Int)):=by
 have h1:¬ ((1:Int)<0):=by lia
 unfold S9;simp only[h1,if_false];refine VC ?_ ?_
 .cases lo with
  |none=>rfl
  |some v=>exact vM v n 0
 .cases hi with
  |none=>rfl
  |some v=>exact vM v n n
theorem uM(i j:Nat):Sr (i:Int) (j:Int) 1=j-i:=by
 unfold Sr;have h1:(1:Int) > 0:=by lia
 simp only[h1,if_true,Int.ediv_one];split<;>lia
theorem m7{v:Value}{o:Option Int}{Q:Option Int->Shared->Prop}(p:IsPart v o)(h:Q o s):wpAny (model prog w) A (WI v) Q E s:=by
 cases p with
 |none=>exact slicePart_none h
 |int i t=>exact slicePart_int h
theorem gb{n:Nat}{Q:Int×Int×Nat->Shared->Prop}(u:s.heap.IsSliceOf sl vl vu .none)(pl:IsPart vl lo)(Y:IsPart vu hi)
  (h:Q (((cT n 0 lo:Nat):Int),1,cT n n hi-cT n 0 lo) s):wpAny (model prog w) A (Uo (.ref sl) (pure (n:Int))) Q E s:=by
 obtain⟨os,V,f,X⟩:=id u;unfold Uo WJ;refine wpAny_bind (wpAny_bind (wpAny_field V X (x:=vl) rfl (wpAny_bind (wpAny_field V X (x:=vu) rfl (wpAny_bind (wpAny_field V X (x:=.none) rfl (wpAny_pure ?_)))))));refine wpAny_bind (slicePart_none ?_);show wpAny _ _ (if ((1:Int)==0)=true then _ else _) _ _ s;rw[if_neg (by decide)];refine wpAny_bind (m7 pl (wpAny_bind (m7 Y (wpAny_bind (wpAny_pure ?_)))));show wpAny _ _ (match S9 lo hi 1 (n:Int) with|(lo,hi)=>pure (lo,(1:Int),Sr lo hi 1)) _ _ s;rw[tX lo hi n];show wpAny _ _ (pure (((cT n 0 lo:Nat):Int),(1:Int),Sr ((cT n 0 lo:Nat):Int) ((cT n n hi:Nat):Int) 1)) _ _ s;rw[uM];exact wpAny_pure h
theorem xU(xs:Array Value)(i k:Nat):((Sg k).filterMap λ(m:Nat)=>xs[((i:Int)+(m:Int)*1).toNat]?).toArray=((xs.toList.drop i).take k).toArray:=by
 have e:(λ(m:Nat)=>xs[((i:Int)+(m:Int)*1).toNat]?)=λm=>xs[i+m]?:=by
  funext m
  have:((i:Int)+(m:Int)*1).toNat=i+m:=by lia
  rw[this]
 rw[e];have:=pick_run xs i k;rw[List.filterMap_map] at this;have j:((λx=>xs[x]?)∘λx=>i+x)=λm=>xs[i+m]?:=rfl;rw[j] at this;rw[this]
theorem jV{t:Addr}{items:Array Value}(ht:IsTup s.heap t items)(u:s.heap.IsSliceOf sl vl vu .none)(pl:IsPart vl lo)(Y:IsPart vu hi)
  (r:¬ (cT items.size 0 lo=0/\cT items.size items.size hi=items.size))
  (h:Q (.ref s.heap.objs.size) { s with heap:=s.heap.push { cls:=.type "tuple",data:=.seq ((items.toList.drop (cT items.size 0 lo)).take (cT items.size items.size hi-cT items.size 0 lo)).toArray } })
  (hsz:items.size<=sizeLine):wpAny (model prog w) A (getItem (.ref t) (.ref sl)) Q E s:=by
 have v:sizeOk (.seq ((items.toList.drop (cT items.size 0 lo)).take (cT items.size items.size hi-cT items.size 0 lo)).toArray):=by show ((items.toList.drop (cT items.size 0 lo)).take (cT items.size items.size hi-cT items.size 0 lo)).toArray.size<=sizeLine;rw[Q0,RX,VZ,RN];lia
 have I:cT items.size items.size hi<=items.size:=Hk _ _ (Rf _) hi;obtain⟨os,V,f,X⟩:=id u;have x:s.TypeIs (.ref sl) "slice" := ⟨os,V,f⟩
 unfold getItem
 try with_reducible refine wpAny_holding ?_
 first|refine wpAny_bind (wpAny_pure ?_)|skip
 refine wpAny_bind (wpAny_sequenceKey ht.typeIs (by decide) ?_);refine wpAny_bind (wpAny_callSpecial?_slot (name:=WK "__getitem__") ht.typeIs RO
  (wpAny_call_entry RO ht.typeIs entry_tuple_getitem ?_ (args_tuple_getitem _ _)))
 show wpAny _ _ (Up (.ref t) >>= _) _ _ s;refine wpAny_bind (tupleItemsOf_ ht ?_);refine wpAny_bind (wpAny_typeOf x ?_);rw[if_pos (by decide)];refine wpAny_bind (gb u pl Y ?_);have H:¬ ((((cT items.size 0 lo:Nat):Int)==0&&(1:Int)==1&&(cT items.size items.size hi-cT items.size 0 lo)==items.size)=true):=by intro q;rw[QR,QR] at q;have l:((cT items.size 0 lo:Nat):Int)=0:=eq_of_beq q.1.1;have o:cT items.size items.size hi-cT items.size 0 lo=items.size:=eq_of_beq q.2;exact r ⟨by lia,by lia⟩
 show wpAny _ _ (if (((cT items.size 0 lo:Nat):Int)==0&&(1:Int)==1&&(cT items.size items.size hi-cT items.size 0 lo)==items.size)=true then _ else _) _ _ s;rw[if_neg H,xU]
 first
  |exact wpAny_bind (m:=Sx _) (wpAny_newObj_type (wpAny_pure ⟨_,rfl,wpAny_pure h⟩) v)
  |exact wpAny_bind (m:=Sx _) (wpAny_newObj_type (wpAny_bind (wpAny_pure (wpAny_pure ⟨_,rfl,wpAny_pure h⟩))) v)
  |exact wpAny_bind (wpAny_bind (m:=Sx _) (wpAny_newObj_type (wpAny_pure (wpAny_pure ⟨_,rfl,wpAny_pure h⟩)) v))
  |exact wpAny_bind (wpAny_bind (m:=Sx _) (wpAny_newObj_type (wpAny_pure ⟨_,rfl,wpAny_pure h⟩) v))
end
end HT
namespace L2
open PySem PySem.Spec PyProof.Rows
abbrev TO:=St->Hp->(Option Int->Hp->Prop)->Prop
def PO(X:Cx)(e:Option Expr)(t:TO):Prop:=
 ∀(pins:List (Addr×Obj))(s:Shared)(Y:St)(H:Hp)(Q:Option Int->Hp->Prop),Inv X pins Y H s->t Y H Q->
  wpAny (model X.prog X.w) X.A (evalPart e X.env) (λu s'=>∃o H',Inv X pins Y H' s'/\IsPart u o/\Q o H') X.xe s
noncomputable def CH:TO:=λ_ H Q=>Q none H
noncomputable def LB(t:TE):TO:=λY H Q=>t Y H λx e=>∃i,x=.int i/\Q (some i) e
variable{r:V->Option Int->Option Int->Hp->VK->Prop}
section
variable{X:Cx}{e:Expr}{te:TE}{lo hi:Option Expr}{tl th:TO}{pos p2:Pos}
theorem EE:PO X none CH:=by intro pins s Y H Q I h;rw[evalPart_none];exact wpAny_pure ⟨none,H,I,.none,h⟩
theorem Fu(h:PE X e te):PO X (some e) (LB te):=by intro pins s Y H Q I r;rw[evalPart_some];refine bN (h pins s Y H _ I r) λu s1 ⟨x,y,g,k,l⟩=>?_;obtain⟨i,rfl,q⟩:=l;obtain⟨t,rfl⟩:=k;exact⟨some i,y,g,.int i t,q⟩
def dR(X:Cx)(r:V->Option Int->Option Int->Hp->VK->Prop):Prop:=
 ∀(pins:List (Addr×Obj))(s:Shared)(Y:St)(H:Hp)(x:V)(v h q:Value)(lo hi:Option Int)(sl:Addr)(Q:VK),Inv X pins Y H s->RelV x v->s.heap.IsSliceOf sl h q .none->IsPart h lo->IsPart q hi->r x lo hi H Q->
  ∃T id,typeLookup (.type T) "__getitem__" = pure (some (.builtin id))/\s.TypeIs v T/\wpAny (model X.prog X.w) X.A (getItem v (.ref sl)) (EP X pins Y Q) X.xe s
theorem dR.or{r':V->Option Int->Option Int->Hp->VK->Prop}(h:dR X r)(h':dR X r'):dR X (λx lo hi H Q=>r x lo hi H Q\/r' x lo hi H Q):=by
 intro pins s Y H x v w A lo hi sl Q I K u pl E q;rcases q with q|q
 .exact h pins s Y H x v w A lo hi sl Q I K u pl E q
 .exact h' pins s Y H x v w A lo hi sl Q I K u pl E q
noncomputable def Qo(r:V->Option Int->Option Int->Hp->VK->Prop)(te:TE)(tl th:TO):TE:=λY H Q=>te Y H λx e=>tl Y e λl c=>th Y c λu D=>r x l u D Q
theorem Av(y:dR X r)(R:PE X e te)(hl:PO X lo tl)(f:PO X hi th):PE X (.Subscript e (.Slice lo hi none p2) pos) (Qo r te tl th):=by intro pins s Y H Q I h;refine Subscript_ (bN (R pins s Y H _ I h) λv s1 ⟨x,S,g,k,U⟩=>?_);refine wpAny_Slice (bN (hl pins s1 Y S _ g U) λJ s2 ⟨l,c,m,pl,o⟩=>bN (f pins s2 Y c _ m o) λP p ⟨u,D,O,E,L⟩=>?_);rw[evalPart_none];refine wpAny_pure ?_;have Z:Inv X pins Y D { p with heap:=p.heap.push { cls:=.type "slice",data:=.fields #[J,P,.none] } }:=O.kept (t':=p.toks) λb ob q=>Q3 _ q;obtain⟨T,id,a,ht,N⟩:=y pins { p with heap:=p.heap.push { cls:=.type "slice",data:=.fields #[J,P,.none] } } Y D x v J P l u p.heap.objs.size Q Z k (Wz ..) pl E L;show wpAny (model X.prog X.w) X.A (subscriptTail e (.Slice lo hi none p2) v (.ref p.heap.objs.size)) (EP X pins Y Q) X.xe { p with heap:=p.heap.push { cls:=.type "slice",data:=.fields #[J,P,.none] } };exact tail_any (ops:=[.ref p.heap.objs.size,v]) ht a N (by with_unfolding_all rfl)
def p9(xs:List V)(lo hi:Option Int):List V:=(xs.drop (HT.cT xs.length 0 lo)).take (HT.cT xs.length xs.length hi-HT.cT xs.length 0 lo)
theorem lF(xs:List V)(lo hi:Option Int):(p9 xs lo hi).length<=xs.length:=by unfold p9;rw[RX,VZ];lia
def OG(K:QU):V->Option Int->Option Int->Hp->VK->Prop:=λx lo hi H Q=>∃a xs,x=.ref a/\gv K H a xs /\
 ¬ (HT.cT xs.length 0 lo=0/\HT.cT xs.length xs.length hi=xs.length)/\∀p,H p=none->Q (.ref p) (upd H p (.tup (p9 xs lo hi)))
theorem Km:dR X (OG X.K):=by
 intro pins s Y H x v J P lo hi sl Q I A u pl E h;obtain⟨a,xs,rfl,w,p,q⟩:=h;cases A;obtain⟨its,r,ht,hz⟩:=I.tuple w;have z:its.toArray.size=xs.length:=by rw[Q0];exact r.length.symm
 refine⟨"tuple",_,RO.lookup,ht.typeIs,?_⟩;refine HT.jV ht u pl E (by rw[z];exact p) ?_ (by rw[z];exact hz);rw[z];refine⟨.ref s.heap.objs.size,_,I.laid (t':=s.toks) (o:=.tup (p9 xs lo hi)) (λb ob q=>Q3 _ q) (Rf _) ?_,rfl,q _ (I.hok.fresh (Rf _))⟩;exact⟨Rm (lF xs lo hi) hz,_,(r.drop (HT.cT xs.length 0 lo)).take (HT.cT xs.length xs.length hi-HT.cT xs.length 0 lo),fA.new _ _⟩
def L9(K:QU):R2:=λx y H Q=>∃a b xs ys,x=.ref a/\y=.ref b/\gv K H a xs/\gv K H b ys/\xs≠[]/\xs.length+ys.length<=sizeLine /\
 (ys=[]->Q (.ref a) H)/\(ys≠[]->∀p,H p=none->Q (.ref p) (upd H p (.tup (xs++ys))))
theorem Vals.qI{xs:List V}{us:List Value}(r:Vals xs us):us=[]↔xs=[]:=by
 cases r with
 |nil=>simp
 |cons _ _=>simp
theorem Cy:d0 X (binaryOp .Add) (L9 X.K):=by intro pins s Y H x y v u Q I A S h;obtain⟨a,b,xs,ys,rfl,rfl,ha,d,C,hz,l,F⟩:=h;cases A;cases S;obtain⟨its,k,G,_⟩:=I.tuple ha;obtain⟨t,n,p2,_⟩:=I.tuple d;refine HT.CK G p2 (λz=>C (k.qI.mp z)) (λz=>⟨.ref a,H,I,rfl,l (n.qI.mp z)⟩) (λz=>?_) (by rw[<-k.length,<-n.length];exact hz);refine⟨.ref s.heap.objs.size,_,I.laid (t':=s.toks) (o:=.tup (xs++ys)) (λb ob q=>Q3 _ q) (Rf _) ?_,rfl,F (λw=>z (n.qI.mpr w)) _ (I.hok.fresh (Rf _))⟩;exact⟨by rw[Rc];exact hz,_,k.append n,fA.new _ _⟩
end
noncomputable def oW(n:Nat)(i:Int):Option Nat:=if 0<=i then (if i<n then some i.toNat else none) else if -(n:Int)<=i then some (i+n).toNat else none
def iI{α:Type}(xs:List α)(i:Int):Option α:=(oW xs.length i).bind λj=>xs[j]?
variable{i:Int}{j:Nat}
theorem uY{n:Nat}(h:oW n i=some j):seqIndex? i n=some j/\j<n /\ -(n:Int)<=i/\i<n:=by
 unfold oW at h;by_cases h0:0<=i
 .rw[if_pos h0] at h;by_cases h1:i<n
  .rw[if_pos h1] at h;have e:i.toNat=j:=Q9 h;exact⟨by rw[seqIndex_of h0 h1,e],by lia,by lia,h1⟩
  .rw[if_neg h1] at h;cases h
 .rw[if_neg h0] at h;by_cases h1:-(n:Int)<=i
  .rw[if_pos h1] at h;have e:(i+n).toNat=j:=Q9 h;exact⟨by rw[seqIndex_neg (by lia) h1,e],by lia,h1,by lia⟩
  .rw[if_neg h1] at h;cases h
variable{α:Type}
theorem p5{xs:List α}{v:α}(h:iI xs i=some v):∃j,seqIndex? i xs.length=some j/\xs[j]?=some v/\j<xs.length /\ -(xs.length:Int)<=i/\i<xs.length:=by
 unfold iI at h;cases e:oW xs.length i with
 |none=>rw[e] at h;cases h
 |some j=>rw[e] at h;obtain⟨h1,h2,h3,h4⟩:=uY e;exact⟨j,h1,h,h2,h3,h4⟩
theorem gC{xs:List α}{v:α}(h:xs[j]?=some v):iI xs (j:Int)=some v:=by
 have I:j<xs.length:=(Q2.mp h).1;have e:oW xs.length (j:Int)=some j:=by unfold oW;rw[if_pos (by lia),if_pos (by lia)];simp
 unfold iI;rw[e];exact h
theorem sj(xs:List α)(v:α):iI (xs++[v]) (-1)=some v:=by
 have hl:(xs++[v]).length=xs.length+1:=by simp
 have e:oW (xs++[v]).length (-1)=some xs.length:=by
  unfold oW;rw[hl,if_neg (by decide),if_pos (by lia)]
  congr 1
  lia
 unfold iI;rw[e];show (xs++[v])[xs.length]?=some v;simp
def jR(b:Expr):Prop:=∀o i,subscripted b false o i=operate [o,i] (getItem o i)
def Fo(X:Cx)(r:R2):Prop:=
 ∀(value slice:Expr)(pins:List (Addr×Obj))(s:Shared)(Y:St)(H:Hp)(x y:V)(v u:Value)(Q:VK),Inv X pins Y H s->RelV x v->RelV y u->r x y H Q->
  subscripted slice false v u=operate [v,u] (getItem v u)->wpAny (model X.prog X.w) X.A (subscriptTail value slice v u) (EP X pins Y Q) X.xe s
def Om(X:Cx)(id:String)(r:V->List V->Hp->VK->Prop):Prop:=
 ∀(pins:List (Addr×Obj))(s:Shared)(Y:St)(H:Hp)(x:V)(xs:List V)(v:Value)(us:List Value)(Q:VK),Inv X pins Y H s->RelV x v->Vals xs us->r x xs H Q->
  wpAny (model X.prog X.w) X.A (call (.builtin id) (v::us)) (EP X pins Y Q) X.xe s
variable{pins:List (Addr×Obj)}{Y:St}{H:Hp}{s:Shared}{p:Addr}{its its':List Value}{y x:V}{u v:Value}{T:String}
section
variable{X:Cx}{a b:Expr}{ta tb:TE}{pos:Pos}
theorem Fo.or{r r':R2}(h:Fo X r)(h':Fo X r'):Fo X (λx y H Q=>r x y H Q\/r' x y H Q):=by
 intro value slice pins s Y H x y v u Q I K b q V;rcases q with q|q
 .exact h value slice pins s Y H x y v u Q I K b q V
 .exact h' value slice pins s Y H x y v u Q I K b q V
theorem GJ{r:R2}(z:Fo X r)(ha:PE X a ta)(d:PE X b tb)(V:jR b):PE X (.Subscript a b pos) (MD r ta tb):=by intro pins s Y H Q I h;exact Subscript_ (IM ha d I h λv u s2 x y c m K w q=>z a b pins s2 Y c x y v u Q m K w q (V _ _))
def Mf(K:QU):R2:=λx y H Q=>∃p xs i v,x=.ref p/\y=.int i/\gu K H p xs/\iI xs i=some v/\Q v H
def Lg(K:QU):R2:=λx y H Q=>∃p xs i v,x=.ref p/\y=.int i/\gv K H p xs/\iI xs i=some v/\Q v H
def xt:R2:=λx y H Q=>∃z i c,x=.str z/\y=.int i/\z.length<=sizeLine/\iI z.cps.toList i=some c/\Q (.str ⟨#[c]⟩) H
theorem Fz:Fo X (Mf X.K):=by
 intro value slice pins s Y H x y v u Q I A b h V;obtain⟨p,xs,i,z,rfl,rfl,a,B,q⟩:=h;cases A;obtain⟨t,rfl⟩:=b;obtain⟨its,r,pl,hz⟩:=I.list a;obtain⟨j,h1,h2,h3,h4,h5⟩:=p5 B;obtain⟨w,Z,R⟩:=r.get h2;have hl:=r.length;have hn:=nJ;have fin:EP X pins Y Q w s:=⟨z,H,I,R,q⟩
 by_cases h0:0<=i
 .have U:i.toNat=j:=by rw[seqIndex_of h0 h5] at h1;exact Q9 h1
  exact item_listR pl.isList h0 (by lia) (by rw[U];simpa using Z) fin V
 .have U:(i+(its.toArray.size:Int)).toNat=j:=by rw[seqIndex_neg (by lia) h4] at h1;rw[Q0,<-hl];exact Q9 h1
  exact subscriptTail_builtinR (x:=w) pl.isList.typeIs slot_list_getitem.lookup
   (wpAny_getItem_list_neg (Q:=λr s'=>r=w/\EP X pins Y Q r s') pl.isList (by lia) (by rw[Q0]<;>lia) (by lia) (by rw[U];simpa using Z) ⟨rfl,fin⟩) V
theorem Jh:Fo X (Lg X.K):=by
 intro value slice pins s Y H x y v u Q I A b h V;obtain⟨p,xs,i,z,rfl,rfl,a,B,q⟩:=h;cases A;obtain⟨t,rfl⟩:=b;obtain⟨its,r,pl,hz⟩:=I.tuple a;obtain⟨j,h1,h2,h3,h4,h5⟩:=p5 B;obtain⟨w,Z,R⟩:=r.get h2;have hl:=r.length;have hn:=nJ;have fin:EP X pins Y Q w s:=⟨z,H,I,R,q⟩
 exact subscriptTail_builtinR (x:=w) pl.typeIs slot_tuple_getitem.lookup
  (getItem_tuple (j:=j) (Q:=λr s'=>r=w/\EP X pins Y Q r s') pl (by lia) (by lia) (by rw[Q0,<-hl];exact h1) (by simpa using Z) ⟨rfl,fin⟩) V
theorem Ju:Fo X xt:=by
 intro value slice pins s Y H x y v u Q I K b h V;obtain⟨z,i,c,rfl,rfl,hz,p,q⟩:=h;obtain⟨t,rfl⟩:=K;obtain⟨t',rfl⟩:=b;obtain⟨j,h1,h2,h3,h4,h5⟩:=p5 p;have hl:z.cps.toList.length=z.length:=by simp[Xq]
 rw[hl] at h1 h4 h5;have hn:=nJ;exact tail_any (typeIs_str s z t) slot_str_getitem.lookup (getItem_str (c:=c) (by have F:decide (i < -(2^63:Int))=false:=decide_eq_false (by lia);have w:decide (i≥2^63)=false:=decide_eq_false (by lia);rw[F,w,Bool.or_false]) (by rw[h1];simpa using h2) ⟨.str ⟨#[c]⟩,H,I.tok _,⟨_,rfl⟩,q⟩) V
def PY(K:QU):R2:=λx y H Q=>Mf K x y H Q\/Lg K x y H Q\/xt x y H Q
theorem zP:Fo X (PY X.K):=Fz.or (Jh.or Ju)
theorem uw(its:List Value)(n j:Nat)(u:Value):T1 (·.setIfInBounds j u) { cls:=.type "list",data:=.seq its.toArray n }={ cls:=.type "list",data:=.seq (its.set j u).toArray n }:=by simp[T1]
theorem Inv.lst{xs:List V}(I:Inv X pins Y H s)(h:H p=some (.lst xs)):
  ∃(its:List Value)(n:Nat),Vals xs its/\s.heap.get? p=some { cls:=.type "list",data:=.seq its.toArray n }/\xs.length<=sizeLine:=by
 obtain⟨z,its,n,r,e⟩:=I.hok p _ h;exact⟨its,n,r,e,z⟩
theorem Inv.ID{xs ys:List V}{n w:Nat}{f:Obj->Obj}(I:Inv X pins Y H s)(h:H p=some (.lst xs))
  (i:s.heap.get? p=some { cls:=.type "list",data:=.seq its.toArray n })(hf:f { cls:=.type "list",data:=.seq its.toArray n }={ cls:=.type "list",data:=.seq its'.toArray w })(r:Vals ys its')(hz:ys.length<=sizeLine)(t:Nat):
  Inv X pins Y (upd H p (.lst ys)) { s with heap:=s.heap.update p f,toks:=t }:=by
 have e:(s.heap.update p f).get? p=some { cls:=.type "list",data:=.seq its'.toArray w }:=by rw[Heap.get?_update_self f i (by rw[hf]<;>rfl),hf]
 refine I.write (x:=p) (e:=p) (by rw[h];trivial) (.inl rfl) (λb u d q=>(Vo _ _ (Sd d)).trans q) ⟨_,e⟩ ?_;exact⟨hz,its',w,r,e⟩
def GK:V->V->V->Hp->(Hp->Prop)->Prop:=λo i v H Q=>∃p xs k j,o=.ref p/\i=.int k/\H p=some (.lst xs)/\oW xs.length k=some j/\Q (upd H p (.lst (xs.set j v)))
theorem set_list:NV X GK:=by
 intro pins s Y H o i v z L u Q I C G B h;obtain⟨p,xs,k,j,rfl,rfl,hp,U,q⟩:=h;cases C;obtain⟨t,rfl⟩:=G;obtain⟨its,n,r,J,hz⟩:=I.lst hp;obtain⟨h1,h2,h3,h4⟩:=uY U;have hl:=r.length;have hn:=nJ;have x:Inv X pins Y (upd H p (.lst (xs.set j v))) { s with heap:=s.heap.update p (T1 (·.setIfInBounds j u)) }:=
  I.ID hp J (uw its n j u) (r.set B j) (by rw[List.length_set];exact hz) s.toks
 by_cases h0:0<=k
 .have hk:k.toNat=j:=by rw[seqIndex_of h0 h4] at h1;exact Q9 h1
  exact PySem.W.ki_setAt J h0 (by lia) (by rw[Q0,<-hl];exact h4) (by rw[hk];exact⟨_,x,q⟩)
 .have hk:(k+(its.toArray.size:Int)).toNat=j:=by rw[seqIndex_neg (by lia) h3] at h1;rw[Q0,<-hl];exact Q9 h1
  exact PySem.W.ki_setBack J (by lia) (by rw[Q0,<-hl];exact h3) (by lia) (by rw[hk];exact⟨_,x,q⟩)
theorem qd(lo hi:Option Int)(n:Nat):(sliceBounds lo hi none n).1=((HT.cT n 0 lo:Nat):Int)/\(sliceBounds lo hi none n).2.1=((HT.cT n n hi:Nat):Int)/\(sliceBounds lo hi none n).2.2=1:=by
 refine⟨?_,?_,rfl⟩
 .cases lo with
  |none=>simp[sliceBounds,HT.cT]
  |some i=>
   simp only[sliceBounds,HT.cT,VO,show (1:Int) > 0 by decide,if_true];by_cases h:i<0
   .simp only[h,if_true]<;>lia
   .simp only[h,if_false]<;>lia
 .cases hi with
  |none=>simp[sliceBounds,HT.cT]
  |some i=>
   simp only[sliceBounds,HT.cT,VO,show (1:Int) > 0 by decide,if_true];by_cases h:i<0
   .simp only[h,if_true]<;>lia
   .simp only[h,if_false]<;>lia
theorem ou(its:List Value)(lo hi:Option Int):slicePick its.toArray lo hi none=((its.drop (HT.cT its.length 0 lo)).take (HT.cT its.length its.length hi-HT.cT its.length 0 lo)).toArray:=by obtain⟨h1,h2,h3⟩:=qd lo hi its.toArray.size;unfold slicePick;rw[h1,h2,h3];simp only[sliceRange_one,pick_run,Q0]<;>rfl
def Pg(K:QU):V->Option Int->Option Int->Hp->VK->Prop:=λx lo hi H Q=>∃a xs,x=.ref a/\gu K H a xs/\∀p,H p=none->Q (.ref p) (upd H p (.lst (p9 xs lo hi)))
theorem ED:dR X (Pg X.K):=by intro pins s Y H x v J P lo hi sl Q I A u pl E h;obtain⟨a,xs,rfl,w,q⟩:=h;cases A;obtain⟨its,r,ht,hz⟩:=I.list w;have z:=r.length;refine⟨"list",_,slot_list_getitem.lookup,ht.isList.typeIs,?_⟩;refine wpAny_getItem_list_slice ht.isList u pl E .none (by simp) ?_ (by rw[Q0]<;>lia);rw[ou,<-z];refine⟨.ref s.heap.objs.size,_,I.laid (t':=s.toks) (o:=.lst (p9 xs lo hi)) (λb ob q=>Q3 _ q) (Rf _) ?_,rfl,q _ (I.hok.fresh (Rf _))⟩;exact⟨Rm (lF xs lo hi) hz,_,0,(r.drop (HT.cT xs.length 0 lo)).take (HT.cT xs.length xs.length hi-HT.cT xs.length 0 lo),Ro _ rfl⟩
noncomputable def iF:V->Bool
 | .non=>true
 | .bl _=>true
 | .int _=>true
 | .str _=>true
 |_=>false
noncomputable def GH:V->V->Bool
 | .non,.non=>true
 | .bl a,.bl b=>a==b
 | .bl a,.int b=>(if a then 1 else 0)==b
 | .int a,.bl b=>a==(if b then 1 else 0)
 | .int a,.int b=>a==b
 | .str a,.str b=>a==b
 |_,_=>false
theorem cF{A:Around}(w:RelV y u)(K:RelV x v)(Q:iF y=true)(fx:iF x=true):S6 A s u v (GH y x):=by
 cases y with
 |non=>
  cases w;cases x with
  |non=>cases K;exact S6.same _
  |bl b=>cases K;exact S6.none_bool b
  |int b=>obtain⟨t,rfl⟩:=K;exact S6.none_int b t
  |str b=>obtain⟨t,rfl⟩:=K;exact S6.none_str b t
  |_=>exact absurd (show false=true from fx) RE
 |bl a=>
  cases w;cases x with
  |non=>cases K;exact S6.bool_none a
  |bl b=>cases K;exact S6.bool_bool a b
  |int b=>obtain⟨t,rfl⟩:=K;exact S6.bool_int a b t
  |str b=>obtain⟨t,rfl⟩:=K;exact S6.bool_str a b t
  |_=>exact absurd (show false=true from fx) RE
 |int a=>
  obtain⟨t',rfl⟩:=w;cases x with
  |non=>cases K;exact S6.int_none a t'
  |bl b=>cases K;exact S6.int_bool a t' b
  |int b=>obtain⟨t,rfl⟩:=K;exact S6.int_int a t' b t
  |str b=>obtain⟨t,rfl⟩:=K;exact Vg a t' b t
  |_=>exact absurd (show false=true from fx) RE
 |str a=>
  obtain⟨t',rfl⟩:=w;cases x with
  |non=>cases K;exact S6.str_none a t'
  |bl b=>cases K;exact S6.str_bool a t' b
  |int b=>obtain⟨t,rfl⟩:=K;exact Vh a t' b t
  |str b=>obtain⟨t,rfl⟩:=K;exact S6.str_str a t' b t
  |_=>exact absurd (show false=true from fx) RE
 |_=>exact absurd (show false=true from Q) RE
def um(x:V)(u:Value):Bool:=match u with
 | .none=>GH .non x
 | .bool b=>GH (.bl b) x
 | .int i _=>GH (.int i) x
 | .str z _=>GH (.str z) x
 |_=>false
theorem AK(r:RelV y u)(f:iF y=true):um x u=GH y x:=by
 cases y with
 |non=>cases r;rfl
 |bl b=>cases r;rfl
 |int i=>obtain⟨t,rfl⟩:=r;rfl
 |str z=>obtain⟨t,rfl⟩:=r;rfl
 |_=>exact absurd (show false=true from f) RE
theorem jU{x:V}:∀{xs:List V}{us:List Value},Vals xs us->xs.all iF=true->us.any (um x)=xs.any λy=>GH y x
 |_,_,.nil,_=>rfl
 |y::xs,u::us,.cons r t,f=>by rw[RB,QR] at f;rw[Ss,Ss,AK r f.1,jU t f.2]
theorem iu{A:Around}{s:Shared}{x:V}{v:Value}(K:RelV x v)(fx:iF x=true):∀{xs:List V}{us:List Value},Vals xs us->xs.all iF=true->∀u∈us,S6 A s u v (um x u)
 |_,_,.nil,_=>λu C=>by cases C
 |y::xs,u::us,.cons r t,f=>λE C=>by
  rw[RB,QR] at f;rcases Ra.mp C with rfl|C
  .rw[AK r f.1];exact cF r K f.1 fx
  .exact iu K fx t f.2 E C
def K5(x:V)(xs:List V):Bool:=xs.any λy=>GH y x
def Og(K:QU)(neg:Bool):R2:=λx y H Q=>∃p xs,y=.ref p/\(gu K H p xs\/gv K H p xs)/\iF x=true/\xs.all iF=true/\Q (.bl (if neg then !K5 x xs else K5 x xs)) H
theorem oV:d0 X (compareOp .In) (Og X.K false):=by
 intro pins s Y H x y v u Q I A b h;obtain⟨p,xs,rfl,j,fx,fs,q⟩:=h;cases b;rcases j with j|j
 .obtain⟨its,r,pl,hz⟩:=I.list j;refine V0 (um x) pl.isList (λw t=>iu A fx r fs w (by simpa using t)) ⟨.bl _,H,I,rfl,?_⟩;rw[show its.toArray.any (um x)=its.any (um x) by simp,jU r fs];exact q
 .obtain⟨its,r,pl,hz⟩:=I.tuple j;refine SeqAt.in_tupleAt (um x) pl (λw t=>iu A fx r fs w (by simpa using t)) ⟨.bl _,H,I,rfl,?_⟩;rw[show its.toArray.any (um x)=its.any (um x) by simp,jU r fs];exact q
theorem jO:d0 X (compareOp .NotIn) (Og X.K true):=by
 intro pins s Y H x y v u Q I A b h;obtain⟨p,xs,rfl,j,fx,fs,q⟩:=h;cases b;rcases j with j|j
 .obtain⟨its,r,pl,hz⟩:=I.list j;refine VI (um x) pl.isList (λw t=>iu A fx r fs w (by simpa using t)) ⟨.bl _,H,I,rfl,?_⟩;rw[show its.toArray.any (um x)=its.any (um x) by simp,jU r fs];exact q
 .obtain⟨its,r,pl,hz⟩:=I.tuple j;refine SeqAt.notIn_tupleAt (um x) pl (λw t=>iu A fx r fs w (by simpa using t)) ⟨.bl _,H,I,rfl,?_⟩;rw[show its.toArray.any (um x)=its.any (um x) by simp,jU r fs];exact q
theorem qb:cx X (.type "list") (λxs H Q=>∃p ys,xs=[.ref p]/\(gu X.K H p ys\/gv X.K H p ys)/\∀l,H l=none->Q (.ref l) (upd H l (.lst ys))):=by
 intro pins s Y H xs us Q I r h;obtain⟨p,ys,rfl,j,q⟩:=h;obtain⟨u,rfl,A⟩:=vals1 r;cases A;have fin:∀(its:List Value),Vals ys its->ys.length<=sizeLine->∀(h':Heap)(v:Nat),(∀b o',s.heap.get? b=some o'->h'.get? b=some o')->
   h'.get? s.heap.objs.size=some { cls:=.type "list",dict:=none,data:=.seq its.toArray v,slots:=#[] }->EP X pins Y Q (.ref s.heap.objs.size) { s with heap:=h' }:=λits r' hz h' v kp e=>
  ⟨.ref s.heap.objs.size,_,I.laid (t':=s.toks) kp (Rf _) (show cb X.prog X.w _ h' _ (.lst ys) from ⟨hz,its,v,r',e⟩),rfl,q _ (I.hok.fresh (Rf _))⟩
 rcases j with j|j
 .obtain⟨its,r',pl,hz⟩:=I.list j;have z:=r'.length;obtain⟨o,i,hc,n,hd⟩:=pl.isList;exact call_list_seq p (.inl rfl) i hc hd (λh' v kp e=>fin its r' hz h' v kp e) (by simp only[Q0]<;>lia)
 .obtain⟨its,r',pl,hz⟩:=I.tuple j;have z:=r'.length;obtain⟨o,i,hc,n,hd⟩:=pl;exact call_list_seq p (.inr rfl) i hc hd (λh' v kp e=>fin its r' hz h' v kp e) (by simp only[Q0]<;>lia)
theorem oi:cx X (.type "tuple") (λxs H Q=>∃p ys,xs=[.ref p]/\((gu X.K H p ys/\∀l,H l=none->Q (.ref l) (upd H l (.tup ys)))\/(gv X.K H p ys/\Q (.ref p) H))):=by
 intro pins s Y H xs us Q I r h;obtain⟨p,ys,rfl,h⟩:=h;obtain⟨u,rfl,A⟩:=vals1 r;cases A;rcases h with ⟨j,q⟩|⟨j,q⟩
 .obtain⟨its,r',pl,hz⟩:=I.list j;have z:=r'.length;refine call_tuple_list pl.isList (λh' kp=>?_) (by simp only[Q0]<;>lia);have g:Inv X pins Y H { s with heap:=h' }:=I.kept (t':=s.toks) kp;have m:Inv X pins Y (upd H h'.objs.size (.tup ys)) { s with heap:=h'.push { cls:=.type "tuple",data:=.seq its.toArray } }:=
   g.laid (t':=s.toks) (λb o e=>Q3 _ e) (Rf _) (show cb X.prog X.w _ _ _ (.tup ys) from ⟨hz,its,r',fA.new _ _⟩)
  exact⟨.ref h'.objs.size,_,m,rfl,q _ (g.hok.fresh (Rf _))⟩
 .obtain⟨its,r',pl,hz⟩:=I.tuple j;exact call_tuple_same pl ⟨.ref p,H,I,rfl,q⟩
def Of(K:QU)(T:String)(x:V)(H:Hp):Prop:=match x with
 | .str _=>T = "str"
 | .int _=>T = "int"
 | .ref p=>(T = "list" /\ ∃xs,gu K H p xs)\/(T = "tuple" /\ ∃o,K.lookup p=some o/\o.cls=.type "tuple" /\ o.dict=none) \/
   (T = "dict" /\ ((∃kvs,H p=some (.dK kvs))\/∃kvs,H p=some (.dT kvs)))\/(T = "set" /\ ∃S n,H p=some (.set S n))
 |_=>False
theorem yT(I:Inv X pins Y H s)(r:RelV x v)(ty:Of X.K T x H):
  s.TypeIs v T/\∀a,v=.ref a->∃ob,s.heap.get? a=some ob/\ob.dict=none:=by
 cases x with
 |str z=>obtain⟨t,rfl⟩:=r;cases (show T = "str" from ty);exact⟨typeIs_str s z t,λ_ e=>nomatch e⟩
 |int i=>obtain⟨t,rfl⟩:=r;cases (show T = "int" from ty);exact⟨typeIs_int s i t,λ_ e=>nomatch e⟩
 |ref p=>
  cases r;rcases ty with ⟨rfl,xs,Q⟩|⟨rfl,o,hk,hc,hd⟩|⟨rfl,hk⟩|⟨rfl,S,n,hk⟩
  .obtain⟨its,_,pl,_⟩:=I.list Q;refine⟨pl.isList.typeIs,λa e=>?_⟩;cases e;obtain⟨o,n,e,c,hd,_⟩:=pl;exact⟨o,e,hd⟩
  .refine⟨⟨o,I.sS p o hk,hc⟩,λa e=>?_⟩;cases e;exact⟨o,I.sS _ o hk,hd⟩
  .have z:∃o,s.heap.get? p=some o/\o.ExactDict:=by
    rcases hk with ⟨kvs,hk⟩|⟨kvs,hk⟩
    .obtain⟨_,_,_,_,o,_,_,e,ex,_⟩:=I.hok p _ hk;exact⟨o,e,ex⟩
    .obtain⟨_,_,_,_,o,_,_,e,ex,_⟩:=I.hok p _ hk;exact⟨o,e,ex⟩
   obtain⟨o,e,ex⟩:=z;refine⟨⟨o,e,ex.1⟩,λa j=>?_⟩;cases j;exact⟨o,e,ex.2.1⟩
  .obtain⟨o,_,_,_,e,ex,_⟩:=I.hok p _ hk;refine⟨⟨o,e,ex.1⟩,λa j=>?_⟩;cases j;exact⟨o,e,ex.2.1⟩
 |_=>exact Se ty
noncomputable def O6(K:QU)(T:String)(r:V->List V->Hp->VK->Prop)(s:TE):TE:=λY H Q=>s Y H λx e=>Of K T x e/\r x [] e Q
noncomputable def OD(K:QU)(T:String)(r:V->List V->Hp->VK->Prop)(s:TE)(t:TA):TE:=λY H Q=>s Y H λx e=>Of K T x e/\t Y e λxs c=>r x xs c Q
variable{o e:Expr}{es:List Expr}{to:TE}{t:TA}{name:Str}{apos cpos:Pos}{T id:String}{r:V->List V->Hp->VK->Prop}
theorem yn(pa:PlainAttrs T)(slot:Slot T name id)(hty:typeOf (.builtin id)=pure (.type "method_descriptor"))(hm:Om X id r)(ho:PE X o to)
  (hbase:attributeBase o name X.env (eval o X.env)=eval o X.env:=by rfl)(hline:(apos.endLine==cpos.line)=true:=by rfl):PE X (.Call (.Attribute o name apos) [] [] cpos) (O6 X.K T r to):=by
 intro pins s Y H Q I h;refine wpAny_Call_method0_late hbase hline (bN (ho pins s Y H _ I h) λv s1 ⟨x,H1,I1,r1,ty,q1⟩=>?_);obtain⟨h1,h2⟩:=yT I1 r1 ty;exact⟨T,id,pa,slot,hty,h1,h2,TK rfl (PySem.evalArgs_none (hm pins s1 Y H1 x [] v [] Q I1 r1 .nil q1))⟩
theorem su(pa:PlainAttrs T)(slot:Slot T name id)(hty:typeOf (.builtin id)=pure (.type "method_descriptor"))(hm:Om X id r)(ho:PE X o to)(ha:PA X (e::es) t)
  (hbase:attributeBase o name X.env (eval o X.env)=eval o X.env:=by rfl)
  (hfew:((backTo cpos (starEach (e::es) X.env)).all (λx=>!x.1)&&(backToKw cpos (keywordEach [] X.env)).all (λx=>x.1.isSome)
   && decide ((e::es).length+([]:List Keyword).length+(if ([]:List Keyword).isEmpty then 0 else 1)<30))=true:=by rfl)
  (hline:(apos.endLine==cpos.line)=true:=by rfl) (hs:starEach (e::es) X.env=(false,eval e X.env)::starEach es X.env:=by rfl) (hplain:(backTo cpos (starEach es X.env)).any (·.1)=false:=by rfl):
  PE X (.Call (.Attribute o name apos) (e::es) [] cpos) (OD X.K T r to t):=by
 intro pins s Y H Q I h;refine wpAny_Call_method_late hbase hfew hline rfl (bN (ho pins s Y H _ I h) λv s1 ⟨x,H1,I1,r1,ty,q1⟩=>?_);obtain⟨h1,h2⟩:=yT I1 r1 ty;refine⟨T,id,pa,slot,hty,h1,h2,?_⟩;have hA:=ha cpos pins s1 Y H1 _ I1 q1;rw[hs] at hA ⊢;refine TK (by show (false || (backTo cpos (starEach es X.env)).any (·.1))=false;rw[hplain]<;>rfl) (Vt ?_);exact bN hA λus s2 ⟨vs,H2,I2,r2,q2⟩=>hm pins s2 Y H2 x vs v us Q I2 r1 r2 q2
end
def Oh(X:Cx)(id:String)(r:V->List V->Hp->VK->Prop):Prop:=
 ∀(pins:List (Addr×Obj))(s:Shared)(Y:St)(H:Hp)(x:V)(xs:List V)(v:Value)(us:List Value)(Q:VK),Inv X pins Y H s->RelV x v->Vals xs us->r x xs H Q->
  wpAny (model X.prog X.w) X.A (call (.builtin id) (v::us)) (EP X pins Y Q) X.xe s
theorem Vals.one:∀{x:V}{us:List Value},Vals [x] us->∃u,us=[u]/\RelV x u
 |_,_,.cons r .nil=>⟨_,rfl,r⟩
theorem Vals.zero:∀{us:List Value},Vals [] us->us=[]
 |_,.nil=>rfl
theorem Vals.dropLast{xs:List V}{us:List Value}(h:Vals xs us):Vals xs.dropLast us.dropLast:=by
 induction h with
 |nil=>exact .nil
 |cons r t l=>
  cases t with
  |nil=>exact .nil
  |cons q t'=>exact .cons r l
theorem sV(l:List α):l.eraseIdx (l.length-1)=l.dropLast:=by
 induction l with
 |nil=>rfl
 |cons a r x=>
  cases r with
  |nil=>rfl
  |cons b r=>
   have e:(a::b::r).length-1=((b::r).length-1)+1:=by have h1:(a::b::r).length=r.length+2:=rfl;have h2:(b::r).length=r.length+1:=rfl;lia
   rw[e,List.eraseIdx_cons_succ,x]
   all_goals rfl
variable{t':Nat}
section
variable{X:Cx}{pins:List (Addr×Obj)}{Y:St}{H:Hp}{s:Shared}{l b:Addr}{xs ys zs:List V}
theorem Inv.EY{n:Nat}{f:Array Value->Array Value}(I:Inv X pins Y H s)(h:H l=some (.lst xs))
  (e:s.heap.get? l=some { cls:=.type "list",data:=.seq its.toArray n })(hf:f its.toArray=its'.toArray)(c:Vals ys its')(hz:ys.length<=sizeLine):
  Inv X pins Y (upd H l (.lst ys)) { s with heap:=s.heap.update l (T1 f),toks:=t' }:=by
 have q:=PySem.IsL.update e f;rw[hf] at q;refine I.write (x:=l) (e:=l) (by rw[h];exact trivial) (.inl rfl) (λQ u d C=>(Vo s.heap (T1 f) (Sd d)).trans C) ⟨_,q⟩ ?_;exact⟨hz,its',_,c,q⟩
theorem Inv.PB(I:Inv X pins Y H s)(c:Vals ys its)(hz:ys.length<=sizeLine):
  Inv X pins Y (upd H s.heap.objs.size (.lst ys)) { s with heap:=s.heap.push { cls:=.type "list",data:=.seq its.toArray },toks:=t' }:=
 I.laid (λ_ _ q=>Q3 _ q) (Rf _) ⟨hz,its,0,c,Ro _ rfl⟩
theorem Inv.fresh(I:Inv X pins Y H s):H s.heap.objs.size=none:=I.hok.fresh (Rf _)
theorem Inv.Cv(I:Inv X pins Y H s)(h:H l=some (.lst xs)):xs.length<=sizeLine/\∃(its:List Value)(n:Nat),Vals xs its/\xs.length=its.length/\s.heap.get? l=some { cls:=.type "list",data:=.seq its.toArray n }:=by obtain⟨z,its,n,r,e⟩:=I.hok l _ h;exact⟨z,its,n,r,r.length,e⟩
theorem BP{n:Nat}(h:n<=sizeLine):SD n=false:=by unfold SD;exact decide_eq_false (by lia)
end
section
variable{X:Cx}
def EU:V->List V->Hp->VK->Prop:=λx vs H Q=>∃l xs y,x=.ref l/\vs=[y]/\H l=some (.lst xs)/\xs.length<sizeLine/\Q .non (upd H l (.lst (xs++[y])))
theorem oQ:Oh X "list.append" EU:=by intro pins s Y H x vs v us Q I K B h;obtain⟨l,xs,y,rfl,rfl,O,hz,q⟩:=h;cases K;obtain⟨u,rfl,S⟩:=B.one;obtain⟨z,its,n,r,hl,e⟩:=I.Cv O;refine call_meets F.slot_list_append ⟨_,e,rfl⟩ F.entry_list_append (F.args_list_append_2 _ _) (PySem.list_append l its.toArray n u (by rw[Q0];lia)) ⟨e,?_⟩;refine⟨.non,_,I.EY (its':=its++[u]) O e (by simp) (r.append (.cons S .nil)) ?_,rfl,q⟩;rw[Rc,S7];lia
def OM:V->List V->Hp->VK->Prop:=λx vs H Q=>∃l xs y,x=.ref l/\vs=[]/\H l=some (.lst xs)/\xs[xs.length-1]?=some y/\Q y (upd H l (.lst xs.dropLast))
theorem Kq:Oh X "list.pop" OM:=by
 intro pins s Y H x vs v us Q I K B h;obtain⟨l,xs,y,rfl,rfl,O,o,q⟩:=h;cases K;have T:=B.zero;subst T;obtain⟨z,its,n,r,hl,e⟩:=I.Cv O;obtain⟨u,C,S⟩:=r.get o;have f:its.toArray[its.toArray.size-1]?=some u:=by show its.toArray[its.length-1]?=some u;rw[<-S5,<-hl];exact C
 refine call_meets F.slot_list_pop ⟨_,e,rfl⟩ F.entry_list_pop (F.args_list_pop_1 _) (MeetsSeq.list_pop_last l its.toArray n u f (by rw[Q0];lia)) ⟨e,?_⟩;refine⟨y,_,I.EY (its':=its.dropLast) O e ?_ r.dropLast ?_,S,q⟩
 .show its.toArray.eraseIdxIfInBounds (its.toArray.size-1)=its.dropLast.toArray;rw[Q0,List.eraseIdxIfInBounds_toArray,sV]
 .rw[List.length_dropLast];lia
def JX:V->List V->Hp->VK->Prop:=λx vs H Q=>∃l xs,x=.ref l/\vs=[]/\H l=some (.lst xs)/\Q .non (upd H l (.lst []))
theorem A3:Oh X "list.clear" JX:=by intro pins s Y H x vs v us Q I K B h;obtain⟨l,xs,rfl,rfl,O,q⟩:=h;cases K;have T:=B.zero;subst T;obtain⟨z,its,n,r,hl,e⟩:=I.Cv O;refine call_meets F.slot_list_clear ⟨_,e,rfl⟩ F.entry_list_clear (F.args_list_clear_1 _) (AutoSeq1.list_clear_list_0 l its.toArray n (by rw[Q0];lia)) ⟨e,?_⟩;exact⟨.non,_,I.EY (its':=[]) (ys:=[]) O e rfl .nil (R1 _),rfl,q⟩
end
section
variable{prog:Program}{w:World}{A:Around}{E:Value->Shared->Prop}{s:Shared}
set_option maxRecDepth 100000 in
end
variable{o:Option V}
section
variable{D:Type}[DecidableEq D]
noncomputable def kb(kvs:List (D×V))(k:D):Option V:=(kvs.find? λq=>decide (q.1=k)).map (·.2)
noncomputable def putK(kvs:List (D×V))(k:D)(v:V):List (D×V):=
 if (kvs.any λq=>decide (q.1=k))=true then kvs.map (λq=>if q.1=k then (q.1,v) else q) else kvs++[(k,v)]
theorem mq{p:D×V}{r:List (D×V)}{k:D}(e:p.1=k):kb (p::r) k=some p.2:=by simp[kb,RL,e]
theorem nI{p:D×V}{r:List (D×V)}{k:D}(e:¬ p.1=k):kb (p::r) k=kb r k:=by simp[kb,RL,e]
theorem sE(k:D):∀kvs:List (D×V),(kvs.any λq=>decide (q.1=k))=(kb kvs k).isSome
 |[]=>rfl
 |p::r=>by
  rw[Ss];by_cases e:p.1=k
  .simp only[mq e,decide_eq_true e,Bool.true_or,Option.isSome_some]
  .rw[nI e,decide_eq_false e,Ws];exact sE k r
theorem iL(kvs:List (D×V))(k:D)(v:V):(putK kvs k v).length<=kvs.length+1:=by
 unfold putK;split
 .rw[QY];lia
 .rw[Rc,Q6,T2];lia
theorem gU.gj{u:Option Value}(r:gU o u):o.isSome=u.isSome:=by
 cases o with
 |none=>cases u with
  |none=>rfl
  |some _=>exact(show False from r).elim
 |some _=>cases u with
  |none=>exact(show False from r).elim
  |some _=>rfl
theorem gU.getD{o:Option V}{u:Option Value}{d:V}{d':Value}(r:gU o u)(rd:RelV d d'):RelV (o.getD d) (u.getD d'):=by
 cases o with
 |none=>cases u with
  |none=>exact rd
  |some _=>exact(show False from r).elim
 |some _=>cases u with
  |none=>exact(show False from r).elim
  |some _=>exact r
theorem KV.val{kvs:List (D×V)}{vs:List (D×Value)}(r:KV kvs vs)(k:D):gU (kb kvs k) (valueAt vs k):=by
 unfold KV at r;induction r with
 |nil=>exact TQ
 |@cons p q ps qs h t l=>
  obtain⟨h1,h2⟩:=h;by_cases e:p.1=k
  .have a:q.1=k:=h1.symm.trans e;have b:valueAt (q::qs) k=some q.2:=by simp[valueAt,RL,a]
   rw[mq e,b];exact h2
  .have a:¬ q.1=k:=λz=>e (h1.trans z);have b:valueAt (q::qs) k=valueAt qs k:=by simp[valueAt,RL,a]
   rw[nI e,b];exact l
theorem KV.any{kvs:List (D×V)}{vs:List (D×Value)}(r:KV kvs vs)(k:D):(kvs.any λq=>decide (q.1=k))=vs.any λq=>decide (q.1=k):=by
 unfold KV at r;induction r with
 |nil=>rfl
 |cons h t l=>rw[Ss,Ss,l,h.1]
theorem KV.HQ{kvs:List (D×V)}{vs:List (D×Value)}(r:KV kvs vs)(k:D)(b:RelV y u):
  KV (kvs.map λs=>if s.1=k then (s.1,y) else s) (vs.map λs=>if s.1=k then (s.1,u) else s):=by
 unfold KV at r ⊢;induction r with
 |nil=>exact .nil
 |@cons p q ps qs h t l=>
  rw[Ri,Ri];refine .cons ?_ l;obtain⟨h1,h2⟩:=h;by_cases e:p.1=k
  .rw[if_pos e,if_pos (h1.symm.trans e)];exact⟨h1,b⟩
  .rw[if_neg e,if_neg (λz=>e (h1.trans z))];exact⟨h1,h2⟩
theorem KV.put{kvs:List (D×V)}{vs:List (D×Value)}(r:KV kvs vs)(k:D)(b:RelV y u):KV (putK kvs k y) (stored vs k u):=by
 unfold putK stored;rw[r.any k];by_cases e:(vs.any λq=>decide (q.1=k))=true
 .rw[if_pos e,if_pos e];exact r.HQ k b
 .rw[if_neg e,if_neg e];exact Wt r ⟨rfl,b⟩
theorem KV.keys{kvs:List (D×V)}{vs:List (D×Value)}(r:KV kvs vs):kvs.map (·.1)=vs.map (·.1):=by
 unfold KV at r;induction r with
 |nil=>rfl
 |cons h t l=>rw[Ri,Ri,l,h.1]
theorem KV.length{kvs:List (D×V)}{vs:List (D×Value)}(r:KV kvs vs):kvs.length=vs.length:=UY r
end
variable{P:Program}{w:World}
theorem mY{k:Key}(r:RelV (kV k) u):(ba P w).is k u=true:=by
 cases k with
 |inl i=>obtain⟨t,e⟩:=(show ∃t,u=Vf i t from r);subst e;exact si P w i t
 |inr x=>obtain⟨t,e⟩:=(show ∃t,u=UE x t from r);subst e;exact rJ P w x t
theorem pQ{P:Program}{w:World}:∀{ks:List Key}{us:List Value},Vals (ks.map kV) us->ItemsAre (ba P w) ks us
 |[],_,r=>by rw[Th] at r;cases r;exact .nil
 |k::ks,_,r=>by
  rw[Ri] at r;cases r with
  |cons h t=>exact .cons (mY h) (pQ t)
abbrev KT(H:Hp):List (List Key×V)->List (List Key×Addr×Value)->Prop:=Paired λp q=>p.1=q.1/\H q.2.1=some (.tup (p.1.map kV))/\RelV p.2 q.2.2
variable{kvs:List (List Key×V)}{xs:List (List Key×Addr×Value)}
theorem KT.val(r:KT H kvs xs)(k:List Key):gU (kb kvs k) ((atKey xs k).map (·.2)):=by
 induction r with
 |nil=>exact TQ
 |@cons p q ps qs h t l=>
  obtain⟨h1,_,h2⟩:=h;by_cases e:p.1=k
  .have a:q.1=k:=h1.symm.trans e;have b:atKey (q::qs) k=some q.2:=by simp[atKey,RL,a]
   rw[mq e,b];exact h2
  .have a:¬ q.1=k:=λz=>e (h1.trans z);have b:atKey (q::qs) k=atKey qs k:=by simp[atKey,RL,a]
   rw[nI e,b];exact l
theorem KT.HQ(r:KT H kvs xs)(k:List Key)(b:RelV y u):
  KT H (kvs.map λs=>if s.1=k then (s.1,y) else s) (xs.map (putAt k u)):=by
 induction r with
 |nil=>exact .nil
 |@cons p q ps qs h t l=>
  rw[Ri,Ri];refine .cons ?_ l;obtain⟨h1,h2,h3⟩:=h;unfold putAt;by_cases e:p.1=k
  .rw[if_pos e,if_pos (h1.symm.trans e)];exact⟨h1,h2,b⟩
  .rw[if_neg e,if_neg (λz=>e (h1.trans z))];exact⟨h1,h2,h3⟩
theorem KT.put(r:KT H kvs xs)(k:List Key){b:Addr}(d:H b=some (.tup (k.map kV)))(w:RelV y u):
  KT H (putK kvs k y) (storedH xs k b u):=by
 have e:(kvs.any λs=>decide (s.1=k))=(atKey xs k).isSome:=by rw[sE,(r.val k).gj,Uv]
 unfold putK storedH;rw[e];by_cases q:(atKey xs k).isSome=true
 .rw[if_pos q,if_pos q];exact r.HQ k w
 .rw[if_neg q,if_neg q];exact Wt r ⟨rfl,d,w⟩
variable{H':Hp}
theorem KT.keeps(r:KT H kvs xs)(ht:∀b ys,H b=some (.tup ys)->H' b=some (.tup ys)):KT H' kvs xs:=
 Paired.HX r λ_ _ z=>⟨z.1,ht _ _ z.2.1,z.2.2⟩
section
variable{P:Program}{w:World}{H:Hp}{h:Heap}{a:Addr}
theorem F3{u:HO}(ok:jH P w H h)(e:Rd H a u):cb P w H h a u:=e.ok ok
theorem gh{kvs:List (Key×V)}(ok:jH P w H h)(e:Rd H a (.dK kvs)):kvs.length<=sizeLine/\(a==sysModules)=false/\∃vs,KV kvs vs/\h.DictOf (ba P w) a vs:=
 show cb P w H h a (.dK kvs) from F3 ok e
theorem Gx{kvs:List (Key×V)}(ok:jH P w H h)(e:H a=some (.dK kvs)):kvs.length<=sizeLine/\(a==sysModules)=false/\∃vs,KV kvs vs/\h.DictOf (ba P w) a vs:=gh ok (.inl e)
theorem kK{ks:List Key}(ok:jH P w H h)(e:H a=some (.tup (ks.map kV))):(tupleKind (ba P w)).is h ks a:=by
 obtain⟨_,its,r,o,h1,h2,n,h3,_⟩:=(show cb P w H h a (.tup (ks.map kV)) from ok a _ e)
 exact⟨o,its.toArray,n,h1,h2,h3,by simpa using pQ r⟩
theorem mw(ok:jH P w H h)(e:Rd H a (.dT kvs)):kvs.length<=sizeLine/\(a==sysModules)=false /\
  ∃xs,KT H kvs xs/\h.DictOfH (tupleKind (ba P w)) a xs:=by
 obtain⟨z,y,xs,r,o,es,ep,h1,h2,h3,h4,h5⟩:=(show cb P w H h a (.dT kvs) from F3 ok e)
 refine⟨z,y,xs,r,o,es,ep,h1,h2,h3,h4,λx A=>?_,h5⟩;have all:∀{l:List (List Key×V)}{m:List (List Key×Addr×Value)},KT H l m->∀x∈m,(tupleKind (ba P w)).is h x.1 x.2.1:=by
  intro l m q;induction q with
  |nil=>intro x A;exact nomatch A
  |@cons p q ps qs j t X=>
   intro x A;rcases Ra.mp A with e|A
   .subst e;exact kK ok (by rw[<-j.1];exact j.2.1)
   .exact X x A
 exact all r x A
theorem LH(ok:jH P w H h)(e:H a=some (.dT kvs)):kvs.length<=sizeLine/\(a==sysModules)=false /\
  ∃xs,KT H kvs xs/\h.DictOfH (tupleKind (ba P w)) a xs:=mw ok (.inl e)
end
def iH(H:Hp)(a:Addr)(y:V)(r:Option V):Prop:=
 (∃kvs k,Rd H a (.dK kvs)/\y=kV k/\r=kb kvs k)\/∃kvs k b,Rd H a (.dT kvs)/\y=.ref b/\H b=some (.tup (k.map kV))/\r=kb kvs k
def M4(H:Hp)(a:Addr)(y v:V)(H':Hp):Prop:=
 (∃kvs k,H a=some (.dK kvs)/\y=kV k/\kvs.length<sizeLine/\H'=upd H a (.dK (putK kvs k v))) \/
 ∃kvs k b,H a=some (.dT kvs)/\y=.ref b/\H b=some (.tup (k.map kV))/\kvs.length<sizeLine/\H'=upd H a (.dT (putK kvs k v))
variable{Q:Value->Shared->Prop}{h':Heap}
section
variable{X:Cx}{pins:List (Addr×Obj)}{Y:St}{H:Hp}{s:Shared}{a:Addr}{y v:V}{u r:Value}{o:Option V}{A:Around}{E:Value->Shared->Prop}
theorem Inv.big(I:Inv X pins Y H s):sysModules<s.heap.objs.size:=by have h:mainGlobals<s.heap.objs.size:=(I.mod.glob.keeps I.bk).lt;exact Nat.lt_trans (by decide) h
theorem xq(f:A.units+1<cLine)(I:Inv X pins Y H s)(g:iH H a y (some v))(S:RelV y u)(h:∀x s',Inv X pins Y H s'->RelV v x->Q x s'):
  wpAny (model X.prog X.w) A (getItem (.ref a) u) Q E s:=by
 rcases g with ⟨kvs,k,e,r,l⟩|⟨kvs,k,b,e,r,Z,l⟩
 .subst r;obtain⟨z,hd,vs,rel,D⟩:=gh I.hok e;obtain⟨x,t,R⟩:=gU.some_of (v:=v) (o:=valueAt vs k) (by rw[l];exact rel.val k);exact wpAny_getItem_of (mY S) D.mapOf t (h x _ (I.tok _) R)
 .subst r;cases (show u=RD b from S);obtain⟨z,hd,xs,rel,D⟩:=mw I.hok e;obtain⟨x,t,R⟩:=gU.some_of (v:=v) (o:=(atKey xs k).map (·.2)) (by rw[l];exact rel.val k);obtain⟨p,hp,F⟩:=Option.map_eq_some_iff.mp t;refine wpAny_getItem_heap (tupleKind_room_in1 f) (kK I.hok Z) D hp ?_;rw[F];exact h x _ (I.tok _) R
theorem O0(f:A.units+1<cLine)(I:Inv X pins Y H s)(g:iH H a y o)(S:RelV y u)(h:∀s',Inv X pins Y H s'->Q (.bool o.isSome) s'):
  wpAny (model X.prog X.w) A (compareOp .In u (.ref a)) Q E s:=by
 rcases g with ⟨kvs,k,e,r,l⟩|⟨kvs,k,b,e,r,Z,l⟩
 .subst r;obtain⟨z,hd,vs,rel,D⟩:=gh I.hok e;refine wpAny_in_of (mY S) hd D.mapOf ?_;rw[<-(rel.val k).gj,<-l];exact h _ (I.tok _)
 .subst r;cases (show u=RD b from S);obtain⟨z,hd,xs,rel,D⟩:=mw I.hok e;refine wpAny_in_heap (tupleKind_room_in1 f) (kK I.hok Z) hd D ?_;have q:=(rel.val k).gj;rw[Uv] at q;rw[<-q,<-l];exact h _ (I.tok _)
theorem EV(f:A.units+1<cLine)(I:Inv X pins Y H s)(g:iH H a y o)(S:RelV y u)(h:∀s',Inv X pins Y H s'->Q (.bool (!o.isSome)) s'):
  wpAny (model X.prog X.w) A (compareOp .NotIn u (.ref a)) Q E s:=by
 rcases g with ⟨kvs,k,e,r,l⟩|⟨kvs,k,b,e,r,Z,l⟩
 .subst r;obtain⟨z,hd,vs,rel,D⟩:=gh I.hok e;refine wpAny_notIn_of (mY S) hd D.mapOf ?_;rw[<-(rel.val k).gj,<-l];exact h _ (I.tok _)
 .subst r;cases (show u=RD b from S);obtain⟨z,hd,xs,rel,D⟩:=mw I.hok e;refine wpAny_notIn_heap (tupleKind_room_in1 f) (kK I.hok Z) hd D ?_;have q:=(rel.val k).gj;rw[Uv] at q;rw[<-q,<-l];exact h _ (I.tok _)
theorem vD{ob:HO}(I:Inv X pins Y H s)(mu:Mw (H a))(u:TN a s.heap h')(p:∃q,h'.get? a=some q)(new:cb X.prog X.w (upd H a ob) h' a ob):
  Inv X pins Y (upd H a ob) { s with heap:=h',toks:=t' }:=
 I.write (x:=a) (e:=a) mu (.inl rfl) (λb q d z=>(u.2 b d).trans z) p new
theorem uh{kvs:List (Key×V)}{vs:List (Key×Value)}(z:kvs.length<=sizeLine)(hd:(a==sysModules)=false)(rel:KV kvs vs)(D:h'.DictOf (ba P w) a vs):
  cb P w H' h' a (.dK kvs):=⟨z,hd,vs,rel,D⟩
theorem xp{Q:Unit->Shared->Prop}(f:A.units+1<cLine)(I:Inv X pins Y H s)(g:M4 H a y v H')(S:RelV y u)(B:RelV v r)(h:∀s',Inv X pins Y H' s'->Q () s'):
  wpAny (model X.prog X.w) A (setItem (.ref a) u r) Q E s:=by
 rcases g with ⟨kvs,k,e,L,l,N⟩|⟨kvs,k,b,e,L,Z,l,N⟩
 .subst L N;obtain⟨z,hd,vs,rel,D⟩:=Gx I.hok e;have hz:vs.length<=sizeLine:=by rw[<-rel.length];exact z
  have hl:(putK kvs k v).length<=sizeLine:=by have:=iL kvs k v;lia
  refine wpAny_setItem_pairs (hsz:=hz) (mY S) D λh' G V=>h _ ?_;have p:∃q,h'.get? a=some q:=let ⟨q,_,_,j,_⟩:=G;⟨q,j⟩
  exact vD I (by rw[e];exact TQ) V p (uh hl hd (rel.put k B) G)
 .subst L N;cases (show u=RD b from S);obtain⟨z,hd,xs,rel,D⟩:=LH I.hok e;have hz:xs.length<=sizeLine:=by rw[<-UY rel];exact z
  have hl:(putK kvs k v).length<=sizeLine:=by have:=iL kvs k v;lia
  refine wpAny_setItem_heap (hsz:=hz) (tupleKind_room_in1 f) (kK I.hok Z) D λh' G V=>h _ ?_;obtain⟨q,es,ep,j,h2,h3,h4,_,h5⟩:=G;refine vD I (by rw[e];exact TQ) V ⟨q,j⟩ ⟨hl,hd,_,(rel.put k Z B).keeps λc ys P=>?_,q,es,ep,j,h2,h3,h4,h5⟩;rw[aF (LA P e (λz=>nomatch z))];exact P
end
def zY(i:Expr):Prop:=∀z L,subscripted i false z L=operate [z,L] (getItem z L)
theorem CO{prog:Program}{A:Around}{E:Value->Shared->Prop}{env:Env}{value slice:Expr}{pos:Pos}{id:String}
  (hl:typeLookup (.type T) "__getitem__" = pure (some (.builtin id)))(u:zY slice)
  (h:wpAny (model prog w) A (eval value env) (λo Z=>wpAny (model prog w) A (eval slice env) (λi U=>U.TypeIs o T/\wpAny (model prog w) A (getItem o i) Q E U) E Z) E s):
  wpAny (model prog w) A (eval (.Subscript value slice pos) env) Q E s:=by
 refine Subscript_ (wpAny_mono h (λo Z O=>wpAny_mono O (λi U H=>?_) λ_ _ x=>x) λ_ _ x=>x);obtain⟨a,H⟩:=H;unfold subscriptTail;refine wpAny_bind ?_;rw[getitemInPython_of_ne a.not_modules];refine wpAny_bind (wpAny_specialOf a hl ?_);have fin:wpAny (model prog w) A (subscripted slice false o i) (λr P=>wpAny (model prog w) A (letTemporaryGo value o r >>= λ_=>pure r) Q E P) E U:=by rw[u o i];exact wpAny_operating (wpAny_mono H (λr P Y=>wpAny_bind (wpAny_letTemporaryGo (wpAny_pure Y))) λ_ _ x=>x)
 first
  |exact wpAny_pure (wpAny_bind fin)
  |exact wpAny_bind (wpAny_pure (wpAny_bind fin))
  |exact wpAny_bind fin
variable{X:Cx}
theorem rO{a:Addr}(I:Inv X pins Y H s)(g:iH H a y o):s.TypeIs (.ref a) "dict" := by
 rcases g with ⟨kvs,k,e,_,_⟩|⟨kvs,k,b,e,_,_,_⟩
 .obtain⟨_,_,vs,_,D⟩:=gh I.hok e;exact D.typeIs
 .obtain⟨_,_,xs,_,D⟩:=mw I.hok e;exact D.typeIs
noncomputable def Na(I ty:TE):TE:=λY H Q=>I Y H λx e=>ty Y e λy c=>∃a v,x=.ref a/\iH c a y (some v)/\Q v c
noncomputable def Pt(ty I:TE):TE:=λY H Q=>ty Y H λy e=>I Y e λx c=>∃a o,x=.ref a/\iH c a y o/\Q (.bl o.isSome) c
noncomputable def Fi(ty I:TE):TE:=λY H Q=>ty Y H λy e=>I Y e λx c=>∃a o,x=.ref a/\iH c a y o/\Q (.bl (!o.isSome)) c
noncomputable def MN(I ty h:TE):TS:=λD Y H=>h Y H λv e=>I Y e λx c=>ty Y c λy K=>∃a Q,x=.ref a/\M4 K a y v Q/\D.nx Y Q
section
variable{X:Cx}{o i e value:Expr}{pos pos' I:Pos}{td ty tv:TE}
theorem DW(f:X.A.units+1<cLine)(J:PE X o td)(hi:PE X i ty)(V:zY i):PE X (.Subscript o i pos) (Na td ty):=by intro pins s Y H Q I h;refine CO PySem.F.slot_dict_getitem.lookup V (bN (J pins s Y H _ I h) λu s1 ⟨x,e,Z,K,l⟩=>bN (hi pins s1 Y e _ Z l) λL s2 ⟨y,c,m,b,a,v,ex,g,U⟩=>?_);subst ex;obtain rfl:u=RD a:=K;exact⟨rO m g,xq f m g b λn r O R=>⟨v,c,O,R,U⟩⟩
theorem Cg(f:X.A.units+1<cLine)(hi:PE X i ty)(J:PE X o td):PC X .In i o (Pt ty td):=by intro pins s Y H Q I h;refine bN (hi pins s Y H _ I h) λL s1 ⟨y,e,Z,b,l⟩=>bN (J pins s1 Y e _ Z l) λu s2 ⟨x,c,m,K,a,z,ex,g,F⟩=>?_;subst ex;obtain rfl:u=RD a:=K;exact O0 f m g b λr O=>⟨.bl z.isSome,c,O,rfl,F⟩
theorem oy(f:X.A.units+1<cLine)(hi:PE X i ty)(J:PE X o td):PC X .NotIn i o (Fi ty td):=by intro pins s Y H Q I h;refine bN (hi pins s Y H _ I h) λL s1 ⟨y,e,Z,b,l⟩=>bN (J pins s1 Y e _ Z l) λu s2 ⟨x,c,m,K,a,z,ex,g,F⟩=>?_;subst ex;obtain rfl:u=RD a:=K;exact EV f m g b λr O=>⟨.bl (!z.isSome),c,O,rfl,F⟩
theorem E6(f:X.A.units+1<cLine)(J:PE X o td)(hi:PE X i ty)(c:PE X value tv)(V:swapsWith value (some (.Subscript o i pos')) pos.line X.env=pure false):
  PS X (.Assign [.Subscript o i pos'] value pos) (MN td ty tv):=by
 intro pins s Y H D I h;refine wpAny_Assign_Subscript (bN (c pins s Y H _ I h) λr s1 ⟨v,e,Z,B,l⟩=>bN (J pins s1 Y e _ Z l) λu s2 ⟨x,E,m,K,F⟩=>bN (hi pins s2 Y E _ m F) λC p ⟨y,N,O,b,a,Q,ex,g,L⟩=>?_) V;subst ex;obtain rfl:u=RD a:=K;exact xp f O g b B λP G=>⟨Y,Q,G,L⟩
end
theorem yX(h:Heap)(d:sysModules<h.objs.size):cb P w H (h.push { cls:=.type "dict",data:=.dict #[] }) h.objs.size (.dK []):=
 ⟨R1 _,beq_eq_false_iff_ne.mpr (Sd (Ru d)),[],.nil,Vp h⟩
def Hb:TE:=λ_ H Q=>∀p,H p=none->Q (.ref p) (upd H p (.dK []))
section
variable{X:Cx}{pos:Pos}
theorem zJ:PE X (.Dict [] [] pos) Hb:=λpins s Y H Q I h=>wpAny_Dict_empty ⟨.ref s.heap.objs.size,_,I.laid (a:=s.heap.objs.size) (o:=.dK []) (t':=s.toks) (λ_ _ q=>Q3 _ q) (Rf _) (yX s.heap I.big),rfl,h _ (I.hok.fresh (Rf _))⟩
end
def jy(kvs more:List (Key×V)):List (Key×V):=more.foldl (λacc q=>putK acc q.1 q.2) kvs
theorem KV.merge:∀{more:List (Key×V)}{rs:List (Key×Value)}{kvs:List (Key×V)}{vs:List (Key×Value)},KV more rs->KV kvs vs->KV (jy kvs more) (merged vs rs):=by
 intro more rs kvs vs r;unfold KV at r;induction r generalizing kvs vs with
 |nil=>intro q;exact q
 |@cons p q ps qs h t l=>
  intro v;have e:KV (putK kvs p.1 p.2) (stored vs q.1 q.2):=by have:=v.put p.1 h.2;rw[<-h.1];exact this
  exact l e
theorem je:∀(more kvs:List (Key×V)),(jy kvs more).length<=kvs.length+more.length
 |[],kvs=>by show kvs.length<=kvs.length+0;lia
 |p::r,kvs=>by have h1:=je r (putK kvs p.1 p.2);have h2:=iL kvs p.1 p.2;show (jy (putK kvs p.1 p.2) r).length<=_;rw[Q6];lia
structure M1(X:Cx)(o:Expr)(m:Str)(apos:Pos)(e:Expr)(cpos:Pos):Prop where
 base:attributeBase o m X.env (eval o X.env)=eval o X.env
 few:((backTo cpos (starEach [e] X.env)).all (λx=>!x.1)&&(backToKw cpos (keywordEach [] X.env)).all (λx=>x.1.isSome)
  && decide (([e]:List Expr).length+([]:List Keyword).length+(if ([]:List Keyword).isEmpty then 0 else 1)<30))=true
 line:(apos.endLine==cpos.line)=true
 trees:backTo cpos (starEach [e] X.env)=[(false,eval e X.env)]
structure M2(X:Cx)(o:Expr)(m:Str)(apos:Pos)(e f:Expr)(cpos:Pos):Prop where
 base:attributeBase o m X.env (eval o X.env)=eval o X.env
 few:((backTo cpos (starEach [e,f] X.env)).all (λx=>!x.1)&&(backToKw cpos (keywordEach [] X.env)).all (λx=>x.1.isSome)
  && decide (([e,f]:List Expr).length+([]:List Keyword).length+(if ([]:List Keyword).isEmpty then 0 else 1)<30))=true
 line:(apos.endLine==cpos.line)=true
 trees:backTo cpos (starEach [e,f] X.env)=[(false,eval e X.env),(false,eval f X.env)]
def PU(H:Hp)(a:Addr):Prop:=(∃kvs,Rd H a (.dK kvs))\/∃kvs,Rd H a (.dT kvs)
theorem Kd{a:Addr}(I:Inv X pins Y H s)(d:PU H a):
  s.TypeIs (.ref a) "dict" /\ (∀b,RD a=.ref b->∃ob,s.heap.get? b=some ob/\ob.dict=none)/\(a==sysModules)=false:=by
 rcases d with ⟨kvs,e⟩|⟨kvs,e⟩
 .obtain⟨_,hd,vs,_,D⟩:=gh I.hok e;refine⟨D.typeIs,λb q=>?_,hd⟩;cases q;obtain⟨ob,_,_,h1,h2,_⟩:=D;exact⟨ob,h1,h2.2.1⟩
 .obtain⟨_,hd,xs,_,D⟩:=mw I.hok e;refine⟨D.typeIs,λb q=>?_,hd⟩;cases q;obtain⟨ob,_,_,h1,h2,_⟩:=D;exact⟨ob,h1,h2.2.1⟩
section
variable{X:Cx}{pins:List (Addr×Obj)}{Y:St}{H:Hp}{s:Shared}{a:Addr}{y d:V}{u r:Value}{o:Option V}{A:Around}{E:Value->Shared->Prop}
theorem HH(f:A.units+1<cLine)(I:Inv X pins Y H s)(g:iH H a y o)(S:RelV y u)(rd:RelV d r)(h:∀x s',Inv X pins Y H s'->RelV (o.getD d) x->Q x s'):
  wpAny (model X.prog X.w) A (call (.builtin "dict.get") [.ref a,u,r]) Q E s:=by
 rcases g with ⟨kvs,k,e,L,l⟩|⟨kvs,k,b,e,L,Z,l⟩
 .subst L;obtain⟨z,hd,vs,rel,D⟩:=gh I.hok e;refine call_meetsIn TL D.typeIs U8 (U0 _ _ _) (meets_dict_get_default (ba X.prog X.w) a (mY S) hd r) ⟨_,D.mapOf,h _ _ (I.tok _) ?_⟩;rw[l];exact(rel.val k).getD rd
 .subst L;cases (show u=RD b from S);obtain⟨z,hd,xs,rel,D⟩:=mw I.hok e;refine call_meetsIn TL D.typeIs U8 (U0 _ _ _) (meetsH_dict_get_default (tupleKind (ba X.prog X.w)) a b hd r) ⟨tupleKind_room_in1 f,k,xs,kK I.hok Z,D,h _ _ (I.tok _) ?_⟩;rw[l];exact(rel.val k).getD rd
end
noncomputable def Hl(I ty X:TE):TE:=λY H Q=>I Y H λx e=>∃a,x=.ref a/\PU e a/\ty Y e λy c=>X Y c λz D=>∃o,iH D a y o/\Q (o.getD z) D
section
variable{X:Cx}{o e f:Expr}{apos cpos:Pos}{td ty tx:TE}
theorem BJ(C:X.A.units+1<cLine)(i:PE X o td)(p:PE X e ty)(hf:PE X f tx)(m:M2 X o "get" apos e f cpos):PE X (.Call (.Attribute o "get" apos) [e,f] [] cpos) (Hl td ty tx):=by
 intro pins s Y H Q I h;refine wpAny_Call_method m.base m.few m.line PySem.F.plainAttrs_dict TL PySem.F.type_dict_get (bN (i pins s Y H _ I h) λu s1 ⟨x,q,Z,K,a,ex,d,l⟩=>?_);subst ex;obtain rfl:u=RD a:=K;obtain⟨v,T,_⟩:=Kd Z d;refine⟨v,T,?_⟩;rw[m.trees];refine TK rfl (Vt (Ul (bN (p pins s1 Y q _ Z l) λN s2 ⟨y,c,U,b,n⟩=>Ul (bN (hf pins s2 Y c _ U n) λP r ⟨z,D,O,t,E,g,L⟩=>VN ?_))))
 exact HH C O g b t λw k G R=>⟨_,D,G,R,L⟩
end
section
variable{X:Cx}{pins:List (Addr×Obj)}{Y:St}{H:Hp}{s:Shared}{a:Addr}{kvs:List (Key×V)}{A:Around}{E:Value->Shared->Prop}
theorem AG(I:Inv X pins Y H s)(e:Rd H a (.dK kvs))(h:∀p s',H p=none->Inv X pins Y (upd H p (.dK kvs)) s'->Q (.ref p) s'):wpAny (model X.prog X.w) A (call (.type "dict") [.ref a]) Q E s:=by obtain⟨z,hd,vs,rel,D⟩:=gh I.hok e;refine kt_call_dict hd D (by rw[<-rel.length];exact z) λh' G u=>?_;refine h _ _ (I.hok.fresh (Rf _)) (I.laid (a:=s.heap.objs.size) (o:=.dK kvs) (t':=s.toks) (λb q j=>?_) (Rf _) (uh z (beq_eq_false_iff_ne.mpr (Sd (Ru I.big))) rel G));exact(u.2 b (Ru (Rh j))).trans (Q3 _ j)
end
end L2
namespace Att
open PySem PySem.W PySem.Calls PyProof.Rows
variable{P:Params}{h:Heap}
theorem lM:∀(ns:List Int)(vs:List Value),WellAll P h vs (ns.map WV)->IntsAre vs ns:=by
 intro ns;induction ns with
 |nil=>intro vs w;rw[Th] at w;cases w;exact .nil
 |cons n ns l=>
  intro vs w;rw[Ri] at w;cases w with
  |cons a b=>cases a;exact .cons _ _ (l _ b)
variable{l:OpenLaw}
theorem xC{n:Nat}(hn:l.most=some n){args:List WData}{H:List Value}
  (Y:l.row.toRowW.claim.pre args=true)(o:WellAll P h H args):
  ∃a vs ns,H=[RD a]/\args=[WData.list (ns.map WV)]/\h.get? a=some { cls:=.type "list",data:=.seq vs.toArray }/\IntsAre vs ns/\ns.length<=n:=by
 have s:WShape.hasAll [] args [.list .int]=true:=(pre_splitW Y).1;have hc:l.pre.holds [] { args:=args }=true:=(pre_splitW Y).2;obtain⟨d,r,rfl,h1,h2⟩:=hasAllW_cons s;obtain rfl:=hasAllW_nil h2;obtain⟨xs,rfl,h3⟩:=hasW_list h1;obtain⟨ns,rfl⟩:=items_int h3;have z:ns.length<=n:=by
  unfold OpenLaw.pre at hc;have h4:(WTm.not (.lt (.lit (.int (n:Int))) (.len (.arg 0)))).holds [] { args:=[.list (ns.map .int)] }=true:=by have h4:=(holds_andW hc).1;rw[hn] at h4;exact h4
  have h5:=condW_of h4 (w_not (w_lt w_lit (w_len_list (w_arg rfl))));rw[QY] at h5;refine Nat.le_of_not_lt λq=>?_;have v:(n:Int)<((ns.length:Nat):Int):=by lia
  first
   |(rw[decide_eq_true v] at h5;exact absurd h5 (by decide))
   |(simp at h5;lia)
 cases o with
 |cons m Q=>
  cases Q;cases m with
  |list i X=>exact⟨_,_,ns,rfl,rfl,i,lM ns _ X,z⟩
theorem xf(l:OpenLaw)(args:List WData):l.row.toRowW.claim.post args (.bool true) args=true:=
 postW_of (r:=l.row.toRowW) (X:=(true==true))
  (show WA [] (.bool true) .bool=true by first|rfl|decide|simp[WA,WShape.arms,WShape.armsAll])
  (show (WTm.eq .res (.lit (.bool true))).value [] { args:=args,res:=some (.bool true),after:=args }=some (.bool (true==true)) from w_eq_bool (w_res rfl) w_lit) rfl
theorem rV{n:Nat}{q:Program}{loose:List Str}{XP:(Str->Option Value)->Heap->Prop}{YP:World->Heap->Prop}{d:DefRec}
  (hn:l.most=some n)(v:d.params.defaults=[])
  (call:∀(w:World)(s₀ Z:Shared)(mg mb:Str->Option Value)(h:Addr)(o:Obj)(pm cd doc:Value)(a:Addr)(vs:List Value)(ns:List Int),
   Ground q loose [] XP w s₀ mg mb Z.heap->YP w Z.heap->
   Z.heap.get? h=some o->o.data=.func (docDef d.name d.params d.body d.scope pm cd doc)->Z.heap.CodeRec cd d.name->mg d.name=some (.ref h)->
   Z.heap.get? a=some { cls:=.type "list",data:=.seq vs.toArray }->IntsAre vs ns->ns.length<=n->Z.gens=#[]->
   codeAny (model l.prog w) callerA (.call (.ref h) ⟨[.ref a],[]⟩) (λr s'=>r=.ok (.ret (.bool true))/\OldK Z.heap s'.heap/\s'.os=Z.os/\AllBare s'.gens) Z):
  WalkO q loose XP YP l.row.toRowW d [] (λf vs=>VJ f vs):=by
 intro w s₀ Z mg mb G Y h o pm cd doc dV kV i hd x U Q P args t as X N R T E;obtain rfl:dV=.none:=Dflts.none U v;obtain rfl:kV=.none:=Dflts.noKw U;obtain⟨a,vs,ns,rfl,rfl,s,H,z⟩:=xC hn X T;refine enter_call (codeAny_mono (call w s₀ Z mg mb h o pm cd doc a vs ns G Y i (fd_plain hd) x Q s H z P) λr s' j=>?_);obtain⟨rfl,h2,h3,h4⟩:=j;exact⟨.inl ⟨.bool true,.bool true,[],rfl,λ_=>rfl,.bool true,xf l _,λ_=>⟨WL,λ_ hm=>(nomatch hm)⟩⟩,h2,h3,h4⟩
end Att
namespace L2
open PySem PySem.Spec PyProof.Rows
theorem pU:∀{vs:List Value}{ns:List Int},IntsAre vs ns->Vals (ns.map V.int) vs
 |_,_,.nil=>.nil
 |_,_,.cons n t h=>.cons ⟨t,rfl⟩ (pU h)
def HN(H:Hp):Prop:=∀b,H b=none\/∃o xs,H b=some (.frz o (.lst xs))
variable{k:Nat}
theorem BQ{P:Program}{w:World}{K:QU}{mg mb:Str->Option Value}{CX:qY}{C a:Addr}{fd:FuncData}{x:Str}{sp:Sp}{Z:Shared}{vs:List Value}{ns:List Int}
  (O:K.In Z.heap)(T:Z.heap.Ns mainGlobals mg)(G:Z.heap.Ns builtinsNs mb)(E:∀x:Str,x ≠ "__name__" -> mb x=bootBuiltins x)(U:Z.heap.NoLimit)(D:Z.gens=#[])
  (ha:Z.heap.get? a=some { cls:=.type "list",data:=.seq vs.toArray })(hi:IntsAre vs ns)(hl:ns.length<=sizeLine)(j:cP k callerA)
  (F:∀base:Heap,K.In base->base.Ns mainGlobals mg->dg P w K mg base CX k C fd [x] sp)(Q:∀(s:Shared)(u:Value),BindsTo s fd ⟨[u],[]⟩ [(x,u)])
  (J:∀H:Hp,HN H->gu K H a (ns.map V.int)->sp [.ref a] H (λv _=>v=.bl true) λ_ _ _=>False)
  (y:∀H e s',CX [] H Z (λ_ _ _=>False) e s'->False):
  codeAny (model P w) callerA (.call (.ref C) ⟨[.ref a],[]⟩) (λr s'=>r=.ok (.ret (.bool true))/\OldK Z.heap s'.heap/\s'.os=Z.os/\AllBare s'.gens) Z:=by
 have A:=pU hi;have t:=hi.length;have X:∀H:Hp,HN H->gu K H a (ns.map V.int)->jH P w H Z.heap->(∀b,H b≠none->b=a)->(H a≠none->K.lookup a=none)->
   codeAny (model P w) callerA (.call (.ref C) ⟨[.ref a],[]⟩) (λr s'=>r=.ok (.ret (.bool true))/\OldK Z.heap s'.heap/\s'.os=Z.os/\AllBare s'.gens) Z:=by
  intro H L i hok f g;have ck:∀{b:Addr}{o:Obj},Z.heap.get? b=some o->H b=none->(qc Z.heap H).get? b=some o:=λe n=>zx e n;have S:∀{b:Addr}{o:Obj}{es:Array DictEntry}{ep:Nat},Z.heap.get? b=some o->o.data=.dict es ep->H b=none:=λ{b o es ep} e d=>by
   cases q:H b with
   |none=>rfl
   |some u=>have B:b=a:=f b (by rw[q];simp);subst B;rw[ha] at e;cases e;have d':Data.seq vs.toArray _=Data.dict es ep:=d;cases d'
  have Y:∀{b:Addr}{m:Str->Option Value},Z.heap.Ns b m->(qc Z.heap H).Ns b m:=λ{b m} ⟨o,es,ep,e,d,r⟩=>⟨o,es,ep,ck e (S e d),d,r⟩
  have I:K.In (qc Z.heap H):=λb o e=>ck (O b o e) (by
   cases q:H b with
   |none=>rfl
   | some u=>have B:b=a:=f b (by rw[q];simp);subst B;rw[g (by rw[q];simp)] at e;cases e)
  have l:Mod K mg (qc Z.heap H):=⟨I,Y T,⟨mb,Y G,E⟩,let ⟨mc,h1,h2⟩:=U;⟨mc,Y h1,h2⟩⟩
  have c:tS P w K mg (qc Z.heap H) callerA [] Z H:=⟨rfl,l,λb o e=>C8 e,UI (wQ _ _),trivial,λb G=>absurd (show b∈([]:List Addr) from G) (by simp),hok,.of_eq D⟩
  refine codeAny_mono ((F _ I (Y T)).run callerA [] Z H ⟨[.ref a],[]⟩ [.ref a] [.ref a] _ _ j c (Q Z (.ref a)) (.cons rfl .nil) (J H L i)) λr s' h=>?_;cases r with
  |error e=>exact(y H e s' h).elim
  |ok fl=>
   cases fl with
   |next=>exact Se h
   |brk=>exact Se h
   |cont=>exact Se h
   |ret u=>
    obtain⟨v,H',os,bare,un,N,r',q⟩:=h;have q':v=.bl true:=q;subst q';obtain rfl:u=VG true:=r';refine⟨rfl,OldK.of_keep λb o e=>?_,os,bare⟩;cases q:H b with
    |none=>exact un.keep b o e q (by intro z;exact absurd (show b∈([]:List Addr) from z) (by simp)) (by simp)
    |some u=>
     rcases L b with z|⟨ob,xs,z⟩
     .rw[q] at z;cases z
     .have z2:=un.frzs b ob _ z;obtain⟨p,_⟩:=hok b _ z;obtain⟨e2,_⟩:=N b _ z2;rw[e] at p;cases p;exact e2
 cases hk:K.lookup a with
 |some o=>have e:=O a o hk;rw[ha] at e;cases e;refine X (λ_=>none) (λ_=>.inl rfl) (.inr ⟨_,vs.toArray,_,hk,rfl,rfl,rfl,by rw[Q0,t];exact hl,by simpa using A⟩) (λb u z=>by have R:(none:Option HO)=some u:=z;cases R) (λb z=>absurd rfl z) λz=>absurd rfl z
 |none=>
  refine X (λb=>if b=a then some (.frz { cls:=.type "list",data:=.seq vs.toArray } (.lst (ns.map V.int))) else none) (λb=>?_) (.inl (.inr ⟨{ cls:=.type "list",data:=.seq vs.toArray },if_pos rfl⟩)) (λb u z=>?_) (λb z=>?_) λ_=>hk
  .by_cases G:b=a
   .exact .inr ⟨_,_,if_pos G⟩
   .exact .inl (if_neg G)
  .by_cases G:b=a
   .have R:=(if_pos G).symm.trans z;cases R;subst G;exact⟨ha,by rw[QY];exact hl,vs,_,A,ha⟩
   .have R:=(if_neg G).symm.trans z;cases R
  .by_cases G:b=a
   .exact G
   .exact absurd (if_neg G) z
noncomputable def dO(s:Stmt):Arguments:=match s with
 | .FunctionDef _ a _ _ _ _ _ _ _ _=>a
 |_=>{ posonlyargs:=[],args:=[],vararg:=none,kwonlyargs:=[],kw_defaults:=[],kwarg:=none,defaults:=[] }
noncomputable def fJ(s:Stmt):List Stmt:=match s with
 | .FunctionDef _ _ b _ _ _ _ _ _ _=>b
 |_=>[]
noncomputable def bu(s:Stmt):Scope:=match s with
 | .FunctionDef _ _ _ _ _ _ sc _ _ _=>sc
 |_=>{ kind:=.function,names:=[],isGenerator:=false,isCoroutine:=false }
noncomputable abbrev E0:XK:=λ_ _ _=>False
theorem rB{A:Around}(y:cP k A):A.units+1<cLine:=SR (Nat.add_le_add_left (by decide:1<=64) _) y.units
def Ph(H H':Hp):Prop:=∀b o,H b=some o->H' b=some o
end L2
set_option maxHeartbeats 4000000
namespace L2
open PySem PySem.Spec PyProof.Rows PySem.W
open PySem.Builtin.ObjectAttr (find dataDescriptor? getOf)
open PySem.Builtin.Getset_descriptor (descrGet descrGetter descrCheckInstance descrNameAndClass)
variable{R:Result->Shared->Prop}
section
variable{prog:Program}{w:World}{A:Around}{E:Value->Shared->Prop}{h:Heap}{g:Array GenState}{d:Drawn}{t:Nat}{os:OsState}{K:Frag}{x C:Addr}
structure nG(K:Frag)(C:Addr):Prop where
 ga:findIn K (.ref C) "__getattribute__" = some (some (.builtin "BaseException.__getattribute__"))
 gt:findIn K (.ref C) "__getattr__" = some none
 cl:findIn K (.ref C) "__class__" = some (some (.builtin "object.__class__"))
 gg:specialIn K (.builtin "object.__class__") "__get__" = some (some (.builtin "getset_descriptor.__get__"))
 tk:takesIn K (.builtin "object.__class__")=some true
 ob:mroIn K C (.type "object")=some true
 be:mroIn K C (.type "BaseException")=some true
def ExcAt(a C:Addr)(h:Heap):Prop:=∃H,h.get? a=some H/\H.cls=.ref C
theorem ExcAt.type{M:Model}(I:ExcAt x C h):Looks M h (typeOf (.ref x)) (.ref C):=by obtain⟨H,F,j⟩:=I;exact j▸(Looks.ld F).andThen .now
theorem Ik{M:Model}{Y:Value}{Q:Unit->Shared->Prop}(X:K.In h)(T:nG K C)(I:ExcAt x C h)(j:Q () ⟨h,g,d,t,os⟩):
  wpAny M A (checkBuiltinCall "BaseException.__getattribute__" ⟨[.ref x,Y],[]⟩) Q E ⟨h,g,d,t,os⟩:=by
 have o:builtinKind "BaseException.__getattribute__" = some .slot:=by decide +kernel
 have n:splitId "BaseException.__getattribute__" = some ("BaseException", "__getattribute__"):=by decide +kernel
 have s:=F.args_bexc_ga (.ref x) Y;have L2:Looks M h (isInstance (.ref x) (.type "BaseException")) true:=I.type.andThen (looks_mroIn (M:=M) X T.be);simp only[checkBuiltinCall,o,n];refine wpAny_bind (L2.at ?_)
 repeat (first|exact j|wp_step)
theorem Lf{M:Model}(X:K.In h)(T:nG K C):Looks M h (find (.ref x) (.ref C) "__class__") (.bind (.builtin "getset_descriptor.__get__") (.builtin "object.__class__")):=by have l1:=looks_findIn (M:=M) X T.cl;have Y:Looks M h (getOf (some (.builtin "object.__class__"))) (some (.builtin "getset_descriptor.__get__")):=looks_specialIn X T.gg;have o:Looks M h (dataDescriptor? (some (.builtin "object.__class__")) (some (.builtin "getset_descriptor.__get__"))) (some (.builtin "getset_descriptor.__get__",.builtin "object.__class__")):=(looks_takesIn (M:=M) X T.tk).andThen .now;exact l1.andThen (Y.andThen (o.andThen (Looks.tag .now)))
theorem OS{tp:Value}(X:K.In h)(T:nG K C)(I:ExcAt x C h)(q:R (.ok (.ret (.ref C))) ⟨h,g,d,t,os⟩):
  codeAny (model prog w) A (.call (.builtin "getset_descriptor.__get__") ⟨[.builtin "object.__class__",.ref x,tp],[]⟩) R ⟨h,g,d,t,os⟩:=by
 have v:=I.type (M:=model prog w);have l1:=looks_mroIn (M:=model prog w) X T.ob;refine codeAny_call_builtin (KF.slot_gs).plain (KF.entry_gs) ((KF.slot_gs).check _ _ _ _ _ _ _ _ (KF.type_class) (KF.args_gs _ _ _) ?_);unfold Builtin.«getset_descriptor.__get__»;unfold descrGet;rw[dga_obj _ tp x];refine wpAny_bind (wpAny_pure ?_);unfold descrGetter descrCheckInstance;unfold descrNameAndClass isInstance;simp only[KF.owner_class,id]
 repeat (first|lk)
 refine⟨Code.quiet_builtin _ (by decide +kernel),codeAny_builtin (KF.entry_class) ?_⟩;unfold Builtin.«object.__class__»;unfold shownTypeOf
 repeat (first|lk)
 exact q
theorem IW{tk:Tok}{Q:Fin->Shared->Prop}(X:K.In h)(T:nG K C)(I:ExcAt x C h)(j:Q (.done (.ret (.ref C))) ⟨h,g,d,t,os⟩):
  wpAny (model prog w) A (Builtin.«object.__getattribute__» ⟨[.ref x,.str "__class__" tk],[]⟩) Q E ⟨h,g,d,t,os⟩:=by
 have H:=I.type (M:=model prog w);have Y:=Lf (x:=x) (M:=model prog w) X T;unfold Builtin.«object.__getattribute__»;refine wpAny_bind (wpAny_pure ?_);refine wpAny_bind (wpAny_pure ?_);refine wpAny_bind (H.at ?_);refine wpAny_bind (Y.at ?_);unfold V1;refine wpAny_bind (wpAny_call ?_);refine OS X T I ?_;exact wpAny_pure j
theorem MK{tk:Tok}(X:K.In h)(T:nG K C)(I:ExcAt x C h)(j:R (.ok (.ret (.ref C))) ⟨h,g,d,t,os⟩):
  codeAny (model prog w) A (.call (.builtin "BaseException.__getattribute__") ⟨[.ref x,.str "__class__" tk],[]⟩) R ⟨h,g,d,t,os⟩:=
 codeAny_call_builtin VV.ga.plain F.entry_bexc_ga (Ik X T I (IW X T I j))
theorem Qp{tk:Tok}{Q:Value->Shared->Prop}(X:K.In h)(T:nG K C)(I:ExcAt x C h)(j:Q (.ref C) ⟨h,g,d,t,os⟩):
  wpAny (model prog w) A (getAttrBy (.ref x) (.str "__class__" tk) false) Q E ⟨h,g,d,t,os⟩:=by
 have J:=VV.ga.bind (.ref x);have a:(Ts "BaseException.__getattribute__" == Ts "object.__getattribute__")=false:=by decide +kernel
 have n:(onTheHeap (RD C)&&Ts "BaseException.__getattribute__" == Ts "object.__getattribute__")=false:=by rw[a];rfl
 have H:=I.type (M:=model prog w);have Y:=looks_findIn (M:=model prog w) X T.ga;have L2:=looks_findIn (M:=model prog w) X T.gt;unfold getAttrBy;refine wpAny_holding (wpAny_bind (H.at (wpAny_bind (Y.at ?_))));dsimp only;rw[if_neg (by rw[n];exact RE)];unfold getAttrByItsOwn hookBefore
 repeat (any_goals (first|assumption|with_reducible refine wpAny_bind (L2.at ?_)|with_reducible refine wpAny_bind (Y.at ?_)|wp_step))
 refine MK X T I ?_
 repeat (any_goals (first|assumption|wp_step))
theorem Lo{Q:Option Value->Shared->Prop}(X:K.In h)(T:nG K C)(I:ExcAt x C h)(j:Q (some (.ref C)) ⟨h,g,d,t+1,os⟩):
  wpAny (model prog w) A (getAttr? (.ref x) "__class__") Q E ⟨h,g,d,t,os⟩:=by
 unfold getAttr? getAttrBy?
 repeat (any_goals (first|assumption|with_reducible apply Qp X T I|wp_step))
end
variable{K:Frag}{C:Addr}
theorem nG.there(T:nG K C):∃oc od cd sl,K.lookup C=some ⟨oc,od,.cls cd,sl⟩:=by
 have q:=T.ob;unfold mroIn clsIn at q;split at q
 .rename_i a b c e f;exact⟨a,b,c,e,f⟩
 .cases q
theorem BV{a:Addr}(T:nG K C):KitX K (.ref a) (.ref C) (ExcAt a C) where
 ty:=λ_ _ _ I=>I.type
 it:=λ_ _ X _=>by obtain⟨_,_,_,_,L⟩:=T.there;intro v P Q s1 o l;unfold isType loadHead;exact wpAny_bind (wpAny_loadPart (o _ _ (X _ _ L)) (wpAny_pure l))
 ne:=λh tp D its n sl X x=>by obtain⟨_,_,_,_,L⟩:=T.there;refine VW.mpr λq=>?_;cases RD.inj (beq_iff_eq.mp q);cases (X _ _ L).symm.trans x
 ca:=λ{_ _ _ _ _ s} X I k=>by obtain⟨h,g,d,t,os⟩:=s;exact Lo X T I k
open PySem PySem.Spec PyProof.Rows
variable{P:Program}{w:World}{H:Hp}{o:HO}
theorem cb.is{h:Heap}{a:Addr}(x:cb P w H h a o):∃ob,h.get? a=some ob:=by
 cases o with
 |lst xs=>obtain⟨_,_,_,_,e⟩:=x;exact⟨_,e⟩
 |tup xs=>obtain⟨_,_,_,ob,e,_⟩:=x;exact⟨_,e⟩
 |dK kvs=>obtain⟨_,_,_,_,ob,_,_,e,_⟩:=x;exact⟨_,e⟩
 |dT kvs=>obtain⟨_,_,_,_,ob,_,_,e,_⟩:=x;exact⟨_,e⟩
 |set S n=>obtain⟨ob,_,_,_,e,_⟩:=x;exact⟨_,e⟩
 |ins C dx fs=>obtain⟨_,_,_,e,_⟩:=x;exact⟨_,e⟩
 |own y=>obtain⟨_,e⟩:=x;exact⟨_,e⟩
 |xd fs=>obtain⟨_,⟨_,_,_,e,_⟩,_⟩:=x;exact⟨_,e⟩
 |rng lo hi=>obtain⟨_,_,_,e⟩:=x;exact⟨_,e⟩
 |frz ob u=>obtain⟨e,_⟩:=x;exact⟨_,e⟩
 |tbl ps=>exact⟨_,x⟩
 |met f y=>exact⟨_,x⟩
 |ext φ=>obtain⟨_,⟨_,e⟩,_⟩:=x;exact⟨_,e⟩
abbrev XS:=Value->St->Hp->Prop
abbrev TX:=Ends->XS->St->Hp->Prop
section
variable{X:Cx}
variable{k:Nat}{f C:Addr}{fd:FuncData}{ps:List Str}{sp:Sp}{dvs:List V}{ds:List Value}{x m:Str}{p pos apos:Pos}{e o:Expr}{es:List Expr}{ta:TE}{t:TA}
noncomputable def Ha(a C:Addr):HO:=.ext (ExcAt a C)
end
def Bd(n:Nat)(x:Int):Prop:=x.natAbs<2^n
variable{m:Nat}{x:Int}
theorem Bd.mono{n:Nat}(h:Bd m x)(k:m<=n):Bd n x:=Q7 h (RY (by decide) k)
theorem Bd.bits{n:Nat}(h:Bd n x):U1 x<=n:=by
 unfold U1;split
 .exact R1 _
 .rename_i z;have h0:x.natAbs≠0:=λq=>z (by simp[Int.natAbs_eq_zero.mp q]);exact(WW h0).mpr h
variable{y:Int}
theorem Bd.Ld{n:Nat}(h:Bd m x)(k:Bd n y)(u:m+n<=134217728):IntMulOk x y:=IntMulOk.of_le h.bits k.bits u
theorem Bd.mul{n:Nat}(h:Bd m x)(k:Bd n y):Bd (m+n) (x*y):=by unfold Bd at *;rw[U9,Nat.pow_add];exact Nat.mul_lt_mul'' h k
theorem Bd.add{n:Nat}(h:Bd m x)(k:Bd n y):Bd (max m n+1) (x+y):=by have h1:=h.mono (Wh m n);have o:=k.mono (V9 m n);unfold Bd at *;have:=Int.natAbs_add_le x y;rw[Nat.pow_succ];lia
theorem Bd.neg{n:Nat}(h:Bd n x):Bd n (-x):=by unfold Bd at *;rwa[Int.natAbs_neg]
theorem Bd.log{n:Nat}(h:Bd n x)(hn:n<=9000):x.natAbs.log2<9000:=by
 by_cases z:x.natAbs=0
 .rw[z];decide
 .exact Q7 ((WW z).mpr h) hn
section
variable{X:Cx}
def PR(_ j:Int):Prop:=j≠0/\Bd 9000 j
theorem D7:d0 X (binaryOp .Mult) (rI IntMulOk λi j=>.int (i*j)):=n5 λ_ _ _ _ _ _ _ hc q=>mul_int q hc
theorem yG:d0 X (binaryOp .FloorDiv) (rI PR λi j=>.int (i.fdiv j)):=n5 λ_ _ _ _ _ _ _ hc q=>floordiv_int hc.1 q (.inl (PyProof.noPylong_of_log2 (hc.2.log (Rf _))))
end
inductive D where
 |non|bl(b:Bool)|int(i:Int)|str(x:Str)|tup(ds:List D)|lst(ds:List D)
mutual
noncomputable def D.eq:D->D->Bool
 | .non,.non=>true
 | .bl a,.bl b=>a==b
 | .bl a,.int b=>(if a then 1 else 0)==b
 | .int a,.bl b=>a==(if b then 1 else 0)
 | .int a,.int b=>a==b
 | .str a,.str b=>a==b
 | .tup xs,.tup ys=>D.eqs xs ys
 | .lst xs,.lst ys=>D.eqs xs ys
 |_,_=>false
noncomputable def D.eqs:List D->List D->Bool
 |[],[]=>true
 |x::xs,y::ys=>D.eq x y&&D.eqs xs ys
 |_,_=>false
end
mutual
noncomputable def D.depth:D->Nat
 | .tup xs=>D.fO xs+1
 | .lst xs=>D.fO xs+1
 |_=>0
noncomputable def D.fO:List D->Nat
 |[]=>0
 |x::xs=>max (D.depth x) (D.fO xs)
end
mutual
theorem D.lZ:∀d:D,D.eq d d=true
 | .non=>rfl
 | .bl b=>by simp[D.eq]
 | .int i=>by simp[D.eq]
 | .str x=>by simp[D.eq]
 | .tup xs=>by rw[D.eq];exact D.nE xs
 | .lst xs=>by rw[D.eq];exact D.nE xs
theorem D.nE:∀ds:List D,D.eqs ds ds=true
 |[]=>rfl
 |x::xs=>by rw[D.eqs,D.lZ x,D.nE xs];rfl
end
mutual
inductive Den(K:QU)(H:Hp):V->D->Prop
 |non:Den K H .non .non
 |bl(b:Bool):Den K H (.bl b) (.bl b)
 |int(i:Int):Den K H (.int i) (.int i)
 |str(x:Str):Den K H (.str x) (.str x)
 |tup{a:Addr}{xs:List V}{ds:List D}(e:gv K H a xs)(r:fo K H xs ds):Den K H (.ref a) (.tup ds)
 |lst{a:Addr}{xs:List V}{ds:List D}(e:gu K H a xs)(r:fo K H xs ds):Den K H (.ref a) (.lst ds)
inductive fo(K:QU)(H:Hp):List V->List D->Prop
 |nil:fo K H [] []
 |cons{x:V}{d:D}{xs:List V}{ds:List D}(h:Den K H x d)(r:fo K H xs ds):fo K H (x::xs) (d::ds)
end
theorem fo.len{K:QU}{H:Hp}:∀{xs:List V}{ds:List D},fo K H xs ds->xs.length=ds.length
 |_,_,.nil=>rfl
 |_,_,.cons _ r=>by rw[Q6,Q6,r.len]
theorem fo.at{K:QU}{H:Hp}:∀{xs:List V}{ds:List D}(j:Nat){x:V}{d:D},fo K H xs ds->xs[j]?=some x->ds[j]?=some d->Den K H x d
 |_,_,0,_,_,.cons h _,e1,e2=>by cases e1;cases e2;exact h
 |_,_,j+1,_,_,.cons _ r,e1,e2=>r.at j e1 e2
theorem D.oE:∀{ds:List D}(j:Nat){d:D},ds[j]?=some d->D.depth d<=D.fO ds
 |x::xs,0,_,e=>by cases e;exact Wh _ _
 |x::xs,j+1,_,e=>Rm (D.oE (ds:=xs) j e) (V9 _ _)
theorem D.gy:∀(xs ys:List D),D.eqs xs ys=((Sg (min xs.length ys.length)).all (λj=>D.eq (xs.getD j .non) (ys.getD j .non))&&xs.length==ys.length)
 |[],[]=>rfl
 |[],_::_=>rfl
 |_::_,[]=>rfl
 |x::xs,y::ys=>by
  rw[D.eqs,D.gy xs ys,Q6,Q6,Nat.succ_min_succ,List.range_succ_eq_map,RB,Uz];have e:(xs.length+1==ys.length+1)=(xs.length==ys.length):=by rw[T3];simp
  rw[e,Bool.and_assoc];rfl
variable{xs ys:List V}{u v:Value}{us:List Value}
section
variable{X:Cx}{pins:List (Addr×Obj)}{Y:St}{H:Hp}{s:Shared}
theorem vd{a:Addr}(I:Inv X pins Y H s)(h1:gv X.K H a xs)(h2:gu X.K H a ys):False:=by obtain⟨_,_,⟨o,e,c,_⟩,_⟩:=I.tuple h1;obtain⟨_,_,⟨o',w,t,v,_,d'⟩,_⟩:=I.list h2;rw[e] at t;cases t;rw[c] at v;injection v with q;exact absurd q (by decide)
mutual
theorem Den.inj(I:Inv X pins Y H s):∀{v:V}{d e:D},Den X.K H v d->Den X.K H v e->d=e
 |_,_,_,.non,h=>by cases h;rfl
 |_,_,_,.bl b,h=>by cases h;rfl
 |_,_,_,.int i,h=>by cases h;rfl
 |_,_,_,.str x,h=>by cases h;rfl
 |_,_,_,.tup e r,h=>by
  cases h with
  |tup t r'=>cases I.pK e t;rw[fo.inj I r r']
  |lst t r'=>exact(vd I e t).elim
 |_,_,_,.lst e r,h=>by
  cases h with
  |lst t r'=>cases I.rn e t;rw[fo.inj I r r']
  |tup t r'=>exact(vd I t e).elim
theorem fo.inj(I:Inv X pins Y H s):∀{v:List V}{d e:List D},fo X.K H v d->fo X.K H v e->d=e
 |_,_,_,.nil,h=>by cases h;rfl
 |_,_,_,.cons a r,h=>by
  cases h with
  |cons a' r'=>rw[Den.inj I a a',fo.inj I r r']
end
theorem pM(I:Inv X pins Y H s){A:Around}{x y:V}{d e:D}(f:A.units<cLine)(hf:iF x=true)(hd:Den X.K H x d)(R:Den X.K H y e)(Q:RelV x u)(B:RelV y v):S6 A s u v (D.eq d e):=by
 cases hd with
 |tup=>cases hf
 |lst=>cases hf
 |non =>
  cases R with
  |tup q r=>cases Q;cases B;rw[D.eq.eq_def];obtain⟨_,_,p,_⟩:=I.tuple q;exact .none_tuple p f
  |lst q r=>cases Q;cases B;rw[D.eq.eq_def];obtain⟨_,_,p,_⟩:=I.list q;exact .none_list p.isList f
  |non => exact cF Q B rfl rfl
  |bl b1=>exact cF Q B rfl rfl
  |int h=>exact cF Q B rfl rfl
  |str x1=>exact cF Q B rfl rfl
 |bl T=>
  cases R with
  |tup q r=>cases Q;cases B;rw[D.eq.eq_def];obtain⟨_,_,p,_⟩:=I.tuple q;exact .bool_tuple _ p f
  |lst q r=>cases Q;cases B;rw[D.eq.eq_def];obtain⟨_,_,p,_⟩:=I.list q;exact .bool_list _ p.isList f
  |non => exact cF Q B rfl rfl
  |bl b1=>exact cF Q B rfl rfl
  |int h=>exact cF Q B rfl rfl
  |str x1=>exact cF Q B rfl rfl
 |int U=>
  cases R with
  |tup q r=>obtain⟨_,rfl⟩:=Q;cases B;rw[D.eq.eq_def];obtain⟨_,_,p,_⟩:=I.tuple q;exact .int_tuple _ _ p f
  |lst q r=>obtain⟨_,rfl⟩:=Q;cases B;rw[D.eq.eq_def];obtain⟨_,_,p,_⟩:=I.list q;exact .int_list _ _ p.isList f
  |non => exact cF Q B rfl rfl
  |bl b1=>exact cF Q B rfl rfl
  |int h=>exact cF Q B rfl rfl
  |str x1=>exact cF Q B rfl rfl
 |str a=>
  cases R with
  |tup q r=>obtain⟨_,rfl⟩:=Q;cases B;rw[D.eq.eq_def];obtain⟨_,_,p,_⟩:=I.tuple q;exact .str_tuple _ _ p f
  |lst q r=>obtain⟨_,rfl⟩:=Q;cases B;rw[D.eq.eq_def];obtain⟨_,_,p,_⟩:=I.list q;exact .str_list _ _ p.isList f
  |non => exact cF Q B rfl rfl
  |bl b1=>exact cF Q B rfl rfl
  |int h=>exact cF Q B rfl rfl
  |str x1=>exact cF Q B rfl rfl
theorem Vals.LF(r:Vals xs us){j:Nat}(I:j<us.toArray.size):∃x,xs[j]?=some x/\RelV x us.toArray[j]:=by
 have hl:=r.length;have h:j<us.length:=by simpa using I
 have w:j<xs.length:=by lia
 obtain⟨u,e,Q⟩:=r.get (Rg w);rw[Rg h] at e;cases e;exact⟨xs[j],Rg w,by simpa using Q⟩
theorem fo.getD{K:QU}{H:Hp}{xs:List V}{ds:List D}(r:fo K H xs ds){j:Nat}{x:V}(e:xs[j]?=some x):Den K H x (ds.getD j .non)/\D.depth (ds.getD j .non)<=D.fO ds:=by
 have I:j<ds.length:=by rw[<-r.len];exact(Q2.mp e).1
 have w:ds[j]?=some ds[j]:=Rg I;have Q:ds.getD j .non=ds[j]:=by rw[R0,w];rfl
 rw[Q];exact⟨r.at j e w,D.oE j w⟩
theorem kA(I:Inv X pins Y H s){n:Nat}(l:∀{A:Around}{x y:V}{d e:D}{u v:Value},A.units+n<cLine->D.depth d<=n->Den X.K H x d->Den X.K H y e->RelV x u->RelV y v->S6 A s u v (D.eq d e))
  {A:Around}(f:A.units+(n+1)<cLine){ds es:List D}{vs:List Value}(hn:D.fO ds<=n)(r:fo X.K H xs ds)(q:fo X.K H ys es)(Q:Vals xs us)(B:Vals ys vs):
  ∀j (h1:j<us.toArray.size) (h2:j<vs.toArray.size),S6 A.in1 s us.toArray[j] vs.toArray[j] (D.eq (ds.getD j .non) (es.getD j .non)):=λj h1 h2=>by
 obtain⟨x,ex,o⟩:=Q.LF h1;obtain⟨y,L,b⟩:=B.LF h2;obtain⟨h,F⟩:=r.getD ex;exact l (by show A.units+1+n<cLine;lia) (Rm F hn) h (q.getD L).1 o b
theorem hJ(I:Inv X pins Y H s):∀(n:Nat){A:Around}{x y:V}{d e:D}{u v:Value},A.units+n<cLine->D.depth d<=n->Den X.K H x d->Den X.K H y e->RelV x u->RelV y v->S6 A s u v (D.eq d e):=by
 intro n;induction n with
 |zero=>
  intro A x y d e u v f hn hd R Q B;cases id hd with
  |tup=>simp[D.depth] at hn
  |lst=>simp[D.depth] at hn
  |_=>exact pM I f rfl hd R Q B
 |succ n l=>
  intro A x y d e u v f hn hd R Q B;have h:A.units<cLine:=by lia
  cases id hd with
  |@tup a xs ds ea r=>
   cases Q;obtain⟨us,G,p,_⟩:=I.tuple ea;cases id R with
   |@tup b ys es Z T=>
    cases B;obtain⟨vs,q,P,_⟩:=I.tuple Z;by_cases N:a=b
    .subst N;rw[hd.inj I R,D.lZ];exact .same _
    .refine .of_refs N ?_;rw[D.eq.eq_def];simp only[];rw[D.gy];have l1:us.toArray.size=ds.length:=by rw[Q0,<-G.length,r.len]
     have U:vs.toArray.size=es.length:=by rw[Q0,<-q.length,T.len]
     rw[<-l1,<-U];exact .tuples p P h (kA I l f (by rw[D.depth] at hn;lia) r T G q)
   |@lst b ys es Z T=>cases B;obtain⟨vs,q,P,_⟩:=I.list Z;rw[D.eq.eq_def];exact .tuple_list p P.isList h
   |non => cases B;rw[D.eq.eq_def];exact .tuple_none p h
   |bl k=>cases B;rw[D.eq.eq_def];exact .tuple_bool _ p h
   |int C=>obtain⟨_,rfl⟩:=B;rw[D.eq.eq_def];exact .tuple_int _ _ p h
   |str E=>obtain⟨_,rfl⟩:=B;rw[D.eq.eq_def];exact .tuple_str _ _ p h
  |@lst a xs ds ea r=>
   cases Q;obtain⟨us,G,p,_⟩:=I.list ea;cases id R with
   |@lst b ys es Z T=>
    cases B;obtain⟨vs,q,P,_⟩:=I.list Z;by_cases N:a=b
    .subst N;rw[hd.inj I R,D.lZ];exact .same _
    .refine .of_refs N ?_;rw[D.eq.eq_def];simp only[];rw[D.gy];have l1:us.toArray.size=ds.length:=by rw[Q0,<-G.length,r.len]
     have U:vs.toArray.size=es.length:=by rw[Q0,<-q.length,T.len]
     rw[<-l1,<-U];by_cases hl:us.toArray.size=vs.toArray.size
     .have F:(us.toArray.size==vs.toArray.size)=true:=beq_iff_eq.mpr hl;rw[F,Uq,<-hl,Vu];exact .lists p.isList P.isList hl h (kA I l f (by rw[D.depth] at hn;lia) r T G q)
     .have F:(us.toArray.size==vs.toArray.size)=false:=beq_eq_false_iff_ne.mpr hl;rw[F,Tn];exact .lists_lengths p.isList P.isList (by simpa using hl) h
   |@tup b ys es Z T=>cases B;obtain⟨vs,q,P,_⟩:=I.tuple Z;rw[D.eq.eq_def];exact .list_tuple p.isList P h
   |non => cases B;rw[D.eq.eq_def];exact .list_none p.isList h
   |bl k=>cases B;rw[D.eq.eq_def];exact .list_bool _ p.isList h
   |int C=>obtain⟨_,rfl⟩:=B;rw[D.eq.eq_def];exact .list_int _ _ p.isList h
   |str E=>obtain⟨_,rfl⟩:=B;rw[D.eq.eq_def];exact .list_str _ _ p.isList h
  |_=>exact pM I h rfl hd R Q B
end
section
variable{X:Cx}{pins:List (Addr×Obj)}{Y:St}{H:Hp}{s:Shared}
theorem yI(I:Inv X pins Y H s){n:Nat}{A:Around}{x y:V}{d e:D}(f:A.units+n<cLine)(hn:D.depth d<=n)(hd:Den X.K H x d)(R:Den X.K H y e)(Q:RelV x u)(B:RelV y v):SeqAt.RcAt A s u v (D.eq d e):=by
 have h:A.units<cLine:=by lia
 cases id hd with
 |non =>
  cases Q;cases id R with
  |non => cases B;rw[D.eq.eq_def];exact .none_none
  |bl q=>cases B;rw[D.eq.eq_def];exact .none_bool _
  |int q=>obtain⟨_,rfl⟩:=B;rw[D.eq.eq_def];exact .none_int _ _
  |str q=>obtain⟨_,rfl⟩:=B;rw[D.eq.eq_def];exact .none_str _ _
  |@tup b ys es Z T=>cases B;rw[D.eq.eq_def];obtain⟨_,_,P,_⟩:=I.tuple Z;exact .none_tuple P h
  |@lst b ys es Z T=>cases B;rw[D.eq.eq_def];obtain⟨_,_,P,_⟩:=I.list Z;exact .none_list P.isList h
 |bl x1=>
  cases Q;cases id R with
  |non => cases B;rw[D.eq.eq_def];exact .bool_none _
  |bl q=>cases B;rw[D.eq.eq_def];exact .bool_bool _ _
  |int q=>obtain⟨_,rfl⟩:=B;rw[D.eq.eq_def];exact .bool_int _ _ _
  |str q=>obtain⟨_,rfl⟩:=B;rw[D.eq.eq_def];exact .bool_str _ _ _
  |@tup b ys es Z T=>cases B;rw[D.eq.eq_def];obtain⟨_,_,P,_⟩:=I.tuple Z;exact .bool_tuple _ P h
  |@lst b ys es Z T=>cases B;rw[D.eq.eq_def];obtain⟨_,_,P,_⟩:=I.list Z;exact .bool_list _ P.isList h
 |int x1=>
  obtain⟨_,rfl⟩:=Q;cases id R with
  |non => cases B;rw[D.eq.eq_def];exact .int_none _ _
  |bl q=>cases B;rw[D.eq.eq_def];exact .int_bool _ _ _
  |int q=>obtain⟨_,rfl⟩:=B;rw[D.eq.eq_def];exact .int_int _ _ _ _
  |str q=>obtain⟨_,rfl⟩:=B;rw[D.eq.eq_def];exact .int_str _ _ _ _
  |@tup b ys es Z T=>cases B;rw[D.eq.eq_def];obtain⟨_,_,P,_⟩:=I.tuple Z;exact .int_tuple _ _ P h
  |@lst b ys es Z T=>cases B;rw[D.eq.eq_def];obtain⟨_,_,P,_⟩:=I.list Z;exact .int_list _ _ P.isList h
 |str x1=>
  obtain⟨_,rfl⟩:=Q;cases id R with
  |non => cases B;rw[D.eq.eq_def];exact .str_none _ _
  |bl q=>cases B;rw[D.eq.eq_def];exact .str_bool _ _ _
  |int q=>obtain⟨_,rfl⟩:=B;rw[D.eq.eq_def];exact .str_int _ _ _ _
  |str q=>obtain⟨_,rfl⟩:=B;rw[D.eq.eq_def];exact .str_str _ _ _ _
  |@tup b ys es Z T=>cases B;rw[D.eq.eq_def];obtain⟨_,_,P,_⟩:=I.tuple Z;exact .str_tuple _ _ P h
  |@lst b ys es Z T=>cases B;rw[D.eq.eq_def];obtain⟨_,_,P,_⟩:=I.list Z;exact .str_list _ _ P.isList h
 |@tup a xs ds ea r=>
  cases Q;obtain⟨us,G,p,_⟩:=I.tuple ea;cases id R with
  |non => cases B;rw[D.eq.eq_def];exact .tuple_none p h
  |bl q=>cases B;rw[D.eq.eq_def];exact .tuple_bool _ p h
  |int q=>obtain⟨_,rfl⟩:=B;rw[D.eq.eq_def];exact .tuple_int _ _ p h
  |str q=>obtain⟨_,rfl⟩:=B;rw[D.eq.eq_def];exact .tuple_str _ _ p h
  |@tup b ys es Z T=>
   cases B;obtain⟨vs,N,P,_⟩:=I.tuple Z;rw[D.depth] at hn;obtain⟨n,rfl⟩:∃m,n=m+1:=⟨n-1,by lia⟩
   rw[D.eq.eq_def];simp only[];rw[D.gy];have l1:us.toArray.size=ds.length:=by rw[Q0,<-G.length,r.len]
   have U:vs.toArray.size=es.length:=by rw[Q0,<-N.length,T.len]
   rw[<-l1,<-U];exact .tuples p P h (kA I (hJ I n) f (by lia) r T G N)
  |@lst b ys es Z T=>cases B;rw[D.eq.eq_def];obtain⟨_,_,P,_⟩:=I.list Z;exact .tuple_list p P.isList h
 |@lst a xs ds ea r=>
  cases Q;obtain⟨us,G,p,_⟩:=I.list ea;cases id R with
  |non => cases B;rw[D.eq.eq_def];exact .list_none p.isList h
  |bl q=>cases B;rw[D.eq.eq_def];exact .list_bool _ p.isList h
  |int q=>obtain⟨_,rfl⟩:=B;rw[D.eq.eq_def];exact .list_int _ _ p.isList h
  |str q=>obtain⟨_,rfl⟩:=B;rw[D.eq.eq_def];exact .list_str _ _ p.isList h
  |@tup b ys es Z T=>cases B;rw[D.eq.eq_def];obtain⟨_,_,P,_⟩:=I.tuple Z;exact .list_tuple p.isList P h
  |@lst b ys es Z T=>
   cases B;obtain⟨vs,N,P,_⟩:=I.list Z;rw[D.depth] at hn;obtain⟨n,rfl⟩:∃m,n=m+1:=⟨n-1,by lia⟩
   rw[D.eq.eq_def];simp only[];rw[D.gy];have l1:us.toArray.size=ds.length:=by rw[Q0,<-G.length,r.len]
   have U:vs.toArray.size=es.length:=by rw[Q0,<-N.length,T.len]
   rw[<-l1,<-U];by_cases hl:us.toArray.size=vs.toArray.size
   .have F:(us.toArray.size==vs.toArray.size)=true:=beq_iff_eq.mpr hl;rw[F,Uq,<-hl,Vu];exact .lists p.isList P.isList hl h (kA I (hJ I n) f (by lia) r T G N)
   .have F:(us.toArray.size==vs.toArray.size)=false:=beq_eq_false_iff_ne.mpr hl;rw[F,Tn];exact .lists_lengths p.isList P.isList (by simpa using hl) h
theorem uf(I:Inv X pins Y H s){n:Nat}{A:Around}{x y:V}{d e:D}(f:A.units+n<cLine)(hn:D.depth d<=n)(hd:Den X.K H x d)(R:Den X.K H y e)(Q:RelV x u)(B:RelV y v):SeqAt.RcNeAt A s u v (!D.eq d e):=by
 have h:A.units<cLine:=by lia
 cases id hd with
 |non =>
  cases Q;cases id R with
  |non => cases B;rw[D.eq.eq_def];exact .none_none
  |bl q=>cases B;rw[D.eq.eq_def];exact .none_bool _
  |int q=>obtain⟨_,rfl⟩:=B;rw[D.eq.eq_def];exact .none_int _ _
  |str q=>obtain⟨_,rfl⟩:=B;rw[D.eq.eq_def];exact .none_str _ _
  |@tup b ys es Z T=>cases B;rw[D.eq.eq_def];obtain⟨_,_,P,_⟩:=I.tuple Z;exact .none_tuple P h
  |@lst b ys es Z T=>cases B;rw[D.eq.eq_def];obtain⟨_,_,P,_⟩:=I.list Z;exact .none_list P.isList h
 |bl x1=>
  cases Q;cases id R with
  |non => cases B;rw[D.eq.eq_def];exact .bool_none _
  |bl q=>cases B;rw[D.eq.eq_def];exact .bool_bool _ _
  |int q=>obtain⟨_,rfl⟩:=B;rw[D.eq.eq_def];exact .bool_int _ _ _
  |str q=>obtain⟨_,rfl⟩:=B;rw[D.eq.eq_def];exact .bool_str _ _ _
  |@tup b ys es Z T=>cases B;rw[D.eq.eq_def];obtain⟨_,_,P,_⟩:=I.tuple Z;exact .bool_tuple _ P h
  |@lst b ys es Z T=>cases B;rw[D.eq.eq_def];obtain⟨_,_,P,_⟩:=I.list Z;exact .bool_list _ P.isList h
 |int x1=>
  obtain⟨_,rfl⟩:=Q;cases id R with
  |non => cases B;rw[D.eq.eq_def];exact .int_none _ _
  |bl q=>cases B;rw[D.eq.eq_def];exact .int_bool _ _ _
  |int q=>obtain⟨_,rfl⟩:=B;rw[D.eq.eq_def];exact .int_int _ _ _ _
  |str q=>obtain⟨_,rfl⟩:=B;rw[D.eq.eq_def];exact .int_str _ _ _ _
  |@tup b ys es Z T=>cases B;rw[D.eq.eq_def];obtain⟨_,_,P,_⟩:=I.tuple Z;exact .int_tuple _ _ P h
  |@lst b ys es Z T=>cases B;rw[D.eq.eq_def];obtain⟨_,_,P,_⟩:=I.list Z;exact .int_list _ _ P.isList h
 |str x1=>
  obtain⟨_,rfl⟩:=Q;cases id R with
  |non => cases B;rw[D.eq.eq_def];exact .str_none _ _
  |bl q=>cases B;rw[D.eq.eq_def];exact .str_bool _ _ _
  |int q=>obtain⟨_,rfl⟩:=B;rw[D.eq.eq_def];exact .str_int _ _ _ _
  |str q=>obtain⟨_,rfl⟩:=B;rw[D.eq.eq_def];exact .str_str _ _ _ _
  |@tup b ys es Z T=>cases B;rw[D.eq.eq_def];obtain⟨_,_,P,_⟩:=I.tuple Z;exact .str_tuple _ _ P h
  |@lst b ys es Z T=>cases B;rw[D.eq.eq_def];obtain⟨_,_,P,_⟩:=I.list Z;exact .str_list _ _ P.isList h
 |@tup a xs ds ea r=>
  cases Q;obtain⟨us,G,p,_⟩:=I.tuple ea;cases id R with
  |non => cases B;rw[D.eq.eq_def];exact .tuple_none p h
  |bl q=>cases B;rw[D.eq.eq_def];exact .tuple_bool _ p h
  |int q=>obtain⟨_,rfl⟩:=B;rw[D.eq.eq_def];exact .tuple_int _ _ p h
  |str q=>obtain⟨_,rfl⟩:=B;rw[D.eq.eq_def];exact .tuple_str _ _ p h
  |@tup b ys es Z T=>
   cases B;obtain⟨vs,N,P,_⟩:=I.tuple Z;rw[D.depth] at hn;obtain⟨n,rfl⟩:∃m,n=m+1:=⟨n-1,by lia⟩
   rw[D.eq.eq_def];simp only[];rw[D.gy];have l1:us.toArray.size=ds.length:=by rw[Q0,<-G.length,r.len]
   have U:vs.toArray.size=es.length:=by rw[Q0,<-N.length,T.len]
   rw[<-l1,<-U];exact .tuples p P h (kA I (hJ I n) f (by lia) r T G N)
  |@lst b ys es Z T=>cases B;rw[D.eq.eq_def];obtain⟨_,_,P,_⟩:=I.list Z;exact .tuple_list p P.isList h
 |@lst a xs ds ea r=>
  cases Q;obtain⟨us,G,p,_⟩:=I.list ea;cases id R with
  |non => cases B;rw[D.eq.eq_def];exact .list_none p.isList h
  |bl q=>cases B;rw[D.eq.eq_def];exact .list_bool _ p.isList h
  |int q=>obtain⟨_,rfl⟩:=B;rw[D.eq.eq_def];exact .list_int _ _ p.isList h
  |str q=>obtain⟨_,rfl⟩:=B;rw[D.eq.eq_def];exact .list_str _ _ p.isList h
  |@tup b ys es Z T=>cases B;rw[D.eq.eq_def];obtain⟨_,_,P,_⟩:=I.tuple Z;exact .list_tuple p.isList P h
  |@lst b ys es Z T=>
   cases B;obtain⟨vs,N,P,_⟩:=I.list Z;rw[D.depth] at hn;obtain⟨n,rfl⟩:∃m,n=m+1:=⟨n-1,by lia⟩
   rw[D.eq.eq_def];simp only[];rw[D.gy];have l1:us.toArray.size=ds.length:=by rw[Q0,<-G.length,r.len]
   have U:vs.toArray.size=es.length:=by rw[Q0,<-N.length,T.len]
   rw[<-l1,<-U];by_cases hl:us.toArray.size=vs.toArray.size
   .have F:(us.toArray.size==vs.toArray.size)=true:=beq_iff_eq.mpr hl;rw[F,Uq,<-hl,Vu];exact .lists p.isList P.isList hl h (kA I (hJ I n) f (by lia) r T G N)
   .have F:(us.toArray.size==vs.toArray.size)=false:=beq_eq_false_iff_ne.mpr hl;rw[F,Tn];exact .lists_lengths p.isList P.isList (by simpa using hl) h
def MC(K:QU):R2:=λx y H Q=>∃d e,Den K H x d/\Den K H y e/\D.depth d<=40/\Q (.bl (D.eq d e)) H
def MP(K:QU):R2:=λx y H Q=>∃d e,Den K H x d/\Den K H y e/\D.depth d<=40/\Q (.bl (!D.eq d e)) H
theorem Al(f:X.A.units+64<cLine):d0 X (compareOp .Eq) (MC X.K):=by intro pins s Y H x y v u Q I o b h;obtain⟨d,e,hd,p,dp,q⟩:=h;exact yI I (n:=64) f (by lia) hd p o b _ _ _ _ ⟨.bl _,H,I,rfl,q⟩
theorem Ah(f:X.A.units+64<cLine):d0 X (compareOp .NotEq) (MP X.K):=by intro pins s Y H x y v u Q I o b h;obtain⟨d,e,hd,p,dp,q⟩:=h;exact uf I (n:=64) f (by lia) hd p o b _ _ _ _ ⟨.bl _,H,I,rfl,q⟩
inductive E2(K:QU)(H:Hp):V->Value->Prop where
 |of{v:V}{t:Value}(h:lK K H v t):E2 K H v t
 |tup{a:Addr}{xs:List V}(e:gv K H a xs):E2 K H (.ref a) (.type "tuple")
 |lst{a:Addr}{xs:List V}(e:gu K H a xs):E2 K H (.ref a) (.type "list")
 |exc{a C:Addr}(e:H a=some (Ha a C))(c:nG K C):E2 K H (.ref a) (.ref C)
 |dic{a:Addr}{kvs:List (Key×V)}(e:Rd H a (.dK kvs)):E2 K H (.ref a) (.type "dict")
noncomputable def Dr:V->Value
 | .ref a=>.ref a
 | .ty n=>.type n
 |_=>.none
noncomputable def u3:V->Bool
 | .ref _=>true
 | .ty _=>true
 |_=>false
theorem C0{x:V}(h:u3 x=true)(r:RelV x u):u=Dr x:=by cases x<;>first|exact r|cases h
theorem uI{pins:List (Addr×Obj)}{x:V}{t:Value}(I:Inv X pins Y H s)(A:RelV x u)(ty:E2 X.K H x t):∃P,PySem.W.KitX X.K u t P/\P s.heap/\u≠.builtin "__main__.__loader__#opaque" := by
 cases ty with
 |tup e=>cases A;obtain⟨_,_,⟨o,h1,h2,_⟩,_⟩:=I.tuple e;exact⟨_,Vv,⟨o,h1,h2⟩,λz=>nomatch z⟩
 |lst e=>cases A;obtain⟨_,_,⟨o,_,h1,h2,_⟩,_⟩:=I.list e;exact⟨_,Ur,⟨o,h1,h2⟩,λz=>nomatch z⟩
 |dic e=>cases A;obtain⟨_,_,vs,_,o,es,ep,h1,h2,_⟩:=gh I.hok e;exact⟨_,Us,⟨o,h1,h2.1⟩,λz=>nomatch z⟩
 |exc e c=>
  cases A;obtain⟨p,_⟩:=(show cb X.prog X.w H s.heap _ (Ha _ _) from I.hok _ _ e)
  exact⟨_,BV c,p,λz=>nomatch z⟩
 |of h=>
  cases h with
  |non=>cases A;exact⟨_,PySem.W.kitx_none,trivial,λz=>nomatch z⟩
  |bl y=>cases A;exact⟨_,PySem.W.kitx_bool,trivial,λz=>nomatch z⟩
  |int i=>obtain⟨_,rfl⟩:=A;exact⟨_,PySem.W.kitx_int,trivial,λz=>nomatch z⟩
  |str i=>obtain⟨_,rfl⟩:=A;exact⟨_,PySem.W.kitx_str,trivial,λz=>nomatch z⟩
  |flt i=>obtain⟨_,rfl⟩:=A;exact⟨_,PySem.W.kitx_float,trivial,λz=>nomatch z⟩
  |@lst a xs ea=>
   cases A;obtain⟨_,_,n,_,h1⟩:=(show cb X.prog X.w H s.heap a (.lst xs) from I.hok a _ ea)
   exact⟨_,Ur,⟨_,h1,rfl⟩,λz=>nomatch z⟩
  |@frz a ob xs ea=>
   cases A;obtain⟨_,_,_,n,_,h1⟩:=(show cb X.prog X.w H s.heap a (.frz ob (.lst xs)) from I.hok a _ ea)
   exact⟨_,Ur,⟨_,h1,rfl⟩,λz=>nomatch z⟩
  |@tup a xs ea=>
   cases A;obtain⟨_,_,_,o,h1,h2,_⟩:=(show cb X.prog X.w H s.heap a (.tup xs) from I.hok a _ ea)
   exact⟨_,Vv,⟨o,h1,h2⟩,λz=>nomatch z⟩
  |@dK a kvs ea=>
   cases A;obtain⟨_,_,vs,_,o,es,ep,h1,h2,_⟩:=(show cb X.prog X.w H s.heap a (.dK kvs) from I.hok a _ ea)
   exact⟨_,Us,⟨o,h1,h2.1⟩,λz=>nomatch z⟩
  |@dT a kvs ea=>
   cases A;obtain⟨_,_,xs,_,o,es,ep,h1,h2,_⟩:=(show cb X.prog X.w H s.heap a (.dT kvs) from I.hok a _ ea)
   exact⟨_,Us,⟨o,h1,h2.1⟩,λz=>nomatch z⟩
  |@ins a C dx fs ea cl ha hn htk hm=>cases A;obtain⟨mA,O,_⟩:=l4 I.hok ea;obtain⟨od,J,_⟩:=O.look;exact⟨_,PySem.W.kitx_own (cl.get _) cl.hd ha hn htk hm,J,λz=>nomatch z⟩
theorem zO:cx X (.builtin "isinstance") (λxs H Q=>∃x c t b,xs=[x,c]/\E2 X.K H x t/\u3 c=true/\R4 X.K t (Dr c)=some b/\Q (.bl b) H):=by intro pins s Y H xs us Q I r h;obtain⟨x,c,t,b,rfl,ty,hc,hk,q⟩:=h;obtain⟨u,n,rfl,S,R⟩:=vals2 r;rw[C0 hc R];obtain⟨P,Z,p,nb⟩:=uI I S ty;exact PySem.W.kia_one Z I.sS p hk nb λtk=>⟨.bl b,H,I.tok tk,rfl,q⟩
end
theorem Ku:bootBuiltins "len" = some (.builtin "len"):=by decide +kernel
theorem oh:bootBuiltins "isinstance" = some (.builtin "isinstance"):=by decide +kernel
theorem J5:bootBuiltins "abs" = some (.builtin "abs"):=by decide +kernel
theorem Je:bootBuiltins "max" = some (.builtin "max"):=by decide +kernel
theorem KL:bootBuiltins "min" = some (.builtin "min"):=by decide +kernel
theorem wD:bootBuiltins "sorted" = some (.builtin "sorted"):=by decide +kernel
theorem zt:bootBuiltins "all" = some (.builtin "all"):=by decide +kernel
theorem Ao:bootBuiltins "int" = some (.type "int"):=by decide +kernel
theorem Fj:bootBuiltins "bool" = some (.type "bool"):=by decide +kernel
theorem JL:bootBuiltins "str" = some (.type "str"):=by decide +kernel
theorem rF:bootBuiltins "tuple" = some (.type "tuple"):=by decide +kernel
theorem vQ:bootBuiltins "list" = some (.type "list"):=by decide +kernel
theorem vF:bootBuiltins "dict" = some (.type "dict"):=by decide +kernel
structure qx(K:QU)(x qual:Str)(st:Stmt)(f:Addr)(fd:FuncData)(dV:Value):Prop where
 ex:∃(oc:Value)(od:Option Addr)(kV doc pm:Value)(an:Option Addr)(cdv ct:Value)(osl:Array (Option Value)),
  fd=Um x qual (dO st) (fJ st) (bu st) dV kV doc pm an cdv ct/\K.lookup f=some ⟨oc,od,.func fd,osl⟩/\TZ K cdv qual=true
 kp:R8 K (.ref f)=true
@[irreducible] def QS (X:Cx) (s:Stmt) (t:TS):Prop:=PS X s t
@[irreducible] def QT (X:Cx) (s:Expr) (t:TT):Prop:=PT X s t
@[irreducible] def QA (X:Cx) (s:List Expr) (t:TA):Prop:=PA X s t
set_option autoImplicit true
set_option relaxedAutoImplicit true
variable{elt:Expr}{scope:Scope}{pos:Pos}{env:Env}
section
variable{prog:Program}{w:World}{A:Around}{R:Result->Shared->Prop}{s:Shared}
theorem qf{X iter:Expr}{ifs:List Expr}{it acc:Value}(I:Nat->Shared->Prop)
  (J:∀n s,I n s->wpAny (model prog w) A (pyNext it) (λr Z=>match r with
   |none=>R (.ok .next) Z
   | some v=>wpAny (model prog w) A (letOwnedTupleGo X it v) (λ_ H=>wpAny (model prog w) A (assign X env v) (λ_ U=>
     wpAny (model prog w) A (forIn ifs true λc r=>if r=true then do let ok <- isTrue c env (eval c env);pure (SE ok) else pure (SE r)) (λok P=>
      if ok=true then wpAny (model prog w) A (eval elt env) (λx Y=>wpAny (model prog w) A (call (.builtin "list.append") [acc,x]) (λ_ a=>∃m,m<n/\I m a) (λ_ _=>False) Y) (λ_ _=>False) P
      else ∃m,m<n/\I m P) (λ_ _=>False) U) (λ_ _=>False) H) (λ_ _=>False) Z) (λ_ _=>False) s)
  (n:Nat) (h:I n s):codeAny (model prog w) A (.compLoop (.ListComp elt [⟨X,iter,ifs,0⟩] scope pos) 0 it acc env) R s:=by
 refine codeAny_loop rfl I (λn s E=>?_) n h;show wpAny _ A ((compTurn (.ListComp elt [⟨X,iter,ifs,0⟩] scope pos) 0 it acc env).onRaise (λx=>do noteFrame x env;theTreesLotGoes x)) _ _ s;refine wpAny_noted ?_;rw[compTurn_list];refine wpAny_bind (wpAny_standAt (wpAny_bind (wpAny_mono (J n s E) (λr Z O=>?_) λ_ _ h'=>h'.elim)));cases r with
 |none=>exact wpAny_pure O
 |some v=>
  refine wpAny_bind (wpAny_mono O (λ_ H V=>?_) λ_ _ h'=>h'.elim);refine wpAny_bind (wpAny_mono V (λ_ U k=>wpAny_bind (wpAny_mono k (λok P u=>?_) λ_ _ h'=>h'.elim)) λ_ _ h'=>h'.elim);cases ok with
  |false=>exact wpAny_pure ⟨rfl,u⟩
  |true=>exact wpAny_bind (wpAny_bind (wpAny_mono u (λx Y t=>wpAny_bind (wpAny_mono t (λ_ a C=>wpAny_pure (wpAny_pure ⟨rfl,C⟩)) λ_ _ h'=>h'.elim)) λ_ _ h'=>h'.elim))
end
theorem nV{env:Env}{f:Str×NameKind->List (Str×Addr)->Sem (ForInStep (List (Str×Addr)))}
  (hf:∀x cs,f x cs=if (x.2==SF)=true then (do let c <- cellOf env x.1;pure (SE ((x.1,c)::cs))) else pure (SE cs)):
  ∀(l:List (Str×NameKind))(cs:List (Str×Addr)),(∀x∈l,x.2=.free->∃c,env.cells.lookup x.1=some c)->
   ∃cl,forIn l cs f=(pure cl:Sem _)/\(∀x c,cl.lookup x=some c->cs.lookup x=some c\/env.cells.lookup x=some c) /\
    (∀x,(∃c,cs.lookup x=some c)\/(x,SF)∈l->∃c,cl.lookup x=some c)
 |[],cs,_=>⟨cs,rfl,λ_ _ h=>.inl h,λx h=>h.elim id (λz=>by cases z)⟩
 |(n,k)::l,cs,h=>by
  rw[Wa,hf];by_cases hk:k=.free
  .subst hk;obtain⟨c,hc⟩:=h (n,.free) Rb rfl;obtain⟨cl,e,h1,h2⟩:=nV hf l ((n,c)::cs) λx w=>h x (Q4 _ w);refine⟨cl,?_,λx v q=>?_,λx q=>h2 x ?_⟩
   .have F:cellOf env n=pure c:=by unfold cellOf;rw[hc]
    simp only[beq_self_eq_true,if_true,F,pure_bind];exact e
   .rcases h1 x v q with z|z
    .rw[Rk] at z;by_cases w:(x==n)=true
     .rw[w] at z;have:x=n:=eq_of_beq w;subst this;exact .inr (by rw[hc];exact z)
     .rw[VW.mpr w] at z;exact .inl z
    .exact .inr z
   .rcases q with ⟨v,z⟩|z
    .left;rw[Rk];cases x==n with
     |true=>exact⟨c,rfl⟩
     |false=>exact⟨v,z⟩
    .rcases Ra.mp z with z|z
     .left;cases z;rw[Rk,beq_self_eq_true];exact⟨c,rfl⟩
     .exact .inr z
  .obtain⟨cl,e,h1,h2⟩:=nV hf l cs λx w=>h x (Q4 _ w);refine⟨cl,?_,h1,λx q=>h2 x ?_⟩
   .have F:((n,k).2==SF)=false:=by cases k<;>first|rfl|exact absurd rfl hk
    rw[F];simp only[Bool.false_eq_true,if_false,pure_bind];exact e
   .rcases q with z|z
    .exact .inl z
    .rcases Ra.mp z with z|z
     .cases z;exact absurd rfl hk
     .exact .inr z
theorem tH(h:∀x∈scope.names,x.2=.free->∃c,env.cells.lookup x.1=some c):
  ∃cl,closureFor scope env=pure cl/\(∀x c,cl.lookup x=some c->env.cells.lookup x=some c)/\(∀x,(x,SF)∈scope.names->∃c,cl.lookup x=some c):=by
 obtain⟨cl,e,h1,h2⟩:=nV (env:=env) (λ_ _=>rfl) scope.names [] h;refine⟨cl,?_,λx c q=>(h1 x c q).elim (λz=>by cases z) id,λx q=>h2 x (.inr q)⟩;unfold closureFor;exact(congrArg (λz:Sem (List (Str×Addr))=>z >>= λr=>pure r) e).trans (by rw[pure_bind])
section
variable{env:Env}
noncomputable def rW(env:Env):Str×NameKind->Str×NameKind:=λ(n,k)=>if (k==.free&&env.scope.kind==.function&&env.kindOf n==some .cell) then (n,.cell) else (n,k)
theorem r9(p:Str×NameKind):(rW env p).1=p.1:=by obtain⟨n,k⟩:=p;show (if _ then _ else _:Str×NameKind).1=n;split<;>rfl
theorem rE(p:Str×NameKind):(rW env p).2=p.2\/(p.2=.free/\(rW env p).2=.cell):=by
 obtain⟨n,k⟩:=p;show (if _ then _ else _:Str×NameKind).2=k\/_;split
 .rename_i h;right;rw[QR,QR] at h;refine⟨eq_of_beq h.1.1,?_⟩;show (if _ then _ else _:Str×NameKind).2=_;rw[if_pos (by rw[QR,QR];exact h)]
 .left;rfl
theorem fK:∀{names:List (Str×NameKind)}{x:Str}{k:NameKind},names.lookup x=some k->(names.map (rW env)).lookup x=some k\/(k=.free/\(names.map (rW env)).lookup x=some .cell)
 |[],_,_,h=>by cases h
 |p::r,x,k,h=>by
  rw[Ri];obtain⟨n,s⟩:=p;have F:=r9 (env:=env) (n,s);have j:=rE (env:=env) (n,s);generalize rW env (n,s)=q at F j ⊢;obtain⟨w,X⟩:=q;have F:w=n:=F;subst F;rw[Rk] at h ⊢;cases A:x==w with
  |true=>
   rw[A] at h;cases h;rcases j with j|⟨j,Q⟩
   .left;exact congrArg some j
   .right;exact⟨j,congrArg some Q⟩
  |false=>rw[A] at h;exact fK h
theorem cL:∀{names:List (Str×NameKind)}{x:Str}{k:NameKind},(names.map (rW env)).lookup x=some k->names.lookup x=some k\/(k=.cell/\names.lookup x=some .free)
 |[],_,_,h=>by cases h
 |p::r,x,k,h=>by
  rw[Ri] at h;obtain⟨n,s⟩:=p;have F:=r9 (env:=env) (n,s);have j:=rE (env:=env) (n,s);generalize rW env (n,s)=q at F j h;obtain⟨w,X⟩:=q;have F:w=n:=F;subst F;rw[Rk] at h ⊢;cases A:x==w with
  |true=>
   rw[A] at h;cases h;rcases j with j|⟨j,Q⟩
   .left;exact congrArg some j.symm
   .right;exact⟨Q,congrArg some j⟩
  |false=>rw[A] at h;exact cL h
theorem iX{sc:Scope}{x:Str}(h:sc.names.lookup x=some .local):(relabel sc env).names.lookup x=some .local:=by
 rcases fK (env:=env) h with z|⟨z,_⟩
 .exact z
 .cases z
theorem zb{sc:Scope}{x:Str}(h:sc.names.lookup x=some .globalImplicit):(relabel sc env).names.lookup x=some .globalImplicit:=by
 rcases fK (env:=env) h with z|⟨z,_⟩
 .exact z
 .cases z
theorem rQ{sc:Scope}{x:Str}(h:sc.names.lookup x=some .free):nY (relabel sc env) x:=by
 rcases fK (env:=env) h with z|⟨_,z⟩
 .exact .inr (.inr z)
 .exact .inr (.inl z)
end
structure fP(N0 N:List Str)(k:Nat)(sc de:Scope):Prop where
 kind:sc.kind=.function
 cell:∀y∈sc.names,y.2≠.cell
 names:∀y∈sc.names,y.2=.local->sc.names.lookup y.1=some .local
 len:N.length=N0.length+k
 nd:N.Nodup
 old:∀p∈(N.take N0.length).zip N0,p.1=p.2\/sc.names.lookup p.1=none
 nl:∀n∈N.take N0.length,sc.names.lookup n≠some .local
 fr:∀y∈sc.names,y.2=.free->de.names.lookup y.1=some .cell\/de.names.lookup y.1=some .free
noncomputable def iT(X:Cx)(N:List Str)(sc:Scope)(cl:List (Str×Addr))(C:Addr)(s:Shared)(H:Hp)(ex:List Addr):Cx where
 prog:=X.prog
 w:=X.w
 K:=X.K
 mg:=X.mg
 base:=X.base
 A:=X.A
 N:=N
 s₀:=s
 H₀:=H
 env:=compEnvC sc cl C X.env
 outer:=X.stack
 stack:=X.stack
 ex:=ex
 fn:=λ_=>false
 calm:=X.calm
 pn:=[]
 xe:=λ_ _=>False
theorem mem_of_lookupK{names:List (Str×NameKind)}{x:Str}{k:NameKind}(h:names.lookup x=some k):(x,k)∈names:=Si h
variable{Z0:St}
section
variable{X:Cx}{pins:List (Addr×Obj)}{Y:St}{H:Hp}{s:Shared}{N:List Str}{k:Nat}{sc:Scope}{cl:List (Str×Addr)}{C:Addr}{fp:List Addr}{h1:Heap}{tk:Nat}
theorem yw(I:Inv X pins Y H s)(S:fP X.N N k sc X.env.scope)(V:∀x c,cl.lookup x=some c->X.env.cells.lookup x=some c)
  (q:∀x,(x,SF)∈sc.names->∃c,cl.lookup x=some c)(T:s.heap.objs.size<=C)(hf:∀b∈fp,mU X pins H b)(U:∀b∈fp,b<s.heap.objs.size)
  (hk:∀b o,s.heap.get? b=some o->h1.get? b=some o)(hn:∃m,h1.Ns C m):
  Inv (iT X N sc cl C s H fp) (X.pn++pins) (Y++Rl k none) H { s with heap:=h1,toks:=tk }:=by
 have t:∀b o,s.heap.get? b=some o->b≠C:=λb o e=>Ru (Q7 (Rh e) T);have kind:∀x,((iT X N sc cl C s H fp).env.kindOf x=some .cell\/(iT X N sc cl C s H fp).env.kindOf x=some .free)->sc.names.lookup x=some .free:=λx w=>by
  rcases w with w|w
  .rcases cL (env:=X.env) w with z|⟨_,z⟩
   .exact absurd rfl (S.cell _ (mem_of_lookupK z))
   .exact z
  .rcases cL (env:=X.env) w with z|⟨z,_⟩
   .exact z
   .cases z
 refine⟨⟨I.ok.mod,S.kind,I.ok.glob,I.ok.blt,T,λx y c h1 h2=>I.ok.inj x y c (V _ _ h1) (V _ _ h2),λx w=>q x (mem_of_lookupK (kind x w)),λx c z _=>absurd (show false=true from z) RE,
  I.ok.hd,I.ok.frames,.inl rfl,λb G=>⟨Ru (Q7 (U b G) T),λx c e=>(hf b G).2.2.2.2.1 x c (V _ _ e)⟩,I.bs,Rm I.ok.bsz I.sz,λb o e G=>?_,λb G R=>?_,I.stack,I.vc⟩,
  rfl,I.bare,Un.kept hk,?_,λx c e=>?_,I.hok.fresh T,λx c e=>I.freeC x c (V _ _ e),λp hp=>?_,I.hok.kept hk,?_⟩
 .rcases(hf b G).2.2.2.1 with z|z
  .exact I.ok.noex b o e z
  .exact absurd (Q7 (Rh e) (Rm I.ok.bsz z)) (RQ _)
 .rcases Ra.mp (I.kI b R) with z|z
  .exact(hf b G).2.1 z
  .exact(hf b G).2.2.1 z
 .obtain⟨m,hn⟩:=hn;refine⟨m,hn,λi x v B j Q=>?_⟩;have hi:i<Y.length:=by
   by_cases hi:i<Y.length
   .exact hi
   .rw[Rx (by lia),Vl] at j;split at j<;>cases j
  rw[RF hi] at j;have E:i<X.N.length:=by rw[<-I.len];exact hi
  have J:(N.take X.N.length)[i]?=some x:=by rw[Tv E];exact B
  have O:=S.nl x (Rt J);have a:sc.names.lookup x=some .free:=by
   rcases Q with z|z|z
   .rcases cL (env:=X.env) z with z|⟨z,_⟩
    .exact absurd z O
    .cases z
   .exact kind x (.inl z)
   .exact kind x (.inr z)
  have D:X.N[i]?=some x:=by
   have hz:((N.take X.N.length).zip X.N)[i]?=some (x,X.N[i]):=by rw[List.getElem?_zip_eq_some];exact⟨J,Rg E⟩
   rcases S.old _ (Rt hz) with z|z
   .have z:x=X.N[i]:=z;rw[Rg E,<-z]
   .have z:sc.names.lookup x=none:=z;rw[a] at z;cases z
  obtain⟨K,Z,L⟩:=I.loc;have A:nY X.env.scope x:=by
   rcases S.fr _ (mem_of_lookupK a) rfl with z|z
   .exact .inr (.inl z)
   .exact .inr (.inr z)
  obtain⟨u,r,l⟩:=L i x v D j A;refine⟨u,r,.inr ⟨?_,?_⟩⟩
  .rcases rQ (env:=X.env) a with z|z|z
   .rcases cL (env:=X.env) z with z|⟨z,_⟩
    .rw[a] at z;cases z
    .cases z
   .exact .inl z
   .exact .inr z
  .rcases l with ⟨z,_⟩|⟨_,c,f,g⟩
   .have z:X.env.scope.names.lookup x = some .local:=z;rcases S.fr _ (mem_of_lookupK a) rfl with h | h
    .have h:X.env.scope.names.lookup x = some .cell:=h;rw [z] at h; cases h
    .have h:X.env.scope.names.lookup x=some .free:=h;rw[z] at h;cases h
   .obtain⟨c',P⟩:=q x (mem_of_lookupK a);have:=V _ _ P;rw[f] at this;cases this;obtain⟨o,F,hd⟩:=g;exact⟨c,P,o,hk _ _ F,hd⟩
 .obtain⟨v,o,F,hd⟩:=I.cell x c (V _ _ e);exact⟨v,o,hk _ _ F,hd⟩
 .have hp:p∈X.pn++pins:=hp;obtain⟨e,n,ne,nf,d⟩:=I.pin p hp;refine⟨hk _ _ e,n,t _ _ e,λG=>?_,d⟩;rcases Ra.mp (I.kI _ G) with z|z
  .exact ne z
  .exact nf z
 .show (Y++Rl k none).length=N.length;rw[Rc,Vs,I.len,S.len]
theorem xX{H':Hp}{s':Shared}{D:Addr}{its:List Value}(I:Inv X pins Y H s)(r:Inv (iT X N sc cl C s H fp) (X.pn++pins) Z0 H' s')(U:s.heap.objs.size<=D)(a:H' D=none)
  (pl:s'.heap.PlainList D its.toArray)(B:Vals ys its)(hl:ys.length<=sizeLine)(hf:∀b∈fp,mU X pins H b):Inv X pins Y (upd H' D (.lst ys)) s':=by
 obtain⟨n,J⟩:=pl;have u:=r.base;have ne:∀b o,s.heap.get? b=some o->b≠D:=λb o e=>Ru (Q7 (Rh e) U);have x:∀b o,H' b=some o->b≠D:=λb o e=>aS e a;refine I.Lx r.os ⟨u.keep,u.slot,λb o e n nx=>?_,u.there,λb xs e=>?_,λb o v e=>?_,λb ps e=>?_⟩ (λb o e=>?_) r.bare (ch:=fp) λb d=>?_
 .rw[aF (ne b o e)];exact u.free b o e n nx
 .have:=u.tups b xs e;rw[aF (x _ _ this)];exact this
 .have:=u.frzs b o v e;rw[aF (x _ _ this)];exact this
 .obtain⟨more,this⟩:=u.tbls b ps e;exact⟨more,by rw[aF (x _ _ this)];exact this⟩
 .by_cases d:b=D
  .subst d;rw[bW] at e;cases e;exact⟨hl,its,n,B,J⟩
  .rw[aF d] at e;exact(r.hok b o e).hZ (λ_ _ _ q=>q) (λc q=>by rw[aF (x _ _ q)];exact q) λc xs q=>by rw[aF (x _ _ q)];exact q
 .obtain⟨y,F,R,k,L,O⟩:=hf b d;exact⟨k,F,L,O⟩
end
variable{X:Cx}{pins:List (Addr×Obj)}{Y:St}{s:Shared}
theorem Inv.ua(I:Inv X pins Y H s){a:Addr}(h:s.heap.objs.size<=a):a∉lR X.stack:=λd=>by
 rcases Ra.mp (I.kI a d) with z|z
 .exact absurd (Q7 I.lt (by rw[<-z];exact h)) (RQ _)
 .exact I.Ll h z
def PF(X:Cx)(ifs:List Expr)(t:TT):Prop:=∀(pins:List (Addr×Obj))(s:Shared)(Y:St)(H:Hp)(Q:Bool->Hp->Prop),Inv X pins Y H s->t Y H Q->
 wpAny (model X.prog X.w) X.A (forIn ifs true λc r=>if r=true then do let ok <- isTrue c X.env (eval c X.env);pure (SE ok) else pure (SE r)) (TP X pins Y Q) X.xe s
noncomputable def NQ:TT:=λ_ H Q=>Q true H
theorem HC:PF X [] NQ:=λ_ _ _ H _ I h=>wpAny_tests_nil ⟨H,I,h⟩
theorem Kr{c:Expr}{t:TT}(hc:PT X c t):PF X [c] t:=λpins s Y H Q I h=>wpAny_tests_one (hc pins s Y H Q I h)
def zG(J:It)(g:TG)(tt:TT)(s:TE)(Q:VK)(Y:St)(H:Hp):Prop:=∃W:Nat->Nat->St->List V->Hp->Prop,(∃m,W 0 m Y [] H)/\∀i m Y ys H,W i m Y ys H->ys.length<=sizeLine /\
  ((J.stop i H/\∀r,H r=none->Q (.ref r) (upd H r (.lst ys))) \/
   (J.go i H/\∃N:St->List V->Hp->Prop,(∀Z0 n H',N Z0 n H'->∃U,U<m/\W (i+1) U Z0 n H') /\
     ∀x H',J.yld i H x H'->g x Y H' λR c=>tt R c λb D=>if b=true then s R D λy v=>N R (ys++[y]) v else N R ys D))
noncomputable def vt(n:Nat)(I:TI)(g:TG)(tt:TT)(s:TE):TE:=λY H Q=>I Y H λJ e=>zG J g tt s Q (Y++Rl n none) e
section
variable{X:Cx}{pins:List (Addr×Obj)}{Y:St}{H:Hp}{s:Shared}{N:List Str}{k:Nat}{sc:Scope}{cl:List (Str×Addr)}{C:Addr}{fp:List Addr}{J:It}{it:Addr}{tn:Nat->Heap->Prop}
 {tg elt iter:Expr} {ifs:List Expr} {pos:Pos} {g:TG} {tt:TT} {te:TE} {Q:VK} {E:Value->Shared->Prop} {RR:Value->Addr->Result->Shared->Prop}
theorem l7(hc:X.calm=true)(S:fP X.N N k sc X.env.scope)(L:∀x c,cl.lookup x=some c->X.env.cells.lookup x=some c)
  (hcl2:∀x,(x,SF)∈sc.names->∃c,cl.lookup x=some c)(I:Inv X pins Y H s)(T:Turn X.prog X.w X.K tg J fp it tn)(st:tn 0 s.heap)(hf:∀b∈fp,mU X pins H b)
  (B:zG J g tt te Q (Y++Rl k none) H)
  (hg:∀C,PG (iT X N sc cl C s H fp) tg g)(ht:∀C,PF (iT X N sc cl C s H fp) ifs tt)(he:∀C,PE (iT X N sc cl C s H fp) elt te)
  (hRR:∀D C s' H' ys,Inv X pins Y (upd H' D (.lst ys)) s'->s.heap.objs.size<=C->upd H' D (.lst ys) C=none->(∃m,s'.heap.Ns C m)->Q (.ref D) (upd H' D (.lst ys))->RR (.ref D) C (.ok .next) s'):
  wpAny (model X.prog X.w) X.A (newList []) (λacc P=>wpAny (model X.prog X.w) X.A (newFunctionEnv sc X.env.globals cl [] X.env.qual none .none (some X.env)) (λl s₄=>codeAny (model X.prog X.w) X.A (.compStart (.ListComp elt [⟨tg,iter,ifs,0⟩] sc pos) 0 (.ref it) acc { l with scope:=relabel sc X.env }) (RR acc l.locals) s₄) E P) E s:=by
 refine wpAny_newObj_type (wpAny_newFunctionEnv S.cell (by intro y hy;simp at hy) (λO U Z=>?_) S.kind);dsimp only at U Z ⊢;generalize hH2:s.heap.push { cls:=.type "list",dict:=none,data:=.seq ([]:List Value).toArray }=H2 at U Z ⊢;have hC:H2.objs.size=s.heap.objs.size+1:=by rw[<-hH2,UZ]
 have t:s.heap.objs.size≠H2.objs.size:=by rw[hC];exact Ru (TH _)
 have h:s.heap.objs.size<=H2.objs.size:=by rw[hC];exact Tu _
 have below:∀b,b<s.heap.objs.size->b≠H2.objs.size/\b≠s.heap.objs.size:=λb G=>⟨by rw[hC];exact Ru (UK G),Ru G⟩
 have old:∀b o,s.heap.get? b=some o->O.get? b=some o:=λb o e=>Z.extBut b o (below b (Rh e)).1 (Q3 _ (hH2▸Q3 _ e));have hacc:O.PlainList s.heap.objs.size #[]:=⟨_,Z.extBut _ _ t (Q3 _ (hH2▸Ro _ rfl))⟩
 have F:∀b∈fp,b<s.heap.objs.size:=λb G=>let ⟨o,e,_⟩:=T.obj 0 _ st b G;Rh e
 have st1:tn 0 O:=T.keep _ _ _ st λb G o e=>old b o e;have I0:=yw (tk:=s.toks+([]:List (Str×Value)).length) I S L hcl2 h hf F old ⟨_,U⟩;generalize H2.objs.size=C at U Z hC t h below I0 ⊢;generalize hD:s.heap.objs.size=D at hC t h below hacc F ⊢;have a:s.heap.objs.size<=D:=by rw[hD];exact Rf _
 have f:∀{H':Hp}{o:Obj},(∀b∈fp,H' b=none)->∀b∈fp,mU (iT X N sc cl C s H fp) ((X.pn++pins)++[(D,o)]) H' b:=λ{H' o} hn b G=>by
  obtain⟨f0,f1,f2,f3,f4,f5⟩:=hf b G;refine⟨hn b G,(below b (F b G)).1,λz=>?_,.inl G,λx c e=>f4 x c (L _ _ e),λp hp=>?_⟩
  .rcases Ra.mp (I.kI b z) with z|z
   .exact f1 z
   .exact f2 z
  .have hp:p∈(X.pn++pins)++[(D,o)]:=hp;rcases QW.mp hp with z|z
   .exact f5 p z
   .have:p=(D,o):=by simpa using z
    rw[this];exact Sd (below b (F b G)).2
 have loop:∀P:Shared,P={ s with heap:=O,toks:=s.toks+([]:List (Str×Value)).length }->
   codeAny (model X.prog X.w) X.A (.compLoop (.ListComp elt [⟨tg,iter,ifs,0⟩] sc pos) 0 (.ref it) (.ref D) (compEnvC sc cl C X.env)) (RR (.ref D) C) P:=by
  rintro P rfl;obtain⟨W,⟨m0,w0⟩,step⟩:=B;refine qf (λn s'=>∃i Z0 H' ys its,Inv (iT X N sc cl C s H fp) (X.pn++pins) Z0 H' s'/\tn i s'.heap/\(∀b∈fp,H' b=none)/\H' D=none/\s'.heap.PlainList D (its:List Value).toArray/\Vals ys its/\W i n Z0 ys H') ?_ m0
   ⟨0,_,H,[],[],I0,st1,λb G=>(hf b G).1,I.hok.fresh a,hacc,.nil,w0⟩
  rintro n s3 ⟨i,V,H3,ys,its,I3,st3,fr3,hD3,⟨nn,pl3⟩,j,w3⟩;obtain⟨hl,cs⟩:=step i n V ys H3 w3;have pinD:∀{Z0:St}{H':Hp}{s':Shared}{o:Obj},Inv (iT X N sc cl C s H fp) (X.pn++pins) Z0 H' s'->H' D=none->s'.heap.get? D=some o->(∀v,o.data≠.cell v)->Inv (iT X N sc cl C s H fp) ((X.pn++pins)++[(D,o)]) Z0 H' s':=λ{Z0 H' s' o} I' hn e d=>
   I'.qN λp hp=>(QW.mp hp).elim (λz=>I'.pin p (QV _ z)) λz=>by
    have:p=(D,o):=by simpa using z
    subst this;exact⟨e,hn,t,λz=>I.ua a z,d⟩
  have I3p:=pinD I3 hD3 pl3 λv z=>by cases z
  rcases cs with ⟨stop,q⟩|⟨go,NN,hN,nx⟩
  .refine bN (T.done (iT X N sc cl C s H fp) rfl rfl rfl hc i _ s3 V H3 _ I3p (f fr3) st3 stop) λr s4 ⟨hr,I4⟩=>?_;subst hr;have d4:=I4.pin (D,_) (QV _ (QV _ (Q5.mpr rfl)));have I5:=xX I I4.dS a d4.2.1 ⟨nn,d4.1⟩ j hl hf;refine hRR D C s4 H3 ys I5 (by rw[hD];exact h) ?_ (let ⟨m,hm,_⟩:=I4.loc;⟨m,hm⟩) (q D d4.2.1);rw[aF (Sd t)];exact I4.free
  .refine bN (T.item (iT X N sc cl C s H fp) rfl rfl rfl hc i _ s3 V H3 _ I3p (f fr3) st3 go) λr s4 ⟨u,hr,h4⟩=>?_;subst hr;refine bN h4 λ_ s5 ⟨x,H5,I5,r5,y5,st5,fr5⟩=>?_;have I5':=I5.pinned (f fr5) (T.obj _ _ st5);refine bN (hg C _ s5 V H5 x u _ I5' r5 (nx x H5 y5)) λ_ s6 ⟨R,H6,I6,q6⟩=>?_;refine bN (ht C _ s6 R H6 _ I6 q6) λb s7 ⟨H7,I7,q7⟩=>?_;have itK:∀{s8:Shared}{H8:Hp},Inv (iT X N sc cl C s H fp) (((X.pn++pins)++[(D,({ cls:=.type "list",data:=.seq its.toArray nn }:Obj))])++mL fp s5.heap) R H8 s8->tn (i+1) s8.heap/\∀b∈fp,H8 b=none:=λ{s8 H8} I8=>by refine⟨T.keep _ _ _ st5 λb G o e=>(I8.pin (b,o) (QV _ (QV _ (gA G e)))).1,λb G=>?_⟩;obtain⟨o,e,d⟩:=T.obj _ _ st5 b G;exact(I8.pin (b,o) (QV _ (QV _ (gA G e)))).2.1
   cases b with
   |false=>
    have q7:NN R ys H7:=by simpa using q7
    obtain⟨m',hm,w7⟩:=hN _ _ _ q7;obtain⟨t7,f7⟩:=itK I7;have d7:=I7.pin (D,_) (QV _ (QX _ (QV _ (Q5.mpr rfl))));show ∃m,m<n/\_;exact⟨m',hm,i+1,R,H7,ys,its,I7.dS.dS,t7,f7,d7.2.1,⟨nn,d7.1⟩,j,w7⟩
   |true=>
    have q7:te R H7 λy H4=>NN R (ys++[y]) H4:=by simpa using q7
    show wpAny _ _ _ _ _ _;refine bN (he C _ s7 R H7 _ I7 q7) λyv s8 ⟨y,H8,I8,r8,q8⟩=>?_;obtain⟨m',hm,w9⟩:=hN _ _ _ q8;obtain⟨t8,f8⟩:=itK I8;have d8:=I8.pin (D,_) (QV _ (QX _ (QV _ (Q5.mpr rfl))));refine wpAny_list_append_plain (hsz:=by rw[Q0,<-j.length];exact hl) ⟨nn,d8.1⟩ λh9 pl9 sb9=>?_;have I9:Inv (iT X N sc cl C s H fp) (X.pn++pins) R H8 { s8 with heap:=h9 }:=I8.dS.dS.turned (t':=s8.toks) (it:=D) (λb o G e=>(sb9.2 b G).trans e) d8.2.1 t (.inr a) (λx c e z=>?_) (λp hp z=>?_)
    .refine⟨m',hm,i+1,R,H8,ys++[y],its++[yv],I9,T.keep _ _ _ t8 λb G o e=>(sb9.2 b (below b (F b G)).2).trans e,f8,d8.2.1,?_,j.append (.cons r8 .nil),w9⟩;rw[<-List.push_toArray];exact pl9
    .obtain⟨v,q⟩:=I.cell x c (L _ _ e);exact absurd (Q7 q.lt (by rw[z];exact a)) (RQ _)
    .have hp:p∈X.pn++pins:=hp;exact absurd (Q7 (Rh (I.pin p hp).1) (by rw[z];exact a)) (RQ _)
 exact codeAny_compStart_list (loop _ rfl) (T.self _ _ _ _ _ st1 (loop _ rfl))
end
variable{h':Heap}{px:Pos}
section
variable{X:Cx}{N:List Str}{k:Nat}{sc:Scope}{tg elt iter:Expr}{ifs:List Expr}{pos:Pos}{g:TG}{tt:TT}{te:TE}{wi:TI}
theorem l6(I:Inv X pins Y H s)(S:fP X.N N k sc X.env.scope):
  ∃cl,closureFor sc X.env=pure cl/\(∀x c,cl.lookup x=some c->X.env.cells.lookup x=some c)/\(∀x,(x,SF)∈sc.names->∃c,cl.lookup x=some c):=
 tH λx w e=>I.ok.has x.1 (S.fr x w e)
theorem Inv.letGo{H0:Hp}{s0:Shared}(n:Inv X pins Y H0 s0)(I:Inv X pins Z0 H s)(T:s0.heap.objs.size<=C)(hn:H C=none)(S:TN C s.heap h'):Inv X pins Z0 H { s with heap:=h' }:=
 I.turned (t':=s.toks) (it:=C) (λb o d e=>(S.2 b d).trans e) hn (WD (Q7 n.lt T)) (.inr (Rm n.sz T))
  (λx c e z=>by obtain⟨v,q⟩:=n.cell x c e;exact absurd (Q7 q.lt (by rw[z];exact T)) (RQ _))
  (λp hp z=>absurd (Q7 (Rh (n.pin p hp).1) (by rw[z];exact T)) (RQ _))
theorem vy(hc:X.calm=true)(S:fP X.N N k sc X.env.scope)(hi:PI X tg iter wi)(hg:∀cl C s H fp,PG (iT X N sc cl C s H fp) tg g)(ht:∀cl C s H fp,PF (iT X N sc cl C s H fp) ifs tt)
  (he:∀cl C s H fp,PE (iT X N sc cl C s H fp) elt te)(hs:∀x,foldedSetIterable iter X.env x=pure x:=by intro _;rfl):PE X (.ListComp elt [⟨tg,iter,ifs,0⟩] sc pos) (vt k wi g tt te):=by
 intro pins s Y H Q I h;obtain⟨cl,hclos,h1,h2⟩:=l6 I S;rw[eval_ListComp];refine wpAny_comprehension_free (use:=none) rfl hs hclos S.kind S.names (bN (hi pins s Y H _ I h) λv s1 q1=>bN q1 λitv s2 q2=>?_);obtain⟨it,fp,tn,J,H2,rfl,I2,T,st2,f2,B⟩:=q2;refine l7 (RR:=λacc C=>compPost (model X.prog X.w) X.A X.xe none (EP X pins Y Q) acc C) hc S h1 h2 I2 T st2 f2 B (λC=>hg cl C s2 H2 fp) (λC=>ht cl C s2 H2 fp) (λC=>he cl C s2 H2 fp) ?_;intro D C s' H' ys I' hC hn hm q;obtain⟨m,hm⟩:=hm;exact⟨m,hm,λh' sb=>⟨.ref D,_,I2.letGo I' hC hn sb,rfl,q⟩⟩
theorem CA{i:Nat}{x:Str}{spos:Pos}(hc:X.calm=true)(S:fP X.N N k sc X.env.scope)(hN:X.N.Nodup)(hx:X.N[i]?=some x)(hl:X.env.scope.names.lookup x=some .local)
  (hsw:swapsWith (.ListComp elt [⟨tg,iter,ifs,0⟩] sc pos) (some (.Name x px)) spos.line X.env=pure true)(hi:PI X tg iter wi)(hg:∀cl C s H fp,PG (iT X N sc cl C s H fp) tg g)(ht:∀cl C s H fp,PF (iT X N sc cl C s H fp) ifs tt)
  (he:∀cl C s H fp,PE (iT X N sc cl C s H fp) elt te)(hs:∀x,foldedSetIterable iter X.env x=pure x:=by intro _;rfl):PS X (.Assign [.Name x px] (.ListComp elt [⟨tg,iter,ifs,0⟩] sc pos) spos) (yQ (vt k wi g tt te) (yR i)):=by
 intro pins s Y H D0 I h;obtain⟨cl,hclos,h1,h2⟩:=l6 I S;rw[exec_Assign_Name_used _ _ _ _ hsw];refine wpAny_bind (wpAny_standAt (wpAny_bind ?_));show wpAny _ X.A (do let _ <- comprehension (.ListComp elt [⟨tg,iter,ifs,0⟩] sc pos) sc X.env _ (newList []) false (eval iter X.env) (some (assign (.Name x px) X.env))) _ _ s;refine wpAny_bind (bN (wpAny_comprehension_free (use:=some (assign (.Name x px) X.env)) (Q:=λ_ s'=>SP X pins D0 .next s') rfl hs hclos S.kind S.names
  (bN (hi pins s Y H _ I h) λv s1 q1=>bN q1 λitv s2 q2=>?_)) λ_ s' hq=>wpAny_pure (wpAny_pure hq))
 obtain⟨it,fp,tn,J,H2,rfl,I2,T,st2,f2,B⟩:=q2;refine l7 (RR:=λacc C=>compPost (model X.prog X.w) X.A X.xe (some (assign (.Name x px) X.env)) (λ_ s'=>SP X pins D0 .next s') acc C) hc S h1 h2 I2 T st2 f2 B (λC=>hg cl C s2 H2 fp) (λC=>ht cl C s2 H2 fp) (λC=>he cl C s2 H2 fp) ?_;intro D C s' H' ys I' hC hn hm q;obtain⟨m,hm⟩:=hm;show wpAny _ X.A (assign (.Name x px) X.env (.ref D)) _ _ _;refine wpAny_assign_Name (pC I' hN hx (.inl hl) (v:=.ref D) rfl (λs'' I'' ch=>?_) (.inr hl));obtain⟨a,sb,ha⟩:=ch;refine⟨m,hm.sameBut sb ?_,λh' sb'=>⟨_,_,I2.letGo I'' hC hn sb',q⟩⟩;rintro rfl;rcases ha with z|z
 .exact absurd (Q7 I2.lt (by rw[<-z];exact hC)) (RQ _)
 .obtain⟨v,q⟩:=I2.cell x _ z;exact absurd (Q7 q.lt hC) (RQ _)
end
theorem uD{H:List Comprehension}{sc:Scope}{x:Str}{line:Nat}(h1:env.blockKind=.function)(h2:env.kindOf x=some .local)(h3:(px.line==pos.line)=true)
  (h4:(sc.names.any λp=>p.1==x&&(p.2==.local || p.2==.cell))=false):swapsWith (.ListComp elt H sc pos) (some (.Name x px)) line env=pure true:=by
 unfold swapsWith;show (pure (env.blockKind==.function&&env.kindOf x==some .local&&px.line==pos.line&&!(sc.names.any λp=>p.1==x&&(p.2==.local || p.2==.cell))):Sem Bool)=pure true;rw[h1,h2,h3,h4];rfl
variable{ss:List Str}
section
variable{X:Cx}{tg:Expr}
theorem Inv.qC{a:Addr}(I:Inv X pins Y H s)(hf:∀b o,s.heap.get? b=some o->b≠a):H a=none:=by
 cases e:H a with
 |none=>rfl
 |some u=>obtain⟨ob,z⟩:=(I.hok a u e).is;exact absurd rfl (hf a ob z)
theorem Inv.Gk{a:Addr}{t':Nat}(I:Inv X pins Y H s)(k:∀b u,s.heap.get? b=some u->h'.get? b=some u)(hf:∀b o,s.heap.get? b=some o->b≠a)
  (new:cb X.prog X.w (upd H a o) h' a o):Inv X pins Y (upd H a o) { s with heap:=h',toks:=t' }:=by
 have hn:=I.qC hf;refine I.un ⟨λb u e _ _ _=>k b u e,λb u e _ _ _=>⟨u.slots,k b u e⟩,λb u e n _=>by rw[aF (hf b u e)];exact n,λb u e _=>⟨u,k b u e⟩,λb xs e=>by rw[aF (aS e hn)];exact e,λb u v e=>by rw[aF (aS e hn)];exact e,
  λb ps e=>⟨#[],by rw[aF (aS e hn),e];simp⟩⟩ λb u e=>?_
 by_cases d:b=a
 .subst d;rw[bW] at e;cases e;exact new
 .rw[aF d] at e;exact(I.hok b u e).hZ (λc v _ q=>k c v q) (λc q=>by rw[aF (aS q hn)];exact q) λc xs q=>by rw[aF (aS q hn)];exact q
theorem mv:∀{us:List Value},Vals (ss.map V.str) us->StrsAre us ss:=by
 induction ss with
 |nil=>intro us r;rw[Th] at r;cases r;exact .nil
 |cons n ns l=>
  intro us r;rw[Ri] at r;cases r with
  |cons k T=>obtain⟨t,e⟩:=k;subst e;exact .cons n t (l T)
theorem gE:∀{ss:List Str}{us:List Value},StrsAre us ss->Vals (ss.map V.str) us
 |_,_,.nil=>.nil
 |_,_,.cons y t r=>.cons ⟨t,rfl⟩ (gE r)
def lV(K:QU):List V->Hp->VK->Prop:=λvs H Q=>∃a ss,vs=[.ref a]/\(gu K H a (ss.map V.str)\/∃kvs,H a=some (.dK kvs)/\kvs.map (·.1)=ss.map RM)/\ss.length<64 /\
 ∀r x,H r=none->x.Perm ss->sortedS x=true->Q (.ref r) (upd H r (.lst (x.map V.str)))
theorem jq:64<=sizeLine:=by rw[sizeLine_eq];decide
theorem oY{vs:List (Key×Value)}{acc:Array Value}(e:vs.map (·.1)=ss.map RM)
  (h:ItemsOf (λi v=>∃k x,vs[i]?=some (k,x)/\(ba P w).is k v=true) acc vs.length):StrsAre acc.toList ss:=by
 obtain⟨V,hi⟩:=h;have hl:ss.length=vs.length:=by have:=congrArg Tc e;simpa using this.symm
 have Y:∀(j:Nat)(v:Value),acc.toList[j]?=some v->∃(x:Str)(t:Tok),ss[j]?=some x/\v=UE x t:=λj v c=>by
  obtain⟨k,x,A,hk⟩:=hi j v (by rw[<-S5];exact c);have hk:mT k v=true:=hk;have H:(vs.map (·.1))[j]?=some k:=by rw[Rn,A];rfl
  rw[e,Rn] at H;cases n:ss[j]? with
  |none=>rw[n] at H;cases H
  |some z=>
   rw[n] at H;have Q:k=RM z:=(Q9 H).symm;subst Q;rcases bP hk with ⟨i,t,q,_⟩|⟨y,t,q,rfl⟩
   .cases q
   .cases q;exact⟨z,t,rfl,rfl⟩
 have X:acc.toList.length=ss.length:=by rw[RN,V,hl]
 clear V hi e hl;generalize acc.toList=l at Y X;induction l generalizing ss with
 |nil=>
  cases ss with
  |nil=>exact .nil
  |cons a b=>cases X
 |cons v l r=>
  cases ss with
  |nil=>cases X
  |cons z ss=>obtain⟨x,t,A,rfl⟩:=Y 0 v rfl;have A:z=x:=Q9 A;subst A;exact .cons z t (r (λj u f=>Y (j+1) u f) (by simpa using X))
theorem p8(hc:X.calm=true):cx X (.builtin "sorted") (lV X.K):=by
 intro pins s Y H vs us Q I B h;obtain⟨a,ss,rfl,j,y,q⟩:=h;obtain⟨u,rfl,J⟩:=B.one;cases J;rcases j with j|⟨kvs,hd,O⟩
 .obtain⟨its,r,p,hz⟩:=I.list j;have i:=mv r;have v:its.length=ss.length:=by have:=r.length;simpa using this.symm
  refine sorted_strs p.isList i (by lia) λout x T k U=>?_;obtain⟨e,R⟩:=sortedAll_at s.heap its out;refine⟨.ref _,_,I.laid (t':=s.toks) (o:=.lst (x.map V.str)) (λb o z=>sortedAll_old z) (Tu _) ⟨?_,out.toList,e,gE T,by simpa using R⟩,rfl,q _ x (I.hok.fresh (Tu _)) k U⟩;rw[QY,k.length_eq];exact Rm (S0 y) jq
 .obtain⟨hz,lo,vs,L,Z⟩:=Gx I.hok hd;obtain⟨ep,S⟩:=Z.dictAt;have E:vs.map (·.1)=ss.map RM:=by rw[<-L.keys];exact O
  have v:vs.length=ss.length:=by have:=congrArg Tc E;simpa using this
  refine U2 kind_sorted plain_sorted entry_sorted (args_sorted1 _) ?_;unfold Builtin.«sorted»;refine wpAny_bind (m:=checkCount "sorted" 1 1 _) (wpAny_pure ?_);refine wpAny_bind (kdu_collect (A:=X.A.in1) (kdl_dict (knd:=ba X.prog X.w) (kvs:=vs) (ep:=ep) lo) (I.ok.hd hc) S (by have:=jq;lia) λh' tk acc hk C=>?_);have i:=oY E C;have D:acc.toList.length=ss.length:=by rw[RN,C.1,v]
  refine wpAny_bind (wpAny_newList ?_ (by have:=jq;lia));have N:(h'.push (seqObj "list" acc.toList.toArray 0)).get? h'.objs.size=some (seqObj "list" acc.toList.toArray 0):=Ro _ rfl;refine wpAny_bind (wpAny_holding (wpAny_call_entry slot_list_sort ⟨_,N,rfl⟩ entry_list_sort (list_sort_treeK strKind_oneLt N i.keysOf (λt G rest e=>keyKind_strs (by rw[<-e];exact i)) (by lia) λP hp F=>⟨_,rfl,?_⟩) (args_list_sort _)));obtain⟨x,b1,b2,g⟩:=sorted_out_str i hp F;obtain⟨e,R⟩:=sortedHeap_at (vs:=acc.toList) (n:=0) (out:=(arrOf P).map (·.2)) N;have hf:∀b o,s.heap.get? b=some o->b≠h'.objs.size:=λb o z=>Ru (Rh (hk b o z));refine wpAny_pure ⟨_,rfl,.ref _,_,I.Gk (t':=tk) (a:=h'.objs.size) (o:=.lst (x.map V.str)) (λb o z=>?_) hf ⟨?_,((arrOf P).map (·.2)).toList,e,gE b1,?_⟩,rfl,q _ x (I.qC hf) b2 g⟩
  .rw[sortedHeap_old (hf b o z) (by rw[size_push'];exact UK (Rh (hk b o z)))];exact Q3 _ (hk b o z)
  .rw[QY,b2.length_eq];exact Rm (S0 y) jq
  .rw[Vw];exact R
def Py:V->Option Int->Option Int->Hp->VK->Prop:=λx lo hi H Q=>∃z,x=.str z/\z.length<=sizeLine/\Q (.str (Sa z lo hi)) H
theorem sG{o:Option Int}(p:IsPart v o):∃l:Option (Int×Tok),v=partValue l/\l.map (·.1)=o:=by
 cases p with
 |none=>exact⟨none,rfl,rfl⟩
 |int i t=>exact⟨some (i,t),rfl,rfl⟩
theorem JZ:dR X Py:=by intro pins s Y H x v J P lo hi sl Q I K V pl E h;obtain⟨z,rfl,hz,q⟩:=h;obtain⟨t,rfl⟩:=K;obtain⟨l,rfl,rfl⟩:=sG pl;obtain⟨u,rfl,rfl⟩:=sG E;refine⟨"str",_,F.slot_str_getitem.lookup,typeIs_str _ _ _,wpAny_getItem_str_slice (l:=l) (u:=u) (st:=none) V rfl ?_⟩;exact post_val_or_str ⟨Rm (Txt.slice_le z _ _) hz,λt' k=>⟨.str _,H,I.tok _,⟨t',rfl⟩,q⟩⟩
noncomputable def i6(ss:List Str):Nat:=(ss.map (λz=>z.length)).sum
theorem i7:∀{us:List Value}{ss:List Str},StrsAre us ss->∃l:List (Str×Tok),us=strValues l/\l.map (·.1)=ss
 |_,_,.nil=>⟨[],rfl,rfl⟩
 |_,_,.cons y t r=>by obtain⟨l,F,j⟩:=i7 r;exact⟨(y,t)::l,by rw[F];rfl,by rw[Ri,j]⟩
end
noncomputable def OF(x:Str):It:=⟨λi _=>i<x.cps.size,λi H v H'=>H'=H/\∃c,x.cps[i]?=some c/\v=.str ⟨#[c]⟩,λi _=>x.cps.size<=i⟩
variable{tg:Expr}
theorem uJ{K:QU}(it:Addr)(x:Str)(t:Tok):Turn P w K tg (OF x) [it] it (λi h=>h.IsStrIter it "str_ascii_iterator" x t i) where
 mem:=by simp
 obj:=λi h st b G=>by
  have e:b=it:=by simpa using G
  subst e;obtain⟨o,e,c,d⟩:=st;exact⟨o,e,λv z=>by rw[d] at z;cases z⟩
 keep:=λi h h' st k=>by obtain⟨o,e,r⟩:=st;exact⟨o,k it (by simp) o e,r⟩
 item:=by intro X n p y hc i pins s Y H E I hf st N;subst n p y;have N:i<x.cps.size:=N;obtain⟨D,F,R,J,L,O⟩:=hf it (by simp);refine wpAny_pyNext_ascii_item st (c:=x.cps[i]) (by simp[N]) λh' V S=>?_;have g:Inv X pins Y H { s with heap:=h',toks:=s.toks+1 }:=I.turned (t':=s.toks+1) (λb o G e=>(S.2 b G).trans e) D F J L O;obtain⟨o,e,c,d⟩:=id V;exact⟨_,rfl,rC (s:={ s with heap:=h',toks:=s.toks+1 }) e c d (by decide) ⟨.str ⟨#[x.cps[i]]⟩,H,g,⟨_,rfl⟩,⟨rfl,_,by simp[N],rfl⟩,V,λb G=>(hf b G).1⟩⟩
 done:=by intro X n p y hc i pins s Y H E I hf st N;subst n p y;have N:x.cps.size<=i:=N;obtain⟨D,F,R,J,L,O⟩:=hf it (by simp);exact wpAny_pyNext_ascii_end (I.ok.hd hc) st (by simp;lia) λh' Z=>⟨rfl,I.turned (t':=s.toks) (λb o G e=>Z b o G e) D F J L O⟩
 self:=λ_ _ _ _ _ st h=>wpAny_pyIter_striter_ascii st h
theorem wX{K:QU}(it:Addr)(x:Str)(t:Tok):Turn P w K tg (OF x) [it] it (λi h=>h.IsStrIter it "str_iterator" x t i) where
 mem:=by simp
 obj:=λi h st b G=>by
  have e:b=it:=by simpa using G
  subst e;obtain⟨o,e,c,d⟩:=st;exact⟨o,e,λv z=>by rw[d] at z;cases z⟩
 keep:=λi h h' st k=>by obtain⟨o,e,r⟩:=st;exact⟨o,k it (by simp) o e,r⟩
 item:=by intro X n p y hc i pins s Y H E I hf st N;subst n p y;have N:i<x.cps.size:=N;obtain⟨D,F,R,J,L,O⟩:=hf it (by simp);refine wpAny_pyNext_wide_item st (c:=x.cps[i]) (by simp[N]) λh' V S=>?_;have g:Inv X pins Y H { s with heap:=h',toks:=s.toks+1 }:=I.turned (t':=s.toks+1) (λb o G e=>(S.2 b G).trans e) D F J L O;obtain⟨o,e,c,d⟩:=id V;exact⟨_,rfl,rC (s:={ s with heap:=h',toks:=s.toks+1 }) e c d (by decide) ⟨.str ⟨#[x.cps[i]]⟩,H,g,⟨_,rfl⟩,⟨rfl,_,by simp[N],rfl⟩,V,λb G=>(hf b G).1⟩⟩
 done:=by intro X n p y hc i pins s Y H E I hf st N;subst n p y;have N:x.cps.size<=i:=N;obtain⟨D,F,R,J,L,O⟩:=hf it (by simp);exact wpAny_pyNext_wide_end (I.ok.hd hc) st (by simp;lia) λh' Z=>⟨rfl,I.turned (t':=s.toks) (λb o G e=>Z b o G e) D F J L O⟩
 self:=λ_ _ _ _ _ st h=>wpAny_pyIter_striter_wide st h
section
variable{X:Cx}{tg:Expr}
def M9(K:QU)(X:TE):TI:=λY H R=>X Y H λx e=>(∃a,x=.ref a/\(((∃xs,gu K e a xs)/\R (Pe K a) e)\/((∃xs,gv K e a xs)/\R (P9 K a) e)))\/∃t,x=.str t/\R (OF t) e
theorem DL{l:Expr}{E:TE}(hl:PE X l E):PI X tg l (M9 X.K E):=by
 intro pins s Y H R I h;refine bN (hl pins s Y H _ I h) λv s1 ⟨x,y,g,k,P⟩=>?_;rcases P with ⟨a,e,⟨⟨xs,j⟩,q⟩|⟨⟨xs,j⟩,q⟩⟩|⟨t,e,q⟩
 .subst e;cases k;obtain⟨its,B,p,hz⟩:=g.list j;refine wpAny_pyIter_list p.isList ?_;refine⟨s1.heap.objs.size,[s1.heap.objs.size],_,_,y,rfl,g.kept (t':=s1.toks) λb o e=>Q3 _ e,oS a _,⟨_,Ro _ rfl,rfl,rfl⟩,λb d=>?_,q⟩;have e:b=s1.heap.objs.size:=by simpa using d
  subst e;exact g.Bc (Rf _) (g.hok.fresh (Rf _))
 .subst e;cases k;obtain⟨its,B,p,hz⟩:=g.tuple j;refine wpAny_pyIter_tuple (show s1.heap.IsTuple a its.toArray from p) ?_;refine⟨s1.heap.objs.size,[s1.heap.objs.size],_,_,y,rfl,g.kept (t':=s1.toks) λb o e=>Q3 _ e,uA a _,⟨_,Ro _ rfl,rfl,rfl⟩,λb d=>?_,q⟩;have e:b=s1.heap.objs.size:=by simpa using d
  subst e;exact g.Bc (Rf _) (g.hok.fresh (Rf _))
 .subst e;obtain⟨tk,rfl⟩:=k;have fin:∀b,b∈[s1.heap.objs.size]->mU X pins y b:=λb d=>by
   have e:b=s1.heap.objs.size:=by simpa using d
   subst e;exact g.Bc (Rf _) (g.hok.fresh (Rf _))
  cases ha:t.cps.all (·<128)
  .refine wpAny_pyIter_wide ha ?_;exact⟨s1.heap.objs.size,[s1.heap.objs.size],_,_,y,rfl,g.kept (t':=s1.toks) λb o e=>Q3 _ e,wX _ t tk,⟨_,Ro _ rfl,rfl,rfl⟩,fin,q⟩
  .refine wpAny_pyIter_ascii ha ?_;exact⟨s1.heap.objs.size,[s1.heap.objs.size],_,_,y,rfl,g.kept (t':=s1.toks) λb o e=>Q3 _ e,uJ _ t tk,⟨_,Ro _ rfl,rfl,rfl⟩,fin,q⟩
def M8(K:QU)(g:List Bool->Bool):List V->Hp->VK->Prop:=λxs H Q=>∃p ys bs,xs=[.ref p]/\gu K H p ys/\ys=bs.map V.bl/\Q (.bl (g bs)) H
theorem range_all{bs:List Bool}{tr:Nat->Bool}(h:∀i b,bs[i]?=some b->tr i=b):(Sg bs.length).all tr=bs.all id:=by
 have:(Sg bs.length).map tr=bs:=by
  apply SV;intro i;rw[Rn];by_cases hi:i<bs.length
  .rw[Tf hi,Rg hi,Option.map_some,h i _ (Rg hi)]
  .rw[T5 (by simpa using hi),T5 (by simpa using hi)];rfl
 calc (Sg bs.length).all tr=((Sg bs.length).map tr).all id:=by rw[Uz];rfl
  _=bs.all id:=by rw[this]
theorem Bi(hc:X.calm=true):cx X (.builtin "all") (M8 X.K λbs=>bs.all id):=by
 intro pins s Y H xs us Q I r h;obtain⟨p,ys,bs,rfl,j,rfl,q⟩:=h;obtain⟨u,rfl,a⟩:=vals1 r;cases a;obtain⟨its,r',pl,hz⟩:=I.list j;have m:=r'.length;refine call_all_walk (wpAny_pyIter_list pl.isList ?_);refine⟨s.heap.objs.size,_,_,_,_,_,(λi=>bs.getD i false),rfl,Walks.list (A:=X.A.in1) (I.ok.hd hc) _ p (by obtain⟨o,J,_⟩:=pl.isList;exact Ru (Rh J)) its.toArray,⟨⟨_,Ro _ rfl,rfl,rfl⟩,pl.isList.at λo e=>Q3 _ e⟩,λi v s1 P t n C=>?_,λh' tk hk=>?_⟩
 .have c:its[i]?=some v:=by simpa using n
  cases Z:bs[i]? with
  |none=>have h1:=Va.mp Z;have h2:=(Q2.mp c).1;rw[QY] at m;lia
  |some b=>
   obtain⟨u,f,S⟩:=r'.get (i:=i) (x:=.bl b) (by rw[Rn,Z];rfl);rw[c] at f;cases f;cases S;have:bs.getD i false=b:=by rw[R0,Z];rfl
   replace C:P (bs.getD i false) s1:=C
   rw[this] at C;exact wpAny_pure C
 .have F:its.toArray.size=bs.length:=by simp at m ⊢;lia
  rw[F,range_all (bs:=bs) λi b e=>by show bs.getD i false=b;rw[R0,e];rfl];exact⟨.bl _,H,I.kept (t':=tk) λb o e=>hk b o (λz=>by have:=Q5.mp z;subst this;exact absurd (Rh e) (RQ _)) (Q3 _ e),rfl,q⟩
end
end L2
namespace W
variable{q:Int}
theorem hU(p:Int)(h:q<0):q<p.fmod q/\p.fmod q<=0:=by
 rw[Int.fmod_eq_emod];have h1:=Wi p (show q≠0 by lia);have h2:=Int.emod_lt_of_neg p h;by_cases d:q ∣ p
 .rw[if_pos (Or.inr d),Int.emod_eq_zero_of_dvd d];lia
 .rw[if_neg (by intro z;rcases z with z|z;lia;exact d z)];have h3:p%q≠0:=λz=>d (Int.dvd_of_emod_eq_zero z);lia
theorem rD(p:Int)(h:q≠0):(p.fmod q).natAbs<q.natAbs:=by
 rcases Uw h with z|z
 .have:=hU p z;lia
 .have h1:=Ux p z;have h2:=S4 p z;lia
theorem mP(p q:Int):RI q (p.fmod q)=RI p q:=by
 have h:p.fmod q=p-p.fdiv q*q:=by rw[Int.fmod_def,UL]
 rw[h,Int.gcd_sub_mul_right_right,Vx]
noncomputable def cd(x y:Int):Int:=if y<0 then -(RI x y:Int) else (RI x y:Int)
variable{p:Int}
theorem FP(h:q≠0)(z:p.fmod q=0):q=cd p q:=by have e:=mP p q;rw[z,VX] at e;unfold cd;rw[<-e];split<;>lia
theorem FG(h:q≠0)(z:p.fmod q≠0):cd q (p.fmod q)=cd p q:=by
 unfold cd;rw[mP];rcases Uw h with g|g
 .have:=hU p g;rw[if_pos (by lia),if_pos g]
 .have h2:=S4 p g;rw[if_neg (by lia),if_neg (by lia)]
theorem q9(x y:Int):cd x y ∣ x:=by
 unfold cd;split
 .exact(WX).mpr (UN x y)
 .exact UN x y
theorem qr(x y:Int):cd x y ∣ y:=by
 unfold cd;split
 .exact(WX).mpr (Tw x y)
 .exact Tw x y
theorem vR{x y:Int}(h:y≠0):cd x y≠0:=by have:=Su x h;unfold cd;split<;>lia
theorem Bw(x y:Int):(cd x y).natAbs=RI x y:=by unfold cd;split<;>lia
theorem N8{x y:Int}(h:y≠0):(cd x y).natAbs<=y.natAbs:=by rw[Bw];have h1:RI x y ∣ y.natAbs:=Int.natCast_dvd_natCast.mp (Int.dvd_natAbs.mpr (Tw x y));exact Nat.le_of_dvd (by lia) h1
noncomputable abbrev Num:=Int×Int
def jz(t b:Int):Num:=(t.fdiv (cd t b),b.fdiv (cd t b))
noncomputable def J3(t b:Int):Num:=if b<0 then ((-t).fdiv (RI (-t) (-b)),(-b).fdiv (RI (-t) (-b))) else (t.fdiv (RI t b),b.fdiv (RI t b))
theorem kq{t g:Int}(N:g≠0)(d:g ∣ t):(-t).fdiv g=t.fdiv (-g):=by
 obtain⟨k,rfl⟩:=d;have F:-(g*k)=g*(-k):=by rw[Int.mul_neg]
 have j:g*k=(-g)*(-k):=by rw[Int.neg_mul_neg]
 rw[F,SM _ N,j,SM _ (by lia)]
variable{b:Int}
theorem DY{t:Int}(h:b≠0):J3 t b=jz t b:=by
 unfold J3 jz cd;by_cases z:b<0
 .rw[if_pos z,if_pos z,Int.gcd_neg,WY];have u:=Su t h;rw[kq (by lia) (UN t b),kq (by lia) (Tw t b)]
 .rw[if_neg z,if_neg z]
open L2
def Ok(q:Num):Prop:=0<q.2/\RI q.1 q.2=1
theorem lU{t:Int}(h:b≠0):cd t b*(jz t b).1=t/\cd t b*(jz t b).2=b:=by
 have h0:=vR (x:=t) h;obtain⟨k,hk⟩:=q9 t b;obtain⟨m,hm⟩:=qr t b;have F:t.fdiv (cd t b)=k:=by have:=SM k h0;rwa[<-hk] at this
 have j:b.fdiv (cd t b)=m:=by have:=SM m h0;rwa[<-hm] at this
 exact⟨by show cd t b*t.fdiv (cd t b)=t;rw[F];exact hk.symm,by show cd t b*b.fdiv (cd t b)=b;rw[j];exact hm.symm⟩
theorem CG{t:Int}(h:b≠0):(0<b->0<cd t b)/\(b<0->cd t b<0):=by
 have:=Su t h;unfold cd;constructor
 .intro z;rw[if_neg (by lia)];lia
 .intro z;rw[if_pos z];lia
theorem vB{t:Int}(h:b≠0):0<(jz t b).2:=by
 obtain⟨_,e⟩:=lU (t:=t) h;obtain⟨s1,s2⟩:=CG (t:=t) h;rcases Uw h with z|z
 .have c:=s2 z;rcases WM 0 (jz t b).2 with q|q
  .exact q
  .have:=Int.mul_nonneg_of_nonpos_of_nonpos (WN c) q;lia
 .have c:=s1 z;rcases WM 0 (jz t b).2 with q|q
  .exact q
  .have:=Int.mul_nonpos_of_nonneg_of_nonpos (WN c) q;lia
theorem Bj{t:Int}(h:b≠0):Ok (jz t b):=by
 refine⟨vB h,?_⟩;obtain⟨F,j⟩:=lU (t:=t) h;have g:RI (cd t b*(jz t b).1) (cd t b*(jz t b).2)=(cd t b).natAbs*RI (jz t b).1 (jz t b).2:=Int.gcd_mul_left _ _ _;rw[F,j,Bw] at g;have p:=Su t h;have:RI t b*1=RI t b*RI (jz t b).1 (jz t b).2:=by rw[VL];exact g
 exact(Nat.eq_of_mul_eq_mul_left p this).symm
theorem Ok.neg{q:Num}(h:Ok q):Ok (-q.1,q.2):=⟨h.1,by show RI (-q.1) q.2=1;rw[WY];exact h.2⟩
variable{c:Int}
theorem nQ{x:Int}(h:c≠0):x.natAbs<=(c*x).natAbs:=by rw[U9];exact Nat.le_mul_of_pos_left _ (by lia)
theorem AY{t:Int}{m n:Nat}(h:b≠0)(h1:Bd m t)(h2:Bd n b):Bd m (jz t b).1/\Bd n (jz t b).2:=by obtain⟨F,j⟩:=lU (t:=t) h;have T:=nQ (x:=(jz t b).1) (vR (x:=t) h);have k:=nQ (x:=(jz t b).2) (vR (x:=t) h);rw[F] at T;rw[j] at k;exact⟨SR T h1,SR k h2⟩
structure NB(n:Nat)(q:Num):Prop where
 ok:Ok q
 b1:Bd n q.1
 b2:Bd n q.2
theorem NB.mono{m n:Nat}{q:Num}(h:NB m q)(k:m<=n):NB n q:=⟨h.ok,h.b1.mono k,h.b2.mono k⟩
theorem NB.nz{n:Nat}{q:Num}(h:NB n q):q.2≠0:=by have:=h.ok.1;lia
theorem NB.jz{t b:Int}{n:Nat}(h:b≠0)(h1:Bd n t)(h2:Bd n b):NB n (jz t b):=⟨Bj h,(AY h h1 h2).1,(AY h h1 h2).2⟩
def c8(x y:Num):Num:=jz (x.1*y.2+y.1*x.2) (x.2*y.2)
theorem NB.neg{n:Nat}{y:Num}(h:NB n y):NB n (-y.1,y.2):=⟨h.ok.neg,h.b1.neg,h.b2⟩
theorem NB.zero{n:Nat}:NB (n+1) (0,1):=⟨⟨by decide,by decide⟩,Q7 (by decide) (RY (by decide) (Wj 1 n)),Q7 (by decide:1<2^1) (RY (by decide) (Wj 1 n))⟩
noncomputable def nv(x:Num):Rat:=Xr x.1 x.2
theorem HU{t:Int}(h:b≠0):nv (jz t b)=Xr t b:=by obtain⟨F,j⟩:=lU (t:=t) h;have p:=vB (t:=t) h;unfold nv;rw[Vm (by lia) h];generalize (jz t b).1=k at F ⊢;generalize (jz t b).2=m at j p ⊢;rw[<-F];rw[show k*b=k*(cd t b*m) from by rw[j]];rw[Int.mul_left_comm,Int.mul_assoc]
variable{x y:Num}
theorem Cf(h:Ok x)(k:Ok y):nv (c8 x y)=nv x+nv y:=by have h1:=h.1; have o:=k.1;unfold c8;rw [HU (T6 (by lia) (by lia))];exact (Rat.divInt_add_divInt _ _ (by lia) (by lia)).symm
theorem Aw  (h:Ok x) (k:Ok y):Ok (c8 x y):=Bj (T6 (by have:=h.1; lia) (by have:=k.1; lia))
theorem NM {a:Int} (h:a ∣ b * c) (g:RI a b = 1):a ∣ c:=by
 have h1:a.natAbs ∣ b.natAbs * c.natAbs:=by rw [← U9]; exact VD.mpr h
 exact VD.mp (Xs (show Nat.Coprime a.natAbs b.natAbs from g) h1)
theorem sd  (h:Ok x) (k:Ok y) (e:nv x = nv y):x = y:=by have h1:=h.1; have o:=k.1;unfold nv at e;rw [Vm (by lia) (by lia)] at e;have Y:x.2 ∣ y.2:=NM (show x.2 ∣ x.1 * y.2 from ⟨y.1,by rw [e,UL]⟩) (by rw [Vx]; exact h.2);have F:y.2 ∣ x.2:=NM (show y.2 ∣ y.1 * x.2 from ⟨x.1,by rw [← e,UL]⟩) (by rw [Vx]; exact k.2);have j:x.2 = y.2:=Int.dvd_antisymm (by lia) (by lia) Y F;rw [j] at e;have p:x.1 = y.1:=Int.eq_of_mul_eq_mul_right (by lia) e;exact VC p j
theorem LZ  (h:Ok x) (k:Ok y):x.1 * y.2 < y.1 * x.2 ↔ nv x < nv y:=by
 have h1:=h.1; have o:=k.1;have w:(x.2:Rat)≠0:=by intro z;have:=Wm.mp (show ((x.2:Int):Rat)=((0:Int):Rat) from z);lia
 have T:(y.2:Rat)≠0:=by intro z;have:=Wm.mp (show ((y.2:Int):Rat)=((0:Int):Rat) from z);lia
 have ex:nv x*(x.2:Rat)=x.1:=by unfold nv;rw[V2];grind
 have r:nv y*(y.2:Rat)=y.1:=by unfold nv;rw[V2];grind
 have s:(0:Rat)<(x.2:Rat):=by have:=T4.mpr h1;simpa using this
 have u:(0:Rat)<(y.2:Rat):=by have:=T4.mpr o;simpa using this
 have H:(0:Rat)<(x.2:Rat)*(y.2:Rat):=Rat.mul_pos s u;rw[<-T4,Wn,Wn,<-ex,<-r];rw[show nv x*(x.2:Rat)*(y.2:Rat)=nv x*((x.2:Rat)*(y.2:Rat)) by grind,show nv y*(y.2:Rat)*(x.2:Rat)=nv y*((x.2:Rat)*(y.2:Rat)) by grind];exact Rat.mul_lt_mul_right H
theorem jJ:nv (0,1)=0:=by decide +kernel
theorem lT:Ok (0,1):=⟨by decide,by decide⟩
section
variable{x y z:Num}(hx:Ok x)(hy:Ok y)(hz:Ok z)
noncomputable def B0(x y:Num):Bool:=decide (x.1*y.2<y.1*x.2)
include hx hy in
theorem vT:B0 x y=true↔nv x<nv y:=by unfold B0;rw[decide_eq_true_eq];exact LZ hx hy
include hx hy hz in
end
end W
set_option maxHeartbeats 1000000
namespace W
open L2 PySem
theorem NB.Hc{m n:Nat}{x y:Num}(h:NB m x)(k:NB n y):NB (m+n+1) (c8 x y):=
 .jz (T6 h.nz k.nz) (((h.b1.mul k.b2).add ((k.b1.mul h.b2).mono (n:=m+n) (by lia))).mono (by lia)) ((h.b2.mul k.b2).mono (by lia))
abbrev Pr:=Str×Num
def cg(ps:List Pr)(n:Str):Num:=ps.foldl (λacc p=>if p.1=n then c8 acc p.2 else acc) (0,1)
noncomputable def cnt(ps:List Pr)(n:Str):Nat:=ps.countP (λp=>decide (p.1=n))
theorem eS(ps:List Pr)(p:Pr)(n:Str):cg (ps++[p]) n=if p.1=n then c8 (cg ps n) p.2 else cg ps n:=by unfold cg;rw[List.foldl_append];rfl
theorem snoc_ind{α:Type}{M:List α->Prop}(h0:M [])(h1:∀l a,M l->M (l++[a])):∀l,M l:=by
 intro l;rw[<-List.reverse_reverse l];induction l.reverse with
 |nil=>exact h0
 |cons a r x=>rw[SW];exact h1 _ _ x
variable{ps:List Pr}
theorem ui{b:Nat}(h:∀p∈ps,NB b p.2)(n:Str):NB ((b+1)*cnt ps n+1) (cg ps n):=by
  revert n h;revert ps;intro ps;refine snoc_ind (M:=λps:List Pr=>(∀p∈ps,NB b p.2)->∀n,NB ((b+1)*cnt ps n+1) (cg ps n)) ?_ ?_ ps
  all_goals clear ps
  case refine_1=>exact λ_ n=>NB.zero (n:=0)
  case refine_2=>
   intro l a x h n;have I:=x (λp hp=>h p (QX _ hp)) n;have X:=h a (by simp);rw[eS];have e:cnt (l++[a]) n=cnt l n+(if a.1=n then 1 else 0):=by unfold cnt;rw[VP];simp[V3]
   rw[e];by_cases c:a.1=n
   · rw[if_pos c,if_pos c]
     refine(I.Hc X).mono ?_
     rw[Nat.mul_add,VL];lia
   · rw[if_neg c,if_neg c]
     exact I
theorem jD(h:∀p∈ps,Ok p.2)(n:Str):Ok (cg ps n):=by
 revert h;refine snoc_ind (M:=λps:List Pr=>(∀p∈ps,Ok p.2)->Ok (cg ps n)) (λ_=>lT) (λl a x h=>?_) ps;rw[eS];have I:=x (λp hp=>h p (QX _ hp));by_cases c:a.1=n
 .rw[if_pos c];exact Aw I (h a (by simp))
 .rw[if_neg c];exact I
def gW:List Pr->Str->Rat
 |[],_=>0
 |p::r,n=>(if p.1=n then nv p.2 else 0)+gW r n
theorem ig(ps qs:List Pr)(n:Str):gW (ps++qs) n=gW ps n+gW qs n:=by
 induction ps with
 |nil=>show gW qs n=0+gW qs n;grind
 |cons p r l=>show (if p.1=n then nv p.2 else 0)+gW (r++qs) n=(if p.1=n then nv p.2 else 0)+gW r n+gW qs n;rw[l];grind
theorem jB(h:∀p∈ps,Ok p.2)(n:Str):nv (cg ps n)=gW ps n:=by
 revert h;refine snoc_ind (M:=λps:List Pr=>(∀p∈ps,Ok p.2)->nv (cg ps n)=gW ps n) (λ_=>?_) (λl a x h=>?_) ps
 .exact jJ
 .have I:=x (λp hp=>h p (QX _ hp));have Y:=jD (λp hp=>h p (QX _ hp)) n;rw[eS,ig,<-I];show _=nv (cg l n)+((if a.1=n then nv a.2 else 0)+0);by_cases c:a.1=n
  .rw[if_pos c,if_pos c,Cf Y (h a (by simp))];grind
  .rw[if_neg c,if_neg c];grind
def sU(a b:Str):Prop:=¬ b.cps.toList<a.cps.toList/\a≠b
variable{b:Str}
theorem qV{a:Str}(h:¬ b.cps.toList<a.cps.toList)(k:¬ a.cps.toList<b.cps.toList):a=b:=by have e:a.cps.toList=b.cps.toList:=V4 (UO.mp h) (UO.mp k);obtain⟨⟨x⟩⟩:=a;obtain⟨⟨y⟩⟩:=b;have e:x=y:=e;rw[e]
theorem sU.asymm{a:Str}(h:sU a b)(k:sU b a):False:=h.2 (qV h.1 k.1)
theorem vP{α:Type}{f:α->Str}:∀{l m:List α},l.Pairwise (λa b=>sU (f a) (f b))->m.Pairwise (λa b=>sU (f a) (f b))->(∀a,a∈l↔a∈m)->l=m
 |[],m,_,_,h=>by
  cases m with
  |nil=>rfl
  |cons b m=>exact absurd ((h b).mpr (by simp)) (by simp)
 |a::l,[],_,_,h=>absurd ((h a).mp (by simp)) (by simp)
 |a::l,b::m,hl,hm,h=>by
  rw[SO] at hl hm;have N:a=b:=by
   rcases Ra.mp ((h a).mp (by simp)) with e|e
   .exact e
   .rcases Ra.mp ((h b).mpr (by simp)) with t|t
    .exact t.symm
    .exact(sU.asymm (hm.1 a e) (hl.1 b t)).elim
  subst N;rw[vP hl.2 hm.2 λc=>⟨λhc=>?_,λhc=>?_⟩]
  .rcases Ra.mp ((h c).mp (Q4 _ hc)) with e|e
   .subst e;exact((hl.1 c hc).2 rfl).elim
   .exact e
  .rcases Ra.mp ((h c).mpr (Q4 _ hc)) with e|e
   .subst e;exact((hm.1 c hc).2 rfl).elim
   .exact e
structure Canon(ps L:List Pr):Prop where
 rise:L.Pairwise (λa b=>sU a.1 b.1)
 mem:∀p:Pr,p∈L↔(p.2=cg ps p.1/\p.2≠(0,1))
theorem kT:∀{L:List Pr},L.Pairwise (λa b=>sU a.1 b.1)->(∀p∈L,gW L p.1=nv p.2)/\∀n,(∀p∈L,p.1≠n)->gW L n=0
 |[],_=>⟨λp hp=>(by cases hp),λn _=>rfl⟩
 |q::L,h=>by
  rw[SO] at h;obtain⟨I,X⟩:=kT h.2;refine⟨λp hp=>?_,λn hn=>?_⟩
  .rcases Ra.mp hp with e|e
   .subst e;show (if p.1=p.1 then nv p.2 else 0)+gW L p.1=nv p.2;rw[if_pos rfl,X p.1 λr y z=>(h.1 r y).2 z.symm]
    grind
   .show (if q.1=p.1 then nv q.2 else 0)+gW L p.1=nv p.2;rw[if_neg (h.1 p e).2,I p e]
    grind
  .show (if q.1=n then nv q.2 else 0)+gW L n=0;rw[if_neg (hn q (by simp)),X n λp hp=>hn p (Q4 _ hp)]
   grind
theorem gk{L:List Pr}(h:L.Pairwise (λa b=>sU a.1 b.1))(n:Str):cnt L n<=1:=by
 induction L with
 |nil=>exact R1 _
 |cons q L l=>
  rw[SO] at h;unfold cnt;rw[V3];by_cases c:q.1=n
  .have:L.countP (λp=>decide (p.1=n))=0:=List.countP_eq_zero.mpr λp hp=>by have:=(h.1 p hp).2;simp only[decide_eq_true_eq];exact λz=>this (c.trans z.symm)
   rw[this];simp[c]
  .have:=l h.2;unfold cnt at this;simp[c];exact this
end W
namespace M
open PySem L2
inductive A where
 |non|bl(b:Bool)|int(i:Int)|str(x:Str)|tup(xs:List A)|lst(xs:List A)|dic(kvs:List (Key×A))|exc(c:Str)|obj(c:Str)(fs:List (Str×A))|opq
structure Kx where
 K:QU
 mg:Str->Option Value
 P:Program
 w:World
mutual
inductive RA(k:Kx)(G:Hp):V->A->Prop
 |non:RA k G .non .non
 |bl(b:Bool):RA k G (.bl b) (.bl b)
 |int(i:Int):RA k G (.int i) (.int i)
 |str(x:Str):RA k G (.str x) (.str x)
 |tup{p:Addr}{vs:List V}{as:List A}(e:gv k.K G p vs)(r:bS k G vs as):RA k G (.ref p) (.tup as)
 |lst{p:Addr}{vs:List V}{as:List A}(e:gu k.K G p vs)(r:bS k G vs as):RA k G (.ref p) (.lst as)
 |dic{p:Addr}{vs:List (Key×V)}{as:List (Key×A)}(e:Rd G p (.dK vs))(r:fC k G vs as):RA k G (.ref p) (.dic as)
 |exc{p C:Addr}{c:Str}(e:G p=some (Ha p C))(m:k.mg c=some (.ref C)):RA k G (.ref p) (.exc c)
 |obj{p C dx:Addr}{c:Str}{vs:List (Str×V)}{fs:List (Str×A)}(e:G p=some (.ins C dx vs))(m:k.mg c=some (.ref C))(r:iZ k G vs fs):RA k G (.ref p) (.obj c fs)
 |opq{p:Addr}:RA k G (.ref p) .opq
inductive bS(k:Kx)(G:Hp):List V->List A->Prop
 |nil:bS k G [] []
 |cons{v:V}{a:A}{vs:List V}{as:List A}(h:RA k G v a)(r:bS k G vs as):bS k G (v::vs) (a::as)
inductive iZ(k:Kx)(G:Hp):List (Str×V)->List (Str×A)->Prop
 |nil:iZ k G [] []
 |cons{y:Str}{v:V}{a:A}{vs:List (Str×V)}{as:List (Str×A)}(h:RA k G v a)(r:iZ k G vs as):iZ k G ((y,v)::vs) ((y,a)::as)
inductive GR(k:Kx)(G:Hp):List (List Key×Addr×V)->List (List Key×A)->Prop
 |nil:GR k G [] []
 |cons{y:List Key}{b:Addr}{v:V}{a:A}{vs:List (List Key×Addr×V)}{as:List (List Key×A)}(e:gv k.K G b (y.map kV))(h:RA k G v a)(r:GR k G vs as):GR k G ((y,b,v)::vs) ((y,a)::as)
inductive fC(k:Kx)(G:Hp):List (Key×V)->List (Key×A)->Prop
 |nil:fC k G [] []
 |cons{y:Key}{v:V}{a:A}{vs:List (Key×V)}{as:List (Key×A)}(h:RA k G v a)(r:fC k G vs as):fC k G ((y,v)::vs) ((y,a)::as)
end
noncomputable def wO:HO->Option (List (Key×V))
 | .dK kvs=>some kvs
 | .frz _ (.dK kvs)=>some kvs
 |_=>none
def Oq(o o':HO):Prop:=o'=o\/∃kvs,wO o=some kvs/\wO o'=some kvs
variable{G:Hp}{kvs:List (Key×V)}
theorem gh{b:Addr}{o:HO}(h:G b=some o)(e:wO o=some kvs):Rd G b (.dK kvs):=by
 unfold wO at e;split at e
 .cases e;exact .inl h
 .cases e;exact .inr ⟨_,h⟩
 .cases e
theorem Mt{b:Addr}(h:Rd G b (.dK kvs)):∃o,G b=some o/\wO o=some kvs:=by
 rcases h with h|⟨o,h⟩
 .exact⟨_,h,rfl⟩
 .exact⟨_,h,rfl⟩
def Sq(G G':Hp):Prop:=∀b o,G b=some o->∃o',G' b=some o'/\Oq o o'
variable{G':Hp}
theorem Sq.of(h:Ph G G'):Sq G G':=λb o e=>⟨o,h b o e,.inl rfl⟩
theorem Sq.refl(G:Hp):Sq G G:=λb o e=>⟨o,e,.inl rfl⟩
theorem Sq.keep(h:Sq G G'){b:Addr}{o:HO}(e:G b=some o)(n:wO o=none):G' b=some o:=by
 obtain⟨o',h1,h2⟩:=h b o e;rcases h2 with rfl|⟨kvs,h3,_⟩
 .exact h1
 .rw[n] at h3;cases h3
theorem Sq.PQ(h:Sq G G'){b:Addr}(r:Rd G b (.dK kvs)):Rd G' b (.dK kvs):=by
 obtain⟨o,e,d⟩:=Mt r;obtain⟨o',h1,h2⟩:=h b o e;rcases h2 with rfl|⟨q,h3,h4⟩
 .exact gh h1 d
 .rw[d] at h3;cases h3;exact gh h1 h4
variable{p:Addr}{vs:List V}
theorem da{K:QU}(h:Sq G G')(q:gv K G p vs):gv K G' p vs:=q.imp (λr=>by
 rcases r with r|⟨o,r⟩
 .exact .inl (h.keep r rfl)
 .exact .inr ⟨o,h.keep r rfl⟩) id
theorem mS{K:QU}(h:Sq G G')(q:gu K G p vs):gu K G' p vs:=q.imp (λr=>by
 rcases r with r|⟨o,r⟩
 .exact .inl (h.keep r rfl)
 .exact .inr ⟨o,h.keep r rfl⟩) id
variable{v:V}
section
variable{k:Kx}{G G':Hp}
mutual
theorem RA.sm(s:Sq G G'):∀{v:V}{a:A},RA k G v a->RA k G' v a
 |_,_,.non=>.non
 |_,_,.bl b=>.bl b
 |_,_,.int i=>.int i
 |_,_,.str x=>.str x
 |_,_,.tup e r=>.tup (da s e) (bS.sm s r)
 |_,_,.lst e r=>.lst (mS s e) (bS.sm s r)
 |_,_,.dic e r=>.dic (s.PQ e) (fC.sm s r)
 |_,_,.exc e m=>.exc (s.keep e rfl) m
 |_,_,.obj e m r=>.obj (s.keep e rfl) m (iZ.sm s r)
 |_,_,.opq=>.opq
theorem iZ.sm(s:Sq G G'):∀{vs:List (Str×V)}{as:List (Str×A)},iZ k G vs as->iZ k G' vs as
 |_,_,.nil=>.nil
 |_,_,.cons h r=>.cons (RA.sm s h) (iZ.sm s r)
theorem bS.sm(s:Sq G G'):∀{vs:List V}{as:List A},bS k G vs as->bS k G' vs as
 |_,_,.nil=>.nil
 |_,_,.cons h r=>.cons (RA.sm s h) (bS.sm s r)
theorem GR.sm(s:Sq G G'):∀{vs:List (List Key×Addr×V)}{as:List (List Key×A)},GR k G vs as->GR k G' vs as
 |_,_,.nil=>.nil
 |_,_,.cons e h r=>.cons (da s e) (RA.sm s h) (GR.sm s r)
theorem fC.sm(s:Sq G G'):∀{vs:List (Key×V)}{as:List (Key×A)},fC k G vs as->fC k G' vs as
 |_,_,.nil=>.nil
 |_,_,.cons h r=>.cons (RA.sm s h) (fC.sm s r)
end
theorem bS.len:∀{vs:List V}{as:List A},bS k G vs as->vs.length=as.length
 |_,_,.nil=>rfl
 |_,_,.cons _ r=>by rw[Q6,Q6,r.len]
theorem bS.ta:∀{vs:List V}{as:List A}{i:Nat}{a:A},bS k G vs as->as[i]?=some a->∃v,vs[i]?=some v/\RA k G v a
 |_,_,_,_,.nil,e=>by simp at e
 |_,_,0,_,.cons h _,e=>by cases e;exact⟨_,rfl,h⟩
 |_,_,i+1,_,.cons _ r,e=>r.ta (i:=i) e
theorem bS.app:∀{vs us:List V}{as bs:List A},bS k G vs as->bS k G us bs->bS k G (vs++us) (as++bs)
 |_,_,_,_,.nil,s=>s
 |_,_,_,_,.cons h r,s=>.cons h (r.app s)
theorem bS.snoc{as:List A}{a:A}(r:bS k G vs as)(h:RA k G v a):bS k G (vs++[v]) (as++[a]):=r.app (.cons h .nil)
theorem bS.rev:∀{vs:List V}{as:List A},bS k G vs as->bS k G vs.reverse as.reverse
 |_,_,.nil=>.nil
 |_,_,.cons h r=>by rw[SW,SW];exact r.rev.snoc h
theorem bS.take:∀{vs:List V}{as:List A}(n:Nat),bS k G vs as->bS k G (vs.take n) (as.take n)
 |_,_,0,_=>.nil
 |_,_,_+1,.nil=>.nil
 |_,_,n+1,.cons h r=>.cons h (r.take n)
theorem bS.drop:∀{vs:List V}{as:List A}(n:Nat),bS k G vs as->bS k G (vs.drop n) (as.drop n)
 |_,_,0,r=>r
 |_,_,_+1,.nil=>.nil
 |_,_,n+1,.cons _ r=>r.drop n
theorem bS.set{v:V}{a:A}(h:RA k G v a):∀{vs:List V}{as:List A}(i:Nat),bS k G vs as->bS k G (vs.set i v) (as.set i a)
 |_,_,_,.nil=>.nil
 |_,_,0,.cons _ r=>.cons h r
 |_,_,i+1,.cons q r=>.cons q (r.set h i)
theorem bS.strs:∀{vs:List V}{ss:List Str},bS k G vs (ss.map A.str)->vs=ss.map V.str
 |_,[],.nil=>rfl
 |_,_::ss,.cons h r=>by cases h;rw[r.strs (ss:=ss)];rfl
theorem bS.ofStrs:∀(ss:List Str),bS k G (ss.map V.str) (ss.map A.str)
 |[]=>.nil
 |s::ss=>.cons (.str s) (bS.ofStrs ss)
theorem iZ.len:∀{vs:List (Str×V)}{as:List (Str×A)},iZ k G vs as->vs.length=as.length
 |_,_,.nil=>rfl
 |_,_,.cons _ r=>by rw[Q6,Q6,r.len]
theorem iZ.get:∀{vs:List (Str×V)}{as:List (Str×A)}(y:Str),iZ k G vs as->(∃v a,vs.lookup y=some v/\as.lookup y=some a/\RA k G v a)\/(vs.lookup y=none/\as.lookup y=none)
 |_,_,y,.nil=>.inr ⟨rfl,rfl⟩
 |_,_,y,.cons (y:=z) (v:=v) (a:=a) h r=>by
  rw[Rk,Rk];cases c:y==z with
  |true=>exact .inl ⟨v,a,rfl,rfl,h⟩
  |false=>exact r.get y
def oO(f:Str)(a:A):List (Str×A)->List (Str×A)
 |[]=>[(f,a)]
 |(g,b)::fs=>if g=f then (g,a)::fs else (g,b)::oO f a fs
theorem iZ.put{f:Str}{v:V}{a:A}(h:RA k G v a):∀{vs:List (Str×V)}{as:List (Str×A)},iZ k G vs as->iZ k G (fS f v vs) (oO f a as)
 |_,_,.nil=>.cons h .nil
 |_,_,.cons (y:=z) q r=>by
  unfold fS oO;split
  .exact .cons h r
  .exact .cons q (iZ.put h r)
noncomputable def gi{α:Type}(as:List (Key×α))(y:Key):Option α:=(as.find? λq=>decide (q.1=y)).map (·.2)
noncomputable def hE{α:Type}(as:List (Key×α))(y:Key)(a:α):List (Key×α):=
 if (as.any λq=>decide (q.1=y))=true then as.map λq=>if q.1=y then (q.1,a) else q else as++[(y,a)]
theorem fC.len:∀{vs:List (Key×V)}{as:List (Key×A)},fC k G vs as->vs.length=as.length
 |_,_,.nil=>rfl
 |_,_,.cons _ r=>by rw[Q6,Q6,r.len]
theorem fC.keys:∀{vs:List (Key×V)}{as:List (Key×A)},fC k G vs as->vs.map (·.1)=as.map (·.1)
 |_,_,.nil=>rfl
 |_,_,.cons _ r=>by rw[Ri,Ri,r.keys]
theorem fC.app:∀{vs us:List (Key×V)}{as bs:List (Key×A)},fC k G vs as->fC k G us bs->fC k G (vs++us) (as++bs)
 |_,_,_,_,.nil,s=>s
 |_,_,_,_,.cons h r,s=>.cons h (r.app s)
theorem fC.get:∀{vs:List (Key×V)}{as:List (Key×A)}(y:Key),fC k G vs as->(∃v a,kb vs y=some v/\gi as y=some a/\RA k G v a)\/(kb vs y=none/\gi as y=none)
 |_,_,y,.nil=>.inr ⟨rfl,rfl⟩
 |_,_,y,.cons (y:=z) (v:=v) (a:=a) (vs:=vs) (as:=as) h r=>by
  unfold kb gi;by_cases c:z=y
  .left;exact⟨v,a,by simp[RL,c],by simp[RL,c],h⟩
  .have:=fC.get y r;unfold kb gi at this;simpa[RL,c] using this
theorem fC.any:∀{vs:List (Key×V)}{as:List (Key×A)}(y:Key),fC k G vs as->(vs.any λq=>decide (q.1=y))=(as.any λq=>decide (q.1=y))
 |_,_,y,.nil=>rfl
 |_,_,y,.cons h r=>by rw[Ss,Ss,fC.any y r]
theorem fC.tW{v:V}{a:A}(y:Key)(h:RA k G v a):∀{vs:List (Key×V)}{as:List (Key×A)},fC k G vs as->fC k G (vs.map λs=>if s.1=y then (s.1,v) else s) (as.map λs=>if s.1=y then (s.1,a) else s)
 |_,_,.nil=>.nil
 |_,_,.cons (y:=z) q r=>by
  rw[Ri,Ri];by_cases c:z=y
  .simp only[c,if_true];exact .cons h (fC.tW y h r)
  .simp only[c,if_false];exact .cons q (fC.tW y h r)
theorem fC.put{vs:List (Key×V)}{as:List (Key×A)}{a:A}(y:Key)(r:fC k G vs as)(h:RA k G v a):fC k G (putK vs y v) (hE as y a):=by
 unfold putK hE;rw[r.any y];split
 .exact fC.tW y h r
 .exact r.app (.cons h .nil)
end
noncomputable def cut(H:Hp)(L:List Addr):Hp:=λa=>if a∈L then none else H a
variable{H:Hp}{L:List Addr}
theorem BS{a:Addr}(h:a∈L):cut H L a=none:=if_pos h
theorem qt{a:Addr}(h:a∉L):cut H L a=H a:=if_neg h
theorem A0(H:Hp)(L:List Addr):Sq (cut H L) H:=Sq.of λb o e=>by
 unfold cut at e;split at e
 .cases e
 .exact e
variable{L':List Addr}
theorem zg(h:∀a,a∈L'->a∈L):Sq (cut H L) (cut H L'):=Sq.of λb o e=>by
 by_cases c:b∈L
 .rw[BS c] at e;cases e
 .rw[qt c] at e;rw[qt λz=>c (h b z)];exact e
def QP:List (List Key×Addr×V)->List (List Key×Addr×Value)->Prop:=Paired λx y=>x.1=y.1/\x.2.1=y.2.1/\RelV x.2.2 y.2.2
def dX(P:Program)(w:World)(p:Addr)(xs:List (List Key×Addr×V)):HO:=.ext λh=>xs.length<=sizeLine/\(p==sysModules)=false/\∃ys,QP xs ys /\
 ∃o es ep,h.get? p=some o/\o.ExactDict/\o.data=.dict es ep/\es.toList=ys.map (entryOfKey (tupleKind (ba P w)))/\(ys.map (·.1)).Nodup
inductive LO where
 |lst(xs:List A)|dic(kvs:List (Key×A))|obj(c:Str)(fs:List (Str×A))|dit(kvs:List (List Key×A))|nob(c:Str)(fs:List (Str×A))(ls:List (Str×List A))
def LO.a:LO->A
 | .lst xs=>.lst xs
 | .dic kvs=>.dic kvs
 | .obj c fs=>.obj c fs
 | .dit _=>.opq
 | .nob c fs ls=>.obj c (fs++ls.map λp=>(p.1,.lst p.2))
def LO.rd:LO->Option A
 | .lst xs=>some (.lst xs)
 | .dic kvs=>some (.dic kvs)
 | .obj c fs=>some (.obj c fs)
 | .dit _=>some .opq
 | .nob _ _ _=>none
inductive Sl where
 |un|fr(a:A)|lv(o:LO)|pv(o:LO)
inductive kH(k:Kx)(G H:Hp):List (Str×V)->List (Str×List A)->List Addr->Prop
 |nil:kH k G H [] [] []
 |cons{y:Str}{a:Addr}{us:List V}{xs:List A}{ws:List (Str×V)}{ls:List (Str×List A)}{q:List Addr}(e:H a=some (.lst us))(r:bS k G us xs)(t:kH k G H ws ls q):kH k G H ((y,.ref a)::ws) ((y,xs)::ls) (a::q)
inductive LR(k:Kx)(G H:Hp)(p:Addr):LO->List Addr->Prop
 |lst{vs:List V}{as:List A}(e:H p=some (.lst vs))(r:bS k G vs as):LR k G H p (.lst as) []
 |dic{vs:List (Key×V)}{as:List (Key×A)}(e:H p=some (.dK vs))(r:fC k G vs as):LR k G H p (.dic as) []
 |obj{C dx:Addr}{c:Str}{vs:List (Str×V)}{fs:List (Str×A)}(e:H p=some (.ins C dx vs))(m:k.mg c=some (.ref C))(r:iZ k G vs fs):LR k G H p (.obj c fs) []
 |dit{vs:List (List Key×Addr×V)}{as:List (List Key×A)}(e:H p=some (dX k.P k.w p vs))(r:GR k G vs as):LR k G H p (.dit as) []
 |nob{C dx:Addr}{c:Str}{vs ws:List (Str×V)}{fs:List (Str×A)}{ls:List (Str×List A)}{q:List Addr}(e:H p=some (.ins C dx (vs++ws)))(m:k.mg c=some (.ref C))(r:iZ k G vs fs)(l:kH k G H ws ls q):LR k G H p (.nob c fs ls) q
inductive dR(k:Kx)(G H:Hp):Option V->Sl->List Addr->Prop
 |un(x:Option V):dR k G H x .un []
 |fr{v:V}{a:A}(h:RA k G v a):dR k G H (some v) (.fr a) []
 |lv{p:Addr}{o:LO}{q:List Addr}(h:LR k G H p o q):dR k G H (some (.ref p)) (.lv o) (p::q)
 |pv{p:Addr}{o:LO}{q:List Addr}(h:LR k G H p o q):dR k G H (some (.ref p)) (.pv o) (p::q)
inductive aA(k:Kx)(G H:Hp):St->List Sl->List Addr->Prop
 |nil:aA k G H [] [] []
 |cons{x:Option V}{s:Sl}{Y:St}{Z:List Sl}{L L':List Addr}(h:dR k G H x s L)(r:aA k G H Y Z L'):aA k G H (x::Y) (s::Z) (L++L')
variable{ws:List (Str×V)}{q:List Addr}
section
variable{k:Kx}{G G' H H':Hp}{L:List Addr}
theorem kH.is{ls:List (Str×List A)}(h:kH k G H ws ls q):∀a∈q,∃u,H a=some u:=by
 induction h with
 |nil=>intro a ha;cases ha
 |cons e r t l=>intro b d;rcases Ra.mp d with rfl|d;exact⟨_,e⟩;exact l b d
theorem kH.sm(s:Sq G G'){ws:List (Str×V)}{ls:List (Str×List A)}{q:List Addr}(h:kH k G H ws ls q):(∀a∈q,∀u,H a=some u->H' a=some u)->kH k G' H' ws ls q:=by
 induction h with
 |nil=>intro _;exact .nil
 |cons e r t l=>intro k;exact .cons (k _ Rb _ e) (r.sm s) (l λb d=>k b (Q4 _ d))
theorem kH.a(s:Sq G G'){ws:List (Str×V)}{ls:List (Str×List A)}{q:List Addr}(h:kH k G H ws ls q):(∀a∈q,∀u,H a=some u->G' a=some u)->iZ k G' ws (ls.map λp=>(p.1,A.lst p.2)):=by
 induction h with
 |nil=>intro _;exact .nil
 |cons e r t l=>intro k;exact .cons (.lst (.inl (.inl (k _ Rb _ e))) (r.sm s)) (l λb d=>k b (Q4 _ d))
theorem iZ.app{vs:List (Str×V)}{as bs:List (Str×A)}(h:iZ k G vs as)(h':iZ k G ws bs):iZ k G (vs++ws) (as++bs):=by
 induction vs generalizing as with
 |nil=>cases h;exact h'
 |cons v vs l=>cases h with|cons q r=>exact .cons q (l r)
theorem LR.is{p:Addr}{o:LO}{q:List Addr}(h:LR k G H p o q):∀a∈p::q,∃u,H a=some u:=by
 intro a ha;rcases Ra.mp ha with rfl|ha
 .cases h with|lst e _=>exact⟨_,e⟩|dic e _=>exact⟨_,e⟩|obj e _ _=>exact⟨_,e⟩|dit e _=>exact⟨_,e⟩|nob e _ _ _=>exact⟨_,e⟩
 .cases h with|lst e _=>cases ha|dic e _=>cases ha|obj e _ _=>cases ha|dit e _=>cases ha|nob _ _ _ l=>exact l.is a ha
theorem LR.sm(s:Sq G G'){p:Addr}{o:LO}{q:List Addr}(e:∀a∈p::q,∀u,H a=some u->H' a=some u)(h:LR k G H p o q):LR k G' H' p o q:=by
 have X:=e p Rb;cases h with
 |lst q r=>exact .lst (X _ q) (r.sm s)
 |dic q r=>exact .dic (X _ q) (r.sm s)
 |obj q m r=>exact .obj (X _ q) m (r.sm s)
 |dit q r=>exact .dit (X _ q) (r.sm s)
 |nob q m r l=>exact .nob (X _ q) m (r.sm s) (l.sm s λa ha=>e a (Q4 _ ha))
theorem dR.is{x:Option V}{t:Sl}(h:dR k G H x t L):∀p∈L,∃u,H p=some u:=by
 cases h with
 |un=>intro p hp;cases hp
 |fr=>intro p hp;cases hp
 |lv h=>exact h.is
 |pv h=>exact h.is
theorem dR.sm(s:Sq G G'){x:Option V}{t:Sl}(e:∀p∈L,∀u,H p=some u->H' p=some u)(h:dR k G H x t L):dR k G' H' x t L:=by
 cases h with
 |un=>exact .un _
 |fr h=>exact .fr (h.sm s)
 |lv h=>exact .lv (h.sm s e)
 |pv h=>exact .pv (h.sm s e)
theorem aA.is:∀{Y:St}{Z:List Sl}{L:List Addr},aA k G H Y Z L->∀p∈L,∃u,H p=some u
 |_,_,_,.nil,p,hp=>by cases hp
 |_,_,_,.cons h r,p,hp=>(QW.mp hp).elim (h.is p) (r.is p)
theorem aA.sm(s:Sq G G'):∀{Y:St}{Z:List Sl}{L:List Addr},(∀p∈L,∀u,H p=some u->H' p=some u)->aA k G H Y Z L->aA k G' H' Y Z L
 |_,_,_,_,.nil=>.nil
 |_,_,_,e,.cons h r=>.cons (h.sm s λp hp=>e p (QX _ hp)) (r.sm s λp hp=>e p (QV _ hp))
theorem aA.len:∀{Y:St}{Z:List Sl}{L:List Addr},aA k G H Y Z L->Y.length=Z.length
 |_,_,_,.nil=>rfl
 |_,_,_,.cons _ r=>by rw[Q6,Q6,r.len]
theorem aA.at:∀{Y:St}{Z:List Sl}{L:List Addr}{i:Nat}{s:Sl},aA k G H Y Z L->Z[i]?=some s->
  ∃x v L2 m,Y[i]?=some x/\dR k G H x s L2/\L=v++L2++m/\∀{G' H':Hp}{y:Option V}{t:Sl}{L':List Addr},Sq G G'->(∀p∈v++m,∀u,H p=some u->H' p=some u)->dR k G' H' y t L'->aA k G' H' (Y.set i y) (Z.set i t) (v++L'++m)
 |_,_,_,_,_,.nil,e=>by simp at e
 |_,_,_,0,_,.cons (x:=x) (L:=L) (L':=L') h r,e=>by cases e;refine⟨x,[],L,L',rfl,h,by simp,λsm e q=>?_⟩;simp only[List.set_cons_zero,SN];exact .cons q (r.sm sm (by simpa using e))
 |_,_,_,i+1,_,.cons (L:=L) h r,e=>by obtain⟨x,v,L2,m,F,j,Q,C⟩:=aA.at (i:=i) r e;refine⟨x,L++v,L2,m,F,j,by rw[Q];simp,λsm e q=>?_⟩;simp only[List.set_cons_succ];have:=aA.cons (h.sm sm λp hp=>e p (by simp[hp])) (C sm (λp hp=>e p (by rcases QW.mp hp with z|z<;>simp[z])) q);simpa[QZ] using this
theorem aA.app:∀{Y B:St}{Z θ:List Sl}{L L':List Addr},aA k G H Y Z L->aA k G H B θ L'->aA k G H (Y++B) (Z++θ) (L++L')
 |_,_,_,_,_,_,.nil,s=>s
 |_,_,_,_,_,_,.cons h r,s=>by have:=aA.cons h (r.app s);simpa[QZ] using this
theorem aA.split:∀{Y B:St}{Z θ:List Sl}{L:List Addr},Y.length=Z.length->aA k G H (Y++B) (Z++θ) L->∃v L2,L=v++L2/\aA k G H Y Z v/\aA k G H B θ L2
 |[],_,[],_,L,_,h=>⟨[],L,rfl,.nil,h⟩
 |x::Y,B,s::Z,θ,_,e,.cons (L:=L) h r=>by obtain⟨v,L2,F,u,n⟩:=aA.split (by simpa using e) r;exact⟨L++v,L2,by rw[F];simp,.cons h u,n⟩
 |_::_,_,[],_,_,e,_=>by simp at e
 |[],_,_::_,_,_,e,_=>by simp at e
theorem aA.lR:∀{vs:List V}{as:List A},bS k G vs as->aA k G H (vs.map some) (as.map Sl.fr) []
 |_,_,.nil=>.nil
 |_,_,.cons h r=>aA.cons (L:=[]) (.fr h) (aA.lR r)
theorem aA.Gw:∀{vs:List V}{as:List A}{L:List Addr},aA k G H (vs.map some) (as.map Sl.fr) L->L=[]/\bS k G vs as
 |[],[],_,.nil=>⟨rfl,.nil⟩
 |v::vs,a::as,_,.cons h r=>by
  cases h with
  |fr h=>obtain⟨e,q⟩:=aA.Gw r;exact⟨by rw[e];rfl,.cons h q⟩
end
structure Cn extends Kx where
 σ0:St
 H0:Hp
 Lp:List Addr
 Hd:List Addr
 Wk:List (Addr×HO)
def Cn.g(c:Cn)(H:Hp)(L:List Addr):Hp:=cut H (L++c.Hd)
structure Fr(c:Cn)(H:Hp):Prop where
 st:∀b o,c.H0 b=some o->∃u,H b=some u/\(b∉c.Lp->(∀w,(b,w)∉c.Wk)->u=o)
 pk:∀p∈c.Wk,H p.1=some p.2/\(∃ob vs,p.2=.frz ob (.dK vs))/\p.1∉c.Hd
variable{c:Cn}
theorem Fr.new{o:HO}(f:Fr c H)(h:H p=none):Fr c (upd H p o):=⟨λb u e=>by
 obtain⟨w,h1,h2⟩:=f.st b u e;exact⟨w,by rw[aF (aS h1 h)];exact h1,h2⟩,λq j=>by
 obtain⟨h1,h2⟩:=f.pk q j;exact⟨by rw[aF (aS h1 h)];exact h1,h2⟩⟩
theorem Fr.fresh(f:Fr c H)(h:H p=none):c.H0 p=none:=by
 cases e:c.H0 p with
 |none=>rfl
 |some o=>obtain⟨u,h1,_⟩:=f.st p o e;rw[h] at h1;cases h1
def fZ(σ0 Y:St)(Z:List Sl):Prop:=∀(i:Nat)(o:LO),Z[i]?=some (Sl.pv o)->Y[i]?=σ0[i]?
structure fF(c:Cn)(Y:St)(H:Hp)(Z:List Sl)(B:St)(θ:List Sl)(L:List Addr):Prop where
 nd:L.Nodup
 rel:aA c.toKx (c.g H L) H (B++Y) (θ++Z) L
 own:∀p∈L,p∈c.Lp\/c.H0 p=none
 fr:Fr c H
 kp:fZ c.σ0 Y Z
 lt:B.length=θ.length
 hd:∀p∈c.Hd,(∃u,c.H0 p=some u)/\p∉c.Lp
theorem g_same(c:Cn)(H:Hp)(L:List Addr):Sq (c.g H L) H:=A0 _ _
theorem c0(h:∀a,a∈L'->a∈L):Sq (c.g H L) (c.g H L'):=zg λa ha=>by
 rcases QW.mp ha with z|z
 .exact QX _ (h a z)
 .exact QV _ z
theorem f6{a:Addr}(h:a∈L\/a∈c.Hd):c.g H L a=none:=BS (by simpa using h)
theorem br{a:Addr}(h:a∉L)(h':a∉c.Hd):c.g H L a=H a:=qt (by simp[h,h'])
variable{Y B:St}{Z θ:List Sl}
theorem fF.xj(b:fF c Y H Z B θ L)(h:p∈L):p∉c.Hd:=λz=>by
 obtain⟨⟨u,e⟩,n⟩:=b.hd p z;rcases b.own p h with y|y
 .exact n y
 .rw[y] at e;cases e
theorem fF.Oj(b:fF c Y H Z B θ L)(h:H p=none):p∉c.Hd:=λz=>by obtain⟨⟨u,e⟩,n⟩:=b.hd p z;rw[b.fr.fresh h] at e;cases e
def Bd(c:Cn)(Y:St)(H:Hp)(Z:List Sl)(B:St)(θ:List Sl):Prop:=∃L,fF c Y H Z B θ L
variable{s:Sl}{u:HO}{o o':LO}{k:Kx}{i:Nat}{α:Type}
section
variable{c:Cn}{Y:St}{H:Hp}{Z:List Sl}{B:St}{θ:List Sl}
theorem Bd.i6(b:Bd c Y H Z B θ):Y.length=Z.length:=by obtain⟨L,b⟩:=b;have:=b.rel.len;rw[Rc,Rc,b.lt] at this;lia
theorem Bd.push{a:A}(b:Bd c Y H Z B θ)(h:∀G,RA c.toKx G v a):Bd c Y H Z (some v::B) (.fr a::θ):=by obtain⟨L,b⟩:=b;exact⟨L,b.nd,aA.cons (L:=[]) (.fr (h _)) b.rel,b.own,b.fr,b.kp,by simp[b.lt],b.hd⟩
theorem Bd.pop{x:Option V}(b:Bd c Y H Z (x::B) (s::θ)):Bd c Y H Z B θ:=by
 obtain⟨L,b⟩:=b;obtain⟨nd,rel,own,fr,kp,lt,z⟩:=b;have rel:aA c.toKx (c.g H L) H (x::(B++Y)) (s::(θ++Z)) L:=rel;cases rel with
 |cons h r=>rename_i v L2;exact⟨L2,(Q8.mp nd).2.1,r.sm (c0 λa ha=>QV _ ha) (λ_ _ _ e=>e),λp hp=>own p (QV _ hp),fr,kp,by simpa using lt,z⟩
theorem Bd.El:∀{xs:St}{ss:List Sl},xs.length=ss.length->Bd c Y H Z (xs++B) (ss++θ)->Bd c Y H Z B θ
 |[],[],_,b=>b
 |x::xs,s::ss,e,b=>Bd.El (xs:=xs) (ss:=ss) (by simpa using e) (Bd.pop b)
 |[],_::_,e,_=>by simp at e
 |_::_,[],e,_=>by simp at e
theorem Bd.new{p:Addr}{o:HO}(b:Bd c Y H Z B θ)(h:H p=none):Bd c Y (upd H p o) Z B θ:=by
 obtain⟨L,b⟩:=b;have hp:p∉L:=λz=>by obtain⟨u,e⟩:=b.rel.is p z;rw[h] at e;cases e
 refine⟨L,b.nd,b.rel.sm (Sq.of λa u e=>?_) (λq j u e=>by rw[aF (aS e h)];exact e),b.own,b.fr.new h,b.kp,b.lt,b.hd⟩;by_cases z:a∈L\/a∈c.Hd
 .rw[f6 z] at e;cases e
 .rw[br (λy=>z (.inl y)) (λy=>z (.inr y))] at e;rw[br (λy=>z (.inl y)) (λy=>z (.inr y)),aF (aS e h)];exact e
theorem Bd.lR{as:List A}(b:Bd c Y H Z (vs.map some++B) (as.map Sl.fr++θ))(e:vs.length=as.length):∃L,fF c Y H Z B θ L/\bS c.toKx (c.g H L) vs as:=by obtain⟨L,b⟩:=b;have r:=b.rel;rw[QZ,QZ] at r;obtain⟨v,L2,F,k,n⟩:=aA.split (by simp[e]) r;obtain⟨z,h⟩:=aA.Gw k;subst z;have F:L=L2:=F;subst F;exact⟨L,⟨b.nd,n,b.own,b.fr,b.kp,by have:=b.lt;simp at this;lia,b.hd⟩,h⟩
theorem fF.push{a:A}(b:fF c Y H Z B θ L)(h:RA c.toKx (c.g H L) v a):Bd c Y H Z (some v::B) (.fr a::θ):=
 ⟨L,b.nd,aA.cons (L:=[]) (.fr h) b.rel,b.own,b.fr,b.kp,by simp[b.lt],b.hd⟩
theorem fF.new{L:List Addr}{p:Addr}{o:HO}(b:fF c Y H Z B θ L)(h:H p=none):fF c Y (upd H p o) Z B θ L/\Sq (c.g H L) (c.g (upd H p o) L)/\p∉L:=by
 have hp:p∉L:=λz=>by obtain⟨u,e⟩:=b.rel.is p z;rw[h] at e;cases e
 have sm:Sq (c.g H L) (c.g (upd H p o) L):=Sq.of λa u e=>by
  by_cases z:a∈L\/a∈c.Hd
  .rw[f6 z] at e;cases e
  .rw[br (λy=>z (.inl y)) (λy=>z (.inr y))] at e;rw[br (λy=>z (.inl y)) (λy=>z (.inr y)),aF (aS e h)];exact e
 exact⟨⟨b.nd,b.rel.sm sm (λq j u e=>by rw[aF (aS e h)];exact e),b.own,b.fr.new h,b.kp,b.lt,b.hd⟩,sm,hp⟩
theorem Bd.Au{as:List A}(b:Bd c Y H Z (vs.map some++B) (as.map Sl.fr++θ))(e:vs.length=as.length)(h:H p=none)(ws:List V)(bs:List A)(r:∀G,bS c.toKx G vs as->bS c.toKx G ws bs):
  Bd c Y (upd H p (.tup ws)) Z (some (.ref p)::B) (.fr (.tup bs)::θ):=by
 obtain⟨L,bl,s⟩:=b.lR e;obtain⟨b2,sm,hp⟩:=bl.new (o:=.tup ws) h;exact b2.push (.tup (.inl (.inl (by rw[br hp (bl.Oj h)];exact bW))) (r _ (s.sm sm)))
theorem fF.gZ(b:fF c Y H Z B θ L)(h:H p=none)(r:∀G H',Sq (c.g H L) G->H' p=some u->LR c.toKx G H' p o []):Bd c Y (upd H p u) Z (some (.ref p)::B) (.lv o::θ):=by
 have hp:p∉L:=λz=>by obtain⟨u,e⟩:=b.rel.is p z;rw[h] at e;cases e
 have sm:Sq (c.g H L) (c.g (upd H p u) (p::L)):=Sq.of λa w e=>by
  by_cases z:a∈L\/a∈c.Hd
  .rw[f6 z] at e;cases e
  .rw[br (λy=>z (.inl y)) (λy=>z (.inr y))] at e;have m:=aS e h;rw[br (λy=>by rcases Ra.mp y with y|y;exact m y;exact z (.inl y)) (λy=>z (.inr y)),aF m];exact e
 refine⟨p::L,Ry.mpr ⟨hp,b.nd⟩,aA.cons (L:=[p]) (.lv (r _ _ sm bW)) (b.rel.sm sm (λq j w e=>by rw[aF (aS e h)];exact e)),λq j=>?_,b.fr.new h,b.kp,by simp[b.lt],b.hd⟩;rcases Ra.mp j with z|z
 .subst z;exact .inr (b.fr.fresh h)
 .exact b.own q z
theorem Bd.uL{as:List A}(b:Bd c Y H Z (vs.map some++B) (as.map Sl.fr++θ))(e:vs.length=as.length)(h:H p=none)(ws:List V)(bs:List A)(r:∀G,bS c.toKx G vs as->bS c.toKx G ws bs):
  Bd c Y (upd H p (.lst ws)) Z (some (.ref p)::B) (.lv (.lst bs)::θ):=by
 obtain⟨L,bl,s⟩:=b.lR e;exact bl.gZ h λG H' sm q=>.lst q (r _ (s.sm sm))
theorem LR.a{k:Kx}{G H:Hp}{p:Addr}{o:LO}{q:List Addr}{a:A}(h:LR k G H p o q)(sm:Sq G H)(ea:o.rd=some a):RA k H (.ref p) a:=by
 cases h with
 |lst e r=>cases ea;exact .lst (.inl (.inl e)) (r.sm sm)
 |dic e r=>cases ea;exact .dic (.inl e) (r.sm sm)
 |obj e m r=>cases ea;exact .obj e m (r.sm sm)
 |dit e r=>cases ea;exact .opq
 |nob=>cases ea
theorem LR.a'(h:LR k G H p o q)(sm:Sq G G')(e:∀a∈p::q,∀u,H a=some u->G' a=some u):RA k G' (.ref p) o.a:=by
 have X:=e p Rb;cases h with
 |lst q r=>exact .lst (.inl (.inl (X _ q))) (r.sm sm)
 |dic q r=>exact .dic (.inl (X _ q)) (r.sm sm)
 |obj q m r=>exact .obj (X _ q) m (r.sm sm)
 |dit e r=>exact .opq
 |nob q m r l=>exact .obj (X _ q) m ((r.sm sm).app (l.a sm λa ha=>e a (Q4 _ ha)))
def Sl.a:Sl->Option A
 | .fr a=>some a
 | .lv o=>o.rd
 | .pv o=>o.rd
 | .un=>none
theorem dR.read{x:Option V}{a:A}(h:dR k G H x s L)(sm:Sq G H)(e:s.a=some a):∃v,x=some v/\RA k H v a:=by
 cases h with
 |un=>cases e
 |fr h=>cases e;exact⟨_,rfl,h.sm sm⟩
 |lv h=>exact⟨_,rfl,h.a sm e⟩
 |pv h=>exact⟨_,rfl,h.a sm e⟩
theorem fZ.set{σ0 Y:St}{Z:List Sl}{i:Nat}{t:Sl}{y:Option V}(k:fZ σ0 Y Z)(h:∀o,Z[i]?≠some (.pv o))(hi:i<Z.length)(e:∀o,t≠.pv o):fZ σ0 (Y.set i y) (Z.set i t):=λj o q=>by
 by_cases z:j=i
 .subst z;rw[Rp hi] at q;exact absurd (Q9 q) (e o)
 .rw[Rz (Sd z)] at q ⊢;exact k j o q
theorem fZ.Fx{σ0:St}{t:Sl}(k:fZ σ0 Y Z)(h:∀o,t=.pv o->∃o',Z[i]?=some (.pv o')):fZ σ0 Y (Z.set i t):=λj o q=>by
 by_cases z:j=i
 .subst z;by_cases hi:j<Z.length
  .rw[Rp hi] at q;obtain⟨o',e⟩:=h o (Q9 q);exact k j o' e
  .rw[T5 (by simp;lia)] at q;cases q
 .rw[Rz (Sd z)] at q;exact k j o q
theorem Bd.slot{a:A}(b:Bd c Y H Z B θ)(e:Z[i]?=some s)(ea:s.a=some a):∃v,Y[i]?=some (some v)/\RA c.toKx H v a:=by obtain⟨L,b⟩:=b;obtain⟨z,L2,F,k,n⟩:=aA.split b.lt b.rel;obtain⟨x,_,_,_,w,u,_⟩:=n.at e;obtain⟨v,rfl,h⟩:=u.read (g_same _ _ _) ea;exact⟨v,w,h⟩
theorem Bd.Gg(b:Bd c Y H Z B θ)(e:Z[i]?=some (.lv o)\/Z[i]?=some (.pv o)):∃p,Y[i]?=some (some (.ref p)):=by
 obtain⟨L,b⟩:=b;obtain⟨v,L2,F,k,n⟩:=aA.split b.lt b.rel;rcases e with e|e
 .obtain⟨x,_,_,_,w,u,_⟩:=n.at e;cases u;exact⟨_,w⟩
 .obtain⟨x,_,_,_,w,u,_⟩:=n.at e;cases u;exact⟨_,w⟩
theorem Bd.load{a:A}(b:Bd c Y H Z B θ)(e:Z[i]?=some (.fr a)):∃v,Y[i]?=some (some v)/\Bd c Y H Z (some v::B) (.fr a::θ):=by
 obtain⟨L,b⟩:=b;obtain⟨z,L2,F,k,n⟩:=aA.split b.lt b.rel;obtain⟨x,_,_,_,w,u,_⟩:=n.at e;cases u with
 |fr h=>exact⟨_,w,b.push h⟩
theorem kH.nf{ls:List (Str×List A)}(h:kH k G H ws ls q):∀a∈q,∀ob w,H a≠some (.frz ob w):=by
 induction h with
 |nil=>intro a ha;cases ha
 |cons e r t l=>intro b d ob w z;rcases Ra.mp d with rfl|d;rw[e] at z;cases z;exact l b d ob w z
theorem LR.nf{k:Kx}{G H:Hp}{p:Addr}{o:LO}{q:List Addr}(h:LR k G H p o q):∀a∈p::q,∀ob w,H a≠some (.frz ob w):=by
 intro a ha ob w z;rcases Ra.mp ha with rfl|ha
 .cases h with|lst e _=>rw[e] at z;cases z|dic e _=>rw[e] at z;cases z|obj e _ _=>rw[e] at z;cases z|dit e _=>rw[e] at z;cases z|nob e _ _ _=>rw[e] at z;cases z
 .cases h with|lst e _=>cases ha|dic e _=>cases ha|obj e _ _=>cases ha|dit e _=>cases ha|nob _ _ _ l=>exact l.nf a ha ob w z
theorem kC{A B C:List α}(n:(A++B++C).Nodup):(A++C).Nodup/\∀a∈B,a∉A++C:=by
 obtain⟨H,S,P⟩:=Q8.mp n;obtain⟨O,h,Y⟩:=Q8.mp H;refine⟨Q8.mpr ⟨O,S,λa ha b d=>P a (QX _ ha) b d⟩,λa ha z=>?_⟩;rcases QW.mp z with z|z
 .exact Y a z a ha rfl
 .exact P a (QV _ ha) a z rfl
theorem set_same{v:Option V}(w:Y[i]?=some v):Y.set i v=Y:=by
 apply SV;intro j;by_cases z:j=i
 .subst z;rw[Rp (Q2.mp w).1,w]
 .rw[Rz (Sd z)]
theorem Bd.u4(b:Bd c Y H Z B θ)(e:Z[i]?=some (.lv o)):Bd c Y H (Z.set i (.fr o.a)) B θ:=by
 obtain⟨L,b⟩:=b;obtain⟨v,L2,F,k,n⟩:=aA.split b.lt b.rel;obtain⟨x,M1,M2,C,w,V,j,ins⟩:=n.at e;cases V with
 |lv h=>
  rename_i p q;have nd:=b.nd;have m:L=(v++M1)++(p::q)++C:=by rw[F,j];simp
  rw[m] at nd;obtain⟨s,hp⟩:=kC nd;have sub:∀a,a∈v++M1++C->a∈L:=λa ha=>by rw[m];simp only[QW,Ra] at ha ⊢;rcases ha with (z|z)|z<;>simp[z]
  have sm:Sq (c.g H L) (c.g H (v++M1++C)):=c0 sub;have P:=ins (y:=some (.ref p)) (t:=.fr o.a) (L':=[]) sm (λ_ _ _ e=>e) (.fr (h.a' sm λa ha u e=>by rw[br (hp a ha) (b.xj (by rw[m];exact QX _ (QV _ ha)))];exact e));rw[set_same w] at P;refine⟨v++M1++C,s,?_,λq Q=>b.own q (sub q Q),b.fr,b.kp.Fx (λo z=>by cases z),b.lt,b.hd⟩;have:=(k.sm sm (λ_ _ _ e=>e)).app P;simpa[QZ] using this
theorem fF.NC{t:Sl}(b:fF c Y H Z B θ L)(e:Z[i]?=some s)(es:s=.lv o/\t=.lv o'\/s=.pv o/\t=.pv o')
  : ∃p q,Y[i]?=some (some (.ref p))/\LR c.toKx (c.g H L) H p o q/\(p::q).Nodup/\∀a∈p::q,(∀H',H' a=some u->(∀b∈p::q,b≠a->H' b=H b)->LR c.toKx (c.g H L) H' p o' q)->Bd c Y (upd H a u) (Z.set i t) B θ:=by
 obtain⟨v,L2,F,k,n⟩:=aA.split b.lt b.rel;obtain⟨x,M1,M2,U,A,V,S,ins⟩:=n.at e;have C:∀p q,x=some (.ref p)->M2=p::q->LR c.toKx (c.g H L) H p o q->(∀G H',LR c.toKx G H' p o' q->dR c.toKx G H' (some (.ref p)) t (p::q))->(∀o2,t=.pv o2->∃o',Z[i]?=some (.pv o'))->
   ∃p q,Y[i]?=some (some (.ref p))/\LR c.toKx (c.g H L) H p o q/\(p::q).Nodup/\∀a∈p::q,(∀H',H' a=some u->(∀b∈p::q,b≠a->H' b=H b)->LR c.toKx (c.g H L) H' p o' q)->Bd c Y (upd H a u) (Z.set i t) B θ:=by
  intro p q ex em N mk pk;subst ex em;have nd:=b.nd;have m:L=(v++M1)++(p::q)++U:=by rw[F,S];simp
  rw[m] at nd;have X:(p::q).Nodup:=(Q8.mp (Q8.mp nd).1).2.1;refine⟨p,q,A,N,X,λa ha hn=>?_⟩;obtain⟨_,r⟩:=kC nd;have E:a∈L:=by rw[m];exact QX _ (QV _ ha)
  have P:c.g (upd H a u) L=c.g H L:=by
   funext Q
   by_cases z:Q∈L\/Q∈c.Hd
   .rw[f6 z,f6 z]
   .rw[br (λy=>z (.inl y)) (λy=>z (.inr y)),br (λy=>z (.inl y)) (λy=>z (.inr y)),aF λy=>z (.inl (by rw[y];exact E))]
  have I:∀q,q∈v++M1++U->∀w,H q=some w->upd H a u q=some w:=λq j w e=>by rw[aF λy=>r a ha (by rw[<-y];exact j)];exact e
  have O:=ins (G':=c.g (upd H a u) L) (H':=upd H a u) (y:=some (.ref p)) (t:=t) (L':=p::q) (by rw[P];exact Sq.refl _) (λq j=>I q (by rcases QW.mp j with z|z<;>simp[z])) (mk _ _ (by rw[P];exact hn _ bW λQ _ nb=>aF nb));rw[set_same A] at O;refine⟨L,b.nd,?_,b.own,⟨λq w e=>?_,λq j=>?_⟩,b.kp.Fx pk,b.lt,b.hd⟩
  .have:=(k.sm (G':=c.g (upd H a u) L) (H':=upd H a u) (by rw[P];exact Sq.refl _) (λq j=>I q (by simp[j]))).app O;have z:v++(M1++(p::q)++U)=L:=by rw[m];simp
   rw[z] at this;exact this
  .obtain⟨T,h1,h2⟩:=b.fr.st q w e;by_cases z:q=a
   .subst z;refine⟨u,bW,λJ=>?_⟩;rcases b.own q E with y|y
    .exact absurd y J
    .rw[y] at e;cases e
   .exact⟨T,by rw[aF z];exact h1,h2⟩
  .obtain⟨h1,⟨ob,vs,h2⟩,h3⟩:=b.fr.pk q j;refine⟨?_,⟨ob,vs,h2⟩,h3⟩;rw[aF λy=>?_]
   .exact h1
   .rw[y,h2] at h1;exact N.nf a ha _ _ h1
 rcases es with ⟨rfl,rfl⟩|⟨rfl,rfl⟩
 .cases V with
  |lv h=>exact C _ _ rfl rfl h (λ_ _ h=>.lv h) (λ_ z=>by cases z)
 .cases V with
  |pv h=>exact C _ _ rfl rfl h (λ_ _ h=>.pv h) (λ_ z=>⟨_,e⟩)
theorem fF.change{t:Sl}(b:fF c Y H Z B θ L)(e:Z[i]?=some s)(es:s=.lv o/\t=.lv o'\/s=.pv o/\t=.pv o')
  : ∃p q,Y[i]?=some (some (.ref p))/\LR c.toKx (c.g H L) H p o q/\((∀H',H' p=some u->(∀b∈q,H' b=H b)->LR c.toKx (c.g H L) H' p o' q)->Bd c Y (upd H p u) (Z.set i t) B θ):=by
 obtain⟨p,q,h1,h2,nd,h3⟩:=b.NC (u:=u) e es;exact⟨p,q,h1,h2,λk=>h3 p Rb λH' a sm=>k H' a λb d=>sm b (Q4 _ d) λz=>(Ry.mp nd).1 (z▸d)⟩
theorem Bd.store{t:Sl}(b:Bd c Y H Z (some v::B) (t::θ))(e:Z[i]?=some s)(V:∀o,s≠.pv o)(ht:∀o,t≠.pv o):Bd c (Y.set i (some v)) H (Z.set i t) B θ:=by
 obtain⟨L,nd,rel,own,fr,kp,lt,E⟩:=b;have rel:aA c.toKx (c.g H L) H (some v::(B++Y)) (t::(θ++Z)) L:=rel;cases rel with
 |cons h r=>
  rename_i u L';obtain⟨C,L2,F,k,n⟩:=aA.split (by simpa using lt) r;obtain⟨x,M1,M2,U,w,G,j,ins⟩:=n.at e;subst F j;have sub:∀a,a∈C++(M1++u++U)->a∈u++(C++(M1++M2++U)):=λa ha=>by simp at ha ⊢;rcases ha with z|z|z|z<;>simp[z]
  have sm:Sq (c.g H (u++(C++(M1++M2++U)))) (c.g H (C++(M1++u++U))):=c0 sub;have hi:i<Z.length:=(Q2.mp e).1;refine⟨C++(M1++u++U),?_,?_,λq Q=>own q (sub q Q),fr,kp.set (λo z=>?_) hi ht,by simpa using lt,E⟩
  .have I:(u++(C++(M1++M2++U))).Perm (M2++(C++(M1++u++U))):=by rw[Ue];intro a;simp only[UA];lia
   exact(Q8.mp ((I.nodup_iff).mp nd)).2.1
  .exact(k.sm sm (λ_ _ _ e=>e)).app (ins sm (λ_ _ _ e=>e) (h.sm sm (λ_ _ _ e=>e)))
  .rw[e] at z;exact V o (Q9 z)
end
inductive Rr where
 |rf(i:Nat)|fr(a:A)|nw(o:LO)
noncomputable abbrev Mi(α:Type):=List Sl->Option (Except Str α×List Sl)
noncomputable def aV{α β:Type}(m:Mi α)(f:α->Mi β):Mi β:=λZ=>match m Z with
 |some (.ok x,U)=>f x U
 |some (.error e,U)=>some (.error e,U)
 |none=>none
noncomputable def my{α:Type}(x:α):Mi α:=λZ=>some (.ok x,Z)
noncomputable def cu:Rr->V->St->St
 | .rf _,_,B=>B
 | .fr _,v,B=>some v::B
 | .nw _,v,B=>some v::B
noncomputable def cv:Rr->List Sl->List Sl
 | .rf _,θ=>θ
 | .fr a,θ=>.fr a::θ
 | .nw o,θ=>.lv o::θ
def VR(Y:St):Rr->V->Prop
 | .rf i,v=>Y[i]?=some (some v)
 |_,_=>True
def res(Z:List Sl):Rr->Option A
 | .rf i=>match Z[i]? with
  |some s=>s.a
  |none=>none
 | .fr a=>some a
 | .nw o=>o.rd
def OE(K:Kx)(E:XK)(c:Cn)(Y:St)(Z:List Sl)(B:St)(θ:List Sl)(Q:VK):Except Str Rr->Prop
 | .ok r=>∀v H,VR Y r v->Bd c Y H Z (cu r v B) (cv r θ)->Q v H
 | .error x=>∀C H,K.mg x=some (.ref C)->Bd c Y H Z B θ->E (.ref C) none H
inductive gS(K:Kx)(E:XK)(m:Mi Rr)(Y:St)(H:Hp)(Q:VK):Prop
 |mk(c:Cn)(Z:List Sl)(B:St)(θ:List Sl)(o:Except Str Rr)(O:List Sl)(h1:c.toKx=K)(h2:Bd c Y H Z B θ)(h3:m Z=some (o,O))(h4:OE K E c Y O B θ Q o)
def N9(K:Kx)(E:XK)(c:Cn)(Y:St)(Z:List Sl)(B:St)(θ:List Sl)(Q:Bool->Hp->Prop):Except Str Bool->Prop
 | .ok b=>∀H,Bd c Y H Z B θ->Q b H
 | .error x=>∀C H,K.mg x=some (.ref C)->Bd c Y H Z B θ->E (.ref C) none H
inductive vG(K:Kx)(E:XK)(m:Mi Bool)(Y:St)(H:Hp)(Q:Bool->Hp->Prop):Prop
 |mk(c:Cn)(Z:List Sl)(B:St)(θ:List Sl)(o:Except Str Bool)(O:List Sl)(h1:c.toKx=K)(h2:Bd c Y H Z B θ)(h3:m Z=some (o,O))(h4:N9 K E c Y O B θ Q o)
def c6:List Rr->List V->St->St
 |r::rs,v::vs,B=>c6 rs vs (cu r v B)
 |_,_,B=>B
def c5:List Rr->List Sl->List Sl
 |r::rs,θ=>c5 rs (cv r θ)
 |[],θ=>θ
def lQ(Y:St):List Rr->List V->Prop
 |[],[]=>True
 |r::rs,v::vs=>VR Y r v/\lQ Y rs vs
 |_,_=>False
def Lh(K:Kx)(E:XK)(c:Cn)(Y:St)(Z:List Sl)(B:St)(θ:List Sl)(Q:List V->Hp->Prop):Except Str (List Rr)->Prop
 | .ok rs=>∀vs H,lQ Y rs vs->Bd c Y H Z (c6 rs vs B) (c5 rs θ)->Q vs H
 | .error x=>∀C H,K.mg x=some (.ref C)->Bd c Y H Z B θ->E (.ref C) none H
inductive NS(K:Kx)(E:XK)(m:Mi (List Rr))(Y:St)(H:Hp)(Q:List V->Hp->Prop):Prop
 |mk(c:Cn)(Z:List Sl)(B:St)(θ:List Sl)(o:Except Str (List Rr))(O:List Sl)(h1:c.toKx=K)(h2:Bd c Y H Z B θ)(h3:m Z=some (o,O))(h4:Lh K E c Y O B θ Q o)
noncomputable abbrev kx(X:Cx):Kx:=⟨X.K,X.mg,X.prog,X.w⟩
structure JE(X:Cx)(E:XK)(e:Expr)(m:Mi Rr):Prop where
 p:PE X e (gS (kx X) E m)
structure JT(X:Cx)(E:XK)(e:Expr)(m:Mi Bool):Prop where
 p:PT X e (vG (kx X) E m)
structure JW(X:Cx)(E:XK)(e:Expr)(m:Mi Bool):Prop where
 p:PW X e (vG (kx X) E m)
structure JA(X:Cx)(E:XK)(es:List Expr)(m:Mi (List Rr)):Prop where
 p:PA X es (NS (kx X) E m)
variable{X:Cx}{e:Expr}
theorem PE.weaken{t t':TE}(h:PE X e t)(f:∀Y H Q,t' Y H Q->t Y H Q):PE X e t':=λpins s Y H Q I q=>h pins s Y H Q I (f Y H Q q)
variable{t':TT}
theorem PT.weaken{t:TT}(h:PT X e t)(f:∀Y H Q,t' Y H Q->t Y H Q):PT X e t':=λpins s Y H Q I q=>h pins s Y H Q I (f Y H Q q)
theorem PW.weaken{t:TT}(h:PW X e t)(f:∀Y H Q,t' Y H Q->t Y H Q):PW X e t':=λx pins s Y H Q I q=>h x pins s Y H Q I (f Y H Q q)
theorem PA.weaken{e:List Expr}{t t':TA}(h:PA X e t)(f:∀Y H Q,t' Y H Q->t Y H Q):PA X e t':=λpos pins s Y H Q I q=>h pos pins s Y H Q I (f Y H Q q)
section
variable{c:Cn}{Y:St}{H:Hp}{Z:List Sl}{B:St}{θ:List Sl}
theorem Bd.drop{r:Rr}(b:Bd c Y H Z (cu r v B) (cv r θ)):Bd c Y H Z B θ:=by
 cases r with
 |rf i=>exact b
 |fr a=>exact Bd.pop b
 |nw o=>exact Bd.pop b
theorem Bd.top{a:A}(b:Bd c Y H Z (some v::B) (s::θ))(e:s.a=some a):RA c.toKx H v a:=by
 obtain⟨L,nd,rel,_⟩:=b;have rel:aA c.toKx (c.g H L) H (some v::(B++Y)) (s::(θ++Z)) L:=rel;cases rel with
 |cons h r=>obtain⟨u,z,q⟩:=h.read (g_same _ _ _) e;cases z;exact q
theorem Bd.rd{r:Rr}{a:A}(b:Bd c Y H Z (cu r v B) (cv r θ))(t:VR Y r v)(e:res Z r=some a):RA c.toKx H v a:=by
 cases r with
 |rf i=>
  unfold res at e;cases es:Z[i]? with
  |none=>simp only[es] at e;cases e
  |some s=>simp only[es] at e;obtain⟨u,h1,h2⟩:=Bd.slot b es e;have t:Y[i]?=some (some v):=t;rw[t] at h1;cases h1;exact h2
 |fr a'=>cases e;exact Bd.top b rfl
 |nw o=>exact Bd.top b e
theorem dR.items{x:Option V}(h:dR k G H x s L)(sm:Sq G H):
  (∀as,s.a=some (.lst as)->∃p vs,x=some (.ref p)/\gu k.K H p vs/\bS k G vs as)/\(∀as,s.a=some (.tup as)->∃p vs,x=some (.ref p)/\gv k.K G p vs/\bS k G vs as) /\
  (∀as,s.a=some (.dic as)->∃p vs,x=some (.ref p)/\Rd H p (.dK vs)/\fC k G vs as):=by
 have lo:∀p o q,LR k G H p o q->(∀as,o.rd=some (A.lst as)->∃vs,gu k.K H p vs/\bS k G vs as)/\(∀as,o.rd≠some (A.tup as))/\(∀as,o.rd=some (A.dic as)->∃vs,Rd H p (.dK vs)/\fC k G vs as):=by
  intro p o q h;cases h with
  |lst e r=>exact⟨λas z=>by cases z;exact⟨_,.inl (.inl e),r⟩,λas z=>(by cases z),λas z=>(by cases z)⟩
  |dic e r=>exact⟨λas z=>(by cases z),λas z=>(by cases z),λas z=>by cases z;exact⟨_,.inl e,r⟩⟩
  |obj e m r=>exact⟨λas z=>(by cases z),λas z=>(by cases z),λas z=>(by cases z)⟩
  |dit e r=>exact⟨λas z=>(by cases z),λas z=>(by cases z),λas z=>(by cases z)⟩
  |nob e m r l=>exact⟨λas z=>(by cases z),λas z=>(by cases z),λas z=>(by cases z)⟩
 cases h with
 |un=>exact⟨λ_ z=>(by cases z),λ_ z=>(by cases z),λ_ z=>(by cases z)⟩
 |fr h=>
  refine⟨λas z=>?_,λas z=>?_,λas z=>?_⟩
  .cases z;cases h with|lst e r=>exact⟨_,_,rfl,mS sm e,r⟩
  .cases z;cases h with|tup e r=>exact⟨_,_,rfl,e,r⟩
  .cases z;cases h with|dic e r=>exact⟨_,_,rfl,sm.PQ e,r⟩
 |lv h=>
  rename_i p o q;obtain⟨l1,U,Y⟩:=lo p o q h;refine⟨λas z=>?_,λas z=>absurd z (U as),λas z=>?_⟩
  .obtain⟨vs,h1,h2⟩:=l1 as z;exact⟨p,vs,rfl,h1,h2⟩
  .obtain⟨vs,h1,h2⟩:=Y as z;exact⟨p,vs,rfl,h1,h2⟩
 |pv h=>
  rename_i p o q;obtain⟨l1,U,Y⟩:=lo p o q h;refine⟨λas z=>?_,λas z=>absurd z (U as),λas z=>?_⟩
  .obtain⟨vs,h1,h2⟩:=l1 as z;exact⟨p,vs,rfl,h1,h2⟩
  .obtain⟨vs,h1,h2⟩:=Y as z;exact⟨p,vs,rfl,h1,h2⟩
def xO(c:Cn)(H:Hp)(L:List Addr)(v:V)(a:A):Prop:=
  (∀as,a=.lst as->∃p vs,v=.ref p/\gu c.K H p vs/\bS c.toKx (c.g H L) vs as)/\(∀as,a=.tup as->∃p vs,v=.ref p/\gv c.K (c.g H L) p vs/\bS c.toKx (c.g H L) vs as) /\
  (∀as,a=.dic as->∃p vs,v=.ref p/\Rd H p (.dK vs)/\fC c.toKx (c.g H L) vs as)
theorem xO.mono{a:A}(h:xO c H L v a)(s:∀a,a∈L'->a∈L):xO c H L' v a:=by
 obtain⟨h1,h2,h3⟩:=h;refine⟨λas e=>?_,λas e=>?_,λas e=>?_⟩
 .obtain⟨p,vs,l,o,Y⟩:=h1 as e;exact⟨p,vs,l,o,Y.sm (c0 s)⟩
 .obtain⟨p,vs,l,o,Y⟩:=h2 as e;exact⟨p,vs,l,da (c0 s) o,Y.sm (c0 s)⟩
 .obtain⟨p,vs,l,o,Y⟩:=h3 as e;exact⟨p,vs,l,o,Y.sm (c0 s)⟩
theorem xO.of{L2:List Addr}{x:Option V}{a:A}(ex:x=some v)(h:dR c.toKx (c.g H L) H x s L2)(ea:s.a=some a):xO c H L v a:=by
 subst ex;obtain⟨l1,U,Y⟩:=h.items (g_same _ _ _);refine⟨λas z=>?_,λas z=>?_,λas z=>?_⟩<;>subst z
 .obtain⟨p,vs,q,h1,h2⟩:=l1 as ea;exact⟨p,vs,Q9 q,h1,h2⟩
 .obtain⟨p,vs,q,h1,h2⟩:=U as ea;exact⟨p,vs,Q9 q,h1,h2⟩
 .obtain⟨p,vs,q,h1,h2⟩:=Y as ea;exact⟨p,vs,Q9 q,h1,h2⟩
theorem fF.open{r:Rr}{a:A}{u:List Addr}(b:fF c Y H Z (cu r v B) (cv r θ) u)(t:VR Y r v)(e:res Z r=some a):∃L,(∀a,a∈L->a∈u)/\fF c Y H Z B θ L/\xO c H L v a:=by
 have z:∀s,fF c Y H Z (some v::B) (s::θ) u->s.a=some a->∃L,(∀a,a∈L->a∈u)/\fF c Y H Z B θ L/\xO c H L v a:=by
  intro s b ea;obtain⟨nd,rel,own,fr,kp,lt,E⟩:=b;have rel:aA c.toKx (c.g H u) H (some v::(B++Y)) (s::(θ++Z)) u:=rel;cases rel with
  |cons h r=>rename_i C L2;have sm:Sq (c.g H (C++L2)) (c.g H L2):=c0 λa ha=>QV _ ha;exact⟨L2,λa ha=>QV _ ha,⟨(Q8.mp nd).2.1,r.sm sm (λ_ _ _ e=>e),λp hp=>own p (QV _ hp),fr,kp,by simpa using lt,E⟩,xO.of rfl (h.sm sm (λ_ _ _ e=>e)) ea⟩
 cases r with
 |rf i=>
  unfold res at e;cases es:Z[i]? with
  |none=>simp only[es] at e;cases e
  |some s=>simp only[es] at e;obtain⟨C,L2,F,k,n⟩:=aA.split b.lt b.rel;obtain⟨x,_,_,_,w,V,_⟩:=n.at es;have t:Y[i]?=some (some v):=t;rw[t] at w;exact⟨u,λ_ h=>h,b,xO.of (Q9 w).symm V e⟩
 |fr a'=>exact z _ b e
 |nw o=>exact z _ b e
theorem Bd.open{r:Rr}{v:V}{a:A}(b:Bd c Y H Z (cu r v B) (cv r θ))(t:VR Y r v)(e:res Z r=some a):∃L,fF c Y H Z B θ L/\xO c H L v a:=by obtain⟨L,b⟩:=b;obtain⟨L',_,h⟩:=b.open t e;exact⟨L',h⟩
theorem Bd.sF{r r':Rr}{h:V}{a a':A}(b:Bd c Y H Z (cu r' h (cu r v B)) (cv r' (cv r θ)))(t:VR Y r v)(x:VR Y r' h)(e:res Z r=some a)(o:res Z r'=some a'):∃L,fF c Y H Z B θ L/\xO c H L v a/\xO c H L h a':=by obtain⟨L,b⟩:=b;obtain⟨z,s1,b1,I⟩:=b.open x o;obtain⟨L2,s2,b2,X⟩:=b1.open t e;exact⟨L2,b2,X,I.mono s2⟩
end
variable{x:Str}{pos:Pos}{β:Type}{O:List Sl}{ma mb m:Mi Rr}{Q:VK}{r:R2}{b:Expr}{op:CmpOp}{mt:Mi Bool}{es:List Expr}
section
variable{X:Cx}{E:XK}
noncomputable def aa(i:Nat):Mi Rr:=λZ=>match Z[i]? with
 |some (.fr a)=>some (.ok (.fr a),Z)
 |some (.lv _)=>some (.ok (.rf i),Z)
 |some (.pv _)=>some (.ok (.rf i),Z)
 |_=>none
noncomputable def ah(i:Nat):Mi Rr:=λZ=>match Z[i]? with
 |some (.fr a)=>some (.ok (.fr a),Z)
 |some (.lv o)=>some (.ok (.fr o.a),Z.set i (.fr o.a))
 |_=>none
noncomputable def mC(a:A):Mi Rr:=λZ=>some (.ok (.fr a),Z)
theorem Bz(z:X.N[i]?=some x)(t:nY X.env.scope x)(hd:gP x)(m:p4 x):JE X E (.Name x pos) (aa i):=
 ⟨PE.weaken (cD z t hd m) λY H Q h=>by
  obtain⟨c,Z,B,θ,o,O,r,b,em,q⟩:=h;unfold aa at em;cases es:Z[i]? with
  |none=>simp only[es] at em;cases em
  |some s=>
   cases s with
   |un=>simp only[es] at em;cases em
   |fr a=>simp only[es] at em;cases em;obtain⟨v,h1,h2⟩:=b.load es;exact⟨v,h1,q v H trivial h2⟩
   |lv o=>simp only[es] at em;cases em;obtain⟨p,h1⟩:=b.Gg (.inl es);exact⟨_,h1,q _ H h1 b⟩
   | pv o=>simp only[es] at em;cases em;obtain⟨p,h1⟩:=b.Gg (.inr es);exact⟨_,h1,q _ H h1 b⟩⟩
theorem EC(z:X.N[i]?=some x)(t:nY X.env.scope x)(hd:gP x)(m:p4 x):JE X E (.Name x pos) (ah i):=
 ⟨PE.weaken (cD z t hd m) λY H Q h=>by
  obtain⟨c,Z,B,θ,o,O,r,b,em,q⟩:=h;unfold ah at em;cases es:Z[i]? with
  |none=>simp only[es] at em;cases em
  |some s=>
   cases s with
   |un=>simp only[es] at em;cases em
   |fr a=>simp only[es] at em;cases em;obtain⟨v,h1,h2⟩:=b.load es;exact⟨v,h1,q v H trivial h2⟩
   |lv o=>simp only[es] at em;cases em;have b2:=b.u4 es;have hi:i<Z.length:=(Q2.mp es).1;obtain⟨v,h1,h2⟩:=b2.load (i:=i) (a:=o.a) (Rp hi);exact⟨v,h1,q v H trivial h2⟩
   | pv o=>simp only[es] at em;cases em⟩
theorem Am{a:A}(h:PE X e (tC v))(r:∀G,RA (kx X) G v a):JE X E e (mC a):=⟨PE.weaken h λY H Q h=>by obtain⟨c,Z,B,θ,o,O,s,b,em,q⟩:=h;cases em;exact q v H trivial (b.push (by rw[s];exact r))⟩
theorem Ky{i j pos}:JE X E (.Constant (.int i) j pos) (mC (.int i)):=Am JN λ_=>.int _
theorem ME{b j pos}:JE X E (.Constant (.bool b) j pos) (mC (.bl b)):=Am NJ λ_=>.bl _
theorem IG{j pos}:JE X E (.Constant .none j pos) (mC .non):=Am IA λ_=>.non
theorem H9{x j pos}:JE X E (.Constant (.str x) j pos) (mC (.str x)):=Am G8 λ_=>.str _
theorem DS{u:Value}{a:A}(N:Gl X x)(hm:X.mg x=some u)(r:RelV v u)(s:∀G,RA (kx X) G v a)(hd:gP x):JE X E (.Name x pos) (mC a):=Am (DQ N hm r hd) s
def aC(f:A->A->Option Rr)(ma mb:Mi Rr):Mi Rr:=aV ma λx=>aV mb λy=>λZ=>match res Z x,res Z y with
 |some a,some b=>match f a b with
  |some r=>some (.ok r,Z)
  |none=>none
 |_,_=>none
def gN(K:Kx)(r:R2)(f:A->A->Option Rr):Prop:=∀(c:Cn)(Y:St)(H:Hp)(Z:List Sl)(B:St)(θ:List Sl)(x y:Rr)(v w:V)(a b:A)(q:Rr)(Q:VK),c.toKx=K->VR Y x v->VR Y y w->
 Bd c Y H Z (cu y w (cu x v B)) (cv y (cv x θ))->res Z x=some a->res Z y=some b->f a b=some q->(∀u H',VR Y q u->Bd c Y H' Z (cu q u B) (cv q θ)->Q u H')->r v w H Q
theorem bind_some{m:Mi α}{f:α->Mi β}{o:Except Str β}(h:aV m f Z=some (o,O)):(∃x U,m Z=some (.ok x,U)/\f x U=some (o,O))\/∃e,m Z=some (.error e,O)/\o=.error e:=by
 unfold aV at h;cases e:m Z with
 |none=>simp only[e] at h;cases h
 |some p=>
  obtain⟨r,U⟩:=p;cases r with
  |ok x=>simp only[e] at h;exact .inl ⟨x,U,rfl,h⟩
  |error x=>simp only[e] at h;cases h;exact .inr ⟨x,rfl,rfl⟩
theorem bL{f:Rr->Mi β}{o:Except Str β}(r:c.toKx=kx X)(b:Bd c Y H Z B θ)(em:aV ma f Z=some (o,O))
  (h1:∀x v U y,VR Y x v->Bd c Y y U (cu x v B) (cv x θ)->f x U=some (o,O)->Q v y)
  (h2:∀e,o=.error e->∀C H,X.mg e=some (.ref C)->Bd c Y H O B θ->E (.ref C) none H):gS (kx X) E ma Y H Q:=by
 rcases bind_some em with ⟨x,U,F,j⟩|⟨e,F,j⟩
 .exact⟨c,Z,B,θ,_,U,r,b,F,λv y t b1=>h1 x v U y t b1 j⟩
 .exact⟨c,Z,B,θ,_,O,r,b,F,λC y hm b1=>h2 e j C y hm b1⟩
theorem fq{x:Rr}{o:Except Str β}(h:∀e,o=.error e->∀C H,X.mg e=some (.ref C)->Bd c Y H O B θ->E (.ref C) none H):
  ∀e,o=.error e->∀C H,X.mg e=some (.ref C)->Bd c Y H O (cu x v B) (cv x θ)->E (.ref C) none H:=λe a C H hm b=>h e a C H hm b.drop
theorem bj{o:Except Str Rr}(q:OE (kx X) E c Y O B θ Q o):∀e,o=.error e->∀C H,X.mg e=some (.ref C)->Bd c Y H O B θ->E (.ref C) none H:=λe a=>by subst a;exact q
theorem jY{o:Except Str Bool}{Q:Bool->Hp->Prop}(q:N9 (kx X) E c Y O B θ Q o):∀e,o=.error e->∀C H,X.mg e=some (.ref C)->Bd c Y H O B θ->E (.ref C) none H:=λe a=>by subst a;exact q
theorem AW{o:Except Str (List Rr)}{Q:List V->Hp->Prop}(q:Lh (kx X) E c Y O B θ Q o):∀e,o=.error e->∀C H,X.mg e=some (.ref C)->Bd c Y H O B θ->E (.ref C) none H:=λe a=>by subst a;exact q
theorem FN{f:A->A->Option Rr}{x y:Rr}{o:Except Str Rr}(h:(match res Z x,res Z y with|some a,some b=>(match f a b with|some r=>some ((.ok r:Except Str Rr),Z)|none=>none)|_,_=>none)=some (o,O)):
  ∃a b r,res Z x=some a/\res Z y=some b/\f a b=some r/\o=.ok r/\O=Z:=by
 cases F:res Z x with
 |none=>simp only[F] at h;cases h
 |some a=>
  cases j:res Z y with
  |none=>simp only[F,j] at h;cases h
  |some b=>
   simp only[F,j] at h;cases Q:f a b with
   |none=>simp only[Q] at h;cases h
   |some r=>simp only[Q] at h;cases h;exact⟨a,b,r,rfl,rfl,Q,rfl,rfl⟩
theorem dJ{f:A->A->Option Rr}(hf:gN (kx X) r f)(Y:St)(H:Hp)(Q:VK)(h:gS (kx X) E (aC f ma mb) Y H Q):MD r (gS (kx X) E ma) (gS (kx X) E mb) Y H Q:=by obtain⟨c,Z,B,θ,o,O,s,b,em,q⟩:=h;refine bL s b em (λx v U e t b1 G=>?_) (bj q);refine bL s b1 G (λy w Z' u p b2 i=>?_) (fq (bj q));obtain⟨a,d,r,F,j,C,rfl,rfl⟩:=FN i;exact hf c Y u _ B θ x y v w a d r Q s t p b2 F j C q
theorem oB{op:Operator}{f:A->A->Option Rr}{a:Expr}(i:d0 X (binaryOp op) r)(hf:gN (kx X) r f)(ha:JE X E a ma)(d:JE X E b mb):JE X E (.BinOp a op b pos) (aC f ma mb):=
 ⟨PE.weaken (NG i ha.p d.p) (dJ hf)⟩
theorem dF{f:A->A->Option Rr}{a:Expr}(i:d0 X (compareOp op) r)(hf:gN (kx X) r f)(ha:JE X E a ma)(d:JE X E b mb)(hm:behindInMarks op b=false):JE X E (.Compare a [op] [b] pos) (aC f ma mb):=
 ⟨PE.weaken (Fe i ha.p d.p hm) (dJ hf)⟩
noncomputable def QI:Rr->Option Bool
 | .fr (.bl b)=>some b
 |_=>none
def ag(m:Mi Rr):Mi Bool:=aV m λr Z=>match QI r with
 |some b=>some (.ok b,Z)
 |none=>none
theorem eN(Y:St)(H:Hp)(Q:Bool->Hp->Prop)(h:vG (kx X) E (ag m) Y H Q):gS (kx X) E m Y H λx H'=>∃k,x=.bl k/\Q k H':=by
 obtain⟨c,Z,B,θ,o,O,s,b,em,q⟩:=h;refine bL s b em (λx v U e t b1 G=>?_) (jY q);cases x with
 |rf i=>cases G
 |nw o=>cases G
 |fr a=>
  cases a with
  |bl k=>cases G;have r:=Bd.top b1 (a:=.bl k) rfl;cases r;exact⟨k,rfl,q e b1.pop⟩
  |_=>cases G
theorem dG{f:A->A->Option Rr}{a:Expr}(i:d0 X (compareOp op) r)(hf:gN (kx X) r f)(ha:JE X E a ma)(d:JE X E b mb)(hm:behindInMarks op b=false):JT X E (.Compare a [op] [b] pos) (ag (aC f ma mb)):=
 ⟨PT.weaken (CN i ha.p d.p hm) λY H Q h=>dJ hf Y H _ (eN Y H Q h)⟩
theorem Hv(h:JE X E e m)(he:∀whole,isTrue e X.env whole=(do let v <- whole;standAt e.pos;holding [v] (truthy v)):=by intro _;rfl):JT X E e (ag m):=
 ⟨PT.weaken (IH h.p he) λY H Q h=>eN Y H Q h⟩
def qp(m n:Mi Bool):Mi Bool:=aV m λb=>if b then n else my false
def oI(m n:Mi Bool):Mi Bool:=aV m λb=>if b then my true else n
def fG(m:Mi Bool):Mi Bool:=aV m λb=>my (!b)
theorem j0{m:Mi Bool}{f:Bool->Mi β}{o:Except Str β}{Q:Bool->Hp->Prop}(r:c.toKx=kx X)(b:Bd c Y H Z B θ)(em:aV m f Z=some (o,O))
  (h1:∀k U y,Bd c Y y U B θ->f k U=some (o,O)->Q k y)
  (h2:∀e,o=.error e->∀C H,X.mg e=some (.ref C)->Bd c Y H O B θ->E (.ref C) none H):vG (kx X) E m Y H Q:=by
 rcases bind_some em with ⟨x,U,F,j⟩|⟨e,F,j⟩
 .exact⟨c,Z,B,θ,_,U,r,b,F,λy b1=>h1 x U y b1 j⟩
 .exact⟨c,Z,B,θ,_,O,r,b,F,λC y hm b1=>h2 e j C y hm b1⟩
theorem Hi{a:Expr}{m:Mi Bool}(h:JT X E a m):JT X E (.UnaryOp .Not a pos) (fG m):=⟨PT.weaken (Jj h.p) λY H Q h=>by obtain⟨c,Z,B,θ,o,O,r,b,em,q⟩:=h;refine j0 r b em (λk U e b1 G=>?_) (jY q);cases G;exact q e b1⟩
theorem FA{a:Expr}{m:Mi Bool}(h:JT X E a m):JW X E (.BoolOp .And [a] pos) m:=⟨CV h.p⟩
theorem J0{a:Expr}{m:Mi Bool}(h:JT X E a m):JW X E (.BoolOp .Or [a] pos) m:=⟨Jn h.p⟩
theorem HL{a:Expr}{rest:List Expr}{m n:Mi Bool}(h:JT X E a m)(h':JW X E (.BoolOp .And (b::rest) pos) n):JW X E (.BoolOp .And (a::b::rest) pos) (qp m n):=⟨PW.weaken (G0 h.p h'.p) λY H Q h=>by
 obtain⟨c,Z,B,θ,o,O,r,b,em,q⟩:=h;refine j0 r b em (λk U e b1 G=>?_) (jY q);cases k with
 |true=>rw[if_pos rfl];exact⟨c,U,B,θ,o,O,r,b1,G,q⟩
 | false=>rw[if_neg (by decide)];cases G;exact q e b1⟩
theorem Li{a:Expr}{rest:List Expr}{m n:Mi Bool}(h:JT X E a m)(h':JW X E (.BoolOp .Or (b::rest) pos) n):JW X E (.BoolOp .Or (a::b::rest) pos) (oI m n):=⟨PW.weaken (Oa h.p h'.p) λY H Q h=>by
 obtain⟨c,Z,B,θ,o,O,r,b,em,q⟩:=h;refine j0 r b em (λk U e b1 G=>?_) (jY q);cases k with
 |true=>rw[if_pos rfl];cases G;exact q e b1
 | false=>rw[if_neg (by decide)];exact⟨c,U,B,θ,o,O,r,b1,G,q⟩⟩
theorem MB{m:Mi Bool}(h:JW X E e m):JT X E e m:=⟨h.p.pt⟩
def gM(m n:Mi Rr):Mi Rr:=aV (ag m) λb=>if b then n else mC (.bl false)
def qP(m n:Mi Rr):Mi Rr:=aV (ag m) λb=>if b then mC (.bl true) else n
def jf(m:Mi Rr):Mi Rr:=aV (ag m) λb=>mC (.bl (!b))
theorem qv{f:Bool->Mi β}{o:Except Str β}{Q:Bool->Hp->Prop}(r:c.toKx=kx X)(b:Bd c Y H Z B θ)(em:aV (ag m) f Z=some (o,O))
  (h1:∀k U y,Bd c Y y U B θ->f k U=some (o,O)->Q k y)
  (h2:∀e,o=.error e->∀C H,X.mg e=some (.ref C)->Bd c Y H O B θ->E (.ref C) none H):gS (kx X) E m Y H λx H'=>∃k,x=.bl k/\Q k H':=
 eN Y H Q (j0 r b em h1 h2)
theorem HZ{op}{a:Expr}(h:JE X E a m):JE X E (.BoolOp op [a] pos) m:=⟨Im h.p⟩
theorem Kw{a:Expr}{rest:List Expr}{n:Mi Rr}(h:JE X E a m)(h':JE X E (.BoolOp .And (b::rest) pos) n):JE X E (.BoolOp .And (a::b::rest) pos) (gM m n):=⟨PE.weaken (IU h.p h'.p) λY H Q h=>by
 obtain⟨c,Z,B,θ,o,O,r,b,em,q⟩:=h;refine qv (Q:=λk e=>if k=true then gS (kx X) E n Y e Q else Q (.bl false) e) r b em (λk U e b1 G=>?_) (bj q);cases k with
 |true=>rw[if_pos rfl];exact⟨c,U,B,θ,o,O,r,b1,G,q⟩
 | false=>rw[if_neg (by decide)];cases G;exact q (.bl false) e trivial (b1.push λ_=>.bl _)⟩
theorem K8{a:Expr}{rest:List Expr}{n:Mi Rr}(h:JE X E a m)(h':JE X E (.BoolOp .Or (b::rest) pos) n):JE X E (.BoolOp .Or (a::b::rest) pos) (qP m n):=⟨PE.weaken (L4 h.p h'.p) λY H Q h=>by
 obtain⟨c,Z,B,θ,o,O,r,b,em,q⟩:=h;refine qv (Q:=λk e=>if k=true then Q (.bl true) e else gS (kx X) E n Y e Q) r b em (λk U e b1 G=>?_) (bj q);cases k with
 |true=>rw[if_pos rfl];cases G;exact q (.bl true) e trivial (b1.push λ_=>.bl _)
 | false=>rw[if_neg (by decide)];exact⟨c,U,B,θ,o,O,r,b1,G,q⟩⟩
theorem JK{a:Expr}(h:JE X E a m):JE X E (.UnaryOp .Not a pos) (jf m):=⟨PE.weaken (IF h.p) λY H Q h=>by obtain⟨c,Z,B,θ,o,O,r,b,em,q⟩:=h;refine qv (Q:=λk e=>Q (.bl (!k)) e) r b em (λk U e b1 G=>?_) (bj q);cases G;exact q (.bl (!k)) e trivial (b1.push λ_=>.bl _)⟩
def Kf(t:Mi Bool)(m n:Mi Rr):Mi Rr:=aV t λb=>if b then m else n
theorem NF{t a:Expr}{n:Mi Rr}(ht:JT X E t mt)(ha:JE X E a m)(d:JE X E b n):JE X E (.IfExp t a b pos) (Kf mt m n):=⟨PE.weaken (xW ht.p ha.p d.p) λY H Q h=>by
 obtain⟨c,Z,B,θ,o,O,r,b,em,q⟩:=h;refine j0 r b em (λk U e b1 G=>?_) (bj q);cases k with
 |true=>rw[if_pos rfl];exact⟨c,U,B,θ,o,O,r,b1,G,q⟩
 | false=>rw[if_neg (by decide)];exact⟨c,U,B,θ,o,O,r,b1,G,q⟩⟩
def c9:Mi (List Rr):=my []
def aJ(m:Mi Rr)(n:Mi (List Rr)):Mi (List Rr):=aV m λr=>aV n λrs=>my (r::rs)
theorem tD:JA X E [] c9:=⟨PA.weaken dB λY H Q h=>by obtain⟨c,Z,B,θ,o,O,r,b,em,q⟩:=h;cases em;exact q [] H trivial b⟩
theorem u0{n:Mi (List Rr)}(h:JE X E e m)(h':JA X E es n)(hs:starEach (e::es) X.env=(false,eval e X.env)::starEach es X.env:=by rfl):JA X E (e::es) (aJ m n):=⟨PA.weaken (cq h.p h'.p hs) λY H Q h=>by
 obtain⟨c,Z,B,θ,o,O,ek,b,em,q⟩:=h;refine bL ek b em (λx v U H1 hv b1 em1=>?_) (AW q);rcases bind_some em1 with ⟨rs,Z',e1,e2⟩|⟨e,e1,e2⟩
 .cases e2;exact⟨c,U,_,_,_,O,ek,b1,e1,λvs H2 hvs b2=>q (v::vs) H2 ⟨hv,hvs⟩ b2⟩
 .subst e2;exact⟨c,U,_,_,_,O,ek,b1,e1,λC H2 hm b2=>q C H2 hm b2.drop⟩⟩
end
variable{xs:St}{ss:List Sl}{rs:List Rr}
section
variable{c:Cn}{Y:St}{H:Hp}{Z:List Sl}{B:St}{θ:List Sl}
theorem yC{l:List α}{x:α}(h:l[i]?=some x):l.set i x=l:=by
 apply SV;intro j;by_cases z:j=i
 .subst z;rw[Rp (Q2.mp h).1,h]
 .rw[Rz (Sd z)]
theorem Dk(h:∀a,a∈L↔a∈L'):c.g H L=c.g H L':=by
 funext a
 by_cases z:a∈L\/a∈c.Hd
 .rw[f6 z,f6 (by rwa[<-h a])]
 .rw[br (λy=>z (.inl y)) (λy=>z (.inr y)),br (λy=>z (.inl ((h a).mpr y))) (λy=>z (.inr y))]
theorem fF.perm(b:fF c Y H Z B θ L){J:St}{T:List Sl}(pm:L'.Perm L)(lt:J.length=T.length)(r:aA c.toKx (c.g H L) H (J++Y) (T++O) L')(kp:fZ c.σ0 Y O):fF c Y H O J T L':=
 ⟨(pm.nodup_iff).mpr b.nd,by rw[Dk (L':=L) λa=>pm.mem_iff];exact r,λp hp=>b.own p (pm.mem_iff.mp hp),b.fr,kp,lt,b.hd⟩
theorem Bd.LM(e:xs.length=ss.length)(b:Bd c Y H Z (xs++some v::B) (ss++.lv o::θ)):Bd c Y H Z (xs++some v::B) (ss++.fr o.a::θ):=by
 obtain⟨L,b⟩:=b;have r:aA c.toKx (c.g H L) H (xs++(some v::(B++Y))) (ss++(.lv o::(θ++Z))) L:=by have:=b.rel;simpa[QZ] using this
 obtain⟨C,L2,F,k,n⟩:=aA.split e r;cases n with
 |cons h P=>
  rename_i X x;cases h with
  |lv h=>
   rename_i p q;have nd:=b.nd;rw[F,<-QZ] at nd;obtain⟨s,hp⟩:=kC nd;have sub:∀a,a∈C++x->a∈L:=λa ha=>by rw[F];simp at ha ⊢;rcases ha with z|z<;>simp[z]
   have sm:Sq (c.g H L) (c.g H (C++x)):=c0 sub;refine⟨C++x,s,?_,λq j=>b.own q (sub q j),b.fr,b.kp,by have:=b.lt;simp at this ⊢;lia,b.hd⟩;have:=(k.sm sm (λ_ _ _ e=>e)).app (aA.cons (L:=[]) (.fr (h.a' sm λa ha u e=>by rw[br (hp a ha) (b.xj (by rw[F];exact QV _ (QX _ ha)))];exact e)) (P.sm sm (λ_ _ _ e=>e)));simpa[QZ] using this
theorem Bd.J2{a:A}(e:xs.length=ss.length)(b:Bd c Y H Z (xs++B) (ss++θ))(t:Y[i]?=some (some v))(u:Z[i]?=some (.fr a)):Bd c Y H Z (xs++some v::B) (ss++.fr a::θ):=by
 obtain⟨L,b⟩:=b;obtain⟨M1,M2,_,_,n⟩:=aA.split b.lt b.rel;obtain⟨x,_,_,_,w,q,_⟩:=n.at u;rw[t] at w;cases w;cases q with
 |fr h=>
  have r:aA c.toKx (c.g H L) H (xs++(B++Y)) (ss++(θ++Z)) L:=by have:=b.rel;simpa[QZ] using this
  obtain⟨z,L2,F,k,n⟩:=aA.split e r;refine⟨L,b.nd,?_,b.own,b.fr,b.kp,by have:=b.lt;simp at this ⊢;lia,b.hd⟩;have:=k.app (aA.cons (L:=[]) (.fr h) n);rw[F] at this ⊢;simpa[QZ] using this
theorem Bu(v L2 M1 U q:List Addr):(v++(q++(L2++(M1++U)))).Perm (v++(L2++(M1++(q++U)))):=by rw[Ue];intro a;simp only[UA];lia
theorem Bd.Hw(e:xs.length=ss.length)(b:Bd c Y H Z (xs++B) (ss++θ))(E:Y[i]?=some (some v))(u:Z[i]?=some s)(hk:s=.lv o\/s=.pv o):
  Bd c Y H (Z.set i .un) (xs++some v::B) (ss++.lv o::θ):=by
 obtain⟨L,b⟩:=b;have r:aA c.toKx (c.g H L) H (xs++(B++Y)) (ss++(θ++Z)) L:=by have:=b.rel;simpa[QZ] using this
 obtain⟨C,L2,F,k,n⟩:=aA.split e r;obtain⟨I,S,j,P,O⟩:=aA.split (by have:=b.lt;simp at this;lia) n;obtain⟨x,M1,M2,U,w,A,Q,ins⟩:=O.at u;rw[E] at w;cases w;have fin:∀p q,v=.ref p->M2=p::q->LR c.toKx (c.g H L) H p o q->Bd c Y H (Z.set i .un) (xs++some v::B) (ss++.lv o::θ):=by
  intro p q G em h;subst G em;have N:=ins (y:=some (.ref p)) (t:=.un) (L':=[]) (Sq.refl _) (λ_ _ _ e=>e) (.un _);rw[yC E] at N;have R:=k.app (aA.cons (dR.lv h) (P.app N));have pm:(C++((p::q)++(I++(M1++[]++U)))).Perm L:=by rw[F,j,Q];simpa using Bu C I M1 U (p::q)
  exact⟨_,b.perm pm (by have:=b.lt;simp at this ⊢;lia) (by simpa[QZ] using R) (b.kp.Fx (λo z=>by cases z))⟩
 rcases hk with rfl|rfl
 .cases A with|lv h=>exact fin _ _ rfl rfl h
 .cases A with|pv h=>exact fin _ _ rfl rfl h
theorem Bd.putBack{t:Sl}(b:Bd c Y H Z (some v::B) (.lv o::θ))(E:Y[i]?=some (some v))(u:Z[i]?=some .un)(hk:t=.lv o\/(t=.pv o/\Y[i]?=c.σ0[i]?)):Bd c Y H (Z.set i t) B θ:=by
 obtain⟨L,b⟩:=b;have r:aA c.toKx (c.g H L) H (some v::(B++Y)) (.lv o::(θ++Z)) L:=b.rel;cases r with
 |cons h r=>
  rename_i T L';obtain⟨C,L2,F,k,n⟩:=aA.split (by have:=b.lt;simpa using this) r;obtain⟨x,M1,M2,U,w,A,Q,ins⟩:=n.at u;cases A with
  |un=>
   cases h with
   |lv h=>
    rename_i p q;have fin:dR c.toKx (c.g H ((p::q)++L')) H (some (.ref p)) t (p::q)->fZ c.σ0 Y (Z.set i t)->Bd c Y H (Z.set i t) B θ:=λh kp=>by
     have N:=ins (Sq.refl _) (λ_ _ _ e=>e) h;rw[yC E] at N;have pm:(C++(M1++(p::q)++U)).Perm ((p::q)++L'):=by rw[F,Q];rw[Ue];intro a;simp only[UA,List.count_cons,List.count_nil];lia
     exact⟨_,b.perm pm (by have:=b.lt;simpa using this) (k.app N) kp⟩
    rcases hk with rfl|⟨rfl,hk⟩
    .exact fin (.lv h) (b.kp.Fx (λ_ z=>by cases z))
    .refine fin (.pv h) λj o' q=>?_;by_cases z:j=i
     .subst z;exact hk
     .rw[Rz (Sd z)] at q;exact b.kp j o' q
theorem dI:∀(rs:List Rr)(vs:List V)(B:St),c6 rs vs B=c6 rs vs []++B
 |[],_,B=>rfl
 |r::rs,[],B=>rfl
 |r::rs,v::vs,B=>by
  show c6 rs vs (cu r v B)=c6 rs vs (cu r v [])++B;rw[dI rs vs (cu r v B),dI rs vs (cu r v []),QZ]
  congr 1
  cases r<;>rfl
theorem dA:∀(rs:List Rr)(θ:List Sl),c5 rs θ=c5 rs []++θ
 |[],θ=>rfl
 |r::rs,θ=>by
  show c5 rs (cv r θ)=c5 rs (cv r [])++θ;rw[dA rs (cv r θ),dA rs (cv r []),QZ]
  congr 1
  cases r<;>rfl
theorem lQ.len:∀{rs:List Rr}{vs:List V},lQ Y rs vs->rs.length=vs.length
 |[],[],_=>rfl
 |_::rs,_::vs,h=>by rw[Q6,Q6,lQ.len h.2]
 |[],_::_,h=>h.elim
 |_::_,[],h=>h.elim
theorem pZ:∀(rs:List Rr)(vs:List V),rs.length=vs.length->(c6 rs vs []).length=(c5 rs []).length
 |[],[],_=>rfl
 |r::rs,v::vs,h=>by
  show (c6 rs vs (cu r v [])).length=(c5 rs (cv r [])).length;rw[dI,dA,Rc,Rc,pZ rs vs (by simpa using h)]
  congr 1
  cases r<;>rfl
 |[],_::_,h=>by simp at h
 |_::_,[],h=>by simp at h
noncomputable def bA:Rr->List Sl->Option (A×List Sl)
 | .fr a,Z=>some (a,Z)
 | .nw o,Z=>some (o.a,Z)
 | .rf i,Z=>match Z[i]? with
  |some (.lv o)=>some (o.a,Z.set i (.fr o.a))
  |some (.fr a)=>some (a,Z)
  |_=>none
def gc:List Rr->List Sl->Option (List A×List Sl)
 |[],Z=>some ([],Z)
 |r::rs,Z=>match bA r Z with
  |some (a,U)=>match gc rs U with
   |some (as,Z')=>some (a::as,Z')
   |none=>none
  |none=>none
theorem Bd.bA{r:Rr}{v:V}{a:A}{O:List Sl}{xs:St}{ss:List Sl}(e:xs.length=ss.length)(b:Bd c Y H Z (xs++cu r v B) (ss++cv r θ))(t:VR Y r v)(h:bA r Z=some (a,O)):Bd c Y H O (xs++some v::B) (ss++.fr a::θ):=by
 cases r with
 |fr a'=>cases h;exact b
 |nw o=>cases h;exact Bd.LM e b
 |rf i=>
  unfold M.bA at h;cases es:Z[i]? with
  |none=>simp only[es] at h;cases h
  |some s=>
   cases s with
   |un=>simp only[es] at h;cases h
   |pv o=>simp only[es] at h;cases h
   |fr a'=>simp only[es] at h;cases h;exact Bd.J2 e b t es
   |lv o=>simp only[es] at h;cases h;have b2:=Bd.u4 b es;exact Bd.J2 e b2 t (Rp (Q2.mp es).1)
theorem xr{r:Rr}{as:List A}(h:gc (r::rs) Z=some (as,O)):∃a H U,bA r Z=some (a,U)/\gc rs U=some (H,O)/\as=a::H:=by
 unfold gc at h;cases F:bA r Z with
 |none=>simp only[F] at h;cases h
 |some p=>
  obtain⟨a,U⟩:=p;simp only[F] at h;cases j:gc rs U with
  |none=>simp only[j] at h;cases h
  |some q=>obtain⟨H,Z'⟩:=q;simp only[j] at h;cases h;exact⟨a,H,U,rfl,j,rfl⟩
theorem Bd.gc:∀{rs:List Rr}{vs:List V}{as:List A}{Z O:List Sl}{B:St}{θ:List Sl},lQ Y rs vs->Bd c Y H Z (c6 rs vs B) (c5 rs θ)->gc rs Z=some (as,O)->Bd c Y H O (vs.reverse.map some++B) (as.reverse.map Sl.fr++θ)/\vs.length=as.length
 |[],[],_,_,_,_,_,_,b,h=>by cases h;exact⟨b,rfl⟩
 |r::rs,v::vs,_,Z,O,B,θ,hv,b,h=>by obtain⟨a,as,U,F,j,rfl⟩:=xr h;have b:Bd c Y H Z (c6 rs vs (cu r v B)) (c5 rs (cv r θ)):=b;rw[dI,dA] at b;have b1:=Bd.bA (pZ rs vs (lQ.len hv.2)) b hv.1 F;rw[<-dI rs vs (some v::B),<-dA rs (.fr a::θ)] at b1;obtain⟨b2,Q⟩:=Bd.gc hv.2 b1 j;exact⟨by simpa using b2,by simp[Q]⟩
 |[],_::_,_,_,_,_,_,h,_,_=>h.elim
 |_::_,[],_,_,_,_,_,h,_,_=>h.elim
end
section
variable {X:Cx} {E:XK}
theorem vY        {m:Mi (List Rr)} {f:List Rr → Mi β} {o:Except Str β} {Q:List V → Hp → Prop} (r:c.toKx = kx X) (b:Bd c Y H Z B θ) (em:aV m f Z = some (o,O))
  (h1:∀ rs vs U y,lQ Y rs vs → Bd c Y y U (c6 rs vs B) (c5 rs θ) → f rs U = some (o,O) → Q vs y)
  (h2:∀ e,o = .error e → ∀ C H,X.mg e = some (.ref C) → Bd c Y H O B θ → E (.ref C) none H):NS (kx X) E m Y H Q:=by
 rcases bind_some em with ⟨x,U,F,j⟩ | ⟨e,F,j⟩
 .exact⟨c,Z,B,θ,_,U,r,b,F,λvs y t b1=>h1 x vs U y t b1 j⟩
 .exact⟨c,Z,B,θ,_,O,r,b,F,λC y hm b1=>h2 e j C y hm b1⟩
def bX(m:Mi (List Rr)):Mi Rr:=aV m λrs Z=>match gc rs Z with
 |some (as,O)=>if as.length<=1000 then some (.ok (.fr (.tup as)),O) else none
 |none=>none
def cO(m:Mi (List Rr)):Mi Rr:=aV m λrs Z=>match gc rs Z with
 |some (as,O)=>if as.length<=1000 then some (.ok (.nw (.lst as)),O) else none
 |none=>none
theorem mN{as:List A}:∀G,bS k G vs.reverse as.reverse->bS k G vs as:=λG h=>by have:=h.rev;simpa using this
theorem jM:1000<=sizeLine:=by rw[sizeLine_eq];decide
theorem II{m:Mi (List Rr)}{x1 pos}(h:JA X E es m):JE X E (.Tuple es x1 pos) (bX m):=⟨PE.weaken (xZ h.p) λY H Q h=>by
 obtain⟨c,Z,B,θ,o,O,r,b,em,q⟩:=h;refine vY r b em (λrs vs U e t b1 G=>?_) (bj q);cases F:gc rs U with
 |none=>simp only[F] at G;cases G
 |some p=>
  obtain⟨as,Z'⟩:=p;simp only[F] at G;obtain⟨b2,j⟩:=Bd.gc t b1 F;split at G
  .rename_i hl;cases G;exact⟨by have:=jM;lia,λp hp=>q (.ref p) _ trivial (Bd.Au b2 (by simp[j]) hp vs as mN)⟩
  .cases G⟩
theorem zW{m:Mi (List Rr)}{pos}(h:JA X E es m):JE X E (.List es pos) (cO m):=⟨PE.weaken (yi h.p) λY H Q h=>by
 obtain⟨c,Z,B,θ,o,O,r,b,em,q⟩:=h;refine vY r b em (λrs vs U e t b1 G=>?_) (bj q);cases F:gc rs U with
 |none=>simp only[F] at G;cases G
 |some p=>
  obtain⟨as,Z'⟩:=p;simp only[F] at G;obtain⟨b2,j⟩:=Bd.gc t b1 F;split at G
  .rename_i hl;cases G;exact⟨by have:=jM;lia,λp hp=>q (.ref p) _ trivial (Bd.uL b2 (by simp[j]) hp vs as mN)⟩
  .cases G⟩
end
inductive Fl where
 |nx|rt(s:Sl)|bk|ct|ex(c:Str)
noncomputable abbrev Ms:=List Sl->Option (Fl×List Sl)
noncomputable def au:Nat->List Sl->List Sl
 |0,_=>[]
 |n+1,[]=>.un::au n []
 |n+1,.pv o::Z=>.pv o::au n Z
 |n+1,_::Z=>.un::au n Z
def iW(K:Kx)(n:Nat)(m:Ms):Sp:=λvs H Q E=>vs.length=n/\∃(c:Cn)(Z:List Sl)(f:Fl)(O:List Sl),c.toKx=K/\c.σ0=vs.map some/\c.H0=H/\fF c (vs.map some) H Z [] [] c.Lp/\m Z=some (f,O) /\
  (match f with
   | .rt s=>∀v H',(∀o,s≠.pv o)->Bd c (vs.map some) H' (au vs.length O) [some v] [s]->Q v H'
   | .ex x=>∀C H',K.mg x=some (.ref C)->Bd c (vs.map some) H' (au vs.length O) [] []->E (.ref C) none H'
   | _=>False)
section
variable{k:Kx}{G H:Hp}
theorem aA.back:∀{σ0 Y:St}{Z:List Sl}{L:List Addr},aA k G H Y Z L->(∀(i:Nat)(o:LO),Z[i]?=some (.pv o)->i<σ0.length->Y[i]?=σ0[i]?)->∃L',L'.Sublist L/\aA k G H σ0 (au σ0.length Z) L'
 |[],_,_,_,_,_=>⟨[],List.nil_sublist _,.nil⟩
 |x::σ0,_,_,_,.nil,h=>by obtain⟨L',s,r⟩:=aA.back (σ0:=σ0) (Y:=[]) (Z:=[]) .nil (λi o e=>by simp at e);exact⟨L',s,aA.cons (L:=[]) (.un x) r⟩
 |x::σ0,_,_,_,.cons (x:=y) (s:=s) (Z:=U) (L:=L1) (L':=L2) hs r,h=>by
  obtain⟨L',sl,r'⟩:=aA.back (σ0:=σ0) r (λi o e hi=>by have:=h (i+1) o e (by simpa using hi);simpa using this);have fin:au (x::σ0).length (s::U)=.un::au σ0.length U->∃L',L'.Sublist (L1++L2)/\aA k G H (x::σ0) (au (x::σ0).length (s::U)) L':=λe=>by rw[e];exact⟨L',sl.trans (SJ _ _),aA.cons (L:=[]) (.un x) r'⟩
  cases s with
  |un=>exact fin rfl
  |fr a=>exact fin rfl
  |lv o=>exact fin rfl
  |pv o=>
   have e:=h 0 o rfl (by simp);have e:y=x:=by simpa using e
   subst e;exact⟨L1++L',Sv (Sn _) sl,aA.cons hs r'⟩
end
variable{as:List Sl}
section
variable{c:Cn}{Y:St}{H:Hp}{Z:List Sl}{B:St}{θ:List Sl}
theorem Bd.back(b:Bd c Y H Z B θ):Bd c c.σ0 H (au c.σ0.length Z) B θ:=by
 obtain⟨L,b⟩:=b;obtain⟨C,L2,F,k,n⟩:=aA.split b.lt b.rel;obtain⟨L',sl,r⟩:=n.back (σ0:=c.σ0) (λi o e _=>b.kp i o e);have v:(C++L').Sublist L:=by rw[F];exact Sv (Sn _) sl
 have sm:Sq (c.g H L) (c.g H (C++L')):=c0 λa ha=>v.subset ha;exact⟨C++L',b.nd.sublist v,(k.app r).sm sm (λ_ _ _ e=>e),λp hp=>b.own p (v.subset hp),b.fr,λi o _=>rfl,b.lt,b.hd⟩
noncomputable def take1:Rr->List Sl->Option (Sl×List Sl)
 | .fr a,Z=>some (.fr a,Z)
 | .nw o,Z=>some (.fr o.a,Z)
 | .rf i,Z=>match Z[i]? with
  |some (.lv o)=>some (.lv o,Z.set i .un)
  |some (.pv o)=>some (.lv o,Z.set i .un)
  |some (.fr a)=>some (.fr a,Z)
  |_=>none
def cI:List Rr->List Sl->Option (List Sl×List Sl)
 |[],Z=>some ([],Z)
 |r::rs,Z=>match take1 r Z with
  |some (a,U)=>match cI rs U with
   |some (as,Z')=>some (a::as,Z')
   |none=>none
  |none=>none
noncomputable def sO:Sl->Sl
 | .lv o=>.pv o
 |s=>s
theorem tZ{r:Rr}(h:cI (r::rs) Z=some (as,O)):∃a H U,take1 r Z=some (a,U)/\cI rs U=some (H,O)/\as=a::H:=by
 unfold cI at h;cases F:take1 r Z with
 |none=>simp only[F] at h;cases h
 |some p=>
  obtain⟨a,U⟩:=p;simp only[F] at h;cases j:cI rs U with
  |none=>simp only[j] at h;cases h
  |some q=>obtain⟨H,Z'⟩:=q;simp only[j] at h;cases h;exact⟨a,H,U,rfl,j,rfl⟩
theorem Bd.take1{r:Rr}{v:V}{a:Sl}{O:List Sl}{xs:St}{ss:List Sl}(e:xs.length=ss.length)(b:Bd c Y H Z (xs++cu r v B) (ss++cv r θ))(t:VR Y r v)(h:take1 r Z=some (a,O)):Bd c Y H O (xs++some v::B) (ss++a::θ):=by
 cases r with
 |fr a'=>cases h;exact b
 |nw o=>cases h;exact Bd.LM e b
 |rf i=>
  unfold M.take1 at h;cases es:Z[i]? with
  |none=>simp only[es] at h;cases h
  |some s=>
   cases s with
   |un=>simp only[es] at h;cases h
   |fr a'=>simp only[es] at h;cases h;exact Bd.J2 e b t es
   |lv o=>simp only[es] at h;cases h;exact Bd.Hw e b t es (.inl rfl)
   |pv o=>simp only[es] at h;cases h;exact Bd.Hw e b t es (.inr rfl)
theorem Bd.cI:∀{rs:List Rr}{vs:List V}{as:List Sl}{Z O:List Sl}{B:St}{θ:List Sl},lQ Y rs vs->Bd c Y H Z (c6 rs vs B) (c5 rs θ)->cI rs Z=some (as,O)->Bd c Y H O (vs.reverse.map some++B) (as.reverse++θ)/\vs.length=as.length
 |[],[],_,_,_,_,_,_,b,h=>by cases h;exact⟨b,rfl⟩
 |r::rs,v::vs,_,Z,O,B,θ,hv,b,h=>by obtain⟨a,as,U,F,j,rfl⟩:=tZ h;have b:Bd c Y H Z (c6 rs vs (cu r v B)) (c5 rs (cv r θ)):=b;rw[dI,dA] at b;have b1:=Bd.take1 (pZ rs vs (lQ.len hv.2)) b hv.1 F;rw[<-dI rs vs (some v::B),<-dA rs (a::θ)] at b1;obtain⟨b2,Q⟩:=Bd.cI hv.2 b1 j;exact⟨by simpa using b2,by simp[Q]⟩
 |[],_::_,_,_,_,_,_,h,_,_=>h.elim
 |_::_,[],_,_,_,_,_,h,_,_=>h.elim
noncomputable def rA(S:List Sl):Rr->Sl->List Sl->Option (List Sl)
 | .rf i,s,Z=>match S[i]?,s,Z[i]? with
  |some (.lv _),.pv o,some .un=>some (Z.set i (.lv o))
  |some (.pv _),.pv o,some .un=>some (Z.set i (.pv o))
  |some (.fr _),_,_=>some Z
  |_,_,_=>none
 |_,_,Z=>some Z
def putL(S:List Sl):List Rr->List Sl->List Sl->Option (List Sl)
 |r::rs,s::ss,Z=>match putL S rs ss Z with
  |some U=>rA S r s U
  |none=>none
 |[],[],Z=>some Z
 |_,_,_=>none
end
section
variable{k:Kx}{G H:Hp}
theorem aA.KA:∀{Y:St}{Z:List Sl}{L:List Addr},aA k G H Y Z L->∃L',L'.Perm L/\aA k G H Y.reverse Z.reverse L'
 |_,_,_,.nil=>⟨[],.refl _,.nil⟩
 |_,_,_,.cons (L:=L1) (L':=L2) h r=>by obtain⟨L',pm,r'⟩:=aA.KA r;refine⟨L'++(L1++[]),?_,by rw[SW,SW];exact r'.app (aA.cons h .nil)⟩;rw[RK];exact(pm.append_right L1).trans Sw
theorem aA.ve:∀{Y:St}{Z:List Sl}{L:List Addr},aA k G H Y Z L->∀p∈L,∀ob vs,H p=some (.frz ob (.dK vs))->False
 |_,_,_,.nil,p,hp,_,_,_=>by cases hp
 |_,_,_,.cons h r,p,hp,ob,vs,e=>by
  rcases QW.mp hp with z|z
  .cases h with
   |un=>cases z
   |fr=>cases z
   |lv h=>exact h.nf p z _ _ e
   |pv h=>exact h.nf p z _ _ e
  .exact r.ve p z ob vs e
theorem aA.sO:∀{Y:St}{Z:List Sl}{L:List Addr},aA k G H Y Z L->aA k G H Y (Z.map sO) L
 |_,_,_,.nil=>.nil
 |_,_,_,.cons h r=>by
  refine aA.cons ?_ (aA.sO r);cases h with
  |un=>exact .un _
  |fr h=>exact .fr h
  |lv h=>exact .pv h
  |pv h=>exact .pv h
noncomputable def zU:Sl->Sl
 | .pv o=>.lv o
 |s=>s
theorem aA.zU:∀{Y:St}{Z:List Sl}{L:List Addr},aA k G H Y Z L->aA k G H Y (Z.map zU) L
 |_,_,_,.nil=>.nil
 |_,_,_,.cons h r=>by
  refine aA.cons ?_ (aA.zU r);cases h with
  |un=>exact .un _
  |fr h=>exact .fr h
  |lv h=>exact .lv h
  |pv h=>exact .lv h
end
section
variable{c:Cn}{Y:St}{H:Hp}{Z:List Sl}{B:St}{θ:List Sl}
theorem Bd.enter(e:vs.length=as.length)(b:Bd c Y H Z (vs.reverse.map some++B) (as.reverse++θ)):
  ∃v:Cn,v.toKx=c.toKx/\v.σ0=vs.map some/\v.H0=H/\fF v (vs.map some) H (as.map sO) [] [] v.Lp /\
   ∀(H':Hp)(O:List Sl)(J:St)(T:List Sl),(∀s∈T,∀o,s≠.pv o)->O.length=vs.length->Bd v (vs.map some) H' O J T->Bd c Y H' Z (vs.reverse.map some++(J++B)) ((O.map zU).reverse++(T++θ)):=by
 obtain⟨L,b⟩:=b;have r:aA c.toKx (c.g H L) H (vs.reverse.map some++(B++Y)) (as.reverse++(θ++Z)) L:=by have:=b.rel;simpa[QZ] using this
 obtain⟨La,x,F,r1,n⟩:=aA.split (by simp[e]) r;obtain⟨Lp,pm,P⟩:=r1.KA;have P:aA c.toKx (c.g H L) H (vs.map some) as Lp:=by simpa[<-V5] using P
 have S:∀a,a∈Lp++(x++c.Hd)↔a∈L++c.Hd:=λa=>by
  rw[F,QW,QW,QW,QW,pm.mem_iff];constructor
  .rintro(h|h|h)
   .exact .inl (.inl h)
   .exact .inl (.inr h)
   .exact .inr h
  .rintro((h|h)|h)
   .exact .inl h
   .exact .inr (.inl h)
   .exact .inr (.inr h)
 have nd:=b.nd;rw[F] at nd;obtain⟨n1,n2,D⟩:=Q8.mp nd
 let v:Cn:={ toKx:=c.toKx,σ0:=vs.map some,H0:=H,Lp:=Lp,Hd:=x++c.Hd,Wk:=[] }
 have k:∀V C L2,(∀a,a∈C++(x++c.Hd)↔a∈L2++c.Hd)->v.g V C=c.g V L2:=λV C L2 hm=>by
  funext a
  show (if a∈C++(x++c.Hd) then none else V a)=(if a∈L2++c.Hd then none else V a)
  by_cases z:a∈C++(x++c.Hd)
  .rw[if_pos z,if_pos ((hm a).mp z)]
  .rw[if_neg z,if_neg λy=>z ((hm a).mpr y)]
 refine⟨v,rfl,rfl,rfl,⟨(pm.nodup_iff).mpr n1,?_,λp hp=>.inl hp,⟨λq o h=>⟨o,h,λ_ _=>rfl⟩,λq j=>by cases j⟩,λi o _=>rfl,rfl,λp hp=>?_⟩,?_⟩
 .show aA c.toKx (v.g H Lp) H (vs.map some) (as.map sO) Lp;rw[k H Lp L S];exact P.sO
 .rcases QW.mp hp with z|z
  .exact⟨n.is p z,λy=>D p (pm.mem_iff.mp y) p z rfl⟩
  .refine⟨?_,λy=>b.xj (by rw[F];exact QX _ (pm.mem_iff.mp y)) z⟩;obtain⟨⟨u,h1⟩,h2⟩:=b.hd p z;obtain⟨E,h3,_⟩:=b.fr.st p u h1;exact⟨E,h3⟩
 .intro H' O J T hθ hl Q;obtain⟨L',Q⟩:=Q;obtain⟨N,Ls,e2,q1,q2⟩:=aA.split Q.lt Q.rel;obtain⟨m,U,q3⟩:=q2.zU.KA;have lt':B.length=θ.length:=by have:=b.lt;simp[e] at this;lia
  obtain⟨Lτ,Lσ,e3,s1,s2⟩:=aA.split lt' n;have X:∀p∈L',p∈Lp\/H p=none:=Q.own;have K:∀p,p∈x->∀u,H p=some u->H' p=some u:=λp hp u h=>by obtain⟨E,h1,h2⟩:=Q.fr.st p u h;have:p∉Lp:=λy=>D p (pm.mem_iff.mp y) p hp rfl;rw[h1,h2 this (λw t=>by cases t)]
  have A:∀p,p∈L'->p∉x:=λp hp y=>by
   rcases X p hp with z|z
   .exact D p (pm.mem_iff.mp z) p y rfl
   .obtain⟨u,h⟩:=n.is p y;rw[z] at h;cases h
  have I:Sq (c.g H L) (v.g H' L'):=λa u h=>by
   by_cases z:a∈L\/a∈c.Hd
   .rw[f6 z] at h;cases h
   .rw[br (λy=>z (.inl y)) (λy=>z (.inr y))] at h;have G:a∉Lp:=λy=>z (.inl (by rw[F];exact QX _ (pm.mem_iff.mp y)));have nr:a∉x:=λy=>z (.inl (by rw[F];exact QV _ y));obtain⟨E,h1,h2⟩:=Q.fr.st a u h;refine⟨E,?_,.inl (h2 G (λw t=>by cases t))⟩;rw[br (c:=v) (λy=>?_) (λy=>?_)]
    .exact h1
    .rcases X a y with w|w
     .exact G w
     .rw[w] at h;cases h
    .rcases QW.mp y with w|w
     .exact nr w
     .exact z (.inr w)
  have f:v.g H' L'=c.g H' (L'++x):=k H' L' (L'++x) λa=>by simp[QW,or_assoc]
  have s3:aA c.toKx (v.g H' L') H' (B++Y) (θ++Z) x:=n.sm I K;have cg:aA c.toKx (v.g H' L') H' (vs.reverse.map some++(J++B)++Y) ((O.map zU).reverse++(T++θ)++Z) (m++(N++x)):=by have:=q3.app (q1.app s3);simpa[QZ,<-V5] using this
  have R:(m++(N++x)).Perm (L'++x):=by rw[e2];have:=U.append_right (N++x);refine this.trans ?_;rw[<-QZ];exact Sw.append_right x
  refine⟨m++(N++x),(R.nodup_iff).mpr (Q8.mpr ⟨Q.nd,n2,λa ha b2 hb z=>A a ha (by rw[z];exact hb)⟩),?_,λp hp=>?_,⟨λq u h=>?_,λq j=>?_⟩,b.kp,?_,b.hd⟩
  .rw[Dk (c:=c) (H:=H') (L':=L'++x) λa=>R.mem_iff,<-f];exact cg
  .rcases QW.mp (R.mem_iff.mp hp) with z|z
   .rcases X p z with y|y
    .exact b.own p (by rw[F];exact QX _ (pm.mem_iff.mp y))
    .exact .inr (b.fr.fresh y)
   .exact b.own p (by rw[F];exact QV _ z)
  .obtain⟨u1,h1,h2⟩:=b.fr.st q u h;obtain⟨l,h3,h4⟩:=Q.fr.st q u1 h1;refine⟨l,h3,λd nw=>?_⟩;rw[h4 (λy=>?_) (λw t=>by cases t),h2 d nw];rcases b.own q (by rw[F];exact QX _ (pm.mem_iff.mp y)) with w|w
   .exact d w
   .rw[w] at h;cases h
  .obtain⟨h1,⟨ob,ws,h2⟩,h3⟩:=b.fr.pk q j;refine⟨?_,⟨ob,ws,h2⟩,h3⟩;obtain⟨l,h4,h5⟩:=Q.fr.st q.1 q.2 h1;rw[h4,h5 (λy=>?_) (λw t=>by cases t)];exact P.ve q.1 y ob ws (by rw[h1,h2])
  .have:=Q.lt;simp[hl];lia
end
section
variable{c:Cn}{Y:St}{H:Hp}{Z:List Sl}{B:St}{θ:List Sl}
theorem Bd.rA{S O:List Sl}{r:Rr}{s:Sl}{v:V}(kp:fZ c.σ0 Y S)(t:VR Y r v)(b:Bd c Y H Z (some v::B) (zU s::θ))(h:rA S r s Z=some O):Bd c Y H O B θ:=by
 cases r with
 |fr a=>cases h;exact b.pop
 |nw o=>cases h;exact b.pop
 |rf i=>
  unfold M.rA at h;cases X:S[i]? with
  |none=>simp only[X] at h;cases h
  |some s0=>
   simp only[X] at h;cases s0 with
   |un=>simp at h
   |fr a=>simp at h;subst h;exact b.pop
   |lv q=>
    cases s with
    |pv o=>
     cases F:Z[i]? with
     |none=>simp[F] at h
     |some s1=>
      cases s1 with
      |un=>simp[F] at h;subst h;exact Bd.putBack b t F (.inl rfl)
      |_=>simp[F] at h
    |_=>simp at h
   |pv q=>
    cases s with
    |pv o=>
     cases F:Z[i]? with
     |none=>simp[F] at h
     |some s1=>
      cases s1 with
      |un=>simp[F] at h;subst h;exact Bd.putBack b t F (.inr ⟨rfl,kp i q X⟩)
      |_=>simp[F] at h
    |_=>simp at h
theorem Bd.putL{S:List Sl}(kp:fZ c.σ0 Y S):∀{rs:List Rr}{vs:List V}{ss:List Sl}{Z O:List Sl}{B:St}{θ:List Sl},lQ Y rs vs->Bd c Y H Z (vs.reverse.map some++B) ((ss.map zU).reverse++θ)->M.putL S rs ss Z=some O->Bd c Y H O B θ
 |[],[],[],_,_,_,_,_,b,h=>by cases h;exact b
 |r::rs,v::vs,s::ss,Z,O,B,θ,hv,b,h=>by
  unfold M.putL at h;cases e:M.putL S rs ss Z with
  |none=>simp only[e] at h;cases h
  |some U=>
   simp only[e] at h;have b1:Bd c Y H Z (vs.reverse.map some++(some v::B)) ((ss.map zU).reverse++(zU s::θ)):=by simpa[QZ] using b
   exact Bd.rA kp hv.1 (Bd.putL kp hv.2 b1 e) h
 |[],_::_,_,_,_,_,_,h,_,_=>h.elim
 |_::_,[],_,_,_,_,_,h,_,_=>h.elim
 |[],[],_::_,_,_,_,_,_,_,h=>by cases h
 |_::_,_::_,[],_,_,_,_,_,_,h=>by cases h
theorem cB:∀(n:Nat)(Z:List Sl),(au n Z).length=n
 |0,_=>rfl
 |n+1,[]=>by show (Sl.un::au n []).length=_;rw[Q6,cB n []]
 |n+1,s::Z=>by cases s<;>(show (_::au n Z).length=_;rw[Q6,cB n Z])
theorem lQ.app:∀{rs qs:List Rr}{vs us:List V},lQ Y rs vs->lQ Y qs us->lQ Y (rs++qs) (vs++us)
 |[],_,[],_,_,h=>h
 |_::rs,_,_::vs,_,h1,h2=>⟨h1.1,lQ.app h1.2 h2⟩
 |[],_,_::_,_,h,_=>h.elim
 |_::_,_,[],_,h,_=>h.elim
theorem lQ.lR:∀{das:List A}{dvs:List V},das.length=dvs.length->lQ Y (das.map Rr.fr) dvs
 |[],[],_=>trivial
 |_::das,_::dvs,h=>⟨trivial,lQ.lR (by simpa using h)⟩
 |[],_::_,h=>by simp at h
 |_::_,[],h=>by simp at h
theorem nS:∀{rs:List Rr}{vs:List V}(qs:List Rr)(us:List V)(B:St),rs.length=vs.length->c6 (rs++qs) (vs++us) B=c6 qs us (c6 rs vs B)
 |[],[],_,_,_,_=>rfl
 |r::rs,v::vs,qs,us,B,h=>nS (rs:=rs) (vs:=vs) qs us (cu r v B) (by simpa using h)
 |[],_::_,_,_,_,h=>by simp at h
 |_::_,[],_,_,_,h=>by simp at h
theorem kW:∀(rs qs:List Rr)(θ:List Sl),c5 (rs++qs) θ=c5 qs (c5 rs θ)
 |[],_,_=>rfl
 |r::rs,qs,θ=>kW rs qs (cv r θ)
theorem Bd.tf:∀{das:List A}{dvs:List V}{B:St}{θ:List Sl},(∀G,bS c.toKx G dvs das)->Bd c Y H Z B θ->Bd c Y H Z (c6 (das.map Rr.fr) dvs B) (c5 (das.map Rr.fr) θ)
 |[],[],_,_,_,b=>b
 |a::das,v::dvs,_,_,h,b=>Bd.tf (das:=das) (dvs:=dvs) (λG=>by cases h G;assumption) (Bd.push b λG=>by cases h G;assumption)
 |[],_::_,_,_,h,_=>by cases h (λ_=>none)
 |_::_,[],_,_,h,_=>by cases h (λ_=>none)
end
noncomputable def mR:Sl->Option Rr
 | .fr a=>some (.fr a)
 | .lv o=>some (.nw o)
 |_=>none
def bq(f:Ms)(das:List A)(ma:Mi (List Rr)):Mi Rr:=aV ma λrs Z=>match cI (rs++das.map Rr.fr) Z with
 |some (as,S)=>match f (as.map sO) with
  |some (.rt s,T)=>match mR s,putL Z (rs++das.map Rr.fr) (au as.length T) S with
   |some r,some O=>some (.ok r,O)
   |_,_=>none
  |some (.ex x,T)=>match putL Z (rs++das.map Rr.fr) (au as.length T) S with
   |some O=>some (.error x,O)
   |none=>none
  |_=>none
 |none=>none
variable{dvs:List V}
section
variable{X:Cx}{E:XK}
theorem kB{m:Ms}{n:Nat}{das:List A}(hd:∀G,bS (kx X) G dvs das){o:Except Str Rr}(i:c.toKx=kx X)(hn:(vs++dvs).length=n)
  (t:lQ Y rs vs)(b:Bd c Y H Z (c6 rs vs B) (c5 rs θ)) (em:(match cI (rs++das.map Rr.fr) Z with
 |some (as,S)=>match m (as.map sO) with
  |some (.rt s,T)=>match mR s,putL Z (rs++das.map Rr.fr) (au as.length T) S with
   |some r,some O=>some (.ok r,O)
   |_,_=>none
  |some (.ex x,T)=>match putL Z (rs++das.map Rr.fr) (au as.length T) S with
   |some O=>some (.error x,O)
   |none=>none
  |_=>none
 | none=>none)=some (o,O)) (l:∀r,o=.ok r->∀v H',VR Y r v->Bd c Y H' O (cu r v B) (cv r θ)->Q v H') (U:∀x,o=.error x->∀C H',X.mg x=some (.ref C)->Bd c Y H' O B θ->E (.ref C) none H'):iW (kx X) n m (vs++dvs) H Q E:=by
 refine⟨hn,?_⟩;cases F:cI (rs++das.map Rr.fr) Z with
 |none=>simp only[F] at em;cases em
 |some p=>
  obtain⟨as,S⟩:=p;simp only[F] at em;have ld:das.length=dvs.length:=(hd λ_=>none).len.symm;have h:lQ Y (rs++das.map Rr.fr) (vs++dvs):=t.app (lQ.lR ld);have b2:Bd c Y H Z (c6 (rs++das.map Rr.fr) (vs++dvs) B) (c5 (rs++das.map Rr.fr) θ):=by rw[nS _ _ _ t.len,kW];exact Bd.tf (by rw[i];exact hd) b
  obtain⟨g,V⟩:=Bd.cI h b2 F;obtain⟨P,K,w,k,d,u⟩:=Bd.enter V g;have kp:fZ c.σ0 Y Z:=by obtain⟨L,b⟩:=b;exact b.kp
  cases y:m (as.map sO) with
  |none=>simp only[y] at em;cases em
  |some p=>
   obtain⟨f,T⟩:=p;simp only[y] at em;refine⟨P,_,f,T,K.trans i,w,k,d,y,?_⟩;cases f with
   |nx=>cases em
   |bk=>cases em
   |ct=>cases em
   |rt s=>
    simp only at em;cases I:mR s with
    |none=>simp only[I] at em;cases em
    |some r=>
     cases q:putL Z (rs++das.map Rr.fr) (au as.length T) S with
     |none=>simp only[I,q] at em;cases em
     |some Z'=>
      simp only[I,q] at em;cases em;intro v H' j N;have R:=u H' _ _ _ (λs' J o z=>by rw[Q5.mp J] at z;exact j o z) (cB _ _) N;rw[V] at R;have D:=Bd.putL kp h R q;cases s with
      |fr a=>cases I;exact l _ rfl v H' trivial D
      |lv o=>cases I;exact l _ rfl v H' trivial D
      |_=>cases I
   |ex x=>
    simp only at em;cases q:putL Z (rs++das.map Rr.fr) (au as.length T) S with
    |none=>simp only[q] at em;cases em
    |some Z'=>simp only[q] at em;cases em;intro C H' hm N;have R:=u H' _ _ _ (λs' J=>by cases J) (cB _ _) N;rw[V] at R;exact U x rfl C H' hm (Bd.putL kp h R q)
theorem C9{CX:qY}{k n:Nat}{f:Addr}{fd:FuncData}{ps:List Str}{m:Ms}{das:List A}{ds:List Value}{p:Pos}{ma:Mi (List Rr)}(F:dg X.prog X.w X.K X.mg X.base CX k f fd ps (iW (kx X) n m))(hr:cP k X.A)(hg:Gl X x)
  (hm:X.mg x=some (.ref f))(hk:R8 X.K (.ref f)=true)(hb:Binds X.K fd ps ds)(hd:Vals dvs ds)(hda:∀G,bS (kx X) G dvs das)(hx:Passes CX X E)(ha:JA X E (e::es) ma)(hn:∀Z rs O,ma Z=some (.ok rs,O)->rs.length+das.length=n)(hdb:gP x)
  (he:starEach (e::es) X.env=(false,eval e X.env)::starEach es X.env:=by rfl)(hpl:(backTo pos (starEach es X.env)).any (·.1)=false:=by rfl):JE X E (.Call (.Name x p) (e::es) [] pos) (bq m das ma):=
 ⟨PE.weaken (Ds F hr hg hm hk hb hd hx ha.p hdb he hpl) λY H Q h=>by
  obtain⟨c,Z,B,θ,o,O,ek,b,em,q⟩:=h;rcases bind_some em with ⟨rs,U,e1,e2⟩|⟨e,e1,e2⟩
  .refine⟨c,Z,B,θ,_,U,ek,b,e1,λvs H1 hv b1=>?_⟩;refine kB hda ek ?_ hv b1 e2 (λr hr v H' hv b=>by subst hr;exact q v H' hv b) (λx hx=>by subst hx;exact q);rw[Rc,<-hv.len,<-hn Z rs U e1,(hda λ_=>none).len]
  .subst e2;exact⟨c,Z,B,θ,_,O,ek,b,e1,λC H1 hm b1=>q C H1 hm b1⟩⟩
theorem Ai:∀Z rs O,c9 Z=some (.ok rs,O)->rs.length=0:=λZ rs O h=>by cases h;rfl
theorem vv{ma:Mi (List Rr)}{n:Nat}(h:∀Z rs O,ma Z=some (.ok rs,O)->rs.length=n):∀Z rs O,aJ m ma Z=some (.ok rs,O)->rs.length=n+1:=λZ rs O e=>by
 rcases bind_some e with ⟨r,U,F,j⟩|⟨_,_,j⟩
 .rcases bind_some j with ⟨rs',Z',Q,y⟩|⟨_,_,y⟩
  .cases y;rw[Q6,h _ _ _ Q]
  .cases y
 .cases j
theorem He{ma:Mi (List Rr)}{n d N:Nat}(h:∀Z rs O,ma Z=some (.ok rs,O)->rs.length=n)(e:n+d=N):∀Z rs O,ma Z=some (.ok rs,O)->rs.length+d=N:=λZ rs O q=>by rw[h Z rs O q];exact e
def Ht(K:Kx)(E:XK)(c:Cn)(Z:List Sl)(B:St)(θ:List A)(D:Ends):Fl->Prop
 | .nx=>∀Y H,Bd c Y H Z B (θ.map Sl.fr)->D.nx Y H
 | .rt s=>∀v Y H,(∀o,s≠.pv o)->Bd c Y H Z (some v::B) (s::θ.map Sl.fr)->D.rt v H
 | .bk=>∀Y H,Bd c Y H Z B (θ.map Sl.fr)->D.bk Y H
 | .ct=>∀Y H,Bd c Y H Z B (θ.map Sl.fr)->D.ct Y H
 | .ex x=>∀C Y H,K.mg x=some (.ref C)->Bd c Y H Z B (θ.map Sl.fr)->E (.ref C) none H
inductive P8(K:Kx)(E:XK)(m:Ms)(D:Ends)(Y:St)(H:Hp):Prop
 |mk(c:Cn)(Z:List Sl)(B:St)(θ:List A)(f:Fl)(O:List Sl)(h1:c.toKx=K)(h2:Bd c Y H Z B (θ.map Sl.fr))(h3:m Z=some (f,O))(h4:Ht K E c O B θ D f)
structure JS(X:Cx)(E:XK)(s:Stmt)(m:Ms):Prop where
 p:PS X s (P8 (kx X) E m)
structure wu(X:Cx)(E:XK)(s:List Stmt)(m:Ms):Prop where
 p:sT X s (P8 (kx X) E m)
theorem PS.weaken{e:Stmt}{t t':TS}(h:PS X e t)(f:∀D Y H,t' D Y H->t D Y H):PS X e t':=λpins s Y H D I q=>h pins s Y H D I (f D Y H q)
theorem sT.weaken{e:List Stmt}{t t':TS}(h:sT X e t)(f:∀D Y H,t' D Y H->t D Y H):sT X e t':=λpins s Y H D I q=>h pins s Y H D I (f D Y H q)
noncomputable def bf:Ms:=λZ=>some (.nx,Z)
noncomputable def av(m n:Ms):Ms:=λZ=>match m Z with
 |some (.nx,U)=>n U
 |r=>r
theorem CU:wu X E [] bf:=⟨sT.weaken En λD Y H h=>by obtain⟨c,Z,B,θ,f,O,r,b,em,q⟩:=h;cases em;exact q Y H b⟩
theorem Ej{s:Stmt}{m:Ms}(h:JS X E s m):wu X E [s] m:=⟨CS h.p⟩
theorem yt{s:Stmt}{r:List Stmt}{m n:Ms}(h:JS X E s m)(h':wu X E r n):wu X E (s::r) (av m n):=⟨sT.weaken (Bk h.p h'.p) λD Y H h=>by
 obtain⟨c,Z,B,θ,f,O,i,b,em,q⟩:=h;unfold av at em;cases e:m Z with
 |none=>simp only[e] at em;cases em
 |some p=>
  obtain⟨F,U⟩:=p;simp only[e] at em;refine⟨c,Z,B,θ,F,U,i,b,e,?_⟩;cases F with
  |nx=>exact λZ0 H' Q=>⟨c,U,B,θ,f,O,i,Q,em,q⟩
  |rt s=>cases em;exact q
  |bk=>cases em;exact q
  |ct=>cases em;exact q
  | ex x=>cases em;exact q⟩
theorem EB{pos}:JS X E (.Pass pos) bf:=⟨PS.weaken Ek λD Y H h=>by obtain⟨c,Z,B,θ,f,O,r,b,em,q⟩:=h;cases em;exact q Y H b⟩
noncomputable def AL:Ms:=λZ=>some (.bk,Z)
noncomputable def GB:Ms:=λZ=>some (.ct,Z)
theorem BI{pos}:JS X E (.Break pos) AL:=⟨PS.weaken yc λD Y H h=>by obtain⟨c,Z,B,θ,f,O,r,b,em,q⟩:=h;cases em;exact q Y H b⟩
theorem Eo{pos}:JS X E (.Continue pos) GB:=⟨PS.weaken rS λD Y H h=>by obtain⟨c,Z,B,θ,f,O,r,b,em,q⟩:=h;cases em;exact q Y H b⟩
noncomputable def c7{α:Type}(m:Mi α)(f:α->Ms):Ms:=λZ=>match m Z with
 |some (.ok x,U)=>f x U
 |some (.error e,U)=>some (.ex e,U)
 |none=>none
theorem dH{m:Mi α}{f:α->Ms}{o:Fl}(h:c7 m f Z=some (o,O)):(∃x U,m Z=some (.ok x,U)/\f x U=some (o,O))\/∃e,m Z=some (.error e,O)/\o=.ex e:=by
 unfold c7 at h;cases e:m Z with
 |none=>simp only[e] at h;cases h
 |some p=>
  obtain⟨r,U⟩:=p;cases r with
  |ok x=>simp only[e] at h;exact .inl ⟨x,U,rfl,h⟩
  |error x=>simp only[e] at h;cases h;exact .inr ⟨x,rfl,rfl⟩
theorem fN{θ:List A}{f:Rr->Ms}{o:Fl}{D:Ends}(r:c.toKx=kx X)(b:Bd c Y H Z B (θ.map Sl.fr))(em:c7 m f Z=some (o,O))(q:Ht (kx X) E c O B θ D o)
  (h1:∀x v U y,VR Y x v->Bd c Y y U (cu x v B) (cv x (θ.map Sl.fr))->f x U=some (o,O)->Q v y):gS (kx X) E m Y H Q:=by
 rcases dH em with ⟨x,U,F,j⟩|⟨e,F,j⟩
 .exact⟨c,Z,B,_,_,U,r,b,F,λv y t b1=>h1 x v U y t b1 j⟩
 .subst j;exact⟨c,Z,B,_,_,O,r,b,F,λC y hm b1=>q C Y y hm b1⟩
theorem FD{θ:List A}{m:Mi Bool}{f:Bool->Ms}{o:Fl}{Q:Bool->Hp->Prop}{D:Ends}(r:c.toKx=kx X)(b:Bd c Y H Z B (θ.map Sl.fr))(em:c7 m f Z=some (o,O))(q:Ht (kx X) E c O B θ D o)
  (h1:∀k U y,Bd c Y y U B (θ.map Sl.fr)->f k U=some (o,O)->Q k y):vG (kx X) E m Y H Q:=by
 rcases dH em with ⟨x,U,F,j⟩|⟨e,F,j⟩
 .exact⟨c,Z,B,_,_,U,r,b,F,λy b1=>h1 x U y b1 j⟩
 .subst j;exact⟨c,Z,B,_,_,O,r,b,F,λC y hm b1=>q C Y y hm b1⟩
def bK(m:Mi Rr):Ms:=c7 m λ_ Z=>some (.nx,Z)
theorem D4(h:JE X E e m)(hs:swapsWith e none pos.line X.env=pure false:=by rfl):JS X E (.Expr e pos) (bK m):=⟨PS.weaken (Dd h.p hs) λD Y H h=>by obtain⟨c,Z,B,θ,f,O,ek,b,em,q⟩:=h;refine fN ek b em q λx v U H1 hv b1 em1=>?_;cases em1;exact q Y H1 b1.drop⟩
def fD(t:Mi Bool)(m n:Ms):Ms:=c7 t λb=>if b then m else n
theorem Nm{t:Expr}{a b:List Stmt}{m n:Ms}(ht:JT X E t mt)(ha:wu X E a m)(d:wu X E b n):JS X E (.If t a b pos) (fD mt m n):=⟨PS.weaken (Lc ht.p ha.p d.p) λD Y H h=>by
 obtain⟨c,Z,B,θ,f,O,r,b,em,q⟩:=h;refine FD r b em q λk U e b1 G=>?_;cases k with
 |true=>rw[if_pos rfl];exact⟨c,U,B,θ,f,O,r,b1,G,q⟩
 | false=>rw[if_neg (by decide)];exact⟨c,U,B,θ,f,O,r,b1,G,q⟩⟩
noncomputable def Jc:Rr->List Sl->Option (Sl×List Sl)
 | .fr a,Z=>some (.fr a,Z)
 | .nw o,Z=>some (.lv o,Z)
 | .rf i,Z=>match Z[i]? with
  |some (.lv o)=>some (.lv o,Z.set i .un)
  |_=>none
def bh(m:Mi Rr):Ms:=c7 m λr Z=>match Jc r Z with
 |some (s,O)=>some (.rt s,O)
 |none=>none
theorem Hs(h:JE X E e m):JS X E (.Return (some e) pos) (bh m):=⟨PS.weaken (IT h.p) λD Y H h=>by
 obtain⟨c,Z,B,θ,f,O,r,b,em,q⟩:=h;refine fN r b em q λx v U y t b1 G=>?_;cases x with
 |fr a=>cases G;exact q v Y y (λo z=>by cases z) b1
 |nw o=>cases G;exact q v Y y (λo z=>by cases z) b1
 |rf i=>
  unfold Jc at G;cases es:U[i]? with
  |none=>simp only[es] at G;cases G
  |some s=>
   cases s with
   |lv o=>simp only[es] at G;cases G;exact q v Y y (λo z=>by cases z) (Bd.Hw (xs:=[]) (ss:=[]) rfl b1 t es (.inl rfl))
   | _=>simp only[es] at G;cases G⟩
noncomputable def Gm:Ms:=λZ=>some (.rt (.fr .non),Z)
theorem Fg:JS X E (.Return none pos) Gm:=⟨PS.weaken Dl λD Y H h=>by obtain⟨c,Z,B,θ,f,O,r,b,em,q⟩:=h;cases em;exact q .non Y H (λo z=>by cases z) (b.push λ_=>.non)⟩
def xQ:Rr->List Sl->Option (Sl×List Sl)
 | .fr a,Z=>some (.fr a,Z)
 | .nw o,Z=>some (.lv o,Z)
 | .rf i,Z=>match bA (.rf i) Z with
  |some (a,O)=>some (.fr a,O)
  |none=>none
noncomputable def put(i:Nat)(s:Sl)(Z:List Sl):Option (List Sl):=match Z[i]? with
 |some (.pv _)=>none
 |some _=>some (Z.set i s)
 |none=>none
theorem Bd.put{c:Cn}{Y:St}{H:Hp}{Z O:List Sl}{B:St}{θ:List Sl}{i:Nat}{v:V}{t:Sl}(b:Bd c Y H Z (some v::B) (t::θ))(ht:∀o,t≠.pv o)(h:put i t Z=some O):Bd c (Y.set i (some v)) H O B θ:=by
 unfold M.put at h;cases es:Z[i]? with
 |none=>simp only[es] at h;cases h
 |some s=>
  cases s with
  |pv o=>simp only[es] at h;cases h
  |un=>simp only[es] at h;cases h;exact b.store es (λo z=>by cases z) ht
  |fr a=>simp only[es] at h;cases h;exact b.store es (λo z=>by cases z) ht
  |lv o=>simp only[es] at h;cases h;exact b.store es (λo z=>by cases z) ht
theorem Bd.xQ{c:Cn}{Y:St}{H:Hp}{Z O:List Sl}{B:St}{θ:List Sl}{r:Rr}{v:V}{t:Sl}(E:VR Y r v)(b:Bd c Y H Z (cu r v B) (cv r θ))(h:xQ r Z=some (t,O)):Bd c Y H O (some v::B) (t::θ)/\∀o,t≠.pv o:=by
 cases r with
 |fr a=>cases h;exact⟨b,λo z=>by cases z⟩
 |nw o=>cases h;exact⟨b,λo z=>by cases z⟩
 |rf i=>
  unfold M.xQ at h;cases e:M.bA (.rf i) Z with
  |none=>simp only[e] at h;cases h
  |some p=>obtain⟨a,U⟩:=p;simp only[e] at h;cases h;exact⟨Bd.bA (r:=.rf i) (xs:=[]) (ss:=[]) rfl b E e,λo z=>by cases z⟩
def aO(i:Nat)(m:Mi Rr):Ms:=c7 m λr Z=>match xQ r Z with
 |some (t,U)=>match put i t U with
  |some Z'=>some (.nx,Z')
  |none=>none
 |none=>none
theorem AU{pos':Pos}(hN:X.N.Nodup)(hi:X.N[i]?=some x)(hx:Loc X.env.scope x)(he:JE X E e m)(hs:swapsWith e (some (.Name x pos')) pos.line X.env=pure false:=by rfl)
  (hf:X.fn x=true\/X.env.scope.names.lookup x=some .local:=by first|exact .inl rfl|exact .inr rfl|assumption):JS X E (.Assign [.Name x pos'] e pos) (aO i m):=⟨PS.weaken (J6 hN hi hx he.p hs hf) λD Y H h=>by
 obtain⟨c,Z,B,θ,f,O,ek,b,em,q⟩:=h;refine fN ek b em q λr v U H1 hv b1 em1=>?_;cases e1:xQ r U with
 |none=>simp only[e1] at em1;cases em1
 |some p=>
  obtain⟨t,Z'⟩:=p;simp only[e1] at em1;obtain⟨b2,ht⟩:=Bd.xQ hv b1 e1;cases e2:put i t Z' with
  |none=>simp only[e2] at em1;cases em1
  | some F=>simp only[e2] at em1;cases em1;exact q _ H1 (Bd.put b2 ht e2)⟩
noncomputable def bx(loc:Nat)(m:Ms):Ms:=λZ=>match m (Z++Rl loc .un) with
 |some (.nx,O)=>some (.rt (.fr .non),O)
 |some (.rt s,O)=>some (.rt s,O)
 |some (.ex x,O)=>some (.ex x,O)
 |_=>none
theorem nR{k:Kx}{G H:Hp}:∀n,aA k G H (Rl n none) (Rl n Sl.un) []
 |0=>.nil
 |n+1=>aA.cons (L:=[]) (.un _) (nR n)
theorem fF.start{c:Cn}{vs:List V}{H:Hp}{Z:List Sl}(N:List Str)(b:fF c (vs.map some) H Z [] [] c.Lp)(e:c.σ0=vs.map some):Bd c (start N vs) H (Z++Rl (N.length-vs.length) .un) [] []:=by
 have hl:vs.length=Z.length:=by have:=b.rel.len;simpa using this
 refine⟨c.Lp,b.nd,?_,b.own,b.fr,λi o h=>?_,rfl,b.hd⟩
 .have:=b.rel.app (nR (k:=c.toKx) (G:=c.g H c.Lp) (H:=H) (N.length-vs.length));simpa[L2.start] using this
 .have hi:i<Z.length:=by
   by_cases z:i<Z.length
   .exact z
   .rw[Rx (by lia)] at h;have:=Rt h;have:=Vj this;cases this
  unfold L2.start;rw[RF (by simp;lia),e]
end
variable{r':R2}{K:Kx}
section
variable{X:Cx}{E:XK}
theorem d0.or'{f:Value->Value->Sem Value}(h:d0 X f r)(h':d0 X f r'):d0 X f (λx y H Q=>r x y H Q\/r' x y H Q):=by
 intro pins s Y H x y v u Q I K b q;rcases q with q|q
 .exact h pins s Y H x y v u Q I K b q
 .exact h' pins s Y H x y v u Q I K b q
theorem cx.or'{f:Value}{r r':List V->Hp->VK->Prop}(h:cx X f r)(h':cx X f r'):cx X f (λxs H Q=>r xs H Q\/r' xs H Q):=by
 intro pins s Y H xs us Q I K q;rcases q with q|q
 .exact h pins s Y H xs us Q I K q
 .exact h' pins s Y H xs us Q I K q
noncomputable def bU(f g:A->A->Option Rr):A->A->Option Rr:=λa b=>match f a b with
 |some r=>some r
 |none=>g a b
theorem gN.or{f g:A->A->Option Rr}(h:gN K r f)(h':gN K r' g):gN K (λx y H Q=>r x y H Q\/r' x y H Q) (bU f g):=by
 intro c Y H Z B θ x y v w a b q Q s t p o F j V k;unfold bU at V;cases e:f a b with
 |some z=>simp only[e] at V;cases V;exact .inl (h c Y H Z B θ x y v w a b _ Q s t p o F j e k)
 |none=>simp only[e] at V;exact .inr (h' c Y H Z B θ x y v w a b _ Q s t p o F j V k)
theorem HM{f g:A->A->Option Rr}(h:gS (kx X) E (aC (bU f g) ma mb) Y H Q):gS (kx X) E (aC f ma mb) Y H Q\/gS (kx X) E (aC g ma mb) Y H Q:=by
 obtain⟨c,Z,B,θ,o,O,r,b,em,q⟩:=h;have C:aC f ma mb Z=some (o,O)\/aC g ma mb Z=some (o,O):=by
  unfold aC aV at em ⊢;cases F:ma Z with
  |none=>simp only[F] at em;cases em
  |some p=>
   obtain⟨x,U⟩:=p;cases x with
   |error e=>simp only[F] at em ⊢;exact .inl em
   |ok x=>
    simp only[F] at em ⊢;cases j:mb U with
    |none=>simp only[j] at em;cases em
    |some p=>
     obtain⟨y,Z'⟩:=p;cases y with
     |error e=>simp only[j] at em ⊢;exact .inl em
     |ok y=>
      simp only[j] at em ⊢;cases V:res Z' x with
      |none=>simp only[V] at em;cases em
      |some a=>
       cases T:res Z' y with
       |none=>simp only[V,T] at em;cases em
       |some d=>
        simp only[V,T] at em ⊢;unfold bU at em;cases I:f a d with
        |some z=>simp only[I] at em ⊢;exact .inl em
        |none=>simp only[I] at em;exact .inr em
 exact C.imp (λk=>⟨c,Z,B,θ,o,O,r,b,k,q⟩) (λk=>⟨c,Z,B,θ,o,O,r,b,k,q⟩)
theorem dC{f g:A->A->Option Rr}(h:JE X E e (aC f ma mb))(h':JE X E e (aC g ma mb)):JE X E e (aC (bU f g) ma mb):=
 ⟨λpins s Y H Q I q=>(HM q).elim (λq=>h.p pins s Y H Q I q) (λq=>h'.p pins s Y H Q I q)⟩
theorem AM{f g:A->A->Option Rr}{Q:Bool->Hp->Prop}(h:vG (kx X) E (ag (aC (bU f g) ma mb)) Y H Q):vG (kx X) E (ag (aC f ma mb)) Y H Q\/vG (kx X) E (ag (aC g ma mb)) Y H Q:=by
 obtain⟨c,Z,B,θ,o,O,r,b,em,q⟩:=h;have C:ag (aC f ma mb) Z=some (o,O)\/ag (aC g ma mb) Z=some (o,O):=by
  unfold ag aC aV at em ⊢;cases F:ma Z with
  |none=>simp only[F] at em;cases em
  |some p=>
   obtain⟨x,U⟩:=p;cases x with
   |error e=>simp only[F] at em ⊢;exact .inl em
   |ok x=>
    simp only[F] at em ⊢;cases j:mb U with
    |none=>simp only[j] at em;cases em
    |some p=>
     obtain⟨y,Z'⟩:=p;cases y with
     |error e=>simp only[j] at em ⊢;exact .inl em
     |ok y=>
      simp only[j] at em ⊢;cases V:res Z' x with
      |none=>simp only[V] at em;cases em
      |some a=>
       cases T:res Z' y with
       |none=>simp only[V,T] at em;cases em
       |some d=>
        simp only[V,T] at em ⊢;unfold bU at em;cases I:f a d with
        |some z=>simp only[I] at em ⊢;exact .inl em
        |none=>simp only[I] at em;exact .inr em
 exact C.imp (λk=>⟨c,Z,B,θ,o,O,r,b,k,q⟩) (λk=>⟨c,Z,B,θ,o,O,r,b,k,q⟩)
theorem eM{f g:A->A->Option Rr}(h:JT X E e (ag (aC f ma mb)))(h':JT X E e (ag (aC g ma mb))):JT X E e (ag (aC (bU f g) ma mb)):=
 ⟨λpins s Y H Q I q=>(AM q).elim (λq=>h.p pins s Y H Q I q) (λq=>h'.p pins s Y H Q I q)⟩
theorem gN.scalar{f:A->A->Option Rr}(h:∀H v w a b q,RA K H v a->RA K H w b->f a b=some q->∃u d,q=.fr d/\(∀G,RA K G u d)/\∀Q:VK,Q u H->r v w H Q):gN K r f:=by intro c Y H Z B θ x y v w a b q Q s t p o F j V k;have n:=Bd.rd o p j;have O:=Bd.rd o.drop t F;rw[s] at O n;obtain⟨u,d,rfl,C,m⟩:=h H v w a b q O n V;exact m Q (k u H trivial (Bd.push o.drop.drop (by rw[s];exact C)))
noncomputable def fits(n:Nat)(i:Int):Bool:=decide (i.natAbs<2^n)
theorem qo{n:Nat}{i:Int}(h:fits n i=true):L2.Bd n i:=show i.natAbs<2^n from of_decide_eq_true h
theorem fH{n m:Nat}{i:Int}(h:L2.Bd m i)(k:m<=n):fits n i=true:=decide_eq_true (show i.natAbs<2^n from h.mono k)
noncomputable def n5(f:Int->Int->Option Rr):A->A->Option Rr
 | .int i,.int j=>f i j
 |_,_=>none
theorem cH{f:Int->Int->Option Rr}{a b:A}{q:Rr}(h:n5 f a b=some q):∃i j,a=.int i/\b=.int j/\f i j=some q:=by
 unfold n5 at h;split at h
 .exact⟨_,_,rfl,rfl,h⟩
 .cases h
noncomputable def Pk(f:Str->Str->Option Rr):A->A->Option Rr
 | .str i,.str j=>f i j
 |_,_=>none
theorem BA{f:Str->Str->Option Rr}{a b:A}{q:Rr}(h:Pk f a b=some q):∃i j,a=.str i/\b=.str j/\f i j=some q:=by
 unfold Pk at h;split at h
 .exact⟨_,_,rfl,rfl,h⟩
 .cases h
def wo:A->A->Option Rr:=n5 λi j=>some (.fr (.int (i+j)))
def uk:A->A->Option Rr:=n5 λi j=>some (.fr (.int (i-j)))
def we:A->A->Option Rr:=n5 λi j=>if fits 20000 i&&fits 20000 j then some (.fr (.int (i*j))) else none
def lH:A->A->Option Rr:=n5 λi j=>if j != 0&&fits 9000 j then some (.fr (.int (i.fdiv j))) else none
def j8:A->A->Option Rr:=n5 λi j=>if j != 0 then some (.fr (.int (i.fmod j))) else none
def mX:A->A->Option Rr:=n5 λi j=>if 0<=j/\j<=1000000/\i.natAbs<2^64 then some (.fr (.int (i^j.toNat))) else none
def tQ:A->A->Option Rr:=n5 λi j=>some (.fr (.bl (decide (i<j))))
def Kg:A->A->Option Rr:=n5 λi j=>some (.fr (.bl (decide (j<i))))
def K2:A->A->Option Rr:=n5 λi j=>some (.fr (.bl (decide (j<=i))))
theorem EN:gN K (sM λi j=>.int (i+j)) wo:=.scalar λH v w a b q B n h=>by
 replace h:=cH h
 obtain⟨i,j,rfl,rfl,h⟩:=h
 cases B;cases n;cases h
 exact⟨_,_,rfl,λ_=>.int _,λQ k=>⟨_,_,rfl,rfl,k⟩⟩
theorem Kc:gN K (sM λi j=>.int (i-j)) uk:=.scalar λH v w a b q B n h=>by
 replace h:=cH h
 obtain⟨i,j,rfl,rfl,h⟩:=h
 cases B;cases n;cases h
 exact⟨_,_,rfl,λ_=>.int _,λQ k=>⟨_,_,rfl,rfl,k⟩⟩
theorem Dy:gN K (rI IntMulOk λi j=>.int (i*j)) we:=.scalar λH v w a b q B n h=>by
 replace h:=cH h
 obtain⟨i,j,rfl,rfl,h⟩:=h
 cases B;cases n
 split at h
 .rename_i hc
  rw[QR] at hc
  cases h
  exact⟨_,_,rfl,λ_=>.int _,λQ k=>⟨_,_,rfl,rfl,(qo hc.1).Ld (qo hc.2) (by decide),k⟩⟩
 .cases h
theorem Io:gN K (rI PR λi j=>.int (i.fdiv j)) lH:=.scalar λH v w a b q B n h=>by
 replace h:=cH h
 obtain⟨i,j,rfl,rfl,h⟩:=h
 cases B;cases n
 split at h
 .rename_i hc
  rw[QR] at hc
  cases h
  exact⟨_,_,rfl,λ_=>.int _,λQ k=>⟨_,_,rfl,rfl,⟨by simpa using hc.1,qo hc.2⟩,k⟩⟩
 .cases h
theorem Jy:gN K (rI (λ_ j=>j≠0) λi j=>.int (i.fmod j)) j8:=.scalar λH v w a b q B n h=>by
 replace h:=cH h
 obtain⟨i,j,rfl,rfl,h⟩:=h
 cases B;cases n
 split at h
 .rename_i hc
  cases h
  exact⟨_,_,rfl,λ_=>.int _,λQ k=>⟨_,_,rfl,rfl,by simpa using hc,k⟩⟩
 .cases h
theorem IK:gN K (rI Mp λi j=>.int (i^j.toNat)) mX:=.scalar λH v w a b q B n h=>by
 replace h:=cH h
 obtain⟨i,j,rfl,rfl,h⟩:=h
 cases B;cases n
 split at h
 .rename_i hc
  cases h
  exact⟨_,_,rfl,λ_=>.int _,λQ k=>⟨_,_,rfl,rfl,hc,k⟩⟩
 .cases h
theorem GI:gN K (sM λi j=>.bl (decide (i<j))) tQ:=.scalar λH v w a b q B n h=>by
 replace h:=cH h
 obtain⟨i,j,rfl,rfl,h⟩:=h
 cases B;cases n;cases h
 exact⟨_,_,rfl,λ_=>.bl _,λQ k=>⟨_,_,rfl,rfl,k⟩⟩
theorem Gf:gN K (sM λi j=>.bl (decide (j<i))) Kg:=.scalar λH v w a b q B n h=>by
 replace h:=cH h
 obtain⟨i,j,rfl,rfl,h⟩:=h
 cases B;cases n;cases h
 exact⟨_,_,rfl,λ_=>.bl _,λQ k=>⟨_,_,rfl,rfl,k⟩⟩
theorem Ge:gN K (sM λi j=>.bl (decide (j<=i))) K2:=.scalar λH v w a b q B n h=>by
 replace h:=cH h
 obtain⟨i,j,rfl,rfl,h⟩:=h
 cases B;cases n;cases h
 exact⟨_,_,rfl,λ_=>.bl _,λQ k=>⟨_,_,rfl,rfl,k⟩⟩
mutual
noncomputable def toD:A->Option D
 | .non=>some .non
 | .bl b=>some (.bl b)
 | .int i=>some (.int i)
 | .str x=>some (.str x)
 | .tup xs=>match jw xs with
  |some ds=>some (.tup ds)
  |none=>none
 | .lst xs=>match jw xs with
  |some ds=>some (.lst ds)
  |none=>none
 | .dic _=>none
 | .exc _=>none
 | .obj _ _=>none
 | .opq=>none
noncomputable def jw:List A->Option (List D)
 |[]=>some []
 |a::as=>match toD a,jw as with
  |some d,some ds=>some (d::ds)
  |_,_=>none
end
mutual
theorem kN{K:Kx}{H:Hp}:∀{v:V}{a:A}{d:D},RA K H v a->toD a=some d->Den K.K H v d
 |_,_,_,.non,h=>by rw[toD] at h;cases h;exact .non
 |_,_,_,.bl b,h=>by rw[toD] at h;cases h;exact .bl _
 |_,_,_,.int i,h=>by rw[toD] at h;cases h;exact .int _
 |_,_,_,.str x,h=>by rw[toD] at h;cases h;exact .str _
 |_,_,_,.tup (as:=as) e r,h=>by
  rw[toD] at h;cases q:jw as with
  |none=>simp only[q] at h;cases h
  |some ds=>simp only[q] at h;cases h;exact .tup e (lN r q)
 |_,_,_,.lst (as:=as) e r,h=>by
  rw[toD] at h;cases q:jw as with
  |none=>simp only[q] at h;cases h
  |some ds=>simp only[q] at h;cases h;exact .lst e (lN r q)
 |_,_,_,.dic e r,h=>by rw[toD] at h;cases h
 |_,_,_,.exc e m,h=>by rw[toD] at h;cases h
 |_,_,_,.obj e m r,h=>by rw[toD] at h;cases h
 |_,_,_,.opq,h=>by rw[toD] at h;cases h
theorem lN{K:Kx}{H:Hp}:∀{vs:List V}{as:List A}{ds:List D},bS K H vs as->jw as=some ds->fo K.K H vs ds
 |_,_,_,.nil,h=>by rw[jw] at h;cases h;exact .nil
 |_,_,_,.cons (a:=a) (as:=as) q r,h=>by
  rw[jw] at h;cases F:toD a with
  |none=>simp only[F] at h;cases h
  |some d=>
   cases j:jw as with
   |none=>simp only[F,j] at h;cases h
   |some ds=>simp only[F,j] at h;cases h;exact .cons (kN q F) (lN r j)
end
def pq(a b:A):Option Bool:=match toD a,toD b with
 |some d,some e=>if D.depth d<=40 then some (D.eq d e) else none
 |_,_=>none
def gG(a b:A):Option Rr:=match pq a b with
 |some k=>some (.fr (.bl k))
 |none=>none
def gQ(a b:A):Option Rr:=match pq a b with
 |some k=>some (.fr (.bl (!k)))
 |none=>none
theorem rq{a b:A}{k:Bool}(h:pq a b=some k):∃d e,toD a=some d/\toD b=some e/\D.depth d<=40/\k=D.eq d e:=by
 unfold pq at h;cases F:toD a with
 |none=>simp only[F] at h;cases h
 |some d=>
  cases j:toD b with
  |none=>simp only[F,j] at h;cases h
  |some e=>
   simp only[F,j] at h;split at h
   .rename_i hd;cases h;exact⟨d,e,rfl,rfl,hd,rfl⟩
   .cases h
theorem os_eq:gN K (MC K.K) gG:=.scalar λH v w a b q B n h=>by
 unfold gG at h;cases e:pq a b with
 |none=>simp only[e] at h;cases h
 |some k=>simp only[e] at h;cases h;obtain⟨d,d',h1,h2,h3,rfl⟩:=rq e;exact⟨_,_,rfl,λ_=>.bl _,λQ k=>⟨d,d',kN B h1,kN n h2,h3,k⟩⟩
theorem F9:gN K (MP K.K) gQ:=.scalar λH v w a b q B n h=>by
 unfold gQ at h;cases e:pq a b with
 |none=>simp only[e] at h;cases h
 |some k=>simp only[e] at h;cases h;obtain⟨d,d',h1,h2,h3,rfl⟩:=rq e;exact⟨_,_,rfl,λ_=>.bl _,λQ k=>⟨d,d',kN B h1,kN n h2,h3,k⟩⟩
def vC:A->A->Option Rr:=Pk λx y=>if x.length+y.length<=100000 then some (.fr (.str (x++y))) else none
theorem kz:100000<=sizeLine:=by rw[sizeLine_eq];decide
theorem Fh:gN K (λx y H Q=>∃i j,x=.str i/\y=.str j/\i.length+j.length<=sizeLine/\Q (.str (i++j)) H) vC:=.scalar λH v w a b q B n h=>by
 replace h:=BA h
 obtain⟨i,j,rfl,rfl,h⟩:=h
 cases B;cases n
 split at h
 .rename_i hc
  cases h
  exact⟨_,_,rfl,λ_=>.str _,λQ k=>⟨_,_,rfl,rfl,Rm hc kz,k⟩⟩
 .cases h
noncomputable def Gs:R2:=λx y H Q=>∃z n,x=.str z/\y=.int n/\MulOk z n/\Q (.str (Txt.mul z n)) H
theorem EG:d0 X (binaryOp .Mult) Gs:=by intro pins s Y H x y v u Q I K b h;obtain⟨z,n,rfl,rfl,hok,q⟩:=h;obtain⟨t,rfl⟩:=K;obtain⟨t',rfl⟩:=b;exact SB.mul hok λa k=>⟨.str _,H,I.tok _,⟨a,rfl⟩,q⟩
noncomputable def Aq:A->A->Option Rr
 | .str z,.int n=>if 1<=n/\n<=1000/\z.length<=1000 then some (.fr (.str (Txt.mul z n))) else none
 |_,_=>none
theorem Fy:gN K Gs Aq:=.scalar λH v w a b q B T h=>by
 cases a<;>first|(cases h;done)|(cases b<;>first|(cases h;done)|skip)
 cases B;cases T;rename_i z n;unfold Aq at h;simp only at h;split at h
 .rename_i hc;cases h;refine⟨_,_,rfl,λ_=>.str _,λQ k=>⟨_,_,rfl,rfl,⟨?_,λ_ _ Y=>?_,λ_ _=>?_⟩,k⟩⟩
  .rw[Bool.or_eq_false_iff];exact⟨decide_eq_false (by lia),decide_eq_false (by lia)⟩
  .have h1:n*(z.length:Int)<=1000*1000:=Int.mul_le_mul hc.2.1 (by lia) (by lia) (by decide);have h2:(z.length:Int)<=(2^63-1) / n:=by rw[Int.le_ediv_iff_mul_le (by lia)];rw[UL];lia
   lia
  .unfold TM;refine decide_eq_false ?_;have h1:z.length*n.toNat<=1000*1000:=Nat.mul_le_mul hc.2.2 (by lia);have:=sizeLine_eq;lia
 .cases h
noncomputable def sf:A->A->Option Rr
 | .tup xs,.tup ys=>if xs.length+ys.length<=100000 then some (.fr (.tup (xs++ys))) else none
 |_,_=>none
def Gp(K:QU):R2:=λx y H Q=>∃a b xs ys,x=.ref a/\y=.ref b/\gv K H a xs/\gv K H b ys/\xs.length+ys.length<=sizeLine/\(xs=[]->Q (.ref b) H)/\(xs≠[]->ys=[]->Q (.ref a) H) /\
 (xs≠[]->ys≠[]->∀p,H p=none->Q (.ref p) (upd H p (.tup (xs++ys))))
theorem CJ:d0 X (binaryOp .Add) (Gp X.K):=by
 intro pins s Y H x y v u Q I A S h;obtain⟨a,b,xs,ys,rfl,rfl,ha,d,hz,l,U,L⟩:=h;by_cases w:xs=[]
 .subst w;cases A;cases S;obtain⟨its,k,G,_⟩:=I.tuple ha;obtain⟨O,n,P,_⟩:=I.tuple d;cases k;obtain⟨⟨N,m,T,l1⟩,F,o,R,q⟩:=id G;obtain⟨⟨D,Z,i,p⟩,j,z,E,J⟩:=id P;simp only at o q z J;subst o q z J;exact concat_meets ⟨_,F,rfl⟩ ⟨_,j,rfl⟩ noFill_tuple_add seq_tuple_add Tz Tp (To _ _) (WZ a b _ _ R E m Z l1 p rfl) ⟨F,j,.ref b,H,I,rfl,l rfl⟩
 .exact Cy pins s Y H (.ref a) (.ref b) v u Q I A S ⟨a,b,xs,ys,rfl,rfl,ha,d,w,hz,U w,L w⟩
theorem EW:gN K (Gp K.K) sf:=by
 intro c Y H Z B θ x y v w a b q Q r t J S F j V k;cases a<;>first|(cases V;done)|(cases b<;>first|(cases V;done)|skip)
 rename_i xs ys;unfold sf at V;simp only at V;split at V
 .rename_i hc;cases V;obtain⟨L,bl,I,m⟩:=Bd.sF S t J F j;obtain⟨G,h,rfl,s1,O⟩:=I.2.1 xs rfl;obtain⟨P,X,rfl,s2,n⟩:=m.2.1 ys rfl;have l1:=O.len;have U:=n.len;subst r;refine⟨G,P,h,X,rfl,rfl,da (g_same _ _ _) s1,da (g_same _ _ _) s2,by have:=kz;lia,λz=>?_,λ_ z=>?_,λ_ _ p hp=>?_⟩
  .subst z;have:xs=[]:=UP (by rw[<-l1];rfl);subst this;exact k _ H trivial (bl.push (.tup s2 n))
  .subst z;have:ys=[]:=UP (by rw[<-U];rfl);subst this;rw[RK] at k;exact k _ H trivial (bl.push (.tup s1 O))
  .obtain⟨b2,sm,np⟩:=bl.new (o:=.tup (h++X)) hp;exact k _ _ trivial (b2.push (.tup (.inl (.inl (by rw[br np (bl.Oj hp)];exact bW))) ((O.app n).sm sm)))
 .cases V
end
variable{w:V}{id:String}
section
variable{X:Cx}{E:XK}
def i9:A->A->Option Rr
 | .lst xs,.int i=>match iI xs i with
  |some a=>some (.fr a)
  |none=>none
 | .tup xs,.int i=>match iI xs i with
  |some a=>some (.fr a)
  |none=>none
 | .str z,.int i=>if z.length<=100000 then match iI z.cps.toList i with
  |some c=>some (.fr (.str ⟨#[c]⟩))
  |none=>none else none
 |_,_=>none
theorem bS.iI{k:Kx}{G:Hp}{vs:List V}{as:List A}{i:Int}{a:A}(r:bS k G vs as)(h:iI as i=some a):∃v,iI vs i=some v/\RA k G v a:=by
 unfold L2.iI at h ⊢;rw[r.len];cases e:oW as.length i with
 |none=>rw[e] at h;cases h
 |some j=>rw[e] at h;obtain⟨v,h1,h2⟩:=r.ta h;exact⟨v,h1,h2⟩
theorem Mr:gN K (PY K.K) i9:=by
 intro c Y H Z B θ x y v w a b q Q s t r o F j V k;subst s;have n:=Bd.rd o r j;obtain⟨L,bl,I,X⟩:=Bd.sF o t r F j;have O:=Bd.rd o.drop t F;cases a<;>first|(cases V;done)|(cases b<;>first|(cases V;done)|skip)
 .rename_i z i;cases O;cases n;unfold i9 at V;simp only at V;split at V
  .rename_i hz;cases e:iI z.cps.toList i with
   |none=>simp only[e] at V;cases V
   |some ch=>simp only[e] at V;cases V;exact .inr (.inr ⟨z,i,ch,rfl,rfl,Rm hz kz,e,k _ H trivial (Bd.push ⟨L,bl⟩ λ_=>.str _)⟩)
  .cases V
 .rename_i xs i;cases n;unfold i9 at V;simp only at V;cases e:iI xs i with
  |none=>simp only[e] at V;cases V
  |some d=>simp only[e] at V;cases V;obtain⟨p,vs,rfl,s1,h⟩:=I.2.1 xs rfl;obtain⟨u,h1,h2⟩:=h.iI e;exact .inr (.inl ⟨p,vs,i,u,rfl,rfl,da (g_same _ _ _) s1,h1,k u H trivial (bl.push h2)⟩)
 .rename_i xs i;cases n;unfold i9 at V;simp only at V;cases e:iI xs i with
  |none=>simp only[e] at V;cases V
  |some d=>simp only[e] at V;cases V;obtain⟨p,vs,rfl,s1,h⟩:=I.1 xs rfl;obtain⟨u,h1,h2⟩:=h.iI e;exact .inl ⟨p,vs,i,u,rfl,rfl,s1,h1,k u H trivial (bl.push h2)⟩
theorem HV{a:Expr}(ha:JE X E a ma)(d:JE X E b mb)(u:jR b):JE X E (.Subscript a b pos) (aC i9 ma mb):=
 ⟨PE.weaken (GJ zP ha.p d.p u) (dJ Mr)⟩
noncomputable def gT:A->Option Key
 | .int i=>some (.inl i)
 | .str x=>some (.inr x)
 |_=>none
theorem jx{b:A}{y:Key}(r:RA K H w b)(h:gT b=some y):w=kV y:=by cases r<;>first|(cases h;rfl)|(cases h;done)
def cj:A->A->Option Rr
 | .dic kvs,b=>match gT b with
  |some y=>match gi kvs y with
   |some a=>some (.fr a)
   |none=>none
  |none=>none
 |_,_=>none
theorem Ey:gN K (λx y H Q=>∃a v,x=.ref a/\iH H a y (some v)/\Q v H) cj:=by
 intro c Y H Z B θ x y v w a b q Q s E t o F j V k;subst s;have n:=Bd.rd o t j;obtain⟨L,bl,I,X⟩:=Bd.sF o E t F j;cases a<;>first|(cases V;done)|skip
 rename_i kvs;unfold cj at V;simp only at V;cases r:gT b with
 |none=>simp only[r] at V;cases V
 |some h=>
  simp only[r] at V;obtain⟨p,vs,rfl,s1,z⟩:=I.2.2 kvs rfl;rcases z.get h with ⟨u,a,h1,h2,h3⟩|⟨h1,h2⟩
  .simp only[h2] at V;cases V;exact⟨p,u,rfl,.inl ⟨vs,h,s1,jx n r,h1.symm⟩,k u H trivial (bl.push h3)⟩
  .simp only[h2] at V;cases V
theorem DC{a:Expr}(f:X.A.units+1<cLine)(ha:JE X E a ma)(d:JE X E b mb)(u:zY b):JE X E (.Subscript a b pos) (aC cj ma mb):=
 ⟨PE.weaken (DW f ha.p d.p u) (dJ (r:=λx y H Q=>∃a v,x=.ref a/\iH H a y (some v)/\Q v H) Ey)⟩
theorem Nz{a:Expr}(f:X.A.units+1<cLine)(ha:JE X E a ma)(d:JE X E b mb)(u:jR b)(J:zY b):JE X E (.Subscript a b pos) (aC (bU i9 cj) ma mb):=dC (HV ha d u) (DC f ha d J)
noncomputable def pB:A->Bool
 | .non=>true
 | .bl _=>true
 | .int _=>true
 | .str _=>true
 |_=>false
noncomputable def rj:A->V
 | .non=>.non
 | .bl b=>.bl b
 | .int i=>.int i
 | .str x=>.str x
 |_=>.non
theorem B9{b:A}(r:RA K H w b)(h:pB b=true):w=rj b/\iF w=true:=by cases r<;>first|exact⟨rfl,rfl⟩|(cases h;done)
theorem v8{K:Kx}{H:Hp}:∀{vs:List V}{as:List A},bS K H vs as->as.all pB=true->vs=as.map rj/\vs.all iF=true
 |_,_,.nil,_=>⟨rfl,rfl⟩
 |_,_,.cons h r,e=>by rw[RB,QR] at e;obtain⟨h1,h2⟩:=B9 h e.1;obtain⟨h3,h4⟩:=v8 r e.2;exact⟨by rw[h1,h3];rfl,by rw[RB,h2,h4];rfl⟩
def KY(neg:Bool)(x:A)(xs:List A):Option Rr:=if pB x&&xs.all pB then some (.fr (.bl (if neg then !K5 (rj x) (xs.map rj) else K5 (rj x) (xs.map rj)))) else none
def fX(neg:Bool):A->A->Option Rr
 |x,.lst xs=>KY neg x xs
 |x,.tup xs=>KY neg x xs
 |_,_=>none
theorem p0{neg:Bool}:gN K (Og K.K neg) (fX neg):=.scalar λH v w a b q B n h=>by
 have C:∀(xs:List A)(vs:List V)(p:Addr),bS K H vs xs->(gu K.K H p vs\/gv K.K H p vs)->KY neg a xs=some q->∃u d,q=.fr d/\(∀G,RA K G u d)/\∀Q:VK,Q u H->Og K.K neg v (.ref p) H Q:=by
  intro xs vs p z sq h;unfold KY at h;split at h
  .rename_i hc;rw[QR] at hc;cases h;obtain⟨rfl,h2⟩:=B9 B hc.1;obtain⟨rfl,h4⟩:=v8 z hc.2;exact⟨_,_,rfl,λ_=>.bl _,λQ k=>⟨p,_,rfl,sq,h2,h4,k⟩⟩
  .cases h
 cases b<;>first|(cases h;done)|skip
 .cases n with|tup e r=>exact C _ _ _ r (.inr e) h
 .cases n with|lst e r=>exact C _ _ _ r (.inl e) h
def eF(neg:Bool):A->A->Option Rr
 |x,.dic kvs=>match gT x with
  |some y=>some (.fr (.bl (if neg then !(gi kvs y).isSome else (gi kvs y).isSome)))
  |none=>none
 |_,_=>none
theorem yu:gN K (λy x H Q=>∃a o,x=.ref a/\iH H a y o/\Q (.bl o.isSome) H) (eF false):=.scalar λH v w a b q B n h=>by
 cases b<;>first|(cases h;done)|skip
 cases n with
 |dic e r=>
  unfold eF at h;simp only at h;cases L:gT a with
  |none=>simp only[L] at h;cases h
  |some y=>
   simp only[L] at h;cases h;refine⟨_,_,rfl,λ_=>.bl _,λQ k=>⟨_,_,rfl,.inl ⟨_,y,e,jx B L,rfl⟩,?_⟩⟩;rcases r.get y with ⟨u,a,h1,h2,h3⟩|⟨h1,h2⟩
   .rw[h1];rw[h2] at k;exact k
   .rw[h1];rw[h2] at k;exact k
theorem u6:gN K (λy x H Q=>∃a o,x=.ref a/\iH H a y o/\Q (.bl (!o.isSome)) H) (eF true):=.scalar λH v w a b q B n h=>by
 cases b<;>first|(cases h;done)|skip
 cases n with
 |dic e r=>
  unfold eF at h;simp only at h;cases L:gT a with
  |none=>simp only[L] at h;cases h
  |some y=>
   simp only[L] at h;cases h;refine⟨_,_,rfl,λ_=>.bl _,λQ k=>⟨_,_,rfl,.inl ⟨_,y,e,jx B L,rfl⟩,?_⟩⟩;rcases r.get y with ⟨u,a,h1,h2,h3⟩|⟨h1,h2⟩
   .rw[h1];rw[h2] at k;exact k
   .rw[h1];rw[h2] at k;exact k
theorem Ia{a:Expr}(f:X.A.units+1<cLine)(ha:JE X E a ma)(d:JE X E b mb)(hm:behindInMarks .In b=false):JE X E (.Compare a [.In] [b] pos) (aC (eF false) ma mb):=
 ⟨PE.weaken (AN (Cg f ha.p d.p) hm) (dJ (r:=λy x H Q=>∃a o,x=.ref a/\iH H a y o/\Q (.bl o.isSome) H) yu)⟩
theorem GZ{a:Expr}(f:X.A.units+1<cLine)(ha:JE X E a ma)(d:JE X E b mb)(hm:behindInMarks .In b=false):JT X E (.Compare a [.In] [b] pos) (ag (aC (eF false) ma mb)):=
 ⟨PT.weaken (yJ (Cg f ha.p d.p) hm) λY H Q h=>dJ (r:=λy x H Q=>∃a o,x=.ref a/\iH H a y o/\Q (.bl o.isSome) H) yu Y H _ (eN Y H Q h)⟩
theorem Dn{a:Expr}(f:X.A.units+1<cLine)(ha:JE X E a ma)(d:JE X E b mb)(hm:behindInMarks .NotIn b=false):JE X E (.Compare a [.NotIn] [b] pos) (aC (eF true) ma mb):=
 ⟨PE.weaken (AN (oy f ha.p d.p) hm) (dJ (r:=λy x H Q=>∃a o,x=.ref a/\iH H a y o/\Q (.bl (!o.isSome)) H) u6)⟩
theorem CL{a:Expr}(f:X.A.units+1<cLine)(ha:JE X E a ma)(d:JE X E b mb)(hm:behindInMarks .NotIn b=false):JT X E (.Compare a [.NotIn] [b] pos) (ag (aC (eF true) ma mb)):=
 ⟨PT.weaken (yJ (oy f ha.p d.p) hm) λY H Q h=>dJ (r:=λy x H Q=>∃a o,x=.ref a/\iH H a y o/\Q (.bl (!o.isSome)) H) u6 Y H _ (eN Y H Q h)⟩
theorem Ob{a:Expr}(f:X.A.units+1<cLine)(ha:JE X E a ma)(d:JE X E b mb)(hm:behindInMarks .In b=false):JE X E (.Compare a [.In] [b] pos) (aC (bU (fX false) (eF false)) ma mb):=dC (dF oV p0 ha d hm) (Ia f ha d hm)
theorem Nb{a:Expr}(f:X.A.units+1<cLine)(ha:JE X E a ma)(d:JE X E b mb)(hm:behindInMarks .In b=false):JT X E (.Compare a [.In] [b] pos) (ag (aC (bU (fX false) (eF false)) ma mb)):=eM (dG oV p0 ha d hm) (GZ f ha d hm)
theorem Ih{a:Expr}(f:X.A.units+1<cLine)(ha:JE X E a ma)(d:JE X E b mb)(hm:behindInMarks .NotIn b=false):JE X E (.Compare a [.NotIn] [b] pos) (aC (bU (fX true) (eF true)) ma mb):=dC (dF jO p0 ha d hm) (Dn f ha d hm)
theorem HD{a:Expr}(f:X.A.units+1<cLine)(ha:JE X E a ma)(d:JE X E b mb)(hm:behindInMarks .NotIn b=false):JT X E (.Compare a [.NotIn] [b] pos) (ag (aC (bU (fX true) (eF true)) ma mb)):=eM (dG jO p0 ha d hm) (CL f ha d hm)
noncomputable def tE:A->Bool
 | .non=>true
 |_=>false
def sP(neg:Bool):A->A->Option Rr
 |a,.non=>some (.fr (.bl (if neg then !tE a else tE a)))
 |_,_=>none
theorem vh{a:A}(r:RA K H v a):decide (v=.non)=tE a:=by cases r<;>rfl
theorem F4:gN K (λx y H Q=>y=.non/\Q (.bl (decide (x=.non))) H) (sP false):=.scalar λH v w a b q B n h=>by
 cases b<;>first|(cases h;done)|skip
 cases n;cases h;exact⟨_,_,rfl,λ_=>.bl _,λQ k=>⟨rfl,by rw[vh B];exact k⟩⟩
theorem vi:gN K (λx y H Q=>y=.non/\Q (.bl (!decide (x=.non))) H) (sP true):=.scalar λH v w a b q B n h=>by
 cases b<;>first|(cases h;done)|skip
 cases n;cases h;exact⟨_,_,rfl,λ_=>.bl _,λQ k=>⟨rfl,by rw[vh B];exact k⟩⟩
def eU(f:A->Option Rr)(m:Mi Rr):Mi Rr:=aV m λx Z=>match res Z x with
 |some a=>match f a with
  |some r=>some (.ok r,Z)
  |none=>none
 |none=>none
def lg(K:Kx)(r:V->Hp->VK->Prop)(f:A->Option Rr):Prop:=∀(c:Cn)(Y:St)(H:Hp)(Z:List Sl)(B:St)(θ:List Sl)(x:Rr)(v:V)(a:A)(q:Rr)(Q:VK),c.toKx=K->VR Y x v->
 Bd c Y H Z (cu x v B) (cv x θ)->res Z x=some a->f a=some q->(∀u H',VR Y q u->Bd c Y H' Z (cu q u B) (cv q θ)->Q u H')->r v H Q
theorem qy{f:A->Option Rr}{x:Rr}{o:Except Str Rr}(h:(match res Z x with|some a=>(match f a with|some r=>some ((.ok r:Except Str Rr),Z)|none=>none)|none=>none)=some (o,O)):∃a r,res Z x=some a/\f a=some r/\o=.ok r/\O=Z:=by
 cases F:res Z x with
 |none=>simp only[F] at h;cases h
 |some a=>
  simp only[F] at h;cases Q:f a with
  |none=>simp only[Q] at h;cases h
  |some r=>simp only[Q] at h;cases h;exact⟨a,r,rfl,Q,rfl,rfl⟩
theorem jW{r:V->Hp->VK->Prop}{f:A->Option Rr}(hf:lg (kx X) r f)(Y:St)(H:Hp)(Q:VK)(h:gS (kx X) E (eU f m) Y H Q):gS (kx X) E m Y H λv H'=>r v H' Q:=by obtain⟨c,Z,B,θ,o,O,s,b,em,q⟩:=h;refine bL s b em (λx v U e t b1 G=>?_) (bj q);obtain⟨a,r,F,C,rfl,rfl⟩:=qy G;exact hf c Y e _ B θ x v a r Q s t b1 F C q
theorem lg.scalar{r:V->Hp->VK->Prop}{f:A->Option Rr}(h:∀H v a q,RA K H v a->f a=some q->∃u d,q=.fr d/\(∀G,RA K G u d)/\∀Q:VK,Q u H->r v H Q):lg K r f:=by intro c Y H Z B θ x v a q Q s t o F C k;have O:=Bd.rd o t F;rw[s] at O;obtain⟨u,d,rfl,R,j⟩:=h H v a q O C;exact j Q (k u H trivial (Bd.push o.drop (by rw[s];exact R)))
noncomputable def om:A->Option Rr
 | .int i=>some (.fr (.int (-i)))
 |_=>none
theorem Kb{a:Expr}(h:JE X E a m):JE X E (.UnaryOp .USub a pos) (eU om m):=⟨PE.weaken (Nr Kk h.p) (jW (.scalar λH v a q B h=>by
 cases a<;>first|(cases h;done)|skip
 cases B;cases h;exact⟨_,_,rfl,λ_=>.int _,λQ k=>⟨_,rfl,k⟩⟩))⟩
def bT(f:A->Option Rr)(m:Mi Rr):Mi Rr:=eU f m
def Ct(f:A->A->Option Rr)(m n:Mi Rr):Mi Rr:=aC f m n
theorem u9{r:List V->Hp->VK->Prop}{f:A->Option Rr}{p:Pos}(hc:cx X (.builtin id) r)(hf:lg (kx X) (λv=>r [v]) f)(hg:Gl X x)(hm:X.mg x=none)(hv:bootBuiltins x=some (.builtin id))(ha:JE X E e m)(hn:x ≠ "__name__")
  (hdb:gP x)(hs:starEach [e] X.env=(false,eval e X.env)::starEach [] X.env:=by rfl)(hp:(backTo pos (starEach [] X.env)).any (·.1)=false:=by rfl):JE X E (.Call (.Name x p) [e] [] pos) (bT f m):=
 ⟨PE.weaken (mV hc hg hm hv (cq ha.p dB hs) hn hdb hs hp) λY H Q h=>jW hf Y H Q h⟩
theorem vn{T:String}{r:List V->Hp->VK->Prop}{f:A->Option Rr}{p:Pos}(hc:cx X (.type T) r)(hf:lg (kx X) (λv=>r [v]) f)(hg:Gl X x)(hm:X.mg x=none)(hv:bootBuiltins x=some (.type T))(ha:JE X E e m)(hn:x ≠ "__name__")
  (hdb:gP x)(hs:starEach [e] X.env=(false,eval e X.env)::starEach [] X.env:=by rfl)(hp:(backTo pos (starEach [] X.env)).any (·.1)=false:=by rfl):JE X E (.Call (.Name x p) [e] [] pos) (bT f m):=
 ⟨PE.weaken (wx hc hg hm hv (cq ha.p dB hs) hn hdb hs hp) λY H Q h=>jW hf Y H Q h⟩
theorem GO{r:List V->Hp->VK->Prop}{f:A->A->Option Rr}{p:Pos}{e1 e2:Expr}{n:Mi Rr}(hc:cx X (.builtin id) r)(hf:gN (kx X) (λv w=>r [v,w]) f)(hg:Gl X x)(hm:X.mg x=none)(hv:bootBuiltins x=some (.builtin id))(h1:JE X E e1 m)(h2:JE X E e2 n)(hn:x ≠ "__name__")
  (hdb:gP x)(hs:starEach [e1,e2] X.env=(false,eval e1 X.env)::starEach [e2] X.env:=by rfl)(hs2:starEach [e2] X.env=(false,eval e2 X.env)::starEach [] X.env:=by rfl)(hp:(backTo pos (starEach [e2] X.env)).any (·.1)=false:=by rfl):JE X E (.Call (.Name x p) [e1,e2] [] pos) (Ct f m n):=
 ⟨PE.weaken (mV hc hg hm hv (cq h1.p (cq h2.p dB hs2) hs) hn hdb hs hp) λY H Q h=>dJ (r:=λv w=>r [v,w]) hf Y H Q h⟩
noncomputable def d6:A->Option Rr
 | .str z=>if z.length<=100000 then some (.fr (.int z.length)) else none
 | .lst xs=>some (.fr (.int xs.length))
 | .tup xs=>some (.fr (.int xs.length))
 |_=>none
theorem JD:lg K (λv H Q=>∃x n,[v]=[x]/\N7 K.K x H n/\Q (.int n) H) d6:=.scalar λH v a q B h=>by
 cases a<;>first|(cases h;done)|skip
 .cases B;unfold d6 at h;simp only at h;split at h
  .rename_i hz;cases h;exact⟨_,_,rfl,λ_=>.int _,λQ k=>⟨_,_,rfl,⟨Rm hz kz,rfl⟩,k⟩⟩
  .cases h
 .cases B with
  |tup e r=>cases h;exact⟨_,_,rfl,λ_=>.int _,λQ k=>⟨_,_,rfl,.inr ⟨_,e,rfl⟩,by rw[r.len];exact k⟩⟩
 .cases B with
  |lst e r=>cases h;exact⟨_,_,rfl,λ_=>.int _,λQ k=>⟨_,_,rfl,.inl ⟨_,e,rfl⟩,by rw[r.len];exact k⟩⟩
noncomputable def qu:A->Option Rr
 | .int i=>some (.fr (.int (if i<0 then -i else i)))
 |_=>none
theorem KP:lg K (λv H Q=>∃i,[v]=[V.int i]/\Q (.int (if i<0 then -i else i)) H) qu:=.scalar λH v a q B h=>by
 cases a<;>first|(cases h;done)|skip
 cases B;cases h;exact⟨_,_,rfl,λ_=>.int _,λQ k=>⟨_,rfl,k⟩⟩
def zQ:A->A->Option Rr:=n5 λi j=>some (.fr (.int (if j > i then j else i)))
def yq:A->A->Option Rr:=n5 λi j=>some (.fr (.int (if j<i then j else i)))
theorem Ij:gN K (λv w H Q=>∃i j,[v,w]=[V.int i,V.int j]/\Q (.int (if j > i then j else i)) H) zQ:=.scalar λH v w a b q B n h=>by
 replace h:=cH h
 obtain⟨i,j,rfl,rfl,h⟩:=h
 cases B;cases n;cases h
 exact⟨_,_,rfl,λ_=>.int _,λQ k=>⟨_,_,rfl,k⟩⟩
theorem Jv:gN K (λv w H Q=>∃i j,[v,w]=[V.int i,V.int j]/\Q (.int (if j<i then j else i)) H) yq:=.scalar λH v w a b q B n h=>by
 replace h:=cH h
 obtain⟨i,j,rfl,rfl,h⟩:=h
 cases B;cases n;cases h
 exact⟨_,_,rfl,λ_=>.int _,λQ k=>⟨_,_,rfl,k⟩⟩
noncomputable def EF:A->Option Rr
 | .int i=>some (.fr (.int i))
 | .bl k=>some (.fr (.int (if k then 1 else 0)))
 |_=>none
theorem IC:lg K (λv H Q=>(∃i,[v]=[V.int i]/\Q (.int i) H)\/∃k,[v]=[V.bl k]/\Q (.int (if k then 1 else 0)) H) EF:=.scalar λH v a q B h=>by
 cases a<;>first|(cases h;done)|skip
 .cases B;cases h;exact⟨_,_,rfl,λ_=>.int _,λQ k=>.inr ⟨_,rfl,k⟩⟩
 .cases B;cases h;exact⟨_,_,rfl,λ_=>.int _,λQ k=>.inl ⟨_,rfl,k⟩⟩
noncomputable def KS:A->Option (List A)
 | .lst xs=>some xs
 | .tup xs=>some xs
 |_=>none
def yS(a:A):Option Rr:=match KS a with
 |some xs=>some (.nw (.lst xs))
 |none=>none
def eX(a:A):Option Rr:=match KS a with
 |some xs=>some (.fr (.tup xs))
 |none=>none
theorem DZ:lg K (λv H Q=>∃p ys,[v]=[V.ref p]/\(gu K.K H p ys\/gv K.K H p ys)/\∀l,H l=none->Q (.ref l) (upd H l (.lst ys))) yS:=by
 intro c Y H Z B θ x v a q Q r t o F C k;subst r;obtain⟨L,bl,I⟩:=Bd.open o t F;cases a<;>first|(cases C;done)|skip
 .rename_i xs;cases C;obtain⟨p,vs,rfl,s1,z⟩:=I.2.1 xs rfl;exact⟨p,vs,rfl,.inr (da (g_same _ _ _) s1),λl hl=>k _ _ trivial (bl.gZ hl λG H' sm q=>.lst q (z.sm sm))⟩
 .rename_i xs;cases C;obtain⟨p,vs,rfl,s1,z⟩:=I.1 xs rfl;exact⟨p,vs,rfl,.inl s1,λl hl=>k _ _ trivial (bl.gZ hl λG H' sm q=>.lst q (z.sm sm))⟩
theorem B4:lg K (λv H Q=>∃p ys,[v]=[V.ref p]/\((gu K.K H p ys/\∀l,H l=none->Q (.ref l) (upd H l (.tup ys)))\/(gv K.K H p ys/\Q (.ref p) H))) eX:=by
 intro c Y H Z B θ x v a q Q r t S F C k;subst r;obtain⟨L,bl,I⟩:=Bd.open S t F;cases a<;>first|(cases C;done)|skip
 .rename_i xs;cases C;obtain⟨p,vs,rfl,s1,z⟩:=I.2.1 xs rfl;exact⟨p,vs,rfl,.inr ⟨da (g_same _ _ _) s1,k _ _ trivial (bl.push (.tup s1 z))⟩⟩
 .rename_i xs;cases C;obtain⟨p,vs,rfl,s1,z⟩:=I.1 xs rfl;refine⟨p,vs,rfl,.inl ⟨s1,λl hl=>?_⟩⟩;obtain⟨b2,sm,np⟩:=bl.new (o:=.tup vs) hl;exact k _ _ trivial (b2.push (.tup (.inl (.inl (by rw[br np (bl.Oj hl)];exact bW))) (z.sm sm)))
end
section
variable{c:Cn}{Y:St}{H:Hp}{Z:List Sl}{B:St}{θ:List Sl}
theorem Bd.qm{x:Option V}(e:xs.length=ss.length)(b:Bd c Y H Z (x::(xs++B)) (s::(ss++θ))):Bd c Y H Z (x::B) (s::θ):=by
 obtain⟨L,b⟩:=b;have r:aA c.toKx (c.g H L) H (x::(xs++(B++Y))) (s::(ss++(θ++Z))) L:=by have:=b.rel;simpa[QZ] using this
 cases r with
 |cons h r=>rename_i u L';obtain⟨v,L2,F,k,n⟩:=aA.split e r;subst F;have sl:(u++L2).Sublist (u++(v++L2)):=Sv (Sn _) (SJ _ _);have sm:Sq (c.g H (u++(v++L2))) (c.g H (u++L2)):=c0 λa ha=>sl.subset ha;exact⟨u++L2,b.nd.sublist sl,aA.cons (h.sm sm (λ_ _ _ e=>e)) (n.sm sm (λ_ _ _ e=>e)),λp hp=>b.own p (sl.subset hp),b.fr,b.kp,by have:=b.lt;simp at this ⊢;lia,b.hd⟩
theorem Bd.Nw{ys:St}(b:Bd c (Y++ys) H Z B θ):Bd c Y H (Z.take Y.length) B θ:=by
 have hl:=b.i6;rw[Rc] at hl;obtain⟨L,b⟩:=b;have r:aA c.toKx (c.g H L) H ((B++Y)++ys) ((θ++Z.take Y.length)++Z.drop Y.length) L:=by have:=b.rel;rw[QZ,QZ,S8];exact this
 obtain⟨v,L2,F,k,n⟩:=aA.split (by simp[b.lt];lia) r;subst F;have sm:Sq (c.g H (v++L2)) (c.g H v):=c0 λa ha=>QX _ ha;refine⟨v,(Q8.mp b.nd).1,k.sm sm (λ_ _ _ e=>e),λp hp=>b.own p (QX _ hp),b.fr,λi o h=>?_,b.lt,b.hd⟩;have hi:i<(Z.take Y.length).length:=(Q2.mp h).1;rw[RX] at hi;have h':Z[i]?=some (.pv o):=by rw[List.getElem?_take] at h;split at h;exact h;cases h
 have:=b.kp i o h';rwa[RF (by lia)] at this
theorem Bd.FR{n:Nat}(b:Bd c Y H Z B θ):Bd c (Y++Rl n none) H (Z++Rl n .un) B θ:=by
 have hl:=b.i6;obtain⟨L,b⟩:=b;refine⟨L,b.nd,?_,b.own,b.fr,λi o h=>?_,b.lt,b.hd⟩
 .have:=b.rel.app (nR (k:=c.toKx) (G:=c.g H L) (H:=H) n);simpa[QZ] using this
 .by_cases z:i<Z.length
  .rw[RF z] at h;rw[RF (by lia)];exact b.kp i o h
  .rw[Rx (by lia)] at h;have:=Vj (Rt h);cases this
end
noncomputable abbrev Mg:=A->List Sl->Option (List Sl)
noncomputable abbrev Cm:=List A->List Sl->Option (List Sl)
inductive N5(K:Kx)(lo:Nat)(G:Mg)(v:V)(Y:St)(H:Hp)(Q:St->Hp->Prop):Prop
 |mk(c:Cn)(Z:List Sl)(B:St)(θ:List Sl)(a:A)(O:List Sl)(h1:c.toKx=K)(h2:Bd c Y H Z (some v::B) (.fr a::θ))(h3:G a Z=some O)(h4:∀Z0 H',Z0.take lo=Y.take lo->Z0.length=Y.length->Bd c Z0 H' O B θ->Q Z0 H')
inductive Pn(K:Kx)(lo:Nat)(G:Cm)(vs:List V)(Y:St)(H:Hp)(Q:St->Hp->Prop):Prop
 |mk(c:Cn)(Z:List Sl)(B:St)(θ:List Sl)(as:List A)(O:List Sl)(h1:c.toKx=K)(h2:vs.length=as.length)(h3:Bd c Y H Z (vs.map some++B) (as.map Sl.fr++θ))(h4:G as Z=some O)(h5:∀Z0 H',Z0.take lo=Y.take lo->Z0.length=Y.length->Bd c Z0 H' O B θ->Q Z0 H')
structure JG(X:Cx)(lo:Nat)(tg:Expr)(G:Mg):Prop where
 p:PG X tg (N5 (kx X) lo G)
structure Nk(X:Cx)(lo:Nat)(tg:List Expr)(G:Cm):Prop where
 p:JO X tg (Pn (kx X) lo G)
def aG(i:Nat):Mg:=λa Z=>put i (.fr a) Z
noncomputable def dW:Cm:=λas Z=>match as with
 |[]=>some Z
 |_=>none
noncomputable def aL(g:Mg)(H:Cm):Cm:=λas Z=>match as with
 |a::as=>match g a Z with
  |some U=>H as U
  |none=>none
 |[]=>none
noncomputable def dw(n:Nat)(H:Cm):Mg:=λa Z=>match a with
 | .tup as=>if as.length=n then H as Z else none
 |_=>none
variable{gs:Cm}{tg iter:Expr}{body:List Stmt}
section
variable{X:Cx}{E:XK}{lo:Nat}
theorem ER(hN:X.N.Nodup)(hi:X.N[i]?=some x)(hx:Loc X.env.scope x)(hl:lo<=i)(hf:X.fn x=true\/X.env.scope.names.lookup x=some .local:=by first|exact .inl rfl|exact .inr rfl|assumption):JG X lo (.Name x pos) (aG i):=⟨λpins s Y H v u Q I r h=>by refine Ed hN hi hx hf pins s Y H v u Q I r ?_;obtain⟨c,Z,B,θ,a,O,ek,b,em,q⟩:=h;exact q _ H (by rw[List.take_set_of_le hl]) (by simp) (Bd.put b (λo z=>by cases z) em)⟩
theorem EH:Nk X lo [] dW:=⟨λpins s Y H v u Q I r h=>by
 refine DA pins s Y H v u Q I r ?_;obtain⟨c,Z,B,θ,as,O,i,hl,b,em,q⟩:=h;cases as with
 |nil=>cases em;cases v with|nil=>exact⟨rfl,q Y H rfl rfl b⟩|cons _ _=>simp at hl
 | cons _ _=>cases em⟩
theorem yH{g:Mg}(h1:JG X lo e g)(h2:Nk X lo es gs)(hp:∀{t:TG}{u:Gb},PG X e t->JO X es u->JO X (e::es) (Gn t u)):Nk X lo (e::es) (aL g gs):=⟨λpins s Y H v u Q I r h=>by
 refine hp h1.p h2.p pins s Y H v u Q I r ?_;obtain⟨c,Z,B,θ,as,O,i,hl,b,em,q⟩:=h;cases as with
 |nil=>cases em
 |cons a as=>
  cases v with
  |nil=>simp at hl
  |cons v vs=>
   unfold aL at em;simp only at em;cases F:g a Z with
   |none=>simp only[F] at em;cases em
   | some U=>simp only[F] at em;refine⟨v,vs,rfl,c,Z,_,_,a,U,i,b,F,λZ0 H' T l1 b1=>⟨c,U,B,θ,as,O,i,by simpa using hl,b1,em,λR E x A b2=>q R E (x.trans T) (A.trans l1) b2⟩⟩⟩
theorem Kz{k n:Nat}(hc:X.calm=true)(h:Nk X lo es gs)(hn:(assignEach es X.env).length=n:=by rfl)(hst:(assignEach es X.env).findIdx? (·.1)=none:=by rfl):JG X lo (.Tuple es k pos) (dw n gs):=⟨λpins s Y H v u Q I r h'=>by
 refine Ji hc h.p hn hst pins s Y H v u Q I r ?_;obtain⟨c,Z,B,θ,a,O,ek,b,em,q⟩:=h';cases a<;>first|(cases em;done)|skip
 rename_i as;unfold dw at em;simp only at em;split at em
 .rename_i hl;obtain⟨L,bl,i1⟩:=Bd.open (r:=.fr (.tup as)) b trivial rfl;obtain⟨p,vs,rfl,s1,rr⟩:=i1.2.1 as rfl;have:c.K=X.K:=by have:=congrArg Kx.K ek;exact this
  refine⟨p,vs,rfl,by rw[<-this];exact da (g_same _ _ _) s1,by rw[rr.len];exact hl,c,Z,B,θ,as,O,ek,rr.len,?_,em,q⟩;obtain⟨nd,rel,own,fr,kp,lt,hdd⟩:=bl;exact⟨L,nd,by have:=(aA.lR (H:=H) rr).app rel;simpa[QZ] using this,own,fr,kp,by simp[lt,rr.len],hdd⟩
 .cases em⟩
def MS(K:Kx)(J:It)(P:St)(N:List A)(as:List A):Prop:=∀(c:Cn)(Y:St)(H:Hp)(Z:List Sl)(D:St)(z:List Sl)(B:St)(θ:List Sl)(i:Nat),c.toKx=K->D.length=z.length->Bd c Y H Z (D++(P++B)) (z++(N.map Sl.fr++θ))->
 (as.length<=i->J.stop i H)/\∀a,as[i]?=some a->J.go i H/\∀x H',J.yld i H x H'->Bd c Y H' Z (some x::(D++(P++B))) (.fr a::(z++(N.map Sl.fr++θ)))
def MX(K:Kx)(E:XK)(c:Cn)(Y:St)(Z:List Sl)(B:St)(θ:List Sl)(R:It->Hp->Prop):Except Str (List A)->Prop
 | .ok as=>∀J H P N,P.length=N.length->MS K J P N as->Bd c Y H Z (P++B) (N.map Sl.fr++θ)->R J H
 | .error x=>∀C H,K.mg x=some (.ref C)->Bd c Y H Z B θ->E (.ref C) none H
inductive Qg(K:Kx)(E:XK)(m:Mi (List A))(Y:St)(H:Hp)(R:It->Hp->Prop):Prop
 |mk(c:Cn)(Z:List Sl)(B:St)(θ:List Sl)(o:Except Str (List A))(O:List Sl)(h1:c.toKx=K)(h2:Bd c Y H Z B θ)(h3:m Z=some (o,O))(h4:MX K E c Y O B θ R o)
structure JI(X:Cx)(E:XK)(tg iter:Expr)(m:Mi (List A)):Prop where
 p:PI X tg iter (Qg (kx X) E m)
theorem rZ{o:Except Str (List A)}{R:It->Hp->Prop}(q:MX (kx X) E c Y O B θ R o):∀e,o=.error e->∀C H,X.mg e=some (.ref C)->Bd c Y H O B θ->E (.ref C) none H:=λe a=>by subst a;exact q
noncomputable def DH(s:Str):List A:=s.cps.toList.map λc=>.str ⟨#[c]⟩
def KN:A->Option (List A)
 | .str s=>some (DH s)
 |a=>KS a
def bY(m:Mi Rr):Mi (List A):=aV m λr Z=>match bA r Z with
 |some (a,O)=>match KN a with
  |some as=>some (.ok as,O)
  |none=>none
 |none=>none
theorem Bd.mid{a:A}(e:xs.length=ss.length)(b:Bd c Y H Z (xs++(some v::B)) (ss++(.fr a::θ))):∃L,fF c Y H Z (xs++(some v::B)) (ss++(.fr a::θ)) L/\RA c.toKx (c.g H L) v a:=by
 obtain⟨L,b⟩:=b;have r:aA c.toKx (c.g H L) H (xs++(some v::(B++Y))) (ss++(.fr a::(θ++Z))) L:=by have:=b.rel;simpa[QZ] using this
 obtain⟨C,L2,F,k,n⟩:=aA.split e r;cases n with
 |cons h P=>cases h with|fr h=>exact⟨L,b,h⟩
theorem Ba{l:Expr}(hl:JE X E l m):JI X E tg l (bY m):=⟨λpins s Y H R I h=>by
 refine DL hl.p pins s Y H R I ?_;obtain⟨c,Z,B,θ,o,O,r,b,em,q⟩:=h;refine bL r b em (λx v U e f b1 G=>?_) (rZ q);cases F:bA x U with
 |none=>simp only[F] at G;cases G
 |some p=>
  obtain⟨a,Z'⟩:=p;simp only[F] at G;have b2:=Bd.bA (xs:=[]) (ss:=[]) rfl b1 f F;cases j:KN a with
  |none=>simp only[j] at G;cases G
  |some as=>
   simp only[j] at G;cases G;have w:c.K=X.K:=congrArg Kx.K r;cases a<;>first|(cases j;done)|skip
   .rename_i t;cases j;have rt:=Bd.top b2 (a:=.str t) rfl;cases rt;refine .inr ⟨t,rfl,q _ e [some (.str t)] [.str t] rfl (λg Z0 H' O D z J T i A S Q=>?_) b2⟩;obtain⟨L,bl,h⟩:=Bd.mid S Q;have hl:(DH t).length=t.cps.size:=by simp[DH]
    refine⟨λhi=>by rw[hl] at hi;exact hi,λa ha=>?_⟩;have hi:i<t.cps.size:=by rw[<-hl];exact(Q2.mp ha).1
    refine⟨hi,λx k y=>?_⟩;obtain⟨rfl,c,hc,rfl⟩:=y;have:a=.str ⟨#[c]⟩:=by unfold DH at ha;rw[Rn,S5,hc] at ha;exact(Q9 ha).symm
    subst this;exact bl.push (.str _)
   .cases j;have rt:=Bd.top b2 (a:=.tup as) rfl;cases rt with
    |tup V n=>
     rename_i p vs;refine .inl ⟨p,rfl,.inr ⟨⟨vs,by rw[<-w];exact V⟩,q _ e [some (.ref p)] [.tup as] rfl (λg Z0 H' O D z J T i A S Q=>?_) b2⟩⟩;have N:g.K=X.K:=congrArg Kx.K A;obtain⟨L,bl,h⟩:=Bd.mid S Q;cases h with
     |tup C P=>
      rename_i us;have sq:gv X.K H' p us:=by rw[<-N];exact da (g_same _ _ _) C
      refine⟨λhi=>⟨us,sq,by rw[P.len];exact hi⟩,λa ha=>?_⟩;obtain⟨u,h1,h2⟩:=P.ta ha;refine⟨⟨us,u,sq,h1⟩,λx k y=>?_⟩;obtain⟨rfl,y⟩:=y;have:=y us sq;rw[h1] at this;cases this;exact bl.push h2
   .cases j;have rt:=Bd.top b2 (a:=.lst as) rfl;cases rt with
    |lst V n=>
     rename_i p vs;refine .inl ⟨p,rfl,.inl ⟨⟨vs,by rw[<-w];exact V⟩,q _ e [some (.ref p)] [.lst as] rfl (λg Z0 H' O D z J T i A S Q=>?_) b2⟩⟩;have N:g.K=X.K:=congrArg Kx.K A;obtain⟨L,bl,h⟩:=Bd.mid S Q;cases h with
     |lst C P=>
      rename_i us;have sq:gu X.K H' p us:=by rw[<-N];exact mS (g_same _ _ _) C
      refine⟨λhi=>⟨us,sq,by rw[P.len];exact hi⟩,λa ha=>?_⟩;obtain⟨u,h1,h2⟩:=P.ta ha;refine⟨⟨us,u,sq,h1⟩,λx k y=>?_⟩;obtain⟨rfl,y⟩:=y;have:=y us sq;rw[h1] at this;cases this;exact bl.push h2⟩
noncomputable def fT(lo:Int)(n:Nat):List A:=(Sg n).map λi=>.int (lo+(i:Nat))
theorem G6{lo:Int}{n:Nat}:MS K (Ou lo n) [] [] (fT lo n):=λc Y H Z D z B θ i r S b=>by
 have hl:(fT lo n).length=n:=by simp[fT]
 refine⟨λh=>by rw[hl] at h;exact h,λa ha=>?_⟩;have hi:i<n:=by rw[<-hl];exact(Q2.mp ha).1
 refine⟨hi,λx H' y=>?_⟩;obtain⟨rfl,rfl⟩:=y;have:a=.int (lo+i):=by unfold fT at ha;rw[Rn,Tf hi] at ha;exact(Q9 ha).symm
 subst this;exact b.push λ_=>.int _
def dU(m:Mi Rr):Mi (List A):=aV m λr Z=>match res Z r with
 |some (.int j)=>if -(2^60)<=j/\j<2^60 then some (.ok (fT 0 j.toNat),Z) else none
 |_=>none
theorem Fb{a:Expr}{p:Pos}(hg:Gl X "range")(hm:X.mg "range" = none)(ha:JE X E a m)(hs:starEach [a] X.env=[(false,eval a X.env)]:=by rfl)(hs':starEach [a] X.env=(false,eval a X.env)::starEach [] X.env:=by rfl):JI X E tg (.Call (.Name "range" p) [a] [] pos) (dU m):=⟨λpins s Y H R I h=>by
 refine xD hg hm (cq ha.p dB hs') hs pins s Y H R I ?_;obtain⟨c,Z,B,θ,o,O,ek,b,em,q⟩:=h;refine bL ek b em (λx v U H1 hv b1 em1=>?_) (rZ q);cases e1:res U x with
 |none=>simp only[e1] at em1;cases em1
 |some a=>
  have r1:=Bd.rd b1 hv e1;simp only[e1] at em1;cases a<;>first|(cases em1;done)|skip
  rename_i j;simp only at em1;split at em1
  .rename_i hj;cases em1;cases r1;exact⟨j,rfl,by lia,by lia,q _ H1 [] [] rfl G6 b1.drop⟩
  .cases em1⟩
theorem AH{u:Option A}{F:Int->Option α}{r:α} (h:(match u with
   |some (.int k)=>F k
   | _=>none)=some r):∃k,u=some (.int k)/\F k=some r:=by
 split at h
 .rename_i k;exact⟨k,rfl,h⟩
 .cases h
theorem Ak{u w:Option A}{F:Int->Int->Option α}{r:α} (h:(match u,w with
 |some (.int i),some (.int j)=>F i j
 | _,_=>none)=some r):∃i j,u=some (.int i)/\w=some (.int j)/\F i j=some r:=by
 split at h
 .rename_i i j;exact⟨i,j,rfl,rfl,h⟩
 .cases h
noncomputable def forL(G:Mg)(b:Ms):List A->Ms
 |[],Z=>some (.nx,Z)
 |a::as,Z=>match G a Z with
  |none=>none
  |some U=>match b U with
   |some (.nx,Z')=>forL G b as Z'
   |some (.ct,Z')=>forL G b as Z'
   |some (.bk,Z')=>some (.nx,Z')
   |r=>r
def dt(m:Mi (List A))(G:Mg)(b:Ms):Ms:=c7 m λas Z=>forL G b as Z
theorem KD{m:Mi (List A)}{G:Mg}{mb:Ms}(hp:PassesOwn (model X.prog X.w) X.A X.env X.xe)(hc:X.calm=true)(hi:JI X E tg iter m)(hg:JG X 0 tg G)(hb:wu X E body mb)
  (hs:∀x,foldedSetIterable iter X.env x=pure x:=by intro _;rfl):JS X E (.For tg iter body [] pos) (dt m G mb):=⟨PS.weaken (Kl hp hc hi.p hg.p hb.p hs) λD Y H h=>by
 obtain⟨c,Z,B,θ,f,O,ek,b,em,q⟩:=h;rcases dH em with ⟨as,U,e1,e2⟩|⟨e,e1,e2⟩
 .refine⟨c,Z,B,_,_,U,ek,b,e1,λJ H1 P N li it b1=>?_⟩;refine⟨λi m Z0 H'=>m=as.length-i/\i<=as.length/\∃S,Bd c Z0 H' S (P++B) (N.map Sl.fr++θ.map Sl.fr)/\forL G mb (as.drop i) S=some (f,O),⟨_,rfl,R1 _,U,b1,by simpa using e2⟩,?_⟩;rintro i m Z0 H' ⟨rfl,hi,S,bi,ei⟩;obtain⟨i1,i2⟩:=it c Z0 H' S [] [] B (θ.map Sl.fr) i ek rfl bi;by_cases hlt:i<as.length
  .have hd:as.drop i=as[i]::as.drop (i+1):=RT hlt;rw[hd] at ei;obtain⟨go,yl⟩:=i2 as[i] (by simp[hlt]);refine .inr ⟨go,λR H2=>∃Z',Bd c R H2 Z' (P++B) (N.map Sl.fr++θ.map Sl.fr)/\forL G mb (as.drop (i+1)) Z'=some (f,O),λR H2 ⟨Z',q1,q2⟩=>⟨as.length-(i+1),by lia,rfl,hlt,Z',q1,q2⟩,λx H2 y=>?_⟩;have b2:=yl x H2 y;unfold forL at ei;cases eg:G as[i] S with
   |none=>simp only[eg] at ei;cases ei
   |some Z'=>
    simp only[eg] at ei;refine⟨c,S,_,_,as[i],Z',ek,b2,eg,λV H3 _ _ b3=>?_⟩;cases eb:mb Z' with
    |none=>simp only[eb] at ei;cases ei
    |some p=>
     obtain⟨f1,F⟩:=p;simp only[eb] at ei;refine⟨c,Z',P++B,N++θ,f1,F,ek,by rw[Rj];exact b3,eb,?_⟩;cases f1 with
     |nx=>intro T H4 b4;rw[Rj] at b4;exact⟨F,b4,ei⟩
     |ct=>intro T H4 b4;rw[Rj] at b4;exact⟨F,b4,ei⟩
     |bk=>cases ei;intro T H4 b4;rw[Rj] at b4;exact q T H4 (Bd.El (by simp[li]) b4)
     |rt s=>cases ei;intro v T H4 hs b4;rw[Rj] at b4;exact q v T H4 hs (Bd.qm (by simp[li]) b4)
     |ex x=>cases ei;intro C T H4 hm b4;rw[Rj] at b4;exact q C T H4 hm (Bd.El (by simp[li]) b4)
  .have e:i=as.length:=by lia
   subst e;rw[TC] at ei;cases ei;exact .inl ⟨i1 (Rf _),q Z0 H' (Bd.El (by simp[li]) bi)⟩
 .subst e2;exact⟨c,Z,B,_,_,O,ek,b,e1,λC H1 hm b1=>q C Y H1 hm b1⟩⟩
noncomputable def fU(t:Mi Bool)(b:Ms):Nat->Ms
 |0,_=>none
 |n+1,Z=>match t Z with
  |some (.ok true,U)=>match b U with
   |some (.nx,Z')=>fU t b n Z'
   |some (.ct,Z')=>fU t b n Z'
   |some (.bk,Z')=>some (.nx,Z')
   |r=>r
  |some (.ok false,U)=>some (.nx,U)
  |some (.error e,U)=>some (.ex e,U)
  |none=>none
def iw(n:Nat)(t:Mi Bool)(b:Ms):Ms:=fU t b n
theorem Bp{n:Nat}{t:Expr}{mb:Ms}(hp:PassesOwn (model X.prog X.w) X.A X.env X.xe)(ht:JT X E t mt)(d:wu X E body mb):JS X E (.While t body [] pos) (iw n mt mb):=⟨PS.weaken (BB hp ht.p d.p) λD Y H h=>by
 obtain⟨c,Z,B,θ,f,O,r,b,em,q⟩:=h;refine⟨λm Z0 H'=>∃S,Bd c Z0 H' S B (θ.map Sl.fr)/\fU mt mb m S=some (f,O),⟨n,Z,b,em⟩,?_⟩;rintro m Z0 H' ⟨S,i,a⟩;cases m with
 |zero=>cases a
 |succ m=>
  unfold fU at a;cases L:mt S with
  |none=>simp only[L] at a;cases a
  |some p=>
   obtain⟨o,U⟩:=p;refine⟨c,S,B,_,o,U,r,i,L,?_⟩;cases o with
   |error e=>simp only[L] at a;cases a;exact λC y hm b1=>q C Z0 y hm b1
   |ok k=>
    intro y b1;cases k with
    |false=>simp only[L] at a;cases a;rw[if_neg (by decide)];exact q Z0 y b1
    |true=>
     simp only[L] at a;rw[if_pos rfl];refine⟨λR u=>∃Z',Bd c R u Z' B (θ.map Sl.fr)/\fU mt mb m Z'=some (f,O),λR u w=>⟨m,TH _,w⟩,?_⟩;cases N:mb U with
     |none=>simp only[N] at a;cases a
     |some p=>
      obtain⟨z,F⟩:=p;simp only[N] at a;refine⟨c,U,B,θ,z,F,r,b1,N,?_⟩;cases z with
      |nx=>exact λT Q J=>⟨F,J,a⟩
      |ct=>exact λT Q J=>⟨F,J,a⟩
      |bk=>cases a;exact λT Q J=>q T Q J
      |rt s=>cases a;exact λv T Q V J=>q v T Q V J
      | ex x=>cases a;exact λC T Q hm J=>q C T Q hm J⟩
end
theorem eO(r:Rr)(v:V)(t:St)(u:List Sl):cu r v t=cu r v []++t/\cv r u=cv r []++u/\(cu r v []).length=(cv r []).length:=by cases r<;>exact⟨rfl,rfl,rfl⟩
theorem tI:100000<sizeLine:=by rw[sizeLine_eq];decide
def cX(G:Mg)(t:Mi Bool)(e:Mi Rr):List A->List A->List Sl->Option (List A×List Sl)
 |[],acc,Z=>some (acc,Z)
 |a::as,acc,Z=>match G a Z with
  |none=>none
  |some U=>match t U with
   |some (.ok true,Z')=>match e Z' with
    |some (.ok r,F)=>match bA r F with
     |some (d,T)=>cX G t e as (acc++[d]) T
     |none=>none
    |_=>none
   |some (.ok false,Z')=>cX G t e as acc Z'
   |_=>none
inductive LG(G:Mg)(t:Mi Bool)(e:Mi Rr)(a:A)(as acc:List A)(Z:List Sl)(r:List A×List Sl):Prop
 |skip{U Z':List Sl}(g:G a Z=some U)(k:t U=some (.ok false,Z'))(q:cX G t e as acc Z'=some r)
 |take{d:A}{u:Rr}{U Z' F T:List Sl}(g:G a Z=some U)(k:t U=some (.ok true,Z'))(m:e Z'=some (.ok u,F))(f:bA u F=some (d,T))(q:cX G t e as (acc++[d]) T=some r)
theorem xc{G:Mg}{t:Mi Bool}{e:Mi Rr}{a:A}{as acc:List A}{r:List A×List Sl}(h:cX G t e (a::as) acc Z=some r):LG G t e a as acc Z r:=by
 unfold cX at h;split at h
 .cases h
 .rename_i U H;split at h
  .rename_i Z' L;split at h
   .rename_i u F Y;split at h
    .rename_i d T x;exact .take H L Y x h
    .cases h
   .cases h
  .rename_i Z' L;exact .skip H L h
  .cases h
def bp:Mi Bool:=my true
def bH(n:Nat)(H:Mi (List A))(G:Mg)(t:Mi Bool)(e:Mi Rr):Mi Rr:=aV H λas Z=>if as.length<=100000 then match cX G t e as [] (Z++Rl n .un) with
 |some (ys,O)=>some (.ok (.nw (.lst ys)),O.take Z.length)
 |none=>none else none
structure JF(X:Cx)(E:XK)(ifs:List Expr)(m:Mi Bool):Prop where
 p:PF X ifs (vG (kx X) E m)
variable{me mk:Mi Rr}{lo:Nat}{N:List Str}{elt ek:Expr}{ifs:List Expr}{px apos cpos p1:Pos}
section
variable{X:Cx}{E:XK}
theorem HE:JF X E [] bp:=⟨λpins s Y H Q I h=>by refine HC pins s Y H Q I ?_;obtain⟨c,Z,B,θ,o,O,ek,b,em,q⟩:=h;cases em;exact q H b⟩
theorem Hj{t:Expr}{m:Mi Bool}(h:JT X E t m):JF X E [t] m:=⟨Kr h.p⟩
noncomputable abbrev qX:XK:=λ_ _ _=>False
theorem xF{n:Nat}{G:Mg}{P:St}{t:Hp}{U Z':List Sl}{N as ys:List A}{J:It}(l:Y.length=lo)(ek:c.toKx=kx X)(li:P.length=N.length)
  (it:∀Y H Z D z i,D.length=z.length->Bd c Y H Z (D++(P++B)) (z++(N.map Sl.fr++θ))->(as.length<=i->J.stop i H)/\∀a,as[i]?=some a->J.go i H/\∀x H',J.yld i H x H'->Bd c Y H' Z (some x::(D++(P++B))) (.fr a::(z++(N.map Sl.fr++θ))))
  (b1:Bd c Y t U (P++B) (N.map Sl.fr++θ))(r:as.length<=100000)(ec:cX G mt me as [] (U++Rl n .un)=some (ys,Z'))(q:OE (kx X) E c Y (Z'.take U.length) B θ Q (.ok (.nw (.lst ys)))):
  zG J (N5 (kx X) lo G) (vG (kx X) qX mt) (gS (kx X) qX me) Q (Y++Rl n none) t:=by
 have s:Y.length=U.length:=b1.i6;refine⟨λi m Z0 vs H'=>m=as.length-i/\i<=as.length/\Z0.take lo=Y/\∃S acc,vs.length=acc.length/\acc.length<=i/\Bd c Z0 H' S (vs.reverse.map some++(P++B)) (acc.reverse.map Sl.fr++(N.map Sl.fr++θ))/\cX G mt me (as.drop i) acc S=some (ys,Z'),
  ⟨_,rfl,R1 _,by rw[<-l,U3],_,[],rfl,R1 _,b1.FR,by simpa using ec⟩,?_⟩
 rintro i m Z0 vs H' ⟨rfl,hi,htk,S,acc,lv,la,d,o⟩;refine⟨by have:=kz;lia,?_⟩;obtain⟨i1,i2⟩:=it Z0 H' S (vs.reverse.map some) (acc.reverse.map Sl.fr) i (by simp[lv]) d;by_cases O:i<as.length
 .have hd:as.drop i=as[i]::as.drop (i+1):=RT O;rw[hd] at o;obtain⟨go,yl⟩:=i2 as[i] (by simp[O]);refine .inr ⟨go,λR L u=>R.take lo=Y/\∃F h,L.length=h.length/\h.length<=i+1/\Bd c R u F (L.reverse.map some++(P++B)) (h.reverse.map Sl.fr++(N.map Sl.fr++θ))/\cX G mt me (as.drop (i+1)) h F=some (ys,Z'),
   λR L u ⟨q0,F,h,q1,q2,q3,q4⟩=>⟨as.length-(i+1),by lia,rfl,O,q0,F,h,q1,q2,q3,q4⟩,λx u y=>?_⟩
  have b2:=yl x u y;have fin:∀{F T:List Sl}{k:Bool},G as[i] S=some F->mt F=some (.ok k,T)->(∀V b,V.take lo=Y->Bd c V b T (vs.reverse.map some++(P++B)) (acc.reverse.map Sl.fr++(N.map Sl.fr++θ))->if k=true then gS (kx X) qX me V b λv C=>V.take lo=Y/\∃F h,(vs++[v]).length=h.length/\h.length<=i+1/\Bd c V C F ((vs++[v]).reverse.map some++(P++B)) (h.reverse.map Sl.fr++(N.map Sl.fr++θ))/\cX G mt me (as.drop (i+1)) h F=some (ys,Z') else V.take lo=Y/\∃F h,vs.length=h.length/\h.length<=i+1/\Bd c V b F (vs.reverse.map some++(P++B)) (h.reverse.map Sl.fr++(N.map Sl.fr++θ))/\cX G mt me (as.drop (i+1)) h F=some (ys,Z'))->N5 (kx X) lo G x Z0 u λV j=>vG (kx X) qX mt V j λk b=>if k=true then gS (kx X) qX me V b λv C=>V.take lo=Y/\∃F h,(vs++[v]).length=h.length/\h.length<=i+1/\Bd c V C F ((vs++[v]).reverse.map some++(P++B)) (h.reverse.map Sl.fr++(N.map Sl.fr++θ))/\cX G mt me (as.drop (i+1)) h F=some (ys,Z') else V.take lo=Y/\∃F h,vs.length=h.length/\h.length<=i+1/\Bd c V b F (vs.reverse.map some++(P++B)) (h.reverse.map Sl.fr++(N.map Sl.fr++θ))/\cX G mt me (as.drop (i+1)) h F=some (ys,Z'):=
   λg I f=>⟨c,S,_,_,as[i],_,ek,b2,g,λV j K l3 b3=>⟨c,_,_,_,.ok _,_,ek,b3,I,λb w=>f V b (K.trans htk) w⟩⟩
  cases xc o with
  |skip g I o=>exact fin g I λV b K w=>⟨K,_,acc,lv,by lia,w,o⟩
  |take g I ee ef o=>exact fin g I λV b K w=>⟨c,_,_,_,_,_,ek,w,ee,λv C hv b5=>⟨K,_,_,by simp[lv],by simp;lia,by simpa using Bd.bA (xs:=[]) (ss:=[]) rfl b5 hv ef,o⟩⟩
 .have e:i=as.length:=by lia
  subst e;rw[TC] at o;cases o;refine .inl ⟨i1 (Rf _),λp hp=>?_⟩;have b7:=Bd.uL d (by simp[lv]) hp vs ys mN;have b8:=Bd.qm (by simp[li]) b7;have es:Z0=Y++Z0.drop lo:=by rw[<-htk];exact(S8 _ _).symm
  rw[es] at b8;have b9:=b8.Nw;rw[s] at b9;exact q _ _ trivial b9
theorem ow{n:Nat}{a:Mi (List A)}{G:Mg}(Y:St)(H:Hp)(Q:VK)(x:Y.length=lo)(h:gS (kx X) E (bH n a G mt me) Y H Q):
  vt n (Qg (kx X) E a) (N5 (kx X) lo G) (vG (kx X) qX mt) (gS (kx X) qX me) Y H Q:=by
 obtain⟨c,Z,B,θ,o,O,ek,b,em,q⟩:=h;rcases bind_some em with ⟨as,U,F,j⟩|⟨e,F,j⟩
 .refine⟨c,Z,B,θ,_,U,ek,b,F,λJ y P N m it b1=>?_⟩;split at j
  .rename_i r;cases f:cX G mt me as [] (U++Rl n .un) with
   |none=>simp only[f] at j;cases j
   |some p=>obtain⟨ys,Z'⟩:=p;simp only[f] at j;cases j;exact xF x ek m (λY H Z D z i l b=>it c Y H Z D z B θ i ek l b) b1 r f q
  .cases j
 .subst j;exact⟨c,Z,B,θ,_,O,ek,b,F,λC y hm b1=>q C y hm b1⟩
theorem vN{k:Nat}{sc:Scope}{mi:Mi (List A)}{G:Mg}(hc:X.calm=true)(S:fP X.N N k sc X.env.scope)(hlo:X.N.length=lo)(hi:JI X E tg iter mi)
  (hg:∀cl C s H fp,JG (iT X N sc cl C s H fp) lo tg G)(ht:∀cl C s H fp,JF (iT X N sc cl C s H fp) qX ifs mt)(he:∀cl C s H fp,JE (iT X N sc cl C s H fp) qX elt me)(hs:∀x,foldedSetIterable iter X.env x=pure x:=by intro _;rfl):
  JE X E (.ListComp elt [⟨tg,iter,ifs,0⟩] sc pos) (bH k mi G mt me):=
 ⟨λpins s Y H Q I h=>vy hc S hi.p (λcl C s H fp=>(hg cl C s H fp).p) (λcl C s H fp=>(ht cl C s H fp).p) (λcl C s H fp=>(he cl C s H fp).p) hs pins s Y H Q I (ow Y H Q (I.len.trans hlo) h)⟩
theorem Eg{spos:Pos}{k:Nat}{sc:Scope}{mi:Mi (List A)}{G:Mg}(hc:X.calm=true)(S:fP X.N N k sc X.env.scope)(hlo:X.N.length=lo)(hN:X.N.Nodup)(hx:X.N[i]?=some x)
  (hl:X.env.scope.names.lookup x=some .local)(hsw:swapsWith (.ListComp elt [⟨tg,iter,ifs,0⟩] sc pos) (some (.Name x px)) spos.line X.env=pure true)(hi:JI X E tg iter mi)
  (hg:∀cl C s H fp,JG (iT X N sc cl C s H fp) lo tg G)(ht:∀cl C s H fp,JF (iT X N sc cl C s H fp) qX ifs mt)(he:∀cl C s H fp,JE (iT X N sc cl C s H fp) qX elt me)(hs:∀x,foldedSetIterable iter X.env x=pure x:=by intro _;rfl):
  JS X E (.Assign [.Name x px] (.ListComp elt [⟨tg,iter,ifs,0⟩] sc pos) spos) (aO i (bH k mi G mt me)):=
 ⟨λpins s Y H D I h=>CA hc S hN hx hl hsw hi.p (λcl C s H fp=>(hg cl C s H fp).p) (λcl C s H fp=>(ht cl C s H fp).p) (λcl C s H fp=>(he cl C s H fp).p) hs pins s Y H D I (by
  obtain⟨c,Z,B,θ,f,O,ek,b,em,q⟩:=h;refine ow (E:=E) Y H _ (I.len.trans hlo) (fN ek b em q λr v U H1 hv b1 em1=>?_);cases e1:xQ r U with
  |none=>simp only[e1] at em1;cases em1
  |some p=>
   obtain⟨t,Z'⟩:=p;simp only[e1] at em1;obtain⟨b2,ht⟩:=Bd.xQ hv b1 e1;cases e2:put i t Z' with
   |none=>simp only[e2] at em1;cases em1
   | some F=>simp only[e2] at em1;cases em1;exact q _ H1 (Bd.put b2 ht e2))⟩
noncomputable def aE(Z:List Sl)(i:Nat):Option LO:=match Z[i]? with
 |some (.lv o)=>some o
 |some (.pv o)=>some o
 |_=>none
noncomputable def setAt(Z:List Sl)(i:Nat)(o:LO):List Sl:=match Z[i]? with
 |some (.pv _)=>Z.set i (.pv o)
 |_=>Z.set i (.lv o)
theorem fF.live(b:fF c Y H Z B θ L)(h:aE Z i=some o)(o':LO)(u:HO):
  ∃p q,Y[i]?=some (some (.ref p))/\LR c.toKx (c.g H L) H p o q/\((∀H',H' p=some u->LR c.toKx (c.g H L) H' p o' q)->Bd c Y (upd H p u) (setAt Z i o') B θ):=by
 unfold aE at h;unfold setAt;cases es:Z[i]? with
 |none=>simp only[es] at h;cases h
 |some s=>
  cases s with
  |un=>simp only[es] at h;cases h
  |fr a=>simp only[es] at h;cases h
  |lv x=>simp only[es] at h;cases h;obtain⟨p,q,h1,h2,h3⟩:=b.change (u:=u) es (.inl ⟨rfl,rfl⟩);exact⟨p,q,h1,h2,λk=>h3 λH' e _=>k H' e⟩
  |pv x=>simp only[es] at h;cases h;obtain⟨p,q,h1,h2,h3⟩:=b.change (u:=u) es (.inr ⟨rfl,rfl⟩);exact⟨p,q,h1,h2,λk=>h3 λH' e _=>k H' e⟩
theorem Bd.rH{a:A}(b:Bd c Y H Z (some v::B) (.fr a::θ)):∃L,fF c Y H Z B θ L/\RA c.toKx (c.g H L) v a:=by obtain⟨L,bl,r⟩:=Bd.lR (vs:=[v]) (as:=[a]) b rfl;cases r with|cons h _=>exact⟨L,bl,h⟩
def cf(i:Nat)(m:Mi Rr):Mi Rr:=aV m λr Z=>match bA r Z with
 |some (a,U)=>match aE U i with
  |some (.lst xs)=>if xs.length<=16000000 then some (.ok (.fr .non),setAt U i (.lst (xs++[a]))) else none
  |_=>none
 |none=>none
theorem fh{xs:List A}(b:Bd c Y H Z B θ)(h:aE Z i=some (.lst xs)):∃p vs,Y[i]?=some (some (.ref p))/\H p=some (.lst vs):=by obtain⟨L,b⟩:=b;obtain⟨p,_,h1,h2,q⟩:=b.live h (.lst xs) (.lst []);clear q;cases h2 with|lst e r=>exact⟨p,_,h1,e⟩
def Ja(Z:List Sl)(i:Nat):Bool:=match aE Z i with
 |some (.lst _)=>true
 |_=>false
def eJ(i:Nat)(m:Mi Rr):Mi Rr:=λZ=>if Ja Z i then m Z else none
theorem ng(h:Ja Z i=true):∃xs,aE Z i=some (.lst xs):=by
 unfold Ja at h;cases e:aE Z i with
 |none=>rw[e] at h;cases h
 |some o=>cases o with
  |lst xs=>exact⟨xs,rfl⟩
  |dic _=>rw[e] at h;cases h
  |dit _=>rw[e] at h;cases h
  |obj _ _=>rw[e] at h;cases h
  |nob _ _ _=>rw[e] at h;cases h
theorem wt(hN:X.N[i]?=some x)(hv:nY X.env.scope x)(hd:gP x)(hcd:p4 x)(he:JE X E e m)
  (hbase:attributeBase (.Name x px) "append" X.env (eval (.Name x px) X.env)=eval (.Name x px) X.env:=by rfl)
  (hfew:((backTo cpos (starEach [e] X.env)).all (λx=>!x.1)&&(backToKw cpos (keywordEach [] X.env)).all (λx=>x.1.isSome)&&decide (([e]:List Expr).length+([]:List Keyword).length+(if ([]:List Keyword).isEmpty then 0 else 1)<30))=true:=by rfl)
  (hline:(apos.endLine==cpos.line)=true:=by rfl)(hs:starEach [e] X.env=(false,eval e X.env)::starEach [] X.env:=by rfl)(hplain:(backTo cpos (starEach [] X.env)).any (·.1)=false:=by rfl):
  JE X E (.Call (.Attribute (.Name x px) "append" apos) [e] [] cpos) (eJ i (cf i m)):=
 ⟨PE.weaken (su Sh UU UW oQ (cD hN hv hd hcd) (cq he.p dB hs) hbase hfew hline hs hplain) λY H Q h=>by
  obtain⟨c,Z,B,θ,o,O,ek,b,em,q⟩:=h;unfold eJ at em;split at em
  .rename_i hl;obtain⟨xs0,hl⟩:=ng hl;obtain⟨p,vs,hp,hH⟩:=fh b hl;refine⟨_,hp,.inl ⟨rfl,vs,.inl (.inl hH)⟩,?_⟩;refine bL ek b em (λr v U H1 hv b1 em1=>?_) (bj q);cases e1:bA r U with
   |none=>simp only[e1] at em1;cases em1
   |some pr=>
    obtain⟨a,Z'⟩:=pr;simp only[e1] at em1;have b2:=Bd.bA (xs:=[]) (ss:=[]) rfl b1 hv e1;cases e2:aE Z' i with
    |none=>simp only[e2] at em1;cases em1
    |some lo=>
     cases lo with
     |dic _=>simp only[e2] at em1;cases em1
     |dit _=>simp only[e2] at em1;cases em1
     |obj _ _=>simp only[e2] at em1;cases em1
     |nob _ _ _=>simp only[e2] at em1;cases em1
     |lst xs=>
      simp only[e2] at em1;split at em1
      .rename_i hx;cases em1;obtain⟨L,bl,ra⟩:=Bd.rH b2;obtain⟨p',_,h1,h2,h3⟩:=bl.live e2 (.lst (xs++[a])) (.lst ((match H1 p with|some (.lst ws)=>ws|_=>[])++[v]));rw[hp] at h1;cases h1;cases h2 with
       |lst e rr=>rename_i ws;simp only[e] at h3;refine⟨p,ws,v,rfl,rfl,e,by have:=rr.len;have:=sizeLine_eq;lia,q _ _ trivial (Bd.push (h3 λH' hh=>.lst hh (rr.snoc ra)) λ_=>.non)⟩
      .cases em1
  .cases em⟩
def mQ(i:Nat)(mk m:Mi Rr):Ms:=c7 m λr S=>if Ja S i then c7 mk (λrk=>λZ=>match bA r Z with
 |some (a,U)=>match res U rk,aE U i with
  |some (.int k),some (.lst xs)=>match oW xs.length k with
   |some j=>some (.nx,setAt U i (.lst (xs.set j a)))
   |none=>none
  |_,_=>none
 | none=>none) S else none
theorem zy(V:X.N[i]?=some x)(t:nY X.env.scope x)(hd:gP x)(J:p4 x)(hk:JE X E ek mk)(Q:JE X E e m)
  (hp:∀{s y g:TE},PE X (.Name x px) s->PE X ek y->PE X e g->PS X (.Assign [.Subscript (.Name x px) ek p1] e pos) (yQ g (LW s y GK))):JS X E (.Assign [.Subscript (.Name x px) ek p1] e pos) (mQ i mk m):=
 ⟨PS.weaken (hp (cD V t hd J) hk.p Q.p) λD Y H h=>by
  obtain⟨c,Z,B,θ,f,O,ek,b,em,q⟩:=h;refine fN ek b em q λr v U H1 t b1 G=>?_;split at G
  .rename_i hl;obtain⟨l,hl⟩:=ng hl;obtain⟨p,vs,hp,hH⟩:=fh b1 hl;refine⟨_,hp,?_⟩;rcases dH G with ⟨rk,Z',T,S⟩|⟨ee,T,S⟩
   .refine⟨c,U,_,_,_,Z',ek,b1,T,λw u n b2=>?_⟩;cases o:bA r Z' with
    |none=>simp only[o] at S;cases S
    |some d=>
     obtain⟨a,F⟩:=d;simp only[o] at S;have I:Bd c Y u F (cu rk w (some v::B)) (cv rk (.fr a::θ.map Sl.fr)):=by obtain⟨g1,g2,g3⟩:=eO rk w (cu r v B) (cv r (θ.map Sl.fr));obtain⟨g4,g5,_⟩:=eO rk w (some v::B) (.fr a::θ.map Sl.fr);rw[g4,g5];rw[g1,g2] at b2;exact Bd.bA g3 b2 t o
     cases R:res F rk with
     |none=>simp only[R] at S;cases S
     |some ak=>
      cases ak<;>first|(simp only[R] at S;cases S;done)|skip
      rename_i k;have z:=Bd.rd I n R;cases z;cases A:aE F i with
      |none=>simp only[R,A] at S;cases S
      |some lo=>
       cases lo with
       |dic _=>simp only[R,A] at S;cases S
       |dit _=>simp only[R,A] at S;cases S
       |obj _ _=>simp only[R,A] at S;cases S
       |nob _ _ _=>simp only[R,A] at S;cases S
       |lst xs=>
        simp only[R,A] at S;cases P:oW xs.length k with
        |none=>simp only[P] at S;cases S
        |some j=>
         simp only[P] at S;cases S;obtain⟨L,bl,ra⟩:=Bd.rH I.drop;obtain⟨p',_,h1,h2,h3⟩:=bl.live A (.lst (xs.set j a)) (.lst ((match u p with|some (.lst ws)=>ws|_=>[]).set j v));rw[hp] at h1;cases h1;cases h2 with
         |lst e K=>rename_i ws;simp only[e] at h3;exact⟨p,ws,k,j,rfl,rfl,e,by rw[K.len];exact P,q Y _ (h3 λH' hh=>.lst hh (K.set ra j))⟩
   .subst S;exact⟨c,U,_,_,_,O,ek,b1,T,λC u hm b2=>q C Y u hm b2.drop⟩
  .cases G⟩
def Dq(Z:List Sl)(i:Nat):Bool:=match aE Z i with
 |some (.dic _)=>true
 |_=>false
theorem xy(h:Dq Z i=true):∃xs,aE Z i=some (.dic xs):=by
 unfold Dq at h;cases e:aE Z i with
 |none=>rw[e] at h;cases h
 |some o=>cases o with
  |dic xs=>exact⟨xs,rfl⟩
  |lst _=>rw[e] at h;cases h
  |dit _=>rw[e] at h;cases h
  |obj _ _=>rw[e] at h;cases h
  |nob _ _ _=>rw[e] at h;cases h
theorem yU{xs:List (Key×A)}(b:Bd c Y H Z B θ)(h:aE Z i=some (.dic xs)):∃p vs,Y[i]?=some (some (.ref p))/\H p=some (.dK vs):=by obtain⟨L,b⟩:=b;obtain⟨p,_,h1,h2,q⟩:=b.live h (.dic xs) (.lst []);clear q;cases h2 with|dic e r=>exact⟨p,_,h1,e⟩
def kh(i:Nat)(mk m:Mi Rr):Ms:=c7 m λr S=>if Dq S i then c7 mk (λrk=>λZ=>match bA r Z with
 |some (a,U)=>match res U rk,aE U i with
  |some ka,some (.dic kvs)=>match gT ka with
   |some y=>if kvs.length<=100000 then some (.nx,setAt U i (.dic (hE kvs y a))) else none
   |none=>none
  |_,_=>none
 | none=>none) S else none
theorem Ff(hu:X.A.units+1<cLine)(hN:X.N[i]?=some x)(hv:nY X.env.scope x)(hd:gP x)(hcd:p4 x)(hk:JE X E ek mk)(he:JE X E e m)
  (hs:swapsWith e (some (.Subscript (.Name x px) ek p1)) pos.line X.env=pure false:=by rfl):JS X E (.Assign [.Subscript (.Name x px) ek p1] e pos) (kh i mk m):=
 ⟨PS.weaken (E6 hu (cD hN hv hd hcd) hk.p he.p hs) λD Y H h=>by
  obtain⟨c,Z,B,θ,f,O,ek,b,em,q⟩:=h;refine fN ek b em q λr v U H1 hv b1 em1=>?_;split at em1
  .rename_i hl;obtain⟨xs0,hl⟩:=xy hl;obtain⟨p,vs,hp,hH⟩:=yU b1 hl;refine⟨_,hp,?_⟩;rcases dH em1 with ⟨rk,Z',e1,e2⟩|⟨ee,e1,e2⟩
   .refine⟨c,U,_,_,_,Z',ek,b1,e1,λw H2 hw b2=>?_⟩;cases ef:bA r Z' with
    |none=>simp only[ef] at e2;cases e2
    |some pr=>
     obtain⟨a,F⟩:=pr;simp only[ef] at e2;have b3:Bd c Y H2 F (cu rk w (some v::B)) (cv rk (.fr a::θ.map Sl.fr)):=by obtain⟨g1,g2,g3⟩:=eO rk w (cu r v B) (cv r (θ.map Sl.fr));obtain⟨g4,g5,_⟩:=eO rk w (some v::B) (.fr a::θ.map Sl.fr);rw[g4,g5];rw[g1,g2] at b2;exact Bd.bA g3 b2 hv ef
     cases er:res F rk with
     |none=>simp only[er] at e2;cases e2
     |some ka=>
      have rk':=Bd.rd b3 hw er;cases el:aE F i with
      |none=>simp only[er,el] at e2;cases e2
      |some lo=>
       cases lo with
       |lst _=>simp only[er,el] at e2;cases e2
       |dit _=>simp only[er,el] at e2;cases e2
       |obj _ _=>simp only[er,el] at e2;cases e2
       |nob _ _ _=>simp only[er,el] at e2;cases e2
       |dic kvs=>
        simp only[er,el] at e2;cases ej:gT ka with
        |none=>simp only[ej] at e2;cases e2
        |some y=>
         simp only[ej] at e2;split at e2
         .rename_i h100;cases e2;obtain⟨L,bl,ra⟩:=Bd.rH b3.drop;obtain⟨p',_,h1,h2,h3⟩:=bl.live el (.dic (hE kvs y a)) (.dK (putK (match H2 p with|some (.dK ws)=>ws|_=>[]) y v));rw[hp] at h1;cases h1;cases h2 with
          |dic e rr=>rename_i ws;simp only[e] at h3;exact⟨p,_,rfl,.inl ⟨ws,y,e,jx rk' ej,by have:=rr.len;have:=tI;lia,rfl⟩,q Y _ (h3 λH' hh=>.dic hh (rr.put y ra))⟩
         .cases e2
   .subst e2;exact⟨c,U,_,_,_,O,ek,b1,e1,λC H2 hm b2=>q C Y H2 hm b2.drop⟩
  .cases em1⟩
noncomputable def pI:Mi Rr:=λZ=>some (.ok (.nw (.dic [])),Z)
theorem Cw{pos}:JE X E (.Dict [] [] pos) pI:=⟨PE.weaken zJ λY H Q h=>by obtain⟨c,Z,B,θ,o,O,ek,b,em,q⟩:=h;cases em;intro p hp;obtain⟨L,bl⟩:=b;exact q _ _ trivial (bl.gZ hp λG H' sm x=>.dic x .nil)⟩
def rL(Y mk H:Mi Rr):Mi Rr:=aV Y λd S=>match res S d with
 | some (.dic _)=>aV mk (λk=>aV H λx=>λZ=>match res Z d,res Z k with
  |some (.dic kvs),some ka=>match gT ka with
   |some y=>match gi kvs y with
    |some a=>some (.ok (.fr a),Z)
    |none=>match bA x Z with
     |some (a,U)=>some (.ok (.fr a),U)
     |none=>none
   |none=>none
  | _,_=>none) S
 |_=>none
theorem DX{o f:Expr}{s I:Mi Rr}(C:X.A.units+1<cLine)(l:JE X E o s)(he:JE X E e mk)(hf:JE X E f I)(m:M2 X o "get" apos e f cpos):JE X E (.Call (.Attribute o "get" apos) [e,f] [] cpos) (rL s mk I):=
 ⟨PE.weaken (BJ C l.p he.p hf.p m) λY H Q h=>by
  obtain⟨c,Z,B,θ,o,O,ek,b,em,q⟩:=h;refine bL ek b em (λd v U H1 t b1 G=>?_) (bj q);cases V:res U d with
  |none=>simp only[V] at G;cases G
  |some a0=>
   cases a0<;>first|(simp only[V] at G;cases G;done)|skip
   rename_i R;simp only[V] at G;obtain⟨L0,bl0,i0⟩:=Bd.open b1 t V;obtain⟨p,N,rfl,s0,_⟩:=i0.2.2 R rfl;refine⟨p,rfl,.inl ⟨N,s0⟩,?_⟩;refine bL ek b1 G (λk w Z' H2 n b2 i=>?_) (fq (bj q));refine bL ek b2 i (λx z F K hz g D=>?_) (fq (fq (bj q)));cases J:res F d with
   |none=>simp only[J] at D;cases D
   |some a1=>
    cases a1<;>first|(simp only[J] at D;cases D;done)|skip
    rename_i kvs;cases j:res F k with
    |none=>simp only[J,j] at D;cases D
    |some ka=>
     simp only[J,j] at D;cases r:gT ka with
     |none=>simp only[r] at D;cases D
     |some y=>
      simp only[r] at D;have rk:=Bd.rd g.drop n j;obtain⟨L,bl,i1,_⟩:=Bd.sF g.drop t n J j;obtain⟨p',vs,ep,s1,rr⟩:=i1.2.2 kvs rfl;cases ep;rcases rr.get y with ⟨u,a,h1,h2,h3⟩|⟨h1,h2⟩
      .simp only[h2] at D;cases D;exact⟨some u,.inl ⟨vs,y,s1,jx rk r,h1.symm⟩,q u K trivial (bl.push h3)⟩
      .simp only[h2] at D;cases S:bA x F with
       |none=>simp only[S] at D;cases D
       |some pr=>
        obtain⟨a,T⟩:=pr;simp only[S] at D;cases D;have P:=Bd.bA (xs:=[]) (ss:=[]) rfl g hz S;refine⟨none,.inl ⟨vs,y,s1,jx rk r,h1.symm⟩,q z K trivial ?_⟩;obtain⟨g1,g2,g3⟩:=eO k w (cu d (.ref p) B) (cv d θ);obtain⟨g4,g5,g6⟩:=eO d (.ref p) B θ;have P:Bd c Y K O (some z::((cu k w []++cu d (.ref p) [])++B)) (.fr a::((cv k []++cv d [])++θ)):=by have:=P;rw[g1,g4,g2,g5] at this;simpa[QZ] using this
        exact Bd.qm (by simp[g3,g6]) P⟩
end
noncomputable def sR(a b:Str):Bool:=!Vq b.cps.toList a.cps.toList
def bO(l:List Str):List Str:=l.mergeSort sR
theorem nT(a b:Str):sR a b=decide (¬ b.cps.toList<a.cps.toList):=by unfold sR;rw[W0,decide_not]
theorem pW(a b c:Str)(h1:sR a b=true)(h2:sR b c=true):sR a c=true:=by rw[nT,decide_eq_true_eq] at *;intro h;exact(W2.negTrans c.cps.toList b.cps.toList a.cps.toList (decide_eq_true h)).elim (λh=>h2 (of_decide_eq_true h)) (λh=>h1 (of_decide_eq_true h))
theorem xA(a b:Str):(sR a b || sR b a)=true:=by
 rw[R5,nT,nT,decide_eq_true_eq,decide_eq_true_eq];by_cases h:b.cps.toList<a.cps.toList
 .exact .inr (List.lt_asymm h)
 .exact .inl h
theorem AZ{a b:Str}(h1:sR a b=true)(h2:sR b a=true):a=b:=by rw[nT,decide_eq_true_eq] at *;have:a.cps.toList=b.cps.toList:=V4 (UO.mp h1) (UO.mp h2);cases a;cases b;simp only[W3];exact VY.mp this
theorem cc(l:List Str):(bO l).Perm l:=List.mergeSort_perm l sR
theorem nc(l:List Str):(bO l).Pairwise (λa b=>sR a b=true):=List.pairwise_mergeSort pW xA l
theorem tL{ss:List Str}(h:Tx ss=true):ss.Pairwise (λa b=>sR a b=true):=by
 have C:∀(l:List Str)(p:Str),UQ p l=true->(∀q∈l,sR p q=true)/\l.Pairwise (λa b=>sR a b=true):=by
  intro l;induction l with
  |nil=>intro p _;exact⟨λq j=>(by cases j),.nil⟩
  |cons q l x=>
   intro p hp;have hp:(!Vq q.cps.toList p.cps.toList&&UQ q l)=true:=hp;rw[QR] at hp;obtain⟨I,X⟩:=x q hp.2;refine⟨λr y=>?_,SO.mpr ⟨I,X⟩⟩;rcases Ra.mp y with z|z
   .subst z;exact hp.1
   .exact pW p q r hp.1 (I r z)
 cases ss with
 |nil=>exact .nil
 |cons p l=>obtain⟨I,X⟩:=C l p h;exact SO.mpr ⟨I,X⟩
theorem mF{ss l:List Str}(h:Tx ss=true)(pm:ss.Perm l):ss=bO l:=
 (pm.trans (cc l).symm).eq_of_pairwise (λa b _ _ h1 h2=>AZ h1 h2) (tL h) (nc l)
noncomputable def jl:List A->Option (List Str)
 |[]=>some []
 | .str x::r=>match jl r with
  |some ss=>some (x::ss)
  |none=>none
 |_=>none
theorem kS:∀{as:List A}{ss:List Str},jl as=some ss->as=ss.map A.str
 |[],_,h=>by cases h;rfl
 | .str x::r,_,h=>by
  unfold jl at h;cases e:jl r with
  |none=>simp only[e] at h;cases h
  |some ss=>simp only[e] at h;cases h;rw[kS e];rfl
 | .non::_,_,h=>by cases h
 | .bl _::_,_,h=>by cases h
 | .int _::_,_,h=>by cases h
 | .tup _::_,_,h=>by cases h
 | .lst _::_,_,h=>by cases h
 | .dic _::_,_,h=>by cases h
 | .exc _::_,_,h=>by cases h
theorem rK(ss:List Str):jl (ss.map A.str)=some ss:=by
 induction ss with
 |nil=>rfl
 |cons s ss l=>rw[Ri,jl,l]
noncomputable def strKeys:List (Key×A)->Option (List Str)
 |[]=>some []
 |(.inr x,_)::r=>match strKeys r with
  |some ss=>some (x::ss)
  |none=>none
 |_=>none
theorem kZ:∀{as:List (Key×A)}{ss:List Str},strKeys as=some ss->as.map (·.1)=ss.map RM
 |[],_,h=>by cases h;rfl
 |(.inr x,a)::r,_,h=>by
  unfold strKeys at h;cases e:strKeys r with
  |none=>simp only[e] at h;cases h
  |some ss=>simp only[e] at h;cases h;rw[Ri,kZ e];rfl
 |(.inl _,_)::_,_,h=>by cases h
section
variable{X:Cx}{E:XK}
def bM:A->Option Rr
 | .lst xs=>match jl xs with
  |some ss=>if ss.length<64 then some (.nw (.lst ((bO ss).map A.str))) else none
  |none=>none
 |_=>none
theorem uH:lg K (λv=>lV K.K [v]) bM:=by
 intro c Y H Z B θ x v a q Q ek t o F V k;subst ek;obtain⟨L,bl,I⟩:=Bd.open o t F;cases a<;>first|(cases V;done)|skip
 rename_i xs;unfold bM at V;simp only at V;cases es:jl xs with
 |none=>simp only[es] at V;cases V
 |some ss=>
  simp only[es] at V;split at V
  .rename_i y;cases V;obtain⟨p,vs,rfl,s1,z⟩:=I.1 xs rfl;rw[kS es] at z;rw[z.strs] at s1;refine⟨p,ss,rfl,.inl s1,y,λr b N pm h=>?_⟩;rw[mF h pm];exact k _ _ trivial (bl.gZ N λG H' sm q=>.lst q (bS.ofStrs _))
  .cases V
def jQ:List V->Hp->VK->Prop:=λxs H Q=>∃(a:Addr)(kvs:List (Key×V))(ss:List Str),xs=[.ref a]/\Rd H a (.dK kvs)/\kvs.map (·.1)=ss.map RM/\ss.length<64/\∀r x,H r=none->x.Perm ss->Tx x=true->Q (.ref r) (upd H r (.lst (x.map V.str)))
open PySem.Spec PyProof.Rows PySem.W in
theorem p7(hc:X.calm=true):cx X (.builtin "sorted") jQ:=by
 intro pins s Y H vs us Q I B h;obtain⟨a,kvs,ss,rfl,hd,ek,y,q⟩:=h;obtain⟨u,rfl,J⟩:=B.one;cases J;obtain⟨hz,lo,vs,L,U⟩:=L2.gh I.hok hd;obtain⟨ep,S⟩:=U.dictAt;have E:vs.map (·.1)=ss.map RM:=by rw[<-L.keys];exact ek
 have v:vs.length=ss.length:=by have:=congrArg Tc E;simpa using this
 refine U2 kind_sorted plain_sorted entry_sorted (args_sorted1 _) ?_;unfold Builtin.«sorted»;refine wpAny_bind (m:=checkCount "sorted" 1 1 _) (wpAny_pure ?_);refine wpAny_bind (kdu_collect (A:=X.A.in1) (kdl_dict (knd:=ba X.prog X.w) (kvs:=vs) (ep:=ep) lo) (I.ok.hd hc) S (by have:=L2.jq;lia) λh' tk acc hk C=>?_);have i:=L2.oY E C;have D:acc.toList.length=ss.length:=by rw[RN,C.1,v]
 refine wpAny_bind (wpAny_newList ?_ (by have:=L2.jq;lia));have N:(h'.push (seqObj "list" acc.toList.toArray 0)).get? h'.objs.size=some (seqObj "list" acc.toList.toArray 0):=Ro _ rfl;refine wpAny_bind (wpAny_holding (wpAny_call_entry slot_list_sort ⟨_,N,rfl⟩ entry_list_sort (list_sort_treeK strKind_oneLt N i.keysOf (λt G rest e=>keyKind_strs (by rw[<-e];exact i)) (by lia) λP hp R=>⟨_,rfl,?_⟩) (args_list_sort _)));obtain⟨x,b1,b2,g⟩:=sorted_out_str i hp R;obtain⟨e,p⟩:=sortedHeap_at (vs:=acc.toList) (n:=0) (out:=(arrOf P).map (·.2)) N;have hf:∀b o,s.heap.get? b=some o->b≠h'.objs.size:=λb o z=>Ru (Rh (hk b o z));refine wpAny_pure ⟨_,rfl,.ref _,_,I.Gk (t':=tk) (a:=h'.objs.size) (o:=.lst (x.map V.str)) (λb o z=>?_) hf ⟨?_,((arrOf P).map (·.2)).toList,e,L2.gE b1,?_⟩,rfl,q _ x (I.qC hf) b2 g⟩
 .rw[sortedHeap_old (hf b o z) (by rw[size_push'];exact UK (Rh (hk b o z)))];exact Q3 _ (hk b o z)
 .rw[QY,b2.length_eq];exact Rm (S0 y) L2.jq
 .rw[Vw];exact p
def bV:A->Option Rr
 | .dic kvs=>match strKeys kvs with
  |some ss=>if ss.length<64 then some (.nw (.lst ((bO ss).map A.str))) else none
  |none=>none
 |_=>none
theorem ug:lg K (λv=>jQ [v]) bV:=by
 intro c Y H Z B θ x v a q Q ek t o F V k;subst ek;obtain⟨L,bl,I⟩:=Bd.open o t F;cases a<;>first|(cases V;done)|skip
 rename_i kvs;unfold bV at V;simp only at V;cases es:strKeys kvs with
 |none=>simp only[es] at V;cases V
 |some ss=>
  simp only[es] at V;split at V
  .rename_i y;cases V;obtain⟨p,vs,rfl,s1,z⟩:=I.2.2 kvs rfl;refine⟨p,vs,ss,rfl,s1,by rw[z.keys,kZ es],y,λr b N pm h=>?_⟩;rw[mF h pm];exact k _ _ trivial (bl.gZ N λG H' sm q=>.lst q (bS.ofStrs _))
  .cases V
noncomputable def n8(f g:A->Option Rr):A->Option Rr:=λa=>match f a with
 |some r=>some r
 |none=>g a
theorem lg.or{r r':V->Hp->VK->Prop}{f g:A->Option Rr}(h:lg K r f)(h':lg K r' g):lg K (λv H Q=>r v H Q\/r' v H Q) (n8 f g):=by
 intro c Y H Z B θ x v a q Q ek t o F C k;unfold n8 at C;cases e:f a with
 |some z=>simp only[e] at C;cases C;exact .inl (h c Y H Z B θ x v a _ Q ek t o F e k)
 |none=>simp only[e] at C;exact .inr (h' c Y H Z B θ x v a _ Q ek t o F C k)
theorem qR(hc:X.calm=true):cx X (.builtin "sorted") (λxs H Q=>lV X.K xs H Q\/jQ xs H Q):=cx.or' (p8 hc) (p7 hc)
theorem wC:lg K (λv H Q=>lV K.K [v] H Q\/jQ [v] H Q) (n8 bM bV):=uH.or ug
open PySem.Spec PyProof.Rows PySem.W in
def qE:List V->Hp->VK->Prop:=λvs H Q=>∃(a:Addr)(kvs:List (Key×V)),vs=[.ref a]/\Rd H a (.dK kvs)/\∀r,H r=none->Q (.ref r) (upd H r (.dK kvs))
theorem tU:cx X (.type "dict") qE:=by intro pins s Y H vs us Q I B h;obtain⟨a,kvs,rfl,hd,q⟩:=h;obtain⟨u,rfl,S⟩:=B.one;cases S;exact AG I hd λp s' hp x=>⟨.ref p,_,x,rfl,q p hp⟩
noncomputable def kQ:A->Option Rr
 | .dic kvs=>some (.nw (.dic kvs))
 |_=>none
theorem zm:lg K (λv=>qE [v]) kQ:=by
 intro c Y H Z B θ x v a q Q ek t o F V k;subst ek;obtain⟨L,bl,I⟩:=Bd.open o t F;cases a<;>first|(cases V;done)|skip
 rename_i kvs;cases V;obtain⟨p,vs,rfl,s1,z⟩:=I.2.2 kvs rfl;exact⟨p,vs,rfl,s1,λr y=>k _ _ trivial (bl.gZ y λG H' sm q=>.dic q (z.sm sm))⟩
end
end M
namespace L2
open PySem PySem.Spec PyProof.Rows
theorem i5{prog:Program}{w:World}{A:Around}{E:Value->Shared->Prop}{s:Shared}{t sl:Addr}{items:Array Value}{J P:Value}{lo hi:Option Int}{Q:Value->Shared->Prop}(ht:IsTup s.heap t items)(u:s.heap.IsSliceOf sl J P .none)(pl:IsPart J lo)(Y:IsPart P hi)
  (r:HT.cT items.size 0 lo=0/\HT.cT items.size items.size hi=items.size)(h:Q (.ref t) s):wpAny (model prog w) A (getItem (.ref t) (.ref sl)) Q E s:=by
 obtain⟨os,V,f,X⟩:=id u;have x:s.TypeIs (.ref sl) "slice" := ⟨os,V,f⟩
 unfold getItem
 try with_reducible refine wpAny_holding ?_
 first|refine wpAny_bind (wpAny_pure ?_)|skip
 refine wpAny_bind (wpAny_sequenceKey ht.typeIs (by decide) ?_);refine wpAny_bind (wpAny_callSpecial?_slot (name:=WK "__getitem__") ht.typeIs RO
  (wpAny_call_entry RO ht.typeIs entry_tuple_getitem ?_ (args_tuple_getitem _ _)))
 show wpAny _ _ (Up (.ref t) >>= _) _ _ s;refine wpAny_bind (tupleItemsOf_ ht ?_);refine wpAny_bind (wpAny_typeOf x ?_);rw[if_pos (by decide)];refine wpAny_bind (HT.gb u pl Y ?_);show wpAny _ _ (if (((HT.cT items.size 0 lo:Nat):Int)==0&&(1:Int)==1&&(HT.cT items.size items.size hi-HT.cT items.size 0 lo)==items.size)=true then _ else _) _ _ s;rw[if_pos (by rw[r.1,r.2];simp)];refine wpAny_bind ?_;unfold WO;refine wpAny_bind (wpAny_typeOf ht.typeIs (wpAny_pure ?_));rw[if_pos (by decide)];refine wpAny_bind (wpAny_rule ?_);exact wpAny_pure ⟨_,rfl,wpAny_pure h⟩
def Pb(K:QU):V->Option Int->Option Int->Hp->VK->Prop:=λx lo hi H Q=>∃a xs,x=.ref a/\gv K H a xs/\(HT.cT xs.length 0 lo=0/\HT.cT xs.length xs.length hi=xs.length)/\Q (.ref a) H
theorem D6{X:Cx}:dR X (Pb X.K):=by
 intro pins s Y H x v J P lo hi sl Q I A u pl E h;obtain⟨a,xs,rfl,w,p,q⟩:=h;cases A;obtain⟨its,r,ht,hz⟩:=I.tuple w;have z:its.toArray.size=xs.length:=by rw[Q0];exact r.length.symm
 refine⟨"tuple",_,RO.lookup,ht.typeIs,?_⟩;exact i5 ht u pl E (by rw[z];exact p) ⟨.ref a,H,I,rfl,q⟩
end L2
namespace M
open PySem L2
variable{c:Cn}{Y B:St}{H:Hp}{Z θ:List Sl}
theorem fF.MH{L:List Addr}{v w:V}{a b:A}(bl:fF c Y H Z B θ L)(h1:RA c.toKx (c.g H L) v a)(h2:RA c.toKx (c.g H L) w b):Bd c Y H Z (some v::some w::B) (.fr a::.fr b::θ):=
 ⟨L,bl.nd,aA.cons (L:=[]) (.fr h1) (aA.cons (L:=[]) (.fr h2) bl.rel),bl.own,bl.fr,bl.kp,by simp[bl.lt],bl.hd⟩
variable{mo m:Mi Rr}{K:Kx}{e:Expr}{apos cpos p2 pos:Pos}{O:List Sl}{Q:Option Int->Hp->Prop}{i j:Nat}
section
variable{X:Cx}{E:XK}
def sY(K:QU):V->List V->Hp->VK->Prop:=λx vs H Q=>∃(Y:Str)(l:Addr)(ss:List Str),x=.str Y/\vs=[.ref l]/\gu K H l (ss.map V.str)/\i6 ss+ss.length*Y.length<=100000/\Q (.str (RW Y ss)) H
theorem nL(Y:Str):∀(ss:List Str)(n:Nat),ss.foldl (λ(a:Nat)(z:Str)=>a+z.length+Y.length) n=n+i6 ss+ss.length*Y.length
 |[],n=>by simp[i6]
 |z::ss,n=>by rw[Wb,nL Y ss];have e:i6 (z::ss)=z.length+i6 ss:=rfl;rw[e,Q6,Nat.add_mul,Nat.one_mul];lia
open PySem.Spec PyProof.Rows PySem.W in
theorem Ae:Om X "str.join" (sY X.K):=by
 intro pins s Y H x vs v us Q I A B h;obtain⟨Z,l,ss,rfl,rfl,T,hl,q⟩:=h;obtain⟨t,rfl⟩:=A;obtain⟨u,rfl,S⟩:=B.one;cases S;obtain⟨its,r,p,hz⟩:=I.list T;obtain⟨ps,rfl,j⟩:=L2.i7 (L2.mv r);have O:=tI;have m:TM ((ps.map (·.1)).toArray.foldl (·+·.length+Z.length) 0)=false:=by
  have e:(ps.map (·.1)).toArray.foldl (λ(a:Nat)(z:Str)=>a+z.length+Z.length) 0=i6 ss+ss.length*Z.length:=by rw[List.foldl_toArray,nL,j,WQ]
  unfold TM;rw[e];exact decide_eq_false (by lia)
 refine call_meets F.slot_str_join (typeIs_str _ _ _) F.entry_str_join (F.args_str_join_2 _ _) (meets_str_join_list Z t l ps m) ⟨p.isList,?_⟩;have N:(RW Z ss).length<=i6 ss+ss.length*Z.length:=by rw[size_glued];have:(ss.length-1)*Z.length<=ss.length*Z.length:=Nat.mul_le_mul_right _ (Xu _ _);have e:i6 ss=(ss.map (·.length)).sum:=rfl;lia
 have C:∀(z:Str)(t':Tok)(k:Nat),z=RW Z ss->EP X pins Y Q (.str z t') { s with toks:=k }:=λz t' k e=>⟨.str z,H,I.tok _,⟨t',rfl⟩,by rw[e];exact q⟩
 have fin:(Made.str (RW Z (ps.map (·.1)))).post (λv s'=>EP X pins Y Q v s') s:=⟨by rw[j];lia,C _ _ _ (by rw[j])⟩
 cases ps with
 |nil=>exact fin
 |cons a ps=>
  cases ps with
  |nil=>subst j;exact C a.1 a.2 s.toks rfl
  |cons b ps=>exact fin
def QQ(f:Str->Option Rr)(mo:Mi Rr):Mi Rr:=aV mo λx Z=>match x with
 | .fr (.str z)=>match f z with
  |some r=>some (.ok r,Z)
  |none=>none
 |_=>none
def Cu(f:Str->A->Option Rr)(mo m:Mi Rr):Mi Rr:=aV mo λx S=>match x with
 | .fr (.str z)=>aV m (λy Z=>match res Z y with
  |some a=>match f z a with
   |some r=>some (.ok r,Z)
   |none=>none
  | none=>none) S
 |_=>none
theorem uX{r:V->List V->Hp->VK->Prop}{f:Str->A->Option Rr}(hf:∀z,lg (kx X) (λw=>r (.str z) [w]) (f z))(Y:St)(H:Hp)(Q:VK)(h:gS (kx X) E (Cu f mo m) Y H Q):
  gS (kx X) E mo Y H λx e=>Of X.K "str" x e/\gS (kx X) E m Y e λy u=>r x [y] u Q:=by
 obtain⟨c,Z,B,θ,o,O,s,b,em,q⟩:=h;refine bL s b em (λx v U e D b1 G=>?_) (bj q);cases x with
 |rf i=>cases G
 |nw o=>cases G
 |fr a=>
  cases a<;>first|(cases G;done)|skip
  rename_i z;have k:=Bd.top b1 (a:=.str z) rfl;cases k;refine⟨rfl,?_⟩;refine bL s b1.pop G (λy w Z' u t b2 p=>?_) (bj q);obtain⟨a,r,F,C,rfl,rfl⟩:=qy p;exact hf z c Y u _ B θ y w a r Q s t b2 F C q
def kr(Y:Str):A->Option Rr
 | .lst xs=>match jl xs with
  |some ss=>if i6 ss+ss.length*Y.length<=100000 then some (.fr (.str (RW Y ss))) else none
  |none=>none
 |_=>none
theorem Ez(Y:Str):lg K (λw=>sY K.K (.str Y) [w]) (kr Y):=.scalar λH v a q B h=>by
 cases a<;>first|(cases h;done)|skip
 rename_i xs;unfold kr at h;simp only at h;cases es:jl xs with
 |none=>simp only[es] at h;cases h
 |some ss=>
  simp only[es] at h;split at h
  .rename_i hl;cases h;cases B with
   |lst e r=>rw[kS es] at r;rw[r.strs] at e;exact⟨_,_,rfl,λ_=>.str _,λQ k=>⟨Y,_,ss,rfl,rfl,e,hl,k⟩⟩
  .cases h
theorem Fv{o:Expr}(i:JE X E o mo)(R:JE X E e m)(hp:∀{s g:TE},PE X o s->PE X e g->PE X (.Call (.Attribute o "join" apos) [e] [] cpos) (OD X.K "str" (sY X.K) s (vW g Bb))):
  JE X E (.Call (.Attribute o "join" apos) [e] [] cpos) (Cu kr mo m):=⟨PE.weaken (hp i.p R.p) λY H Q h=>uX Ez Y H Q h⟩
def eI:Mi (Option Int):=my none
def ip(m:Mi Rr):Mi (Option Int):=aV m λr Z=>match res Z r with
 |some (.int i)=>some (.ok (some i),Z)
 |_=>none
def Ma(K:Kx)(E:XK)(c:Cn)(Y:St)(Z:List Sl)(B:St)(θ:List Sl)(Q:Option Int->Hp->Prop):Except Str (Option Int)->Prop
 | .ok i=>∀H,Bd c Y H Z B θ->Q i H
 | .error x=>∀C H,K.mg x=some (.ref C)->Bd c Y H Z B θ->E (.ref C) none H
inductive Qi(K:Kx)(E:XK)(m:Mi (Option Int))(Y:St)(H:Hp)(Q:Option Int->Hp->Prop):Prop
 |mk(c:Cn)(Z:List Sl)(B:St)(θ:List Sl)(o:Except Str (Option Int))(O:List Sl)(h1:c.toKx=K)(h2:Bd c Y H Z B θ)(h3:m Z=some (o,O))(h4:Ma K E c Y O B θ Q o)
structure JP(X:Cx)(E:XK)(e:Option Expr)(m:Mi (Option Int)):Prop where
 p:PO X e (Qi (kx X) E m)
theorem PO.weaken{e:Option Expr}{t t':TO}(h:PO X e t)(f:∀Y H Q,t' Y H Q->t Y H Q):PO X e t':=λpins s Y H Q I q=>h pins s Y H Q I (f Y H Q q)
theorem zr{o:Except Str (Option Int)}(q:Ma (kx X) E c Y O B θ Q o):∀e,o=.error e->∀C H,X.mg e=some (.ref C)->Bd c Y H O B θ->E (.ref C) none H:=λe a=>by subst a;exact q
theorem Er:JP X E none eI:=⟨PO.weaken EE λY H Q h=>by obtain⟨c,Z,B,θ,o,O,r,b,em,q⟩:=h;cases em;exact q H b⟩
theorem Dx(h:JE X E e m):JP X E (some e) (ip m):=⟨PO.weaken (Fu h.p) λY H Q h=>by
 obtain⟨c,Z,B,θ,o,O,r,b,em,q⟩:=h;refine bL r b em (λx v U y t b1 G=>?_) (zr q);cases F:res U x with
 |none=>simp only[F] at G;cases G
 |some a=>
  have k:=Bd.rd b1 t F;cases a<;>first|(simp only[F] at G;cases G;done)|skip
  simp only[F] at G;cases G;cases k;exact⟨_,rfl,q y b1.drop⟩⟩
def tm(xs:List A)(lo hi:Option Int):List A:=(xs.drop (HT.cT xs.length 0 lo)).take (HT.cT xs.length xs.length hi-HT.cT xs.length 0 lo)
theorem B1{k:Kx}{G:Hp}{vs:List V}{as:List A}(r:bS k G vs as)(lo hi:Option Int):bS k G (p9 vs lo hi) (tm as lo hi):=by unfold p9 tm;rw[r.len];exact(r.drop _).take _
def K3(a:A)(lo hi:Option Int):Option Rr:=match a with
 | .lst xs=>some (.nw (.lst (tm xs lo hi)))
 | .tup xs=>some (.fr (.tup (tm xs lo hi)))
 | .str z=>if z.length<=100000 then some (.fr (.str (Sa z lo hi))) else none
 |_=>none
def Fw(m:Mi Rr)(ml mh:Mi (Option Int)):Mi Rr:=aV m λx=>aV ml λlo=>aV mh λhi=>λZ=>match res Z x with
 |some a=>match K3 a lo hi with
  |some r=>some (.ok r,Z)
  |none=>none
 |none=>none
theorem v9{β:Type}{m:Mi (Option Int)}{f:Option Int->Mi β}{o:Except Str β}(r:c.toKx=kx X)(b:Bd c Y H Z B θ)(em:aV m f Z=some (o,O))
  (h1:∀k U y,Bd c Y y U B θ->f k U=some (o,O)->Q k y)
  (h2:∀e,o=.error e->∀C H,X.mg e=some (.ref C)->Bd c Y H O B θ->E (.ref C) none H):Qi (kx X) E m Y H Q:=by
 rcases bind_some em with ⟨x,U,F,j⟩|⟨e,F,j⟩
 .exact⟨c,Z,B,θ,_,U,r,b,F,λy b1=>h1 x U y b1 j⟩
 .exact⟨c,Z,B,θ,_,O,r,b,F,λC y hm b1=>h2 e j C y hm b1⟩
theorem L7{lo hi:Option Expr}{ml mh:Mi (Option Int)}(h:JE X E e m)(hl:JP X E lo ml)(R:JP X E hi mh):JE X E (.Subscript e (.Slice lo hi none p2) pos) (Fw m ml mh):=
 ⟨PE.weaken (Av (L2.dR.or ED (L2.dR.or (L2.dR.or Km D6) JZ)) h.p hl.p R.p) λY H Q h=>by
  obtain⟨c,Z,B,θ,o,O,s,b,em,q⟩:=h;refine bL s b em (λx v U y t b1 A=>?_) (bj q);refine v9 s b1 A (λl Z' f b2 i=>?_) (fq (bj q));refine v9 s b2 i (λu F N g D=>?_) (fq (bj q));obtain⟨a,r,J,V,rfl,rfl⟩:=qy D;have w:c.K=X.K:=congrArg Kx.K s;obtain⟨L,bl,I⟩:=Bd.open g t J;have k:=Bd.rd g t J;cases a<;>first|(cases V;done)|skip
  .rename_i z;unfold K3 at V;simp only at V;split at V
   .rename_i hz;cases V;cases k;exact .inr (.inr ⟨z,rfl,Rm hz kz,q _ N trivial (Bd.push ⟨L,bl⟩ λ_=>.str _)⟩)
   .cases V
  .rename_i xs;cases V;obtain⟨p,vs,rfl,s1,T⟩:=I.2.1 xs rfl;by_cases hn:HT.cT xs.length 0 l=0/\HT.cT xs.length xs.length u=xs.length
   .refine .inr (.inl (.inr ⟨p,vs,rfl,by rw[<-w];exact da (g_same _ _ _) s1,by rw[T.len];exact hn,?_⟩));have P:tm xs l u=xs:=by unfold tm;rw[hn.1,hn.2,U4,Vy,RH]
    rw[P] at q;exact q _ _ trivial (bl.push (.tup s1 T))
   .refine .inr (.inl (.inl ⟨p,vs,rfl,by rw[<-w];exact da (g_same _ _ _) s1,by rw[T.len];exact hn,λS hp=>?_⟩));obtain⟨b2,sm,np⟩:=bl.new (o:=.tup (p9 vs l u)) hp;exact q _ _ trivial (b2.push (.tup (.inl (.inl (by rw[br np (bl.Oj hp)];exact bW))) ((B1 T l u).sm sm)))
  .rename_i xs;cases V;obtain⟨p,vs,rfl,s1,T⟩:=I.1 xs rfl;exact .inl ⟨p,vs,rfl,by rw[<-w];exact s1,λS hp=>q _ _ trivial (bl.gZ hp λG H' sm q=>.lst q ((B1 T l u).sm sm))⟩⟩
noncomputable def QE(f g:Mg):Mg:=λa Z=>match f a Z with
 |some r=>some r
 |none=>g a Z
def tG(m:Mi Rr)(G:Mg):Ms:=c7 m λr Z=>match bA r Z with
 |some (a,U)=>match G a U with
  |some Z'=>some (.nx,Z')
  |none=>none
 |none=>none
theorem KR{tg:Expr}{G:Mg}(he:JE X E e m)(hg:JG X 0 tg G)(hs:swapsWithSole [tg] e pos.line X.env=pure false:=by rfl)(hw:swappedStores [tg] e X.env=pure none:=by rfl)
  (hp:∀{te:TE}{g:TG},PE X e te->PG X tg g->PS X (.Assign [tg] e pos) (yQ te g)):JS X E (.Assign [tg] e pos) (tG m G):=⟨PS.weaken (hp he.p hg.p) λD Y H h=>by
 obtain⟨c,Z,B,θ,f,O,ek,b,em,q⟩:=h;refine fN ek b em q λr v U H1 hv b1 em1=>?_;cases e1:bA r U with
 |none=>simp only[e1] at em1;cases em1
 |some p=>
  obtain⟨a,Z'⟩:=p;simp only[e1] at em1;have b2:=Bd.bA (xs:=[]) (ss:=[]) rfl b1 hv e1;cases e2:G a Z' with
  |none=>simp only[e2] at em1;cases em1
  | some F=>simp only[e2] at em1;cases em1;exact⟨c,Z',B,_,a,O,ek,b2,e2,λZ0 H' _ _ b3=>q Z0 H' b3⟩⟩
def Ei(i j:Nat)(rs:List Rr)(Z:List Sl):Option (Fl×List Sl):=match gc rs Z with
 |some ([a,b],U)=>match put i (.fr a) U with
  |some Z'=>match put j (.fr b) Z' with
   |some F=>some (.nx,F)
   |none=>none
  |none=>none
 |_=>none
theorem xb{rs:List Rr}{f:Fl}(h:Ei i j rs Z=some (f,O)):∃a d Z' F,gc rs Z=some ([a,d],Z')/\put i (.fr a) Z'=some F/\put j (.fr d) F=some O/\f=.nx:=by
 unfold Ei at h;cases x:gc rs Z with
 |none=>rw[x] at h;cases h
 |some p=>
  rw[x] at h;obtain⟨as,Z'⟩:=p
  match as,h with
  |[a,d],h=>
   dsimp only at h;cases Q:put i (.fr a) Z' with
   |none=>rw[Q] at h;cases h
   |some F=>
    rw[Q] at h;dsimp only at h;cases y:put j (.fr d) F with
    |none=>rw[y] at h;cases h
    |some T=>rw[y] at h;cases h;exact⟨a,d,Z',F,rfl,Q,y,rfl⟩
theorem DJ{α:Type}{l:List α}(h:l.length=2):∃a b,l=[a,b]:=match l,h with
 |[a,b],_=>⟨a,b,rfl⟩
def Aj(i j:Nat)(m:Mi (List Rr)):Ms:=c7 m (Ei i j)
theorem HB{s:Stmt}{es:List Expr}{m:Mi (List Rr)}(ha:JA X E es m)(A:i≠j)(hp:∀{ta:TA},PA X es ta->PS X s (K9 i j ta)):JS X E s (Aj i j m):=⟨PS.weaken (hp ha.p) λD Y H h=>by
 obtain⟨c,Z,B,θ,f,O,r,b,em,q⟩:=h;rcases dH em with ⟨rs,U,J,S⟩|⟨e,J,S⟩
 .refine⟨c,Z,B,_,_,U,r,b,J,λvs y t b1=>?_⟩;obtain⟨a,d,Z',F,x,Q,R,rfl⟩:=xb S;obtain⟨b2,K⟩:=Bd.gc t b1 x;obtain⟨v,w,rfl⟩:=DJ K;refine⟨v,w,rfl,q _ y ?_⟩;have g:Bd c Y y Z' (some w::some v::B) (.fr d::.fr a::θ.map Sl.fr):=by simpa using b2
  obtain⟨L,bl,T⟩:=Bd.lR (vs:=[w,v]) (as:=[d,a]) g rfl;cases T with|cons h1 T=>cases T with|cons h2 _=>
  exact Bd.put (Bd.put (fF.MH bl h2 h1) (λo z=>by cases z) Q) (λo z=>by cases z) R
 .subst S;exact⟨c,Z,B,_,_,O,r,b,J,λC y hm b1=>q C Y y hm b1⟩⟩
end
section
variable{X:Cx}{E:XK}{a b:Expr}{ma mb:Mi Rr}{pos:Pos}
abbrev dZ:=bU we Aq
theorem Iq(ha:JE X E a ma)(d:JE X E b mb):JE X E (.BinOp a .Sub b pos) (aC uk ma mb):=oB IB Kc ha d
theorem Jd(ha:JE X E a ma)(d:JE X E b mb):JE X E (.BinOp a .Mult b pos) (aC dZ ma mb):=oB (d0.or' D7 EG) (Dy.or Fy) ha d
theorem Kh(ha:JE X E a ma)(d:JE X E b mb):JE X E (.BinOp a .FloorDiv b pos) (aC lH ma mb):=oB yG Io ha d
theorem IV(ha:JE X E a ma)(d:JE X E b mb):JE X E (.BinOp a .Mod b pos) (aC j8 ma mb):=oB DO Jy ha d
theorem Jr(ha:JE X E a ma)(d:JE X E b mb):JE X E (.BinOp a .Pow b pos) (aC mX ma mb):=oB Kv IK ha d
theorem LY(f:X.A.units+64<cLine)(ha:JE X E a ma)(d:JE X E b mb):JE X E (.Compare a [.Eq] [b] pos) (aC gG ma mb):=dF (Al f) os_eq ha d (dm _)
theorem Mu(f:X.A.units+64<cLine)(ha:JE X E a ma)(d:JE X E b mb):JE X E (.Compare a [.NotEq] [b] pos) (aC gQ ma mb):=dF (Ah f) F9 ha d (dm _)
theorem Mn(ha:JE X E a ma)(d:JE X E b mb):JE X E (.Compare a [.Lt] [b] pos) (aC tQ ma mb):=dF vf GI ha d (dm _)
theorem Nd(ha:JE X E a ma)(d:JE X E b mb):JE X E (.Compare a [.Gt] [b] pos) (aC Kg ma mb):=dF BN Gf ha d (dm _)
theorem LC(ha:JE X E a ma)(d:JE X E b mb):JE X E (.Compare a [.GtE] [b] pos) (aC K2 ma mb):=dF Bv Ge ha d (dm _)
theorem LU(ha:JE X E a ma)(d:JE X E b mb):JE X E (.Compare a [.Is] [b] pos) (aC (sP false) ma mb):=dF Cd F4 ha d (dm _)
theorem EI(ha:JE X E a ma)(d:JE X E b mb):JE X E (.Compare a [.IsNot] [b] pos) (aC (sP true) ma mb):=dF wm vi ha d (dm _)
theorem L8(f:X.A.units+64<cLine)(ha:JE X E a ma)(d:JE X E b mb):JT X E (.Compare a [.Eq] [b] pos) (ag (aC gG ma mb)):=dG (Al f) os_eq ha d (dm _)
theorem Nj(f:X.A.units+64<cLine)(ha:JE X E a ma)(d:JE X E b mb):JT X E (.Compare a [.NotEq] [b] pos) (ag (aC gQ ma mb)):=dG (Ah f) F9 ha d (dm _)
theorem MG(ha:JE X E a ma)(d:JE X E b mb):JT X E (.Compare a [.Lt] [b] pos) (ag (aC tQ ma mb)):=dG vf GI ha d (dm _)
theorem ML(ha:JE X E a ma)(d:JE X E b mb):JT X E (.Compare a [.Gt] [b] pos) (ag (aC Kg ma mb)):=dG BN Gf ha d (dm _)
theorem M5(ha:JE X E a ma)(d:JE X E b mb):JT X E (.Compare a [.GtE] [b] pos) (ag (aC K2 ma mb)):=dG Bv Ge ha d (dm _)
theorem Mz(ha:JE X E a ma)(d:JE X E b mb):JT X E (.Compare a [.Is] [b] pos) (ag (aC (sP false) ma mb)):=dG Cd F4 ha d (dm _)
theorem FL(ha:JE X E a ma)(d:JE X E b mb):JT X E (.Compare a [.IsNot] [b] pos) (ag (aC (sP true) ma mb)):=dG wm vi ha d (dm _)
end
noncomputable def B7:Nat:=2^10000
noncomputable def Bx(K:QU):Sp:=λvs H Q _=>∃(p:Addr)(ns:List Int),vs=[.ref p]/\gu K H p (ns.map V.int)/\ns.length<=63/\∀H',Q (.bl true) H'
theorem vk{k:Kx}{G:Hp}:∀(ns:List Int),bS k G (ns.map V.int) (ns.map A.int)
 |[]=>.nil
 |n::ns=>.cons (.int n) (vk ns)
theorem Ko{P:Program}{w:World}{K:QU}{mg:Str->Option Value}{base:Heap}{CX:qY}{k:Nat}{f:Addr}{fd:FuncData}{ps:List Str}{m:Ms}(F:dg P w K mg base CX k f fd ps (iW ⟨K,mg,P,w⟩ 1 m))
  (h:∀ns:List Int,ns.length<=63->∃Z,m [.fr (.lst (ns.map A.int))]=some (.rt (.fr (.bl true)),Z)):dg P w K mg base CX k f fd ps (Bx K):=
 F.imp λvs H Q E q=>by
  obtain⟨p,ns,rfl,u,hl,q⟩:=q;obtain⟨Z,e⟩:=h ns hl
  let c:Cn:={ K:=K,mg:=mg,P:=P,w:=w,σ0:=[some (.ref p)],H0:=H,Lp:=[],Hd:=[],Wk:=[] }
  refine⟨rfl,c,_,_,Z,rfl,rfl,rfl,⟨.nil,aA.cons (L:=[]) (.fr (.lst (mS (Sq.of λb o e=>?_) u) (vk ns))) .nil,λp hp=>(by cases hp),⟨λb o e=>⟨o,e,λ_ _=>rfl⟩,λq j=>(by cases j)⟩,λi o _=>rfl,rfl,λq j=>(by cases j)⟩,e,λv H' _ b=>?_⟩
  .rw[br (c:=c) (λz=>by cases z) (λz=>by cases z)];exact e
  .have r:=Bd.top b (a:=.bl true) rfl;cases r;exact q H'
def fY(m:Mi Rr):Mi Rr:=aV m λr Z=>match bA r Z with
 |some (a,O)=>some (.ok (.fr a),O)
 |none=>none
variable{X:Cx}
theorem ND{E:XK}(R:JE X E e m):JE X E e (fY m):=⟨PE.weaken R.p λY H Q h=>by
 obtain⟨c,Z,B,θ,o,O,r,b,em,q⟩:=h;refine bL r b em (λx v U y t b1 G=>?_) (bj q);cases F:bA x U with
 |none=>simp only[F] at G;cases G
 | some p=>obtain⟨a,Z'⟩:=p;simp only[F] at G;cases G;exact q v y trivial (Bd.bA (xs:=[]) (ss:=[]) rfl b1 t F)⟩
variable{x:Str}
section
variable{X:Cx}{E:XK}
inductive Ty where|bool|int|str|tuple|list|dict
 deriving DecidableEq
noncomputable def Ty.n:Ty->String
 | .bool=> "bool" | .int=> "int" | .str=> "str" | .tuple=> "tuple" | .list=> "list" | .dict=> "dict"
noncomputable def Pf(T:Ty):A->Option Bool
 | .non=>some false
 | .bl _=>some (T=.bool || T=.int)
 | .int _=>some (T=.int)
 | .str _=>some (T=.str)
 | .tup _=>some (T=.tuple)
 | .lst _=>some (T=.list)
 | .dic _=>some (T=.dict)
 |_=>none
def cC(T:Ty)(a:A):Option Rr:=match Pf T a with
 |some k=>some (.fr (.bl k))
 |none=>none
theorem Hn(K:QU)(T:Ty):R4 K (.type "NoneType") (.type T.n)=some false:=by cases T<;>kernel_rfl
theorem CI(K:QU)(T:Ty):R4 K (.type "bool") (.type T.n)=some (T=.bool || T=.int:Bool):=by cases T<;>kernel_rfl
theorem J8(K:QU)(T:Ty):R4 K (.type "int") (.type T.n)=some (T=.int:Bool):=by cases T<;>kernel_rfl
theorem J4(K:QU)(T:Ty):R4 K (.type "str") (.type T.n)=some (T=.str:Bool):=by cases T<;>kernel_rfl
theorem IS(K:QU)(T:Ty):R4 K (.type "tuple") (.type T.n)=some (T=.tuple:Bool):=by cases T<;>kernel_rfl
theorem J1(K:QU)(T:Ty):R4 K (.type "list") (.type T.n)=some (T=.list:Bool):=by cases T<;>kernel_rfl
theorem HW(K:QU)(T:Ty):R4 K (.type "dict") (.type T.n)=some (T=.dict:Bool):=by cases T<;>kernel_rfl
theorem Ke(T:Ty):lg K (λv H Q=>∃x c t b,[v,V.ty T.n]=[x,c]/\E2 K.K H x t/\u3 c=true/\R4 K.K t (Dr c)=some b/\Q (.bl b) H) (cC T):=.scalar λH v a q B h=>by
 cases a<;>first|(cases h;done)|skip
 .cases B;cases h;exact⟨_,_,rfl,λ_=>.bl _,λQ k=>⟨_,_,_,_,rfl,.of .non,rfl,Hn _ T,k⟩⟩
 .cases B;cases h;exact⟨_,_,rfl,λ_=>.bl _,λQ k=>⟨_,_,_,_,rfl,.of (.bl _),rfl,CI _ T,k⟩⟩
 .cases B;cases h;exact⟨_,_,rfl,λ_=>.bl _,λQ k=>⟨_,_,_,_,rfl,.of (.int _),rfl,J8 _ T,k⟩⟩
 .cases B;cases h;exact⟨_,_,rfl,λ_=>.bl _,λQ k=>⟨_,_,_,_,rfl,.of (.str _),rfl,J4 _ T,k⟩⟩
 .cases B with
  |tup e r=>cases h;exact⟨_,_,rfl,λ_=>.bl _,λQ k=>⟨_,_,_,_,rfl,.tup e,rfl,IS _ T,k⟩⟩
 .cases B with
  |lst e r=>cases h;exact⟨_,_,rfl,λ_=>.bl _,λQ k=>⟨_,_,_,_,rfl,.lst e,rfl,J1 _ T,k⟩⟩
 .cases B with
  |dic e r=>cases h;exact⟨_,_,rfl,λ_=>.bl _,λQ k=>⟨_,_,_,_,rfl,.dic e,rfl,HW _ T,k⟩⟩
theorem IQ{y:Str}{p:Pos}(T:Ty)(hg:Gl X x)(hm:X.mg x=none)(hv:bootBuiltins x=some (.builtin "isinstance"))(hg2:Gl X y)(hm2:X.mg y=none)(hv2:bootBuiltins y=some (.type T.n))(ha:JE X E e m)(hn:x ≠ "__name__")
  (hdb:gP x)(hn2:y ≠ "__name__")(hdb2:gP y)(hs:starEach [e,.Name y p2] X.env=(false,eval e X.env)::starEach [.Name y p2] X.env:=by rfl)(hs2:starEach [.Name y p2] X.env=(false,eval (.Name y p2) X.env)::starEach [] X.env:=by rfl)(hp:(backTo pos (starEach [.Name y p2] X.env)).any (·.1)=false:=by rfl):JE X E (.Call (.Name x p) [e,.Name y p2] [] pos) (bT (cC T) m):=
 ⟨PE.weaken (mV zO hg hm hv (cq ha.p (cq (DF hg2 hm2 hv2 (v:=.ty T.n) rfl hn2 hdb2) dB hs2) hs) hn hdb hs hp) λY H Q h=>jW (r:=λv H Q=>∃x c t b,[v,V.ty T.n]=[x,c]/\E2 (kx X).K H x t/\u3 c=true/\R4 (kx X).K t (Dr c)=some b/\Q (.bl b) H) (Ke T) Y H Q h⟩
end
variable{r r':R2}{p q:Int->Int->Bool}{ma mb mc:Mi Rr}{op op':CmpOp}{b:Expr}
section
variable{X:Cx}{E:XK}
def gH(p q:Int->Int->Bool)(ma mb mc:Mi Rr):Mi Rr:=aV ma λx=>aV mb λy=>λZ=>match res Z x,res Z y with
 |some (.int i),some (.int j)=>match p i j with
  | true=>aV mc (λz Z'=>match res Z' z with
   |some (.int k)=>some (.ok (.fr (.bl (q j k))),Z')
   | _=>none) Z
  |false=>some (.ok (.fr (.bl false)),Z)
 |_,_=>none
theorem mZ(N:∀i j H Q,Q (.bl (p i j)) H->r (.int i) (.int j) H Q)(L:∀i j H Q,Q (.bl (q i j)) H->r' (.int i) (.int j) H Q)(Y:St)(H:Hp)(Q:VK)(h:gS (kx X) E (gH p q ma mb mc) Y H Q):
  uu r r' (gS (kx X) E ma) (gS (kx X) E mb) (gS (kx X) E mc) Y H Q:=by
 obtain⟨c,Z,B,θ,o,O,s,b,em,m⟩:=h;refine bL s b em (λx v U e t b1 G=>?_) (bj m);refine bL s b1 G (λy w Z' u n b2 a=>?_) (fq (bj m));obtain⟨i,j,J,S,a⟩:=Ak a;obtain⟨rfl,rfl⟩:v=.int i/\w=.int j:=by have T:=Bd.rd b2 n S;have A:=Bd.rd b2.drop t J;cases A;cases T;exact⟨rfl,rfl⟩
 refine N _ _ _ _ ⟨p i j,rfl,?_⟩;cases ep:p i j with
 |false=>rw[ep] at a;cases a;exact m _ u trivial (Bd.push b2.drop.drop (λ_=>.bl _))
 |true=>rw[ep] at a;refine bL s b2.drop.drop a (λz R F K hz g D=>?_) (bj m);obtain⟨k,V,D⟩:=AH D;have P:=Bd.rd g hz V;cases P;cases D;exact L _ _ _ _ (m _ K trivial (Bd.push g.drop (λ_=>.bl _)))
theorem rh{a c:Expr}(ho:d0 X (compareOp op) r)(ho':d0 X (compareOp op') r')(hr:∀i j H Q,Q (.bl (p i j)) H->r (.int i) (.int j) H Q)(hr':∀i j H Q,Q (.bl (q i j)) H->r' (.int i) (.int j) H Q)
  (ha:JE X E a ma)(hb:JE X E b mb)(hc:JE X E c mc)(hm:lastMarks [op,op'] [b,c]=false:=by with_unfolding_all rfl):JE X E (.Compare a [op,op'] [b,c] pos) (gH p q ma mb mc):=⟨PE.weaken (BM ho ho' ha.p hb.p hc.p hm) (mZ hr hr')⟩
theorem BG{a c:Expr}(ho:d0 X (compareOp op) r)(ho':d0 X (compareOp op') r')(hr:∀i j H Q,Q (.bl (p i j)) H->r (.int i) (.int j) H Q)(hr':∀i j H Q,Q (.bl (q i j)) H->r' (.int i) (.int j) H Q)
  (ha:JE X E a ma)(hb:JE X E b mb)(hc:JE X E c mc)(hm:lastMarks [op,op'] [b,c]=false:=by with_unfolding_all rfl):JT X E (.Compare a [op,op'] [b,c] pos) (ag (gH p q ma mb mc)):=⟨PT.weaken (yL ho ho' ha.p hb.p hc.p hm) λY H Q h=>mZ hr hr' Y H _ (eN Y H Q h)⟩
noncomputable abbrev Pj(i j:Int):Bool:=decide (i<j)
noncomputable abbrev LK(i j:Int):Bool:=decide (i<=j)
noncomputable abbrev Qf(i j:Int):Bool:=decide (j<i)
noncomputable abbrev Ql(i j:Int):Bool:=decide (j<=i)
theorem Gh(i j:Int)(H:Hp)(Q:VK)(q:Q (.bl (Pj i j)) H):sM (λi j=>.bl (decide (i<j))) (.int i) (.int j) H Q:=⟨_,_,rfl,rfl,q⟩
theorem FW(i j:Int)(H:Hp)(Q:VK)(q:Q (.bl (LK i j)) H):sM (λi j=>.bl (decide (i<=j))) (.int i) (.int j) H Q:=⟨_,_,rfl,rfl,q⟩
theorem Lv(i j:Int)(H:Hp)(Q:VK)(q:Q (.bl (Qf i j)) H):sM (λi j=>.bl (decide (j<i))) (.int i) (.int j) H Q:=⟨_,_,rfl,rfl,q⟩
theorem MJ(i j:Int)(H:Hp)(Q:VK)(q:Q (.bl (Ql i j)) H):sM (λi j=>.bl (decide (j<=i))) (.int i) (.int j) H Q:=⟨_,_,rfl,rfl,q⟩
example {a b c:Expr} {ma mb mc:Mi Rr} {pos:Pos} (ha:JE X E a ma) (hb:JE X E b mb) (hc:JE X E c mc) (hm:lastMarks [.LtE,.Lt] [b,c]=false):JE X E (.Compare a [.LtE,.Lt] [b,c] pos) (gH LK Pj ma mb mc):=rh FT vf FW Gh ha hb hc hm
end
section
variable{X:Cx}{E:XK}
def zB(K:QU):R2:=λx y H Q=>∃a b xs ys,x=.ref a/\y=.ref b/\gu K H a xs/\gu K H b ys/\xs.length+ys.length<=sizeLine/\∀p,H p=none->Q (.ref p) (upd H p (.lst (xs++ys)))
theorem Ar:d0 X (binaryOp .Add) (zB X.K):=by
 intro pins s Y H x y v u Q I A S h;obtain⟨a,b,xs,ys,rfl,rfl,ha,d,hz,q⟩:=h;cases A;cases S;obtain⟨its,k,G,_⟩:=I.list ha;obtain⟨O,n,p2,_⟩:=I.list d;obtain⟨⟨N,L,D,l1⟩,R,T,o,Z,m⟩:=id G;obtain⟨⟨i,w,P,U⟩,E,j,z,p,J⟩:=id p2;simp only at o m z J Z p;subst o m z J Z p;have c:=k.length;have g:=n.length;refine concat_meets ⟨_,T,rfl⟩ ⟨_,j,rfl⟩ noFill_list_add seq_list_add PySem.F.slot_list_add PySem.F.entry_list_add (PySem.F.args_list_add_2 _ _) (W4 a b _ _ R E _ _ l1 U (by rw[Q0,Q0];lia)) ⟨T,j,?_⟩;have ea:its.toArray++O.toArray=(its++O).toArray:=by simp
 rw[ea];exact⟨.ref _,_,I.PB (t':=s.toks) (k.append n) (by rw[Rc];lia),rfl,q _ I.fresh⟩
noncomputable def AF:A->A->Option Rr
 | .lst xs,.lst ys=>if xs.length+ys.length<=100000 then some (.nw (.lst (xs++ys))) else none
 |_,_=>none
theorem EK:gN K (zB K.K) AF:=by
 intro c Y H Z B θ x y v w a b q Q r t J o F j V k;cases a<;>first|(cases V;done)|(cases b<;>first|(cases V;done)|skip)
 rename_i xs ys;unfold AF at V;simp only at V;split at V
 .rename_i hc;cases V;obtain⟨L,bl,I,m⟩:=Bd.sF o t J F j;obtain⟨E,h,rfl,s1,O⟩:=I.1 xs rfl;obtain⟨p2,X,rfl,s2,n⟩:=m.1 ys rfl;have l1:=O.len;have U:=n.len;subst r;exact⟨E,p2,h,X,rfl,rfl,s1,s2,by have:=kz;lia,λp hp=>k _ _ trivial (bl.gZ hp λG H' sm q=>.lst q ((O.app n).sm sm))⟩
 .cases V
abbrev bD:=bU wo (bU vC (bU sf AF))
theorem Es{a:Expr}(ha:JE X E a ma)(d:JE X E b mb):JE X E (.BinOp a .Add b pos) (aC bD ma mb):=oB (d0.or' KQ (d0.or' tY (d0.or' CJ Ar))) (EN.or (Fh.or (EW.or EK))) ha d
end
variable{px:Pos}
section
variable{X:Cx}{E:XK}
def hV(i:Nat):Mi Rr:=λZ=>match aE Z i with
 |some (.lst _)=>some (.ok (.fr .non),setAt Z i (.lst []))
 |_=>none
theorem zf(hN:X.N[i]?=some x)(hv:nY X.env.scope x)(hd:gP x)(hcd:p4 x)
  (hbase:attributeBase (.Name x px) "clear" X.env (eval (.Name x px) X.env)=eval (.Name x px) X.env:=by rfl)(hline:(apos.endLine==cpos.line)=true:=by rfl):
  JE X E (.Call (.Attribute (.Name x px) "clear" apos) [] [] cpos) (hV i):=
 ⟨PE.weaken (yn Sh PySem.F.slot_list_clear PySem.F.type_list_clear A3 (cD hN hv hd hcd) hbase hline) λY H Q h=>by
  obtain⟨c,Z,B,θ,o,O,ek,b,em,q⟩:=h;unfold hV at em;cases e2:aE Z i with
  |none=>simp only[e2] at em;cases em
  |some lo=>
   cases lo with
   |dic _=>simp only[e2] at em;cases em
   |dit _=>simp only[e2] at em;cases em
   |obj _ _=>simp only[e2] at em;cases em
   |nob _ _ _=>simp only[e2] at em;cases em
   | lst xs=>simp only[e2] at em;cases em;obtain⟨p,vs,hp,hH⟩:=fh b e2;obtain⟨L,bl⟩:=b;obtain⟨p',_,h1,h2,h3⟩:=bl.live e2 (.lst []) (.lst []);rw[hp] at h1;cases h1;refine⟨_,hp,.inl ⟨rfl,vs,.inl (.inl hH)⟩,?_⟩;cases h2;exact⟨p,vs,rfl,rfl,hH,q _ _ trivial (Bd.push (h3 λH' hh=>.lst hh .nil) λ_=>.non)⟩⟩
theorem bS.dropLast{K:Kx}{G:Hp}:∀{vs:List V}{as:List A},bS K G vs as->bS K G vs.dropLast as.dropLast
 |_,_,.nil=>.nil
 |_,_,.cons h .nil=>.nil
 |_,_,.cons h (.cons h2 r)=>.cons h (bS.dropLast (.cons h2 r))
def Hm(i:Nat):Mi Rr:=λZ=>match aE Z i with
 |some (.lst xs)=>match xs[xs.length-1]? with
  |some a=>some (.ok (.fr a),setAt Z i (.lst xs.dropLast))
  |none=>none
 |_=>none
theorem Hy(hN:X.N[i]?=some x)(hv:nY X.env.scope x)(hd:gP x)(hcd:p4 x)
  (hbase:attributeBase (.Name x px) "pop" X.env (eval (.Name x px) X.env)=eval (.Name x px) X.env:=by rfl)(hline:(apos.endLine==cpos.line)=true:=by rfl):
  JE X E (.Call (.Attribute (.Name x px) "pop" apos) [] [] cpos) (Hm i):=
 ⟨PE.weaken (yn Sh PySem.F.slot_list_pop PySem.F.type_list_pop Kq (cD hN hv hd hcd) hbase hline) λY H Q h=>by
  obtain⟨c,Z,B,θ,o,O,ek,b,em,q⟩:=h;unfold Hm at em;cases e2:aE Z i with
  |none=>simp only[e2] at em;cases em
  |some lo=>
   cases lo with
   |dic _=>simp only[e2] at em;cases em
   |dit _=>simp only[e2] at em;cases em
   |obj _ _=>simp only[e2] at em;cases em
   |nob _ _ _=>simp only[e2] at em;cases em
   |lst xs=>
    simp only[e2] at em;cases e3:xs[xs.length-1]? with
    |none=>simp only[e3] at em;cases em
    |some a=>
     simp only[e3] at em;cases em;obtain⟨p,vs,hp,hH⟩:=fh b e2;obtain⟨L,bl⟩:=b;obtain⟨p',_,h1,h2,h3⟩:=bl.live e2 (.lst xs) (.lst []);rw[hp] at h1;cases h1;cases h2 with
     |lst e rr=>
      rename_i ws;rw[hH] at e;cases e;obtain⟨v,g1,g2⟩:=rr.ta e3;obtain⟨L1,bl1⟩:=bl.push g2;obtain⟨p2,_,k1,k2,k3⟩:=bl1.live e2 (.lst xs.dropLast) (.lst vs.dropLast);rw[hp] at k1;cases k1;cases k2 with
      | lst e' rr'=>rw[hH] at e';cases e';refine⟨_,hp,.inl ⟨rfl,vs,.inl (.inl hH)⟩,?_⟩;exact⟨p,vs,v,rfl,rfl,hH,by rw[rr.len];exact g1,q _ _ trivial (k3 λH' hh=>.lst hh rr'.dropLast)⟩⟩
end
end M
set_option maxHeartbeats 4000000
namespace L2
open PySem PySem.Spec PyProof.Rows
theorem vO:entryFor table "dict.update.loop" = some Builtin.«dict.update.loop»:=entryFor_of_tree (by kernel_rfl)
theorem qS:plainId "dict.update.loop" = true:=by decide +kernel
theorem wR:typeLookup (.type "tuple") "keys" = pure none:=am_miss_of_fast (by kernel_rfl)
section
variable{prog:Program}{w:World}{A:Around}{E:Value->Shared->Prop}{s:Shared}
theorem Em{a:Addr}{items:Array Value}{Q:Option Value->Shared->Prop}(C:fA s.heap a items)(f:A.handled=none)(h:∀h' tk,(∀b ob,s.heap.get? b=some ob->h'.get? b=some ob)->Q none { s with heap:=h',toks:=tk }):
  wpAny (model prog w) A (getAttr? (.ref a) "keys") Q E s:=by
 obtain⟨⟨c,v,X,sl⟩,C,hc,k,H,hd⟩:=C;simp only at hc H hd;subst hc H hd;obtain⟨hp,g,d,tk,os⟩:=s;have Z:∀q,(⟨hp,g,d,q,os⟩:Shared).TypeIs (.ref a) "tuple" := λ_=>⟨_,C,rfl⟩
 have z:=sub_AttributeError;have J:=TB.lookup;have L:=TB.bind (.ref a);have O:=am_tuple_getattr_none;unfold getAttr? getAttrBy? getAttrBy
 repeat (any_goals (first|assumption|exact Z _|((with_reducible show wpAny _ _ (call (Ts "tuple.__getattribute__") _ _) _ _ _);refine call_meets TB (Z _) am_entry_tuple_getattribute (F.args_tuple_getattribute_2 _ _) (meets_getattribute_miss_tuple a items k sl "keys" _ wR (by decide +kernel)) ⟨C,f,λh' q e Y=>?_⟩)|wp_step))
 obtain⟨t',p,R⟩:=Y.there;show wpAny _ _ (getattributeRaised _ _ _ _ _ _ _) _ _ _;unfold getattributeRaised
 repeat (any_goals (first|assumption|wp_step))
 exact h _ _ Y.keeps
theorem wV{R:Result->Shared->Prop}(g:A.in1.handled=none){h0:Heap}{a D I:Addr}{its:Array Value}{kvs:List (Key×Value)}(ha:h0.IsTuple a its)
  (m:∀(i:Nat)(v:Value),its[i]?=some v->∃p k u r,v=RD p/\h0.IsTuple p #[u,r]/\kvs[i]?=some (k,r)/\(ba prog w).is k u=true)(hl:its.size=kvs.length)(Q:h0.get? D=none)(P:h0.get? I=none)(q:D≠I)(hz:its.size<=1000):
  ∀(k i:Nat)(n:Int)(t:Tok)(s:Shared),its.size-i=k->i<=its.size->s.heap.IsTupleIter I a i->(∀b o,h0.get? b=some o->s.heap.get? b=some o)->s.heap.DictOf (ba prog w) D (merged [] (kvs.take i))->
   (∀h' tk,(∀b o,h0.get? b=some o->h'.get? b=some o)->h'.DictOf (ba prog w) D (merged [] kvs)->R (.ok (.ret .none)) { s with heap:=h',toks:=tk })->
   codeAny (model prog w) A (.builtin "dict.update.loop" ⟨[.ref D,.ref I,.int n t,.none],[]⟩) R s:=by
 intro k;induction k with
 |zero=>
  intro i n t s hk hi h kp hd E;have U:i=its.size:=by lia
  subst U;refine codeAny_builtin vO ?_;rw[Vr qS _];show wpAny _ A.in1 (pyNext (.ref I) >>= _) _ _ s;refine wpAny_bind (wpAny_pyNext_tuple_end g h (let ⟨o,e,r⟩:=ha;⟨o,kp _ _ e,r⟩) (by simp) λh' Y=>?_);have H:∀b o,h0.get? b=some o->h'.get? b=some o:=λb o e=>Y b o (λz=>by rw[z,P] at e;cases e) (kp b o e);show wpAny _ A.in1 (W5 D [] >>= _) _ _ _;refine wpAny_bind (wpAny_pure ?_);refine wpAny_pure (E h' s.toks H ?_);rw[hl,RH] at hd;exact hd.extBut Y q
 |succ k l=>
  intro i n t s hk hi h kp hd E;have O:i<its.size:=by lia
  obtain⟨p,V,u,r,f,hp,L,T⟩:=m i its[i] (by simp[O]);refine codeAny_builtin vO ?_;rw[Vr qS _];show wpAny _ A.in1 (pyNext (.ref I) >>= _) _ _ s;refine wpAny_bind (wpAny_pyNext_tuple_item h (let ⟨o,e,r⟩:=ha;⟨o,kp _ _ e,r⟩) (x:=.ref p) (by rw[<-f];simp[O]) λh' Z J=>?_);have H:∀b o,h0.get? b=some o->h'.get? b=some o:=λb o e=>(J.2 b (λz=>by rw[z,P] at e;cases e)).trans (kp b o e);obtain⟨po,c,y,pn,C⟩:=hp;have G:Shared.TypeIs { s with heap:=h' } (.ref p) "tuple" := ⟨po,H _ _ c,y⟩
  have K:h'.DictOf (ba prog w) D (merged [] (kvs.take i)):=hd.extBut J.extBut q;show wpAny _ A.in1 (holding [RD p] _ >>= _) _ _ _;refine wpAny_bind (wpAny_holding ?_);refine wpAny_bind (wpAny_tryCatch ?_);unfold W6;refine wpAny_bind (wpAny_typeOf G ?_);refine wpAny_bind (wpAny_seqItems (H _ _ c) C (wpAny_pure ?_));show wpAny _ A.in1 (holding [u,r] (dictSet D u r)) _ _ _;refine wpAny_holding (wpAny_dictSet_pairs (s:={ s with heap:=h' }) T K (λh2 N X=>?_) ?_)
  .have S:∀b o,h0.get? b=some o->h2.get? b=some o:=λb o e=>(X.2 b (λz=>by rw[z,Q] at e;cases e)).trans (H b o e);refine wpAny_pure ⟨plainId_quiet qS _,?_⟩;refine l (i+1) _ _ { s with heap:=h2,toks:=s.toks+1 } (by lia) O (Z.extBut X.extBut (Sd q)) S ?_ (λh3 tk B j=>E h3 tk B j);rw[merged_take_succ [] kvs i (V,r) L];exact N
  .have:=merged_length_le [] (kvs.take i);rw[T2,RX] at this;rw[sizeLine_eq];lia
end
inductive eQ(K:QU)(H:Hp):List V->List (Key×V)->Prop
 |nil:eQ K H [] []
 |cons{p:Addr}{k:Key}{v:V}{ws:List V}{kvs:List (Key×V)}(h:gv K H p [kV k,v])(t:eQ K H ws kvs):eQ K H (.ref p::ws) ((k,v)::kvs)
section
variable{X:Cx}
theorem pairs_at{pins:List (Addr×Obj)}{Y:St}{H:Hp}{s:Shared}(I:Inv X pins Y H s):∀{ws:List V}{kvs:List (Key×V)}{its:List Value},eQ X.K H ws kvs->Vals ws its->
  ∃rs:List (Key×Value),KV kvs rs/\its.length=rs.length/\∀(i:Nat)(v:Value),its[i]?=some v->∃p k u r,v=RD p/\s.heap.IsTuple p #[u,r]/\rs[i]?=some (k,r)/\(ba X.prog X.w).is k u=true
 |_,_,_,.nil,.nil=>⟨[],.nil,rfl,λi v e=>by simp at e⟩
 |_,_,_,.cons (p:=p) (k:=k) (v:=v) h t,.cons r0 t0=>by
  obtain⟨rs,L,hl,m⟩:=pairs_at I t t0;obtain⟨q,n,P,_⟩:=I.tuple h;cases n with
  |cons Q O=>
   cases O with
   |cons z a=>
    cases a;rename_i u r;cases r0;refine⟨(k,r)::rs,.cons ⟨rfl,z⟩ L,by simp[hl],λi v e=>?_⟩;cases i with
    |zero=>cases e;exact⟨p,k,u,r,rfl,P,rfl,mY Q⟩
    |succ i=>exact m i v e
def qa(K:QU):List V->Hp->VK->Prop:=λvs H Q=>∃(a:Addr)(ws:List V)(kvs:List (Key×V)),vs=[.ref a]/\gv K H a ws/\eQ K H ws kvs/\ws.length<=1000/\∀r,H r=none->Q (.ref r) (upd H r (.dK (jy [] kvs)))
theorem uj(hc:X.calm=true):cx X (.type "dict") (qa X.K):=by
 intro pins s Y H vs us Q I B h;obtain⟨a,ws,kvs,rfl,V,hp,hz,q⟩:=h;obtain⟨u,rfl,S⟩:=B.one;cases S;obtain⟨its,k,G,_⟩:=I.Ho V;obtain⟨rs,L,hl,m⟩:=pairs_at I hp k;have f:=I.ok.hd hc;have E:=k.length;refine callType_codes (Q₁:=λobj Z=>obj=.ref s.heap.objs.size/\Z={ s with heap:=s.heap.push { cls:=.type "dict",data:=.dict #[] } }) PySem.F.kt_called_dict (PySem.F.kt_typeCall_dict_1 _) PySem.F.entry_dict_init (kt_code_dict_new _ ⟨rfl,rfl⟩) ?_;rintro obj Z ⟨rfl,rfl⟩;have p:(s.heap.push { cls:=.type "dict",data:=.dict #[] }).DictOf (ba X.prog X.w) s.heap.objs.size []:=Vp s.heap;refine⟨p.typeIs,PySem.F.args_dict_init_2 _ _,?_⟩;have x:fA (s.heap.push { cls:=.type "dict",data:=.dict #[] }) a its.toArray:=by obtain⟨o,e,r⟩:=G;exact⟨o,Q3 _ e,r⟩
 unfold Builtin.«dict.__init__»;refine wpAny_bind ?_;unfold W7;refine wpAny_bind (wpAny_notOrdered_dict p.typeIs ?_);show wpAny _ _ (pure (s.heap.objs.size,[RD a])) _ _ _;refine wpAny_pure ?_;show wpAny _ _ (UM "dict.__init__" s.heap.objs.size (.ref a) [] .none) _ _ _;unfold UM;refine wpAny_bind (wpAny_typeOf x.t.typeIs ?_);rw[if_pos (by decide)];refine wpAny_bind (Em x (by simp[f]) λh' tk kp=>?_);rw[if_pos (show (none:Option Value).isNone=true from rfl)];refine wpAny_bind (wpAny_rule ?_);have ht:h'.IsTuple a its.toArray:=by obtain⟨o,e,c,n,d,_⟩:=x;exact⟨o,kp _ _ e,c,n,d⟩
 refine wpAny_bind (wpAny_pyIter_tuple ht ?_);refine wpAny_pure ⟨plainId_quiet qS _,?_⟩;have hsz:s.heap.objs.size<h'.objs.size:=by obtain⟨o,_,_,e,_⟩:=p;exact Rh (kp _ _ e)
 refine wV (A:=X.A.in1) (h0:=s.heap) (a:=a) (its:=its.toArray) (kvs:=rs) (by simp[f]) G.t (λi v e=>m i v (by simpa using e)) (by simp[hl]) (Ub (Rf _)) (Ub (S0 hsz)) (Ru hsz) (by simp;lia)
  (its.toArray.size-0) 0 0 0 _ rfl (R1 _) ⟨_,Ro _ rfl,rfl,rfl⟩ (λb o e=>Q3 _ (kp _ _ (Q3 _ e))) ?_ (λh2 U g O=>⟨rfl,?_⟩)
 .obtain⟨o,es,ep,e,r⟩:=p;exact⟨o,es,ep,Q3 _ (kp _ _ e),r⟩
 .have D:(jy [] kvs).length<=sizeLine:=by have h1:=je kvs [];have h2:=L.length;rw[T2] at h1;rw[sizeLine_eq];lia
  exact⟨.ref s.heap.objs.size,_,I.laid (a:=s.heap.objs.size) (o:=.dK (jy [] kvs)) g (Rf _) (uh D (beq_eq_false_iff_ne.mpr (Sd (Ru I.big))) (L.merge .nil) O),rfl,q _ I.fresh⟩
end
end L2
namespace M
open PySem L2
def d5:List A->Option (List (Key×A))
 |[]=>some []
 | .tup [k,v]::r=>match gT k,d5 r with
  |some y,some t=>some ((y,v)::t)
  |_,_=>none
 |_=>none
def nU(kvs more:List (Key×A)):List (Key×A):=more.foldl (λacc q=>hE acc q.1 q.2) kvs
theorem fC.merge{k:Kx}{G:Hp}:∀{vs ws:List (Key×V)}{as bs:List (Key×A)},fC k G vs as->fC k G ws bs->fC k G (jy ws vs) (nU bs as)
 |_,_,_,_,.nil,r=>r
 |_,_,_,_,.cons (y:=y) h t,r=>by have:=fC.merge t (r.put y h);exact this
theorem oX{k:Kx}{G:Hp}:∀{as:List A}{vs:List V}{kvs:List (Key×A)},bS k G vs as->d5 as=some kvs->∃ws,eQ k.K G vs ws/\fC k G ws kvs
 |[],_,_,.nil,h=>by cases h;exact⟨[],.nil,.nil⟩
 |a::as,_,_,.cons h0 t0,h=>by
  cases a<;>first|(simp[d5] at h;done)|skip
  rename_i xs
  match xs,h0,h with
  |[],_,h=>simp[d5] at h
  |[_],_,h=>simp[d5] at h
  |_::_::_::_,_,h=>simp[d5] at h
  |[x,y],h0,h=>
   unfold d5 at h;cases F:gT x with
   |none=>simp only[F] at h;cases h
   |some q=>
    cases j:d5 as with
    |none=>simp only[F,j] at h;cases h
    |some t=>
     simp only[F,j] at h;cases h;obtain⟨ws,E,P⟩:=oX t0 j;cases h0 with
     |tup e r=>
      cases r with
      |cons H r=>
       cases r with
       |cons b r=>cases r;rw[jx H F] at e;exact⟨_::ws,.cons e E,.cons b P⟩
theorem eQ.sm{K:QU}{G G':Hp}(s:Sq G G'):∀{vs:List V}{ws:List (Key×V)},eQ K G vs ws->eQ K G' vs ws
 |_,_,.nil=>.nil
 |_,_,.cons h t=>.cons (da s h) (eQ.sm s t)
def ju:A->Option Rr
 | .tup as=>if as.length<=1000 then match d5 as with
  |some kvs=>some (.nw (.dic (nU [] kvs)))
  |none=>none else none
 |_=>none
variable{K:Kx}
theorem yO:lg K (λv=>qa K.K [v]) ju:=by
 intro c Y H Z B θ x v a q Q s t o F V k;subst s;obtain⟨L,bl,I⟩:=Bd.open o t F;cases a<;>first|(cases V;done)|skip
 rename_i as;unfold ju at V;simp only at V;split at V
 .rename_i hz;cases es:d5 as with
  |none=>simp only[es] at V;cases V
  |some kvs=>simp only[es] at V;cases V;obtain⟨p,vs,rfl,s1,z⟩:=I.2.1 as rfl;obtain⟨ws,E,P⟩:=oX z es;exact⟨p,vs,ws,rfl,da (g_same _ _ _) s1,eQ.sm (g_same _ _ _) E,by rw[z.len];exact hz,λr y=>k _ _ trivial (bl.gZ y λG H' sm q=>.dic q ((P.sm sm).merge .nil))⟩
 .cases V
section
variable{X:Cx}
theorem tu(hc:X.calm=true):cx X (.type "dict") (λxs H Q=>qE xs H Q\/qa X.K xs H Q):=cx.or' tU (uj hc)
theorem xY:lg K (λv H Q=>qE [v] H Q\/qa K.K [v] H Q) (n8 kQ ju):=zm.or yO
end
end M
set_option maxHeartbeats 1000000
namespace M
open PySem L2
variable{s:Sl}{cn:Str}{r:Rr}
section
variable{c:Cn}{Y:St}{H:Hp}{Z:List Sl}{B:St}{θ:List Sl}
theorem dR.GD{k:Kx}{G:Hp}{x:Option V}{L:List Addr}{fs:List (Str×A)}(h:dR k G H x s L)(sm:Sq G H)(e:s.a=some (.obj cn fs)):∃p C dx vs,x=some (.ref p)/\H p=some (.ins C dx vs)/\k.mg cn=some (.ref C)/\iZ k G vs fs:=by
 have lo:∀p o q,LR k G H p o q->o.rd=some (A.obj cn fs)->∃C dx vs,H p=some (.ins C dx vs)/\k.mg cn=some (.ref C)/\iZ k G vs fs:=λp o q h z=>by
  cases h with
  |nob=>cases z
  |lst=>cases z
  |dic=>cases z
  |dit=>cases z
  |obj e m r=>cases z;exact⟨_,_,_,e,m,r⟩
 cases h with
 |un=>cases e
 |fr h=>cases e;cases h with|obj e m r=>exact⟨_,_,_,_,rfl,sm.keep e rfl,m,r⟩
 |lv h=>obtain⟨C,dx,vs,h1,h2,h3⟩:=lo _ _ _ h e;exact⟨_,C,dx,vs,rfl,h1,h2,h3⟩
 |pv h=>obtain⟨C,dx,vs,h1,h2,h3⟩:=lo _ _ _ h e;exact⟨_,C,dx,vs,rfl,h1,h2,h3⟩
theorem Bd.GV{v:V}{fs:List (Str×A)}(b:Bd c Y H Z (cu r v B) (cv r θ))(t:VR Y r v)(e:res Z r=some (.obj cn fs)):∃L p C dx vs,fF c Y H Z B θ L/\v=.ref p/\H p=some (.ins C dx vs)/\c.mg cn=some (.ref C)/\iZ c.toKx (c.g H L) vs fs:=by
 obtain⟨u,b⟩:=b;have z:∀s,fF c Y H Z (some v::B) (s::θ) u->s.a=some (.obj cn fs)->∃L p C dx vs,fF c Y H Z B θ L/\v=.ref p/\H p=some (.ins C dx vs)/\c.mg cn=some (.ref C)/\iZ c.toKx (c.g H L) vs fs:=by
  intro s b ea;obtain⟨nd,rel,own,fr,kp,lt,E⟩:=b;have rel:aA c.toKx (c.g H u) H (some v::(B++Y)) (s::(θ++Z)) u:=rel;cases rel with
  |cons h r=>rename_i q L2;have sm:Sq (c.g H (q++L2)) (c.g H L2):=c0 λa ha=>QV _ ha;obtain⟨p,C,dx,vs,h1,h2,h3,h4⟩:=(h.sm sm (λ_ _ _ e=>e)).GD (g_same _ _ _) ea;exact⟨L2,p,C,dx,vs,⟨(Q8.mp nd).2.1,r.sm sm (λ_ _ _ e=>e),λp hp=>own p (QV _ hp),fr,kp,by simpa using lt,E⟩,Q9 h1,h2,h3,h4⟩
 cases r with
 |rf i=>
  unfold res at e;cases es:Z[i]? with
  |none=>simp only[es] at e;cases e
  |some s=>simp only[es] at e;obtain⟨q,L2,F,k,n⟩:=aA.split b.lt b.rel;obtain⟨x,_,_,_,w,R,_⟩:=n.at es;have t:Y[i]?=some (some v):=t;rw[t] at w;obtain⟨p,C,dx,vs,h1,h2,h3,h4⟩:=R.GD (g_same _ _ _) e;rw[<-Q9 w] at h1;exact⟨u,p,C,dx,vs,b,Q9 h1,h2,h3,h4⟩
 |fr a'=>exact z _ b e
 |nw o=>exact z _ b e
theorem Bd.QG{x:Option V}{ys:St}{ss:List Sl}(e:ys.length=ss.length)(b:Bd c Y H Z (x::(ys++B)) (s::(ss++θ))):Bd c Y H Z (ys++x::B) (ss++s::θ):=by
 obtain⟨L,b⟩:=b;have r:aA c.toKx (c.g H L) H (x::(ys++(B++Y))) (s::(ss++(θ++Z))) L:=by have:=b.rel;simpa[QZ] using this
 cases r with
 |cons h r=>
  rename_i C L2;obtain⟨X,v,F,k,n⟩:=aA.split e r;subst F;have pm:(C++(X++v)).Perm (X++(C++v)):=by rw[<-QZ,<-QZ];exact Sw.append_right v
  refine⟨X++(C++v),(pm.nodup_iff).mp b.nd,?_,λp hp=>b.own p (pm.mem_iff.mpr hp),b.fr,b.kp,by have:=b.lt;simp[e] at this ⊢;lia,b.hd⟩;have N:c.g H (X++(C++v))=c.g H (C++(X++v)):=Dk λa=>pm.mem_iff.symm;rw[N];have:=k.app (aA.cons h n);simpa[QZ] using this
end
variable{K:Kx}{cs:List Str}{f x mn:Str}{e:Expr}{m mo:Mi Rr}{pos px:Pos}{i:Nat}{Z O:List Sl}{o:Except Str Rr}{ma:Mi (List Rr)}{C:Addr}
section
variable{X:Cx}{E:XK}
def aZ(cs:List Str)(f:Str):A->Option Rr
 | .obj c fs=>if cs.contains c then (match fs.lookup f with
  |some a=>some (.fr a)
  | none=>none) else none
 |_=>none
def FU(K:QU)(f:Str):V->Hp->VK->Prop:=λx e Q=>∃a C dx fs v,x=.ref a/\e a=some (.ins C dx fs)/\k6 K C/\dr K C f/\fs.lookup f=some v/\Q v e
theorem Fm(hc:∀c C,cs.contains c=true->K.mg c=some (.ref C)->k6 K.K C/\dr K.K C f):lg K (FU K.K f) (aZ cs f):=by
 intro c Y H Z B θ x v a q Q r t o F V k;cases a<;>first|(cases V;done)|skip
 rename_i cn fs;unfold aZ at V;simp only at V;split at V
 .rename_i h;cases A:fs.lookup f with
  |none=>simp only[A] at V;cases V
  |some w=>
   simp only[A] at V;cases V;obtain⟨L,p,C,dx,vs,bl,rfl,h2,h3,h4⟩:=Bd.GV o t F;subst r;obtain⟨N,D⟩:=hc cn C h h3;rcases h4.get f with ⟨u,a,X,b,m⟩|⟨_,b⟩
   .rw[A] at b;cases b;exact⟨p,C,dx,vs,u,rfl,h2,N,D,X,k u H trivial (bl.push m)⟩
   .rw[A] at b;cases b
 .cases V
theorem wa(hc:∀c C,cs.contains c=true->X.mg c=some (.ref C)->k6 X.K C/\dr X.K C f)(R:JE X E e m)(d:attributeBase e f X.env (eval e X.env)=eval e X.env):JE X E (.Attribute e f pos) (eU (aZ cs f) m):=
 ⟨PE.weaken (uz R.p d) λY H Q h=>jW (r:=FU X.K f) (Fm hc) Y H Q h⟩
def gq(cs:List Str)(i:Nat)(f:Str)(m:Mi Rr):Ms:=c7 m λr Z=>match bA r Z with
 |some (a,U)=>match aE U i with
  |some (.obj c fs)=>if cs.contains c&&Ti fs.length 900 then some (.nx,setAt U i (.obj c (oO f a fs))) else none
  |_=>none
 |none=>none
theorem DU{I:Pos}(V:X.N[i]?=some x)(t:nY X.env.scope x)(hd:gP x)(J:p4 x)(hc:∀c C,cs.contains c=true->X.mg c=some (.ref C)->k6 X.K C/\dr X.K C f)(R:JE X E e m)
  (u:swapsWith e (some (.Attribute (.Name x px) f I)) pos.line X.env=pure false):JS X E (.Assign [.Attribute (.Name x px) f I] e pos) (gq cs i f m):=
 ⟨PS.weaken (Bs (cD V t hd J) R.p u) λD Y H h=>by
  obtain⟨c,Z,B,θ,fl,O,s,b,em,q⟩:=h;refine fN s b em q λr v U y t b1 G=>?_;cases F:bA r U with
  |none=>simp only[F] at G;cases G
  |some d=>
   obtain⟨a,Z'⟩:=d;simp only[F] at G;have b2:=Bd.bA (xs:=[]) (ss:=[]) rfl b1 t F;cases j:aE Z' i with
   |none=>simp only[j] at G;cases G
   |some lo=>
    cases lo with
    |lst _=>simp only[j] at G;cases G
    |dic _=>simp only[j] at G;cases G
    |dit _=>simp only[j] at G;cases G
    |nob _ _ _=>simp only[j] at G;cases G
    |obj cn fs=>
     simp only[j] at G;split at G
     .rename_i T;rw[QR] at T;cases G;obtain⟨L,bl,w⟩:=Bd.rH b2;obtain⟨p,_,h1,h2,h3⟩:=bl.live j (.obj cn (oO f a fs)) (match y (match Y[i]? with|some (some (.ref p))=>p|_=>0) with|some (.ins C dx ws)=>.ins C dx (fS f v ws)|_=>.lst []);cases h2 with
      |obj A o z=>
       rename_i C dx ws;simp only[h1,A] at h3;have Q:X.mg cn=some (.ref C):=by have:=congrArg (λk:Kx=>k.mg cn) s;simp only at this;rw[<-this];exact o
       obtain⟨S,g⟩:=hc cn C T.1 Q;exact⟨_,h1,p,C,dx,ws,rfl,A,S,g,by have:=z.len;have:=R3 T.2;lia,q Y _ (h3 λH' P=>.obj P o (z.put w))⟩
     .cases G⟩
def bg(cn m:Str)(mo:Mi Rr):Mi Rr:=aV mo λr Z=>match res Z r with
 |some (.obj c fs)=>if c==cn&&(fs.lookup m).isNone then some (.ok r,Z) else none
 |_=>none
theorem pF{m:Str}{r':Rr}(h:(match res Z r with|some (.obj c fs)=>if c==cn&&(fs.lookup m).isNone then some ((.ok r:Except Str Rr),Z) else none|_=>none)=some (o,O)):∃fs,res Z r=some (.obj cn fs)/\fs.lookup m=none/\o=.ok r/\O=Z:=by
 split at h
 .rename_i c fs e;split at h
  .rename_i hc;rw[QR,beq_iff_eq,RS] at hc;cases h;exact⟨fs,by rw[e,hc.1],hc.2,rfl,rfl⟩
  .cases h
 .cases h
inductive Iw(cn mn:Str)(mo:Mi Rr)(ma:Mi (List Rr))(Z:List Sl)(x:Except Str (List Rr))(U:List Sl):Prop
 |ok{r:Rr}{rs:List Rr}{Z':List Sl}{fs:List (Str×A)}(e:mo Z=some (.ok r,Z'))(g:res Z' r=some (.obj cn fs))(l:fs.lookup mn=none)(a:ma Z'=some (.ok rs,U))(q:x=.ok (r::rs))
 |err{y:Str}(e:mo Z=some (.error y,U))(q:x=.error y)
 |bad{r:Rr}{Z':List Sl}{fs:List (Str×A)}{y:Str}(e:mo Z=some (.ok r,Z'))(g:res Z' r=some (.obj cn fs))(l:fs.lookup mn=none)(a:ma Z'=some (.error y,U))(q:x=.error y)
theorem sx{U:List Sl}{x:Except Str (List Rr)}(h:aJ (bg cn mn mo) ma Z=some (x,U)):Iw cn mn mo ma Z x U:=by
 rcases bind_some h with ⟨r,Z',Q,R⟩|⟨y,Q,R⟩
 .rcases bind_some Q with ⟨v,F,I,q⟩|⟨_,_,q⟩
  .obtain⟨fs,H,b,m,p⟩:=pF (r':=v) q;cases m;subst p;rcases bind_some R with ⟨rs,T,a,Y⟩|⟨y,a,Y⟩
   .cases Y;exact .ok I H b a rfl
   .exact .bad I H b a Y
  .cases q
 .rcases bind_some Q with ⟨v,F,I,q⟩|⟨z,I,q⟩
  .obtain⟨fs,H,b,m,p⟩:=pF (r':=v) q;cases m
  .cases q;exact .err I R
theorem pP{m:Ms}{n:Nat}{das:List A}{dvs:List V}(hd:∀G,bS (kx X) G dvs das)(N:X.mg cn=some (.ref C))(hn:∀Z rs O,ma Z=some (.ok rs,O)->rs.length+1+das.length=n)(Y:St)(H:Hp)(Q:VK)(h:gS (kx X) E (bq m das (aJ (bg cn mn mo) ma)) Y H Q):
  vE C mn (iW (kx X) n m) dvs E (gS (kx X) E mo) (NS (kx X) E ma) Y H Q:=by
 obtain⟨c,Z,B,θ,o,O,s,b,em,q⟩:=h;have w:∀{r:Rr}{Z':List Sl}{fs:List (Str×A)}{v:V}{y:Hp},res Z' r=some (.obj cn fs)->fs.lookup mn=none->VR Y r v->Bd c Y y Z' (cu r v B) (cv r θ)->∃p dx vs,v=.ref p/\y p=some (.ins C dx vs)/\vs.lookup mn=none:=λa D t b1=>by
  obtain⟨L,p,J,dx,vs,bl,rfl,h2,h3,h4⟩:=Bd.GV b1 t a;have T:X.mg cn=some (.ref J):=by have:=congrArg (λk:Kx=>k.mg cn) s;simp only at this;rw[<-this];exact h3
  rw[N] at T;cases T;refine⟨p,dx,vs,rfl,h2,?_⟩;rcases h4.get mn with ⟨_,_,_,z,_⟩|⟨z,_⟩
  .rw[D] at z;cases z
  .exact z
 have fin:∀e,o=.error e->∀C H,X.mg e=some (.ref C)->Bd c Y H O B θ->E (.ref C) none H:=bj q;rcases bind_some em with ⟨rs,U,F,j⟩|⟨e,F,j⟩
 .cases sx F with
  |@ok r rs' Z' fs I a D K eq=>cases eq;refine⟨c,Z,B,θ,_,_,s,b,I,λv y t b1=>?_⟩;obtain⟨p,dx,vs,rfl,h2,hl⟩:=w a D t b1;refine⟨p,dx,vs,rfl,h2,hl,c,_,_,_,_,_,s,b1,K,λws u i b2=>?_⟩;refine kB (rs:=r::rs') (vs:=.ref p::ws) hd s ?_ ⟨t,i⟩ b2 j (λr R v H' t b=>by subst R;exact q v H' t b) (λx S=>by subst S;exact q);rw[SH,Q6,Rc,<-i.len,<-hn _ _ _ K,(hd λ_=>none).len];lia
  |err _ eq=>cases eq
  |bad _ _ _ _ eq=>cases eq
 .cases sx F with
  |ok _ _ _ _ eq=>cases eq
  |err I eq=>cases eq;exact⟨c,Z,B,θ,_,_,s,b,I,λC y hm b1=>fin _ j C y hm b1⟩
  |bad I a D K eq=>cases eq;refine⟨c,Z,B,θ,_,_,s,b,I,λv y t b1=>?_⟩;obtain⟨p,dx,vs,rfl,h2,hl⟩:=w a D t b1;exact⟨p,dx,vs,rfl,h2,hl,c,_,_,_,_,_,s,b1,K,λC u hm b2=>fin _ j C u hm b2.drop⟩
end
variable{apos:Pos}
theorem iV{o:Expr}{m:Str}{args:List Expr}{env:Env}(H:attributeBase o m env (eval o env)=eval o env)
  (Z:methodCallForm (args.length+([]:List Keyword).length) (backTo pos (starEach args env)) (backToKw pos (keywordEach [] env))=true)(h:(apos.endLine==pos.line)=true):
  eval (.Call (.Attribute o m apos) args [] pos) env=(do
   let ov <- eval o env
   standAt apos.atName
   let (f,first) <- holding [ov] (getMethod ov m (do return (<- importBound o env).getD true))
   callWith pos f first (backTo pos (starEach args env)) (backToKw pos (keywordEach [] env))):=by
 rw[arm_eval_Call,H];unfold methodCall calleeOf methodCallPos;rw[Z,h];rfl
variable{H:Hp}{Q:VK}
section
variable{X:Cx}{E:XK}{CX:qY}{k n:Nat}{f C:Addr}{fd:FuncData}{ps:List Str}{m:Ms}{das:List A}{dvs:List V}{ds:List Value}{cn mn:Str}{apos pos:Pos}{o e:Expr}{es:List Expr}{mo:Mi Rr}{ma:Mi (List Rr)}
theorem Dv(T:X.mg cn=some (.ref C))(hc:k6 X.K C)(hm:Meth X.K C mn f)(F:dg X.prog X.w X.K X.mg X.base CX k f fd ps (iW (kx X) n m))(y:cP k X.A)(d:Binds X.K fd ps ds)(hd:Vals dvs ds)(a:∀G,bS (kx X) G dvs das)(q:Passes CX X E)
  (i:JE X E o mo)(ha:JA X E (e::es) ma)(hn:∀Z rs O,ma Z=some (.ok rs,O)->rs.length+1+das.length=n)(H:attributeBase o mn X.env (eval o X.env)=eval o X.env)
  (Y:methodCallForm ((e::es).length+([]:List Keyword).length) (backTo pos (starEach (e::es) X.env)) (backToKw pos (keywordEach [] X.env))=true)(h:(apos.endLine==pos.line)=true)
  (v:starEach (e::es) X.env=(false,eval e X.env)::starEach es X.env)(J:(backTo pos (starEach es X.env)).any (·.1)=false):JE X E (.Call (.Attribute o mn apos) (e::es) [] pos) (bq m das (aJ (bg cn mn mo) ma)):=
 ⟨PE.weaken (vX i.p hc hm F y d hd q ha.p v J (iV H Y h)) (pP a T hn)⟩
theorem gS.mono{m:Mi Rr}{Y:St}{X:VK}(h:gS K E m Y H Q)(f:∀v H,Q v H->X v H):gS K E m Y H X:=by
 obtain⟨c,Z,B,θ,o,O,s,b,em,q⟩:=h;refine⟨c,Z,B,θ,o,O,s,b,em,?_⟩;cases o with
 |ok r=>exact λv H' t a=>f _ _ (q v H' t a)
 |error x=>exact q
theorem ym(T:X.mg cn=some (.ref C))(hc:k6 X.K C)(hm:Meth X.K C mn f)(F:dg X.prog X.w X.K X.mg X.base CX k f fd ps (iW (kx X) n m))(y:cP k X.A)(d:Binds X.K fd ps ds)(hd:Vals dvs ds)(D:∀G,bS (kx X) G dvs das)(S:Passes CX X E)
  (i:JE X E o mo)(hn:1+das.length=n)(x:attributeBase o mn X.env (eval o X.env)=eval o X.env)(U:(apos.endLine==pos.line)=true):JE X E (.Call (.Attribute o mn apos) [] [] pos) (bq m das (aJ (bg cn mn mo) c9)):=
 ⟨PE.weaken (rG i.p hc hm F y d hd S (iV x rfl U)) λY H Q h=>by
  have h1:=pP (X:=X) (E:=E) (C:=C) (n:=n) D T (ma:=c9) (λZ rs O q=>by cases q;rw[<-hn];simp) Y H Q h;refine gS.mono h1 λv e ⟨a,dx,fs,L,z,N,s⟩=>⟨a,dx,fs,L,z,N,?_⟩
  obtain⟨c,Z,B,θ,o,O,r,b,em,q⟩:=s;cases em;exact q [] e trivial b⟩
def fM(cn:Str)(f:Ms)(das:List A)(ma:Mi (List Rr)):Mi Rr:=aV ma λrs Z=>match cI (rs++das.map Rr.fr) Z with
 |some (as,S)=>match f (.pv (.obj cn [])::as.map sO) with
  |some (.rt (.fr .non),.pv o2::Y)=>match putL Z (rs++das.map Rr.fr) (au as.length Y) S with
   |some O=>some (.ok (.nw o2),O)
   |none=>none
  |some (.ex x,s::Y)=>match putL Z (rs++das.map Rr.fr) (au as.length Y) S with
   |some O=>some (.error x,O)
   |none=>none
  |_=>none
 |none=>none
theorem xB(n:Nat)(s:Sl)(Z:List Sl):∃t,au (n+1) (s::Z)=t::au n Z:=by cases s<;>exact⟨_,rfl⟩
inductive Jl(cn:Str)(f:Ms)(rs':List Rr)(Z:List Sl)(o:Except Str Rr)(O:List Sl):Prop
 |ok{as S Y:List Sl}{o2:LO}(t:cI rs' Z=some (as,S))(e:f (.pv (.obj cn [])::as.map sO)=some (.rt (.fr .non),.pv o2::Y))(p:putL Z rs' (au as.length Y) S=some O)(q:o=.ok (.nw o2))
 |err{as S Y:List Sl}{s:Sl}{x:Str}(t:cI rs' Z=some (as,S))(e:f (.pv (.obj cn [])::as.map sO)=some (.ex x,s::Y))(p:putL Z rs' (au as.length Y) S=some O)(q:o=.error x)
theorem zC{f:Ms}{rs':List Rr}{o:Except Str Rr} (h:(match cI rs' Z with
 |some (as,S)=>match f (.pv (.obj cn [])::as.map sO) with
  |some (.rt (.fr .non),.pv o2::Y)=>match putL Z rs' (au as.length Y) S with
   |some O=>some (.ok (.nw o2),O)
   |none=>none
  |some (.ex x,s::Y)=>match putL Z rs' (au as.length Y) S with
   |some O=>some (.error x,O)
   |none=>none
  |_=>none
 | none=>none:Option (Except Str Rr×List Sl))=some (o,O)):Jl cn f rs' Z o O:=by
 split at h
 .rename_i as S t;split at h
  .rename_i o2 Y e;split at h
   .rename_i p;cases h;exact .ok t e p rfl
   .cases h
  .rename_i x s Y e;split at h
   .rename_i p;cases h;exact .err t e p rfl
   .cases h
  .cases h
 .cases h
theorem wG(K:∀G,bS (kx X) G dvs das)(hC:X.mg cn=some (.ref C))(hn:∀Z rs O,ma Z=some (.ok rs,O)->rs.length+1+das.length=n)(Y:St)(H:Hp)(Q:VK)(h:gS (kx X) E (fM cn m das ma) Y H Q):
  Ga C (iW (kx X) n m) dvs E (NS (kx X) E ma) Y H Q:=by
 obtain⟨c,Z,B,θ,o,O,r,b,em,q⟩:=h;rcases bind_some em with ⟨rs,U,F,em⟩|⟨e,F,j⟩
 .refine⟨c,Z,B,θ,_,U,r,b,F,λvs y f b1 x dx hx i w=>?_⟩;have ld:das.length=dvs.length:=(K λ_=>none).len.symm;refine⟨by rw[Q6,Rc,<-f.len,<-hn _ _ _ F,ld];lia,?_⟩;have D:lQ Y (rs++das.map Rr.fr) (vs++dvs):=f.app (lQ.lR ld);have N:c.mg cn=some (.ref C):=by have:=congrArg (λk:Kx=>k.mg cn) r;simp only at this;rw[this];exact hC
  have kp:fZ c.σ0 Y U:=by obtain⟨L,b⟩:=b1;exact b.kp
  have pre:∀{as S:List Sl},cI (rs++das.map Rr.fr) U=some (as,S)->(vs++dvs).length=as.length/\Bd c Y (upd (upd y dx (.own x)) x (.ins C dx [])) S ((V.ref x::(vs++dvs)).reverse.map some++B) ((Sl.lv (.obj cn [])::as).reverse++θ):=λ{as S} j=>by obtain⟨b3,A⟩:=Bd.cI D (by rw[nS _ _ _ f.len,kW];exact Bd.tf (by rw[r];exact K) b1:Bd c Y y U (c6 (rs++das.map Rr.fr) (vs++dvs) B) (c5 (rs++das.map Rr.fr) θ)) j;obtain⟨L,b5⟩:=b3.new (o:=.own x) i;have b6:=b5.gZ (u:=.ins C dx []) (o:=.obj cn []) (by rw[aF w.symm];exact hx) λG H' sm q=>.obj q N .nil;have b7:=Bd.QG (ys:=(vs++dvs).reverse.map some) (ss:=as.reverse) (by simp only[QY,List.length_reverse];exact A) b6;exact⟨A,by simpa[QZ] using b7⟩
  cases zC em with
  |ok t R s eq=>obtain⟨A,g⟩:=pre t;obtain⟨P,I,l,d,k4,k5⟩:=Bd.enter (by rw[Q6,Q6,A]) g;refine⟨P,_,_,_,I.trans r,l,d,k4,R,λv H' hs T=>?_⟩;have rv:=Bd.top T (a:=.non) rfl;cases rv;refine⟨rfl,?_⟩;have p:=k5 H' _ _ _ (λs' J o z=>by rw[Q5.mp J] at z;exact hs o z) (cB _ _) T;rw[Q6,A] at p;rw[eq] at q;exact q (.ref x) H' trivial (Bd.qm (xs:=[some .non]) (ss:=[.fr .non]) rfl (Bd.putL kp D (by simpa[au,zU,QZ] using p) s))
  |err t R s eq=>obtain⟨A,g⟩:=pre t;obtain⟨P,I,l,d,k4,k5⟩:=Bd.enter (by rw[Q6,Q6,A]) g;refine⟨P,_,_,_,I.trans r,l,d,k4,R,λC' H' hm T=>?_⟩;have p:=k5 H' _ _ _ (λs' J=>by cases J) (cB _ _) T;rw[Q6,A] at p;obtain⟨t,ht⟩:=xB _ _ _;rw[ht] at p;rw[eq] at q;exact q C' H' hm (Bd.putL kp D (by simpa[QZ] using p) s).pop
 .subst j;exact⟨c,Z,B,θ,_,O,r,b,F,λC y hm b1=>q C y hm b1⟩
theorem DB{p:Pos}(l:Mk X.K C f)(F:dg X.prog X.w X.K X.mg X.base CX k f fd ps (iW (kx X) n m))(y:cP (k+1) X.A)(N:Gl X x)(T:X.mg x=some (.ref C))(d:Binds X.K fd ps ds)(hd:Vals dvs ds)(a:∀G,bS (kx X) G dvs das)(q:Passes CX X E)
  (ha:JA X E (e::es) ma)(hn:∀Z rs O,ma Z=some (.ok rs,O)->rs.length+1+das.length=n)(H:gP x)(R:starEach (e::es) X.env=(false,eval e X.env)::starEach es X.env)(J:(backTo pos (starEach es X.env)).any (·.1)=false):
  JE X E (.Call (.Name x p) (e::es) [] pos) (fM x m das ma):=
 ⟨PE.weaken (CW l F y N T d hd q ha.p H R J) (wG a T hn)⟩
noncomputable def aQ(m n:Mi Rr):Mi Rr:=λZ=>match m Z with
 |some x=>some x
 |none=>n Z
theorem nW{m n:Mi Rr}(h:JE X E e m)(h':JE X E e n):JE X E e (aQ m n):=⟨λpins s Y H Q I t=>by
 obtain⟨c,Z,B,θ,o,O,r,b,em,q⟩:=t;unfold aQ at em;cases F:m Z with
 |some x=>simp only[F] at em;cases em;exact h.p pins s Y H Q I ⟨c,Z,B,θ,o,O,r,b,F,q⟩
 | none=>simp only[F] at em;exact h'.p pins s Y H Q I ⟨c,Z,B,θ,o,O,r,b,em,q⟩⟩
end
noncomputable def pG(i j:Str):Bool:=!(RU j i 0 j.length 1).isEmpty
def jX(neg:Bool):A->A->Option Rr
 | .str i,.str j=>some (.fr (.bl (if neg then !(pG i j) else pG i j)))
 |_,_=>none
noncomputable def fR:List A->Option (List Bool)
 |[]=>some []
 | .bl b::r=>match fR r with
  |some bs=>some (b::bs)
  |none=>none
 |_=>none
theorem pS:∀{xs:List A}{bs:List Bool},fR xs=some bs->xs=bs.map A.bl
 |[],bs,h=>by cases h;rfl
 |a::r,bs,h=>by
  cases a<;>first|(cases h;done)|skip
  unfold fR at h;cases e:fR r with
  |none=>simp only[e] at h;cases h
  |some cs=>simp only[e] at h;cases h;rw[pS e];rfl
def eD(g:List Bool->Bool):A->Option Rr
 | .lst xs=>match fR xs with
  |some bs=>some (.fr (.bl (g bs)))
  |none=>none
 |_=>none
theorem sD{K:Kx}{G:Hp}:∀{bs:List Bool}{vs:List V},bS K G vs (bs.map A.bl)->vs=bs.map V.bl
 |[],vs,h=>by cases h;rfl
 |b::bs,vs,h=>by
  cases h with
  |cons h1 h2=>cases h1;rw[sD h2];rfl
theorem IP{g:List Bool->Bool}:lg K (λv=>M8 K.K g [v]) (eD g):=.scalar λH v a q B h=>by
 cases a<;>first|(cases h;done)|skip
 rename_i xs;unfold eD at h;simp only at h;cases e:fR xs with
 |none=>simp only[e] at h;cases h
 |some bs=>
  simp only[e] at h;cases h;have:=pS e;subst this;cases B with
  |lst X n=>exact⟨_,_,rfl,λ_=>.bl _,λQ k=>⟨_,_,bs,rfl,X,sD n,k⟩⟩
section
variable{X:Cx}{E:XK}{a b:Expr}{ma mb:Mi Rr}{pos:Pos}
theorem Br:gN K (λx y H Q=>∃i j,x=.str i/\y=.str j/\Q (.bl (!(RU j i 0 j.length 1).isEmpty)) H) (jX false):=.scalar λH v w a b q B n h=>by
 cases a<;>first|(cases h;done)|skip
 cases b<;>first|(cases h;done)|skip
 cases B;cases n;cases h;exact⟨_,_,rfl,λ_=>.bl _,λQ k=>⟨_,_,rfl,rfl,k⟩⟩
theorem uU:gN K (λx y H Q=>∃i j,x=.str i/\y=.str j/\Q (.bl (!(!(RU j i 0 j.length 1).isEmpty))) H) (jX true):=.scalar λH v w a b q B n h=>by
 cases a<;>first|(cases h;done)|skip
 cases b<;>first|(cases h;done)|skip
 cases B;cases n;cases h;exact⟨_,_,rfl,λ_=>.bl _,λQ k=>⟨_,_,rfl,rfl,k⟩⟩
theorem JV(f:X.A.units+1<cLine)(ha:JE X E a ma)(d:JE X E b mb)(hm:behindInMarks .In b=false):JE X E (.Compare a [.In] [b] pos) (aC (bU (bU (fX false) (eF false)) (jX false)) ma mb):=dC (Ob f ha d hm) (dF oZ Br ha d hm)
theorem Ig(f:X.A.units+1<cLine)(ha:JE X E a ma)(d:JE X E b mb)(hm:behindInMarks .In b=false):JT X E (.Compare a [.In] [b] pos) (ag (aC (bU (bU (fX false) (eF false)) (jX false)) ma mb)):=eM (Nb f ha d hm) (dG oZ Br ha d hm)
theorem DK(f:X.A.units+1<cLine)(ha:JE X E a ma)(d:JE X E b mb)(hm:behindInMarks .NotIn b=false):JE X E (.Compare a [.NotIn] [b] pos) (aC (bU (bU (fX true) (eF true)) (jX true)) ma mb):=dC (Ih f ha d hm) (dF jS uU ha d hm)
theorem E9(f:X.A.units+1<cLine)(ha:JE X E a ma)(d:JE X E b mb)(hm:behindInMarks .NotIn b=false):JT X E (.Compare a [.NotIn] [b] pos) (ag (aC (bU (bU (fX true) (eF true)) (jX true)) ma mb)):=eM (HD f ha d hm) (dG jS uU ha d hm)
theorem zt:bootBuiltins "all" = some (.builtin "all"):=by decide +kernel
end
mutual
def lf:A->Bool
 | .tup xs=>K4 xs
 | .lst _=>false
 | .dic _=>false
 | .obj _ fs=>Od fs
 |_=>true
def K4:List A->Bool
 |[]=>true
 |a::r=>lf a&&K4 r
def Od:List (Str×A)->Bool
 |[]=>true
 |(_,a)::r=>lf a&&Od r
end
def Ot:List (Key×A)->Bool
 |[]=>true
 |(_,a)::r=>lf a&&Ot r
def KW:LO->Bool
 | .lst xs=>K4 xs
 | .dic kvs=>Ot kvs
 | .obj _ fs=>Od fs
 | .dit _=>false
 | .nob _ _ _=>false
def GF:Sl->Bool
 | .fr a=>lf a
 | .lv o=>KW o
 | .pv o=>KW o
 | .un=>true
def Lq(G G':Hp):Prop:=∀a u,G a=some u->(∀ws,u≠.lst ws)->G' a=some u
variable{vs:List V}
section
variable{k:Kx}{G G' H:Hp}(s:Lq G G')
theorem KC{p:Addr}(s:Lq G G')(q:gv k.K G p vs):gv k.K G' p vs:=q.imp (λr=>by
 rcases r with r|⟨o,r⟩
 .exact .inl (s _ _ r λws z=>by cases z)
 .exact .inr ⟨o,s _ _ r λws z=>by cases z⟩) id
mutual
theorem RA.lf(s:Lq G G'):∀{v:V}{a:A},RA k G v a->M.lf a=true->RA k G' v a
 |_,_,.non,_=>.non
 |_,_,.bl b,_=>.bl b
 |_,_,.int i,_=>.int i
 |_,_,.str x,_=>.str x
 |_,_,.tup e r,h=>.tup (KC s e) (bS.lf s r (by rw[M.lf] at h;exact h))
 |_,_,.lst e r,h=>by rw[M.lf] at h;cases h
 |_,_,.dic e r,h=>by rw[M.lf] at h;cases h
 |_,_,.exc e m,h=>.exc (s _ _ e λws z=>by cases z) m
 |_,_,.obj e m r,h=>.obj (s _ _ e λws z=>by cases z) m (iZ.lf s r (by rw[M.lf] at h;exact h))
 |_,_,.opq,_=>.opq
theorem iZ.lf(s:Lq G G'):∀{vs:List (Str×V)}{as:List (Str×A)},iZ k G vs as->Od as=true->iZ k G' vs as
 |_,_,.nil,_=>.nil
 |_,_,.cons h r,e=>by rw[Od,QR] at e;exact .cons (RA.lf s h e.1) (iZ.lf s r e.2)
theorem bS.lf(s:Lq G G'):∀{vs:List V}{as:List A},bS k G vs as->K4 as=true->bS k G' vs as
 |_,_,.nil,_=>.nil
 |_,_,.cons h r,e=>by rw[K4,QR] at e;exact .cons (RA.lf s h e.1) (bS.lf s r e.2)
end
theorem fC.lf(s:Lq G G'):∀{vs:List (Key×V)}{as:List (Key×A)},fC k G vs as->Ot as=true->fC k G' vs as
 |_,_,.nil,_=>.nil
 |_,_,.cons h r,e=>by rw[Ot,QR] at e;exact .cons (RA.lf s h e.1) (fC.lf s r e.2)
theorem LR.lf{p:Addr}{o:LO}{q:List Addr}(s:Lq G G')(h:LR k G H p o q)(e:KW o=true):LR k G' H p o q:=by
 cases h with
 |nob=>cases e
 |lst x r=>exact .lst x (r.lf s e)
 |dic x r=>exact .dic x (r.lf s e)
 |obj x m r=>exact .obj x m (r.lf s e)
 |dit x r=>cases e
theorem dR.lf{x:Option V}{t:Sl}{L:List Addr}(s:Lq G G')(h:dR k G H x t L)(e:GF t=true):dR k G' H x t L:=by
 cases h with
 |un=>exact .un _
 |fr h=>exact .fr (h.lf s e)
 |lv h=>exact .lv (h.lf s e)
 |pv h=>exact .pv (h.lf s e)
theorem aA.pick:∀{Y:St}{Z:List Sl}{L:List Addr}{j:Nat}{t:Sl},aA k G H Y Z L->Z[j]?=some t->∃x v b L2,Y[j]?=some x/\L=v++(b++L2)/\dR k G H x t b /\
  ∀{G':Hp}{t':Sl}{L':List Addr},(∀{x:Option V}{t:Sl}{L:List Addr},t∈Z->dR k G H x t L->dR k G' H x t L)->dR k G' H x t' L'->aA k G' H Y (Z.set j t') (v++(L'++L2))
 |_,_,_,j,t,.nil,e=>by simp at e
 |x::Y,u::Z,_,0,t,.cons (L:=La) (L':=Lb) h r,e=>by
  cases e;refine⟨x,[],La,Lb,rfl,rfl,h,λ{G2 i T} f h'=>?_⟩;rw[SN];have:∀{Y:St}{O:List Sl}{L:List Addr},(∀t∈O,t∈u::Z)->aA k G H Y O L->aA k G2 H Y O L:=by
   intro Y O L hm r;induction r with
   |nil=>exact .nil
   |cons h r l=>exact .cons (f (hm _ Rb) h) (l λt ht=>hm t (Q4 _ ht))
  exact .cons h' (this (λt ht=>Q4 _ ht) r)
 |x::Y,u::Z,_,j+1,t,.cons (L:=La) (L':=Lb) h r,e=>by obtain⟨y,v,b,L2,h1,h2,h3,h4⟩:=aA.pick r (j:=j) (by simpa using e);refine⟨y,La++v,b,L2,by simpa using h1,by rw[h2,QZ],h3,λf h'=>?_⟩;have:=h4 (λm=>f (Q4 _ m)) h';rw[QZ];exact .cons (f Rb h) this
end
noncomputable def kG:Option Sl->Bool
 |some .un=>true
 |_=>false
theorem lX{o:Option Sl}(h:kG o=true):o=some .un:=by
 cases o with
 |none=>cases h
 |some s=>cases s<;>first|rfl|cases h
def eV(j:Nat)(m:Ms):Ms:=λZ=>match Z[j]? with
 |some (.pv (.lst xs))=>match m (Z.set j (.fr (.lst xs))) with
  |some (.rt s,T)=>if kG (au Z.length T)[j]?&&(s::au Z.length T).all GF then some (.rt s,(au Z.length T).set j (.pv (.lst xs))) else none
  |some (.ex x,T)=>if kG (au Z.length T)[j]?&&(au Z.length T).all GF then some (.ex x,(au Z.length T).set j (.pv (.lst xs))) else none
  |_=>none
 |_=>m Z
theorem fk:∀{n j:Nat}{Z:List Sl}{o:LO},au n ((au n Z).set j (.pv o))=(au n Z).set j (.pv o)
 |0,_,_,_=>rfl
 |n+1,0,Z,o=>by
  have:∀Z:List Sl,au n (au n Z)=au n Z:=λZ=>backL_idem n Z;cases Z with
  |nil=>show au (n+1) (.pv o::au n [])=.pv o::au n [];rw[au,this]
  |cons s Z=>cases s<;>(show au (n+1) (.pv o::au n Z)=.pv o::au n Z;rw[au,this])
 |n+1,j+1,Z,o=>by
  cases Z with
  |nil=>show au (n+1) (.un::(au n []).set j (.pv o))=.un::(au n []).set j (.pv o);rw[au,fk];intro o z;cases z
  |cons s Z=>cases s<;>first
   |(show au (n+1) (.un::(au n Z).set j (.pv o))=.un::(au n Z).set j (.pv o);rw[au,fk];intro o z;cases z)
   |(show au (n+1) (.pv _::(au n Z).set j (.pv o))=.pv _::(au n Z).set j (.pv o);rw[au,fk])
where backL_idem:∀(n:Nat)(Z:List Sl),au n (au n Z)=au n Z
 |0,_=>rfl
 |n+1,[]=>by show au (n+1) (.un::au n [])=.un::au n [];rw[au,backL_idem];intro o z;cases z
 |n+1,s::Z=>by cases s<;>first
   |(show au (n+1) (.un::au n Z)=.un::au n Z;rw[au,backL_idem];intro o z;cases z)
   |(show au (n+1) (.pv _::au n Z)=.pv _::au n Z;rw[au,backL_idem])
variable{E:XK}
theorem iW.lend{n j:Nat}{m:Ms}(h:iW K n (eV j m) vs H Q E):iW K n m vs H Q E:=by
 obtain⟨hn,c,Z,f,O,F,es,A,b,em,q⟩:=h;unfold eV at em;split at em
 .rename_i xs ej;have rel:aA c.toKx (c.g H c.Lp) H (vs.map some) Z c.Lp:=b.rel;obtain⟨x,X,Lj,L2,x1,x2,x3,x4⟩:=rel.pick ej;cases x3 with
  |pv lr=>
   rename_i p _;cases lr with
   |lst ep d=>
    rename_i ws;have nd:=b.nd;rw[x2] at nd;have S:(X++L2).Nodup:=nd.sublist (Sv (Sn _) (SJ _ _));have np:p∉X++L2:=λy=>by have pm:(X++([p]++L2)).Perm (p::(X++L2)):=TF;exact(Ry.mp ((pm.nodup_iff).mp nd)).1 y
    have sub:∀a,a∈X++L2->a∈c.Lp:=λa ha=>by
     rw[x2];rcases QW.mp ha with z|z
     .exact QX _ z
     .exact QV _ (QV _ z)
    have pin:p∈c.Lp:=by rw[x2];exact QV _ (QX _ Rb)
    have hin:∀a,a∈c.Lp->a=p\/a∈X++L2:=λa ha=>by
     rw[x2] at ha;rcases QW.mp ha with z|z
     .exact .inr (QX _ z)
     .rcases QW.mp z with z|z
      .exact .inl (Q5.mp z)
      .exact .inr (QV _ z)
    have xj:p∉c.Hd:=b.xj pin
    let c2:Cn:={ c with Lp:=X++L2 }
    have Y:Z.length=vs.length:=by have:=rel.len;simpa using this.symm
    have b2:fF c2 (vs.map some) H (Z.set j (.fr (.lst xs))) [] [] c2.Lp:=by refine⟨S,?_,λa ha=>.inl ha,⟨λa o e=>⟨o,by rw[<-A];exact e,λ_ _=>rfl⟩,λw r=>b.fr.pk w r⟩,λi o _=>by rw[es],rfl,λa ha=>⟨(b.hd a ha).1,λy=>(b.hd a ha).2 (sub a y)⟩⟩;have sm:Sq (c.g H c.Lp) (c.g H (X++L2)):=c0 sub;have:aA c.toKx (c.g H (X++L2)) H (vs.map some) (Z.set j (.fr (.lst xs))) (X++([]++L2)):=x4 (λ_ h=>h.sm sm (λ_ _ _ e=>e)) (.fr (.lst (.inl (.inl (by rw[br np xj];exact ep))) (d.sm sm)));exact this
    have L:∀(H':Hp)(β:List Sl)(B:St)(θ:List Sl),B.length=θ.length->β[j]?=some .un->(θ++β).all GF=true->Bd c2 (vs.map some) H' β B θ->Bd c (vs.map some) H' (β.set j (.pv (.lst xs))) B θ:=by
     intro H' β B θ lt N R U;obtain⟨L',U⟩:=U;have J:H p=some (.lst ws):=ep;have P:∀w,(p,w)∉c.Wk:=λw r=>by obtain⟨h1,⟨ob,us,h2⟩,_⟩:=b.fr.pk _ r;simp only at h1 h2;rw[J,h2] at h1;cases h1
     have D:H' p=some (.lst ws):=by obtain⟨u,h1,h2⟩:=U.fr.st p (.lst ws) (by show c.H0 p=_;rw[A];exact J);rw[h1,h2 np P]
     have I:p∉L':=λy=>by
      rcases U.own p y with z|z
      .exact np z
      .have z:c.H0 p=none:=z;rw[A,J] at z;cases z
     have jj:(θ++β)[θ.length+j]?=some .un:=by rw[Rx (So _ _),R6];exact N
     obtain⟨y,M1,Mj,M2,y1,y2,y3,y4⟩:=aA.pick U.rel jj;cases y3 with
     |un=>
      have yx:y=some (.ref p):=by rw[<-lt,Rx (So _ _),R6,x1] at y1;exact(Q9 y1).symm
      subst yx;have k:L'=M1++M2:=y2;have V:∀a,a∈M1++([p]++M2)↔a=p\/a∈L':=λa=>by
       rw[k];simp only[QW,Q5];constructor
       .rintro(h|h|h)
        .exact .inr (.inl h)
        .exact .inl h
        .exact .inr (.inr h)
       .rintro(h|h|h)
        .exact .inr (.inl h)
        .exact .inl h
        .exact .inr (.inr h)
      have lq:Lq (c.g H' L') (c.g H' (M1++([p]++M2))):=λa u e nl=>by
       by_cases z:a∈L'\/a∈c.Hd
       .rw[f6 z] at e;cases e
       .rw[br (λy=>z (.inl y)) (λy=>z (.inr y))] at e;rw[br (λy=>?_) (λy=>z (.inr y))]
        .exact e
        .rcases(V a).mp y with w|w
         .subst w;rw[D] at e;exact nl ws (Q9 e).symm
         .exact z (.inl w)
      have sq:Sq (c.g H c.Lp) (c.g H' (M1++([p]++M2))):=λa u e=>by
       by_cases z:a∈c.Lp\/a∈c.Hd
       .rw[f6 z] at e;cases e
       .rw[br (λy=>z (.inl y)) (λy=>z (.inr y))] at e;obtain⟨u',h1,h2⟩:=U.fr.st a u (by show c.H0 a=_;rw[A];exact e);have hu:u'=u:=by
         by_cases r:∃w,(a,w)∈c.Wk
         .obtain⟨w,r⟩:=r;have G:=(b.fr.pk _ r).1;have l:=(U.fr.pk _ r).1;simp only at G l;rw[e] at G;rw[h1] at l;rw[Q9 l,Q9 G]
         .exact h2 (λy=>z (.inl (sub a y))) λw y=>r ⟨w,y⟩
        subst hu;refine⟨u',?_,.inl rfl⟩;rw[br (λy=>?_) (λy=>z (.inr y))]
        .exact h1
        .rcases(V a).mp y with w|w
         .subst w;exact z (.inl pin)
         .rcases U.own a w with v|v
          .exact z (.inl (sub a v))
          .have v:c.H0 a=none:=v;rw[A,e] at v;cases v
      have cg:aA c.toKx (c.g H' (M1++([p]++M2))) H' (B++vs.map some) ((θ++β).set (θ.length+j) (.pv (.lst xs))) (M1++([p]++M2)):=
       y4 (λm h=>h.lf lq (RG.mp R _ m)) (.pv (.lst D (d.sm sq)))
      rw[T7 _ _ (So _ _),R6] at cg;refine⟨M1++([p]++M2),?_,cg,λa ha=>?_,⟨λa o e=>?_,λw r=>U.fr.pk w r⟩,λi o _=>by rw[es],lt,b.hd⟩
      .have pm:(M1++([p]++M2)).Perm (p::(M1++M2)):=TF;refine(pm.nodup_iff).mpr (Ry.mpr ⟨by rw[<-k];exact I,by rw[<-k];exact U.nd⟩)
      .rcases(V a).mp ha with w|w
       .subst w;exact .inl pin
       .rcases U.own a w with v|v
        .exact .inl (sub a v)
        .exact .inr v
      .obtain⟨u,h1,h2⟩:=U.fr.st a o e;exact⟨u,h1,λna nw=>h2 (λy=>na (sub a y)) nw⟩
    cases t:m (Z.set j (.fr (.lst xs))) with
    |none=>simp only[t] at em;cases em
    |some pr=>
     obtain⟨g,T⟩:=pr;simp only[t] at em;refine⟨hn,c2,_,g,T,F,es,A,b2,t,?_⟩;cases g with
     |nx=>cases em
     |bk=>cases em
     |ct=>cases em
     |rt s=>
      simp only at em;split at em
      .rename_i hc;cases em;intro v H' hs U;rw[QR] at hc;rw[Y] at hc q;simp only[fk] at q;exact q v H' hs (L H' _ _ _ rfl (lX hc.1) hc.2 U)
      .cases em
     |ex x=>
      simp only at em;split at em
      .rename_i hc;cases em;intro C H' hm U;rw[QR] at hc;rw[Y] at hc q;simp only[fk] at q;exact q C H' hm (L H' _ _ _ rfl (lX hc.1) hc.2 U)
      .cases em
 .exact⟨hn,c,Z,f,O,F,es,A,b,em,q⟩
theorem qB(l:Addr)(xs:Array Value)(n:Nat)(b:Addr)(ys:Array Value)(E:Nat)(F:Option Addr)(v:Array (Option Value))(h0:¬ (!xs.isEmpty&&SD (xs.size+ys.size))=true)(h1:xs.size<=sizeLine)(h2:xs.size+ys.size<=sizeLine+1):
  Meets (Builtin.«list.extend» ⟨[.ref l,.ref b],[]⟩) (λ_ R s=>s.heap.get? l=some { cls:=.type "list",data:=.seq xs n }/\s.heap.get? b=some { cls:=.type "list",dict:=F,data:=.seq ys E,slots:=v }/\R (.ok (.ret US)) { s with heap:=s.heap.update l (T1 λx=>x++ys),toks:=s.toks }):=
 .of_wp λprog w A R s h=>by
  obtain⟨hp,g,d,tk,os⟩:=s;obtain⟨hl,G,h⟩:=h;have z:=AutoSeq1.idx_int;have Z:=AutoSeq1.sub_tuple_tuple;have J:=AutoSeq1.sub_list_list;have L:=AutoSeq1.sub_tuple_list;have O:=AutoSeq1.sub_list_tuple;have H:(xs++ys).size<=sizeLine+1:=by rw[Array.size_append];exact h2
  wp_walk using (wpAny_updateSeq hl rfl (hz:=h1) (_hz':=H)),UR hl,UR G
  exact⟨_,rfl,h⟩
section
variable{X:Cx}{E:XK}
def A5(K:QU):V->List V->Hp->VK->Prop:=λx vs H Q=>∃l b xs zs,x=.ref l/\vs=[.ref b]/\H l=some (.lst xs)/\gu K H b zs/\xs.length+zs.length<=sizeLine/\Q .non (upd H l (.lst (xs++zs)))
theorem uF:Oh X "list.extend" (A5 X.K):=by
 intro pins s Y H x vs v us Q I A B h;obtain⟨l,b,xs,zs,rfl,rfl,a,U,hz,q⟩:=h;cases A;obtain⟨u,rfl,S⟩:=B.one;cases S;obtain⟨z,its,n,r,hl,e⟩:=I.Cv a;obtain⟨O,T,P,_⟩:=I.list U;obtain⟨⟨D,w,i,o⟩,E,j,Z,p,J⟩:=id P;simp only at Z J p;subst Z J p;have g:=T.length;have hsz:its.toArray.size+O.toArray.size<=sizeLine:=by rw[Q0,Q0];lia
 have m:¬ (!its.toArray.isEmpty&&SD (its.toArray.size+O.toArray.size))=true:=by rw[BP hsz,Tn];exact RE
 refine call_meets UX ⟨_,e,rfl⟩ PySem.F.entry_list_extend (PySem.F.args_list_extend_2 _ _)
  (qB l its.toArray n b O.toArray E _ _ m (by rw[Q0];lia) (by lia)) ⟨e,j,?_⟩
 refine⟨.non,_,I.EY (its':=its++O) a e (by simp) (r.append T) ?_,rfl,q⟩;rw[Rc];lia
def lW(i:Nat)(m:Mi Rr):Mi Rr:=aV m λr Z=>match bA r Z with
 |some (.lst zs,U)=>match aE U i with
  |some (.lst xs)=>if xs.length+zs.length<=100000 then some (.ok (.fr .non),setAt U i (.lst (xs++zs))) else none
  |_=>none
 |_=>none
theorem wU{cpos:Pos}(hN:X.N[i]?=some x)(hv:nY X.env.scope x)(hd:gP x)(hcd:p4 x)(he:JE X E e m)
  (hbase:attributeBase (.Name x px) "extend" X.env (eval (.Name x px) X.env)=eval (.Name x px) X.env:=by rfl)
  (hfew:((backTo cpos (starEach [e] X.env)).all (λx=>!x.1)&&(backToKw cpos (keywordEach [] X.env)).all (λx=>x.1.isSome)&&decide (([e]:List Expr).length+([]:List Keyword).length+(if ([]:List Keyword).isEmpty then 0 else 1)<30))=true:=by rfl)
  (hline:(apos.endLine==cpos.line)=true:=by rfl)(hs:starEach [e] X.env=(false,eval e X.env)::starEach [] X.env:=by rfl)(hplain:(backTo cpos (starEach [] X.env)).any (·.1)=false:=by rfl):
  JE X E (.Call (.Attribute (.Name x px) "extend" apos) [e] [] cpos) (eJ i (lW i m)):=
 ⟨PE.weaken (su Sh UX PySem.F.type_list_extend uF (cD hN hv hd hcd) (cq he.p dB hs) hbase hfew hline hs hplain) λY H Q h=>by
  obtain⟨c,Z,B,θ,o,O,ek,b,em,q⟩:=h;unfold eJ at em;split at em
  .rename_i hl;obtain⟨xs0,hl⟩:=ng hl;obtain⟨p,vs,hp,hH⟩:=fh b hl;refine⟨_,hp,.inl ⟨rfl,vs,.inl (.inl hH)⟩,?_⟩;refine bL ek b em (λr v U H1 hv b1 em1=>?_) (bj q);cases e1:bA r U with
   |none=>simp only[e1] at em1;cases em1
   |some pr=>
    obtain⟨a,Z'⟩:=pr;simp only[e1] at em1;have b2:=Bd.bA (xs:=[]) (ss:=[]) rfl b1 hv e1;cases a<;>first|(simp only at em1;cases em1;done)|skip
    rename_i zs;simp only at em1;cases e2:aE Z' i with
    |none=>simp only[e2] at em1;cases em1
    |some lo=>
     cases lo with
     |dic _=>simp only[e2] at em1;cases em1
     |dit _=>simp only[e2] at em1;cases em1
     |obj _ _=>simp only[e2] at em1;cases em1
     |nob _ _ _=>simp only[e2] at em1;cases em1
     |lst xs=>
      simp only[e2] at em1;split at em1
      .rename_i hx;cases em1;obtain⟨L,bl,ra⟩:=Bd.rH b2;cases ra with
       |lst se sr=>
       rename_i pb us;obtain⟨p',_,h1,h2,h3⟩:=bl.live e2 (.lst (xs++zs)) (.lst ((match H1 p with|some (.lst ws)=>ws|_=>[])++us));rw[hp] at h1;cases h1;cases h2 with
       |lst e rr=>rename_i ws;simp only[e] at h3;have eK:c.K=X.K:=congrArg Kx.K ek;have n1:=rr.len;have n2:=sr.len;refine⟨p,pb,ws,us,rfl,rfl,e,by rw[<-eK];exact mS (g_same _ _ _) se,by have:=tI;lia,q _ _ trivial (Bd.push (h3 λH' hh=>.lst hh (rr.app sr)) λ_=>.non)⟩
      .cases em1
  .cases em⟩
end
def dy(i:Nat)(G:Mg)(t:Mi Bool)(e:Mi Rr):Nat->Nat->List A->List Sl->Option (List A×List Sl)
 |0,_,_,_=>none
 |n+1,j,acc,Z=>match aE Z i with
  |some (.lst xs)=>match xs[j]? with
   |none=>some (acc,Z)
   |some a=>match G a Z with
    |none=>none
    |some U=>match t U with
     |some (.ok true,Z')=>match e Z' with
      |some (.ok r,F)=>match bA r F with
       |some (d,T)=>dy i G t e n (j+1) (acc++[d]) T
       |none=>none
      |_=>none
     |some (.ok false,Z')=>dy i G t e n (j+1) acc Z'
     |_=>none
  |_=>none
def cJ(n i:Nat)(G:Mg)(t:Mi Bool)(e:Mi Rr):Mi Rr:=λZ=>match dy i G t e 100001 0 [] (Z++Rl n .un) with
 |some (ys,O)=>some (.ok (.nw (.lst ys)),O.take Z.length)
 |none=>none
variable{G:Mg}{mt:Mi Bool}{me:Mi Rr}{lo:Nat}
section
variable{X:Cx}{E:XK}
theorem tq{n:Nat}(Y:St)(H:Hp)(Q:VK)(l:Y.length=lo)(hi:i<lo)(h:gS (kx X) E (cJ n i G mt me) Y H Q):
  vt n (GQ X.K (Ew i)) (N5 (kx X) lo G) (vG (kx X) qX mt) (gS (kx X) qX me) Y H Q:=by
 obtain⟨c,Z,B,θ,o,O,g,b,em,q⟩:=h;unfold cJ at em;cases P:dy i G mt me 100001 0 [] (Z++Rl n .un) with
 |none=>simp only[P] at em;cases em
 |some p=>
  obtain⟨ys,Z'⟩:=p;simp only[P] at em;cases em;have z:Y.length=Z.length:=b.i6;have eK:c.K=X.K:=congrArg Kx.K g;have b0:=b.FR (n:=n);have f:∀{Z0:St},Z0.take lo=Y->Z0[i]?=Y[i]?:=λ{Z0} h=>by rw[<-h,Tv hi]
  have t:∃xs,aE (Z++Rl n .un) i=some (.lst xs):=by
   unfold dy at P;cases D:aE (Z++Rl n .un) i with
   |none=>simp only[D] at P;cases P
   |some lo=>cases lo with
    |lst xs=>exact⟨xs,rfl⟩
    |dic _=>simp only[D] at P;cases P
    |dit _=>simp only[D] at P;cases P
    |obj _ _=>simp only[D] at P;cases P
    |nob _ _ _=>simp only[D] at P;cases P
  obtain⟨xs0,t⟩:=t;obtain⟨p,vs0,w,hH0⟩:=fh b0 t;have hp:Y[i]?=some (some (.ref p)):=by rw[RF (by lia)] at w;exact w
  refine⟨.ref p,hp,p,rfl,⟨vs0,.inl (.inl hH0)⟩,?_⟩;refine⟨λj m Z0 vs H'=>Z0.take lo=Y/\m+j<=100001/\∃S acc,vs.length=acc.length/\acc.length<=j/\Bd c Z0 H' S (vs.reverse.map some++B) (acc.reverse.map Sl.fr++θ)/\dy i G mt me m j acc S=some (ys,Z'),
   ⟨100001,by rw[<-l,U3],Rf _,_,[],rfl,R1 _,b0,P⟩,?_⟩
  rintro j m Z0 vs H' ⟨htk,hm,S,acc,lv,la,bi,U⟩;cases m with
  |zero=>cases U
  |succ m=>
   refine⟨by have:=kz;lia,?_⟩;unfold dy at U;cases D:aE S i with
   |none=>simp only[D] at U;cases U
   |some lo'=>
    cases lo' with
    |dic _=>simp only[D] at U;cases U
    |dit _=>simp only[D] at U;cases U
    |obj _ _=>simp only[D] at U;cases U
    |nob _ _ _=>simp only[D] at U;cases U
    |lst as=>
     simp only[D] at U;have bi':=bi;obtain⟨L,bl⟩:=bi';obtain⟨p',_,h1,h2,hx2⟩:=bl.live D (.lst as) (.lst []);clear hx2;rw[f htk,hp] at h1;cases h1;cases h2 with
     |lst eH rr=>
     rename_i ws;cases C:as[j]? with
     |none=>
      simp only[C] at U;cases U;have hj:as.length<=j:=Va.mp C;refine .inl ⟨⟨ws,.inl (.inl eH),by rw[rr.len];exact hj⟩,λr hr=>?_⟩;have b7:=Bd.uL bi (by simp[lv]) hr vs ys mN;have es:Z0=Y++Z0.drop lo:=by rw[<-htk];exact(S8 _ _).symm
      rw[es] at b7;have b9:=b7.Nw;rw[z] at b9;exact q _ _ trivial b9
     |some a=>
      simp only[C] at U;obtain⟨x0,s,ra0⟩:=rr.ta C;refine .inr ⟨⟨ws,x0,.inl (.inl eH),s⟩,λR u H2=>R.take lo=Y/\∃F A,u.length=A.length/\A.length<=j+1/\Bd c R H2 F (u.reverse.map some++B) (A.reverse.map Sl.fr++θ)/\dy i G mt me m (j+1) A F=some (ys,Z'),
       λR u H2 ⟨q0,F,A,q1,q2,q3,q4⟩=>⟨m,by lia,q0,by lia,F,A,q1,q2,q3,q4⟩,λx H2 y=>?_⟩
      obtain⟨rfl,hy⟩:=y;have ex:=hy ws (.inl (.inl eH));rw[s] at ex;cases ex;have b2:=bl.push ra0;cases eg:G a S with
      |none=>simp only[eg] at U;cases U
      |some F=>
       simp only[eg] at U;refine⟨c,S,_,_,a,F,g,b2,eg,λV H3 t3 l3 b3=>?_⟩;cases I:mt F with
       |none=>simp only[I] at U;cases U
       |some p=>
        obtain⟨ot,T⟩:=p;cases ot with
        |error e=>simp only[I] at U;cases U
        |ok k=>
         refine⟨c,F,_,_,.ok k,T,g,b3,I,λH4 b4=>?_⟩;cases k with
         |false=>simp only[I] at U;rw[if_neg (by decide)];exact⟨t3.trans htk,T,acc,lv,by lia,b4,U⟩
         |true=>
          simp only[I] at U;rw[if_pos rfl];cases J:me T with
          |none=>simp only[J] at U;cases U
          |some p=>
           obtain⟨oe,N⟩:=p;cases oe with
           |error e=>simp only[J] at U;cases U
           |ok r=>
            simp only[J] at U;refine⟨c,T,_,_,.ok r,N,g,b4,J,λv H5 hv b5=>?_⟩;cases ef:bA r N with
            |none=>simp only[ef] at U;cases U
            |some p=>obtain⟨d,ρ6⟩:=p;simp only[ef] at U;have b6:=Bd.bA (xs:=[]) (ss:=[]) rfl b5 hv ef;exact⟨t3.trans htk,ρ6,acc++[d],by simp[lv],by simp;lia,by simpa using b6,U⟩
theorem Ci{N:List Str}{k:Nat}{sc:Scope}{tg Z:Expr}{ifs:List Expr}(hc:X.calm=true)(S:fP X.N N k sc X.env.scope)(l:X.N.length=lo)
  (z:X.N[i]?=some x)(t:nY X.env.scope x)(hd:gP x)(m:p4 x)
  (D:∀cl C s H fp,JG (iT X N sc cl C s H fp) lo tg G)(ht:∀cl C s H fp,JF (iT X N sc cl C s H fp) qX ifs mt)(R:∀cl C s H fp,JE (iT X N sc cl C s H fp) qX Z me)(u:∀y,foldedSetIterable (.Name x px) X.env y=pure y):
  JE X E (.ListComp Z [⟨tg,.Name x px,ifs,0⟩] sc pos) (cJ k i G mt me):=
 ⟨λpins s Y H Q I h=>vy hc S (Dz (cD z t hd m)) (λcl C s H fp=>(D cl C s H fp).p) (λcl C s H fp=>(ht cl C s H fp).p) (λcl C s H fp=>(R cl C s H fp).p) u pins s Y H Q I (tq Y H Q (I.len.trans l) (by rw[<-l];exact(Q2.mp z).1) h)⟩
end
end M
set_option maxHeartbeats 4000000
set_option maxHeartbeats 1000000
set_option maxHeartbeats 4000000
set_option maxHeartbeats 1000000
set_option maxHeartbeats 4000000
namespace L2
open PySem PySem.Spec PyProof.Rows PySem.W
section
variable{prog:Program}{w:World}{A:Around}{E:Value->Shared->Prop}{s:Shared}
theorem set_same{a:Addr}{h h':Heap}{S:Key->Bool}{n:Nat}(x:h.SetOf (ba prog w) a S n)(e:∀o,h.get? a=some o->h'.get? a=some o):h'.SetOf (ba prog w) a S n:=let ⟨o,es,ep,t,ho,r⟩:=x;⟨o,es,ep,t,e _ ho,r⟩
end
end L2
set_option maxHeartbeats 1000000
namespace M
open PySem L2
section
variable{X:Cx}{E:XK}
theorem range_all(rs:List Bool):(Sg rs.length).all (λj=>rs.getD j true)=rs.all id:=by
 rw[T3,RG,RG];constructor
 .intro h x w;obtain⟨j,I,e⟩:=Ug w;have:=h j (SS.mpr I);rw[R0,Rg I,e] at this;exact this
 .intro h j I;have I:=SS.mp I;rw[R0,Rg I];exact h _ (Sk I)
variable{a b:Expr}{ma mb:Mi Rr}{pos:Pos}
end
end M
set_option maxHeartbeats 4000000
set_option maxHeartbeats 1000000
namespace M
open PySem L2
section
variable{X:Cx}{E:XK}
open PySem.Spec PyProof.Rows PySem.W in
end
open PySem.W (KasT kas_asc kas_desc kas_rev kas_tail3 kas_descPart kas_count kas_place kas_bin kas_sort)
open PyProof.Rows (mirror_perm bubble_perm bubble)
section
variable{X:Cx}{E:XK}
open PySem.Spec PyProof.Rows PySem.W in
end
section
open PySem PyProof.Rows PySem.W
structure Cc(f:Nat->Nat->Bool)(n:Nat) where
 prog:Program
 w:World
 A:Around
 E:Value->Shared->Prop
 D:SortKind
 it:Array Keyed
 s:Shared
 hc:∀i j (C:Bool->Shared->Prop),i<n->j<n->C (f i j) s->kas_cmp prog w A D it i j C s
structure Bm where
 p:Array Nat
 pend:Array (Nat×Nat×Nat)
 mg:Nat
variable{f:Nat->Nat->Bool}{n:Nat}{α β γ δ:Type}{Y Z0:Bm}
section
variable{m m2:Cc f n->StateT SortSt Sem α}{e:β->Cc f n->α}{e':δ->Cc f n->γ}{P P2:β->Bm->Prop}{P':δ->Bm->Prop}
def Lp(I D:β->Bm->Prop):ForInStep β->Bm->Prop
 | .yield b,Y=>I b Y
 | .done b,Y=>D b Y
end
variable{r:Nat->Nat}
noncomputable abbrev GS:=Option (Option Nat)×Nat×Nat
end
section
variable{X:Cx}{E:XK}{pins:List (Addr×Obj)}{Y:St}{H:Hp}{s:Shared}{a b:Addr}
open PySem.Spec PyProof.Rows PySem.W in
end
section
variable{X:Cx}{E:XK}
open PySem.Builtin PyProof.Rows PySem.W in
end
variable{us:List Value}{K:Kx}
section
variable{X:Cx}{E:XK}{pins:List (Addr×Obj)}{Y:St}{H:Hp}{s:Shared}
def KI(K:QU)(neg:Bool):R2:=λx y H Q=>∃p xs d ds,y=.ref p/\gu K H p xs/\Den K H x d/\fo K H xs ds/\(∀e∈ds,D.depth e<=40)/\Q (.bl (if neg then !(ds.any λe=>D.eq e d) else ds.any λe=>D.eq e d)) H
open Classical in
def eW(us:List Value)(ds:List D)(d:D)(w:Value):Bool:=(us.zip ds).any λp=>decide (p.1=w)&&D.eq p.2 d
theorem yB(I:Inv X pins Y H s){A:Around}{x:V}{d:D}{v:Value}(f:A.units+40<cLine)(w:Den X.K H x d)(o:RelV x v):∀{xs:List V}{us:List Value}{ds:List D},fo X.K H xs ds->Vals xs us->(∀e∈ds,D.depth e<=40)->
  ∀p∈us.zip ds,S6 A s p.1 v (D.eq p.2 d)
 |_,_,_,.nil,.nil,_,u,hm=>nomatch hm
 |_,_,_,.cons h t,.cons r q,hd,u,hm=>by
  rcases Ra.mp hm with rfl|hm
  .exact hJ I 40 f (hd _ Rb) h w r o
  .exact yB I f w o t q (λe R=>hd e (Q4 _ R)) u hm
theorem F0(I:Inv X pins Y H s){A:Around}{x:V}{d:D}{v:Value}(f:A.units+40<cLine)(w:Den X.K H x d)(o:RelV x v){xs:List V}{ds:List D}(h:fo X.K H xs ds)(r:Vals xs us)(hd:∀e∈ds,D.depth e<=40):
  ∀u∈us,S6 A s u v (eW us ds d u):=by
 intro u hm;have z:=yB I f w o h r hd;cases Z:eW us ds d u with
 |true=>obtain⟨p,hp,j⟩:=R9.mp Z;rw[QR,decide_eq_true_iff] at j;have:=z p hp;rw[j.1,j.2] at this;exact this
 |false=>
  obtain⟨i,hi,rfl⟩:=Ug hm;have hl:us.length=ds.length:=by rw[<-r.length,h.len]
  have hp:(us[i],ds[i]'(by lia))∈us.zip ds:=by rw[<-V6 (h:=by simp;lia)];exact Sk _
  have:=z _ hp;have hf:=Uy.mp Z _ hp;simp only[decide_true,Wu,Bool.not_eq_true] at hf;rw[hf] at this;exact this
theorem yP{ds:List D}{d:D}(hl:us.length=ds.length):us.any (eW us ds d)=ds.any λe=>D.eq e d:=by
 rw[T3,R9,R9];constructor
 .rintro⟨u,_,h⟩;obtain⟨p,hp,j⟩:=R9.mp h;rw[QR] at j;exact⟨p.2,(TY hp).2,j.2⟩
 .rintro⟨e,R,h⟩;obtain⟨i,hi,rfl⟩:=Ug R;have hp:(us[i]'(by lia),ds[i])∈us.zip ds:=by rw[<-V6 (h:=by simp;lia)];exact Sk _
  exact⟨us[i]'(by lia),Sk _,R9.mpr ⟨_,hp,by simp[h]⟩⟩
theorem yh(f:X.A.units+64<cLine):d0 X (compareOp .In) (KI X.K false):=by intro pins s Y H x y v u Q I o b h;obtain⟨p,xs,d,ds,rfl,j,dx,D,hd,q⟩:=h;cases b;obtain⟨its,r,pl,hz⟩:=I.list j;refine V0 (eW its ds d) pl.isList (λw t=>F0 I (by have:X.A.in1.units=X.A.units+1:=rfl;lia) dx o D r hd w (by simpa using t)) ⟨.bl _,H,I,rfl,?_⟩;rw[show its.toArray.any (eW its ds d)=its.any (eW its ds d) by simp,yP (by rw[<-r.length,D.len])];exact q
theorem o9(f:X.A.units+64<cLine):d0 X (compareOp .NotIn) (KI X.K true):=by intro pins s Y H x y v u Q I o b h;obtain⟨p,xs,d,ds,rfl,j,dx,D,hd,q⟩:=h;cases b;obtain⟨its,r,pl,hz⟩:=I.list j;refine VI (eW its ds d) pl.isList (λw t=>F0 I (by have:X.A.in1.units=X.A.units+1:=rfl;lia) dx o D r hd w (by simpa using t)) ⟨.bl _,H,I,rfl,?_⟩;rw[show its.toArray.any (eW its ds d)=its.any (eW its ds d) by simp,yP (by rw[<-r.length,D.len])];exact q
def eu(neg:Bool):A->A->Option Rr
 |x,.lst xs=>match toD x,jw xs with
  |some d,some ds=>if (ds.all λe=>decide (D.depth e<=40))=true then some (.fr (.bl (if neg then !(ds.any λe=>D.eq e d) else ds.any λe=>D.eq e d))) else none
  |_,_=>none
 |_,_=>none
theorem qJ{neg:Bool}:gN K (KI K.K neg) (eu neg):=.scalar λH v w a b q B n h=>by
 cases b<;>first|(cases h;done)|skip
 rename_i xs;cases n with
 |lst e r=>
  unfold eu at h;simp only at h;cases F:toD a with
  |none=>simp only[F] at h;cases h
  |some d=>cases j:jw xs with
   |none=>simp only[F,j] at h;cases h
   |some ds=>
    simp only[F,j] at h;split at h
    .rename_i hd;cases h;exact⟨_,_,rfl,λ_=>.bl _,λQ k=>⟨_,_,d,ds,rfl,e,kN B F,lN r j,λe p=>of_decide_eq_true (RG.mp hd e p),k⟩⟩
    .cases h
variable{a b:Expr}{ma mb:Mi Rr}{pos:Pos}
theorem G7(f:X.A.units+1<cLine)(h2:X.A.units+64<cLine)(ha:JE X E a ma)(d:JE X E b mb)(hm:behindInMarks .In b=false):JE X E (.Compare a [.In] [b] pos) (aC (bU (bU (bU (fX false) (eF false)) (jX false)) (eu false)) ma mb):=dC (JV f ha d hm) (dF (yh h2) qJ ha d hm)
theorem Hg(f:X.A.units+1<cLine)(h2:X.A.units+64<cLine)(ha:JE X E a ma)(d:JE X E b mb)(hm:behindInMarks .In b=false):JT X E (.Compare a [.In] [b] pos) (ag (aC (bU (bU (bU (fX false) (eF false)) (jX false)) (eu false)) ma mb)):=eM (Ig f ha d hm) (dG (yh h2) qJ ha d hm)
theorem D2(f:X.A.units+1<cLine)(h2:X.A.units+64<cLine)(ha:JE X E a ma)(d:JE X E b mb)(hm:behindInMarks .NotIn b=false):JE X E (.Compare a [.NotIn] [b] pos) (aC (bU (bU (bU (fX true) (eF true)) (jX true)) (eu true)) ma mb):=dC (DK f ha d hm) (dF (o9 h2) qJ ha d hm)
theorem FQ(f:X.A.units+1<cLine)(h2:X.A.units+64<cLine)(ha:JE X E a ma)(d:JE X E b mb)(hm:behindInMarks .NotIn b=false):JT X E (.Compare a [.NotIn] [b] pos) (ag (aC (bU (bU (bU (fX true) (eF true)) (jX true)) (eu true)) ma mb)):=eM (E9 f ha d hm) (dG (o9 h2) qJ ha d hm)
end
section
open PySem PyProof.Rows PySem.W
open SetTable in
noncomputable def aw(m:Nat)(p:Probe):Probe:=if p.more > 0 then { p with j:=p.j+1,more:=p.more-1 } else { p with j:=(leap m p.i p.perturb).1,more:=runEnd m (leap m p.i p.perturb).1-(leap m p.i p.perturb).1,i:=(leap m p.i p.perturb).1,perturb:=(leap m p.i p.perturb).2 }
open SetTable in
open SetTable in
def sp(m:Nat)(h:Int):Nat->Probe
 |0=>{ j:=bits h%(m+1),more:=runEnd m (bits h%(m+1))-bits h%(m+1),i:=bits h%(m+1),perturb:=bits h,dummy:=none }
 |n+1=>aw m (sp m h n)
open SetTable in
def nl(m:Nat)(h:Int)(N:Nat):Nat:=N+(sp m h N).more+1
end
section
open PySem.Spec PyProof.Rows PySem.W PySem.Calls
variable{X:Cx}{E:XK}
noncomputable def IX(z y:Str):Option Nat:=(RU z y 0 z.length 1).head?
def xt:V->List V->Hp->VK->Prop:=λx vs H Q=>∃(z y:Str)(i:Nat),x=.str z/\vs=[.str y]/\IX z y=some i/\Q (.int (i:Int)) H
theorem G9:Om X "str.index" xt:=by
 intro pins s Y H x vs v us Q I K B h;obtain⟨z,y,i,rfl,rfl,hi,q⟩:=h;obtain⟨t,rfl⟩:=K;obtain⟨u,rfl,T,rfl⟩:=vals1 B;cases e:RU z y 0 z.length 1 with
 |nil=>unfold IX at hi;rw[e] at hi;cases hi
 |cons j r=>unfold IX at hi;rw[e] at hi;cases hi;exact call_meets F.slot_str_index (typeIs_str _ _ _) F.entry_str_index (F.args_str_index_2 _ _) (gives_str_index z y t T i r e).meets (show (Made.int (i:Int)).post _ s from ⟨.int (i:Int),H,I.tok _,⟨_,rfl⟩,q⟩)
end
variable{e:Expr}{apos cpos:Pos}
section
variable{X:Cx}{E:XK}
def sL(z:Str):A->Option Rr
 | .str y=>match IX z y with
  |some i=>some (.fr (.int (i:Int)))
  |none=>none
 |_=>none
theorem Hu(z:Str):lg K (λw=>xt (.str z) [w]) (sL z):=.scalar λH v a q B h=>by
 cases a<;>first|(cases h;done)|skip
 rename_i y;unfold sL at h;simp only at h;cases e:IX z y with
 |none=>simp only[e] at h;cases h
 |some i=>simp only[e] at h;cases B;cases h;exact⟨_,_,rfl,λ_=>.int _,λQ k=>⟨_,_,i,rfl,rfl,e,k⟩⟩
theorem AO{o:Expr}{mo m:Mi Rr}(i:JE X E o mo)(R:JE X E e m)(hp:∀{s g:TE},PE X o s->PE X e g->PE X (.Call (.Attribute o "index" apos) [e] [] cpos) (OD X.K "str" xt s (vW g Bb))):
  JE X E (.Call (.Attribute o "index" apos) [e] [] cpos) (Cu sL mo m):=⟨PE.weaken (hp i.p R.p) λY H Q h=>uX Hu Y H Q h⟩
end
theorem mj{α:Type}{f:Str}:∀{vs ws:List (Str×α)}{u:α},vs.lookup f=some u->(vs++ws).lookup f=some u
 |[],_,_,h=>nomatch h
 |(y,v)::vs,ws,u,h=>by
  rw[Rk] at h;rw[SH,Rk];split at h
  .exact h
  .exact mj h
theorem lD{α:Type}{f:Str}:∀{vs ws:List (Str×α)},vs.lookup f=none->ws.lookup f=none->(vs++ws).lookup f=none
 |[],_,_,h=>h
 |(y,v)::vs,ws,h,h'=>by
  rw[Rk] at h;rw[SH,Rk];split at h
  .cases h
  .exact lD h h'
theorem lu{α:Type}{f:Str}:∀{vs ws:List (Str×α)}{u:α},vs.lookup f=none->ws.lookup f=some u->(vs++ws).lookup f=some u
 |[],_,_,_,h=>h
 |(y,v)::vs,ws,u,h,h'=>by
  rw[Rk] at h;rw[SH,Rk];split at h
  .cases h
  .exact lu h h'
theorem kH.none{k:Kx}{G H:Hp}{f:Str}:∀{ws:List (Str×V)}{ls:List (Str×List A)}{q:List Addr},kH k G H ws ls q->ls.lookup f=none->ws.lookup f=none
 |_,_,_,.nil,_=>rfl
 |_,_,_,.cons (y:=y) e r t,h=>by
  rw[Rk] at h ⊢;split at h
  .cases h
  .exact kH.none t h
theorem kH.get{k:Kx}{G H:Hp}{f:Str}{xs:List A}:∀{ws:List (Str×V)}{ls:List (Str×List A)}{q:List Addr},kH k G H ws ls q->ls.lookup f=some xs->∃a us,ws.lookup f=some (.ref a)/\a∈q/\H a=some (.lst us)/\bS k G us xs
 |_,_,_,.nil,h=>nomatch h
 |_,_,_,.cons (y:=y) (a:=a) (us:=us) e r t,h=>by
  rw[Rk] at h;rw[Rk];split at h
  .cases h;exact⟨a,us,rfl,Rb,e,r⟩
  .obtain⟨a,us,h1,h2,h3,h4⟩:=kH.get t h;exact⟨a,us,h1,Q4 _ h2,h3,h4⟩
noncomputable def xH(f:Str)(xs:List A):List (Str×List A)->List (Str×List A)
 |[]=>[]
 |(y,zs)::r=>if f==y then (y,xs)::r else (y,zs)::xH f xs r
theorem kH.put{k:Kx}{G H H':Hp}{f:Str}{xs Y:List A}{a:Addr}{v:List V}:∀{ws:List (Str×V)}{ls:List (Str×List A)}{q:List Addr},kH k G H ws ls q->q.Nodup->ls.lookup f=some xs->ws.lookup f=some (.ref a)->H' a=some (.lst v)->(∀b∈q,b≠a->H' b=H b)->bS k G v Y->kH k G H' ws (xH f Y ls) q
 |_,_,_,.nil,_,h,_,_,_,_=>nomatch h
 |_,_,_,.cons (y:=y) (a:=b) e r t,nd,h,h2,h3,sm,ra=>by
  rw[Rk] at h h2;unfold xH;have nd:=Ry.mp nd;cases hc:f==y with
  |true=>rw[hc] at h2;cases h2;rw[if_pos rfl];exact .cons h3 ra (t.sm (Sq.refl _) λc hc u e=>by rw[sm c (Q4 _ hc) λz=>nd.1 (z▸hc)];exact e)
  |false=>rw[hc] at h h2;rw[if_neg (by decide)];obtain⟨a',us,X,D,-,-⟩:=kH.get t h;have h2:_=some (V.ref a):=h2;rw[X] at h2;cases h2;refine .cons ?_ r (kH.put t nd.2 h X h3 (λc hc=>sm c (Q4 _ hc)) ra);rw[sm b Rb λz=>nd.1 (z▸D)];exact e
variable{i:Nat}{x cn mn:Str}{cs:List Str}{px pos:Pos}{Z:List Sl}{m:Ms}
section
variable{X:Cx}{E:XK}
def cS(cs:List Str)(i:Nat)(f:Str):Mi Rr:=λZ=>match aE Z i with
 | some (.nob c fs _)=>if cs.contains c then (match fs.lookup f with
  |some a=>some (.ok (.fr a),Z)
  | none=>none) else none
 |_=>none
theorem A7{f:Str}(z:X.N[i]?=some x)(t:nY X.env.scope x)(hd:gP x)(J:p4 x)(hc:∀c C,cs.contains c=true->X.mg c=some (.ref C)->k6 X.K C/\dr X.K C f)
  (d:attributeBase (.Name x px) f X.env (eval (.Name x px) X.env)=eval (.Name x px) X.env):JE X E (.Attribute (.Name x px) f pos) (cS cs i f):=
 ⟨PE.weaken (uz (cD z t hd J) d) λY H Q h=>by
  obtain⟨c,Z,B,θ,o,O,s,b,em,q⟩:=h;unfold cS at em;cases A:aE Z i with
  |none=>simp only[A] at em;cases em
  |some lo=>
   cases lo with
   |lst _=>simp only[A] at em;cases em
   |dic _=>simp only[A] at em;cases em
   |obj _ _=>simp only[A] at em;cases em
   |dit _=>simp only[A] at em;cases em
   |nob cn fs ls=>
    simp only[A] at em;split at em
    .rename_i T;cases j:fs.lookup f with
     |none=>simp only[j] at em;cases em
     |some a=>
      simp only[j] at em;cases em;obtain⟨L,bl⟩:=b;obtain⟨p,_,h1,h2,v⟩:=bl.live A (.nob cn fs ls) (.lst []);clear v;cases h2 with
      |nob e m r l=>
       rename_i C dx vs ws;have V:X.mg cn=some (.ref C):=by have:=congrArg (λk:Kx=>k.mg cn) s;simp only at this;rw[<-this];exact m
       obtain⟨S,g⟩:=hc cn C T V;rcases r.get f with ⟨u,a',U,D,w⟩|⟨_,D⟩
       .rw[j] at D;cases D;exact⟨_,h1,p,C,dx,vs++ws,u,rfl,e,S,g,mj U,q u H trivial (bl.push w)⟩
       .rw[j] at D;cases D
    .cases em⟩
def aM(cn m:Str)(i:Nat):Mi Rr:=λZ=>match aE Z i with
 |some (.nob c fs ls)=>if c==cn&&(fs.lookup m).isNone&&(ls.lookup m).isNone then some (.ok (.rf i),Z) else none
 |_=>none
theorem jA{m:Str}{O:List Sl}{o:Except Str Rr}(h:aM cn m i Z=some (o,O)):∃fs ls,aE Z i=some (.nob cn fs ls)/\fs.lookup m=none/\ls.lookup m=none/\o=.ok (.rf i)/\O=Z:=by
 unfold aM at h;split at h
 .rename_i c fs ls e;split at h
  .rename_i hc;rw[QR,QR,beq_iff_eq,RS,RS] at hc;cases h;exact⟨fs,ls,by rw[e,hc.1.1],hc.1.2,hc.2,rfl,rfl⟩
  .cases h
 .cases h
theorem m8{n:Nat}{C:Addr}{das:List A}{dvs:List V}(hd:∀G,bS (kx X) G dvs das){ma:Mi (List Rr)}(d:X.mg cn=some (.ref C))(hn:∀Z rs O,ma Z=some (.ok rs,O)->rs.length+1+das.length=n)(Y:St)(H:Hp)(Q:VK)(h:gS (kx X) E (bq m das (aJ (aM cn mn i) ma)) Y H Q):
  vE C mn (iW (kx X) n m) dvs E (Ew i) (NS (kx X) E ma) Y H Q:=by
 obtain⟨c,Z,B,θ,o,O,F,b,em,q⟩:=h;have f:∀{fs:List (Str×A)}{ls:List (Str×List A)},aE Z i=some (.nob cn fs ls)->fs.lookup mn=none->ls.lookup mn=none->∃p dx vs,Y[i]?=some (some (.ref p))/\H p=some (.ins C dx vs)/\vs.lookup mn=none:=λS D w=>by
  obtain⟨L,bl⟩:=b;obtain⟨p,_,h1,h2,a⟩:=bl.live S (.lst []) (.lst []);clear a;cases h2 with
  |nob e mm r l=>
   rename_i C' dx vs ws;have s:X.mg cn=some (.ref C'):=by have:=congrArg (λk:Kx=>k.mg cn) F;simp only at this;rw[<-this];exact mm
   rw[d] at s;cases s;refine⟨p,dx,vs++ws,h1,e,lD ?_ (l.none w)⟩;rcases r.get mn with ⟨_,_,_,z,_⟩|⟨z,_⟩
   .rw[D] at z;cases z
   .exact z
 have fin:∀e,o=.error e->∀C H,X.mg e=some (.ref C)->Bd c Y H O B θ->E (.ref C) none H:=bj q;rcases bind_some em with ⟨rs,U,J,j⟩|⟨e,J,j⟩
 .rcases bind_some J with ⟨r,Z',u,R⟩|⟨y,u,R⟩
  .obtain⟨fs,ls,S,D,w,P,I⟩:=jA u;cases P;subst I;rcases bind_some R with ⟨rs',T,N,K⟩|⟨y,N,K⟩
   .cases K;obtain⟨p,dx,vs,hp,h2,hl⟩:=f S D w;refine⟨.ref p,hp,p,dx,vs,rfl,h2,hl,c,_,_,_,_,_,F,b,N,λws t g b2=>?_⟩;refine kB (rs:=.rf i::rs') (vs:=.ref p::ws) hd F ?_ ⟨hp,g⟩ b2 j (λr hr v H' hv b=>by subst hr;exact q v H' hv b) (λx hx=>by subst hx;exact q);rw[SH,Q6,Rc,<-g.len,<-hn _ _ _ N,(hd λ_=>none).len];lia
   .cases K
  .cases R
 .rcases bind_some J with ⟨r,Z',u,R⟩|⟨y,u,R⟩
  .obtain⟨fs,ls,S,D,w,P,I⟩:=jA u;cases P;subst I;rcases bind_some R with ⟨rs',T,N,K⟩|⟨y,N,K⟩
   .cases K
   .cases K;obtain⟨p,dx,vs,hp,h2,hl⟩:=f S D w;exact⟨.ref p,hp,p,dx,vs,rfl,h2,hl,c,_,_,_,_,_,F,b,N,λC t hm b2=>fin _ j C t hm b2⟩
  .obtain⟨_,_,_,_,_,P,_⟩:=jA u;cases P
end
section
variable{X:Cx}{E:XK}{CX:qY}{k n i:Nat}{f C:Addr}{fd:FuncData}{ps:List Str}{m:Ms}{das:List A}{dvs:List V}{ds:List Value}{cn mn x:Str}{px apos pos:Pos}{e:Expr}{es:List Expr}{ma:Mi (List Rr)}
theorem rM(T:X.mg cn=some (.ref C))(hc:k6 X.K C)(hm:Meth X.K C mn f)(F:dg X.prog X.w X.K X.mg X.base CX k f fd ps (iW (kx X) n m))(y:cP k X.A)(d:Binds X.K fd ps ds)(hd:Vals dvs ds)(a:∀G,bS (kx X) G dvs das)(S:Passes CX X E)
  (z:X.N[i]?=some x)(t:nY X.env.scope x)(q:gP x)(J:p4 x)(ha:JA X E (e::es) ma)(hn:∀Z rs O,ma Z=some (.ok rs,O)->rs.length+1+das.length=n)(H:attributeBase (.Name x px) mn X.env (eval (.Name x px) X.env)=eval (.Name x px) X.env)
  (Y:methodCallForm ((e::es).length+([]:List Keyword).length) (backTo pos (starEach (e::es) X.env)) (backToKw pos (keywordEach [] X.env))=true)(h:(apos.endLine==pos.line)=true)
  (v:starEach (e::es) X.env=(false,eval e X.env)::starEach es X.env)(b:(backTo pos (starEach es X.env)).any (·.1)=false):JE X E (.Call (.Attribute (.Name x px) mn apos) (e::es) [] pos) (bq m das (aJ (aM cn mn i) ma)):=
 ⟨PE.weaken (vX (cD z t q J) hc hm F y d hd S ha.p v b (iV H Y h)) (m8 a T hn)⟩
theorem pO(T:X.mg cn=some (.ref C))(hc:k6 X.K C)(hm:Meth X.K C mn f)(F:dg X.prog X.w X.K X.mg X.base CX k f fd ps (iW (kx X) n m))(y:cP k X.A)(d:Binds X.K fd ps ds)(hd:Vals dvs ds)(D:∀G,bS (kx X) G dvs das)(S:Passes CX X E)
  (z:X.N[i]?=some x)(t:nY X.env.scope x)(L:gP x)(J:p4 x)(hn:1+das.length=n)(p:attributeBase (.Name x px) mn X.env (eval (.Name x px) X.env)=eval (.Name x px) X.env)(U:(apos.endLine==pos.line)=true):JE X E (.Call (.Attribute (.Name x px) mn apos) [] [] pos) (bq m das (aJ (aM cn mn i) c9)):=
 ⟨PE.weaken (rG (cD z t L J) hc hm F y d hd S (iV p rfl U)) λY H Q h=>by obtain⟨v,h0,a,dx,fs,u,s,P,g⟩:=m8 (X:=X) (E:=E) (C:=C) (n:=n) D T (ma:=c9) (λZ rs O q=>by cases q;rw[<-hn];simp) Y H Q h;refine⟨v,h0,a,dx,fs,u,s,P,?_⟩;obtain⟨c,Z,B,θ,o,O,r,b,em,q⟩:=g;cases em;exact q [] H trivial b⟩
end
section
variable{c:Cn}{Y:St}{H:Hp}{Z:List Sl}{B:St}{θ:List Sl}
theorem Bd.give{a:Addr}{xs:List A}{f:Str}{fs:List (Str×A)}(b:Bd c Y H Z (some (.ref a)::B) (.lv (.lst xs)::θ))(D:aE Z i=some (.obj cn fs)):
  ∃p C dx vs,Y[i]?=some (some (.ref p))/\H p=some (.ins C dx vs)/\c.mg cn=some (.ref C)/\vs.length=fs.length/\(fs.lookup f=none->vs.lookup f=none)/\Bd c Y (upd H p (.ins C dx (vs++[(f,.ref a)]))) (setAt Z i (.nob cn fs [(f,xs)])) B θ:=by
 obtain⟨L,b⟩:=b;have rel:aA c.toKx (c.g H L) H (some (.ref a)::(B++Y)) (.lv (.lst xs)::(θ++Z)) L:=b.rel;have lt:B.length=θ.length:=by simpa using b.lt
 cases rel with
 |cons h r=>
  rename_i La L';cases h with
  |lv R=>
   cases R with
   |lst ea ra=>
    rename_i us;have nd:a∉L'/\L'.Nodup:=Ry.mp b.nd;obtain⟨X,L2,F,r1,r2⟩:=aA.split lt r;have K:∀(s t:Sl)(o:LO),Z[i]?=some s->(s=.lv (.obj cn fs)/\t=.lv (.nob cn fs [(f,xs)])\/s=.pv (.obj cn fs)/\t=.pv (.nob cn fs [(f,xs)]))->setAt Z i (.nob cn fs [(f,xs)])=Z.set i t->
      ∃p C dx vs,Y[i]?=some (some (.ref p))/\H p=some (.ins C dx vs)/\c.mg cn=some (.ref C)/\vs.length=fs.length/\(fs.lookup f=none->vs.lookup f=none)/\Bd c Y (upd H p (.ins C dx (vs++[(f,.ref a)]))) (setAt Z i (.nob cn fs [(f,xs)])) B θ:=by
     intro s t _ es Q v;obtain⟨x,M1,M2,U,V,hs,S,ins⟩:=r2.at es;have O:∀p,x=some (.ref p)->M2=[p]->LR c.toKx (c.g H (a::L')) H p (.obj cn fs) []->(∀G H' ,LR c.toKx G H' p (.nob cn fs [(f,xs)]) [a]->dR c.toKx G H' (some (.ref p)) t [p,a])->
       ∃p C dx vs,Y[i]?=some (some (.ref p))/\H p=some (.ins C dx vs)/\c.mg cn=some (.ref C)/\vs.length=fs.length/\(fs.lookup f=none->vs.lookup f=none)/\Bd c Y (upd H p (.ins C dx (vs++[(f,.ref a)]))) (setAt Z i (.nob cn fs [(f,xs)])) B θ:=by
      intro p ex J R mk;subst ex J;cases R with
      |obj e m n=>
       rename_i C dx vs;have hpa:p≠a:=λz=>nd.1 (by rw[F,S,<-z];simp);have N:∀b,b∈X++(M1++[p,a]++U)↔b∈a::L':=λb=>by
        rw[F,S];simp only[QW,Ra,Q5,List.not_mem_nil,or_false];constructor
        .rintro(h|(h|h|h)|h)<;>simp[h]
        .rintro(h|h|(h|h)|h)<;>simp[h]
       have hg:∀H',c.g H' (X++(M1++[p,a]++U))=c.g H' (a::L'):=λH'=>Dk N;have pL:p∈a::L':=by rw[F,S];simp
       have hgu:c.g (upd H p (.ins C dx (vs++[(f,.ref a)]))) (a::L')=c.g H (a::L'):=by
        funext z
        by_cases E:z∈a::L'\/z∈c.Hd
        .rw[f6 E,f6 E]
        .rw[br (λy=>E (.inl y)) (λy=>E (.inr y)),br (λy=>E (.inl y)) (λy=>E (.inr y)),aF (λ(y:z=p)=>E (.inl (by rw[y];exact pL)))]
       have hne:∀b∈X++(M1++U),b≠p:=λb d z=>by
        have T:=nd.2;rw[F,S] at T;subst z;obtain⟨n1,n2,n3⟩:=Q8.mp T;rcases QW.mp d with z|z
        .exact n3 _ z _ (by simp) rfl
        .obtain⟨m1,m2⟩:=kC n2;exact m2 b (by simp) z
       have keep:∀b∈X++(M1++U),∀u,H b=some u->upd H p (.ins C dx (vs++[(f,.ref a)])) b=some u:=λb d u e=>by rw[aF (hne b d)];exact e
       refine⟨p,C,dx,vs,V,e,m,n.len,(λz=>by
        rcases n.get f with ⟨_,_,_,y,_⟩|⟨y,_⟩
        .rw[z] at y;cases y
        .exact y),X++(M1++[p,a]++U),?_,?_,λz hz=>b.own z ((N z).mp hz),?_,?_,lt,b.hd⟩
       .have pm:(X++(M1++[p,a]++U)).Perm (a::L'):=by
         rw[F,S];have q1:(M1++[p,a]++U).Perm (a::(M1++[p]++U)):=by
          have:M1++[p,a]++U=(M1++[p])++(a::U):=by simp
          rw[this];exact TF
         exact(List.Perm.append_left X q1).trans TF
        exact pm.nodup_iff.mpr b.nd
       .rw[hg,hgu,v];have i1:=ins (G':=c.g H (a::L')) (H':=upd H p (.ins C dx (vs++[(f,.ref a)]))) (y:=some (.ref p)) (t:=t) (L':=[p,a]) (Sq.refl _) (λb d=>keep b (QV _ d)) (mk _ _ (.nob (by rw[bW]) m n (.cons (by rw[aF hpa.symm];exact ea) ra .nil)));have es2:Y.set i (some (.ref p))=Y:=by
         apply SV;intro j;by_cases I:i=j
         .subst I;rw[Rp (Q2.mp V).1,V]
         .rw[Rz I]
        rw[es2] at i1;exact(r1.sm (Sq.refl _) λb d=>keep b (QX _ d)).app i1
       .refine⟨λz o e'=>?_,λw hw=>?_⟩
        .obtain⟨u,u1,u2⟩:=b.fr.st z o e';by_cases hz:z=p
         .subst hz;refine⟨_,bW,λna _=>?_⟩;rcases b.own z pL with y|y
          .exact absurd y na
          .rw[y] at e';cases e'
         .exact⟨u,by rw[aF hz];exact u1,u2⟩
        .obtain⟨P,l,k3⟩:=b.fr.pk w hw;refine⟨?_,l,k3⟩;rw[aF λz=>?_]
         .exact P
         .obtain⟨ob,us',l⟩:=l;rw[z,e] at P;rw[l] at P;cases P
       .rw[v];intro j o I;by_cases k:i=j
        .subst k;rw[Rp (Q2.mp es).1] at I;rcases Q with ⟨_,rfl⟩|⟨rfl,rfl⟩
         .cases I
         .exact b.kp i _ es
        .rw[Rz k] at I;exact b.kp j o I
     rcases Q with ⟨rfl,rfl⟩|⟨rfl,rfl⟩
     .cases hs with
      |lv h=>
       rename_i p q;have:q=[]:=by cases h;rfl
       subst this;exact O p rfl rfl h λG H' h=>.lv h
     .cases hs with
      |pv h=>
       rename_i p q;have:q=[]:=by cases h;rfl
       subst this;exact O p rfl rfl h λG H' h=>.pv h
    unfold aE at D;cases es:Z[i]? with
    |none=>simp only[es] at D;cases D
    |some s=>
     cases s with
     |un=>simp only[es] at D;cases D
     |fr a=>simp only[es] at D;cases D
     |lv o1=>simp only[es] at D;cases D;exact K _ _ (.obj cn fs) es (.inl ⟨rfl,rfl⟩) (by unfold setAt;simp only[es])
     |pv o1=>simp only[es] at D;cases D;exact K _ _ (.obj cn fs) es (.inr ⟨rfl,rfl⟩) (by unfold setAt;simp only[es])
end
variable{H:Hp}{o:LO}{p1:Pos}
section
variable{X:Cx}{E:XK}
theorem rl(f:Str)(v:V):∀{fs:List (Str×V)},fs.lookup f=none->fS f v fs=fs++[(f,v)]
 |[],_=>rfl
 |(g,x)::r,h=>by
  rw[Rk] at h;unfold fS;split at h
  .cases h
  .rename_i hc;have:¬ g=f:=λz=>by rw[z] at hc;simp at hc
   rw[if_neg this,rl f v h];rfl
theorem Bd.Ie{c:Cn}{Y:St}{B:St}{θ:List Sl}{v:V}(b:Bd c Y H Z (some v::B) (.lv o::θ)):∃a,v=.ref a:=by
 obtain⟨L,b⟩:=b;have rel:aA c.toKx (c.g H L) H (some v::(B++Y)) (.lv o::(θ++Z)) L:=b.rel;cases rel with
 |cons h r=>cases h with
  |lv h=>exact⟨_,rfl⟩
def vo(cs:List Str)(i:Nat)(f:Str):Ms:=λZ=>match aE Z i with
 |some (.obj c fs)=>if cs.contains c&&Ti fs.length 900&&(fs.lookup f).isNone then some (.nx,setAt Z i (.nob c fs [(f,[])])) else none
 |_=>none
theorem Dg{f:Str}{P:Pos}(z:X.N[i]?=some x)(t:nY X.env.scope x)(hd:gP x)(J:p4 x)(hc:∀c C,cs.contains c=true->X.mg c=some (.ref C)->k6 X.K C/\dr X.K C f)(R:JE X E (.List [] P) (cO c9))
  (u:swapsWith (.List [] P) (some (.Attribute (.Name x px) f p1)) pos.line X.env=pure false):JS X E (.Assign [.Attribute (.Name x px) f p1] (.List [] P) pos) (vo cs i f):=
 ⟨PS.weaken (Bs (cD z t hd J) R.p u) λD Y H h=>by
  obtain⟨c,Z,B,θ,fl,O,r,b,em,q⟩:=h;unfold vo at em;cases A:aE Z i with
  |none=>simp only[A] at em;cases em
  |some lo=>
   cases lo with
   |lst _=>simp only[A] at em;cases em
   |dic _=>simp only[A] at em;cases em
   |nob _ _ _=>simp only[A] at em;cases em
   |dit _=>simp only[A] at em;cases em
   |obj cn fs=>
    simp only[A] at em;split at em
    .rename_i T;rw[QR,QR,RS] at T;cases em;refine⟨c,Z,B,_,.ok (.nw (.lst [])),Z,r,b,rfl,λv e t b1=>?_⟩;obtain⟨a,rfl⟩:=Bd.Ie b1;obtain⟨p,C,dx,vs,h1,h2,h3,h4,h5,m⟩:=Bd.give (f:=f) b1 A;have Q:X.mg cn=some (.ref C):=by have:=congrArg (λk:Kx=>k.mg cn) r;simp only at this;rw[<-this];exact h3
     obtain⟨S,g⟩:=hc cn C T.1.1 Q;refine⟨_,h1,p,C,dx,vs,rfl,h2,S,g,by have:=R3 T.1.2;lia,?_⟩;rw[rl f _ (h5 T.2)];exact q Y _ m
    .cases em⟩
end
def vg:List Nat->TA
 |[]=>Bb
 |j::js=>vW (Ew j) (vg js)
noncomputable def lA(Z:List Sl):List Nat->Option (List A)
 |[]=>some []
 |j::js=>match Z[j]?,lA Z js with
  |some (.fr a),some as=>some (a::as)
  |_,_=>none
section
variable{c:Cn}{Y:St}{H:Hp}{Z:List Sl}
theorem vS:∀{p:List Nat}{as:List A}{B:St}{θ:List Sl},lA Z p=some as->Bd c Y H Z B θ->∃vs:List V,(∀Q:List V->Hp->Prop,Q vs H->vg p Y H Q)/\vs.length=as.length/\Bd c Y H Z (vs.reverse.map some++B) (as.reverse.map Sl.fr++θ)
 |[],_,_,_,h,b=>by cases h;exact⟨[],λQ q=>q,rfl,b⟩
 |j::p,as,B,θ,h,b=>by
  unfold lA at h;cases F:Z[j]? with
  |none=>simp only[F] at h;cases h
  |some s=>cases S:lA Z p with
   |none=>simp only[F,S] at h;cases s<;>cases h
   |some O=>
    cases s with
    |un=>simp only[F,S] at h;cases h
    |lv _=>simp only[F,S] at h;cases h
    |pv _=>simp only[F,S] at h;cases h
    |fr a=>
     simp only[F,S] at h;cases h;obtain⟨v,t,b1⟩:∃v,Y[j]?=some (some v)/\Bd c Y H Z (some v::B) (.fr a::θ):=by
      obtain⟨L,b⟩:=b;obtain⟨C,L2,E,k,n⟩:=aA.split b.lt b.rel;obtain⟨x,_,_,_,w,u,_⟩:=n.at F;cases u with
      |fr h=>exact⟨_,w,b.push h⟩
     obtain⟨vs,X,D,m⟩:=vS S b1;refine⟨v::vs,λQ q=>⟨v,t,X _ q⟩,congrArg (·+1) D,?_⟩;simpa[QZ] using m
end
section
variable{X:Cx}{E:XK}
def sy(cs:List Str)(i:Nat)(f:Str)(p:List Nat):Mi Rr:=λZ=>match aE Z i with
 | some (.nob c fs ls)=>if cs.contains c&&(fs.lookup f).isNone&&Ti p.length 900 then (match ls.lookup f,lA Z p with
  |some xs,some as=>if xs.length<=100000 then some (.ok (.fr .non),setAt Z i (.nob c fs (xH f (xs++[.tup as]) ls))) else none
  | _,_=>none) else none
 |_=>none
theorem vJ:∀{p:List Nat}{Z:List Sl}{as:List A},lA Z p=some as->as.length=p.length
 |[],_,_,h=>by cases h;rfl
 |j::p,Z,as,h=>by
  unfold lA at h;split at h
  .rename_i e;cases h;exact congrArg (·+1) (vJ e)
  .cases h
theorem CC{f:Str}{js:List Nat}{I:Pos}{es:List Expr}{j:_}(hN:X.N[i]?=some x)(hv:nY X.env.scope x)(hd:gP x)(hcd:p4 x)(hc:∀c C,cs.contains c=true->X.mg c=some (.ref C)->k6 X.K C/\dr X.K C f)
  (hb:attributeBase (.Name x px) f X.env (eval (.Name x px) X.env)=eval (.Name x px) X.env)(ha:PA X es (vg js))
  (D:attributeBase (.Attribute (.Name x px) f p1) "append" X.env (eval (.Attribute (.Name x px) f p1) X.env)=eval (.Attribute (.Name x px) f p1) X.env)
  (R:((backTo cpos (starEach [.Tuple es j I] X.env)).all (λx=>!x.1)&&(backToKw cpos (keywordEach [] X.env)).all (λx=>x.1.isSome)&&decide (([.Tuple es j I]:List Expr).length+([]:List Keyword).length+(if ([]:List Keyword).isEmpty then 0 else 1)<30))=true)
  (V:(apos.endLine==cpos.line)=true)(hs:starEach [.Tuple es j I] X.env=(false,eval (.Tuple es j I) X.env)::starEach [] X.env)(U:(backTo cpos (starEach [] X.env)).any (·.1)=false):
  JE X E (.Call (.Attribute (.Attribute (.Name x px) f p1) "append" apos) [.Tuple es j I] [] cpos) (sy cs i f js):=
 ⟨PE.weaken (su Sh UU UW oQ (uz (cD hN hv hd hcd) hb) (cq (xZ ha) dB hs) D R V hs U) λY H Q h=>by
  obtain⟨c,Z,B,θ,o,O,ek,b,em,q⟩:=h;unfold sy at em;cases A:aE Z i with
  |none=>simp only[A] at em;cases em
  |some lo=>
   cases lo with
   |lst _=>simp only[A] at em;cases em
   |dic _=>simp only[A] at em;cases em
   |obj _ _=>simp only[A] at em;cases em
   |dit _=>simp only[A] at em;cases em
   |nob cn fs ls=>
    simp only[A] at em;split at em
    .rename_i T;rw[QR,QR,RS] at T;cases S:ls.lookup f with
     |none=>simp only[S] at em;cases em
     |some xs=>
      cases F:lA Z js with
      |none=>simp only[S,F] at em;cases em
      |some as=>
       simp only[S,F] at em;split at em
       .rename_i hl;cases em;obtain⟨vs,g1,g2,g3⟩:=vS F b;obtain⟨L,bl⟩:=b;obtain⟨p,q0,h1,h2,g⟩:=bl.live A (.nob cn fs ls) (.lst []);clear g;cases h2 with
        |nob e m r l=>
         rename_i C dx ws us;have e4:X.mg cn=some (.ref C):=by have:=congrArg (λk:Kx=>k.mg cn) ek;simp only at this;rw[<-this];exact m
         obtain⟨c1,c2⟩:=hc cn C T.1.1 e4;obtain⟨a,ys,k1,k2,d,k4⟩:=l.get S;have kw:ws.lookup f=none:=by
          rcases r.get f with ⟨_,_,_,y,_⟩|⟨y,_⟩
          .rw[T.1.2] at y;cases y
          .exact y
         refine⟨_,h1,p,C,dx,ws++us,.ref a,rfl,e,c1,c2,lu kw k1,.inl ⟨rfl,ys,.inl (.inl d)⟩,?_⟩;refine g1 _ ⟨by have:=jM;have:=vJ F;have:=R3 T.2;lia,λpt P=>?_⟩;have G:a≠pt:=λz=>by rw[z,P] at d;cases d
         have J:p≠pt:=λz=>by rw[z,P] at e;cases e
         have b3:=Bd.Au g3 (by simp[g2]) P vs as mN;obtain⟨L3,bl3,ra⟩:=Bd.rH b3;refine⟨a,ys,.ref pt,rfl,rfl,by rw[aF G];exact d,by have:=k4.len;have:=sizeLine_eq;lia,q _ _ trivial (Bd.push ?_ λ_=>.non)⟩;have fin:∀(s t:Sl),Z[i]?=some s->(s=.lv (.nob cn fs ls)/\t=.lv (.nob cn fs (xH f (xs++[.tup as]) ls))\/s=.pv (.nob cn fs ls)/\t=.pv (.nob cn fs (xH f (xs++[.tup as]) ls)))->Bd c Y (upd (upd H pt (.tup vs)) a (.lst (ys++[.ref pt]))) (Z.set i t) B θ:=by
          intro s t es hst;obtain⟨p',q',j1,j2,nd,j3⟩:=bl3.NC (u:=.lst (ys++[.ref pt])) es hst;rw[h1] at j1;cases j1;cases j2 with
          |nob v m' r' l'=>
           rename_i C' dx' n us';rw[aF J,e] at v;have ew:n=ws/\us'=us:=by
            have w:n.length=ws.length:=by rw[r'.len,r.len]
            injection v with v;injection v with _ _ v;exact⟨(Wc v.symm w).1,(Wc v.symm w).2⟩
           obtain⟨rfl,rfl⟩:=ew;obtain⟨a',ys',w1,w2,w3,w4⟩:=l'.get S;rw[k1] at w1;cases w1;rw[aF G,d] at w3;cases w3;injection v with v;injection v with eC edx _;subst eC edx;refine j3 a (Q4 _ w2) λH' ha' sm=>?_;refine .nob (dx:=dx) ?_ m' r' (kH.put l' (Ry.mp nd).2 S k1 ha' (λb hb hne=>sm b (Q4 _ hb) hne) (w4.snoc ra));rw[sm p Rb λz=>(Ry.mp nd).1 (z▸w2),aF J];exact e
         unfold aE at A;unfold setAt;cases es:Z[i]? with
         |none=>simp only[es] at A;cases A
         |some s=>
          cases s with
          |un=>simp only[es] at A;cases A
          |fr a=>simp only[es] at A;cases A
          |lv o1=>simp only[es] at A ⊢;cases A;exact fin _ _ es (.inl ⟨rfl,rfl⟩)
          |pv o1=>simp only[es] at A ⊢;cases A;exact fin _ _ es (.inr ⟨rfl,rfl⟩)
       .cases em
    .cases em⟩
end
mutual
noncomputable def pl:A->Bool
 | .tup xs=>oq xs
 | .lst _=>false
 | .dic _=>false
 | .obj _ _=>false
 | .exc _=>false
 |_=>true
noncomputable def oq:List A->Bool
 |[]=>true
 |a::r=>pl a&&oq r
end
def ON:LO->Bool
 | .lst xs=>oq xs
 |_=>false
def uZ:Sl->Bool
 | .fr a=>pl a
 | .lv o=>ON o
 | .pv o=>ON o
 | .un=>true
def Tq(G G':Hp):Prop:=∀a u,G a=some u->(∀ws,u≠.lst ws)->(∀C dx fs,u≠.ins C dx fs)->G' a=some u
variable{vs:List V}
section
variable{k:Kx}{G G' H:Hp}
theorem Ib{p:Addr}(s:Tq G G')(q:gv k.K G p vs):gv k.K G' p vs:=q.imp (λr=>by
 rcases r with r|⟨o,r⟩
 .exact .inl (s _ _ r (λws z=>by cases z) λC dx fs z=>by cases z)
 .exact .inr ⟨o,s _ _ r (λws z=>by cases z) λC dx fs z=>by cases z⟩) id
mutual
theorem RA.pl(s:Tq G G'):∀{v:V}{a:A},RA k G v a->M.pl a=true->RA k G' v a
 |_,_,.non,_=>.non
 |_,_,.bl b,_=>.bl b
 |_,_,.int i,_=>.int i
 |_,_,.str x,_=>.str x
 |_,_,.tup e r,h=>.tup (Ib s e) (bS.pl s r (by rw[M.pl] at h;exact h))
 |_,_,.lst e r,h=>by rw[M.pl] at h;cases h
 |_,_,.dic e r,h=>by rw[M.pl] at h;cases h
 |_,_,.exc e m,h=>by rw[M.pl] at h;cases h
 |_,_,.obj e m r,h=>by rw[M.pl] at h;cases h
 |_,_,.opq,_=>.opq
theorem bS.pl(s:Tq G G'):∀{vs:List V}{as:List A},bS k G vs as->oq as=true->bS k G' vs as
 |_,_,.nil,_=>.nil
 |_,_,.cons h r,e=>by rw[oq,QR] at e;exact .cons (RA.pl s h e.1) (bS.pl s r e.2)
end
theorem LR.pl{p:Addr}{o:LO}{q:List Addr}(s:Tq G G')(h:LR k G H p o q)(e:ON o=true):LR k G' H p o q:=by
 cases h with
 |nob=>cases e
 |lst x r=>exact .lst x (r.pl s e)
 |dic x r=>cases e
 |obj x m r=>cases e
 |dit x r=>cases e
theorem dR.pl{x:Option V}{t:Sl}{L:List Addr}(s:Tq G G')(h:dR k G H x t L)(e:uZ t=true):dR k G' H x t L:=by
 cases h with
 |un=>exact .un _
 |fr h=>exact .fr (h.pl s e)
 |lv h=>exact .lv (h.pl s e)
 |pv h=>exact .pv (h.pl s e)
theorem kH.kind{ws:List (Str×V)}{ls:List (Str×List A)}{q:List Addr}(h:kH k G H ws ls q):∀a∈q,∃us,H a=some (.lst us):=by
 induction h with
 |nil=>intro a ha;cases ha
 |cons e r t l=>intro b d;rcases Ra.mp d with rfl|d;exact⟨_,e⟩;exact l b d
theorem LR.kind{p:Addr}{cn:Str}{fs:List (Str×A)}{ls:List (Str×List A)}{q:List Addr}(h:LR k G H p (.nob cn fs ls) q):∀a∈p::q,(∃us,H a=some (.lst us))\/∃C dx fs,H a=some (.ins C dx fs):=by
 cases h with
 |nob e m r l=>
  intro a ha;rcases Ra.mp ha with rfl|ha
  .exact .inr ⟨_,_,_,e⟩
  .exact .inl (l.kind a ha)
end
def cy(j:Nat)(m:Ms):Ms:=λZ=>match Z[j]? with
 |some (.pv (.nob c fs ls))=>match m (Z.set j (.fr (LO.nob c fs ls).a)) with
  |some (.rt s,T)=>if kG (au Z.length T)[j]?&&(s::au Z.length T).all uZ then some (.rt s,(au Z.length T).set j (.pv (.nob c fs ls))) else none
  |some (.ex x,T)=>if kG (au Z.length T)[j]?&&(au Z.length T).all uZ then some (.ex x,(au Z.length T).set j (.pv (.nob c fs ls))) else none
  |_=>none
 |_=>m Z
variable{E:XK}
theorem iW.Gv{n j:Nat}{Q:VK}(h:iW K n (cy j m) vs H Q E):iW K n m vs H Q E:=by
 obtain⟨hn,c,Z,f,O,ek,es,A,b,em,q⟩:=h;unfold cy at em;split at em
 .rename_i cn fs ls ej;have rel:aA c.toKx (c.g H c.Lp) H (vs.map some) Z c.Lp:=b.rel;obtain⟨x,L,Lj,L2,x1,x2,x3,x4⟩:=rel.pick ej;cases x3 with
  |pv lr=>
   rename_i p qs;have X:=lr;cases lr with
   |nob ep mm rr ll=>
    rename_i C dx ws us;have nd:=b.nd;rw[x2] at nd;have S:(L++L2).Nodup:=nd.sublist (Sv (Sn _) (SJ _ _));have np:∀a∈p::qs,a∉L++L2:=λa ha=>(kC (by rw[<-QZ] at nd;exact nd)).2 a ha;have k:(p::qs).Nodup:=(Q8.mp (Q8.mp nd).2.1).1;have I:=X.is;have V:=X.nf;have sub:∀a,a∈L++L2->a∈c.Lp:=λa ha=>by
     rw[x2];rcases QW.mp ha with z|z
     .exact QX _ z
     .exact QV _ (QV _ z)
    have pin:∀a∈p::qs,a∈c.Lp:=λa ha=>by rw[x2];exact QV _ (QX _ ha)
    have xj:∀a∈p::qs,a∉c.Hd:=λa ha=>b.xj (pin a ha)
    let c2:Cn:={ c with Lp:=L++L2 }
    have Y:Z.length=vs.length:=by have:=rel.len;simpa using this.symm
    have b2:fF c2 (vs.map some) H (Z.set j (.fr (LO.nob cn fs ls).a)) [] [] c2.Lp:=by refine⟨S,?_,λa ha=>.inl ha,⟨λa o e=>⟨o,by rw[<-A];exact e,λ_ _=>rfl⟩,λw r=>b.fr.pk w r⟩,λi o _=>by rw[es],rfl,λa ha=>⟨(b.hd a ha).1,λy=>(b.hd a ha).2 (sub a y)⟩⟩;have sm:Sq (c.g H c.Lp) (c.g H (L++L2)):=c0 sub;have:aA c.toKx (c.g H (L++L2)) H (vs.map some) (Z.set j (.fr (LO.nob cn fs ls).a)) (L++([]++L2)):=x4 (λ_ h=>h.sm sm (λ_ _ _ e=>e)) (.fr (X.a' sm λa ha u e=>by rw[br (np a ha) (xj a ha)];exact e));exact this
    have N:∀(H':Hp)(β:List Sl)(B:St)(θ:List Sl),B.length=θ.length->β[j]?=some .un->(θ++β).all uZ=true->Bd c2 (vs.map some) H' β B θ->Bd c (vs.map some) H' (β.set j (.pv (.nob cn fs ls))) B θ:=by
     intro H' β B θ lt P G U;obtain⟨L',U⟩:=U;have J:∀a∈p::qs,∀w,(a,w)∉c.Wk:=λa ha w r=>by obtain⟨h1,⟨ob,us,h2⟩,_⟩:=b.fr.pk _ r;simp only at h1 h2;exact V a ha _ _ (by rw[h1,h2])
     have D:∀a∈p::qs,∀u,H a=some u->H' a=some u:=λa ha u e=>by obtain⟨l,h1,h2⟩:=U.fr.st a u (by show c.H0 a=_;rw[A];exact e);rw[h1,h2 (np a ha) (J a ha)]
     have t:∀a∈p::qs,a∉L':=λa ha y=>by
      rcases U.own a y with z|z
      .exact np a ha z
      .have z:c.H0 a=none:=z;obtain⟨u,R⟩:=I a ha;rw[A,R] at z;cases z
     have jj:(θ++β)[θ.length+j]?=some .un:=by rw[Rx (So _ _),R6];exact P
     obtain⟨y,M1,Mj,M2,y1,y2,y3,y4⟩:=aA.pick U.rel jj;cases y3 with
     |un=>
      have yx:y=some (.ref p):=by rw[<-lt,Rx (So _ _),R6,x1] at y1;exact(Q9 y1).symm
      subst yx;have F:L'=M1++M2:=y2;have d:∀a,a∈M1++((p::qs)++M2)↔a∈p::qs\/a∈L':=λa=>by
       rw[F];simp only[QW];constructor
       .rintro(h|h|h)
        .exact .inr (.inl h)
        .exact .inl h
        .exact .inr (.inr h)
       .rintro(h|h|h)
        .exact .inr (.inl h)
        .exact .inl h
        .exact .inr (.inr h)
      have lq:Tq (c.g H' L') (c.g H' (M1++((p::qs)++M2))):=λa u e nl ni=>by
       by_cases z:a∈L'\/a∈c.Hd
       .rw[f6 z] at e;cases e
       .rw[br (λy=>z (.inl y)) (λy=>z (.inr y))] at e;rw[br (λy=>?_) (λy=>z (.inr y))]
        .exact e
        .rcases(d a).mp y with w|w
         .rcases X.kind a w with ⟨us,R⟩|⟨C,dx,fs,R⟩
          .rw[D a w _ R] at e;exact nl us (Q9 e).symm
          .rw[D a w _ R] at e;exact ni C dx fs (Q9 e).symm
         .exact z (.inl w)
      have sq:Sq (c.g H c.Lp) (c.g H' (M1++((p::qs)++M2))):=λa u e=>by
       by_cases z:a∈c.Lp\/a∈c.Hd
       .rw[f6 z] at e;cases e
       .rw[br (λy=>z (.inl y)) (λy=>z (.inr y))] at e;obtain⟨l,h1,h2⟩:=U.fr.st a u (by show c.H0 a=_;rw[A];exact e);have R:l=u:=by
         by_cases r:∃w,(a,w)∈c.Wk
         .obtain⟨w,r⟩:=r;have p1:=(b.fr.pk _ r).1;have p2:=(U.fr.pk _ r).1;simp only at p1 p2;rw[e] at p1;rw[h1] at p2;rw[Q9 p2,Q9 p1]
         .exact h2 (λy=>z (.inl (sub a y))) λw y=>r ⟨w,y⟩
        subst R;refine⟨l,?_,.inl rfl⟩;rw[br (λy=>?_) (λy=>z (.inr y))]
        .exact h1
        .rcases(d a).mp y with w|w
         .exact z (.inl (pin a w))
         .rcases U.own a w with v|v
          .exact z (.inl (sub a v))
          .have v:c.H0 a=none:=v;rw[A,e] at v;cases v
      have cg:aA c.toKx (c.g H' (M1++((p::qs)++M2))) H' (B++vs.map some) ((θ++β).set (θ.length+j) (.pv (.nob cn fs ls))) (M1++((p::qs)++M2)):=
       y4 (λm h=>h.pl lq (RG.mp G _ m)) (.pv (X.sm sq D))
      rw[T7 _ _ (So _ _),R6] at cg;refine⟨M1++((p::qs)++M2),?_,cg,λa ha=>?_,⟨λa o e=>?_,λw r=>U.fr.pk w r⟩,λi o _=>by rw[es],lt,b.hd⟩
      .have pm:(M1++((p::qs)++M2)).Perm ((p::qs)++(M1++M2)):=by rw[<-QZ,<-QZ];exact Sw.append_right M2
       refine(pm.nodup_iff).mpr (Q8.mpr ⟨k,by rw[<-F];exact U.nd,λa ha b hb z=>t a ha (by rw[F,z];exact hb)⟩)
      .rcases(d a).mp ha with w|w
       .exact .inl (pin a w)
       .rcases U.own a w with v|v
        .exact .inl (sub a v)
        .exact .inr v
      .obtain⟨u,h1,h2⟩:=U.fr.st a o e;exact⟨u,h1,λna nw=>h2 (λy=>na (sub a y)) nw⟩
    cases e4:m (Z.set j (.fr (LO.nob cn fs ls).a)) with
    |none=>simp only[e4] at em;cases em
    |some pr=>
     obtain⟨g,T⟩:=pr;simp only[e4] at em;refine⟨hn,c2,_,g,T,ek,es,A,b2,e4,?_⟩;cases g with
     |nx=>cases em
     |bk=>cases em
     |ct=>cases em
     |rt s=>
      simp only at em;split at em
      .rename_i hc;cases em;intro v H' hs U;rw[QR] at hc;rw[Y] at hc q;simp only[fk] at q;exact q v H' hs (N H' _ _ _ rfl (lX hc.1) hc.2 U)
      .cases em
     |ex x=>
      simp only at em;split at em
      .rename_i hc;cases em;intro C H' hm U;rw[QR] at hc;rw[Y] at hc q;simp only[fk] at q;exact q C H' hm (N H' _ _ _ rfl (lX hc.1) hc.2 U)
      .cases em
 .exact⟨hn,c,Z,f,O,ek,es,A,b,em,q⟩
section
variable{k:Kx}{G G' H:Hp}
theorem aA.FV:∀{Y:St}{Z:List Sl}{L:List Addr},(∀{x:Option V}{t:Sl}{L:List Addr}(j:Nat),Z[j]?=some t->dR k G H x t L->dR k G' H x t L)->aA k G H Y Z L->aA k G' H Y Z L
 |_,_,_,_,.nil=>.nil
 |_,_,_,f,.cons h r=>.cons (f 0 rfl h) (aA.FV (λj I=>f (j+1) (by simpa using I)) r)
theorem aA.Gi:∀{Y:St}{Z:List Sl}{L:List Addr}{j:Nat}{t:Sl},aA k G H Y Z L->Z[j]?=some t->∃x v b L2,Y[j]?=some x/\dR k G H x t b/\L=v++(b++L2) /\
  ∀{G':Hp}{t':Sl}{L':List Addr},(∀{x:Option V}{t:Sl}{L:List Addr}(n:Nat),Z[n]?=some t->n≠j->dR k G H x t L->dR k G' H x t L)->dR k G' H x t' L'->aA k G' H Y (Z.set j t') (v++(L'++L2))
 |_,_,_,j,t,.nil,e=>by simp at e
 |x::Y,u::Z,_,0,t,.cons (L:=La) (L':=Lb) h r,e=>by cases e;refine⟨x,[],La,Lb,rfl,h,rfl,λ{G2 i T} f h'=>?_⟩;rw[SN];exact .cons h' (aA.FV (λn hn=>f (n+1) (by simpa using hn) (We n)) r)
 |x::Y,u::Z,_,j+1,t,.cons (L:=La) (L':=Lb) h r,e=>by obtain⟨y,v,b,L2,h1,h3,h2,h4⟩:=aA.Gi r (j:=j) (by simpa using e);refine⟨y,La++v,b,L2,by simpa using h1,h3,by rw[h2,QZ],λf h'=>?_⟩;have:=h4 (λn hn w=>f (n+1) (by simpa using hn) (λz=>w (Nat.succ.inj z))) h';rw[QZ];exact .cons (f 0 rfl (We j).symm h) this
end
variable{s:Sl}
section
variable{c:Cn}{Y:St}{H:Hp}{Z:List Sl}{B:St}{θ:List Sl}
theorem Bd.K7{fs:List (Str×A)}{ls:List (Str×List A)}(b:Bd c Y H Z B θ)(es:Z[i]?=some s)(hs:s=.lv (.nob cn fs ls)\/s=.pv (.nob cn fs ls)):
  ∃D:Cn,D.toKx=c.toKx/\Bd D Y H (Z.set i (.fr (LO.nob cn fs ls).a)) [] []/\∀H' U,Bd D Y H' U [] []->(∃a,U[i]?=some (.fr a))->(U.set i .un).all uZ=true->Bd c Y H' (U.set i s) B θ:=by
 obtain⟨L,b⟩:=b;obtain⟨X,L2,e1,r1,r2⟩:=aA.split b.lt b.rel;obtain⟨x,M1,M2,N,hx,R,e2,ins⟩:=r2.at es;have S:∀p q,x=some (.ref p)->M2=p::q->LR c.toKx (c.g H L) H p (.nob cn fs ls) q->(∀G H',LR c.toKx G H' p (.nob cn fs ls) q->dR c.toKx G H' (some (.ref p)) s (p::q))->
   ∃D:Cn,D.toKx=c.toKx/\Bd D Y H (Z.set i (.fr (LO.nob cn fs ls).a)) [] []/\∀H' U,Bd D Y H' U [] []->(∃a,U[i]?=some (.fr a))->(U.set i .un).all uZ=true->Bd c Y H' (U.set i s) B θ:=by
  intro p q ex em lr mk;subst ex em;have nd:=b.nd;rw[e1,e2] at nd;obtain⟨n1,n2,n3⟩:=Q8.mp nd;obtain⟨m1,m2⟩:=kC n2;have ndq:(p::q).Nodup:=(Q8.mp (Q8.mp n2).1).2.1;have O:∀a,a∈L↔a∈X\/a∈p::q\/a∈M1++N:=λa=>by
   rw[e1,e2];simp only[QW];constructor
   .rintro(h|(h|h)|h)
    .exact .inl h
    .exact .inr (.inr (.inl h))
    .exact .inr (.inl h)
    .exact .inr (.inr (.inr h))
   .rintro(h|h|h|h)
    .exact .inl h
    .exact .inr (.inl (.inr h))
    .exact .inr (.inl (.inl h))
    .exact .inr (.inr h)
  have T:∀a∈L,∃u,H a=some u:=b.rel.is;have V:∀a∈L,a∉c.Hd:=λa ha=>b.xj ha;have nq:∀a∈p::q,a∉M1++N:=m2;have J:∀a∈X,a∉p::q:=λa ha hq=>n3 a ha a (QX _ (QV _ hq)) rfl;have F:∀a∈X,a∉M1++N:=λa ha hq=>by
   rcases QW.mp hq with z|z
   .exact n3 a ha a (QX _ (QX _ z)) rfl
   .exact n3 a ha a (QV _ z) rfl
  let D:Cn:={ c with H0:=H,Lp:=M1++N,Hd:=X++c.Hd,Wk:=[] }
  have d:∀{H':Hp}{K:List Addr}{a:Addr},a∈K\/a∈X\/a∈c.Hd->D.g H' K a=none:=λ{H' K a} h=>f6 (c:=D) (by rcases h with h|h|h;exact .inl h;exact .inr (QX _ h);exact .inr (QV _ h));have m:∀{H':Hp}{K:List Addr}{a:Addr},a∉K->a∉X->a∉c.Hd->D.g H' K a=H' a:=λ{H' K a} h1 h2 h3=>br (c:=D) h1 (λy=>by rcases QW.mp y with z|z;exact h2 z;exact h3 z);have sm0:Sq (c.g H L) (D.g H (M1++N)):=λa u e=>by
   by_cases z:a∈L\/a∈c.Hd
   .rw[f6 z] at e;cases e
   .have n:a∉L:=λy=>z (.inl y);rw[br n (λy=>z (.inr y))] at e;refine⟨u,?_,.inl rfl⟩;rw[m (λy=>n ((O a).mpr (.inr (.inr y)))) (λy=>n ((O a).mpr (.inl y))) (λy=>z (.inr y))];exact e
  have es2:Y.set i (some (.ref p))=Y:=by
   apply SV;intro j;by_cases I:i=j
   .subst I;rw[Rp (Q2.mp hx).1,hx]
   .rw[Rz I]
  refine⟨D,rfl,⟨M1++N,m1,?_,λa ha=>.inl ha,⟨λa o e=>⟨o,e,λ_ _=>rfl⟩,λw r=>nomatch r⟩,λj o I=>?_,rfl,λa ha=>?_⟩,?_⟩
  .have i1:=ins (G':=D.g H (M1++N)) (H':=H) (y:=some (.ref p)) (t:=.fr (LO.nob cn fs ls).a) (L':=[]) sm0 (λ_ _ _ e=>e) (.fr (lr.a' sm0 λa ha u e=>by rw[m (nq a ha) (λy=>J a y ha) (V a ((O a).mpr (.inr (.inl ha))))];exact e))
   rw[es2,RK] at i1;exact i1
  .by_cases k:i=j
   .subst k;rw[Rp (Q2.mp es).1] at I;cases I
   .rw[Rz k] at I;exact b.kp j o I
  .rcases QW.mp ha with z|z
   .exact⟨T a ((O a).mpr (.inl z)),F a z⟩
   .obtain⟨⟨u,f⟩,_⟩:=b.hd a z;obtain⟨u',h1,_⟩:=b.fr.st a u f;exact⟨⟨u',h1⟩,λy=>V a ((O a).mpr (.inr (.inr y))) z⟩
  .rintro H' U ⟨L',Q⟩ ⟨a0,ea0⟩ hpl;have hZ:∀a u,H a=some u->a∉M1++N->H' a=some u:=λa u e na=>by obtain⟨u',h1,h2⟩:=Q.fr.st a u e;rw[h1,h2 na λw r=>nomatch r]
   have P:∀a∈p::q,∀u,H a=some u->H' a=some u:=λa ha u e=>hZ a u e (nq a ha);have h1':∀a∈X,∀u,H a=some u->H' a=some u:=λa ha u e=>hZ a u e (F a ha);have npL:∀a∈p::q,a∉L':=λa ha y=>by
    rcases Q.own a y with z|z
    .exact nq a ha z
    .obtain⟨u,f⟩:=T a ((O a).mpr (.inr (.inl ha)));have z:H a=none:=z;rw[f] at z;cases z
   have n1L:∀a∈X,a∉L':=λa ha y=>Q.xj y (QX _ ha);have rel':aA c.toKx (D.g H' L') H' Y U L':=Q.rel;obtain⟨y,E,N2,N3,hy,hys,e4,ins2⟩:=rel'.Gi ea0;have yp:y=some (.ref p):=by rw[hx] at hy;exact(Q9 hy).symm
   subst yp;cases hys with
   |fr hra=>
    have eL:L'=E++N3:=by rw[e4];simp
    have hN:∀a,a∈X++(E++((p::q)++N3))↔a∈X\/a∈p::q\/a∈L':=λa=>by
     rw[eL];simp only[QW];constructor
     .rintro(h|h|h|h)
      .exact .inl h
      .exact .inr (.inr (.inl h))
      .exact .inr (.inl h)
      .exact .inr (.inr (.inr h))
     .rintro(h|h|h|h)
      .exact .inl h
      .exact .inr (.inr (.inl h))
      .exact .inr (.inl h)
      .exact .inr (.inr (.inr h))
    have lq:Tq (D.g H' L') (c.g H' (X++(E++((p::q)++N3)))):=λa u e nl ni=>by
     by_cases z:a∈L'\/a∈X\/a∈c.Hd
     .rw[d z] at e;cases e
     .rw[m (λy=>z (.inl y)) (λy=>z (.inr (.inl y))) (λy=>z (.inr (.inr y)))] at e;rw[br (λy=>?_) (λy=>z (.inr (.inr y)))]
      .exact e
      .rcases(hN a).mp y with w|w|w
       .exact z (.inr (.inl w))
       .rcases lr.kind a w with ⟨us,f⟩|⟨C,dx,fs,f⟩
        .rw[P a w _ f] at e;exact nl us (Q9 e).symm
        .rw[P a w _ f] at e;exact ni C dx fs (Q9 e).symm
       .exact z (.inl w)
    have sq:Sq (c.g H L) (c.g H' (X++(E++((p::q)++N3)))):=λa u e=>by
     by_cases z:a∈L\/a∈c.Hd
     .rw[f6 z] at e;cases e
     .have n:a∉L:=λy=>z (.inl y);rw[br n (λy=>z (.inr y))] at e;refine⟨u,?_,.inl rfl⟩;rw[br (λy=>?_) (λy=>z (.inr y))]
      .exact hZ a u e λy=>n ((O a).mpr (.inr (.inr y)))
      .rcases(hN a).mp y with w|w|w
       .exact n ((O a).mpr (.inl w))
       .exact n ((O a).mpr (.inr (.inl w)))
       .rcases Q.own a w with v|v
        .exact n ((O a).mpr (.inr (.inr v)))
        .have v:H a=none:=v;rw[e] at v;cases v
    have cg:aA c.toKx (c.g H' (X++(E++((p::q)++N3)))) H' Y (U.set i s) (E++((p::q)++N3)):=by refine ins2 (λ{x t L} j I hne h=>h.pl lq (RG.mp hpl t ?_)) (mk _ _ (lr.sm sq P));exact Rt (by rw[Rz (Sd hne)];exact I:(U.set i .un)[j]?=some t)
    refine⟨X++(E++((p::q)++N3)),?_,(r1.sm sq h1').app cg,λa ha=>?_,⟨λa o e=>?_,λw r=>?_⟩,λj o I=>?_,b.lt,b.hd⟩
    .have pm:(E++((p::q)++N3)).Perm ((p::q)++(E++N3)):=by rw[<-QZ,<-QZ];exact Sw.append_right N3
     refine Q8.mpr ⟨n1,(pm.nodup_iff).mpr (Q8.mpr ⟨ndq,by rw[<-eL];exact Q.nd,λa ha b hb z=>npL a ha (by rw[eL,z];exact hb)⟩),λa ha b hb z=>?_⟩;subst z;rcases QW.mp (pm.mem_iff.mp hb) with w|w
     .exact J a ha w
     .exact n1L a ha (by rw[eL];exact w)
    .rcases(hN a).mp ha with w|w|w
     .exact b.own a ((O a).mpr (.inl w))
     .exact b.own a ((O a).mpr (.inr (.inl w)))
     .rcases Q.own a w with v|v
      .exact b.own a ((O a).mpr (.inr (.inr v)))
      .exact .inr (b.fr.fresh v)
    .obtain⟨u,f1,f2⟩:=b.fr.st a o e;obtain⟨u',g1,g2⟩:=Q.fr.st a u f1;refine⟨u',g1,λk1 l=>?_⟩;rw[g2 (λy=>?_) λw r=>nomatch r]
     .exact f2 k1 l
     .rcases b.own a ((O a).mpr (.inr (.inr y))) with v|v
      .exact k1 v
      .rw[e] at v;cases v
    .obtain⟨k1,l,k3⟩:=b.fr.pk w r;refine⟨hZ _ _ k1 λy=>?_,l,k3⟩;have hw2:=(O w.1).mpr (.inr (.inr y));obtain⟨ob,vs,l⟩:=l;exact b.rel.ve _ hw2 ob vs (by rw[k1,l])
    .by_cases k:i=j
     .subst k;have hlt:i<U.length:=(Q2.mp ea0).1;rw[Rp hlt] at I;cases I;exact b.kp i o es
     .rw[Rz k] at I;exact Q.kp j o I
 rcases hs with rfl|rfl
 .cases R with
  |lv h=>exact S _ _ rfl rfl h λG H' h=>.lv h
 .cases R with
  |pv h=>exact S _ _ rfl rfl h λG H' h=>.pv h
end
noncomputable def rN:Option Sl->Bool
 |some (.fr _)=>true
 |_=>false
theorem ub{o:Option Sl}(h:rN o=true):∃a,o=some (.fr a):=by
 cases o with
 |none=>cases h
 |some s=>cases s<;>first|exact⟨_,rfl⟩|cases h
def nF(i:Nat)(t:Mi Bool):Mi Bool:=λZ=>match Z[i]? with
 |some (.lv (.nob c fs ls))=>match t (Z.set i (.fr (LO.nob c fs ls).a)) with
  |some (.ok b,U)=>if rN U[i]?&&(U.set i .un).all uZ then some (.ok b,U.set i (.lv (.nob c fs ls))) else none
  |_=>none
 |some (.pv (.nob c fs ls))=>match t (Z.set i (.fr (LO.nob c fs ls).a)) with
  |some (.ok b,U)=>if rN U[i]?&&(U.set i .un).all uZ then some (.ok b,U.set i (.pv (.nob c fs ls))) else none
  |_=>none
 |_=>t Z
theorem Dw{X:Cx}{t:Mi Bool}(h:JT X E e t):JT X E e (nF i t):=⟨PT.weaken h.p λY H Q h=>by
 obtain⟨c,Z,B,θ,o,O,r,b,em,q⟩:=h;have C:∀(s:Sl)(cn:Str)(fs:List (Str×A))(ls:List (Str×List A)),Z[i]?=some s->(s=.lv (.nob cn fs ls)\/s=.pv (.nob cn fs ls))->(match t (Z.set i (.fr (LO.nob cn fs ls).a)) with
   |some (.ok b,U)=>if rN U[i]?&&(U.set i .un).all uZ then some ((.ok b:Except Str Bool),U.set i s) else none
   | _=>none)=some (o,O)->vG (kx X) E t Y H Q:=by
  intro s cn fs ls es u em;obtain⟨D,K,g,d⟩:=Bd.K7 b es u;split at em
  .rename_i x U F;split at em
   .rename_i hc;rw[QR] at hc;cases em;exact⟨D,_,[],[],.ok x,U,K.trans r,g,F,λy b1=>q y (d y U b1 (ub hc.1) hc.2)⟩
   .cases em
  .cases em
 unfold nF at em;split at em
 .rename_i cn fs ls es;exact C _ cn fs ls es (.inl rfl) em
 .rename_i cn fs ls es;exact C _ cn fs ls es (.inr rfl) em
 .exact⟨c,Z,B,θ,o,O,r,b,em,q⟩⟩
section
variable{c:Cn}{Y:St}{H:Hp}{Z:List Sl}{B:St}{θ:List Sl}
theorem fF.frame{L:List Addr}(b:fF c Y H Z B θ L):
  ∃D:Cn,D.toKx=c.toKx/\Bd D Y H Z [] []/\∀H' O J T,Bd D Y H' O J T->J.length=T.length->Bd c Y H' O (J++B) (T++θ)/\∀a u,H a=some u->a∉L->H' a=some u:=by
 obtain⟨C,L2,F,t,j⟩:=aA.split b.lt b.rel;have nd:=b.nd;rw[F] at nd;obtain⟨n1,n2,f⟩:=Q8.mp nd;have q:∀a,a∈L↔a∈C\/a∈L2:=λa=>by rw[F];exact QW
 have x:∀a∈L,∃u,H a=some u:=b.rel.is;have V:∀a∈L,a∉c.Hd:=λa ha=>b.xj ha
 let D:Cn:={ c with H0:=H,Lp:=L2,Hd:=C++c.Hd,Wk:=[] }
 have d:∀{H':Hp}{K:List Addr}{a:Addr},a∈K\/a∈C\/a∈c.Hd->D.g H' K a=none:=λ{H' K a} h=>f6 (c:=D) (by rcases h with h|h|h;exact .inl h;exact .inr (QX _ h);exact .inr (QV _ h));have m:∀{H':Hp}{K:List Addr}{a:Addr},a∉K->a∉C->a∉c.Hd->D.g H' K a=H' a:=λ{H' K a} h1 h2 h3=>br (c:=D) h1 (λy=>by rcases QW.mp y with z|z;exact h2 z;exact h3 z);have N:Sq (c.g H L) (D.g H L2):=λa u e=>by
  by_cases z:a∈L\/a∈c.Hd
  .rw[f6 z] at e;cases e
  .have n:a∉L:=λy=>z (.inl y);rw[br n (λy=>z (.inr y))] at e;refine⟨u,?_,.inl rfl⟩;rw[m (λy=>n ((q a).mpr (.inr y))) (λy=>n ((q a).mpr (.inl y))) (λy=>z (.inr y))];exact e
 refine⟨D,rfl,⟨L2,n2,j.sm N (λ_ _ _ e=>e),λa ha=>.inl ha,⟨λa o e=>⟨o,e,λ_ _=>rfl⟩,λw r=>nomatch r⟩,b.kp,rfl,λa ha=>?_⟩,?_⟩
 .rcases QW.mp ha with z|z
  .exact⟨x a ((q a).mpr (.inl z)),λy=>f a z a y rfl⟩
  .obtain⟨⟨u,hu⟩,_⟩:=b.hd a z;obtain⟨U,h1,_⟩:=b.fr.st a u hu;exact⟨⟨U,h1⟩,λy=>V a ((q a).mpr (.inr y)) z⟩
 .rintro H' O J T ⟨L',Q⟩ lt';have hZ:∀a u,H a=some u->a∉L2->H' a=some u:=λa u e G=>by obtain⟨U,h1,h2⟩:=Q.fr.st a u e;rw[h1,h2 G λw r=>nomatch r]
  have p:∀a∈C,a∉L':=λa ha y=>Q.xj y (QX _ ha);refine⟨?_,λa u e G=>hZ a u e λy=>G ((q a).mpr (.inr y))⟩;obtain⟨i,A,s,q1,q2⟩:=aA.split lt' Q.rel;have k:∀a,a∈i++(C++A)↔a∈C\/a∈L':=λa=>by
   rw[s];simp only[QW];constructor
   .rintro(h|h|h)
    .exact .inr (.inl h)
    .exact .inl h
    .exact .inr (.inr h)
   .rintro(h|h|h)
    .exact .inr (.inl h)
    .exact .inl h
    .exact .inr (.inr h)
  have X:Sq (D.g H' L') (c.g H' (i++(C++A))):=λa u e=>by
   by_cases z:a∈L'\/a∈C\/a∈c.Hd
   .rw[d z] at e;cases e
   .rw[m (λy=>z (.inl y)) (λy=>z (.inr (.inl y))) (λy=>z (.inr (.inr y)))] at e;refine⟨u,?_,.inl rfl⟩;rw[br (λy=>?_) (λy=>z (.inr (.inr y)))]
    .exact e
    .rcases(k a).mp y with w|w
     .exact z (.inr (.inl w))
     .exact z (.inl w)
  have sq:Sq (c.g H L) (c.g H' (i++(C++A))):=λa u e=>by
   by_cases z:a∈L\/a∈c.Hd
   .rw[f6 z] at e;cases e
   .have n:a∉L:=λy=>z (.inl y);rw[br n (λy=>z (.inr y))] at e;refine⟨u,?_,.inl rfl⟩;rw[br (λy=>?_) (λy=>z (.inr y))]
    .exact hZ a u e λy=>n ((q a).mpr (.inr y))
    .rcases(k a).mp y with w|w
     .exact n ((q a).mpr (.inl w))
     .rcases Q.own a w with v|v
      .exact n ((q a).mpr (.inr v))
      .have v:H a=none:=v;rw[e] at v;cases v
  have P:∀a∈C,∀u,H a=some u->H' a=some u:=λa ha u e=>hZ a u e λy=>f a ha a y rfl;refine⟨i++(C++A),?_,?_,λa ha=>?_,⟨λa o e=>?_,λw r=>?_⟩,Q.kp,by rw[Rc,Rc,lt',b.lt],b.hd⟩
  .have E:=Q.nd;rw[s] at E;obtain⟨m1,m2,m3⟩:=Q8.mp E;refine Q8.mpr ⟨m1,Q8.mpr ⟨n1,m2,λa ha b R z=>p a ha (by rw[s,z];exact QV _ R)⟩,λa ha b R z=>?_⟩;rcases QW.mp R with w|w
   .exact p b w (by rw[s,<-z];exact QX _ ha)
   .exact m3 a ha b w z
  .have:=(q1.sm X (λ_ _ _ e=>e)).app ((t.sm sq P).app (q2.sm X (λ_ _ _ e=>e)));simpa[QZ] using this
  .rcases(k a).mp ha with w|w
   .exact b.own a ((q a).mpr (.inl w))
   .rcases Q.own a w with v|v
    .exact b.own a ((q a).mpr (.inr v))
    .exact .inr (b.fr.fresh v)
  .obtain⟨u,f1,f2⟩:=b.fr.st a o e;obtain⟨U,g1,g2⟩:=Q.fr.st a u f1;refine⟨U,g1,λI l=>?_⟩;rw[g2 (λy=>?_) λw r=>nomatch r]
   .exact f2 I l
   .rcases b.own a ((q a).mpr (.inr y)) with v|v
    .exact I v
    .rw[e] at v;cases v
  .obtain⟨I,l,k3⟩:=b.fr.pk w r;refine⟨hZ _ _ I λy=>?_,l,k3⟩;have S:=(q w.1).mpr (.inr y);obtain⟨ob,vs,l⟩:=l;exact b.rel.ve _ S ob vs (by rw[I,l])
end
section
variable{X:Cx}{E:XK}
def rP(i:Nat)(h:Mi Rr):Mi Rr:=λZ=>match aE Z i with
 |some (.lst xs)=>match h Z with
  |some (.ok (.fr (.int k)),U)=>if k=0 then some (.ok (.rf i),U) else if k=1 then some (.ok (.fr (.tup xs)),U) else none
  |_=>none
 |_=>none
theorem KG{g:Expr}{P:Mi Rr}(d:X.N[i]?=some x)(j:nY X.env.scope x)(hd:gP x)(J:p4 x)(ht:JE X E g (bT eX (aa i)))(F:JE X E e P)
  (h1:starEach [.Name x px,g] X.env=(false,eval (.Name x px) X.env)::starEach [g] X.env)(h2:starEach [g] X.env=(false,eval g X.env)::starEach [] X.env)(hs:jR e):JE X E (.Subscript (.List [.Name x px,g] p1) e pos) (rP i P):=
 ⟨PE.weaken (GJ zP (yi (cq (cD d j hd J) (cq ht.p dB h2) h1)) F.p hs) λY H Q h=>by
  obtain⟨c,Z,B,θ,o,O,r,b,em,q⟩:=h;unfold rP at em;cases A:aE Z i with
  |none=>simp only[A] at em;cases em
  |some lo=>
   cases lo with
   |dic _=>simp only[A] at em;cases em
   |obj _ _=>simp only[A] at em;cases em
   |dit _=>simp only[A] at em;cases em
   |nob _ _ _=>simp only[A] at em;cases em
   |lst xs=>
    simp only[A] at em;obtain⟨K,wsX,z,hHX⟩:=fh b A;have C:res Z (.rf i)=some (.lst xs):=by
     unfold aE at A;unfold res;cases es:Z[i]? with
     |none=>simp only[es] at A;cases A
     |some s=>cases s with
      |un=>simp only[es] at A;cases A
      |fr a=>simp only[es] at A;cases A
      |lv I=>simp only[es] at A ⊢;cases A;rfl
      |pv I=>simp only[es] at A ⊢;cases A;rfl
    have T:bT eX (aa i) Z=some (.ok (.fr (.tup xs)),Z):=by
     have ev:aa i Z=some (.ok (.rf i),Z):=by
      unfold aE at A;unfold aa;cases es:Z[i]? with
      |none=>simp only[es] at A;cases A
      |some s=>cases s with
       |un=>simp only[es] at A;cases A
       |fr a=>simp only[es] at A;cases A
       |lv I=>simp only[es]
       |pv I=>simp only[es]
     unfold bT eU aV;rw[ev];dsimp only;rw[C];rfl
    refine⟨.ref K,z,c,Z,B,θ,.ok (.fr (.tup xs)),Z,r,b,T,λt H1 hvt b1=>?_⟩;refine⟨by show 2<=_;have:=jM;lia,λp hp=>?_⟩;have b1:Bd c Y H1 Z (some t::B) (.fr (.tup xs)::θ):=b1;obtain⟨L,bl⟩:=b1;have pL:p∉L:=λy=>by obtain⟨u,R⟩:=bl.rel.is p y;rw[hp] at R;cases R
    obtain⟨V,-,-⟩:=bl.new (o:=.lst [.ref K,t]) hp;obtain⟨S,k1,k2,k3⟩:=V.frame;split at em
    .rename_i k U e1;refine⟨S,Z,[],[],.ok (.fr (.int k)),U,k1.trans r,k2,e1,λw f hw b2=>?_⟩;have b2:Bd S Y f U [some w] [.fr (.int k)]:=b2;obtain⟨D,st⟩:=k3 f U _ _ b2 rfl;have D:Bd c Y f U (some w::some t::B) (.fr (.int k)::.fr (.tup xs)::θ):=D;have hl:f p=some (.lst [.ref K,t]):=st p _ bW pL;obtain⟨l,n,G⟩:=Bd.rH D;cases G;by_cases v:k=0
     .rw[if_pos v] at em;cases em;subst v;obtain⟨Lt,bt,-⟩:=Bd.rH ⟨l,n⟩;exact .inl ⟨p,[.ref K,t],0,.ref K,rfl,rfl,.inl (.inl hl),rfl,q _ _ z ⟨Lt,bt⟩⟩
     .rw[if_neg v] at em;by_cases m:k=1
      .rw[if_pos m] at em;cases em;subst m;exact .inl ⟨p,[.ref K,t],1,t,rfl,rfl,.inl (.inl hl),rfl,q _ _ trivial ⟨l,n⟩⟩
      .rw[if_neg m] at em;cases em
    .cases em⟩
end
open PySem L2 W
def eE(f:Ms)(das:List A):List Rr->Mi Rr:=λrs Z=>match cI (rs++das.map Rr.fr) Z with
 |some (as,S)=>match f (as.map sO) with
  |some (.rt s,T)=>match mR s,putL Z (rs++das.map Rr.fr) (au as.length T) S with
   |some r,some O=>some (.ok r,O)
   |_,_=>none
  |some (.ex x,T)=>match putL Z (rs++das.map Rr.fr) (au as.length T) S with
   |some O=>some (.error x,O)
   |none=>none
  |_=>none
 |none=>none
def Val(f:Ms)(as:List A)(a:A):Prop:=∃Z,f (as.map Sl.fr)=some (.rt (.fr a),Z)
def iP(f:Ms)(as:List A)(o:LO):Prop:=∃Z,f (as.map Sl.fr)=some (.rt (.lv o),Z)
def eR(f:Ms)(o:LO)(as:List A)(s:Sl)(o':LO):Prop:=∃Z,f (.pv o::as.map Sl.fr)=some (.rt s,.pv o'::Z)
theorem ke(as:List A)(Z:List Sl):cI (as.map Rr.fr) Z=some (as.map Sl.fr,Z):=by
 induction as generalizing Z with
 |nil=>rfl
 |cons a as l=>simp only[Ri,cI,take1,l]
theorem qj(as:List A):(as.map Sl.fr).map sO=as.map Sl.fr:=by rw[RV];rfl
theorem jI(S:List Sl):∀(as:List A)(ss:List Sl)(Z:List Sl),as.length=ss.length->putL S (as.map Rr.fr) ss Z=some Z
 |[],[],Z,_=>rfl
 |a::as,s::ss,Z,h=>by rw[Ri,putL,jI S as ss Z (by simpa using h)];rfl
 |[],_::_,_,h=>by simp at h
 |_::_,[],_,h=>by simp at h
variable{f:Ms}
theorem aR{as:List A}{a:A}(h:Val f as a)(Z:List Sl):eE f [] (as.map Rr.fr) Z=some (.ok (.fr a),Z):=by obtain⟨T,h⟩:=h;unfold eE;rw[Th,RK,ke];simp only[qj,h,mR];rw[jI _ _ _ _ (by rw[cB,QY])]
theorem dN{as:List A}(h:iP f as o)(Z:List Sl):eE f [] (as.map Rr.fr) Z=some (.ok (.nw o),Z):=by obtain⟨T,h⟩:=h;unfold eE;rw[Th,RK,ke];simp only[qj,h,mR];rw[jI _ _ _ _ (by rw[cB,QY])]
theorem dM{as:List A}{o':LO}{r:Rr}(h:eR f o as s o')(y:mR s=some r)(hl:aE Z i=some o):eE f [] (.rf i::as.map Rr.fr) Z=some (.ok r,setAt Z i o'):=by
 obtain⟨T,h⟩:=h;unfold aE at hl;unfold setAt;have hi:∀s,Z[i]?=some s->(Z.set i Sl.un)[i]?=some .un:=λs e=>Rp (Q2.mp e).1;have C:∀(s0:Sl)(k:LO->Sl),Z[i]?=some s0->take1 (.rf i) Z=some (.lv o,Z.set i .un)->(∀s O,O[i]?=some Sl.un->rA Z (.rf i) (.pv s) O=some (O.set i (k s)))->eE f [] (.rf i::as.map Rr.fr) Z=some (.ok r,Z.set i (k o')):=by
  intro s0 k es ht hp;unfold eE;rw[Th,RK,cI,ht];simp only[ke];have h':f (Wo sO (Sl.lv o::Wo Sl.fr as))=some (.rt s,.pv o'::T):=by rw[Ri,qj];exact h
  rw[h'];simp only[y];have d:au (Sl.lv o::Wo Sl.fr as).length (.pv o'::T)=.pv o'::au as.length T:=by rw[Q6,QY];rfl
  rw[d,putL,jI _ _ _ _ (by rw[cB])];simp only[hp _ _ (hi s0 es),List.set_set]
 cases es:Z[i]? with
 |none=>simp only[es] at hl;cases hl
 |some t=>
  cases t with
  |un=>simp only[es] at hl;cases hl
  |fr a=>simp only[es] at hl;cases hl
  |lv Y=>simp only[es] at hl;cases hl;refine C _ Sl.lv es (by unfold take1;simp only[es]) λs O e=>?_;unfold rA;simp only[es,e]
  |pv Y=>simp only[es] at hl;cases hl;refine C _ Sl.pv es (by unfold take1;simp only[es]) λs O e=>?_;unfold rA;simp only[es,e]
variable{G:Mg}
theorem zH{b:Ms}{as:List A}(P:Nat->List Sl->Prop)(h0:P 0 Z)(u:∀i a Z,as[i]?=some a->P i Z->∃U Z',G a Z=some U/\(b U=some (.nx,Z')\/b U=some (.ct,Z'))/\P (i+1) Z'):
  ∃O,forL G b as Z=some (.nx,O)/\P as.length O:=by
 have C:∀n i Z,as.length-i=n->i<=as.length->P i Z->∃O,forL G b (as.drop i) Z=some (.nx,O)/\P as.length O:=by
  intro n;induction n with
  |zero=>
   intro i Z e hi p;have:i=as.length:=by lia
   subst this;exact⟨Z,by rw[TC];rfl,p⟩
  |succ n l=>
   intro i Z e hi p;have H:i<as.length:=by lia
   obtain⟨U,Z',h1,h2,h3⟩:=u i as[i] Z (by simp[H]) p;obtain⟨O,h4,h5⟩:=l (i+1) Z' (by lia) H h3;refine⟨O,?_,h5⟩;rw[RT H,forL,h1];rcases h2 with h2|h2
   .simp only[h2];exact h4
   .simp only[h2];exact h4
 simpa using C as.length 0 Z (by simp) (R1 _) h0
theorem iQ{t:Mi Bool}{e:Mi Rr}{as:List A}(P:Nat->List A->List Sl->Prop)(h0:P 0 [] Z)
  (u:∀i a acc Z,as[i]?=some a->P i acc Z->∃U,G a Z=some U/\((∃Z' r F d T,t U=some (.ok true,Z')/\e Z'=some (.ok r,F)/\bA r F=some (d,T)/\P (i+1) (acc++[d]) T)\/∃Z',t U=some (.ok false,Z')/\P (i+1) acc Z')):
  ∃ys O,cX G t e as [] Z=some (ys,O)/\P as.length ys O:=by
 have C:∀n i acc Z,as.length-i=n->i<=as.length->P i acc Z->∃ys O,cX G t e (as.drop i) acc Z=some (ys,O)/\P as.length ys O:=by
  intro n;induction n with
  |zero=>
   intro i acc Z v hi p;have:i=as.length:=by lia
   subst this;exact⟨acc,Z,by rw[TC];rfl,p⟩
  |succ n x=>
   intro i acc Z v hi p;have H:i<as.length:=by lia
   obtain⟨U,h1,h2⟩:=u i as[i] acc Z (by simp[H]) p;rw[RT H,cX,h1];rcases h2 with ⟨Z',r,F,d,T,l,o,L,h⟩|⟨Z',l,o⟩
   .simp only[l,o,L];exact x (i+1) _ T (by lia) H h
   .simp only[l];exact x (i+1) _ Z' (by lia) H o
 simpa using C as.length 0 [] Z (by simp) (R1 _) h0
theorem kE{t:Mi Bool}{b:Ms}(P:Nat->List Sl->Prop)(Q:List Sl->Prop)(u:∀k Z,P k Z->(∃U,t Z=some (.ok false,U)/\Q U)\/∃U Z' X,t Z=some (.ok true,U)/\(b U=some (.nx,Z')\/b U=some (.ct,Z'))/\X<k/\P X Z'):
  ∀{n k:Nat}{Z:List Sl},P k Z->k<n->∃O,fU t b n Z=some (.nx,O)/\Q O:=by
 intro n;induction n with
 |zero=>intro k Z _ h;lia
 |succ n l=>
  intro k Z p hk;rcases u k Z p with ⟨U,h1,h2⟩|⟨U,Z',X,h1,h2,h3,h4⟩
  .exact⟨U,by rw[fU,h1],h2⟩
  .obtain⟨O,h5,m⟩:=l h4 (by lia);refine⟨O,?_,m⟩;rw[fU,h1];rcases h2 with h2|h2
   .simp only[h2];exact h5
   .simp only[h2];exact h5
theorem uq{n:Nat}(h:n<2^9500):n<B7:=Q7 h (by unfold B7;exact RY (by decide) (by decide))
noncomputable def nm(x:Num):A:=.tup [.int x.1,.int x.2]
theorem HP(x:Num):toD (nm x)=some (.tup [.int x.1,.int x.2]):=by simp[nm,toD,jw]
theorem KO(x y:Num):pq (nm x) (nm y)=some (decide (x=y)):=by unfold pq;simp only[HP];rw[if_pos (by simp[D.depth,D.fO])];obtain⟨x1,x2⟩:=x;obtain⟨q,h⟩:=y;simp[D.eq,D.eqs,T8]
theorem qw(i j:Int):pq (.int i) (.int j)=some (decide (i=j)):=by unfold pq;simp only[toD];rw[if_pos (by simp[D.depth])];simp[D.eq,T8]
section
variable{α β:Type}{Z:List Sl}
theorem Mm(i:Nat):aa i Z=(match Z[i]? with|some (.fr a)=>some (.ok (.fr a),Z)|some (.lv _)=>some (.ok (.rf i),Z)|some (.pv _)=>some (.ok (.rf i),Z)|_=>none):=rfl
def gO(f:A->A->Option Rr)(x y:Rr)(Z:List Sl):Option (Except Str Rr×List Sl):=match res Z x,res Z y with
 |some a,some b=>match f a b with
  |some r=>some (.ok r,Z)
  |none=>none
 |_,_=>none
def Po(f:A->Option Rr)(x:Rr)(Z:List Sl):Option (Except Str Rr×List Sl):=match res Z x with
 |some a=>match f a with
  |some r=>some (.ok r,Z)
  |none=>none
 |none=>none
theorem PX(m n:Mi Bool):qp m n Z=(match m Z with|some (.ok true,U)=>n U|some (.ok false,U)=>some (.ok false,U)|some (.error e,U)=>some (.error e,U)|none=>none):=by
 unfold qp aV;cases m Z with
 |none=>rfl
 |some p=>obtain⟨o,U⟩:=p;cases o with|error e=>rfl|ok k=>cases k<;>rfl
def tupK(rs:List Rr)(Z:List Sl):Option (Except Str Rr×List Sl):=match gc rs Z with
 |some (as,O)=>if as.length<=1000 then some (.ok (.fr (.tup as)),O) else none
 |none=>none
def lstK(rs:List Rr)(Z:List Sl):Option (Except Str Rr×List Sl):=match gc rs Z with
 |some (as,O)=>if as.length<=1000 then some (.ok (.nw (.lst as)),O) else none
 |none=>none
theorem GY(m n:Ms):av m n Z=(match m Z with|some (.nx,U)=>n U|r=>r):=rfl
def Dm(i:Nat)(r:Rr)(Z:List Sl):Option (Fl×List Sl):=match xQ r Z with
 |some (t,U)=>match put i t U with
  |some Z'=>some (.nx,Z')
  |none=>none
 |none=>none
def Pl(r:Rr)(Z:List Sl):Option (Fl×List Sl):=match Jc r Z with
 |some (s,O)=>some (.rt s,O)
 |none=>none
theorem MA(t:Mi Bool)(m n:Ms):fD t m n Z=(match t Z with|some (.ok true,U)=>m U|some (.ok false,U)=>n U|some (.error e,U)=>some (.ex e,U)|none=>none):=by
 unfold fD c7;cases t Z with
 |none=>rfl
 |some p=>obtain⟨o,U⟩:=p;cases o with|error e=>rfl|ok k=>cases k<;>rfl
theorem NX(loc:Nat)(m:Ms):bx loc m Z=(match m (Z++Rl loc .un) with|some (.nx,O)=>some (.rt (.fr .non),O)|some (.rt s,O)=>some (.rt s,O)|some (.ex x,O)=>some (.ex x,O)|_=>none):=by
 unfold bx;cases m (Z++Rl loc .un) with
 |none=>rfl
 |some p=>obtain⟨f,U⟩:=p;cases f<;>rfl
theorem F8(m:Mi (List A))(G:Mg)(b:Ms):dt m G b Z=(match m Z with|some (.ok as,U)=>forL G b as U|some (.error e,U)=>some (.ex e,U)|none=>none):=by
 unfold dt c7;cases m Z with
 |none=>rfl
 |some p=>
  obtain⟨o,U⟩:=p;cases o with
  |error e=>rfl
  |ok x=>rfl
def O4(r:Rr)(Z:List Sl):Option (Except Str (List A)×List Sl):=match bA r Z with
 |some (a,O)=>match KN a with
  |some as=>some (.ok as,O)
  |none=>none
 |none=>none
def rT(r:Rr)(Z:List Sl):Option (Except Str (List A)×List Sl):=match res Z r with
 |some (.int j)=>if -(2^60)<=j/\j<2^60 then some (.ok (fT 0 j.toNat),Z) else none
 |_=>none
def jc(n:Nat)(G:Mg)(t:Mi Bool)(e:Mi Rr)(as:List A)(Z:List Sl):Option (Except Str Rr×List Sl):=if as.length<=100000 then match cX G t e as [] (Z++Rl n .un) with
 |some (ys,O)=>some (.ok (.nw (.lst ys)),O.take Z.length)
 |none=>none else none
def Qx(i:Nat)(r:Rr)(Z:List Sl):Option (Except Str Rr×List Sl):=match bA r Z with
 |some (a,U)=>match aE U i with
  |some (.lst xs)=>if xs.length<=16000000 then some (.ok (.fr .non),setAt U i (.lst (xs++[a]))) else none
  |_=>none
 |none=>none
def QC(i:Nat)(r rk:Rr)(Z:List Sl):Option (Fl×List Sl):=match bA r Z with
 |some (a,U)=>match res U rk,aE U i with
  |some (.int k),some (.lst xs)=>match oW xs.length k with
   |some j=>some (.nx,setAt U i (.lst (xs.set j a)))
   |none=>none
  |_,_=>none
 |none=>none
def dK(i:Nat)(r rk:Rr)(Z:List Sl):Option (Fl×List Sl):=match bA r Z with
 |some (a,U)=>match res U rk,aE U i with
  |some ka,some (.dic kvs)=>match gT ka with
   |some y=>if kvs.length<=100000 then some (.nx,setAt U i (.dic (hE kvs y a))) else none
   |none=>none
  |_,_=>none
 |none=>none
def Qr(r:Rr)(Z:List Sl):Option (Except Str Rr×List Sl):=match bA r Z with
 |some (a,O)=>some (.ok (.fr a),O)
 |none=>none
end
section
variable{Z:List Sl}
def Qc(cs:List Str)(i:Nat)(f:Str)(r:Rr)(Z:List Sl):Option (Fl×List Sl):=match bA r Z with
 |some (a,U)=>match aE U i with
  |some (.obj c fs)=>if cs.contains c&&Ti fs.length 900 then some (.nx,setAt U i (.obj c (oO f a fs))) else none
  |_=>none
 |none=>none
def uV(cn:Str)(f:Ms)(das:List A)(rs:List Rr)(Z:List Sl):Option (Except Str Rr×List Sl):=match cI (rs++das.map Rr.fr) Z with
 |some (as,S)=>match f (.pv (.obj cn [])::as.map sO) with
  |some (.rt (.fr .non),.pv o2::Y)=>match putL Z (rs++das.map Rr.fr) (au as.length Y) S with
   |some O=>some (.ok (.nw o2),O)
   |none=>none
  |some (.ex x,s::Y)=>match putL Z (rs++das.map Rr.fr) (au as.length Y) S with
   |some O=>some (.error x,O)
   |none=>none
  |_=>none
 |none=>none
def NR(cn mn:Str)(r:Rr)(Z:List Sl):Option (Except Str Rr×List Sl):=match res Z r with
 |some (.obj c fs)=>if c==cn&&(fs.lookup mn).isNone then some (.ok r,Z) else none
 |_=>none
theorem Fc(a b:A):we a b=(n5 λi j=>if fits 20000 i&&fits 20000 j then some (.fr (.int (i*j))) else none) a b:=rfl
theorem Ir(a b:A):lH a b=(n5 λi j=>if j != 0&&fits 9000 j then some (.fr (.int (i.fdiv j))) else none) a b:=rfl
end
noncomputable def np:Sl->Bool
 | .pv _=>false
 |_=>true
theorem LL(i:Nat)(s:Sl)(Z:List Sl):put i s Z=(match Z[i]? with|some t=>if np t=true then some (Z.set i s) else none|none=>none):=by
 unfold put;cases Z[i]? with
 |none=>rfl
 |some t=>cases t<;>rfl
def Wp(m:Ms)(Z:List Sl)(Q:Fl->List Sl->Prop):Prop:=∃f O,m Z=some (f,O)/\Q f O
section
variable{m n b:Ms}{Z U:List Sl}{Q:Fl->List Sl->Prop}
theorem Wp.st(h:m Z=some (.nx,U))(k:Wp n U Q):Wp (av m n) Z Q:=by obtain⟨f,O,e,q⟩:=k;exact⟨f,O,by rw[GY,h];exact e,q⟩
theorem Wp.sq(k:Wp m Z λf U=>f=.nx/\Wp n U Q):Wp (av m n) Z Q:=by obtain⟨f,U,e,rfl,R,Z',j,q⟩:=k;exact⟨R,Z',by rw[GY,e];exact j,q⟩
theorem Wp.en{f:Fl}(h:m Z=some (f,U))(q:Q f U):Wp m Z Q:=⟨_,_,h,q⟩
theorem Wp.mono{X:Fl->List Sl->Prop}(k:Wp m Z Q)(h:∀f U,Q f U->X f U):Wp m Z X:=by obtain⟨f,U,e,q⟩:=k;exact⟨f,U,e,h f U q⟩
theorem Wp.ft{t:Mi Bool}(h:t Z=some (.ok true,U))(k:Wp m U Q):Wp (fD t m n) Z Q:=by obtain⟨f,O,e,q⟩:=k;exact⟨f,O,by rw[MA,h];exact e,q⟩
theorem Wp.fr{H:Mi (List A)}{as:List A}(P:Nat->List Sl->Prop)(h:H Z=some (.ok as,U))(h0:P 0 U)(u:∀i a Z,as[i]?=some a->P i Z->∃U,G a Z=some U/\Wp b U λf Z'=>(f=.nx\/f=.ct)/\P (i+1) Z')(j:∀O,P as.length O->Q .nx O):Wp (dt H G b) Z Q:=by
 obtain⟨O,h1,h2⟩:=zH (G:=G) (b:=b) (as:=as) P h0 (λi a Z ha p=>by
  obtain⟨U,g,f,Z',e,hf,S⟩:=u i a Z ha p;refine⟨U,Z',g,?_,S⟩;rcases hf with rfl|rfl
  .exact .inl e
  .exact .inr e)
 exact⟨_,O,by rw[F8,h];exact h1,j O h2⟩
theorem Wp.OP{H:Mi (List A)}(as:List A)(P:List Sl->Prop)(h:H Z=some (.ok as,U))(h0:P U)(u:∀a∈as,∀Z,P Z->∃U,G a Z=some U/\Wp b U λf Z'=>(f=.nx\/f=.ct)/\P Z')(j:∀O,P O->Q .nx O):Wp (dt H G b) Z Q:=
 Wp.fr (λ_=>P) h h0 (λ_ a Z ha p=>u a (Rt ha) Z p) j
theorem Wp.df{loc:Nat}(k:Wp m (Z++Rl loc .un) λf O=>match f with | .nx=>Q (.rt (.fr .non)) O | .rt s=>Q (.rt s) O | .ex x=>Q (.ex x) O|_=>False):Wp (bx loc m) Z Q:=by
 obtain⟨f,O,e,q⟩:=k;unfold Wp;rw[NX,e];cases f with
 |nx=>exact⟨_,_,rfl,q⟩
 |rt s=>exact⟨_,_,rfl,q⟩
 |ex x=>exact⟨_,_,rfl,q⟩
 |bk=>exact q.elim
 |ct=>exact q.elim
theorem Val.of{as:List A}{a:A}(k:Wp f (as.map Sl.fr) λg _=>g=.rt (.fr a)):Val f as a:=by obtain⟨g,O,e,rfl⟩:=k;exact⟨O,e⟩
theorem iP.of{as:List A}(k:Wp f (as.map Sl.fr) λg _=>g=.rt (.lv o)):iP f as o:=by obtain⟨g,O,e,rfl⟩:=k;exact⟨O,e⟩
theorem eR.of{as:List A}{R:Sl->LO->Prop}(k:Wp f (.pv o::as.map Sl.fr) λg Z=>∃s o' U,g=.rt s/\Z=.pv o'::U/\R s o'):∃s o',eR f o as s o'/\R s o':=by obtain⟨g,O,e,s,o',U,rfl,rfl,r⟩:=k;exact⟨s,o',⟨U,e⟩,r⟩
end
def Dt(n:Nat)(a:A):Prop:=∃d,toD a=some d/\D.depth d<=n
def ud(n:Nat)(as:List A):Prop:=∃ds,jw as=some ds/\D.fO ds<=n
theorem Dt.int{n:Nat}(i:Int):Dt n (.int i):=⟨.int i,by rw[toD],by simp[D.depth]⟩
theorem Dt.str{n:Nat}(x:Str):Dt n (.str x):=⟨.str x,by rw[toD],by simp[D.depth]⟩
theorem ud.nil{n:Nat}:ud n []:=⟨[],by rw[jw],by simp[D.fO]⟩
theorem ud.cons{n:Nat}{a:A}{as:List A}(h:Dt n a)(k:ud n as):ud n (a::as):=by obtain⟨d,h1,h2⟩:=h;obtain⟨ds,h3,h4⟩:=k;exact⟨d::ds,by rw[jw,h1,h3],by rw[D.fO];lia⟩
theorem ud.of{n:Nat}:∀{as:List A},(∀a∈as,Dt n a)->ud n as
 |[],_=>.nil
 |a::as,h=>.cons (h a Rb) (ud.of λb d=>h b (Q4 _ d))
theorem Dt.tup{n:Nat}{as:List A}(h:ud n as):Dt (n+1) (.tup as):=by obtain⟨ds,h1,h2⟩:=h;exact⟨.tup ds,by rw[toD,h1],by rw[D.depth];lia⟩
theorem Dt.lst{n:Nat}{as:List A}(h:ud n as):Dt (n+1) (.lst as):=by obtain⟨ds,h1,h2⟩:=h;exact⟨.lst ds,by rw[toD,h1],by rw[D.depth];lia⟩
theorem Dt.nm{n:Nat}(x:Num):Dt (n+1) (nm x):=Dt.tup (.cons (.int _) (.cons (.int _) .nil))
theorem jT{a:A}(h:Dt 40 a):pq a a=some true:=by obtain⟨d,h1,h2⟩:=h;unfold pq;simp only[h1];rw[if_pos h2,D.lZ]
theorem gz(n:Nat):(fT 0 n).length=n:=by simp[fT]
theorem kU{n:Nat}{a:A}(h:(fT 0 n)[i]?=some a):i<n/\a=.int i:=by have hi:=(Q2.mp h).1;rw[gz] at hi;unfold fT at h;rw[Rn,Tf hi] at h;simp at h;exact⟨hi,h.symm⟩
variable{P:List Sl->Prop}
section
variable{Z:List Sl}
def Pc(i:Nat)(r:Rr)(Z:List Sl):Option (Except Str Rr×List Sl):=match bA r Z with
 |some (.lst zs,U)=>match aE U i with
  |some (.lst xs)=>if xs.length+zs.length<=100000 then some (.ok (.fr .non),setAt U i (.lst (xs++zs))) else none
  |_=>none
 |_=>none
theorem wH{t:Mi Bool}{e:Mi Rr}{xs:List A}{f:A->A}(x:∀Z,P Z->aE Z i=some (.lst xs))
  (h:∀a,a∈xs->∀Z,P Z->∃U,G a Z=some U/\∃Z',t U=some (.ok true,Z')/\∃r F,e Z'=some (.ok r,F)/\∃T,bA r F=some (f a,T)/\P T):
  ∀(n j:Nat)(acc:List A)(Z:List Sl),P Z->xs.length<=j+n->j<=xs.length->∃O,dy i G t e (n+1) j acc Z=some (acc++(xs.drop j).map f,O)/\P O:=by
 intro n;induction n with
 |zero=>
  intro j acc Z hp h1 h2;have I:j=xs.length:=by lia
  subst I;refine⟨Z,?_,hp⟩;unfold dy;rw[x Z hp];simp
 |succ n l=>
  intro j acc Z hp h1 h2;by_cases I:j=xs.length
  .subst I;refine⟨Z,?_,hp⟩;unfold dy;rw[x Z hp];simp
  .have hl:j<xs.length:=by lia
   obtain⟨U,X,Z',D,r,F,m,T,p,Y⟩:=h xs[j] (Sk hl) Z hp;obtain⟨O,o,g⟩:=l (j+1) (acc++[f xs[j]]) T Y (by lia) (by lia);refine⟨O,?_,g⟩;unfold dy;rw[x Z hp];simp only[Rg hl,X,D,m,p];rw[o,RT hl,Ri,QZ];rfl
theorem oC{m:Nat}{t:Mi Bool}{e:Mi Rr}{xs:List A}{f:A->A}(n:∀Z,P Z->aE Z i=some (.lst xs))(hl:xs.length<=100000)
  (h:∀a,a∈xs->∀Z,P Z->∃U,G a Z=some U/\∃Z',t U=some (.ok true,Z')/\∃r F,e Z'=some (.ok r,F)/\∃T,bA r F=some (f a,T)/\P T)(hp:P (Z++Rl m .un)):
  ∃O,cJ m i G t e Z=some (.ok (.nw (.lst (xs.map f))),O.take Z.length)/\P O:=by
 obtain⟨O,o,g⟩:=wH n h 100000 0 [] _ hp (by lia) (by lia);refine⟨O,?_,g⟩;unfold cJ;rw[o];simp
end
variable{ms:Mi (List Rr)}{rs:List Rr}{b:Bool}
section
variable{α β:Type}{Z S U Z' F:List Sl}{m n mk:Mi Rr}{t u:Mi Bool}{x y r rk:Rr}
theorem bk{m:Mi α}{f:α->Mi β}{x:α}{q:Option (Except Str β×List Sl)}(h:m Z=some (.ok x,U))(k:f x U=q):aV m f Z=q:=by unfold aV;rw[h];exact k
theorem sk{m:Mi α}{f:α->Ms}{x:α}{q:Option (Fl×List Sl)}(h:m Z=some (.ok x,U))(k:f x U=q):c7 m f Z=q:=by unfold c7;rw[h];exact k
theorem aj{das:List A}(h:ms Z=some (.ok rs,U))(c:eE f das rs U=some (.ok r,Z')):bq f das ms Z=some (.ok r,Z'):=bk h c
theorem af(h:m Z=some (.ok x,U))(k:ms U=some (.ok rs,Z')):aJ m ms Z=some (.ok (x::rs),Z'):=bk h (bk k rfl)
theorem ao{f:A->A->Option Rr}(h:m Z=some (.ok x,U))(k:n U=some (.ok y,Z'))(o:gO f x y Z'=some (.ok r,F)):aC f m n Z=some (.ok r,F):=bk h (bk k o)
theorem bE{f:A->Option Rr}(h:m Z=some (.ok x,U))(o:Po f x U=some (.ok r,Z')):eU f m Z=some (.ok r,Z'):=bk h o
theorem eA(h:m Z=some (.ok x,U))(o:Qr x U=some (.ok r,Z')):fY m Z=some (.ok r,Z'):=bk h o
theorem cz(h:ms Z=some (.ok rs,U))(o:tupK rs U=some (.ok r,Z')):bX ms Z=some (.ok r,Z'):=bk h o
theorem gB(h:ms Z=some (.ok rs,U))(o:lstK rs U=some (.ok r,Z')):cO ms Z=some (.ok r,Z'):=bk h o
theorem iY{das:List A}(h:ms Z=some (.ok rs,U))(c:uV cn f das rs U=some (.ok r,Z')):fM cn f das ms Z=some (.ok r,Z'):=bk h c
theorem p3(h:m Z=some (.ok x,U))(c:NR cn mn x U=some (.ok r,Z')):bg cn mn m Z=some (.ok r,Z'):=bk h c
theorem aD(h:m Z=some (.ok (.fr (.bl b)),U)):ag m Z=some (.ok b,U):=bk h rfl
theorem dk(h:t Z=some (.ok b,U)):fG t Z=some (.ok (!b),U):=bk h rfl
theorem fQ(h:t Z=some (.ok false,U))(k:u U=some (.ok b,Z')):oI t u Z=some (.ok b,Z'):=bk h k
theorem Fp(h:t Z=some (.ok false,U)):qp t u Z=some (.ok false,U):=bk h rfl
theorem DM(h:t Z=some (.ok true,U))(k:u U=some (.ok b,Z')):qp t u Z=some (.ok b,Z'):=bk h k
theorem j4(h:m Z=none)(k:n Z=some (.ok r,U)):aQ m n Z=some (.ok r,U):=by unfold aQ;rw[h];exact k
theorem cY(h:m Z=some (.ok r,U)):aQ m n Z=some (.ok r,U):=by unfold aQ;rw[h]
theorem uC(h:m Z=some (.ok r,U))(k:Dm i r U=some (.nx,Z')):aO i m Z=some (.nx,Z'):=sk h k
theorem lS(h:m Z=some (.ok r,S))(d:Dq S i=true)(hk:mk S=some (.ok rk,U))(k:dK i r rk U=some (.nx,Z')):kh i mk m Z=some (.nx,Z'):=sk h ((if_pos d).trans (sk hk k))
theorem aY{f:Fl}(h:m Z=some (.ok r,U))(k:Pl r U=some (f,Z')):bh m Z=some (f,Z'):=sk h k
theorem gw(h:m Z=some (.ok r,U)):bK m Z=some (.nx,U):=sk h rfl
theorem Ln{a:Sl}(h:xQ r Z=some (a,U))(k:U[i]?=some s)(hn:np s=true):Dm i r Z=some (.nx,U.set i a):=by unfold Dm;rw[h];dsimp only;rw[LL,k];dsimp only;rw[if_pos hn]
theorem Ft{a:A}{Y:A}{kvs:List (Key×A)}{q:Key}(h:bA r Z=some (a,U))(h1:res U rk=some Y)(h2:aE U i=some (.dic kvs))(h3:gT Y=some q)(hl:kvs.length<=100000):dK i r rk Z=some (.nx,setAt U i (.dic (hE kvs q a))):=by unfold dK;rw[h];dsimp only;rw[h1,h2];dsimp only;rw[h3];dsimp only;rw[if_pos hl]
end
end M
namespace W
open PySem L2
noncomputable def Be(o:Obj):Bool:=match o.data with
 | .freed=>false
 |_=>true
def ph:List Nat->List Obj->QU->QU
 |a::as,o::os,K=>ph as os (match Be o with|true=>(a,o)::K|false=>K)
 |_,_,K=>K
def iS(h:Heap):QU:=match h.get? mainGlobals with
 |some o=>(mainGlobals,o)::ph (Sg h.objs.size) h.objs.toList []
 |none=>[]
theorem oN{o:Obj}{a:Addr}:∀{K:QU},K.lookup a=some o->(a,o)∈K
 |(b,u)::K,e=>by
  rw[Rk] at e;split at e
  .rename_i q;cases e;rw[beq_iff_eq.mp q];exact Rb
  .exact Q4 _ (oN e)
theorem rY{h:Heap}:∀{as:List Nat}{os:List Obj}{K:QU},(∀(i a:Nat)(o:Obj),as[i]?=some a->os[i]?=some o->h.objs[a]?=some o)->(∀(a:Nat)(o:Obj),(a,o)∈K->h.get? a=some o)->∀a o,(a,o)∈ph as os K->h.get? a=some o
 |[],_,K,_,k=>by unfold ph;exact k
 |_::_,[],K,_,k=>by unfold ph;exact k
 |a::as,o::os,K,e,k=>by
  unfold ph;refine rY (λi b u h1 h2=>e (i+1) b u h1 h2) ?_;cases c:Be o with
  |false=>exact k
  |true=>
   intro b u m;rcases Ra.mp m with m|m
   .cases m;unfold Heap.get?;rw[e 0 a o rfl rfl];obtain⟨Y,F,j,Z⟩:=o;cases j<;>first|rfl|cases c
   .exact k b u m
theorem nh(h:Heap):(iS h).In h:=λa o e=>by
 have m:=oN e;unfold iS at m;split at m
 .rename_i o' H;rcases Ra.mp m with m|m
  .cases m;exact H
  .refine rY (λi b u h1 h2=>?_) (λ_ _ q=>by cases q) a o m;have hi:i<h.objs.size:=(Q2.mp h1).1 |> λq=>by rwa[UB] at q
   rw[Tf hi] at h1;cases h1;rw[<-S5];exact h2
 .cases m
noncomputable def Le(K:QU)(n:Str):Option (Str×Str×Arguments×FuncBody×Scope×Addr×List (Str×Addr)×Value×Addr×Bool):=
 match Vb K mainGlobals n with
 | some (some (.ref f))=>(match K.lookup f with
  |some ⟨_,_,.func d,_⟩=>some (d.name,d.qualname,d.params,d.body,d.scope,d.globals,d.closure,d.defaults,d.builtins,TZ K d.code n&&R8 K (.ref f))
  | _=>none)
 |_=>none
def Mc(n:Str)(st:Stmt):Option (Str×Str×Arguments×FuncBody×Scope×Addr×List (Str×Addr)×Value×Addr×Bool):=some (n,n,dO st,.stmts (fJ st),bu st,mainGlobals,[],.none,builtinsNs,true)
noncomputable def OZ(K:QU)(a:Addr)(i j:Int):Bool:=match K.lookup a with
 | some ⟨.type "tuple",none,.seq its _,_⟩=>(match its.toList with
  |[.int x _,.int y _]=>x==i&&y==j
  | _=>false)
 |_=>false
def K6(ds:List (Str×Stmt))(h:QU->Bool)(K:QU):=(ds.map λx=>Le K x.1,h K)
def K1(ds:List (Str×Stmt)):List (Option (Str×Str×Arguments×FuncBody×Scope×Addr×List (Str×Addr)×Value×Addr×Bool))×Bool:=(ds.map λx=>Mc x.1 x.2,true)
def hk(ds:List (Str×Stmt))(Z:QU->Bool):Wf where
 α:=List (Option (Str×Str×Arguments×FuncBody×Scope×Addr×List (Str×Addr)×Value×Addr×Bool))×Bool
 obs:=λs=>K6 ds Z (iS s.heap)
 val:=λ_=>K1 ds
 says:=λ_ h=>∃K:QU,K6 ds Z K=K1 ds/\K.In h
 of:=λ_ s e=>⟨iS s.heap,e,nh _⟩
 keeps:=λ_ _ _ ⟨K,e,i⟩ k=>⟨K,e,i.keeps k⟩
noncomputable def NI(p:Program):List Stmt:=p.main.body.filter λs=>match s with | .FunctionDef n ..=>n==("law" : Str)|_=>false
noncomputable def L5:Stmt->List Str
 | .FunctionDef n ..=>[n]
 | .ClassDef n ..=>[n]
 | .Assign [.Name n _] _ _=>[n]
 |_=>[]
def Oe(p:Program):Program:={ p with main:={ p.main with body:=NI p } }
def vq(p:Program):List Str:=(p.main.body.flatMap L5).filter λn=>n != ("law" : Str)
open PySem PySem.W PyProof.Rows
noncomputable abbrev GC:=W8
noncomputable abbrev tM:=W9
noncomputable abbrev MR:=Xa
noncomputable abbrev zM:=Xb
noncomputable abbrev GU:=Xc
noncomputable abbrev F5:=Xd
noncomputable abbrev BY:=Xe
theorem yb:denote=GC:=Xf
theorem o8:treeTable=tM:=Xg
theorem CM:stepOk=MR:=Xh
theorem xJ:stepT=zM:=Xi
theorem BK:importEnds=GU:=Xj
theorem AS:fenceModules?=F5:=Xk
theorem xm:openSeen=BY:=Xl
def yk(p:Program)(w:World)(Z:Nat)(h:Option Value):Nat->SharedT->Thread->Option SharedT
 |0,_,_=>none
 |m+1,s,t=>match through t with
  |true=>some s
  |false=>match MR Z h t with
   |false=>none
   |true=>match zM (GC tM) p w s t with
    |some (s',t')=>yk p w Z h m s' t'
    |none=>none
theorem wj{p:Program}{w:World}{Z:Nat}{h:Option Value}:∀{m:Nat}{s s2:SharedT}{t:Thread},yk p w Z h m s t=some s2->topRun treeTable p w Z h m s.abs t=some s2.abs
 |0,_,_,_,e=>by cases e
 |m+1,s,s2,t,e=>by
  unfold yk at e;rw[<-CM,<-xJ,<-yb,<-o8] at e;unfold topRun;cases L:through t with
  |true=>rw[L] at e;cases e;rfl
  |false=>
   rw[L] at e;simp only at e ⊢;cases a:stepOk Z h t with
   |false=>rw[a] at e;cases e
   |true=>
    rw[a] at e;simp only at e ⊢;cases es:stepT (denote treeTable) p w s t with
    |none=>rw[es] at e;cases e
    |some q=>obtain⟨r,K⟩:=q;rw[es] at e;rw[stepT_spec es];exact wj e
noncomputable def KZ:List Obj->Nat->BT->Option BT
 |[],_,t=>some t
 |o::os,n,t=>match ((t.ins n o).get n).isSome with
  |true=>KZ os (n+1) (t.ins n o)
  |false=>none
theorem zw(l:Life):∀{os:List Obj}{n:Nat}{t t':BT},KZ os n t=some t'->absHeap t' (n+os.length) l=⟨(absHeap t n l).objs++os.toArray,l⟩
 |[],n,t,t',e=>by cases e;show absHeap t n l=⟨(absHeap t n l).objs++#[],l⟩;rw[Array.append_empty];rfl
 |o::os,n,t,t',e=>by
  unfold KZ at e;cases H:((t.ins n o).get n).isSome with
  |false=>rw[H] at e;cases e
  |true=>
   rw[H] at e;have i:=zw l e;rw[absHeap_ins H] at i;have j:n+1+os.length=n+(o::os).length:=by rw[Q6];lia
   rw[<-j,i];show Heap.mk (((absHeap t n l).objs.push o)++os.toArray) l=_;simp
theorem zA{h:Heap}{t:BT}(e:KZ h.objs.toList 0 .nil=some t):absHeap t h.objs.size h.life=h:=by have i:=zw h.life e;rw[WQ,RN] at i;rw[i];obtain⟨objs,l⟩:=h;show Heap.mk (#[]++objs.toList.toArray) l=_;simp
def Jb(p:Program)(w:World)(N:Nat)(s₀:Shared):Option Shared:=match s₀.heap.isNs mainGlobals&&s₀.gens.size==0 with
 |true=>match KZ s₀.heap.objs.toList 0 .nil with
  |some t=>(yk p w s₀.heap.objs.size (s₀.heap.nsMap mainGlobals "__annotations__") N ⟨t,s₀.heap.objs.size,s₀.heap.life,s₀.gens,s₀.drawn,s₀.toks,s₀.os⟩ (topStub p)).bind λq=>match staticsOk (importedModules p.main.body) s₀.heap q.abs.heap&&namesBound p q.abs.heap&&gensDone q.abs&&laidKept s₀.heap q.abs.heap with
   |true=>some q.abs
   |false=>none
  |none=>none
 |false=>none
variable{p:Program}{w:World}{N:Nat}{s:Shared}
theorem CZ{s₀:Shared}(e:Jb p w N s₀=some s):topFrom treeTable p w N s₀=some s:=by
 unfold Jb at e;unfold topFrom;cases F:s₀.heap.isNs mainGlobals&&s₀.gens.size==0 with
 |false=>rw[F] at e;cases e
 |true=>
  rw[F] at e;simp only at e ⊢;cases j:KZ s₀.heap.objs.toList 0 .nil with
  |none=>rw[j] at e;cases e
  |some t=>
   rw[j] at e;simp only at e;cases Q:yk p w s₀.heap.objs.size (s₀.heap.nsMap mainGlobals "__annotations__") N ⟨t,s₀.heap.objs.size,s₀.heap.life,s₀.gens,s₀.drawn,s₀.toks,s₀.os⟩ (topStub p) with
   |none=>rw[Q] at e;cases e
   |some q=>
    rw[Q] at e;have k:=wj Q;have Z:Wq ⟨t,s₀.heap.objs.size,s₀.heap.life,s₀.gens,s₀.drawn,s₀.toks,s₀.os⟩=s₀:=by unfold Wq;rw[zA j]
    rw[Z] at k;rw[k];exact e
def vw(p:Program)(w:World)(N:Nat):Option Shared:=((GU tM (opening p) w N (start (opening p)).1 (start (opening p)).2).bind (F5 p)).bind (Jb p w N)
theorem AE(e:vw p w N=some s):openEnds treeTable p w N=some s:=by
 unfold vw at e;unfold openEnds fencedOpening;rw[<-BK,<-o8,<-AS] at e;cases F:(importEnds treeTable (opening p) w N (start (opening p)).1 (start (opening p)).2).bind (fenceModules? p) with
 |none=>rw[F] at e;cases e
 |some s0=>rw[F] at e;exact CZ e
theorem Bt{q:Program}{loose:List Str}{Xt:Shared->Bool}{α:Type}{Yf:Shared->α}{Ya:World->α}
  (h:∀w,Option.map (λs=>(BY q loose (importedModules p.main.body) Xt true s,Yf s)) (vw p w N)=some (openGood q loose,Ya w)):LeftO p q loose Xt Yf Ya N:=λw=>by
 have h:=h w;rw[<-xm] at h;cases e:vw p w N with
 |none=>rw[e] at h;cases h
 |some s=>rw[e] at h;rw[AE e];exact h
end W
namespace L2
open PySem PySem.Spec PyProof.Rows
section
variable{P:Program}{w:World}{K:QU}{mg:Str->Option Value}{base:Heap}{dV:Value}
theorem qx.Qt{CX:qY}{x qual:Str}{st:Stmt}{f:Addr}{fd:FuncData}{N ps:List Str}{k:Nat}{sp:Sp}(F:qx K x qual st f fd dV)(S:j6 N ps (bu st))(len:∀vs H Q E,sp vs H Q E->vs.length=ps.length)
  (X:∀(cdv:Value)(A:Around)(outer:List Env)(s:Shared)(H:Hp)(vs:List V)(Q:VK)(E:XK),cP k (A.deeper (envOfC qual (bu st) s.heap.objs.size f cdv))->sp vs H Q E->
   ∃t,sT (sZ CX P w K mg base N qual (bu st) f cdv A outer s H E) (fJ st) t/\t { nx:=λ_ H'=>Q .non H',rt:=Q } (start N vs) H):dg P w K mg base CX (k+1) f fd ps sp:=by
 obtain⟨oc,od,kV,doc,pm,an,cdv,ct,osl,rfl,L,J⟩:=F.ex;exact Nl L J S len λA outer s H vs Q E y Z=>X cdv A outer s H vs Q E y Z
end
end L2
namespace M
open PySem L2
section
variable{X:Cx}{E:XK}
theorem Ee{CX:qY}{P:Program}{w:World}{K:QU}{mg:Str->Option Value}{base:Heap}{dV:Value}{x qual:Str}{st:Stmt}{f:Addr}{fd:FuncData}{N ps:List Str}{k:Nat}{m:Ms}(F:qx K x qual st f fd dV)(S:j6 N ps (bu st))
  (d:∀(cdv:Value)(A:Around)(outer:List Env)(s:Shared)(H:Hp)(E:XK),cP k (A.deeper (Xm qual (bu st) s.heap.objs.size f cdv))->
   wu (sZ CX P w K mg base N qual (bu st) f cdv A outer s H E) E (fJ st) m):dg P w K mg base CX (k+1) f fd ps (iW ⟨K,mg,P,w⟩ ps.length (bx (N.length-ps.length) m)):=
 F.Qt S (λvs H Q E h=>h.1) λcdv A outer s H vs Q E y h=>by
  obtain⟨hn,c,Z,f,O,r,X,B,b,em,q⟩:=h;refine⟨_,(d cdv A outer s H E y).p,?_⟩;have bs:=b.start N X;rw[hn] at bs;unfold bx at em;cases e:m (Z++Rl (N.length-ps.length) .un) with
  |none=>simp only[e] at em;cases em
  |some p=>
   obtain⟨Y,U⟩:=p;simp only[e] at em;refine⟨c,_,[],[],Y,U,r,bs,e,?_⟩;have bk:∀{Z0:St}{H':Hp}{J:St}{T:List Sl},Bd c Z0 H' U J T->Bd c (vs.map some) H' (au vs.length U) J T:=λa=>by have:=a.back;rw[X,QY] at this;exact this
   cases Y with
   |nx=>cases em;exact λZ0 H' a=>q .non H' (λo z=>by cases z) ((bk a).push λ_=>.non)
   |rt s=>cases em;exact λv Z0 H' u a=>q v H' u (bk a)
   |ex x=>cases em;exact λC Z0 H' hm a=>q C H' hm (bk a)
   |bk=>cases em
   |ct=>cases em
noncomputable def ES:qY:=λ_ _ _ _ _ _=>False
noncomputable def fj:Ms:=λ_=>none
theorem D1{s:Stmt}:JS X E s fj:=⟨λpins s Y H D I h=>by obtain⟨c,Z,B,θ,f,O,r,b,em,q⟩:=h;cases em⟩
end
end M
namespace W
open PySem L2
theorem w8{CX:qY}{l:VQ}{n k:Nat}{q:Program}{loose:List Str}{XP:(Str->Option Value)->Heap->Prop}{YP:World->Heap->Prop}{d:DefRec}{x:Str}{sp:QU->Sp}
  (hn:l.most=some n)(p:n<=sizeLine)(E:d.params.defaults=[])(y:cP k callerA)
  (F:∀(w:World)(mg:Str->Option Value)(C:Addr)(h:Heap),YP w h->h.Ns mainGlobals mg->mg d.name=some (.ref C)->
   ∃K:QU,K.In h/\∃fd:FuncData,(∀(s:Shared)(u:Value),BindsTo s fd ⟨[u],[]⟩ [(x,u)])/\∀base:Heap,K.In base->base.Ns mainGlobals mg->dg l.prog w K mg base CX k C fd [x] (sp K))
  (A:∀l H s e s',CX l H s (λ_ _ _=>False) e s'->False) (J:∀(K:QU)(H:Hp)(a:Addr)(ns:List Int),ns.length<=n->HN H->gu K H a (ns.map V.int)->sp K [.ref a] H (λv _=>v=.bl true) λ_ _ _=>False):
  V7 q loose XP YP l.row.toRowW d [] (λf vs=>VJ f vs):=by
 refine Att.rV hn E λw s₀ Z mg mb C o pm cd doc a vs ns G Y P hd L Q c O m N=>?_;obtain⟨K,U,fd,R,i⟩:=F w mg C _ Y G.T.g Q;exact BQ U G.T.g G.T.b G.T.builtins G.T.nolimit N c O (Rm m p) y i R (λH X I=>J K H a ns m X I) λH e s' z=>A _ _ _ _ _ z
end W
namespace M
open PySem L2
structure FI where
 n:Nat
 m:Ms
 mu:List Bool
 df:List A
 hf:Bool
structure Tb where
 fns:List (Str×FI)
 cst:List (Str×A)
 exs:List Str
 kit:List (Str×List (Str×Bool))
 exm:List (Str×List Str)
 fld:List (Str×List Str)
 ini:List (Str×FI)
 mts:List (Str×Str×FI)
structure Sc where
 N:List Str
 nm:List (Str×NameKind)
 di:List Str
 ca:List Str
 hd:Bool
 lv:List Str
 tp:Bool:=false
noncomputable def Qe(s:Sc):Sc:={ s with tp:=false }
noncomputable def aq{α β:Type}(x:Option α)(f:α->Option β):Option β:=match x with
 |some a=>f a
 |none=>none
noncomputable def dP{α:Type}(b:Bool)(x:Option α):Option α:=match b with
 |true=>x
 |false=>none
variable{α:Type}
theorem ae{β:Type}{x:Option α}{f:α->Option β}{y:β}(h:aq x f=some y):∃a,x=some a/\f a=some y:=by
 cases x with
 |none=>cases h
 |some a=>exact⟨a,rfl,h⟩
theorem ay{b:Bool}{x:Option α}{y:α}(h:dP b x=some y):b=true/\x=some y:=by
 cases b with
 |false=>cases h
 |true=>exact⟨rfl,h⟩
def qW(s:Sc)(x:Str)(k:NameKind):Bool:=s.nm.lookup x==some k
def Et(s:Sc)(x:Str):Bool:=qW s x .local || qW s x .cell || qW s x .free
def t5(s:Sc)(x:Str):Bool:=qW s x .local || qW s x .cell
noncomputable def okN(x:Str):Bool:=!(x==("__debug__" : Str))&&!(x==("__classdict__" : Str))
def Cq(s:Sc)(x:Str):Bool:=qW s x .globalImplicit&&okN x
def oW(x:Str):List Str->Nat->Option Nat
 |[],_=>none
 |y::ys,i=>if x==y then some i else oW x ys (i+1)
theorem mf{x:Str}:∀{N:List Str}{k i:Nat},oW x N k=some i->∃j,i=k+j/\N[j]?=some x
 |[],_,_,h=>by cases h
 |y::ys,k,i,h=>by
  unfold oW at h;split at h
  .rename_i e;cases h;exact⟨0,rfl,by rw[beq_iff_eq.mp e];rfl⟩
  .obtain⟨j,F,S⟩:=mf h;exact⟨j+1,by lia,by simpa using S⟩
def slot(s:Sc)(x:Str):Option Nat:=dP (Et s x&&okN x) (oW x s.N 0)
def i8(s:Sc)(x:Str):Option Nat:=dP (t5 s x&&okN x) (oW x s.N 0)
noncomputable def CF:List Str:=["len", "isinstance", "abs", "max", "min", "int", "bool", "str", "tuple", "list", "dict", "range", "ValueError", "sorted", "all", "zip", "set", "sum", "enumerate", "any", "reversed"]
def nN(P:Program)(w:World)(K:QU)(mg:Str->Option Value)(fd:FuncData)(ps:List Str)(df:List A):Prop:=∀j,j<=df.length->∃ds dvs,Binds K fd ps ds/\Vals dvs ds/\∀G,bS ⟨K,mg,P,w⟩ G dvs (df.drop j)
noncomputable def oo(fi:FI)(n:Nat):List A:=fi.df.drop (fi.df.length-(fi.n-n))
variable{P:Program}{w:World}{K:QU}{mg:Str->Option Value}{fd:FuncData}{ps:List Str}
theorem nN.of{fi:FI}(h:nN P w K mg fd ps fi.df)(n:Nat):∃ds dvs,Binds K fd ps ds/\Vals dvs ds/\∀G,bS ⟨K,mg,P,w⟩ G dvs (oo fi n):=h _ (Xu _ _)
noncomputable def mK(tb:Tb)(f:Str):List Str:=(tb.fld.filter λp=>p.2.contains f).map (·.1)
noncomputable def FY(tb:Tb)(m:Str):List (Str×FI):=tb.mts.filterMap λp=>if p.1==m then some p.2 else none
structure Gd(tb:Tb)(k:Nat)(P:Program)(w:World)(K:QU)(mg:Str->Option Value)(base:Heap):Prop where
 fn:∀x f,tb.fns.lookup x=some f->∃a fd ps,dg P w K mg base ES k a fd ps (iW ⟨K,mg,P,w⟩ f.n f.m)/\mg x=some (.ref a)/\R8 K (.ref a)=true/\nN P w K mg fd ps f.df
 cs:∀x a,tb.cst.lookup x=some a->∃v u,mg x=some u/\RelV v u/\∀G,RA ⟨K,mg,P,w⟩ G v a
 bl:∀x∈CF,mg x=none
 fl:∀f c C,(mK tb f).contains c=true->mg c=some (.ref C)->k6 K C/\dr K C f
 im:∀c f,tb.ini.lookup c=some f->∃C a fd ps j,j+1<=k/\dg P w K mg base ES j a fd ps (iW ⟨K,mg,P,w⟩ f.n f.m)/\mg c=some (.ref C)/\Mk K C a/\nN P w K mg fd ps f.df
 mt:∀m c f,(m,c,f)∈tb.mts->∃C a fd ps,dg P w K mg base ES k a fd ps (iW ⟨K,mg,P,w⟩ f.n f.m)/\mg c=some (.ref C)/\k6 K C/\Meth K C m a/\nN P w K mg fd ps f.df
structure Sit(tb:Tb)(k:Nat)(X:Cx)(E:XK)(s:Sc):Prop where
 n:X.N=s.N
 nd:s.N.Nodup
 gl:∀x,s.nm.lookup x=some .globalImplicit->Gl X x
 vs:∀x,Et s x=true->nY X.env.scope x
 lo:∀x,t5 s x=true->Loc X.env.scope x
 lc:∀x,s.nm.lookup x=some .local->X.env.scope.names.lookup x=some .local
 ce:∀x,s.nm.lookup x=some .cell->X.env.scope.names.lookup x=some .cell
 fx:∀x,t5 s x=true->X.fn x=true\/X.env.scope.names.lookup x=some .local
 cm:s.hd=false->X.calm=true
 rm:s.hd=false->cP k X.A
 ps:s.hd=false->Passes ES X E
 gd:Gd tb k X.prog X.w X.K X.mg X.base
variable{x:Str}
section
variable{tb:Tb}{k:Nat}{X:Cx}{E:XK}{s:Sc}
theorem qg(h:okN x=true):gP x/\p4 x:=by unfold okN at h;rw[QR] at h;exact⟨by simpa using h.1,by simpa using h.2⟩
theorem Sit.slot(S:Sit tb k X E s){i:Nat}(h:M.slot s x=some i):X.N[i]?=some x/\nY X.env.scope x/\gP x/\p4 x:=by
 obtain⟨h1,h2⟩:=ay h;rw[QR] at h1;obtain⟨j,F,H⟩:=mf h2;obtain rfl:i=j:=by lia
 exact⟨by rw[S.n];exact H,S.vs x h1.1,(qg h1.2).1,(qg h1.2).2⟩
theorem Sit.i8(S:Sit tb k X E s){i:Nat}(h:M.i8 s x=some i):X.N[i]?=some x/\Loc X.env.scope x/\gP x/\(X.fn x=true\/X.env.scope.names.lookup x=some .local):=by
 obtain⟨h1,h2⟩:=ay h;rw[QR] at h1;obtain⟨j,F,H⟩:=mf h2;obtain rfl:i=j:=by lia
 exact⟨by rw[S.n];exact H,S.lo x h1.1,(qg h1.2).1,S.fx x h1.1⟩
theorem Sit.glob(S:Sit tb k X E s)(h:Cq s x=true):Gl X x/\gP x:=by unfold Cq qW at h;rw[QR,beq_iff_eq] at h;exact⟨S.gl x h.1,(qg h.2).1⟩
end
noncomputable def notStar:Expr->Bool
 | .Starred _ _=>false
 |_=>true
variable{e:Expr}
theorem aH(h:notStar e=true)(es:List Expr)(env:Env):starEach (e::es) env=(false,eval e env)::starEach es env:=by cases e<;>first|rfl|cases h
theorem eY{env:Env}{pos:Pos}:∀{es:List Expr},es.all notStar=true->(backTo pos (starEach es env)).any (·.1)=false
 |[],_=>rfl
 |e::es,h=>by rw[RB,QR] at h;rw[aH h.1];show (false || (backTo pos (starEach es env)).any (·.1))=false;rw[eY h.2];rfl
noncomputable def j5:Expr->Bool
 | .ListComp _ _ _ _=>false
 | .SetComp _ _ _ _=>false
 | .DictComp _ _ _ _ _=>false
 |_=>true
theorem kJ(h:j5 e=true)(t:Option Expr)(l:Nat)(env:Env):swapsWith e t l env=pure false:=by cases e<;>first|rfl|cases h
noncomputable def gF:Expr->Bool
 | .Set _ _ _=>false
 |_=>true
theorem jt(h:gF e=true)(env:Env)(x:Value):foldedSetIterable e env x=pure x:=by cases e<;>first|rfl|cases h
noncomputable def plainT:Expr->Bool
 | .UnaryOp _ _ _=>false
 | .BoolOp _ _ _=>false
 | .IfExp _ _ _ _=>false
 | .Compare _ _ _ _=>false
 |_=>true
theorem uN(h:plainT e=true)(env:Env):∀I,isTrue e env I=(do let v <- I;standAt e.pos;holding [v] (truthy v)):=by intro I;cases e<;>first|rfl|cases h
noncomputable def eZ:Expr->Bool
 | .Slice _ _ _ _=>false
 |_=>true
theorem m6(h:eZ e=true):jR e:=by intro o i;cases e<;>first|rfl|cases h
theorem DE(h:eZ e=true):zY e:=by intro o i;cases e<;>first|rfl|cases h
variable{op:CmpOp}
theorem ib(h:gF e=true):behindInMarks op e=false:=by cases e<;>first|rfl|cases h
theorem vj{env:Env}:∀es:List Expr,(assignEach es env).length=es.length
 |[]=>rfl
 |e::es=>by cases e<;>(show (_::assignEach es env).length=_;rw[Q6,Q6,vj es])
theorem rX{env:Env}:∀es:List Expr,es.all notStar=true->(assignEach es env).findIdx? (·.1)=none
 |[],_=>rfl
 |e::es,h=>by
  rw[RB,QR] at h;have l:=rX (env:=env) es h.2;have F:assignEach (e::es) env=(false,assign e env)::assignEach es env:=by cases e<;>first|rfl|cases h.1
  rw[F,List.findIdx?_cons];simp[l]
variable{env:Env}{es:List Expr}
theorem Ca(h:notStar e=true):(assignEach (e::es) env).map (·.2)=assign e env::(assignEach es env).map (·.2):=by cases e<;>first|rfl|cases h
variable{b:Expr}{m q:Mi Rr}{pos p:Pos}{f:Str}
section
variable{tb:Tb}{k:Nat}{X:Cx}{E:XK}{s:Sc}
def B3(F:Expr->Option (Mi Rr)):List Expr->Option (Mi (List Rr))
 |[]=>some c9
 |e::es=>dP (notStar e) (aq (F e) λm=>aq (B3 F es) λn=>some (aJ m n))
def EA(F G:Expr->Option (Mi Rr)):List Expr->List Bool->Option (Mi (List Rr))
 |[],_=>some c9
 |e::es,b::bs=>dP (notStar e) (aq (match b with|true=>F e|false=>G e) λm=>aq (EA F G es bs) λn=>some (aJ m n))
 |_::_,[]=>none
def NL(m:Mi (List Rr))(n:Nat):Prop:=∀Z rs O,m Z=some (.ok rs,O)->rs.length=n
theorem lO{F:Expr->Option (Mi Rr)}(h:∀e m,F e=some m->JE X E e m):∀{es:List Expr}{m:Mi (List Rr)},B3 F es=some m->JA X E es m/\NL m es.length/\es.all notStar=true
 |[],m,e=>by cases e;exact⟨tD,Ai,rfl⟩
 |a::es,m,e=>by obtain⟨h1,e⟩:=ay e;obtain⟨O,J,e⟩:=ae e;obtain⟨P,j,e⟩:=ae e;cases e;obtain⟨I,b,q⟩:=lO h j;exact⟨u0 (h _ _ J) I (aH h1 _ _),vv b,by rw[RB,h1,q];rfl⟩
theorem lP{F G:Expr->Option (Mi Rr)}(h:∀e m,F e=some m->JE X E e m)(g:∀e m,G e=some m->JE X E e m):∀{es:List Expr}{bs:List Bool}{m:Mi (List Rr)},EA F G es bs=some m->JA X E es m/\NL m es.length/\es.all notStar=true
 |[],_,m,e=>by cases e;exact⟨tD,Ai,rfl⟩
 |_::_,[],m,e=>by cases e
 |a::es,b::bs,m,e=>by
  obtain⟨h1,e⟩:=ay e;obtain⟨O,J,e⟩:=ae e;obtain⟨P,j,e⟩:=ae e;cases e;obtain⟨I,q,Y⟩:=lP h g j;refine⟨u0 ?_ I (aH h1 _ _),vv q,by rw[RB,h1,Y];rfl⟩;cases b
  .exact g _ _ J
  .exact h _ _ J
def OH(op:BoolOp)(F:Expr->Option (Mi Rr)):List Expr->Option (Mi Rr)
 |[]=>none
 |[a]=>F a
 |a::b::r=>aq (F a) λm=>aq (OH op F (b::r)) λn=>some (match op with | .And=>gM m n | .Or=>qP m n)
theorem BR{op:BoolOp}{F:Expr->Option (Mi Rr)}{pos:Pos}(h:∀e m,F e=some m->JE X E e m):∀{es:List Expr}{m:Mi Rr},OH op F es=some m->JE X E (.BoolOp op es pos) m
 |[],m,e=>by cases e
 |[a],m,e=>HZ (h _ _ e)
 |a::b::r,m,e=>by
  obtain⟨O,J,e⟩:=ae e;obtain⟨P,j,e⟩:=ae e;have i:=BR (pos:=pos) h j;cases op
  .cases e;exact Kw (h _ _ J) i
  .cases e;exact K8 (h _ _ J) i
def OB(op:BoolOp)(F:Expr->Option (Mi Bool)):List Expr->Option (Mi Bool)
 |[]=>none
 |[a]=>F a
 |a::b::r=>aq (F a) λm=>aq (OB op F (b::r)) λn=>some (match op with | .And=>qp m n | .Or=>oI m n)
theorem zh{op:BoolOp}{F:Expr->Option (Mi Bool)}{pos:Pos}(h:∀e m,F e=some m->JT X E e m):∀{es:List Expr}{m:Mi Bool},OB op F es=some m->JW X E (.BoolOp op es pos) m
 |[],m,e=>by cases e
 |[a],m,e=>by cases op;exact FA (h _ _ e);exact J0 (h _ _ e)
 |a::b::r,m,e=>by
  obtain⟨O,J,e⟩:=ae e;obtain⟨P,j,e⟩:=ae e;have i:=zh (pos:=pos) h j;cases op
  .cases e;exact HL (h _ _ J) i
  .cases e;exact Li (h _ _ J) i
def P1(s:Sc)(op:CmpOp)(a b:Expr)(m n:Mi Rr):Option (Mi Rr):=match op with
 | .Eq=>dP (!s.hd) (some (aC gG m n))
 | .NotEq=>dP (!s.hd) (some (aC gQ m n))
 | .Lt=>some (aC tQ m n)
 | .LtE=>none
 | .Gt=>some (aC Kg m n)
 | .GtE=>some (aC K2 m n)
 | .Is=>some (aC (sP false) m n)
 | .IsNot=>some (aC (sP true) m n)
 | .In=>dP (!s.hd&&gF b) (some (aC (bU (bU (bU (fX false) (eF false)) (jX false)) (eu false)) m n))
 | .NotIn=>dP (!s.hd&&gF b) (some (aC (bU (bU (bU (fX true) (eF true)) (jX true)) (eu true)) m n))
theorem JM(S:Sit tb k X E s){a:Expr}{n:Mi Rr}(h:P1 s op a b m n=some q)(ha:JE X E a m)(d:JE X E b n):JE X E (.Compare a [op] [b] pos) q/\JT X E (.Compare a [op] [b] pos) (ag q):=by
 cases op
 case Eq=>obtain⟨h1,h⟩:=ay h;have f:=(S.rm (by simpa using h1)).units;cases h;exact⟨LY f ha d,L8 f ha d⟩
 case NotEq=>obtain⟨h1,h⟩:=ay h;have f:=(S.rm (by simpa using h1)).units;cases h;exact⟨Mu f ha d,Nj f ha d⟩
 case Lt=>cases h;exact⟨Mn ha d,MG ha d⟩
 case LtE=>cases h
 case Gt=>cases h;exact⟨Nd ha d,ML ha d⟩
 case GtE=>cases h;exact⟨LC ha d,M5 ha d⟩
 case Is=>cases h;exact⟨LU ha d,Mz ha d⟩
 case IsNot=>cases h;exact⟨EI ha d,FL ha d⟩
 case In=>obtain⟨h1,h⟩:=ay h;rw[QR] at h1;have f:=rB (S.rm (by simpa using h1.1));cases h;exact⟨G7 f (S.rm (by simpa using h1.1)).units ha d (ib h1.2),Hg f (S.rm (by simpa using h1.1)).units ha d (ib h1.2)⟩
 case NotIn=>obtain⟨h1,h⟩:=ay h;rw[QR] at h1;have f:=rB (S.rm (by simpa using h1.1));cases h;exact⟨D2 f (S.rm (by simpa using h1.1)).units ha d (ib h1.2),FQ f (S.rm (by simpa using h1.1)).units ha d (ib h1.2)⟩
def PK:CmpOp->Option (Int->Int->Bool)
 | .Lt=>some Pj
 | .LtE=>some LK
 | .Gt=>some Qf
 | .GtE=>some Ql
 |_=>none
theorem A9{p:Int->Int->Bool}(h:PK op=some p):∃r,d0 X (compareOp op) r/\∀i j H Q,Q (.bl (p i j)) H->r (.int i) (.int j) H Q:=by
 cases op<;>first|(cases h;done)|skip
 .cases h;exact⟨_,vf,Gh⟩
 .cases h;exact⟨_,FT,FW⟩
 .cases h;exact⟨_,BN,Lv⟩
 .cases h;exact⟨_,Bv,MJ⟩
def Pw(f:Str):Option (A->Option Rr):=
 if f==("len" : Str) then some d6 else if f==("abs" : Str) then some qu else if f==("int" : Str) then some EF else if f==("tuple" : Str) then some eX else
 if f==("list" : Str) then some yS else if f==("sorted" : Str) then some (n8 bM bV) else if f==("dict" : Str) then some (n8 kQ ju) else
 if f==("all" : Str) then some (eD λbs=>bs.all id) else none
theorem cR(S:Sit tb k X E s)(h:CF.contains x=true):X.mg x=none:=S.gd.bl x (T9.mp h)
theorem Ab(S:Sit tb k X E s){g:A->Option Rr}{a:Expr}(h:Pw f=some g)(N:Cq s f=true)(o:s.hd=false)(u:notStar a=true)(ha:JE X E a m):JE X E (.Call (.Name f p) [a] [] pos) (bT g m):=by
 obtain⟨H,D⟩:=S.glob N;have hc:=S.cm o;have h1:=aH u [] X.env;have h2:(backTo pos (starEach [] X.env)).any (·.1)=false:=rfl;unfold Pw at h;split at h
 .rename_i z;rw[beq_iff_eq] at z;subst z;cases h;exact u9 A8 JD H (cR S (by decide +kernel)) Ku ha (by decide +kernel) D h1 h2
 split at h
 .rename_i z;rw[beq_iff_eq] at z;subst z;cases h;exact u9 AD KP H (cR S (by decide +kernel)) J5 ha (by decide +kernel) D h1 h2
 split at h
 .rename_i z;rw[beq_iff_eq] at z;subst z;cases h;exact vn xa IC H (cR S (by decide +kernel)) Ao ha (by decide +kernel) D h1 h2
 split at h
 .rename_i z;rw[beq_iff_eq] at z;subst z;cases h;exact vn oi B4 H (cR S (by decide +kernel)) rF ha (by decide +kernel) D h1 h2
 split at h
 .rename_i z;rw[beq_iff_eq] at z;subst z;cases h;exact vn qb DZ H (cR S (by decide +kernel)) vQ ha (by decide +kernel) D h1 h2
 split at h
 .rename_i z;rw[beq_iff_eq] at z;subst z;cases h;exact u9 (qR hc) wC H (cR S (by decide +kernel)) wD ha (by decide +kernel) D h1 h2
 split at h
 .rename_i z;rw[beq_iff_eq] at z;subst z;cases h;exact vn (tu hc) xY H (cR S (by decide +kernel)) vF ha (by decide +kernel) D h1 h2
 split at h
 .rename_i z;rw[beq_iff_eq] at z;subst z;cases h;exact u9 (Bi hc) IP H (cR S (by decide +kernel)) zt ha (by decide +kernel) D h1 h2
 .cases h
def Oi(f:Str):Option (A->A->Option Rr):=if f==("max" : Str) then some zQ else if f==("min" : Str) then some yq else none
theorem BF(S:Sit tb k X E s){g:A->A->Option Rr}{a:Expr}{n:Mi Rr}(h:Oi f=some g)(N:Cq s f=true)(o:s.hd=false)(u:notStar a=true)(J:notStar b=true)(ha:JE X E a m)(d:JE X E b n):JE X E (.Call (.Name f p) [a,b] [] pos) (Ct g m n):=by
 obtain⟨H,D⟩:=S.glob N;have hc:=S.cm o;have h1:=aH u [b] X.env;have h3:=aH J [] X.env;have h2:(backTo pos (starEach [b] X.env)).any (·.1)=false:=eY (by rw[RB,J];rfl);unfold Oi at h;split at h
 .rename_i z;rw[beq_iff_eq] at z;subst z;cases h;exact GO (wY hc) Ij H (cR S (by decide +kernel)) Je ha d (by decide +kernel) D h1 h3 h2
 split at h
 .rename_i z;rw[beq_iff_eq] at z;subst z;cases h;exact GO (wM hc) Jv H (cR S (by decide +kernel)) KL ha d (by decide +kernel) D h1 h3 h2
 .cases h
noncomputable def O5(x:Str):Option Ty:=if x==("int" : Str) then some .int else if x==("bool" : Str) then some .bool else if x==("str" : Str) then some .str else if x==("tuple" : Str) then some .tuple else if x==("list" : Str) then some .list else if x==("dict" : Str) then some .dict else none
theorem Il{T:Ty}(h:O5 x=some T):bootBuiltins x=some (.type T.n)/\CF.contains x=true/\x ≠ "__name__" := by
 unfold O5 at h;split at h
 .rename_i z;rw[beq_iff_eq] at z;subst z;cases h;exact⟨Ao,by decide +kernel,by decide +kernel⟩
 split at h
 .rename_i z;rw[beq_iff_eq] at z;subst z;cases h;exact⟨Fj,by decide +kernel,by decide +kernel⟩
 split at h
 .rename_i z;rw[beq_iff_eq] at z;subst z;cases h;exact⟨JL,by decide +kernel,by decide +kernel⟩
 split at h
 .rename_i z;rw[beq_iff_eq] at z;subst z;cases h;exact⟨rF,by decide +kernel,by decide +kernel⟩
 split at h
 .rename_i z;rw[beq_iff_eq] at z;subst z;cases h;exact⟨vQ,by decide +kernel,by decide +kernel⟩
 split at h
 .rename_i z;rw[beq_iff_eq] at z;subst z;cases h;exact⟨vF,by decide +kernel,by decide +kernel⟩
 .cases h
end
structure Tr where
 E:Sc->Expr->Option (Mi Rr)
 T:Sc->Expr->Option (Mi Bool)
 I:Sc->Expr->Expr->Option (Mi (List A))
structure cQ(tb:Tb)(k:Nat)(r:Tr):Prop where
 E:∀{X E s e m},Sit tb k X E s->r.E s e=some m->JE X E e m
 T:∀{X E s e m},Sit tb k X E s->r.T s e=some m->JT X E e m
 I:∀{X E s tg e m},Sit tb k X E s->r.I s tg e=some m->JI X E tg e m
def Cr(s:Sc)(lo:Nat):Nat->Expr->Option Mg
 |0,_=>none
 |d+1,.Name x _=>aq (i8 s x) λi=>dP (Ti lo i) (some (aG i))
 |d+1,.Tuple es _ _=>dP (!s.hd) (aq (trGs (Cr s lo d) es) λH=>some (dw es.length H))
 |_+1,_=>none
where trGs (F:Expr->Option Mg):List Expr->Option Cm
 |[]=>some dW
 |e::es=>dP (notStar e) (aq (F e) λg=>aq (trGs F es) λgs=>some (aL g gs))
variable{r:Tr}{tg:Expr}
section
variable{tb:Tb}{k:Nat}{X:Cx}{E:XK}{s:Sc}
theorem wc{lo:Nat}{F:Expr->Option Mg}(h:∀e g,F e=some g->JG X lo e g):∀{es:List Expr}{H:Cm},Cr.trGs F es=some H->Nk X lo es H/\es.all notStar=true
 |[],H,e=>by cases e;exact⟨EH,rfl⟩
 |a::es,H,e=>by obtain⟨h1,e⟩:=ay e;obtain⟨g,J,e⟩:=ae e;obtain⟨b,j,e⟩:=ae e;cases e;obtain⟨I,m⟩:=wc h j;exact⟨yH (h _ _ J) I (λx y=>B2 x y (Ca h1)),by rw[RB,h1,m];rfl⟩
theorem mI(S:Sit tb k X E s){lo:Nat}:∀{d:Nat}{e:Expr}{g:Mg},Cr s lo d e=some g->JG X lo e g
 |0,e,g,h=>by cases h
 |d+1,e,g,h=>by
  unfold Cr at h;split at h
  .rename_i Z;cases Z
  .rename_i Z;cases Z;obtain⟨i,F,h⟩:=ae h;obtain⟨h1,h⟩:=ay h;cases h;obtain⟨T,a,U,b⟩:=S.i8 F;exact ER (by rw[S.n];exact S.nd) T a (R3 h1) b
  .rename_i Z;cases Z;obtain⟨h0,h⟩:=ay h;obtain⟨H,F,h⟩:=ae h;cases h;obtain⟨I,m⟩:=wc (λe g h=>mI S h) F;have hc:=S.cm (by simpa using h0);exact Kz hc I (vj _) (rX _ m)
  .cases h
noncomputable def P0:Expr->Bool
 | .Name _ _=>true
 |_=>false
def Iz(r:Tr)(s:Sc)(tg:Expr):Expr->Option (Mi (List A))
 | .Call (.Name f p) [a] [] pos=>match f==("range" : Str) with
  |true=>dP (Cq s f&&notStar a) (aq (r.E s a) λm=>some (dU m))
  |false=>aq (r.E s (.Call (.Name f p) [a] [] pos)) λm=>some (bY m)
 |e=>aq (r.E s e) λm=>some (bY m)
theorem EX(R:cQ tb k r)(S:Sit tb k X E s){m:Mi (List A)}(h:Iz r s tg e=some m):JI X E tg e m:=by
 unfold Iz at h;split at h
 .split at h
  .rename_i z;rw[beq_iff_eq] at z;subst z;obtain⟨h1,h⟩:=ay h;rw[QR] at h1;obtain⟨O,F,h⟩:=ae h;cases h;exact Fb (S.glob h1.1).1 (cR S (by decide +kernel)) (R.E S F) (aH h1.2 _ _) (aH h1.2 _ _)
  .obtain⟨O,F,h⟩:=ae h;cases h;exact Ba (R.E S F)
 .obtain⟨O,F,h⟩:=ae h;cases h;exact Ba (R.E S F)
noncomputable def zX{α:Type}(a b:Option α):Option α:=match a with
 |some x=>some x
 |none=>b
theorem cU{a b:Option α}{x:α}(h:zX a b=some x):a=some x\/b=some x:=by
 cases a with
 |none=>exact .inr h
 |some y=>exact .inl h
def PJ(r:Tr)(s:Sc)(tg e:Expr):Option (Mi (List A)):=zX (r.I s tg e) (Iz r s tg e)
theorem B8(R:cQ tb k r)(S:Sit tb k X E s){m:Mi (List A)}(h:PJ r s tg e=some m):JI X E tg e m:=by
 rcases cU h with h|h
 .exact R.I S h
 .exact EX R S h
noncomputable def O9:Nat->Expr->List Str
 |0,_=>[]
 |_+1,.Name x _=>[x]
 |d+1,.Tuple es _ _=>es.flatMap (O9 d)
 |_+1,_=>[]
noncomputable def Nq(N own:List Str):List Str:=N.map (λn=>if own.contains n then n++(" (of the def)" : Str) else n)++own
def u5(s:Sc)(N:List Str)(own:Nat)(sc:Scope):Bool:=
 sc.kind==.function&&sc.names.all (λy=>y.2 != .cell)&&sc.names.all (λy=>y.2 != .local || sc.names.lookup y.1==some .local)&&N.length==s.N.length+own&&decide N.Nodup &&
 ((N.take s.N.length).zip s.N).all (λp=>p.1==p.2 || sc.names.lookup p.1==none)&&(N.take s.N.length).all (λn=>sc.names.lookup n != some .local)&&sc.names.all (λy=>y.2 != .free || s.nm.lookup y.1==some .cell)
def xG(s:Sc)(N:List Str)(sc:Scope):Sc:={ N:=N,nm:=sc.names,di:=s.di,ca:=[],hd:=false,lv:=s.lv }
end
variable{elt:Expr}{gs:List Comprehension}{args:List Expr}
section
variable{tb:Tb}{k:Nat}{X:Cx}{E:XK}{s:Sc}
theorem dQ{α:Type}{x:Str}{v:α}:∀{l:List (Str×α)},l.lookup x=some v->(x,v)∈l
 |(y,u)::l,h=>by
  rw[Rk] at h;split at h
  .rename_i e;cases h;rw[beq_iff_eq.mp e];exact Rb
  .exact Q4 _ (dQ h)
theorem Sit.comp(S:Sit tb k X E s){N:List Str}{sc:Scope}{own:Nat}(h:u5 s N own sc=true)(o:s.hd=false):
  fP X.N N own sc X.env.scope/\∀cl C s0 H fp,Sit tb k (iT X N sc cl C s0 H fp) qX (xG s N sc):=by
 unfold u5 at h;simp only[QR,beq_iff_eq,decide_eq_true_eq,RG,R5,bne_iff_ne,ne_eq] at h;obtain⟨⟨⟨⟨⟨⟨⟨h1,h2⟩,h3⟩,h4⟩,h5⟩,m⟩,q⟩,Y⟩:=h;refine⟨⟨h1,h2,λy T e=>?_,by rw[S.n];exact h4,h5,by rw[S.n];exact m,by rw[S.n];exact q,λy T e=>?_⟩,λcl C s0 H fp=>?_⟩
 .rcases h3 y T with z|z
  .exact absurd e z
  .exact z
 .rcases Y y T with z|z
  .exact absurd e z
  .exact .inl (S.ce _ z)
 .have loc:∀x,t5 (xG s N sc) x=true->sc.names.lookup x=some .local:=λx w=>by
   unfold t5 qW xG at w;simp only[R5,beq_iff_eq] at w;rcases w with z|z
   .exact z
   .exact absurd rfl (h2 _ (dQ z))
  refine⟨rfl,h5,λx w=>zb w,λx w=>?_,λx w=>.inl (iX (loc x w)),λx w=>iX w,λx w=>absurd rfl (h2 _ (dQ w)),λx w=>.inr (iX (loc x w)),λ_=>S.cm o,λ_=>S.rm o,λ_=>(λ_ _ _ _ _ _ _ x=>x.elim),S.gd⟩;unfold Et qW xG at w;simp only[R5,beq_iff_eq] at w;rcases w with (z|z)|z
  .exact .inl (iX z)
  .exact absurd rfl (h2 _ (dQ z))
  .exact rQ z
def CQ(r:Tr)(s:Sc):List Expr->Option (Mi Bool)
 |[]=>some bp
 |[t]=>r.T s t
 |_=>none
def mE(r:Tr)(s:Sc)(elt:Expr)(gs:List Comprehension)(sc:Scope):Option (Mi Rr):=match gs with
 |[g]=>
  let own:=O9 9 g.target
  let N:=Nq s.N own
  let s':=xG s N sc
  dP (!s.hd&&g.is_async==0&&gF g.iter&&u5 s N own.length sc) (aq (PJ r s g.target g.iter) λH=>aq (Cr s' s.N.length 9 g.target) λG=>aq (CQ r s' g.ifs) λmt=>aq (r.E s' elt) λh=>some (bH own.length H G mt h))
 |_=>none
theorem vU(R:cQ tb k r)(S:Sit tb k X E s){ifs:List Expr}{m:Mi Bool}(h:CQ r s ifs=some m):JF X E ifs m:=by
 unfold CQ at h;split at h
 .cases h;exact HE
 .exact Hj (R.T S h)
 .cases h
theorem kM(R:cQ tb k r)(S:Sit tb k X E s){sc:Scope}(h:mE r s elt gs sc=some m):
  s.hd=false/\∃N own tg iter ifs a G mt P,gs=[⟨tg,iter,ifs,0⟩]/\m=bH own a G mt P/\fP X.N N own sc X.env.scope/\JI X E tg iter a/\(∀cl C s0 H fp,JG (iT X N sc cl C s0 H fp) X.N.length tg G) /\
   (∀cl C s0 H fp,JF (iT X N sc cl C s0 H fp) qX ifs mt)/\(∀cl C s0 H fp,JE (iT X N sc cl C s0 H fp) qX elt P)/\∀x,foldedSetIterable iter X.env x=pure x:=by
 unfold mE at h;split at h
 .rename_i g;obtain⟨tg,iter,ifs,q⟩:=g;obtain⟨h0,h⟩:=ay h;simp only[QR,beq_iff_eq,Rq] at h0;obtain⟨⟨⟨h1,rfl⟩,h3⟩,h4⟩:=h0;obtain⟨a,F,h⟩:=ae h;obtain⟨G,j,h⟩:=ae h;obtain⟨mt,Q,h⟩:=ae h;obtain⟨P,y,h⟩:=ae h;cases h;obtain⟨b,Z⟩:=S.comp h4 h1;exact⟨h1,_,_,tg,iter,ifs,a,G,mt,P,rfl,rfl,b,B8 R S F,λcl C s0 H fp=>by rw[S.n];exact mI (Z cl C s0 H fp) j,λcl C s0 H fp=>vU R (Z cl C s0 H fp) Q,λcl C s0 H fp=>R.E (Z cl C s0 H fp) y,jt h3 _⟩
 .cases h
def PH(F:Expr->Option (Mi Rr)):Option Expr->Option (Mi (Option Int))
 |none=>some eI
 |some e=>aq (F e) λm=>some (ip m)
theorem BU{F:Expr->Option (Mi Rr)}(h:∀e m,F e=some m->JE X E e m){o:Option Expr}{m:Mi (Option Int)}(e:PH F o=some m):JP X E o m:=by
 cases o with
 |none=>cases e;exact Er
 |some a=>obtain⟨O,J,e⟩:=ae e;cases e;exact Dx (h _ _ J)
def zZ(r:Tr)(s:Sc)(a:Expr):Expr->Option (Mi Rr)
 | .Slice lo hi none _=>aq (r.E s a) λm=>aq (PH (r.E s) lo) λml=>aq (PH (r.E s) hi) λmh=>some (Fw m ml mh)
 |b=>dP (eZ b&&!s.hd) (aq (r.E s a) λm=>aq (r.E s b) λn=>some (aC (bU i9 cj) m n))
theorem yY(R:cQ tb k r)(S:Sit tb k X E s){a:Expr}(h:zZ r s a b=some m):JE X E (.Subscript a b pos) m:=by
 unfold zZ at h;split at h
 .obtain⟨O,F,h⟩:=ae h;obtain⟨P,j,h⟩:=ae h;obtain⟨Y,Q,h⟩:=ae h;cases h;exact L7 (R.E S F) (BU (λ_ _=>R.E S) j) (BU (λ_ _=>R.E S) Q)
 .obtain⟨h0,h⟩:=ay h;simp only[QR,Rq] at h0;obtain⟨O,F,h⟩:=ae h;obtain⟨P,j,h⟩:=ae h;cases h;exact Nz (rB (S.rm h0.2)) (R.E S F) (R.E S j) (m6 h0.1) (DE h0.1)
noncomputable def Qm(f:Str):Bool:=match f.cps[0]? with
 |some c=>Ti 65 c&&Ti c 90
 |none=>false
def Hf:Expr->Bool
 | .ListComp _ _ _ _=>true
 | .List _ _=>true
 | .Dict _ _ _=>true
 | .BinOp _ .Add _ _=>true
 | .Subscript _ (.Slice _ _ _ _) _=>true
 | .Call (.Name f _) _ _ _=>f==("list" : Str) || f==("sorted" : Str) || f==("dict" : Str) || Qm f
 | .Call (.Attribute _ _ _) _ _ _=>true
 |_=>false
def Mo(r:Tr)(s:Sc)(e:Expr):Option (Mi Rr):=match e with
 | .Name x _=>match s.lv.contains x with
  |true=>r.E s e
  |false=>match slot s x with
   |some i=>some (ah i)
   |none=>r.E s e
 |e=>match Hf e with
  |true=>aq (r.E s e) λm=>some (fY m)
  |false=>r.E s e
theorem qT(R:cQ tb k r)(S:Sit tb k X E s)(h:Mo r s e=some m):JE X E e m:=by
 unfold Mo at h;split at h
 .split at h
  .exact R.E S h
  split at h
  .rename_i F;cases h;obtain⟨T,a,U,b⟩:=S.slot F;exact EC T a U b
  .exact R.E S h
 .split at h
  .obtain⟨O,F,h⟩:=ae h;cases h;exact ND (R.E S F)
  .exact R.E S h
noncomputable def fV(s:Sc):Nat->List Expr->List Bool->List Nat
 |j,.Name x _::es,false::bs=>match s.lv.contains x with
  |true=>j::fV s (j+1) es bs
  |false=>fV s (j+1) es bs
 |j,_::es,_::bs=>fV s (j+1) es bs
 |_,_,_=>[]
def eB:List Nat->Ms->Ms
 |[],m=>m
 |j::js,m=>eV j (eB js m)
theorem iW.eB{K:Kx}{n:Nat}{m:Ms}{vs:List V}{H:Hp}{Q:VK}{E:XK}:∀{p:List Nat},iW K n (M.eB p m) vs H Q E->iW K n m vs H Q E
 |[],h=>h
 |_::_,h=>iW.eB (iW.lend h)
def Ip(tb:Tb)(r:Tr)(s:Sc)(fi:FI)(args:List Expr):Option (Mi (List Rr)):=dP (args.length+(oo fi args.length).length==fi.n) (EA (r.E s) (Mo r s) args fi.mu)
def Cj(tb:Tb)(r:Tr)(s:Sc)(fi:FI)(args:List Expr):Option (Mi (List Rr)):=dP (args.length+1+(oo fi (args.length+1)).length==fi.n) (EA (r.E s) (Mo r s) args (fi.mu.drop 1))
def Bo(tb:Tb)(r:Tr)(s:Sc)(f:Str):List Expr->Option (Mi Rr)
 |[]=>none
 |a::as=>aq (tb.ini.lookup f) λfi=>dP (!s.hd) (aq (Cj tb r s fi (a::as)) λm=>some (fM f (eB (fV s 1 (a::as) (fi.mu.drop 1)) fi.m) (oo fi ((a::as).length+1)) m))
def FZ(tb:Tb)(r:Tr)(s:Sc)(a:Expr)(x:Str):Option (Mi Rr):=match O5 x with
 |some T=>aq (r.E s a) λm=>some (bT (cC T) m)
 |none=>none
def Bg(tb:Tb)(r:Tr)(s:Sc)(f:Str)(args:List Expr):Option (Mi Rr):=dP (Cq s f) (match tb.fns.lookup f with
 |some fi=>match args with
  |[]=>none
  |a::as=>match s.hd with
   |true=>none
   |false=>aq (Ip tb r s fi (a::as)) λm=>some (bq (eB (fV s 0 (a::as) fi.mu) fi.m) (oo fi (a::as).length) m)
 |none=>match tb.ini.lookup f with
 |some _=>Bo tb r s f args
 |none=>match args with
  |[a]=>dP (notStar a&&!s.hd) (aq (Pw f) λg=>aq (r.E s a) λm=>some (bT g m))
  |[a,.Name x p]=>match f==("isinstance" : Str) with
   |true=>dP (notStar a&&Cq s x) (FZ tb r s a x)
   |false=>dP (notStar a&&!s.hd) (aq (Oi f) λg=>aq (r.E s a) λm=>aq (r.E s (.Name x p)) λn=>some (Ct g m n))
  |[a,b]=>dP (notStar a&&notStar b&&!s.hd) (aq (Oi f) λg=>aq (r.E s a) λm=>aq (r.E s b) λn=>some (Ct g m n))
  | _=>none)
theorem xl(R:cQ tb k r)(S:Sit tb k X E s)(h:Bg tb r s f args=some m):JE X E (.Call (.Name f p) args [] pos) m:=by
 have h':=ay h;clear h;obtain⟨N,h⟩:=h';split at h
 .rename_i fi v;split at h
  .cases h
  .rename_i a as;split at h
   .cases h
   rename_i o;obtain⟨ma,J,h⟩:=ae h;cases h;obtain⟨h1,J⟩:=ay J;obtain⟨I,K,L⟩:=lP (λ_ _=>R.E S) (λ_ _=>qT R S) J;obtain⟨A,fd,ps,F,hm,hk,d⟩:=S.gd.fn f fi v;obtain⟨ds,dvs,Y,b,c⟩:=d.of (a::as).length;have x:=L;rw[RB,QR] at x;exact C9 (F.imp λ_ _ _ _ q=>iW.eB q) (S.rm o) (S.glob N).1 hm hk Y b c (S.ps o) I (He K (by rw[beq_iff_eq] at h1;exact h1)) (S.glob N).2 (aH x.1 _ _) (eY x.2)
 split at h
 .unfold Bo at h;split at h
  .cases h
  .rename_i a as;obtain⟨fi,v,h⟩:=ae h;obtain⟨o,h⟩:=ay h;have o:s.hd=false:=by simpa using o
   obtain⟨ma,J,h⟩:=ae h;cases h;obtain⟨h1,J⟩:=ay J;rw[beq_iff_eq] at h1;obtain⟨I,K,L⟩:=lP (λ_ _=>R.E S) (λ_ _=>qT R S) J;obtain⟨C,A,fd,ps,j,U,F,hm,hk,d⟩:=S.gd.im f fi v;obtain⟨ds,dvs,Y,b,c⟩:=d.of ((a::as).length+1);have x:=L;rw[RB,QR] at x;exact DB hk (F.imp λ_ _ _ _ q=>iW.eB q) ((S.rm o).mono U) (S.glob N).1 hm Y b c (S.ps o) I (λZ rs O q=>by rw[K Z rs O q];exact h1) (S.glob N).2 (aH x.1 _ _) (eY x.2)
 .split at h
  .obtain⟨h0,h⟩:=ay h;simp only[QR,Rq] at h0;obtain⟨g,J,h⟩:=ae h;obtain⟨i,H,h⟩:=ae h;cases h;exact Ab S J N h0.2 h0.1 (R.E S H)
  .split at h
   .rename_i z;rw[beq_iff_eq] at z;subst z;obtain⟨h0,h⟩:=ay h;simp only[QR] at h0;obtain⟨u,D⟩:=S.glob N;obtain⟨w,P⟩:=S.glob h0.2;unfold FZ at h;split at h
    .rename_i T V;obtain⟨i,H,h⟩:=ae h;cases h;obtain⟨G,y,B⟩:=Il V;exact IQ T u (cR S (by decide +kernel)) oh w (cR S y) G (R.E S H) (by decide +kernel) D B P (aH h0.1 _ _)
    .cases h
   .obtain⟨h0,h⟩:=ay h;simp only[QR,Rq] at h0;obtain⟨g,J,h⟩:=ae h;obtain⟨i,H,h⟩:=ae h;obtain⟨l,Q,h⟩:=ae h;cases h;exact BF S J N h0.2 h0.1 rfl (R.E S H) (R.E S Q)
  .obtain⟨h0,h⟩:=ay h;simp only[QR,Rq] at h0;obtain⟨g,J,h⟩:=ae h;obtain⟨i,H,h⟩:=ae h;obtain⟨l,Q,h⟩:=ae h;cases h;exact BF S J N h0.2 h0.1.1 h0.1.2 (R.E S H) (R.E S Q)
  .cases h
end
variable{o:Expr}{apos cpos px p1 py:Pos}{j:Nat}
section
variable{tb:Tb}{k:Nat}{X:Cx}{E:XK}{s:Sc}
noncomputable def pj(o:Expr):Bool:=match o with
 | .Call f args kw _=>match f with
  | .Name _ _=>!(args.isEmpty&&kw.isEmpty)
  |_=>true
 |_=>true
theorem ck(h:pj o=true)(m:Str)(env:Env)(w:Sem Value):attributeBase o m env w=w:=by
 cases o with
 |Call f args x p=>cases f with
  |Name _ _=>cases args with
   |cons _ _=>rfl
   |nil=>cases x with
    |cons _ _=>rfl
    |nil=>cases h
  |_=>rfl
 |_=>rfl
theorem D3(h:notStar e=true)(cpos:Pos)(env:Env):((backTo cpos (starEach [e] env)).all (λx=>!x.1)&&(backToKw cpos (keywordEach [] env)).all (λx=>x.1.isSome)&&decide (([e]:List Expr).length+([]:List Keyword).length+(if ([]:List Keyword).isEmpty then 0 else 1)<30))=true:=by rw[aH h];rfl
theorem O1{f:Expr}(h:notStar e=true)(h':notStar f=true)(cpos:Pos)(env:Env):((backTo cpos (starEach [e,f] env)).all (λx=>!x.1)&&(backToKw cpos (keywordEach [] env)).all (λx=>x.1.isSome)&&decide (([e,f]:List Expr).length+([]:List Keyword).length+(if ([]:List Keyword).isEmpty then 0 else 1)<30))=true:=by rw[aH h,aH h'];rfl
theorem Ni{f:Expr}{m:Str}(h0:pj o=true)(h:notStar e=true)(h':notStar f=true)(hl:(apos.endLine==cpos.line)=true):M2 X o m apos e f cpos:=⟨ck h0 _ _ _,O1 h h' _ _,hl,by rw[aH h,aH h'];rfl⟩
def QL(e:Expr):Option (Expr×Str×Pos×Pos):=match e with
 | .Call f args kw cpos=>match f with
  | .Attribute o m apos=>dP (args.isEmpty&&kw.isEmpty) (some (o,m,apos,cpos))
  |_=>none
 |_=>none
def EL(e:Expr):Option (Expr×Str×Pos×Expr×Pos):=match e with
 | .Call f args kw cpos=>match f with
  | .Attribute o m apos=>match args with
   |[a]=>dP (kw.isEmpty&&notStar a) (some (o,m,apos,a,cpos))
   |_=>none
  |_=>none
 |_=>none
theorem ox{a:Expr}{m:Str}(h:EL e=some (o,m,apos,a,cpos)):e=.Call (.Attribute o m apos) [a] [] cpos/\notStar a=true:=by
 unfold EL at h;split at h
 .rename_i f args x c;split at h
  .split at h
   .obtain⟨h0,h⟩:=ay h;rw[QR,SI] at h0;cases h;rw[h0.1];exact⟨rfl,h0.2⟩
   .cases h
  .cases h
 .cases h
noncomputable def FX(e:Expr):Option (Str×Pos):=match e with
 | .Name x p=>some (x,p)
 |_=>none
theorem iO(h:FX e=some (x,p)):e=.Name x p:=by
 unfold FX at h;split at h
 .cases h;rfl
 .cases h
def nD(_:Tb)(r:Tr)(s:Sc)(e:Expr):Option (Mi Rr):=match e with
 | .ListComp elt gs sc _=>match gs with
  |[g]=>aq (FX g.iter) λ(x,_)=>
   let own:=O9 9 g.target
   let N:=Nq s.N own
   let s':=xG s N sc
   dP (s.lv.contains x&&!s.hd&&g.is_async==0&&u5 s N own.length sc) (aq (slot s x) λi=>aq (Cr s' s.N.length 9 g.target) λG=>aq (CQ r s' g.ifs) λmt=>aq (r.E s' elt) λh=>aq (mE r s elt gs sc) λZ=>some (aQ (cJ own.length i G mt h) Z))
  |_=>none
 |_=>none
theorem qZ(R:cQ tb k r)(S:Sit tb k X E s)(h:nD tb r s e=some q):JE X E e q:=by
 unfold nD at h;split at h
 .split at h
  .rename_i g;obtain⟨tg,iter,ifs,A⟩:=g;obtain⟨⟨x,px⟩,h0,g⟩:=ae h;clear h;have h0:FX iter=some (x,px):=h0;obtain rfl:=iO h0;obtain⟨h1,h⟩:=ay g;simp only[QR,beq_iff_eq,Rq] at h1;obtain⟨⟨⟨_,o⟩,rfl⟩,h4⟩:=h1;obtain⟨i,F,h⟩:=ae h;obtain⟨G,j,h⟩:=ae h;obtain⟨mt,Q,h⟩:=ae h;obtain⟨P,y,h⟩:=ae h;obtain⟨m,I,h⟩:=ae h;cases h;obtain⟨b,Z⟩:=S.comp h4 o;obtain⟨T,Y,U,c⟩:=S.slot F;refine nW (Ci (S.cm o) b rfl T Y U c (λcl C s0 H fp=>by rw[S.n];exact mI (Z cl C s0 H fp) j) (λcl C s0 H fp=>vU R (Z cl C s0 H fp) Q) (λcl C s0 H fp=>R.E (Z cl C s0 H fp) y) (jt rfl _)) ?_;obtain⟨o,N,own,tg,iter,ifs,z,G,mt,P,a,rfl,b,Z,v,p,K,L⟩:=kM R S I;rw[a];exact vN (S.cm o) b rfl Z v p K L
  .cases h
 .cases h
def oK(_:Tb)(r:Tr)(s:Sc)(e:Expr):Option (Mi Rr):=aq (EL e) λ(o,m,apos,a,cpos)=>dP (m==("extend" : Str)&&apos.endLine==cpos.line) (aq (FX o) λ(x,_)=>aq (slot s x) λi=>aq (r.E s a) λn=>some (eJ i (lW i n)))
theorem qO(R:cQ tb k r)(S:Sit tb k X E s)(h:oK tb r s e=some q):JE X E e q:=by obtain⟨⟨o,m,apos,a,cpos⟩,h1,g⟩:=ae h;clear h;obtain⟨rfl,u⟩:=ox h1;obtain⟨h2,h⟩:=ay g;rw[QR,beq_iff_eq] at h2;obtain⟨⟨x,px⟩,h3,D⟩:=ae h;clear h;obtain rfl:=iO h3;obtain⟨i,F,h⟩:=ae D;obtain⟨n,j,h⟩:=ae h;obtain⟨T,Y,U,b⟩:=S.slot F;cases h;obtain⟨rfl,hl⟩:=h2;exact wU T Y U b (R.E S j) rfl (D3 u _ _) hl (aH u _ _) rfl
noncomputable def J7:Expr->Bool
 | .Subscript _ _ _=>true
 |_=>false
def Az(_:Tb)(r:Tr)(s:Sc)(e:Expr):Option (Mi Rr):=aq (EL e) λ(o,m,apos,a,cpos)=>dP (m==("index" : Str)&&apos.endLine==cpos.line&&J7 a) (aq (FX o) λ_=>aq (r.E s o) λn=>aq (r.E s a) λq=>some (Cu sL n q))
theorem xw(R:cQ tb k r)(S:Sit tb k X E s)(h:Az tb r s e=some q):JE X E e q:=by obtain⟨⟨o,m,apos,a,cpos⟩,h1,g⟩:=ae h;clear h;obtain⟨rfl,u⟩:=ox h1;obtain⟨h2,h⟩:=ay g;rw[QR,QR,beq_iff_eq] at h2;obtain⟨⟨x,px⟩,h3,D⟩:=ae h;clear h;obtain rfl:=iO h3;obtain⟨n,J,h⟩:=ae D;obtain⟨l,j,h⟩:=ae h;cases h;obtain⟨⟨rfl,hl⟩,_⟩:=h2;exact AO (R.E S J) (R.E S j) (λx y=>su Vc PySem.F.slot_str_index PySem.F.type_str_index G9 x (cq y dB (aH u _ _)) rfl (D3 u _ _) hl (aH u _ _) rfl)
def HY(s:Sc):List Expr->Option (List Nat)
 |[]=>some []
 | .Name x _::es=>aq (slot s x) λi=>aq (HY s es) λp=>some (i::p)
 |_=>none
theorem vL(S:Sit tb k X E s):∀{es:List Expr}{p:List Nat},HY s es=some p->PA X es (vg p)
 |[],_,h=>by cases h;exact dB
 |e::es,p,h=>by
  cases e<;>first|(cases h;done)|skip
  obtain⟨i,F,h⟩:=ae h;obtain⟨q,j,h⟩:=ae h;cases h;obtain⟨T,a,U,b⟩:=S.slot F;exact cq (cD T a U b) (vL S j) (aH rfl _ _)
def HJ(e:Expr):Option (Str×Pos×Str×Pos×Pos×List Expr×Nat×Pos×Pos):=match e with
 | .Call (.Attribute (.Attribute (.Name x px) f p1) m apos) [.Tuple es j I] [] cpos=>dP (m==("append" : Str)&&(apos.endLine==cpos.line)) (some (x,px,f,p1,apos,es,j,I,cpos))
 |_=>none
theorem xM{I:Pos}(h:HJ e=some (x,px,f,p1,apos,es,j,I,cpos)):e=.Call (.Attribute (.Attribute (.Name x px) f p1) "append" apos) [.Tuple es j I] [] cpos/\(apos.endLine==cpos.line)=true:=by
 unfold HJ at h;split at h
 .obtain⟨h0,h⟩:=ay h;rw[QR,beq_iff_eq] at h0;cases h;rw[h0.1];exact⟨rfl,h0.2⟩
 .cases h
def vx(tb:Tb)(_:Tr)(s:Sc)(e:Expr):Option (Mi Rr):=aq (HJ e) λ(x,_,f,_,_,es,_,_,_)=>dP (s.lv.contains ("*nob" : Str)&&s.lv.contains f) (aq (slot s x) λi=>aq (HY s es) λp=>some (sy (mK tb f) i f p))
theorem tP(R:cQ tb k r)(S:Sit tb k X E s)(h:vx tb r s e=some m):JE X E e m:=by obtain⟨⟨x,px,f,p1,apos,es,j,I,cpos⟩,h0,g⟩:=ae h;clear h;obtain⟨rfl,hl⟩:=xM h0;obtain⟨_,g⟩:=ay g;obtain⟨i,F,g⟩:=ae g;obtain⟨p,H,g⟩:=ae g;cases g;obtain⟨T,a,U,b⟩:=S.slot F;exact CC T a U b (λc C=>S.gd.fl _ c C) (ck rfl _ _ _) (vL S H) (ck rfl _ _ _) rfl hl (aH rfl _ _) rfl
def HS(e:Expr):Option (Str×Pos×Pos×Pos×Pos×Pos×Expr×Pos):=match e with
 | .Subscript (.List [.Name x px,.Call (.Name f pf) [.Name y py] [] cp] p1) e pos=>dP (f==("tuple" : Str)&&x==y&&eZ e) (some (x,px,pf,py,cp,p1,e,pos))
 |_=>none
theorem xu{X:Expr}{q Z:Pos}(h:HS X=some (x,px,q,py,Z,p1,e,pos)):X=.Subscript (.List [.Name x px,.Call (.Name "tuple" q) [.Name x py] [] Z] p1) e pos/\eZ e=true:=by
 unfold HS at h;split at h
 .obtain⟨h0,h⟩:=ay h;rw[QR,QR,beq_iff_eq,beq_iff_eq] at h0;cases h;rw[h0.1.1,h0.1.2];exact⟨rfl,h0.2⟩
 .cases h
def uT(_:Tb)(r:Tr)(s:Sc)(e:Expr):Option (Mi Rr):=aq (HS e) λ(x,_,_,_,_,_,e,_)=>dP (s.lv.contains x&&Cq s "tuple" && !s.hd) (aq (slot s x) λi=>aq (r.E s e) λh=>some (rP i h))
theorem uy(R:cQ tb k r)(S:Sit tb k X E s)(h:uT tb r s e=some m):JE X E e m:=by obtain⟨⟨x,px,q,py,Z,p1,F,pos⟩,h0,g⟩:=ae h;clear h;obtain⟨rfl,hn⟩:=xu h0;obtain⟨N,g⟩:=ay g;simp only[QR,Rq] at N;obtain⟨i,j,g⟩:=ae g;obtain⟨P,Q,g⟩:=ae g;cases g;obtain⟨T,a,U,b⟩:=S.slot j;exact KG T a U b (Ab S (by rfl) N.1.2 N.2 rfl (Bz T a U b)) (R.E S Q) (aH rfl _ _) (aH rfl _ _) (m6 hn)
def xP(tb:Tb)(r:Tr)(s:Sc)(e:Expr):Option (Mi Rr):=zX (nD tb r s e) (zX (Az tb r s e) (zX (vx tb r s e) (zX (uT tb r s e) (none))))
theorem NP(R:cQ tb k r)(S:Sit tb k X E s)(h:xP tb r s e=some m):JE X E e m:=by
 rcases cU h with h|h
 .exact qZ R S h
 rcases cU h with h|h
 .exact xw R S h
 rcases cU h with h|h
 .exact tP R S h
 rcases cU h with h|h
 .exact uy R S h
 cases h
def xE(tb:Tb)(r:Tr)(s:Sc)(e:Expr):Option (Mi Rr):=zX (oK tb r s e) (none)
theorem Nc(R:cQ tb k r)(S:Sit tb k X E s)(h:xE tb r s e=some m):JE X E e m:=by
 rcases cU h with h|h
 .exact qO R S h
 cases h
noncomputable def xT(tb:Tb)(r:Tr)(s:Sc)(e:Expr):Option (Mi Bool):=none
theorem My(R:cQ tb k r)(S:Sit tb k X E s){m:Mi Bool}(h:xT tb r s e=some m):JT X E e m:=by cases h
noncomputable def xI(tb:Tb)(r:Tr)(s:Sc)(tg e:Expr):Option (Mi (List A)):=none
theorem Nf(R:cQ tb k r)(S:Sit tb k X E s){m:Mi (List A)}(h:xI tb r s tg e=some m):JI X E tg e m:=by cases h
end
variable{mn:Str}
section
variable{tb:Tb}{k:Nat}{X:Cx}{E:XK}{s:Sc}
def MI(s:Sc)(o:Expr)(m:Str):Option (Mi Rr):=match o with
 | .Name x _=>aq (slot s x) λi=>if m==("clear" : Str) then some (hV i) else if m==("pop" : Str) then some (Hm i) else none
 |_=>none
def Lz(r:Tr)(s:Sc)(o:Expr)(m:Str)(e:Expr):Option (Mi Rr):=
 if m==("append" : Str) then (match o with
  | .Name x _=>aq (slot s x) λi=>aq (r.E s e) λn=>some (eJ i (cf i n))
  | _=>none)
 else if m==("join" : Str) then aq (r.E s o) λa=>aq (r.E s e) λn=>some (Cu kr a n)
 else none
noncomputable def MW:Expr->Bool
 | .Name x _=>x==("self" : Str)
 |_=>false
def AA(r:Tr)(s:Sc)(fi:FI)(o:Expr):Option (Mi Rr):=match MW o || fi.mu.headD true with
 |true=>r.E s o
 |false=>Mo r s o
def Jp(s:Sc)(o:Expr):Option (Str×Pos×Nat):=match o with
 | .Name x p=>dP (s.lv.contains ("*nob" : Str)) (aq (slot s x) λi=>some (x,p,i))
 |_=>none
theorem o7{s:Sc}{i:Nat}(h:Jp s o=some (x,p,i)):o=.Name x p/\slot s x=some i:=by
 cases o<;>first|(cases h;done)|skip
 obtain⟨_,h⟩:=ay h;obtain⟨j,e,h⟩:=ae h;cases h;exact⟨rfl,e⟩
def uB(tb:Tb)(r:Tr)(s:Sc)(o:Expr)(m:Str)(args:List Expr)(c:Str)(fi:FI):Option (Mi Rr):=dP (!s.hd&&Ti args.length 20) (aq (AA r s fi o) λmo=>aq (Cj tb r s fi args) λma=>(match Jp s o with
 |some (_,_,i)=>some (aQ (bq (eB (fV s 1 args (fi.mu.drop 1)) fi.m) (oo fi (args.length+1)) (aJ (aM c m i) ma)) (aQ (bq (cy 0 (eB (fV s 1 args (fi.mu.drop 1)) fi.m)) (oo fi (args.length+1)) (aJ (aM c m i) ma)) (bq (eB (fV s 1 args (fi.mu.drop 1)) fi.m) (oo fi (args.length+1)) (aJ (bg c m mo) ma))))
 | none=>some (bq (eB (fV s 1 args (fi.mu.drop 1)) fi.m) (oo fi (args.length+1)) (aJ (bg c m mo) ma))))
def xR(tb:Tb)(r:Tr)(s:Sc)(o:Expr)(m:Str)(args:List Expr):List (Str×FI)->Option (Mi Rr)
 |[]=>none
 |[p]=>uB tb r s o m args p.1 p.2
 |p::q::ps=>aq (uB tb r s o m args p.1 p.2) λa=>aq (xR tb r s o m args (q::ps)) λb=>some (aQ a b)
theorem qe(h:args.all notStar=true)(hl:args.length<=20)(pos:Pos)(env:Env):methodCallForm (args.length+([]:List Keyword).length) (backTo pos (starEach args env)) (backToKw pos (keywordEach [] env))=true:=by
 have:∀{es:List Expr},es.all notStar=true->(backTo pos (starEach es env)).all (λx=>!x.1)=true:=by
  intro es;induction es with
  |nil=>intro _;rfl
  |cons e es l=>intro h;rw[RB,QR] at h;rw[aH h.1];show (true&&(backTo pos (starEach es env)).all (λx=>!x.1))=true;rw[l h.2];rfl
 unfold methodCallForm;rw[this h];show (true&&(true&&decide (args.length+0+0<30)))=true;rw[show decide (args.length+0+0<30)=true from decide_eq_true (by lia)];rfl
theorem pA(R:cQ tb k r)(S:Sit tb k X E s){c:Str}{fi:FI}(hl:(apos.endLine==cpos.line)=true)(d:pj o=true)(hc:(mn,c,fi)∈tb.mts)(h:uB tb r s o mn args c fi=some m):JE X E (.Call (.Attribute o mn apos) args [] cpos) m:=by
 obtain⟨h0,h⟩:=ay h;simp only[QR,Rq] at h0;obtain⟨mo,J,h⟩:=ae h;obtain⟨ma,j,h⟩:=ae h;obtain⟨h1,j⟩:=ay j;rw[beq_iff_eq] at h1;obtain⟨I,z,L⟩:=lP (λ_ _=>R.E S) (λ_ _=>qT R S) j;obtain⟨C,N,fd,ps,F,hm,T,l,w⟩:=S.gd.mt _ _ _ hc;obtain⟨ds,dvs,Y,b,K⟩:=w.of (args.length+1);have P:JE X E o mo:=by
  unfold AA at J;split at J
  .exact R.E S J
  .exact qT R S J
 have len:=R3 h0.2;have old:JE X E (.Call (.Attribute o mn apos) args [] cpos) (bq (eB (fV s 1 args (fi.mu.drop 1)) fi.m) (oo fi (args.length+1)) (aJ (bg c mn mo) ma)):=by
  cases args with
  |nil=>cases j;exact ym hm T l F (S.rm h0.1) Y b K (S.ps h0.1) P (by simpa using h1) (ck d _ _ _) hl
  |cons a as=>have v:=L;rw[RB,QR] at v;exact Dv hm T l (F.imp λ_ _ _ _ q=>iW.eB q) (S.rm h0.1) Y b K (S.ps h0.1) P I (λZ rs O q=>by rw[z Z rs O q];exact h1) (ck d _ _ _) (qe L len _ _) hl (aH v.1 _ _) (eY v.2)
 split at h
 .rename_i x px i en;cases h;obtain⟨rfl,sl⟩:=o7 en;obtain⟨H,p,U,A⟩:=S.slot sl;refine nW ?_ (nW ?_ old)
  .cases args with
   |nil=>cases j;exact pO hm T l F (S.rm h0.1) Y b K (S.ps h0.1) H p U A (by simpa using h1) (ck d _ _ _) hl
   |cons a as=>have v:=L;rw[RB,QR] at v;exact rM hm T l (F.imp λ_ _ _ _ q=>iW.eB q) (S.rm h0.1) Y b K (S.ps h0.1) H p U A I (λZ rs O q=>by rw[z Z rs O q];exact h1) (ck d _ _ _) (qe L len _ _) hl (aH v.1 _ _) (eY v.2)
  .cases args with
   |nil=>cases j;exact pO hm T l (F.imp λ_ _ _ _ q=>iW.Gv q) (S.rm h0.1) Y b K (S.ps h0.1) H p U A (by simpa using h1) (ck d _ _ _) hl
   |cons a as=>have v:=L;rw[RB,QR] at v;exact rM hm T l (F.imp λ_ _ _ _ q=>iW.eB (iW.Gv q)) (S.rm h0.1) Y b K (S.ps h0.1) H p U A I (λZ rs O q=>by rw[z Z rs O q];exact h1) (ck d _ _ _) (qe L len _ _) hl (aH v.1 _ _) (eY v.2)
 .cases h;exact old
theorem sC{r:Tr}(R:cQ tb k r)(S:Sit tb k X E s){o:Expr}{mn:Str}{args:List Expr}{apos cpos:Pos}(hl:(apos.endLine==cpos.line)=true)(d:pj o=true):∀{cs:List (Str×FI)}{m:Mi Rr},(∀p∈cs,(mn,p.1,p.2)∈tb.mts)->xR tb r s o mn args cs=some m->JE X E (.Call (.Attribute o mn apos) args [] cpos) m
 |[],m,_,h=>by cases h
 |[p],m,hc,h=>pA R S hl d (hc p Rb) h
 |p::q::ps,m,hc,h=>by obtain⟨a,F,h⟩:=ae h;obtain⟨b,j,h⟩:=ae h;cases h;exact nW (pA R S hl d (hc p Rb) F) (sC R S hl d (λx w=>hc x (Q4 _ w)) j)
def yM(tb:Tb)(r:Tr)(s:Sc)(o:Expr)(m:Str)(apos:Pos)(args:List Expr)(cpos:Pos):Option (Mi Rr):=dP (apos.endLine==cpos.line&&pj o) (match FY tb m with
 |p::ps=>xR tb r s o m args (p::ps)
 |[]=>match args with
 |[]=>MI s o m
 |[e]=>dP (notStar e) (Lz r s o m e)
 |[e,f]=>dP (notStar e&&notStar f&&m==("get" : Str)&&!s.hd) (aq (r.E s o) λd=>aq (r.E s e) λy=>aq (r.E s f) λx=>some (rL d y x))
 | _=>none)
theorem wJ(R:cQ tb k r)(S:Sit tb k X E s)(h:yM tb r s o mn apos args cpos=some m):JE X E (.Call (.Attribute o mn apos) args [] cpos) m:=by
 have h':=ay h;clear h;obtain⟨h0,h⟩:=h';rw[QR] at h0;split at h
 .rename_i p ps ep;refine sC R S h0.1 h0.2 (λx w=>?_) h;rw[<-ep] at w;unfold FY at w;obtain⟨⟨a,b⟩,h1,h2⟩:=Uu.mp w;simp only at h2;split at h2
  .rename_i z;cases h2;rw[beq_iff_eq] at z;subst z;exact h1
  .cases h2
 split at h
 .unfold MI at h;split at h
  .obtain⟨i,J,h⟩:=ae h;obtain⟨T,Y,U,c⟩:=S.slot J;split at h
   .rename_i z;rw[beq_iff_eq] at z;cases h;subst z;exact zf T Y U c rfl h0.1
   .split at h
    .rename_i z;rw[beq_iff_eq] at z;cases h;subst z;exact Hy T Y U c rfl h0.1
    .cases h
  .cases h
 .have h':=ay h;clear h;obtain⟨u,h⟩:=h';unfold Lz at h;split at h
  .rename_i z;rw[beq_iff_eq] at z;split at h
   .obtain⟨i,J,h⟩:=ae h;obtain⟨n,j,h⟩:=ae h;obtain⟨T,Y,U,c⟩:=S.slot J;cases h;subst z;exact wt T Y U c (R.E S j) rfl (D3 u _ _) h0.1 (aH u _ _) rfl
   .cases h
  .split at h
   .rename_i z;rw[beq_iff_eq] at z;obtain⟨a,J,h⟩:=ae h;obtain⟨n,j,h⟩:=ae h;cases h;subst z;exact Fv (R.E S J) (R.E S j) (λx y=>su Vc PySem.F.slot_str_join PySem.F.type_str_join Ae x (cq y dB (aH u _ _)) (ck h0.2 _ _ _) (D3 u _ _) h0.1 (aH u _ _) rfl)
   .cases h
 .have h':=ay h;clear h;obtain⟨h1,h⟩:=h';simp only[QR,beq_iff_eq,Rq] at h1;obtain⟨⟨⟨h1,h2⟩,h3⟩,h4⟩:=h1;obtain⟨d,J,h⟩:=ae h;obtain⟨y,j,h⟩:=ae h;obtain⟨x,Q,h⟩:=ae h;cases h;subst h3;exact DX (rB (S.rm h4)) (R.E S J) (R.E S j) (R.E S Q) (Ni h0.2 h1 h2 h0.1)
 .cases h
def stK:Const->Option (Mi Rr)
 | .none=>some (mC .non)
 | .bool b=>some (mC (.bl b))
 | .int i=>some (mC (.int i))
 | .str x=>some (mC (.str x))
 |_=>none
def LI(m n:Mi Rr):Operator->Option (Mi Rr)
 | .Add=>some (aC bD m n)
 | .Sub=>some (aC uk m n)
 | .Mult=>some (aC dZ m n)
 | .FloorDiv=>some (aC lH m n)
 | .Mod=>some (aC j8 m n)
 | .Pow=>some (aC mX m n)
 |_=>none
theorem CY{a:Expr}{n:Mi Rr}{op:Operator}(h:LI m n op=some q)(ha:JE X E a m)(d:JE X E b n):JE X E (.BinOp a op b pos) q:=by
 cases op<;>first|(cases h;done)|skip
 .cases h;exact Es ha d
 .cases h;exact Iq ha d
 .cases h;exact Jd ha d
 .cases h;exact IV ha d
 .cases h;exact Jr ha d
 .cases h;exact Kh ha d
theorem F7{x:CmpOp}{c:Expr}(h:gF c=true):lastMarks [op,x] [b,c]=false:=ib h
def vV(r:Tr)(s:Sc)(a:Expr)(ops:List CmpOp)(bs:List Expr):Option (Mi Rr):=match ops,bs with
 |[op],[b]=>aq (r.E s a) λm=>aq (r.E s b) λn=>P1 s op a b m n
 |[op,op'],[b,c]=>dP (gF b&&gF c) (aq (PK op) λp=>aq (PK op') λq=>aq (r.E s a) λma=>aq (r.E s b) λmb=>aq (r.E s c) λh=>some (gH p q ma mb h))
 |_,_=>none
theorem nk(R:cQ tb k r)(S:Sit tb k X E s){a:Expr}{ops:List CmpOp}{bs:List Expr}(h:vV r s a ops bs=some m):JE X E (.Compare a ops bs pos) m/\JT X E (.Compare a ops bs pos) (ag m):=by
 unfold vV at h;split at h
 .obtain⟨O,F,h⟩:=ae h;obtain⟨P,j,h⟩:=ae h;exact JM S h (R.E S F) (R.E S j)
 .obtain⟨h0,h⟩:=ay h;rw[QR] at h0;obtain⟨p,F,h⟩:=ae h;obtain⟨q,j,h⟩:=ae h;obtain⟨ma,Q,h⟩:=ae h;obtain⟨mb,y,h⟩:=ae h;obtain⟨x,I,h⟩:=ae h;cases h;obtain⟨B,Y,l⟩:=A9 (X:=X) F;obtain⟨n,o2,o⟩:=A9 (X:=X) j;exact⟨rh Y o2 l o (R.E S Q) (R.E S y) (R.E S I) (F7 h0.2),BG Y o2 l o (R.E S Q) (R.E S y) (R.E S I) (F7 h0.2)⟩
 .cases h
def zj(r:Tr)(s:Sc)(ks:List (Option Expr))(vs:List Expr):Option (Mi Rr):=match ks,vs with
 |[],[]=>some pI
 |_,_=>none
theorem zN(R:cQ tb k r)(S:Sit tb k X E s){ks:List (Option Expr)}{vs:List Expr}(h:zj r s ks vs=some m):JE X E (.Dict ks vs pos) m:=by
 unfold zj at h;split at h
 .cases h;exact Cw
 .cases h
def Hz(tb:Tb)(r:Tr)(s:Sc)(f:Expr)(args:List Expr)(x:List Keyword)(cpos:Pos):Option (Mi Rr):=match x with
 |[]=>match f with
  | .Name f _=>Bg tb r s f args
  | .Attribute o m apos=>yM tb r s o m apos args cpos
  |_=>none
 |_::_=>none
theorem EZ(R:cQ tb k r)(S:Sit tb k X E s){f:Expr}{x:List Keyword}(h:Hz tb r s f args x pos=some m):JE X E (.Call f args x pos) m:=by
 unfold Hz at h;split at h
 .split at h
  .exact xl R S h
  .exact wJ R S h
  .cases h
 .cases h
def Qb(tb:Tb)(r:Tr)(s:Sc):Expr->Option (Mi Rr)
 | .Name x _=>match slot s x with
  |some i=>some (aa i)
  |none=>aq (tb.cst.lookup x) λa=>dP (Cq s x) (some (mC a))
 | .Constant c _ _=>stK c
 | .BinOp a op b _=>aq (r.E s a) λm=>aq (r.E s b) λn=>LI m n op
 | .UnaryOp op a _=>match op with
  | .USub=>aq (r.E s a) λm=>some (eU om m)
  | .Not=>aq (r.E s a) λm=>some (jf m)
  |_=>none
 | .BoolOp op vs _=>OH op (r.E s) vs
 | .Compare a ops bs _=>vV r s a ops bs
 | .IfExp t a b _=>aq (r.T s t) λmt=>aq (r.E s a) λm=>aq (r.E s b) λn=>some (Kf mt m n)
 | .Tuple es _ _=>aq (B3 (r.E s) es) λm=>some (bX m)
 | .List es _=>aq (B3 (r.E s) es) λm=>some (cO m)
 | .Dict ks vs _=>zj r s ks vs
 | .Subscript a b _=>zZ r s a b
 | .Call f args kw cpos=>Hz tb r s f args kw cpos
 | .Attribute o f _=>dP (pj o) (aq (r.E s o) λm=>match Jp s o with
  |some (_,_,i)=>some (aQ (cS (mK tb f) i f) (eU (aZ (mK tb f) f) m))
  | none=>some (eU (aZ (mK tb f) f) m))
 | .ListComp elt gs sc _=>mE r s elt gs sc
 |_=>none
theorem Kn(R:cQ tb k r)(S:Sit tb k X E s)(h:Qb tb r s e=some m):JE X E e m:=by
 cases e with
 |Name x _=>
  have h:(match slot s x with
   |some i=>some (aa i)
   | none=>aq (tb.cst.lookup x) λa=>dP (Cq s x) (some (mC a)))=some m:=h
  split at h
  .rename_i F;cases h;obtain⟨H,Y,U,A⟩:=S.slot F;exact Bz H Y U A
  .obtain⟨a,F,h⟩:=ae h;obtain⟨D,h⟩:=ay h;cases h;obtain⟨v,u,h1,h2,h3⟩:=S.gd.cs _ _ F;exact DS (S.glob D).1 h1 h2 h3 (S.glob D).2
 |Constant c _ _=>
  cases c<;>first|(cases h;done)|skip
  .cases h;exact IG
  .cases h;exact ME
  .cases h;exact Ky
  .cases h;exact H9
 |BinOp a op b _=>obtain⟨O,F,h⟩:=ae h;obtain⟨P,j,h⟩:=ae h;exact CY h (R.E S F) (R.E S j)
 |UnaryOp op a _=>
  cases op<;>first|(cases h;done)|skip
  .obtain⟨O,F,h⟩:=ae h;cases h;exact JK (R.E S F)
  .obtain⟨O,F,h⟩:=ae h;cases h;exact Kb (R.E S F)
 |BoolOp op vs _=>exact BR (λ_ _=>R.E S) h
 |Compare a ops bs _=>exact(nk R S h).1
 |IfExp t a b _=>obtain⟨mt,F,h⟩:=ae h;obtain⟨O,j,h⟩:=ae h;obtain⟨P,Q,h⟩:=ae h;cases h;exact NF (R.T S F) (R.E S j) (R.E S Q)
 |Tuple es _ _=>obtain⟨O,F,h⟩:=ae h;cases h;exact II (lO (λ_ _=>R.E S) F).1
 |List es _=>obtain⟨O,F,h⟩:=ae h;cases h;exact zW (lO (λ_ _=>R.E S) F).1
 |Dict ks vs _=>exact zN R S h
 |Subscript a b _=>exact yY R S h
 |Call f args w cpos=>exact EZ R S h
 |Attribute o f _=>
  obtain⟨d,h⟩:=ay h;obtain⟨O,F,h⟩:=ae h;split at h
  .rename_i x px i en;cases h;obtain⟨rfl,sl⟩:=o7 en;obtain⟨H,Y,U,A⟩:=S.slot sl;exact nW (A7 H Y U A (λc C=>S.gd.fl _ c C) (ck d _ _ _)) (wa (λc C=>S.gd.fl _ c C) (R.E S F) (ck d _ _ _))
  .cases h;exact wa (λc C=>S.gd.fl _ c C) (R.E S F) (ck d _ _ _)
 |ListComp elt gs sc _=>obtain⟨g,N,own,tg,iter,ifs,V,G,mt,y,rfl,rfl,q,Z,K,p,L,z⟩:=kM R S h;exact vN (S.cm g) q rfl Z K p L z
 |JoinedStr es _=>cases h
 |_=>cases h
def OJ(s:Sc)(bs:List Expr):Option Nat:=match bs with
 |[.ListComp _ [⟨_,.Attribute (.Name x _) f _,_,_⟩] _ _]=>dP (s.lv.contains ("*nob" : Str)&&s.lv.contains f) (slot s x)
 |_=>none
def HR(r:Tr)(s:Sc):Expr->Option (Mi Bool)
 | .Compare a ops bs _=>aq (vV r s a ops bs) λq=>match OJ s bs with
  |some i=>some (nF i (ag q))
  |none=>some (ag q)
 | .UnaryOp .Not a _=>aq (r.T s a) λm=>some (fG m)
 | .BoolOp op vs _=>OB op (r.T s) vs
 |e=>dP (plainT e) (aq (r.E s e) λm=>some (ag m))
theorem Dj(R:cQ tb k r)(S:Sit tb k X E s){m:Mi Bool}(h:HR r s e=some m):JT X E e m:=by
 unfold HR at h;split at h
 .obtain⟨q,F,h⟩:=ae h;split at h
  .cases h;exact Dw (nk R S F).2
  .cases h;exact(nk R S F).2
 .obtain⟨O,F,h⟩:=ae h;cases h;exact Hi (R.T S F)
 .exact MB (zh (λ_ _=>R.T S) h)
 .obtain⟨h0,h⟩:=ay h;obtain⟨O,F,h⟩:=ae h;cases h;exact Hv (R.E S F) (uN h0 _)
def tr(tb:Tb):Nat->Tr
 |0=>⟨λ_ _=>none,λ_ _=>none,λ_ _ _=>none⟩
 |n+1=>⟨λs e=>zX (xP tb (tr tb n) s e) (zX (Qb tb (tr tb n) s e) (xE tb (tr tb n) s e)),λs e=>zX (HR (tr tb n) s e) (xT tb (tr tb n) s e),xI tb (tr tb n)⟩
theorem mD:∀n,cQ tb k (tr tb n)
 |0=>⟨λ_ h=>(by cases h),λ_ h=>(by cases h),λ_ h=>(by cases h)⟩
 | n+1=>⟨λS h=>by
   rcases cU h with h|h
   .exact NP (mD n) S h
   rcases cU h with h|h
   .exact Kn (mD n) S h
   .exact Nc (mD n) S h,λS h=>by
   rcases cU h with h|h
   .exact Dj (mD n) S h
   .exact My (mD n) S h,λS h=>Nf (mD n) S h⟩
end
structure kf(tb:Tb)(k:Nat)(X:Cx)(E:XK)(s:Sc):Prop extends Sit tb k X E s where
 po:s.hd=false->PassesOwn (model X.prog X.w) X.A X.env X.xe
 st:s.hd=false->X.stack=X.env::X.outer/\X.env.frame=some X.env.locals/\X.ex=[]
 bk:X.env.blockKind=.function
noncomputable def Oo:Expr->Bool
 | .Starred ..=>true
 |_=>false
def OY(x y:Str)(px py:Pos)(a b:Expr):Bool:=x != y&&px.line==py.line&&notStar a&&notStar b&&!([a,b].all (foldedForSure 8))&&!([a,b].all (constantsAlone 8))
variable{y:Str}{kt:Nat}
theorem Ly{pt E:Pos}{g:Nat}{a:Expr}(h:OY x y px py a b=true)(w:env.kindOf x=some .local)(T:env.kindOf y=some .local)(d:env.blockKind=.function):
  swappedStores [.Tuple [.Name x px,.Name y py] kt pt] (.Tuple [a,b] g E) env=pure (some [x,y]):=by
 unfold OY at h;simp only[QR,bne_iff_ne,ne_eq,beq_iff_eq,Rq] at h;obtain⟨⟨⟨⟨⟨h1,h2⟩,h3⟩,h4⟩,h5⟩,m⟩:=h;have s1:(([a,b]:List Expr).any fun | .Starred ..=>true|_=>false)=false:=by
  rw[Uy];intro e R;have hn:notStar e=true:=by
   rcases Ra.mp R with z|z
   .rw[z];exact h3
   .rw[Q5.mp z];exact h4
  cases e<;>first|(cases hn;done)|exact RE
 have c:(y==x)=false:=beq_eq_false_iff_ne.mpr λz=>h1 z.symm;have q:(x==y)=false:=beq_eq_false_iff_ne.mpr h1;unfold swappedStores;have pn:∀(n:Str)(p:Pos),(Expr.Name n p).pos=p:=λ_ _=>rfl;simp[d,s1,w,T,pn,<-h2,h5,m,List.eraseDups_cons,c,q];intro z;exfalso;rcases z with z|z
 .cases a<;>first|(cases h3;done)|cases z
 .cases b<;>first|(cases h4;done)|cases z
noncomputable def vb:Expr->Bool
 | .Tuple _ _ _=>false
 |_=>true
theorem mJ(h:vb e=true):swappedStores [tg] e env=pure none:=by cases tg<;>first|rfl|(cases e<;>first|rfl|cases h)
variable{i:Expr}
theorem uG:swappedStores [.Subscript o i p] e env=pure none:=by cases e<;>rfl
variable{l:Nat}
theorem oT:swapsWith e (some (.Subscript o i p)) l env=pure false:=by cases e<;>rfl
theorem tO{sc:Scope}(h:env.kindOf x=some .cell):swapsWith (.ListComp elt gs sc pos) (some (.Name x px)) l env=pure false:=by unfold swapsWith;show (pure (env.blockKind==.function&&env.kindOf x==some .local&&px.line==pos.line&&!(sc.names.any λp=>p.1==x&&(p.2==.local || p.2==.cell))):Sem Bool)=pure false;rw[h,show (some (NameKind.cell)==some (NameKind.local))=false from rfl,Tn,Uc,Uc]
theorem rp{t:Expr}(h:j5 e=true)(l:Nat)(env:Env):swapsWithSole [t] e l env=pure false:=kJ h (some t) l env
theorem zK:swapsWithSole [.Subscript o i p] e l env=pure false:=oT (e:=e) (o:=o) (i:=i) (p:=p) (l:=l) (env:=env)
theorem DG(h:eZ i=true)(v:Value):assign (.Subscript o i p) env v=(do
   let ov <- holding [v] (eval o env)
   let iv <- holding [v,ov] (eval i env)
   standAt p
   holding [v,ov,iv] (setItem ov iv v)
   release [v,ov,iv] []):=by cases i<;>first|rfl|cases h
variable{ts:List Expr}
section
variable{tb:Tb}{k:Nat}{X:Cx}{E:XK}{s:Sc}
def zV(r:Tr)(s:Sc)(x:Str)(px:Pos)(e:Expr):Option Ms:=aq (i8 s x) λi=>match e with
 | .ListComp elt gs sc pos=>match qW s x .local with
  |true=>dP (px.line==pos.line&&!(sc.names.any λp=>p.1==x&&(p.2==.local || p.2==.cell))) (aq (mE r s elt gs sc) λm=>some (aO i m))
  |false=>aq (r.E s e) λm=>some (aO i m)
 |e=>dP (j5 e) (aq (r.E s e) λm=>some (aO i m))
theorem wB(R:cQ tb k r)(S:kf tb k X E s){m:Ms}(h:zV r s x px e=some m):JS X E (.Assign [.Name x px] e pos) m:=by
 obtain⟨i,F,h⟩:=ae h;obtain⟨T,a,U,b⟩:=S.i8 F;have V:X.N.Nodup:=by rw[S.n];exact S.nd
 split at h
 .split at h
  .rename_i z;obtain⟨h0,h⟩:=ay h;simp only[QR,Rq] at h0;obtain⟨O,j,h⟩:=ae h;cases h;have hl:X.env.scope.names.lookup x=some .local:=S.lc x (by unfold qW at z;simpa using z);obtain⟨o,N,own,tg,iter,ifs,H,G,mt,P,rfl,rfl,q,Z,v,p,K,L⟩:=kM R S.toSit j;exact Eg (S.cm o) q rfl V T hl (uD S.bk hl h0.1 h0.2) Z v p K L
  .rename_i z;obtain⟨O,j,h⟩:=ae h;cases h;refine AU V T a (R.E S.toSit j) (tO ?_) b;obtain⟨g,_⟩:=ay F;simp only[QR,t5,R5] at g;rcases g.1 with y|y
   .rw[y] at z;cases z
   .exact S.ce x (by unfold qW at y;simpa using y)
 .obtain⟨h0,h⟩:=ay h;obtain⟨O,j,h⟩:=ae h;cases h;exact AU V T a (R.E S.toSit j) (kJ h0 _ _ _) b
noncomputable def Hq(e:Expr):Option (Expr×Expr):=match e with
 | .Tuple es _ _=>match es with
  |[a,b]=>some (a,b)
  |_=>none
 |_=>none
theorem xo{a:Expr}(h:Hq e=some (a,b)):∃c p,e=.Tuple [a,b] c p:=by
 cases e with
 |Tuple es c p=>match es,h with
  |[a,b],h=>cases h;exact⟨c,p,rfl⟩
 |_=>cases h
def JQ(ts:List Expr):Option ((Str×Pos)×Str×Pos):=match ts with
 |[a,b]=>aq (FX a) λp=>aq (FX b) λq=>some (p,q)
 |_=>none
theorem wK(h:JQ ts=some ((x,px),y,py)):ts=[.Name x px,.Name y py]:=by
 match ts,h with
 |[a,b],h=>obtain⟨p,h1,h⟩:=ae h;obtain⟨q,h2,h⟩:=ae h;cases h;rw[iO h1,iO h2]
def uv(r:Tr)(s:Sc)(ts:List Expr)(e:Expr):Option Ms:=dP (vb e&&j5 e) (aq (r.E s e) λm=>aq (Cr s 0 9 (.Tuple ts 0 default)) λg=>some (tG m g))
def AI(r:Tr)(s:Sc)(ts:List Expr)(e:Expr):Option Ms:=match JQ ts with
 | some ((x,px),y,py)=>(match Hq e with
  |some (a,b)=>dP (!s.hd&&qW s x .local&&qW s y .local&&okN x&&okN y&&OY x y px py a b) (aq (i8 s x) λi=>aq (i8 s y) λj=>dP (i != j) (aq (B3 (r.E s) [a,b]) λm=>some (Aj i j m)))
  | none=>uv r s ts e)
 |none=>uv r s ts e
theorem Iy{lo d:Nat}{n w:Nat}{S:Pos}{g:Mg}(h:Cr s lo d (.Tuple ts n p)=some g):Cr s lo d (.Tuple ts w S)=some g:=by
 cases d with
 |zero=>cases h
 |succ d=>exact h
theorem oM(R:cQ tb k r)(S:kf tb k X E s){pt:Pos}{m:Ms}(h:uv r s ts e=some m):JS X E (.Assign [.Tuple ts kt pt] e pos) m:=by obtain⟨h0,h⟩:=ay h;rw[QR] at h0;obtain⟨O,F,h⟩:=ae h;obtain⟨g,j,h⟩:=ae h;cases h;exact KR (R.E S.toSit F) (mI S.toSit (Iy j)) (rp h0.2 _ _) (mJ h0.1) (hp:=λx y=>As x y (rp h0.2 _ _) (mJ h0.1))
theorem zL(R:cQ tb k r)(S:kf tb k X E s){pt:Pos}{m:Ms}(h:AI r s ts e=some m):JS X E (.Assign [.Tuple ts kt pt] e pos) m:=by
 unfold AI at h;cases l:JQ ts with
 |none=>rw[l] at h;exact oM R S h
 |some p=>
  obtain⟨⟨x,px⟩,y,py⟩:=p;rw[l] at h;dsimp only at h;cases o:Hq e with
  |none=>rw[o] at h;exact oM R S h
  |some p=>
   obtain⟨a,b⟩:=p;rw[o] at h;obtain⟨h0,h⟩:=ay h;simp only[QR,Rq] at h0;obtain⟨⟨⟨⟨⟨h1,h2⟩,h3⟩,_⟩,_⟩,h4⟩:=h0;obtain⟨i,F,h⟩:=ae h;obtain⟨j,H,h⟩:=ae h;obtain⟨A,h⟩:=ay h;obtain⟨ma,Q,h⟩:=ae h;cases h;obtain rfl:=wK l;obtain⟨c,p,rfl⟩:=xo o;have z:X.N.Nodup:=by rw[S.n];exact S.nd
   have l1:=S.lc x (show s.nm.lookup _=_ by unfold qW at h2;simpa using h2);have U:=S.lc y (show s.nm.lookup _=_ by unfold qW at h3;simpa using h3);have v:i≠j:=by simpa using A
   exact HB (lO (λ_ _=>R.E S.toSit) Q).1 v (λy=>HI (S.cm h1) z (S.i8 F).1 (S.i8 H).1 v l1 U y (Ly h4 l1 U S.bk))
def MV(r:Tr)(s:Sc)(x:Str)(F e:Expr):Option Ms:=aq (slot s x) λi=>aq (r.E s F) λmk=>aq (r.E s e) λm=>dP (!s.hd&&eZ F) (match s.di.contains x with
 |true=>some (kh i mk m)
 | false=>some (mQ i mk m))
theorem Ex(R:cQ tb k r)(S:kf tb k X E s){F:Expr}{m:Ms}(h:MV r s x F e=some m):JS X E (.Assign [.Subscript (.Name x px) F p1] e pos) m:=by
 obtain⟨i,J,h⟩:=ae h;obtain⟨mk,j,h⟩:=ae h;obtain⟨O,Q,h⟩:=ae h;obtain⟨o,h⟩:=ay h;simp only[QR,Rq] at o;obtain⟨T,a,U,b⟩:=S.slot J;split at h
 .cases h;exact Ff (rB (S.rm o.1)) T a U b (R.E S.toSit j) (R.E S.toSit Q) oT
 .cases h;exact zy T a U b (R.E S.toSit j) (R.E S.toSit Q) (λx y z=>As z (IL x y set_list (DG o.2)) zK uG)
theorem oU:swapsWith e (some (.Attribute o f p)) l env=pure false:=by cases e<;>rfl
noncomputable def MZ:Expr->Bool
 | .List es _=>es.isEmpty
 |_=>false
theorem wZ(h:MZ e=true):∃p,e=.List [] p:=by
 cases e<;>first|(cases h;done)|skip
 rename_i es p;cases es with
 |nil=>exact⟨p,rfl⟩
 |cons a b=>cases h
def Lk(tb:Tb)(r:Tr)(s:Sc)(x f:Str)(e:Expr):Option Ms:=aq (slot s x) λi=>match s.lv.contains ("*nob" : Str)&&s.lv.contains f&&MZ e with
 |true=>some (vo (mK tb f) i f)
 |false=>aq (r.E s e) λm=>some (gq (mK tb f) i f m)
theorem D9(R:cQ tb k r)(S:kf tb k X E s){m:Ms}(h:Lk tb r s x f e=some m):JS X E (.Assign [.Attribute (.Name x px) f p1] e pos) m:=by
 obtain⟨i,F,g⟩:=ae h;clear h;obtain⟨T,a,U,b⟩:=S.slot F;split at g
 .rename_i z;rw[QR] at z;obtain⟨p,rfl⟩:=wZ z.2;cases g;exact Dg T a U b (λc C=>S.gd.fl _ c C) (zW tD) oU
 .obtain⟨O,j,g⟩:=ae g;cases g;exact DU T a U b (λc C=>S.gd.fl _ c C) (R.E S.toSit j) oU
def yA(tb:Tb)(r:Tr)(s:Sc)(t e:Expr):Option Ms:=match t with
 | .Name x px=>zV r s x px e
 | .Tuple ts _ _=>AI r s ts e
 | .Subscript (.Name x _) ek _=>MV r s x ek e
 | .Attribute (.Name x _) f _=>Lk tb r s x f e
 |_=>none
theorem Bq(R:cQ tb k r)(S:kf tb k X E s){t:Expr}{m:Ms}(h:yA tb r s t e=some m):JS X E (.Assign [t] e pos) m:=by
 unfold yA at h;split at h
 .exact wB R S h
 .exact zL R S h
 .exact Ex R S h
 .exact D9 R S h
 .cases h
end
section
variable{tb:Tb}{k:Nat}{X:Cx}{E:XK}{s:Sc}
def uE(F:Stmt->Option Ms):List Stmt->Option Ms
 |[]=>some bf
 |[a]=>F a
 |a::b::r=>aq (F a) λm=>aq (uE F (b::r)) λn=>some (av m n)
theorem iU{F:Stmt->Option Ms}(h:∀a m,F a=some m->JS X E a m):∀{l:List Stmt}{m:Ms},uE F l=some m->wu X E l m
 |[],m,e=>by cases e;exact CU
 |[a],m,e=>Ej (h _ _ e)
 |a::b::r,m,e=>by obtain⟨O,J,e⟩:=ae e;obtain⟨P,j,e⟩:=ae e;cases e;exact yt (h _ _ J) (iU h j)
noncomputable def xS(tb:Tb)(r:Tr)(s:Sc)(F:Sc->Stmt->Option Ms)(st:Stmt):Option Ms:=none
theorem Nn{F:Sc->Stmt->Option Ms}(R:cQ tb k r)(S:kf tb k X E s)(c:∀Q,Passes ES X Q->∀a m,F (Qe s) a=some m->JS X Q a m){st:Stmt}{m:Ms}(h:xS tb r s F st=some m):JS X E st m:=by cases h
end
variable{base:Heap}{dV:Value}
section
variable{tb:Tb}{k:Nat}{X:Cx}{E:XK}{s:Sc}
def GP(r:Tr)(s:Sc)(tg it:Expr)(b:Ms):Option Ms:=dP (gF it) (aq (PJ r s tg it) λm=>aq (Cr s 0 9 tg) λG=>some (dt m G b))
theorem A4(R:cQ tb k r)(S:kf tb k X E s)(o:s.hd=false){it:Expr}{body:List Stmt}{b m:Ms}(d:wu X E body b)(h:GP r s tg it b=some m):JS X E (.For tg it body [] pos) m:=by obtain⟨h0,h⟩:=ay h;obtain⟨O,F,h⟩:=ae h;obtain⟨G,j,h⟩:=ae h;cases h;exact KD (S.po o) (S.cm o) (B8 R S.toSit F) (mI S.toSit j) d (jt h0 _)
def ya(tb:Tb)(r:Tr)(s:Sc)(ts:List Expr)(e:Expr):Option Ms:=match ts with
 |[t]=>yA tb r s t e
 |_=>none
def OO(tb:Tb)(r:Tr)(s:Sc)(ex ca:Option Expr):Option Ms:=some fj
def QB(tb:Tb)(r:Tr)(s:Sc)(F:Sc->Stmt->Option Ms):Stmt->Option Ms
 | .Assign ts e _=>ya tb r s ts e
 | .Return none _=>some Gm
 | .Return (some e) _=>aq (r.E s e) λm=>some (bh m)
 | .If t a b _=>aq (r.T s t) λmt=>aq (uE (F s) a) λm=>aq (uE (F s) b) λn=>some (fD mt m n)
 | .While t b els _=>dP (!s.hd&&els.isEmpty) (aq (r.T s t) λmt=>aq (uE (F s) b) λm=>some (iw B7 mt m))
 | .For tg it b els _=>dP (!s.hd&&els.isEmpty) (aq (uE (F s) b) λm=>GP r s tg it m)
 | .Raise ex ca _=>OO tb r s ex ca
 | .Expr e _=>dP (j5 e) (aq (r.E s e) λm=>some (bK m))
 | .Pass _=>some bf
 | .Break _=>some AL
 | .Continue _=>some GB
 |_=>none
def K0(tb:Tb)(r:Tr):Nat->Sc->Stmt->Option Ms
 |0,_,_=>none
 |d+1,s,st=>zX (xS tb r s (K0 tb r d) st) (QB tb r s (K0 tb r d) st)
theorem kf.NT{h:XK}(S:kf tb k X E s)(h1:Passes ES X h):kf tb k X h (Qe s):=⟨⟨S.n,S.nd,S.gl,S.vs,S.lo,S.lc,S.ce,S.fx,S.cm,S.rm,λ_=>h1,S.gd⟩,S.po,S.st,S.bk⟩
theorem tN{r:Tr}(R:cQ tb k r):∀{d:Nat}{X:Cx}{E:XK}{s:Sc}{st:Stmt}{m:Ms},kf tb k X E s->K0 tb r d s st=some m->JS X E st m
 |0,X,E,s,st,m,S,h=>by cases h
 |d+1,X,E,s,st,m,S,h=>by
  have l:∀a m,K0 tb r d s a=some m->JS X E a m:=λa m e=>tN R S e;unfold K0 at h;have h':=cU h;clear h;rcases h' with h|h
  .exact Nn R S (λZ h1 a m e=>tN R (S.NT h1) e) h
  cases st with
  |Assign ts e _=>
   have h:ya tb r s ts e=some m:=h;unfold ya at h;split at h
   .exact Bq R S h
   .cases h
  |Return v _=>cases v with
   |none=>cases h;exact Fg
   |some e=>obtain⟨O,F,h⟩:=ae h;cases h;exact Hs (R.E S.toSit F)
  |If t a b _=>obtain⟨mt,F,h⟩:=ae h;obtain⟨O,j,h⟩:=ae h;obtain⟨P,Q,h⟩:=ae h;cases h;exact Nm (R.T S.toSit F) (iU l j) (iU l Q)
  |While t b x _=>have h':=ay h;clear h;obtain⟨h0,h⟩:=h';simp only[QR,Rq,SI] at h0;obtain⟨o,rfl⟩:=h0;obtain⟨mt,F,h⟩:=ae h;obtain⟨O,j,h⟩:=ae h;cases h;exact Bp (S.po o) (R.T S.toSit F) (iU l j)
  |For tg it b x _=>have h':=ay h;clear h;obtain⟨h0,h⟩:=h';simp only[QR,Rq,SI] at h0;obtain⟨o,rfl⟩:=h0;obtain⟨O,j,h⟩:=ae h;exact A4 R S o (iU l j) h
  |Raise ex ca _=>cases h;exact D1
  |Expr e _=>obtain⟨h0,h⟩:=ay h;obtain⟨O,F,h⟩:=ae h;cases h;exact D4 (R.E S.toSit F) (kJ h0 _ _ _)
  |Pass _=>cases h;exact EB
  |Break _=>cases h;exact BI
  |Continue _=>cases h;exact Eo
  |_=>cases h
structure DI where
 cl:Option Str
 name:Str
 st:Stmt
 N:List Str
 n:Nat
 di:List Str
 mu:List Bool
 df:List A
 lv:List Str
 m:Ms
 ce:List Str:=[]
 tp:Bool:=false
 sp:Bool:=false
def DI.sc(d:DI):Sc:={ N:=d.N,nm:=(bu d.st).names,di:=d.di,ca:=[],hd:=false,lv:=d.lv }
def iz(d:DI):Bool:=(bu d.st).kind==.function&&!(bu d.st).isCoroutine&&!(bu d.st).isGenerator&&decide d.N.Nodup&&Ti d.n d.N.length&&(d.N.take d.n).all (λx=>(bu d.st).names.lookup x==some .local || (bu d.st).names.lookup x==some .cell)&&(bu d.st).names.all (λy=>y.2 != .free)
variable{d:DI}
theorem iR(h:iz d=true):j6 d.N (d.N.take d.n) (bu d.st)/\(d.N.take d.n).length=d.n:=by
 unfold iz at h;simp only[QR,beq_iff_eq,Rq,decide_eq_true_eq,RG,R5,bne_iff_ne,ne_eq] at h;obtain⟨⟨⟨⟨⟨⟨h1,h2⟩,h3⟩,h4⟩,h5⟩,m⟩,q⟩:=h;have hl:(d.N.take d.n).length=d.n:=by rw[RX];have:=R3 h5;lia
 exact⟨⟨h1,h2,h3,h4,by rw[hl],m,q⟩,hl⟩
def DI.M(d:DI):Ms:=bx (d.N.length-d.n) d.m
noncomputable def DI.fi(d:DI):FI:=⟨d.n,d.M,d.mu,d.df,!d.ce.isEmpty⟩
noncomputable def DI.qual(d:DI):Str:=match d.cl with
 |none=>d.name
 |some c=>c++(("." : Str)++d.name)
def Tb.add(tb:Tb)(d:DI):Tb:=match d.cl with
 |none=>{ tb with fns:=(d.name,d.fi)::tb.fns }
 |some c=>match d.name==("__init__" : Str) with
  |true=>{ tb with ini:=(c,d.fi)::tb.ini }
  |false=>{ tb with mts:=(d.name,c,d.fi)::tb.mts }
noncomputable def JU:Nat:=40
noncomputable def Ac:Ms:=λ_=>none
theorem Ay{l:List Stmt}:wu X E l Ac:=⟨λpins s Y H D I h=>by obtain⟨c,Z,B,θ,f,O,r,b,em,q⟩:=h;cases em⟩
def tT(tb:Tb)(d:DI):Option Ms:=match d.sp with
 |true=>some Ac
 |false=>uE (K0 tb (tr tb JU) JU d.sc) (fJ d.st)
theorem Dh{m:Ms}(h:tT tb d=some m)(S:kf tb k X E d.sc):wu X E (fJ d.st) m:=by
 unfold tT at h;split at h
 .cases h;exact Ay
 .exact iU (λa m e=>tN (mD JU) S e) h
theorem Gr{f:Addr}{qual:Str}(G:Gd tb k P w K mg base)(F:qx K d.name qual d.st f fd dV)(u:iz d=true)
  (h:tT tb d=some d.m):dg P w K mg base ES (k+1) f fd (d.N.take d.n) (iW ⟨K,mg,P,w⟩ d.n d.M):=by
 obtain⟨S,hl⟩:=iR u;have C:=Ee (CX:=ES) (P:=P) (w:=w) (mg:=mg) (base:=base) (k:=k) (m:=d.m) F S (λcdv A outer s H E y=>Dh h (?_:kf tb k _ E d.sc))
 .rw[hl] at C;exact C
 .refine⟨⟨rfl,S.nd,λx q=>q,λx q=>?_,λx q=>?_,λx q=>q,λx q=>q,λx q=>.inl rfl,λ_=>rfl,λ_=>y,λ_ _ _ _ _ _ _ _ x=>x.elim,G⟩,λ_=>PassesOwn.leaving,λ_=>⟨rfl,rfl,rfl⟩,?_⟩
  .unfold Et qW DI.sc at q;simp only[R5,beq_iff_eq] at q;rcases q with (z|z)|z
   .exact .inl z
   .exact .inr (.inl z)
   .exact .inr (.inr z)
  .unfold t5 qW DI.sc at q;simp only[R5,beq_iff_eq] at q;exact q
  .show (if (bu d.st).kind.isAnnotationScope then ScopeKind.function else (bu d.st).kind)=.function;rw[S.kind];rfl
end
theorem uP:∀{us:List Value}{n:Str},us.length=ps.length->n∈ps->((ps.zip us).lookup n).isSome=true:=by
 induction ps with
 |nil=>intro us n _ h;cases h
 |cons p ps l=>
  intro us n hl h;cases us with
  |nil=>cases hl
  |cons u us=>
   rw[SQ,Rk];split
   .rfl
   .rename_i z;rcases Ra.mp h with y|y
    .rw[y,beq_self_eq_true] at z;cases z
    .exact l (by simpa using hl) y
theorem nB:∀{us:List Value}{pre:List (Str×Value)},us.length=ps.length->ps.Nodup->(∀n∈ps,pre.lookup n=none)->ps.filterMap (λn=>((pre++ps.zip us).lookup n).map (n,·))=ps.zip us:=by
 induction ps with
 |nil=>intro us pre _ _ _;rfl
 |cons p ps l=>
  intro us pre hl nd hp;cases us with
  |nil=>cases hl
  |cons u us=>
   obtain⟨R,E⟩:=Ry.mp nd;have F:(pre++(p,u)::ps.zip us).lookup p=some u:=by rw[VS,hp p Rb,Rk,beq_self_eq_true];rfl
   rw[SQ,Te,F];show (p,u)::_=_
   congr 1
   have:=l (us:=us) (pre:=pre++[(p,u)]) (by simpa using hl) E (λn hn=>by rw[VS,hp n (Q4 _ hn),Rk];have:(n==p)=false:=beq_eq_false_iff_ne.mpr λz=>R (z▸hn);rw[this];rfl)
   simpa[QZ] using this
theorem lh{α β:Type}{f:α->β->Sem (ForInStep β)}{g:β->α->β}(h:∀a b,f a b=pure (.yield (g b a))):∀(l:List α)(b:β),(forIn l b f:Sem β)=pure (l.foldl g b)
 |[],_=>rfl
 |a::l,b=>by rw[Wa,h,pure_bind];exact lh h l _
noncomputable def so(S:List (Str×Value))(x:Str×Value):List (Str×Value):=if (S.lookup x.1).isNone=true then S++[(x.1,x.2)] else S
variable{us:List Value}
theorem qk(h1:fd.params.posonlyargs=[])(h2:fd.params.kwonlyargs=[])(h3:fd.params.vararg=none)(h4:fd.params.kwarg=none)(m:fd.params.args.map (·.arg)=ps)(hl:us.length<=ps.length):
  ∃k,bindArgs fd ⟨us,[]⟩=seqItems? fd.defaults >>= k/\∀(o:Option (Array Value))(ds:List Value),(o.getD #[]).toList.drop ((o.getD #[]).toList.length-ps.length)=ds->
   (ps.take (ps.length-ds.length)).filter (λn=>((ps.zip us).lookup n).isNone)=[]->
   k o=pure ((ps++[]).filterMap λn=>((((ps.drop (ps.length-ds.length)).zip ds).foldl so (ps.zip us)).lookup n).map (n,·)):=by
 obtain⟨nm,v,d,Z,sc,gl,cl,de,Y,q,pm,an,cd,ct,s⟩:=fd;obtain⟨po,h,E,c,i,x,df⟩:=d;obtain rfl:h.map (·.arg)=ps:=m;obtain rfl:po=[]:=h1;obtain rfl:c=[]:=h2;obtain rfl:E=none:=h3;obtain rfl:x=none:=h4;refine⟨_,rfl,λo ds hd hm=>?_⟩;subst hd;refine(if_neg (λz=>?_)).trans ?_
 .rw[QR,decide_eq_true_eq] at z;exact absurd z.1 (Nat.not_lt.mpr hl)
 refine(if_neg (λz=>?_)).trans ?_
 .rw[Rq,List.isEmpty_eq_false_iff] at z;exact z hm
 refine(congrArg (· >>= _) (lh (g:=so) (λa b=>?_) _ _)).trans ?_
 .unfold so;by_cases z:(b.lookup a.1).isNone=true
  .rw[if_pos z];exact if_pos z
  .rw[if_neg z];exact if_neg z
 .exact rfl
theorem km(hl:us.length=ps.length):ps.filter (λn=>((ps.zip us).lookup n).isNone)=[]:=by
 rw[SX];intro n hn;have:=uP hl hn;cases e:(ps.zip us).lookup n with
 |none=>rw[e] at this;cases this
 |some v=>exact RE
theorem rb(h1:fd.params.posonlyargs=[])(h2:fd.params.kwonlyargs=[])(h3:fd.params.vararg=none)(h4:fd.params.kwarg=none)(h5:fd.defaults=.none)(m:fd.params.args.map (·.arg)=ps)(nd:ps.Nodup)(hl:us.length=ps.length):
  bindArgs fd ⟨us,[]⟩=pure (ps.zip us):=by
 obtain⟨k,F,j⟩:=qk (us:=us) h1 h2 h3 h4 m (UI hl);rw[F,h5];refine(j none [] Wv (by rw[T2,Vy,RH];exact km hl)).trans ?_;rw[RK,List.zip_nil_right];have R:=nB (pre:=[]) hl nd (λn _=>rfl);rw[SN] at R;exact congrArg pure R
theorem AQ:∀{us:List Value}{z:Str},z∉ps->(ps.zip us).lookup z=none:=by
 induction ps with
 |nil=>intro us z _;rfl
 |cons p ps l=>
  intro us z hz;cases us with
  |nil=>rfl
  |cons u us=>rw[SQ,Rk];have:(z==p)=false:=beq_eq_false_iff_ne.mpr λy=>hz (y▸Rb);rw[this];exact l λy=>hz (Q4 _ y)
variable{qs:List Str}
theorem xK:∀{us:List Value},us.length=ps.length->(ps++qs).zip us=ps.zip us:=by
 induction ps with
 |nil=>intro us h;cases us with
  |nil=>cases qs<;>rfl
  |cons _ _=>cases h
 |cons p ps l=>intro us h;cases us with
  |nil=>cases h
  |cons u us=>rw[SH,SQ,SQ,l (by simpa using h)]
theorem zF{s:Shared}{z:Str}{I:Addr}{o:Obj}{h:Value}{ep:Nat}(h1:fd.params.posonlyargs=[])(h2:fd.params.kwonlyargs=[])(h3:fd.params.vararg=none)(h4:fd.params.kwarg=none)(h5:fd.defaults=.ref I)(i:s.heap.get? I=some o)(u:o.data=.seq #[h] ep)
  (m:fd.params.args.map (·.arg)=qs++[z])(nd:(qs++[z]).Nodup):
  (us.length=(qs++[z]).length->BindsTo s fd ⟨us,[]⟩ ((qs++[z]).zip us))/\(us.length=qs.length->BindsTo s fd ⟨us,[]⟩ ((qs++[z]).zip (us++[h]))):=by
 have nz:z∉qs:=λy=>(Q8.mp nd).2.2 z y z Rb rfl;have F:List.drop (1-(qs++[z]).length) [h]=[h]:=by rw[show 1-(qs++[z]).length=0 by simp];rfl
 have j:(qs++[z]).take ((qs++[z]).length - [h].length)=qs:=by simp
 have Q:(qs++[z]).drop ((qs++[z]).length - [h].length)=[z]:=by simp
 refine⟨λhl=>?_,λhl=>?_⟩
 .obtain⟨k,K,g⟩:=qk (us:=us) h1 h2 h3 h4 m (UI hl);refine .of_defaults h5 i u K ((g (some #[h]) [h] F ?_).trans ?_)
  .rw[j,SX];exact λn hn=>SX.mp (km hl) n (QX _ hn)
  .have J:¬ (((qs++[z]).zip us).lookup z).isNone=true:=SX.mp (km hl) z (QV _ Rb);rw[Q];have R:Xn so ((qs++[z]).zip us) ([z].zip [h])=(qs++[z]).zip us:=if_neg J;rw[R,RK];exact congrArg pure (nB (pre:=[]) hl nd (λn _=>rfl))
 .obtain⟨k,K,g⟩:=qk (us:=us) h1 h2 h3 h4 m (by rw[hl,Rc];exact So _ _);have hz:(qs++[z]).zip us=qs.zip us:=xK hl;refine .of_defaults h5 i u K ((g (some #[h]) [h] F ?_).trans ?_)
  .rw[j,hz];exact km hl
  .have D:(us++[h]).length=(qs++[z]).length:=by rw[Rc,Rc,hl];rfl
   have L:(qs++[z]).zip (us++[h])=qs.zip us++[(z,h)]:=by rw[List.zip_append hl.symm];rfl
   rw[Q,hz];have R:Xn so (qs.zip us) ([z].zip [h])=qs.zip us++[(z,h)]:=if_pos (by rw[AQ nz];rfl);rw[R,<-L,RK];exact congrArg pure (nB (pre:=[]) D nd (λn _=>rfl))
mutual
noncomputable def zE(K:QU):Nat->Value->A->Bool
 |0,_,_=>false
 |n+1,v,a=>match v,a with
  | .none,.non=>true
  | .bool b,.bl c=>b==c
  | .int i _,.int j=>i==j
  | .str x _,.str y=>x==y
  | .ref p,.tup as=>(match K.lookup p with
   |some ⟨.type "tuple",none,.seq its _,_⟩=>Ti its.size 1000&&vI K n its.toList as
   | _=>false)
  |_,_=>false
noncomputable def vI(K:QU):Nat->List Value->List A->Bool
 |0,_,_=>false
 |_+1,[],[]=>true
 |n+1,v::vs,a::as=>zE K n v a&&vI K n vs as
 |_+1,_,_=>false
end
mutual
theorem qG{P:Program}{w:World}{K:QU}{mg:Str->Option Value}:∀{n:Nat}{v:Value}{a:A},zE K n v a=true->∃x,RelV x v/\∀G,RA ⟨K,mg,P,w⟩ G x a
 |0,v,a,h=>by cases h
 |n+1,v,a,h=>by
  unfold zE at h;split at h
  .exact⟨.non,rfl,λ_=>.non⟩
  .rw[beq_iff_eq] at h;subst h;exact⟨.bl _,rfl,λ_=>.bl _⟩
  .rw[beq_iff_eq] at h;subst h;exact⟨.int _,⟨_,rfl⟩,λ_=>.int _⟩
  .rw[beq_iff_eq] at h;subst h;exact⟨.str _,⟨_,rfl⟩,λ_=>.str _⟩
  .split at h
   .rename_i its ep sl e;rw[QR] at h;obtain⟨xs,h1,h2⟩:=rR (P:=P) (w:=w) (mg:=mg) h.2;refine⟨.ref _,rfl,λG=>.tup (.inr ⟨_,its,_,e,⟨rfl,rfl⟩,rfl,?_,h1⟩) (h2 G)⟩;have:=R3 h.1;have:=kz;lia
   .cases h
  .cases h
theorem rR{P:Program}{w:World}{K:QU}{mg:Str->Option Value}:∀{n:Nat}{vs:List Value}{as:List A},vI K n vs as=true->∃xs,Vals xs vs/\∀G,bS ⟨K,mg,P,w⟩ G xs as
 |0,vs,as,h=>by cases h
 |_+1,[],[],h=>⟨[],.nil,λ_=>.nil⟩
 |n+1,v::vs,a::as,h=>by rw[vI,QR] at h;obtain⟨x,h1,h2⟩:=qG (P:=P) (w:=w) (mg:=mg) h.1;obtain⟨xs,h3,h4⟩:=rR (P:=P) (w:=w) (mg:=mg) h.2;exact⟨x::xs,.cons h1 h3,λG=>.cons (h2 G) (h4 G)⟩
 |_+1,[],_::_,h=>by cases h
 |_+1,_::_,[],h=>by cases h
end
noncomputable def gV(K:QU)(x:Str):Option Value:=match Vb K mainGlobals x with
 |some (some v)=>some v
 |_=>none
variable{h:Heap}
theorem wb(X:K.In h)(G:h.Ns mainGlobals mg){v:Value}(e:gV K x=some v):mg x=some v:=by
 unfold gV at e;split at e
 .rename_i q;cases e;exact PySem.W.mg_of X G q
 .cases e
def NW(K:QU)(p:Str×A):Bool:=match gV K p.1 with
 |some v=>zE K 20 v p.2
 |none=>false
noncomputable def qU(K:QU)(C:Addr):Bool:=S3 K C Str.empty&&Tj K C&&Uk K C&&RP K (.ref C) "__setattr__" == some (some (.builtin "object.__setattr__"))
theorem pz{C:Addr}(h:qU K C=true):k6 K C:=by unfold qU at h;simp only[QR,beq_iff_eq] at h;obtain⟨⟨⟨h1,h2⟩,h3⟩,h4⟩:=h;exact⟨h1,h2,h3,h4⟩
def Ng(K:QU)(p:Str×List Str):Bool:=match gV K p.1 with
 |some (.ref C)=>qU K C&&p.2.all λf=>RP K (.ref C) f==some none
 |_=>false
def GN(tb:Tb)(K:QU):Bool:=tb.fns.isEmpty&&tb.cst.all (NW K)&&CF.all (λx=>Vb K mainGlobals x==some none)&&tb.fld.all (Ng K)&&tb.ini.isEmpty&&tb.mts.isEmpty
variable{tb:Tb}
theorem JH(X:K.In h)(G:h.Ns mainGlobals mg)(e:GN tb K=true):Gd tb 1 P w K mg base:=by
 unfold GN at e;simp only[QR,SI,RG,beq_iff_eq] at e;obtain⟨⟨⟨⟨⟨F,j⟩,Q⟩,N⟩,Y⟩,Z⟩:=e;refine⟨λx f q=>(by rw[F] at q;cases q),λx a q=>?_,λx q=>PySem.W.mg_none_of X G (Q x q),λf c C q hm=>?_,λc f q=>(by rw[Y] at q;cases q),λm c f q=>(by rw[Z] at q;cases q)⟩
 .have:=j _ (dQ q);unfold NW at this;split at this
  .rename_i v E;obtain⟨y,i,s⟩:=qG (P:=P) (w:=w) (mg:=mg) this;exact⟨y,v,wb X G E,i,s⟩
  .cases this
 .obtain⟨p,l,o⟩:=RC.mp (T9.mp q);obtain⟨L,b⟩:=SK.mp l;have t:=N p L;subst o;unfold Ng at t;split at t
  .rename_i J E;have:=wb X G E;rw[hm] at this;cases this;rw[QR,RG] at t;have:=t.2 f (T9.mp b);exact⟨pz t.1,by rw[beq_iff_eq] at this;exact this⟩
  .cases t
def tK(d:DI):Bool:=(dO d.st).posonlyargs.isEmpty&&(dO d.st).kwonlyargs.isEmpty&&(dO d.st).vararg.isNone&&(dO d.st).kwarg.isNone&&(dO d.st).args.map (·.arg)==d.N.take d.n
def Jf(K:QU)(dV:Value)(a:A):Bool:=match dV with
 | .ref td=>match K.lookup td with
  | some ⟨_,_,.seq its _,_⟩=>(match its.toList with
   |[v]=>zE K 20 v a
   | _=>false)
  |_=>false
 |_=>false
def wL(K:QU)(dV:Value):List A->Bool
 |[]=>match dV with
  | .none=>true
  |_=>false
 |[a]=>Jf K dV a
 |_=>false
variable{d:DI}
theorem HG{qual:Str}{f:Addr}(h:tK d=true)(u:iz d=true)(F:qx K d.name qual d.st f fd dV)(hd:wL K dV d.df=true):nN P w K mg fd (d.N.take d.n) d.df:=by
 unfold tK at h;simp only[QR,SI,RS,beq_iff_eq] at h;obtain⟨⟨⟨⟨h1,h2⟩,h3⟩,h4⟩,h5⟩:=h;obtain⟨S,hl⟩:=iR u;have nd:=S.nd.sublist (SU d.n d.N);obtain⟨p1,l⟩:fd.params=dO d.st/\fd.defaults=dV:=by obtain⟨oc,od,kV,doc,pm,an,cdv,ct,osl,e,_⟩:=F.ex;rw[e];exact⟨rfl,rfl⟩
 rw[<-p1] at h1 h2 h3 h4 h5;clear F p1 S hl u;cases e:d.df with
 |nil=>
  rw[e] at hd;have hd:dV=.none:=by cases dV<;>first|rfl|cases hd
  subst hd
  .intro j I;refine⟨[],[],Binds.all λus C=>rb h1 h2 h3 h4 l h5 nd C,.nil,λ_=>?_⟩;rw[Wv];exact .nil
 |cons a as=>
  cases as with
  |cons _ _=>rw[e] at hd;cases hd
  |nil=>
   rw[e] at hd
   replace hd:Jf K dV a=true:=hd
   unfold Jf at hd;split at hd
   .rename_i i;split at hd
    .rename_i x y its ep sl A;split at hd
     .rename_i v E;obtain⟨X,B,T⟩:=qG (P:=P) (w:=w) (mg:=mg) hd;have hi:its=#[v]:=by rw[<-VY,E]
      subst hi;have Z:∀(s:Shared)(us:List Value),K.In s.heap->((us.length=(d.N.take d.n).length->BindsTo s _ ⟨us,[]⟩ ((d.N.take d.n).zip us))/\(us.length+1=(d.N.take d.n).length->BindsTo s _ ⟨us,[]⟩ ((d.N.take d.n).zip (us++[v])))):=λs us c=>by
       rcases Vz (d.N.take d.n) with z|⟨qs,Y,z⟩
       .rw[z] at h5 ⊢;refine⟨λhl=>?_,λhl=>by cases hl⟩;cases us with
        |cons _ _=>cases hl
        |nil=>obtain⟨k,o,g⟩:=qk (us:=[]) h1 h2 h3 h4 h5 (Rf 0);exact .of_defaults l (c _ _ A) rfl o (g (some #[v]) [] rfl rfl)
       .rw[VA] at z;rw[z] at h5 nd ⊢;have:=zF (s:=s) (us:=us) h1 h2 h3 h4 l (c _ _ A) rfl h5 nd;exact⟨this.1,λq=>this.2 (by simpa using q)⟩
      intro j I;rcases Nat.le_one_iff_eq_zero_or_eq_one.mp I with rfl|rfl
      .exact⟨[v],[X],λs us c C=>(Z s us c).2 (by simpa using C),.cons B .nil,λG=>.cons (T G) .nil⟩
      .exact⟨[],[],λs us c C=>by rw[RK] at C ⊢;exact(Z s us c).1 C,.nil,λG=>.nil⟩
     .cases hd
    .cases hd
   .cases hd
def vZ:Tb->List DI->List (Option Ms)
 |_,[]=>[]
 |tb,d::ds=>tT tb d::vZ (tb.add d) ds
def vH:Tb->List DI->Tb
 |tb,[]=>tb
 |tb,d::ds=>vH (tb.add d) ds
def jv(K:QU)(mg:Str->Option Value)(d:DI)(f:Addr):Prop:=match d.cl with
 |none=>mg d.name=some (.ref f)
 |some c=>∃C,mg c=some (.ref C)/\k6 K C/\Meth K C d.name f/\(d.name=("__init__" : Str)->Mk K C f)
section
variable{P:Program}{w:World}{K:QU}{mg:Str->Option Value}{base:Heap}
theorem Gd.up{k:Nat}(G:Gd tb j P w K mg base)(h:j<=k):Gd tb k P w K mg base:=⟨λx f e=>by
 obtain⟨a,fd,ps,F,r⟩:=G.fn x f e;exact⟨a,fd,ps,F.mono h,r⟩,G.cs,G.bl,G.fl,λc f e=>by
 obtain⟨C,a,fd,ps,i,hi,r⟩:=G.im c f e;exact⟨C,a,fd,ps,i,Rm hi h,r⟩,λm c f e=>by
 obtain⟨C,a,fd,ps,F,r⟩:=G.mt m c f e;exact⟨C,a,fd,ps,F.mono h,r⟩⟩
theorem Gd.add{tb:Tb}{k:Nat}(G:Gd tb k P w K mg base){d:DI}{f:Addr}{fd:FuncData}{dV:Value}(m:jv K mg d f)(F:qx K d.name d.qual d.st f fd dV)(hd:wL K dV d.df=true)(u:iz d=true)(hp:tK d=true)
  (h:tT tb d=some d.m):Gd (tb.add d) (k+2) P w K mg base:=by
 have G2:=G.up (show k<=k+2 by lia);have v:=Gr G F u h;have a:nN P w K mg fd (d.N.take d.n) d.df:=HG hp u F hd;unfold Tb.add;unfold jv at m;split
 .rename_i hc;rw[hc] at m;refine⟨λx fi e=>?_,G2.cs,G2.bl,G2.fl,G2.im,G2.mt⟩
  .have e:((d.name,d.fi)::tb.fns).lookup x=some fi:=e;rw[Rk] at e;cases z:x==d.name with
   |true=>rw[z] at e;cases e;rw[beq_iff_eq] at z;subst z;exact⟨f,fd,_,v.mono (Tu _),m,F.kp,a⟩
   |false=>rw[z] at e;exact G2.fn x fi e
 .rename_i c hc;rw[hc] at m;obtain⟨C,O,l,Y,E⟩:=m;split
  .rename_i z;rw[beq_iff_eq] at z;refine⟨G2.fn,G2.cs,G2.bl,G2.fl,λx fi e=>?_,G2.mt⟩;have e:((c,d.fi)::tb.ini).lookup x=some fi:=e;rw[Rk] at e;cases y:x==c with
   |true=>rw[y] at e;cases e;rw[beq_iff_eq] at y;subst y;exact⟨C,f,fd,_,k+1,Rf _,v,O,E z,a⟩
   |false=>rw[y] at e;exact G2.im x fi e
  .refine⟨G2.fn,G2.cs,G2.bl,G2.fl,G2.im,λx y fi e=>?_⟩;rcases Ra.mp e with e|e
   .cases e;exact⟨C,f,fd,_,v.mono (Tu _),O,l,Y,a⟩
   .exact G2.mt x y fi e
theorem Gd.all:∀{ds:List DI}{tb:Tb}{k:Nat},Gd tb k P w K mg base->(∀d∈ds,∃f fd dV,jv K mg d f/\qx K d.name d.qual d.st f fd dV/\wL K dV d.df=true)->ds.all (λd=>iz d&&tK d)=true->vZ tb ds=ds.map (λd=>some d.m)->Gd (vH tb ds) (k+2*ds.length) P w K mg base
 |[],tb,k,G,_,_,_=>G
 |d::ds,tb,k,G,hf,hs,ht=>by rw[RB,QR,QR] at hs;obtain⟨T,i⟩:=List.cons.inj ht;obtain⟨f,fd,dV,m,F,hd⟩:=hf d Rb;have:=Gd.all (G.add m F hd hs.1.1 hs.1.2 T) (λe R=>hf e (Q4 _ R)) hs.2 i;rw[Q6,show k+2*(ds.length+1)=k+2+2*ds.length by lia];exact this
end
noncomputable abbrev An:=Str×Str×Arguments×FuncBody×Scope×Addr×List (Str×Addr)×Addr×Bool
def M7(K:QU)(d:DI):Option Addr:=match d.cl with
 |none=>match gV K d.name with
  |some (.ref f)=>some f
  |_=>none
 |some c=>match gV K c with
  |some (.ref C)=>match RP K (.ref C) d.name with
   |some (some (.ref f))=>some f
   |_=>none
  |_=>none
def Qa(K:QU)(d:DI)(f:Addr):Bool:=match d.cl with
 |none=>true
 |some c=>match gV K c with
  |some (.ref C)=>qU K C&&Uj K (.ref f)&&(!(d.name==("__init__" : Str)) || (UH K C&&R8 K (.ref C)))
  |_=>false
def IJ(K:QU)(d:DI):Option An:=match M7 K d with
 |some f=>match K.lookup f with
  |some ⟨_,_,.func x,_⟩=>some (x.name,x.qualname,x.params,x.body,x.scope,x.globals,x.closure,x.builtins,TZ K x.code d.qual&&R8 K (.ref f)&&wL K x.defaults d.df&&Qa K d f)
  |_=>none
 |none=>none
def Ki(d:DI):Option An:=some (d.name,d.qual,dO d.st,.stmts (fJ d.st),bu d.st,mainGlobals,[],builtinsNs,true)
theorem FH(X:K.In h)(G:h.Ns mainGlobals mg)(e:IJ K d=Ki d):∃f fd dV,jv K mg d f/\qx K d.name d.qual d.st f fd dV/\wL K dV d.df=true:=by
 unfold IJ Ki at e;split at e
 .rename_i f v;split at e
  .rename_i T Y x U A;obtain⟨b1,b2,g,w,N,b,V,o,S,q,Z,s,i,k,H⟩:=x;simp only[Xv,Prod.mk.injEq] at e;obtain⟨rfl,rfl,rfl,rfl,rfl,rfl,rfl,rfl,R⟩:=e;simp only[QR] at R;obtain⟨⟨⟨u,D⟩,m⟩,p⟩:=R;refine⟨f,_,_,?_,⟨⟨_,_,_,_,_,_,_,_,_,rfl,A,u⟩,D⟩,m⟩;unfold jv;unfold M7 at v;unfold Qa at p;split
   .rename_i hc;rw[hc] at v;simp only at v;split at v
    .rename_i L E;cases v;exact wb X G E
    .cases v
   .rename_i c hc;rw[hc] at v p;simp only at v p;split at v
    .rename_i C E;rw[E] at p;simp only[QR,R5,Rq,beq_eq_false_iff_ne] at p;split at v
     .rename_i L a;cases v;refine⟨C,wb X G E,pz p.1.1,⟨a,p.1.2,D⟩,λz=>?_⟩;rcases p.2 with y|y
      .exact absurd z y
      .rw[z] at a;exact⟨y.1,a,p.1.2,y.2⟩
     .cases v
    .cases v
  .cases e
 .cases e
def K6(ds:List DI)(h:QU->Bool)(K:QU):List (Option An)×Bool:=(ds.map (IJ K),h K)
def K1(ds:List DI):List (Option An)×Bool:=(ds.map Ki,true)
def hk(ds:List DI)(Z:QU->Bool):Wf where
 α:=List (Option An)×Bool
 obs:=λs=>K6 ds Z (W.iS s.heap)
 val:=λ_=>K1 ds
 says:=λ_ h=>∃K:QU,K6 ds Z K=K1 ds/\K.In h
 of:=λ_ s e=>⟨W.iS s.heap,e,W.nh _⟩
 keeps:=λ_ _ _ ⟨K,e,i⟩ k=>⟨K,e,i.keeps k⟩
variable{ds:List DI}
theorem EJ{Z:QU->Bool}(X:K.In h)(G:h.Ns mainGlobals mg)(e:K6 ds Z K=K1 ds):Z K=true/\∀d∈ds,∃f fd dV,jv K mg d f/\qx K d.name d.qual d.st f fd dV/\wL K dV d.df=true:=by obtain⟨F,j⟩:=Prod.mk.inj e;exact⟨j,λd hd=>FH X G (List.map_eq_map_iff.mp F d hd)⟩
theorem Bh{l:VQ}{q:Program}{loose:List Str}{XP:(Str->Option Value)->Heap->Prop}{d:DefRec}{di:DI}(hn:l.most=some 63)(E:d.params.defaults=[])(g:d.name = "law")
  (V:(ds++[di]).all (λd=>iz d&&tK d)=true)(ht:vZ tb ds=ds.map (λd=>some d.m))(hl:tT (vH tb ds) di=some di.m)(i:di.name = "law")(p:di.cl=none)(H:di.df=[])(C:di.N.take di.n=[x])(y:cP (2+2*ds.length) callerA)
  (hm:∀ns:List Int,ns.length<=63->∃Z,di.M [.fr (.lst (ns.map A.int))]=some (.rt (.fr (.bl true)),Z)):
  V7 q loose XP (hk (ds++[di]) (GN tb)).says l.row.toRowW d [] (λf vs=>VJ f vs):=by
 refine W.w8 (CX:=ES) (l:=l) (n:=63) (k:=2+2*ds.length) (x:=x) (sp:=Bx) hn (by decide) E y (λw mg R h Y G X=>?_) (λ_ _ _ _ _ z=>z) (λ_ _ a ns hl _ I=>⟨a,ns,rfl,I,hl,λ_=>rfl⟩);obtain⟨K,e,U⟩:=Y;obtain⟨F,j⟩:=EJ U G e;refine⟨K,U,?_⟩;rw[List.all_append,QR] at V;obtain⟨f,fd,dV,O,b,v⟩:=j di (QV _ Rb);rw[H] at v;have v:dV=.none:=by cases dV<;>first|rfl|cases v
 subst v;unfold jv at O;rw[g] at X;rw[p] at O;simp only at O;rw[i,X] at O;cases O;have c:=RG.mp V.2 di Rb;rw[QR] at c;have L:di.n=1:=by have:=(iR c.1).2;rw[C] at this;exact this.symm
 refine⟨fd,λs u=>?_,λbase _ _=>?_⟩
 .obtain⟨oc,od,kV,doc,pm,an,cdv,ct,osl,rfl,B,J⟩:=b.ex;obtain⟨S,D⟩:=iR c.1;have hp:=c.2;unfold tK at hp;simp only[QR,SI,RS,beq_iff_eq] at hp;obtain⟨⟨⟨⟨h1,h2⟩,h3⟩,h4⟩,h5⟩:=hp;have:=rb (fd:=Um di.name di.qual (dO di.st) (fJ di.st) (bu di.st) .none kV doc pm an cdv ct) (us:=[u]) h1 h2 h3 h4 rfl h5 (S.nd.sublist (SU _ _)) (by rw[C];rfl);rw[C] at this;exact .of_eq this
 .have Q:=Gd.all (JH (P:=l.prog) (w:=w) (base:=base) U G F) (λd hd=>j d (QX _ hd)) V.1 ht;have o:=Gr Q b c.1 hl;rw[C,L,show 1+2*ds.length+1=2+2*ds.length by lia] at o;exact Ko o hm
end M
set_option maxHeartbeats 4000000
namespace W
open PySem L2 M
noncomputable def top(i:Nat):Stmt:=PySem.Challenge.pw_fitwhatever_k14_faces_put.main.body.getD i (.Pass ⟨0,0,0,0⟩)
def topC(i j:Nat):Stmt:=match top i with
 | .ClassDef _ _ _ b _ _ _ _ _ _ _=>b.getD j (.Pass ⟨0,0,0,0⟩)
 |s=>s
abbrev mix(m n:Mi Rr):Mi Rr:=aC (bU i9 cj) m n
abbrev aB(i:Int):Mi Rr:=mC (.int i)
abbrev nZ(b:Bool):A->A->Option Rr:=bU (bU (fX b) (eF b)) (jX b)
abbrev aN(f:Ms)(m:Mi (List Rr)):Mi Rr:=bq f [] m
abbrev t9(t:Mi Bool):Ms:=fD t (bh (mC (.bl false))) bf
abbrev bF(a:Mi Rr):Mi (List Rr):=aJ a c9
abbrev bC(a b:Mi Rr):Mi (List Rr):=aJ a (bF b)
abbrev lI(a b c:Mi Rr):Mi (List Rr):=aJ a (bC b c)
abbrev lG(a b c d:Mi Rr):Mi (List Rr):=aJ a (lI b c d)
def k9:Ms:=av (aO 2 (aB 0)) (av (fD (ag (aC tQ (aa 1) (bT d6 (aa 0)))) (aO 2 (mix (aa 0) (aa 1))) bf) (bh (cO (lI (bT EF (aC K2 (bT qu (aa 2)) (aC mX (aB 10) (aB 18)))) (aa 2) (aC dZ (aB 17) (aa 1))))))
def hY:Ms:=bx 1 k9
def kY:Ms:=av (fD (ag (aC gG (mix (aa 0) (aB 0)) (aB 1))) (av (aO 2 (aC j8 (mix (aa 0) (aB 1)) (aa 1))) (av (mQ 0 (aB 1) (aC lH (mix (aa 0) (aB 1)) (aa 1))) (bh (aa 2)))) bf) (av (aO 3 (aC bD (mix (aa 0) (aB 2)) (aB 1))) (av (mQ 0 (aB 2) (aa 3)) (av (aO 4 (aC j8 (aC dZ (aC bD (aC bD (mix (aa 0) (aB 1)) (aC dZ (aC dZ (aB 7919) (aa 3)) (aa 3))) (aa 3)) (aB 48271)) (aB 2305843009213693951))) (bh (aC j8 (aC lH (aC j8 (aC bD (aC dZ (aa 4) (aB 1442695040888963407)) (aB 4321)) (aB 2305843009213693921)) (aB 64)) (aa 1))))))
def ai:Ms:=bx 3 kY
def lj:Ms:=av (aO 2 (mC (.str "abcdefghijklmnopqrstuvwxyz"))) (av (aO 3 (cO (aJ (mC (.str "frame")) (aJ (mC (.str "lies")) (aJ (mC (.str "part")) (aJ (mC (.str "big")) (lG (mC (.str "size")) (mC (.str "x")) (mC (.str "fixed")) (mC (.str "frame"))))))))) (av (fD (ag (aC gG (aN ai (bC (aa 0) (aB 6))) (aB 1))) (av (aO 4 (mix (aa 3) (aN ai (bC (aa 0) (aB 8))))) (fD (ag (aC (bU (nZ true) (eu true)) (aa 4) (aa 1))) (bh (aa 4)) bf)) bf) (av (aO 4 (Cu kr (mC (.str "")) (bH 1 (dU (aC bD (aB 1) (aN ai (bC (aa 0) (aB 8))))) (aG 5) bp (mix (aa 2) (aN ai (bC (aa 0) (aB 26))))))) (av (iw B7 (ag (aC (bU (nZ false) (eu false)) (aa 4) (aa 1))) (aO 4 (aC bD (Fw (aa 4) eI (ip (eU om (aB 1)))) (mix (aa 2) (aC j8 (aC bD (Cu sL (aa 2) (mix (aa 4) (eU om (aB 1)))) (aB 1)) (aB 26)))))) (bh (aa 4))))))
def aX:Ms:=bx 3 lj
def jm:Ms:=av (iw B7 (ag (aC gQ (aa 1) (aB 0))) (Aj 0 1 (bC (aa 1) (aC j8 (aa 0) (aa 1))))) (bh (bT qu (aa 0)))
def jg:Ms:=bx 0 jm
def mH:Ms:=av (aO 2 (aN jg (bC (ah 0) (ah 1)))) (bh (bX (bC (aC lH (aa 0) (aa 2)) (aC lH (aa 1) (aa 2)))))
def fz:Ms:=bx 1 mH
def jk:Ms:=av (aO 1 (aN ai (bC (aa 0) (aB 8)))) (av (fD (ag (aC gG (aa 1) (aB 7))) (bh (aN fz (bC (aC uk (aN ai (bC (aa 0) (fY (aC bD (aC dZ (aB 2) (aC mX (aB 10) (aB 9))) (aB 1))))) (aC mX (aB 10) (aB 9))) (fY (aC bD (aB 1) (aN ai (bC (aa 0) (aC mX (aB 10) (aB 8))))))))) bf) (av (fD (ag (aC Kg (aa 1) (aB 4))) (bh (aN fz (bC (aC uk (aN ai (bC (aa 0) (aB 201))) (aB 100)) (fY (aC bD (aB 1) (aN ai (bC (aa 0) (aB 6)))))))) bf) (bh (bX (bC (aC uk (aN ai (bC (aa 0) (aB 9))) (aB 4)) (aB 1))))))
def bz:Ms:=bx 1 jk
def m5:Ms:=bh (aN fz (bC (fY (aC bD (aC dZ (mix (aa 0) (aB 0)) (mix (aa 1) (aB 1))) (aC dZ (mix (aa 1) (aB 0)) (mix (aa 0) (aB 1))))) (aC dZ (mix (aa 0) (aB 1)) (mix (aa 1) (aB 1)))))
def fm:Ms:=bx 0 m5
def jK:Ms:=av (aO 2 (cO c9)) (av (aO 3 (cO c9)) (av (dt (dU (mix (cO (aJ (aB 0) (aJ (aB 1) (aJ (aB 2) (aJ (aB 3) (lG (aB 4) (aB 2) (aB 3) (aB 7))))))) (aN ai (bC (aa 0) (aB 8))))) (aG 4) (fD (ag (aC tQ (bT d6 (aa 2)) (aa 1))) (av (aO 5 (bq (eV 1 aX) [] (bC (aa 0) (aa 2)))) (av (bK (eJ 2 (cf 2 (aa 5)))) (av (aO 6 (aN bz (bF (aa 0)))) (av (aO 7 (aN bz (bF (aa 0)))) (av (aO 8 (cO c9)) (av (dt (dU (mix (cO (aJ (aB 0) (aJ (aB 0) (aJ (aB 1) (aJ (aB 2) (lG (aB 0) (aB 1) (aB 0) (aB 6))))))) (aN ai (bC (aa 0) (aB 8))))) (aG 9) (fD (ag (aC tQ (bT d6 (aa 2)) (aa 1))) (av (bK (eJ 2 (cf 2 (bq (eV 1 aX) [] (bC (aa 0) (aa 2)))))) (av (aO 10 (aN bz (bF (aa 0)))) (av (aO 11 (mix (cO (lI (mC (.str "fixed")) (mC (.str "big")) (mC (.str "small")))) (aN ai (bC (aa 0) (aB 3))))) (bK (eJ 8 (cf 8 (bX (lI (mix (aa 2) (eU om (aB 1))) (bX (bC (bT qu (mix (aa 10) (aB 0))) (mix (aa 10) (aB 1)))) (aa 11))))))))) bf)) (bK (eJ 3 (cf 3 (bX (lG (aa 5) (aa 6) (aN fm (bC (ah 6) (bX (bC (bT qu (mix (aa 7) (aB 0))) (mix (aa 7) (aB 1)))))) (bT eX (aa 8))))))))))))) bf)) (bh (bX (bC (aa 3) (aa 2))))))
def dh:Ms:=bx 10 jK
def gK:Ms:=av (t9 (oI (fG (ag (bT (cC Ty.str) (aa 0)))) (fG (ag (gH LK LK (aB 1) (bT d6 (aa 0)) (aa 2)))))) (bh (bT (eD λbs=>SY bs id) (bH 1 (bY (aa 0)) (aG 3) bp (aC (bU (nZ false) (eu false)) (aa 3) (aa 1)))))
def d9:Ms:=bx 0 gK
def oF:Ms:=bh (aN d9 (lI (ah 0) (mC (.str "abcdefghijklmnopqrstuvwxyz0123456789.")) (aB 30)))
def oG:Ms:=bx 0 oF
def gY:Ms:=av (aO 1 pI) (dt (bY (aa 0)) (aG 2) (av (fD (fG (ag (aN oG (bF (ah 2))))) fj bf) (av (fD (ag (aC (bU (nZ false) (eu false)) (aa 2) (aa 1))) fj bf) (kh 1 (aa 2) (mC (.bl true))))))
def fb:Ms:=bx 2 gY
def oR:Ms:=bh (aC tQ (aC dZ (mix (aa 0) (aB 0)) (mix (aa 1) (aB 1))) (aC dZ (mix (aa 1) (aB 0)) (mix (aa 0) (aB 1))))
def kX:Ms:=bx 0 oR
def gm:Ms:=av (iw B7 (ag (aC gQ (aa 1) (aB 0))) (av (aO 2 (aC j8 (aa 0) (aa 1))) (av (aO 0 (aa 1)) (aO 1 (aa 2))))) (bh (aa 0))
def dD:Ms:=bx 1 gm
def mO:Ms:=bh (gM (bT (cC Ty.int) (aa 0)) (jf (bT (cC Ty.bool) (aa 0))))
def jC:Ms:=bx 0 mO
def k7:Ms:=av (t9 (oI (fG (ag (bT (cC Ty.tuple) (aa 0)))) (ag (aC gQ (bT d6 (aa 0)) (aB 2))))) (av (t9 (oI (fG (ag (aN jC (bF (mix (aa 0) (aB 0)))))) (oI (fG (ag (aN jC (bF (mix (aa 0) (aB 1)))))) (ag (aC tQ (mix (aa 0) (aB 1)) (aB 1)))))) (bh (aC gG (aN dD (bC (mix (aa 0) (aB 0)) (mix (aa 0) (aB 1)))) (aB 1))))
def fI:Ms:=bx 0 k7
def gI:Ms:=av (fD (oI (fG (ag (aN fI (bF (ah 0))))) (fG (ag (aN fI (bF (ah 1)))))) fj bf) (fD (ag (aN kX (bC (ah 1) (ah 0)))) fj bf)
def gL:Ms:=bx 0 gI
def iC:Ms:=av (fD (oI (fG (ag (aN fI (bF (mix (aa 0) (aB 1)))))) (ag (aN kX (bC (mix (aa 0) (aB 1)) (mC (.tup [.int 0,.int 1])))))) fj bf) (fD (ag (aC (bU (nZ true) (eu true)) (mix (aa 0) (aB 2)) (mC (.tup [.str "fixed",.str "big",.str "small"])))) fj bf)
def iM:Ms:=bx 0 iC
def jL:Ms:=bh (aC bD (cO (bF (eU (aZ ["Size", "Part"] "name") (aa 0)))) (bH 1 (bY (eU (aZ ["Size"] "shifts") (aa 0))) (aG 1) bp (mix (aa 1) (aB 0))))
def bI:Ms:=bx 0 jL
def jd:Ms:=av (aO 1 (cO c9)) (av (dt (bY (eU (aZ ["Stock"] "kept") (aa 0))) (aG 2) (bK (eJ 1 (lW 1 (aN bI (bF (bg "Size" "names" (ah 2)))))))) (bh (aa 1)))
def bc:Ms:=bx 2 jd
def lC:Ms:=av (gq ["Size", "Part"] 0 "name" (aa 1)) (av (gq ["Size"] 0 "least" (aa 2)) (av (gq ["Size"] 0 "most" (aa 3)) (av (gq ["Size"] 0 "shifts" (Kf (ag (aC (sP false) (aa 4) (mC .non))) (bX c9) (bT eX (bH 1 (bY (aa 4)) (aG 6) bp (bX (lI (mix (aa 6) (aB 0)) (mix (aa 6) (aB 1)) (mix (aa 6) (aB 2)))))))) (av (bK (aN gL (bC (ah 2) (ah 3)))) (av (dt (bY (eU (aZ ["Size"] "shifts") (aa 0))) (aG 5) (bK (aN iM (bF (ah 5))))) (bK (aN fb (bF (fY (aQ (aN bc (bF (bg "Stock" "names" (aa 0)))) (aN bI (bF (bg "Size" "names" (aa 0))))))))))))))
def cw:Ms:=bx 1 lC
def eP:Ms:=bh (fM "Size" cw [] (lG (eU (aZ ["Size", "Part"] "name") (aa 0)) (ah 1) (ah 2) (eU (aZ ["Size"] "shifts") (aa 0))))
def fB:Ms:=bx 0 eP
def ji:Ms:=bh (aN fB (lI (ah 0) (eU (aZ ["Size"] "least") (aa 0)) (eU (aZ ["Size"] "most") (aa 0))))
def bJ:Ms:=bx 0 ji
def kj:Ms:=av (gq ["Stock"] 0 "kept" (aQ (cJ 1 1 (aG 2) bp (aN bJ (bF (ah 2)))) (bH 1 (bY (aa 1)) (aG 2) bp (aN bJ (bF (ah 2)))))) (bK (aN fb (bF (fY (aQ (aN bc (bF (bg "Stock" "names" (aa 0)))) (aN bI (bF (bg "Size" "names" (aa 0)))))))))
def dj:Ms:=bx 0 kj
def pJ:Ms:=bh (aN d9 (lI (ah 0) (mC (.str "abcdefghijklmnopqrstuvwxyz")) (aB 8)))
def f9:Ms:=bx 0 pJ
def k8:Ms:=av (fD (fG (ag (aN f9 (bF (ah 1))))) fj bf) (av (gq ["Size", "Part"] 0 "name" (aa 1)) (av (gq ["Part"] 0 "own_stock" (fM "Stock" dj [] (bF (aa 2)))) (av (vo ["Part"] 0 "put_faces") (dt (bY (aQ (aN bc (bF (bg "Stock" "names" (aQ (cS ["Part"] 0 "own_stock") (eU (aZ ["Part"] "own_stock") (aa 0)))))) (aN bI (bF (bg "Size" "names" (aQ (cS ["Part"] 0 "own_stock") (eU (aZ ["Part"] "own_stock") (aa 0)))))))) (aG 3) (fD (fG (ag (aN f9 (bF (ah 3))))) fj bf)))))
def cE:Ms:=bx 1 k8
def nM:Ms:=av (aO 2 (cO c9)) (av (dt (bY (bT (n8 bM bV) (aa 1))) (aG 3) (av (aO 4 (aN ai (bC (aa 0) (aB 6)))) (av (aO 5 (mix (cO (aJ (bX (bC (aB 0) (aB 1))) (aJ (bX (bC (aB 0) (aB 1))) (lG (bX (bC (aB 1) (aB 1))) (bX (bC (eU om (aB 1)) (aB 1))) (bX (bC (aB 2) (aB 1))) (bX (bC (aB 0) (aB 1))))))) (aa 4))) (av (fD (ag (aC gG (aa 4) (aB 5))) (aO 5 (aN bz (bF (aa 0)))) bf) (fD (ag (aC gQ (mix (aa 5) (aB 0)) (aB 0))) (bK (eJ 2 (cf 2 (bX (bC (aa 3) (aa 5)))))) bf))))) (bh (bX (bC (aN bz (bF (aa 0))) (bT eX (aa 2))))))
def gx:Ms:=bx 4 nM
def jP:Ms:=av (aO 3 (cO c9)) (av (dt (dU (aa 2)) (aG 4) (av (aO 5 (aN aX (bC (aa 0) (fY (aC bD (aQ (cJ 1 3 (aG 8) bp (mix (aa 8) (aB 0))) (bH 1 (bY (aa 3)) (aG 8) bp (mix (aa 8) (aB 0)))) (cO (bF (mC (.str "frame"))))))))) (av (aO 6 (mix (mC (.str "xy")) (aN ai (bC (aa 0) (aB 2))))) (av (aO 7 (aC bD (cO (bC (mC .non) (mC .non))) (aQ (cJ 1 3 (aG 8) (ag (aC gG (mix (aa 8) (aB 1)) (aa 6))) (mix (aa 8) (aB 0))) (bH 1 (bY (aa 3)) (aG 8) (ag (aC gG (mix (aa 8) (aB 1)) (aa 6))) (mix (aa 8) (aB 0)))))) (bK (eJ 3 (cf 3 (bX (lG (aa 5) (aa 6) (mix (aa 7) (aN ai (bC (aa 0) (bT d6 (aa 7))))) (aN gx (bC (aa 0) (ah 1)))))))))))) (bh (aa 3)))
def dq:Ms:=bx 5 jP
def lE:Ms:=av (aO 3 (bT (n8 kQ ju) (mix (aa 0) (aB 1)))) (av (dt (bY (mix (aa 1) (aB 1))) (dw 2 (aL (aG 4) (aL (aG 5) dW))) (kh 3 (aa 4) (aN fm (bC (fY (rL (aa 3) (aa 4) (bX (bC (aB 0) (aB 1))))) (bX (bC (aC dZ (aa 2) (mix (aa 5) (aB 0))) (mix (aa 5) (aB 1)))))))) (av (aO 6 (bT eX (bH 1 (bY (bT (n8 bM bV) (aa 3))) (aG 7) (ag (aC gQ (mix (mix (aa 3) (aa 7)) (aB 0)) (aB 0))) (bX (bC (aa 7) (mix (aa 3) (aa 7))))))) (bh (bX (bC (aN fm (bC (mix (aa 0) (aB 0)) (bX (bC (aC dZ (aa 2) (mix (mix (aa 1) (aB 0)) (aB 0))) (mix (mix (aa 1) (aB 0)) (aB 1)))))) (aa 6))))))
def fL:Ms:=bx 4 lE
def jb:Ms:=av (aO 1 pI) (av (aO 2 (cO c9)) (av (dt (bY (aa 0)) (dw 4 (aL (aG 3) (aL (aG 4) (aL (aG 5) (aL (aG 6) dW))))) (av (aO 7 (aa 6)) (av (fD (ag (aC (sP true) (aa 5) (mC .non))) (aO 7 (aN fL (lI (mix (aa 1) (aa 5)) (ah 6) (aB 1)))) bf) (av (kh 1 (aa 3) (aa 7)) (bK (eJ 2 (cf 2 (bX (lI (aa 3) (aa 4) (aa 7)))))))))) (bh (aa 2))))
def cV:Ms:=bx 7 jb
def ku:Ms:=bh (bT yS (eU (aZ ["Part"] "put_faces") (aa 0)))
def aK:Ms:=bx 0 ku
def iA:Ms:=Ac
def iJ:Ms:=bx 0 iA
def iy:Ms:=av (fD (ag (bT (cC Ty.tuple) (aa 0))) (bh (bT (eD λbs=>SY bs id) (bH 1 (bY (aa 0)) (aG 1) bp (aN iJ (bF (ah 1)))))) bf) (bh (qP (bT (cC Ty.str) (aa 0)) (gM (bT (cC Ty.int) (aa 0)) (jf (bT (cC Ty.bool) (aa 0))))))
def nC:Ms:=bx 0 iy
def ir:Ms:=av (fD (ag (bT (cC Ty.tuple) (aa 0))) (bh (bT (eD λbs=>SY bs id) (bH 1 (bY (aa 0)) (aG 1) bp (aN nC (bF (ah 1)))))) bf) (bh (qP (bT (cC Ty.str) (aa 0)) (gM (bT (cC Ty.int) (aa 0)) (jf (bT (cC Ty.bool) (aa 0))))))
def mr:Ms:=bx 0 ir
def ik:Ms:=av (fD (ag (bT (cC Ty.tuple) (aa 0))) (bh (bT (eD λbs=>SY bs id) (bH 1 (bY (aa 0)) (aG 1) bp (aN mr (bF (ah 1)))))) bf) (bh (qP (bT (cC Ty.str) (aa 0)) (gM (bT (cC Ty.int) (aa 0)) (jf (bT (cC Ty.bool) (aa 0))))))
def nP:Ms:=bx 0 ik
def hW:Ms:=av (fD (ag (bT (cC Ty.tuple) (aa 0))) (bh (bT (eD λbs=>SY bs id) (bH 1 (bY (aa 0)) (aG 1) bp (aN nP (bF (ah 1)))))) bf) (bh (qP (bT (cC Ty.str) (aa 0)) (gM (bT (cC Ty.int) (aa 0)) (jf (bT (cC Ty.bool) (aa 0))))))
def mG:Ms:=bx 0 hW
def iK:Ms:=av (fD (ag (bT (cC Ty.tuple) (aa 0))) (bh (bT (eD λbs=>SY bs id) (bH 1 (bY (aa 0)) (aG 1) bp (aN mG (bF (ah 1)))))) bf) (bh (qP (bT (cC Ty.str) (aa 0)) (gM (bT (cC Ty.int) (aa 0)) (jf (bT (cC Ty.bool) (aa 0))))))
def mW:Ms:=bx 0 iK
def iE:Ms:=av (fD (ag (bT (cC Ty.tuple) (aa 0))) (bh (bT (eD λbs=>SY bs id) (bH 1 (bY (aa 0)) (aG 1) bp (aN mW (bF (ah 1)))))) bf) (bh (qP (bT (cC Ty.str) (aa 0)) (gM (bT (cC Ty.int) (aa 0)) (jf (bT (cC Ty.bool) (aa 0))))))
def bZ:Ms:=bx 0 iE
def iB:Ms:=bh (gM (bT (cC Ty.list) (aa 0)) (gM (aC gG (aa 0) (aa 1)) (bT (eD λbs=>SY bs id) (bH 1 (bY (aa 0)) (aG 2) bp (aN bZ (bF (ah 2)))))))
def aU:Ms:=bx 0 iB
def ja:Ms:=bh (bH 1 (bY (eU (aZ ["Stock"] "kept") (aa 0))) (aG 1) bp (aN bJ (bF (ah 1))))
def jn:Ms:=bx 0 ja
def jh:Ms:=bh (bH 1 (bY (aN jn (bF (bg "Stock" "sizes" (ah 0))))) (aG 1) bp (bX (lG (eU (aZ ["Size", "Part"] "name") (aa 1)) (eU (aZ ["Size"] "least") (aa 1)) (eU (aZ ["Size"] "most") (aa 1)) (eU (aZ ["Size"] "shifts") (aa 1)))))
def bR:Ms:=bx 0 jh
def fc:Ms:=av (fD (ag (aC (bU (nZ true) (eu true)) (aa 1) (mC (.tup [.str "x",.str "y"])))) fj bf) (av (aO 3 (aQ (aN bc (bF (bg "Stock" "names" (aQ (cS ["Part"] 0 "own_stock") (eU (aZ ["Part"] "own_stock") (aa 0)))))) (aN bI (bF (bg "Size" "names" (aQ (cS ["Part"] 0 "own_stock") (eU (aZ ["Part"] "own_stock") (aa 0)))))))) (dt (bY (mix (aa 2) (aB 1))) (dw 2 (aL (aG 4) (aL (aG 5) dW))) (fD (ag (aC (bU (nZ true) (eu true)) (aa 4) (aa 3))) fj bf)))
def bG:Ms:=bx 3 fc
def iq:Ms:=av (aO 2 (aN dD (bC (ah 0) (ah 1)))) (bh (bX (bC (aC lH (aa 0) (aa 2)) (aC lH (aa 1) (aa 2)))))
def ie:Ms:=bx 1 iq
def BX:Ms:=bh (aN ie (bC (fY (aC bD (aC dZ (mix (aa 0) (aB 0)) (mix (aa 1) (aB 1))) (aC dZ (mix (aa 1) (aB 0)) (mix (aa 0) (aB 1))))) (aC dZ (mix (aa 0) (aB 1)) (mix (aa 1) (aB 1)))))
def tR:Ms:=bx 0 BX
def sH:Ms:=av (aO 2 pI) (av (dt (bY (aa 1)) (dw 2 (aL (aG 3) (aL (aG 4) dW))) (kh 2 (aa 3) (aN tR (bC (fY (rL (aa 2) (aa 3) (mC (.tup [.int 0,.int 1])))) (ah 4))))) (bh (bX (bC (aa 0) (bT eX (bH 1 (bY (bT (n8 bM bV) (aa 2))) (aG 5) (ag (aC gQ (mix (aa 2) (aa 5)) (mC (.tup [.int 0,.int 1])))) (bX (bC (aa 5) (mix (aa 2) (aa 5))))))))))
def nu:Ms:=bx 3 sH
def nO:Ms:=bh (aN nu (bC (aN tR (bC (mix (aa 0) (aB 0)) (mix (aa 1) (aB 0)))) (fY (aC bD (mix (aa 0) (aB 1)) (mix (aa 1) (aB 1))))))
def jE:Ms:=bx 0 nO
def fg:Ms:=av (dt (bY (eU (aZ ["Part"] "put_faces") (aa 0))) (dw 3 (aL (aG 3) (aL (aG 4) (aL (aG 5) dW)))) (fD (qp (ag (aC gG (aa 3) (aa 1))) (ag (aC gG (aa 4) (aa 2)))) (bh (aa 5)) bf)) fj
def aP:Ms:=bx 3 fg
def gJ:Ms:=av (fD (oI (fG (ag (aN f9 (bF (ah 1))))) (ag (aC gG (aa 1) (mC (.str "frame"))))) fj bf) (av (fD (nF 0 (ag (aC (bU (nZ false) (eu false)) (aa 1) (bH 1 (bY (aQ (cS ["Part"] 0 "put_faces") (eU (aZ ["Part"] "put_faces") (aa 0)))) (aG 6) bp (mix (aa 6) (aB 0)))))) fj bf) (av (bK (aQ (aN bG (lI (aM "Part" "refuse_move" 0) (ah 2) (ah 4))) (aQ (bq (cy 0 bG) [] (lI (aM "Part" "refuse_move" 0) (ah 2) (ah 4))) (aN bG (lI (bg "Part" "refuse_move" (aa 0)) (ah 2) (ah 4)))))) (av (aO 5 (Kf (ag (aC (sP false) (aa 3) (mC .non))) (aa 4) (aN jE (bC (fY (aQ (aN aP (lI (aM "Part" "start_place" 0) (ah 3) (ah 2))) (aQ (bq (cy 0 aP) [] (lI (aM "Part" "start_place" 0) (ah 3) (ah 2))) (aN aP (lI (bg "Part" "start_place" (aa 0)) (ah 3) (ah 2)))))) (ah 4))))) (bK (sy ["Part"] 0 "put_faces" [1,2,5])))))
def aW:Ms:=bx 1 gJ
def j7:Ms:=bh (aQ (cS ["Part"] 0 "own_stock") (eU (aZ ["Part"] "own_stock") (aa 0)))
def az:Ms:=bx 0 j7
def F2:Ms:=av (dt (dU (Ct zQ (aB 1) (Ct yq (bT d6 (aa 0)) (aB 10)))) (aG 1) (av (aO 2 (aN hY (bC (ah 0) (ah 1)))) (av (aO 3 (aN aX (bC (aa 2) (fY (cO c9))))) (av (tG (aN dh (bC (aa 2) (aB 12))) (dw 2 (aL (aG 4) (aL (aG 5) dW)))) (av (aO 6 (bH 4 (bY (aa 4)) (dw 4 (aL (aG 16) (aL (aG 17) (aL (aG 18) (aL (aG 19) dW))))) bp (fM "Size" cw [] (lG (ah 16) (ah 17) (ah 18) (ah 19))))) (av (aO 7 (fM "Part" cE [] (bC (ah 3) (rP 6 (aN ai (bC (aa 2) (aB 2))))))) (av (bK (hV 6)) (av (t9 (oI (ag (aC gQ (aQ (cS ["Size", "Part"] 7 "name") (eU (aZ ["Size", "Part"] "name") (aa 7))) (aa 3))) (oI (fG (ag (aN aU (bC (fY (aQ (aN bc (bF (bg "Stock" "names" (fY (aQ (aN az (bF (aM "Part" "stock" 7))) (aQ (bq (cy 0 az) [] (bF (aM "Part" "stock" 7))) (aN az (bF (bg "Part" "stock" (ah 7)))))))))) (aN bI (bF (bg "Size" "names" (fY (aQ (aN az (bF (aM "Part" "stock" 7))) (aQ (bq (cy 0 az) [] (bF (aM "Part" "stock" 7))) (aN az (bF (bg "Part" "stock" (ah 7)))))))))))) (ah 5))))) (ag (aC gQ (aN bR (bF (fY (aQ (aN az (bF (aM "Part" "stock" 7))) (aQ (bq (cy 0 az) [] (bF (aM "Part" "stock" 7))) (aN az (bF (bg "Part" "stock" (ah 7))))))))) (aa 4)))))) (av (aO 8 (aN dq (lI (aa 2) (ah 5) (fY (aC bD (aB 1) (aN ai (bC (aa 2) (aB 9)))))))) (av (aO 9 (aN cV (bF (ah 8)))) (av (dt (dU (bT d6 (aa 8))) (aG 10) (av (tG (mix (aa 8) (aa 10)) (dw 4 (aL (aG 11) (aL (aG 12) (aL (aG 13) (aL (aG 14) dW)))))) (av (t9 (ag (aC (sP true) (aQ (aN aW (aJ (aM "Part" "put_face" 7) (lG (ah 11) (ah 12) (ah 13) (ah 14)))) (aQ (bq (cy 0 aW) [] (aJ (aM "Part" "put_face" 7) (lG (ah 11) (ah 12) (ah 13) (ah 14)))) (aN aW (aJ (bg "Part" "put_face" (ah 7)) (lG (ah 11) (ah 12) (ah 13) (ah 14)))))) (mC .non)))) (av (aO 15 (aQ (aN aK (bF (aM "Part" "faces" 7))) (aQ (bq (cy 0 aK) [] (bF (aM "Part" "faces" 7))) (aN aK (bF (bg "Part" "faces" (ah 7))))))) (av (t9 (fG (ag (bq (eV 0 aU) [] (bC (aa 15) (fY (Fw (aa 9) eI (ip (aC bD (aa 10) (aB 1)))))))))) (bK (hV 15))))))) (t9 (oI (ag (aC gQ (aQ (aN aK (bF (aM "Part" "faces" 7))) (aQ (bq (cy 0 aK) [] (bF (aM "Part" "faces" 7))) (aN aK (bF (bg "Part" "faces" (ah 7)))))) (aa 9))) (ag (aC gQ (aN bR (bF (fY (aQ (aN az (bF (aM "Part" "stock" 7))) (aQ (bq (cy 0 az) [] (bF (aM "Part" "stock" 7))) (aN az (bF (bg "Part" "stock" (ah 7))))))))) (aa 4)))))))))))))))) (bh (mC (.bl true)))
def Ax:Ms:=bx 15 F2
noncomputable def IY:Tb:={ fns:=[],cst:=[("ZERO",(.tup [(.int 0),(.int 1)])),("NAME_SIGNS",(.str "abcdefghijklmnopqrstuvwxyz0123456789.")),("NAME_LENGTH",(.int 30)),("WAYS",(.tup [(.str "fixed"),(.str "big"),(.str "small")])),("SMALL_LETTERS",(.str "abcdefghijklmnopqrstuvwxyz")),("WORD_LENGTH",(.int 8)),("AXES",(.tup [(.str "x"),(.str "y")])),("FRAME",(.str "frame"))],exs:=["NoSize", "NoPart", "NoFace"],kit:=[],exm:=[],fld:=[("Size",["name", "least", "most", "shifts"]),("Stock",["kept"]),("Part",["name", "own_stock", "put_faces"])],ini:=[],mts:=[] }
def Fq:List DI:=[
 ⟨none, "_law_well",top 48,["_law_script", "_law_k", "_law_cell"],2,[],[false,false],[],[],k9,[],false,false⟩,
 ⟨none, "_law_take",top 49,["_law_well_here", "_law_many", "_law_digit", "_law_turn", "_law_number_here"],2,[],[true,false],[],[],kY,[],false,false⟩,
 ⟨none, "_law_word",top 54,["_law_well_here", "_law_taken", "_law_letters", "_law_some", "_law_word_here"],2,[],[true,false],[],[],lj,[],false,false⟩,
 ⟨none, "_law_common",top 50,["_law_one", "_law_other"],2,[],[false,false],[],[],jm,[],false,false⟩,
 ⟨none, "_law_num",top 51,["_law_top", "_law_bottom", "_law_by"],2,[],[false,false],[],[],mH,[],false,false⟩,
 ⟨none, "_law_number",top 53,["_law_well_here", "_law_way"],1,[],[true],[],[],jk,[],false,false⟩,
 ⟨none, "_law_add",top 52,["_law_one", "_law_other"],2,[],[false,false],[],[],m5,[],false,false⟩,
 ⟨none, "_law_sizes",top 55,["_law_well_here", "_law_most", "_law_names", "_law_sizes_here", "_law_k", "_law_name", "_law_least", "_law_wide", "_law_shifts", "_law_j", "_law_allow", "_law_way"],2,[],[true,false],[],["_law_names"],jK,[],false,false⟩,
 ⟨none, "is_written_in",top 21,["text", "signs", "most"],3,[],[false,false,false],[],[],gK,[],false,false⟩,
 ⟨none, "is_name",top 22,["text"],1,[],[false],[],[],oF,[],false,false⟩,
 ⟨none, "refuse_names",top 31,["names", "seen", "name"],1,["seen"],[false],[],[],gY,[],false,false⟩,
 ⟨none, "is_less",top 17,["a", "b"],2,[],[false,false],[],[],oR,[],false,false⟩,
 ⟨none, "common_divisor",top 11,["a", "b", "rest"],2,[],[false,false],[],[],gm,[],false,false⟩,
 ⟨none, "is_whole",top 10,["value"],1,[],[false],[],[],mO,[],false,false⟩,
 ⟨none, "is_number",top 13,["value"],1,[],[false],[],[],k7,[],false,false⟩,
 ⟨none, "refuse_bounds",top 29,["least", "most"],2,[],[false,false],[],[],gI,[],false,false⟩,
 ⟨none, "refuse_shift",top 30,["shift"],1,[],[false],[],[],iC,[],false,false⟩,
 ⟨some "Size", "names",topC 28 1,["self"],1,[],[false],[],[],jL,[],false,false⟩,
 ⟨some "Stock", "names",topC 39 2,["self", "names", "size"],1,[],[false],[],[],jd,[],false,false⟩,
 ⟨some "Size", "__init__",topC 28 0,["self", "name", "least", "most", "shifts", "shift"],5,[],[true,false,false,false,false],[.non],[],lC,[],false,false⟩,
 ⟨none, "size_with_bounds",top 32,["size", "least", "most"],3,[],[false,false,false],[],[],eP,[],false,false⟩,
 ⟨none, "size_copied",top 33,["size"],1,[],[false],[],[],ji,[],false,false⟩,
 ⟨some "Stock", "__init__",topC 39 0,["self", "sizes"],2,[],[true,true],[],["sizes"],kj,[],false,false⟩,
 ⟨none, "is_word",top 45,["text"],1,[],[false],[],[],pJ,[],false,false⟩,
 ⟨some "Part", "__init__",topC 46 0,["self", "name", "sizes", "word"],3,[],[true,false,true],[],["sizes", "*nob", "put_faces"],k8,[],false,false⟩,
 ⟨none, "_law_sum",top 56,["_law_well_here", "_law_names", "_law_pairs", "_law_name", "_law_way", "_law_factor"],2,[],[true,false],[],[],nM,[],false,false⟩,
 ⟨none, "_law_faces",top 58,["_law_well_here", "_law_names", "_law_many", "_law_faces_here", "_law_k", "_law_name", "_law_axis", "_law_some"],3,[],[true,false,false],[],["_law_faces_here"],jP,[],false,false⟩,
 ⟨none, "_law_plus",top 57,["_law_one", "_law_other", "_law_sign", "_law_factors", "_law_name", "_law_factor", "_law_pairs"],3,["_law_factors"],[false,false,false],[],[],lE,[],false,false⟩,
 ⟨none, "_law_placed",top 59,["_law_faces_here", "_law_placed_here", "_law_told", "_law_name", "_law_axis", "_law_start", "_law_add_here", "_law_place"],1,["_law_placed_here"],[false],[],[],jb,[],false,false⟩,
 ⟨some "Part", "faces",topC 46 5,["self"],1,[],[false],[],[],ku,[],false,false⟩,
 ⟨none, "_law_plain",top 60,["_law_thing"],1,[],[false],[],[],iA,[],false,true⟩,
 ⟨none, "_law_plain",top 60,["_law_thing"],1,[],[false],[],[],iy,[],false,false⟩,
 ⟨none, "_law_plain",top 60,["_law_thing"],1,[],[false],[],[],ir,[],false,false⟩,
 ⟨none, "_law_plain",top 60,["_law_thing"],1,[],[false],[],[],ik,[],false,false⟩,
 ⟨none, "_law_plain",top 60,["_law_thing"],1,[],[false],[],[],hW,[],false,false⟩,
 ⟨none, "_law_plain",top 60,["_law_thing"],1,[],[false],[],[],iK,[],false,false⟩,
 ⟨none, "_law_plain",top 60,["_law_thing"],1,[],[false],[],[],iE,[],false,false⟩,
 ⟨none, "_law_is_list",top 61,["_law_found", "_law_due"],2,[],[false,false],[],[],iB,[],false,false⟩,
 ⟨some "Stock", "sizes",topC 39 1,["self"],1,[],[false],[],[],ja,[],false,false⟩,
 ⟨none, "_law_fields",top 62,["_law_stock"],1,[],[false],[],[],jh,[],false,false⟩,
 ⟨some "Part", "refuse_move",topC 46 3,["self", "axis", "by", "names", "name", "factor"],3,[],[false,false,false],[],["*nob"],fc,[],false,false⟩,
 ⟨none, "lowest_terms",top 12,["top", "bottom", "divisor"],2,[],[false,false],[],[],iq,[],false,false⟩,
 ⟨none, "plus",top 14,["a", "b"],2,[],[false,false],[],[],BX,[],false,false⟩,
 ⟨none, "sum_of",top 23,["number", "pairs", "factors", "name", "factor"],2,["factors"],[false,false],[],[],sH,[],false,false⟩,
 ⟨none, "sum_plus",top 24,["a", "b"],2,[],[false,false],[],[],nO,[],false,false⟩,
 ⟨some "Part", "start_place",topC 46 4,["self", "start", "axis", "name", "own_axis", "place"],3,[],[false,false,false],[],[],fg,[],false,false⟩,
 ⟨some "Part", "put_face",topC 46 2,["self", "name", "axis", "start", "add", "place"],5,[],[false,false,false,false,false],[],["*nob", "put_faces"],gJ,[],false,false⟩,
 ⟨some "Part", "stock",topC 46 1,["self"],1,[],[false],[],["*nob"],j7,[],false,false⟩]
def oj:DI:=⟨none, "law",top 63,["_law_script", "_law_k", "_law_well_here", "_law_name", "_law_sizes_here", "_law_names", "_law_given", "_law_part", "_law_faces_here", "_law_due", "_law_j", "_law_face", "_law_axis", "_law_start", "_law_add_here", "_law_found"],1,[],[false],[],["*nob", "_law_found", "_law_given"],F2,[],false,false⟩
theorem JJ:vZ IY Fq=Fq.map (λd=>some d.m):=by kernel_rfl
theorem HA:tT (vH IY Fq) oj=some oj.m:=by kernel_rfl
theorem IE:(Fq++[oj]).all (λd=>iz d&&tK d)=true:=by decide +kernel
end W
section
open PySem PySem.W PyProof.Rows L2
set_option maxRecDepth 100000 in
theorem W.hl:LeftO PySem.Challenge.rw_fitwhatever_k14_faces_put.row.prog (W.Oe PySem.Challenge.pw_fitwhatever_k14_faces_put) (W.vq PySem.Challenge.pw_fitwhatever_k14_faces_put) (λs=>xlAt (W.Oe PySem.Challenge.pw_fitwhatever_k14_faces_put) [] s&&recOk PySem.Challenge.rw_fitwhatever_k14_faces_put.row.records s) (Hook.obs (M.hk (W.Fq++[W.oj]) (M.GN W.IY))) (Hook.val (M.hk (W.Fq++[W.oj]) (M.GN W.IY))) 20000:=W.Bt λw=>by kernel_rfl
set_option maxRecDepth 100000 in
set_option maxHeartbeats 0 in
theorem W.fin(LT:∀ns:List Int,ns.length<=63->∃Z,W.oj.M [.fr (.lst (ns.map M.A.int))]=some (.rt (.fr (.bl true)),Z)):PySem.Challenge.rw_fitwhatever_k14_faces_put.Holds:=by
 w_on
 refine holds_law (by decide +kernel) λh=>?_
 refine holds_open (q:=W.Oe PySem.Challenge.pw_fitwhatever_k14_faces_put) (loose:=W.vq PySem.Challenge.pw_fitwhatever_k14_faces_put) (Xt:=λs=>xlAt (W.Oe PySem.Challenge.pw_fitwhatever_k14_faces_put) [] s&&recOk (RowW.records _) s) (XP:=XL (W.Oe PySem.Challenge.pw_fitwhatever_k14_faces_put) []) (Yf:=Hook.obs (M.hk (W.Fq++[W.oj]) (M.GN W.IY))) (Ya:=Hook.val (M.hk (W.Fq++[W.oj]) (M.GN W.IY))) (YP:=Hook.says (M.hk (W.Fq++[W.oj]) (M.GN W.IY))) (N:=20000) W.hl (Hook.of _) (Hook.keeps _) (λs e=>xl_of s (VE.mp e).1) XL.keeps (by rfl) (by rfl) (by rfl) (λs e=>recFacts_of (VE.mp e).2) (by rfl) h (by decide +kernel) ⟨rfl,rfl,rfl,rfl,rfl,by decide +kernel⟩ ?hw ?hc
 case hw=>w_witness2
 case hc=>exact M.Bh rfl rfl rfl W.IE W.JJ W.HA rfl rfl rfl rfl ⟨rfl,by decide,by decide⟩ LT
end
set_option maxHeartbeats 1000000
set_option exponentiation.threshold 100000
namespace W
open PySem L2 M
inductive X2{α β:Type}(p:α->β->Prop):Prop|mk(a:α)(b:β)(h:p a b)
inductive X3{α β γ:Type}(p:α->β->γ->Prop):Prop|mk(a:α)(b:β)(c:γ)(h:p a b c)
inductive X5{α β γ δ ε:Type}(p:α->β->γ->δ->ε->Prop):Prop|mk(a:α)(b:β)(c:γ)(d:δ)(e:ε)(h:p a b c d e)
inductive N3(a b c:Prop):Prop|mk(x:a)(y:b)(z:c)
inductive N4(a b c d:Prop):Prop|mk(x:a)(y:b)(z:c)(w:d)
inductive N6(a b c d e f:Prop):Prop|mk(x:a)(y:b)(z:c)(w:d)(u:e)(v:f)
variable{Z:List Sl}{i:Int}
theorem bQ{x:Rr}{xs:List A}{a:A}(h:res Z x=some (.lst xs)\/res Z x=some (.tup xs))(e:iI xs i=some a):gO (bU i9 cj) x (.fr (.int i)) Z=some (.ok (.fr a),Z):=by unfold gO;rcases h with h|h<;>rw[h]<;>simp only[res,bU,i9,e]
variable{U:List Sl}{s:Sl}
theorem Wp.sr{m n:Ms}{Q:Fl->List Sl->Prop}(h:m Z=some (.rt s,U))(q:Q (.rt s) U):Wp (av m n) Z Q:=⟨_,_,by unfold av;rw[h],q⟩
theorem kL{t:Mi Bool}{m n:Ms}{r:Option (Fl×List Sl)}(h:t Z=some (.ok true,U))(k:m U=r):fD t m n Z=r:=sk h k
theorem cZ{t:Mi Bool}{m n:Ms}{r:Option (Fl×List Sl)}(h:t Z=some (.ok false,U))(k:n U=r):fD t m n Z=r:=sk h k
theorem ur(i j:Int)(Z:List Sl):gO gG (.fr (.int i)) (.fr (.int j)) Z=some (.ok (.fr (.bl (decide (i=j)))),Z):=by simp only[gO,res,gG,qw]
theorem cW{m n:Ms}{r:Option (Fl×List Sl)}(h:m Z=some (.nx,U))(k:n U=r):av m n Z=r:=by unfold av;rw[h];exact k
variable{m:Mi Rr}{Z':List Sl}{r:Rr}
theorem Jt{i:Nat}{x:Rr}(h0:Ja Z i=true)(h:m Z=some (.ok x,U))(k:Pc i x U=some (.ok r,Z')):eJ i (lW i m) Z=some (.ok r,Z'):=by exact(if_pos h0).trans (bk h k)
theorem Jm{i:Nat}{a:Sl}(h:xQ r Z=some (a,U))(k:U[i]?=some s)(hn:np s=true)(e:U.set i a=Z'):Dm i r Z=some (.nx,Z'):=by rw[Ln h k hn,e]
variable{G:Mg}{e:Mi Rr}
theorem cA{n:Nat}{H:Mi (List A)}{t:Mi Bool}{as:List A}(h:H Z=some (.ok as,U))(k:jc n G t e as U=some (.ok r,Z')):bH n H G t e Z=some (.ok r,Z'):=bk h k
theorem bB{i:Nat}{a:Sl}(h:m Z=some (.ok r,U))(h1:xQ r U=some (a,U))(k:U[i]?=some s)(hn:np s=true)(e:U.set i a=Z'):aO i m Z=some (.nx,Z'):=uC h (Jm h1 k hn e)
theorem jr{i:Nat}{x:Rr}{a:A}{xs:List A}(h0:Ja Z i=true)(h:m Z=some (.ok x,U))(k:bA x U=some (a,U))(l:aE U i=some (.lst xs))(hl:xs.length<=16000000)(e:setAt U i (.lst (xs++[a]))=Z'):bK (eJ i (cf i m)) Z=some (.nx,Z'):=by refine gw (r:=.fr .non) ((if_pos h0).trans (bk h ?_));rw[k];dsimp only;rw[l];dsimp only;rw[if_pos hl,e]
theorem fu{o:Option (Except Str Rr×List Sl)}{f:A->A->Option Rr}{x y:Rr}{a b:A}(h1:res Z x=some a)(h2:res Z y=some b)(k:f a b=some r):gO f x y Z=some (.ok r,Z):=by unfold gO;rw[h1,h2];dsimp only;rw[k]
variable{j:Int}
theorem kO{b:Bool}(h:decide (i=j)=b)(Z:List Sl):gO gQ (.fr (.int i)) (.fr (.int j)) Z=some (.ok (.fr (.bl (!b))),Z):=by rw[<-h];simp only[gO,res,gQ,qw]
theorem qL{b:Bool}(h:decide (i=j)=b)(Z:List Sl):gO gG (.fr (.int i)) (.fr (.int j)) Z=some (.ok (.fr (.bl b)),Z):=by rw[<-h];exact ur i j Z
theorem jF(h:j≠0)(Z:List Sl):gO j8 (.fr (.int i)) (.fr (.int j)) Z=some (.ok (.fr (.int (i.fmod j))),Z):=fu (o:=none) rfl rfl (if_pos (by simpa using h))
theorem p6(h:j≠0)(f:fits 9000 j=true)(Z:List Sl):gO lH (.fr (.int i)) (.fr (.int j)) Z=some (.ok (.fr (.int (i.fdiv j))),Z):=fu (o:=none) rfl rfl (if_pos (by rw[f];simpa using h))
theorem uW(h:fits 20000 i=true)(k:fits 20000 j=true)(Z:List Sl):gO dZ (.fr (.int i)) (.fr (.int j)) Z=some (.ok (.fr (.int (i*j))),Z):=by have e:we (.int i) (.int j)=some (.fr (.int (i*j))):=if_pos (by rw[h,k];rfl);refine fu (o:=none) rfl rfl ?_;unfold dZ bU;rw[e]
theorem ft{n m:Nat}(h:L2.Bd n i)(k:n<=m):fits m i=true:=fH h k
theorem dE{f:A->Option Rr}{x:Rr}{a:A}(h:res Z x=some a)(k:f a=some r):Po f x Z=some (.ok r,Z):=by unfold Po;rw[h];dsimp only;rw[k]
theorem dz{x:Rr}{as:List A}(h:m Z=some (.ok x,U))(k:O4 x U=some (.ok as,Z')):bY m Z=some (.ok as,Z'):=bk h k
theorem GG{n:Nat}{t:Mi Bool}{b:Ms}{r:Option (Fl×List Sl)}(h:fU t b n Z=r):iw n t b Z=r:=h
variable{ms:Mi (List Rr)}
theorem JB{i j:Nat}{rs:List Rr}{r:Option (Fl×List Sl)}(h:ms Z=some (.ok rs,U))(k:Ei i j rs U=r):Aj i j ms Z=r:=sk h k
variable{mk:Mi Rr}{S:List Sl}
theorem GX{i:Nat}{rk:Rr}{q:Option (Fl×List Sl)}(h:m Z=some (.ok r,S))(l:Ja S i=true)(hk:mk S=some (.ok rk,U))(k:QC i r rk U=q):mQ i mk m Z=q:=sk h ((if_pos l).trans (sk hk k))
theorem Aa{x y:Int}(d:L2.Bd 9000 y):Val jg [.int x,.int y] (.int (RI x y)):=by
 obtain⟨O,h1,q,rfl,N⟩:=kE (t:=ag (aC gQ (aa 1) (aB 0))) (b:=Aj 0 1 (bC (aa 1) (aC j8 (aa 0) (aa 1)))) (n:=B7)
  (P:=λk Z=>X2 λp q=>N3 (Z=[.fr (.int p),.fr (.int q)]) (k=q.natAbs) (RI p q=RI x y))
  (Q:=λZ=>∃p,Z=[.fr (.int p),.fr (.int 0)]/\RI p 0=RI x y) (by
   rintro k Z ⟨p,q,rfl,rfl,h1⟩;by_cases z:q=0
   .subst z;exact .inl ⟨_,aD (ao rfl rfl (kO rfl _)),p,rfl,h1⟩
   .exact .inr ⟨_,[.fr (.int q),.fr (.int (p.fmod q))],_,aD (ao rfl rfl (kO (decide_eq_false z) _)),.inl (JB (af rfl (af (ao rfl rfl (jF z _)) rfl)) rfl),rD p z,q,p.fmod q,rfl,rfl,by rw[mP,h1]⟩) ⟨x,y,rfl,rfl,rfl⟩ (uq (Q7 d (RY (by decide) (by decide))))
 have e:(if q<0 then -q else q)=(RI x y:Int):=by rw[<-N,VX];split<;>lia
 exact Val.of (Wp.df (Wp.st (GG h1) (Wp.en (aY (bE rfl (dE (r:=.fr (.int (RI x y))) rfl (by rw[<-e];rfl))) rfl) rfl)))
theorem BE{t b:Int}(h:0<b):jz t b=(t.fdiv (RI t b),b.fdiv (RI t b)):=by rw[<-DY (by lia:b≠0)];unfold J3;rw[if_neg (by lia)]
theorem y0{t b:Int}(h:0<b)(d:L2.Bd 9000 b):Val fz [.int t,.int b] (nm (jz t b)):=by
 rw[BE h];have h1:RI t b<=b.natAbs:=Int.gcd_le_natAbs_right _ (by lia);have h0:(RI t b:Int)≠0:=by simpa using λz:RI t b=0=>(by lia:b≠0) (Int.gcd_eq_zero_iff.mp z).2
 have f:fits 9000 (RI t b:Int)=true:=fH (show L2.Bd 9000 (RI t b:Int) from SR (by simpa using h1) d) (Rf _);exact Val.of (Wp.df (Wp.st (bB (aj rfl (aR (Aa d) _)) rfl rfl rfl rfl) (Wp.en (aY (cz (af (ao rfl rfl (p6 h0 f _)) (af (ao rfl rfl (p6 h0 f _)) rfl)) rfl) rfl) rfl)))
def Wl(n:Int)(o:LO):Prop:=X3 λ(f c t:Int)=>N4 (o=.lst [.int f,.int c,.int t]) (f=0\/f=1) (f=0->c.natAbs<10^18) (0<=t/\t<=n)
variable{o:LO}
theorem Wl.mono{n m:Int}(h:Wl n o)(k:n<=m):Wl m o:=by obtain⟨f,c,t,h1,h2,h3,h4,h5⟩:=h;exact⟨f,c,t,h1,h2,h3,h4,by lia⟩
theorem Ck(h:i.natAbs<2^64):fits 20000 i=true:=fH h (by decide)
theorem sW{n:Int}{m:Int}(w:Wl n o)(hn:n<2^40)(K:0<m)(O:m<2^64):X2 λr o'=>N4 (eR ai o [.int m] (.fr (.int r)) o') (0<=r) (r<m) (Wl (n+1) o'):=by
 suffices ∃s o',eR ai o [.int m] s o'/\∃r,N4 (s=.fr (.int r)) (0<=r) (r<m) (Wl (n+1) o') by obtain⟨s,o',v,r,rfl,h1,h2,h3⟩:=this;exact⟨r,o',v,h1,h2,h3⟩
 obtain⟨f,c,t,rfl,hf,hc,x,T⟩:=w
 have h:m≠0:=by lia
 refine eR.of (Wp.df ?_)
 have tt:∀b,decide (f=1)=b->∀Z,ag (aC gG (mix (aa 0) (aB 0)) (aB 1)) (.pv (.lst [.int f,.int c,.int t])::Z)=some (.ok b,.pv (.lst [.int f,.int c,.int t])::Z):=λb d Z=>aD (ao (ao rfl rfl (bQ (.inl rfl) rfl)) rfl (qL d _))
 rcases hf with rfl|rfl
 .have hc:=hc rfl
  have b1:L2.Bd 128 (7919*(t+1)*(t+1)):=L2.Bd.mul (show (7919*(t+1)).natAbs<2^64 by lia) (show (t+1).natAbs<2^64 by lia)
  have b2:L2.Bd 130 (c+7919*(t+1)*(t+1)+(t+1)):=((L2.Bd.add (show c.natAbs<2^128 by lia) b1).add (show (t+1).natAbs<2^128 by lia)).mono (by decide)
  have F:∀i:Int,(i.fmod 2305843009213693951).natAbs<2^64:=λi=>by have X:=Wi i (b:=2305843009213693951) (by decide);have D:=Int.emod_lt_of_pos i (b:=2305843009213693951) (by decide);rw[Vd _ (by decide)];lia
  refine Wp.st (cZ (tt false rfl _) rfl) ?_
  refine Wp.st (bB (ao (ao rfl rfl (bQ (.inl rfl) rfl)) rfl rfl) rfl rfl rfl rfl) ?_
  refine Wp.st (GX rfl rfl rfl rfl) ?_
  refine Wp.st (bB (ao (ao (ao (ao (ao rfl rfl (bQ (.inl rfl) rfl)) (ao (ao rfl rfl (uW (Ck (by decide)) (Ck (by lia)) _)) rfl (uW (Ck (by lia)) (Ck (by lia)) _)) rfl) rfl rfl) rfl (uW (ft b2 (by decide)) (Ck (by decide)) _)) rfl (jF (by decide) _)) rfl rfl rfl rfl) ?_
  exact Wp.en (aY (ao (ao (ao (ao (ao rfl rfl (uW (Ck (F _)) (Ck (by decide)) _)) rfl rfl) rfl (jF (by decide) _)) rfl (p6 (by decide) (fH (show (64:Int).natAbs<2^64 by decide) (by decide)) _)) rfl (jF h _)) rfl) ⟨_,_,_,rfl,rfl,_,rfl,S4 _ K,Ux _ K,0,c,t+1,rfl,.inl rfl,λ_=>hc,by lia,by lia⟩
 .have Y:∀Z,mix (aa 0) (aB 1) (.pv (.lst [.int 1,.int c,.int t])::Z)=some (.ok (.fr (.int c)),.pv (.lst [.int 1,.int c,.int t])::Z):=λZ=>ao rfl rfl (bQ (.inl rfl) rfl)
  exact Wp.sr (kL (tt true rfl _) (cW (bB (ao (Y _) rfl (jF h _)) rfl rfl rfl rfl) <| cW (GX (ao (Y _) rfl (p6 h (fH (show m.natAbs<2^64 by lia) (by decide)) _)) rfl rfl rfl) (aY rfl rfl))) ⟨_,.lst [.int 1,.int (c.fdiv m),.int t],_,rfl,rfl,_,rfl,S4 c K,Ux c K,1,c.fdiv m,t,rfl,.inr rfl,λz=>by lia,x,by lia⟩
variable{f:Ms}{o':LO}
theorem Cs{as:List A}(h:eR f o as s o')(y:mR s=some r):∀Z,eE f [] (.rf 0::as.map Rr.fr) (.pv o::Z)=some (.ok r,.pv o'::Z):=λZ=>dM h y rfl
theorem tk{n:Int}(m:Int)(w:Wl n o)(hn:n<2^40)(K:0<m)(O:m<2^64):X2 λr o'=>N4 (∀Z,eE ai [] [.rf 0,.fr (.int m)] (.pv o::Z)=some (.ok (.fr (.int r)),.pv o'::Z)) (0<=r) (r<m) (Wl (n+1) o'):=by obtain⟨r,o',h,h1,h2,h3⟩:=sW w hn K O;exact⟨r,o',Cs h rfl,h1,h2,h3⟩
theorem pw(k v:Int)(h:0<=k/\k<=1000000/\(10:Int).natAbs<2^64)(e:(10:Int)^k.toNat=v)(Z:List Sl):aC mX (aB 10) (mC (.int k)) Z=some (.ok (.fr (.int v)),Z):=
 ao rfl rfl (fu (o:=none) rfl rfl (by rw[<-e];exact if_pos h))
theorem Ks(ns:List Int)(k:Int)(s:0<=k)(K:k<=1000):∃o,iP hY [.lst (ns.map A.int),.int k] o/\Wl 17000 o:=by
 have C:∀c:Int,Wl 17000 (.lst [.int (if decide (1000000000000000000<=(if c<0 then -c else c))=true then 1 else 0),.int c,.int (17*k)]):=λc=>by
  refine⟨_,c,17*k,rfl,?_,λz=>?_,by lia,by lia⟩
  .generalize decide (1000000000000000000<=(if c<0 then -c else c))=d;cases d
   .exact .inl rfl
   .exact .inr rfl
  .by_cases h:1000000000000000000<=(if c<0 then -c else c)
   .simp[h] at z
   .split at h<;>lia
 have fin:∀c:Int,Wp (bh (cO (lI (bT EF (aC K2 (bT qu (aa 2)) (aC mX (aB 10) (aB 18)))) (aa 2) (aC dZ (aB 17) (aa 1))))) [.fr (.lst (ns.map A.int)),.fr (.int k),.fr (.int c)] λg _=>g=.rt (.lv (.lst [.int (if decide (1000000000000000000<=(if c<0 then -c else c))=true then 1 else 0),.int c,.int (17*k)])):=λc=>Wp.en (aY (gB (af (bE (ao rfl (pw 18 1000000000000000000 (by decide) (by decide) _) rfl) rfl) (af rfl (af (ao rfl rfl (uW (Ck (by decide)) (Ck (by lia)) _)) rfl))) rfl) rfl) rfl
 have tt:∀b,decide (k<((ns.map A.int).length:Int))=b->ag (aC tQ (aa 1) (bT d6 (aa 0))) [.fr (.lst (ns.map A.int)),.fr (.int k),.fr (.int 0)]=some (.ok b,[.fr (.lst (ns.map A.int)),.fr (.int k),.fr (.int 0)]):=by rintro b rfl;rfl
 by_cases hk:k<((ns.map A.int).length:Int)
 .obtain⟨j,rfl⟩:∃j:Nat,k=j:=⟨k.toNat,by lia⟩
  have I:j<ns.length:=by rw[QY] at hk;lia
  exact⟨_,iP.of (Wp.df (Wp.st rfl (Wp.st (kL (tt true (decide_eq_true hk)) (bB (ao rfl rfl (bQ (.inl rfl) (gC (by rw[Rn,Rg I];rfl)))) rfl rfl rfl rfl)) (Wp.mono (fin ns[j]) λf _ e=>by rw[e])))),C ns[j]⟩
 .exact⟨_,iP.of (Wp.df (Wp.st rfl (Wp.st (cZ (tt false (decide_eq_false hk)) rfl) (Wp.mono (fin 0) λf _ e=>by rw[e])))),C 0⟩
theorem yD{i:Nat}{x:Sl}{t:Sl}(hi:S.length=i)(w:∀o,x≠Sl.pv o):put i t (S++[x])=some (S++[t]):=by
 subst hi;unfold put;rw[Rx (Rf _),WR];simp only[List.getElem?_cons_zero];have e:(S++[x]).set S.length t=S++[t]:=by rw[T7 _ _ (Rf _),WR];rfl
 cases x with
 |pv o=>exact absurd rfl (w o)
 |un=>simp only[e]
 |fr a=>simp only[e]
 |lv o=>simp only[e]
variable{T:Type}
theorem cN{i:Nat}{ts:List T}(k g:T->A)(hi:S.length=i)(hl:ts.length<=100000)(h:∀t∈ts,∃r,e (S++[.fr (k t)])=some (.ok r,S++[.fr (k t)])/\bA r (S++[.fr (k t)])=some (g t,S++[.fr (k t)])):
  jc 1 (aG i) bp e (ts.map k) S=some (.ok (.nw (.lst (ts.map g))),S):=by
 obtain⟨ys,O,h1,x,rfl,_,rfl⟩:=iQ (G:=aG i) (t:=bp) (as:=ts.map k)
  (λj acc Z=>∃x:Sl,N3 (Z=S++[x]) (∀o,x≠Sl.pv o) (acc=(ts.take j).map g)) ⟨.un,rfl,(λo z=>by cases z),rfl⟩ (by
   rintro j q acc Z Q ⟨x,rfl,w,rfl⟩;rw[Rn] at Q;cases n:ts[j]? with
   |none=>rw[n] at Q;cases Q
   | some t=>rw[n] at Q;cases Q;obtain⟨r,K,l⟩:=h t (Rt n);refine⟨S++[Sl.fr (k t)],(show put i (.fr (k t)) (S++[x])=some (S++[.fr (k t)]) from yD hi w),.inl ⟨_,r,_,g t,_,rfl,K,l,.fr (k t),rfl,(λo z=>by cases z),?_⟩⟩;rw[Sy,n,Rj];rfl)
 unfold jc;rw[if_pos (by rw[QY];exact hl)];have F:S++Rl 1 Sl.un=S++[.un]:=rfl;rw[F,h1];simp
theorem Pz(x:Int):Ok (x,1):=⟨by show (0:Int)<1;decide,by show RI x 1=1;simp⟩
theorem O3{x y:Int}(h:m Z=some (.ok (.fr (.int x)),U)):bX (bC m (mC (.int y))) Z=some (.ok (.fr (nm (x,y))),U):=cz (af h rfl) rfl
theorem Hr(hi:i.natAbs<2^64)(I:j.natAbs<2^64)(Z:List Sl):gO dZ (.fr (.int i)) (.fr (.int j)) Z=some (.ok (.fr (.int (i*j))),Z):=by have F:fits 20000 i=true:=fH hi (by decide);have R:fits 20000 j=true:=fH I (by decide);simp only[gO,res,dZ,bU,Fc,M.n5,F,R,Bool.and_self,if_true]
theorem Np(h:i.natAbs<2^64):NB 64 (i,1):=⟨Pz i,h,by show (1:Int).natAbs<2^64;decide⟩
theorem tw{n:Int}{k v:Int}(w:Wl n o)(hn:n<2^38)(h:0<=k/\k<=1000000/\(10:Int).natAbs<2^64)(e:(10:Int)^k.toNat=v)(t:0<=v)(D:v<2^60):X2 λu o'=>N4 (0<=u) (u<2*v+1) (Wl (n+1) o') (∀Z,aC uk (aN ai (bC (aa 0) (fY (aC bD (aC dZ (aB 2) (aC mX (aB 10) (mC (.int k)))) (aB 1))))) (aC mX (aB 10) (mC (.int k))) (.pv o::Z)=some (.ok (.fr (.int (u-v))),.pv o'::Z)):=by obtain⟨u,o',c,a,b,x⟩:=tk (2*v+1) w (by lia) (by lia) (by lia);exact⟨u,o',a,b,x,λZ=>ao (aj (af rfl (af (eA (ao (ao rfl (pw k v h e _) (Hr (by decide) (by lia) _)) rfl rfl) rfl) rfl)) (c _)) (pw k v h e _) rfl⟩
theorem M0(b:Bool)(d:decide (i=j)=b)(h:Z[1]?=some (.fr (.int i))):ag (aC gG (aa 1) (mC (.int j))) Z=some (.ok b,Z):=by rw[<-d];exact aD (ao (by rw[Mm,h]) rfl (ur _ _ _))
theorem By{t b:Int}(h:0<b)(d:b.natAbs<2^64)(Z:List Sl):eE fz [] [.fr (.int t),.fr (.int b)] Z=some (.ok (.fr (nm (jz t b))),Z):=aR (y0 h (show b.natAbs<2^9000 from Q7 d (RY (by decide) (by decide)))) Z
abbrev G2(i j:Nat):Mg:=dw 2 (aL (aG i) (aL (aG j) dW))
theorem vm{i:Nat}{t:Mi Bool}{ts:List T}(k g:T->A)(c:T->Bool)(hi:S.length=i)(hl:ts.length<=100000)(h:∀x∈ts,t (S++[.fr (k x)])=some (.ok (c x),S++[.fr (k x)])/\(c x=true->∃r,e (S++[.fr (k x)])=some (.ok r,S++[.fr (k x)])/\bA r (S++[.fr (k x)])=some (g x,S++[.fr (k x)]))):
  jc 1 (aG i) t e (ts.map k) S=some (.ok (.nw (.lst ((ts.filter c).map g))),S):=by
 obtain⟨ys,O,h1,x,rfl,_,rfl⟩:=iQ (G:=aG i) (as:=ts.map k)
  (λj acc Z=>∃x:Sl,N3 (Z=S++[x]) (∀o,x≠Sl.pv o) (acc=((ts.take j).filter c).map g)) ⟨.un,rfl,(λo z=>by cases z),rfl⟩ (by
   rintro j q acc Z Q ⟨x,rfl,w,rfl⟩;rw[Rn] at Q;cases n:ts[j]? with
   |none=>rw[n] at Q;cases Q
   |some y=>
    rw[n] at Q;cases Q;obtain⟨K,l⟩:=h y (Rt n);refine⟨S++[Sl.fr (k y)],(show put i (.fr (k y)) (S++[x])=some (S++[.fr (k y)]) from yD hi w),?_⟩;rw[Sy,n,List.filter_append];cases P:c y with
    |true=>obtain⟨r,d,a⟩:=l P;rw[P] at K;exact .inl ⟨_,r,_,g y,_,K,d,a,.fr (k y),rfl,(λo z=>by cases z),by simp[P]⟩
    | false=>rw[P] at K;exact .inr ⟨_,K,.fr (k y),rfl,(λo z=>by cases z),by simp[P]⟩)
 unfold jc;rw[if_pos (by rw[QY];exact hl)];have F:S++Rl 1 Sl.un=S++[.un]:=rfl;rw[F,h1];simp
theorem iD{n:Int}(w:Wl n o)(hn:n<2^37):X2 λx o'=>N3 (eR bz o [] (.fr (nm x)) o') (NB 64 x) (Wl (n+3) o'):=by
 obtain⟨r,Y,N,T,b1,m⟩:=tk 8 w (by lia) (by decide) (by decide)
 suffices ∃s o',eR bz o [] s o'/\∃x,N3 (s=.fr (nm x)) (NB 64 x) (Wl (n+3) o') by obtain⟨s,o',v,x,rfl,h1,h2⟩:=this;exact⟨x,o',v,h1,h2⟩
 refine eR.of (Wp.df ?_);refine Wp.st (uC (aj rfl (N _)) rfl) ?_;by_cases q:r=7
 .obtain⟨u,o2,a,b2,Q,j⟩:=tw (k:=9) (v:=1000000000) m (by lia) (by decide) (by decide) (by decide) (by decide);obtain⟨d,E,h,U,g,c⟩:=tk 100000000 Q (by lia) (by decide) (by decide);exact Wp.sr (kL (M0 true (decide_eq_true q) rfl) (aY (aj (af (j _) (af (eA (ao rfl (aj (af rfl (af (pw 8 100000000 (by decide) (by decide) _) rfl)) (h _)) rfl) rfl) rfl)) (By (by lia) (by lia) _)) rfl)) ⟨_,_,_,rfl,rfl,_,rfl,.jz (by lia) (show (u-1000000000).natAbs<2^64 by lia) (show (1+d).natAbs<2^64 by lia),c.mono (by lia)⟩
 refine Wp.st (cZ (M0 false (decide_eq_false q) rfl) rfl) ?_;by_cases h3:r > 4
 .obtain⟨u,o2,D,a,b2,Q⟩:=tk 201 m (by lia) (by decide) (by decide);obtain⟨d,E,h,U,g,c⟩:=tk 6 Q (by lia) (by decide) (by decide);have tt:ag (aC Kg (aa 1) (aB 4)) [.pv Y,.fr (.int r)]=some (.ok true,[.pv Y,.fr (.int r)]):=by rw[<-decide_eq_true h3];rfl
  exact Wp.sr (kL tt (aY (aj (af (ao (aj rfl (D _)) rfl rfl) (af (eA (ao rfl (aj rfl (h _)) rfl) rfl) rfl)) (By (by lia) (by lia) _)) rfl)) ⟨_,_,_,rfl,rfl,_,rfl,.jz (by lia) (show (u-100).natAbs<2^64 by lia) (show (1+d).natAbs<2^64 by lia),c.mono (by lia)⟩
 have tt:ag (aC Kg (aa 1) (aB 4)) [.pv Y,.fr (.int r)]=some (.ok false,[.pv Y,.fr (.int r)]):=by rw[<-decide_eq_false h3];rfl
 obtain⟨u,o2,D,a,b2,Q⟩:=tk 9 m (by lia) (by decide) (by decide);exact Wp.st (cZ tt rfl) (Wp.en (aY (O3 (ao (aj rfl (D _)) rfl rfl)) rfl) ⟨_,_,_,rfl,rfl,_,rfl,Np (by lia),Q.mono (by lia)⟩)
theorem kF{as:List A}(h:m Z=some (.ok r,U))(k:rT r U=some (.ok as,Z')):dU m Z=some (.ok as,Z'):=bk h k
variable{z:Str}{c:Nat}
theorem uK{x:Rr}(h:res Z x=some (.str z))(l:z.length<=100000)(e:iI z.cps.toList i=some c):gO (bU i9 cj) x (.fr (.int i)) Z=some (.ok (.fr (.str ⟨#[c]⟩)),Z):=by have k:i9 (.str z) (.int i)=some (.fr (.str ⟨#[c]⟩)):=(if_pos l).trans (by rw[e]);refine fu (o:=none) h rfl ?_;unfold bU;rw[k]
theorem Gu{F:Str->A->Option Rr}{mo:Mi Rr}{y:Rr}{a:A}(h:mo Z=some (.ok (.fr (.str z)),S))(k:m S=some (.ok y,U))(e:res U y=some a)(f:F z a=some r):Cu F mo m Z=some (.ok r,U):=by refine bk h (bk k ?_);rw[e];dsimp only;rw[f]
theorem Me{ml mh:Mi (Option Int)}{x:Rr}{lo hi:Option Int}(h:m Z=some (.ok x,Z))(l:ml Z=some (.ok lo,Z))(u:mh Z=some (.ok hi,Z))(e:res Z x=some (.str z))(hz:z.length<=100000):Fw m ml mh Z=some (.ok (.fr (.str (Sa z lo hi))),Z):=by have k:K3 (.str z) lo hi=some (.fr (.str (Sa z lo hi))):=if_pos hz;refine bk h (bk l (bk u ?_));rw[e];dsimp only;rw[k]
theorem u7(h:m Z=some (.ok (.fr (.int i)),Z)):ip m Z=some (.ok (some i),Z):=by unfold ip aV;rw[h];rfl
theorem FR{x y:Str}(h:x.length+y.length<=100000)(Z:List Sl):gO bD (.fr (.str x)) (.fr (.str y)) Z=some (.ok (.fr (.str (x++y))),Z):=by have k:vC (.str x) (.str y)=some (.fr (.str (x++y))):=if_pos h;refine fu (o:=none) rfl rfl ?_;unfold bD bU;rw[show wo (.str x) (.str y)=none from rfl];dsimp only;rw[k]
theorem xg(ss:List Str):(RW ⟨#[]⟩ ss).cps.toList=ss.flatMap (λs=>s.cps.toList):=by
 unfold RW;cases ss with
 |nil=>rfl
 |cons a r=>
  show (r.foldl (λacc p=>acc++#[]++p.cps) a.cps).toList=_;rw[UC];have:∀(acc:Array Nat),(r.foldl (λacc p=>acc++#[]++p.cps) acc).toList=acc.toList++r.flatMap (λs=>s.cps.toList):=by
   induction r with
   |nil=>intro acc;simp
   |cons p r l=>intro acc;rw[Wb,l];simp
  exact this _
theorem gD(x:Str):x.length=x.cps.toList.length:=by rw[RN];rfl
noncomputable abbrev n4:Str:= "abcdefghijklmnopqrstuvwxyz"
theorem Gy:n4.cps.toList.length=26:=by decide +kernel
theorem ze:(n4.length<=100000)=True:=by simp only[eq_iff_iff,iff_true];decide +kernel
theorem Js{r:Int}(h0:0<=r)(h1:r<26):∃c,iI n4.cps.toList r=some c:=by
 obtain⟨j,rfl⟩:∃j:Nat,r=j:=⟨r.toNat,by lia⟩
 have I:j<n4.cps.toList.length:=by rw[Gy];lia
 exact⟨_,gC (Rg I)⟩
variable{α:Type}
theorem uR{l:List α}{r:Int}{c:α}(h0:0<=r)(h:iI l r=some c):c∈l:=by
 unfold iI at h;cases e:L2.oW l.length r with
 |none=>rw[e] at h;cases h
 |some j=>rw[e] at h;exact Rt h
variable{b:Nat}
theorem yd{x:Str}{a:Nat}(N:a<=b)(d:b<=x.length):(Sa x (some (a:Int)) (some (b:Int))).cps.toList=(x.cps.toList.drop a).take (b-a):=by
 have e:=StrLaws.sliced_plain x N d;have j:=StrLaws.strSliceIndices_plain N d;unfold Sa;by_cases hl:(RJ (some (a:Int)) (some (b:Int)) 1 x.length).length=x.length
 .rw[if_pos (by simpa using hl)];rw[j,QY,UB] at hl;have h0:a=0:=by lia
  have h1:b=x.length:=by lia
  subst h0 h1;rw[U4,TR (by rw[RN];exact Rf _)]
 .rw[if_neg (by simpa using hl)];show List.filterMap _ _=_;exact e
theorem yj{x:Str}(h:b<=x.length):(Sa x none (some (b:Int))).cps.toList=x.cps.toList.take b:=by
 have e:Sa x none (some (b:Int))=Sa x (some ((0:Nat):Int)) (some (b:Int)):=by
  unfold Sa;have:RJ none (some (b:Int)) 1 x.length=RJ (some ((0:Nat):Int)) (some (b:Int)) 1 x.length:=by
   unfold RJ;have:max (0:Int) (min 0 (x.length:Int))=0:=by lia
   simp[this]
  rw[this]
 rw[e,yd (R1 _) h,U4,Vy]
theorem wg(neg:Bool)(x:Str)(ss:List Str):fX neg (.str x) (.lst (ss.map A.str))=some (.fr (.bl (if neg then !decide (x∈ss) else decide (x∈ss)))):=by
 have e:K5 (rj (.str x)) ((ss.map A.str).map rj)=decide (x∈ss):=by
  unfold K5;rw[RV,List.any_map,T3,R9,decide_eq_true_eq];constructor
  .rintro⟨y,T,h⟩;have h:(y==x)=true:=h;rw[<-(beq_iff_eq.mp h)];exact T
  .exact λh=>⟨x,h,show (x==x)=true from beq_self_eq_true x⟩
 have f:(pB (.str x)&&(ss.map A.str).all pB)=true:=by rw[QR,RG];refine⟨rfl,λa ha=>?_⟩;obtain⟨y,_,rfl⟩:=RC.mp ha;rfl
 show KY neg (.str x) (ss.map A.str)=_;unfold KY;rw[if_pos f,e]
def oH(k:Nat):Nat:=n4.cps.toList.getD (k%26) 0
theorem Af(k:Nat):iI n4.cps.toList ((k%26:Nat):Int)=some (oH k):=by
 have h:k%26<n4.cps.toList.length:=by rw[Gy];exact Xw _ (by decide)
 rw[gC (Rg h)];unfold oH;rw[R0,Rg h];rfl
theorem JY:∀k:Fin 26,IX n4 ⟨#[oH k.val]⟩=some k.val:=by decide +kernel
theorem qi(k:Nat):IX n4 ⟨#[oH k]⟩=some (k%26):=by
 have:=JY ⟨k%26,Xw _ (by decide)⟩;have e:oH (k%26)=oH k:=by unfold oH;rw[Nat.mod_mod]
 rw[e] at this;exact this
theorem FK(k:Nat):oH k∈n4.cps.toList:=uR (Int.natCast_nonneg _) (Af k)
theorem E3:∀c∈n4.cps.toList,∃k:Nat,k<26/\c=oH k:=by decide +kernel
theorem DV{i j:Nat}(h:oH i=oH j):i%26=j%26:=by have h1:=qi i;rw[h,qi j] at h1;exact(Q9 h1).symm
structure Wd(w:Str):Prop where
 l1:1<=w.cps.toList.length
 l8:w.cps.toList.length<=8
 ab:∀c∈w.cps.toList,c∈n4.cps.toList
def jN(p:List Nat)(k:Nat):Str:=⟨(p++[oH k]).toArray⟩
theorem eG(p:List Nat)(k:Nat):(jN p k).cps.toList=p++[oH k]:=rfl
theorem A6(p:List Nat)(k:Nat):Sa (jN p k) none (some (-1))=⟨p.toArray⟩:=by
 have hl:(jN p k).length=p.length+1:=by rw[gD,eG];simp
 have e:Sa (jN p k) none (some (-1))=Sa (jN p k) none (some ((p.length:Nat):Int)):=by
  unfold Sa;have:RJ none (some (-1)) 1 (jN p k).length=RJ none (some ((p.length:Nat):Int)) 1 (jN p k).length:=by rw[hl];unfold RJ;dsimp only;rw[if_pos (by decide:(-1:Int)<0),if_neg (by lia:¬ ((p.length:Nat):Int)<0),show (-1:Int)+((p.length+1:Nat):Int)=((p.length:Nat):Int) by lia]
  rw[this]
 rw[e];have h2:=yj (x:=jN p k) (b:=p.length) (by rw[hl];lia);rw[eG,U3] at h2;cases h3:Sa (jN p k) none (some ((p.length:Nat):Int)) with
 |mk c=>rw[h3] at h2;have h2:c.toList=p:=h2;rw[<-h2]
theorem z0(b:Bool)(x:Str)(ss:List Str)(Z:List Sl):gO (bU (nZ b) (eu b)) (.fr (.str x)) (.fr (.lst (ss.map A.str))) Z=some (.ok (.fr (.bl (if b then !decide (x∈ss) else decide (x∈ss)))),Z):=by refine fu (o:=none) rfl rfl ?_;unfold nZ bU;rw[wg]
theorem FJ:∀r:Int,0<=r->r<8->∃w:Str,Wd w/\iI [A.str "frame",.str "lies",.str "part",.str "big",.str "size",.str "x",.str "fixed",.str "frame"] r=some (.str w):=by
 intro r h0 Y;have h:r=0\/r=1\/r=2\/r=3\/r=4\/r=5\/r=6\/r=7:=by lia
 rcases h with rfl|rfl|rfl|rfl|rfl|rfl|rfl|rfl
 all_goals exact⟨_,⟨by decide +kernel,by decide +kernel,by decide +kernel⟩,rfl⟩
theorem qF{α:Type}[DecidableEq α]:∀{xs ys:List α},xs.Nodup->(∀x∈xs,x∈ys)->xs.length<=ys.length
 |[],_,_,_=>R1 _
 |x::xs,ys,nd,h=>by obtain⟨R,E⟩:=Ry.mp nd;have w:=h x (.head _);have l:=qF (ys:=ys.erase x) E λu f=>(List.mem_erase_of_ne λz=>R (by rw[<-z];exact f)).mpr (h u (Q4 _ f));rw[List.length_erase_of_mem w] at l;have:=List.length_pos_of_mem w;rw[Q6];lia
abbrev PZ:Ms:=aO 4 (Cu kr (mC (.str "")) (bH 1 (dU (aC bD (aB 1) (aN ai (bC (aa 0) (aB 8))))) (aG 5) bp (mix (aa 2) (aN ai (bC (aa 0) (aB 26))))))
abbrev Ov:Mi Bool:=ag (aC (bU (nZ false) (eu false)) (aa 4) (aa 1))
abbrev Ow:Ms:=aO 4 (aC bD (Fw (aa 4) eI (ip (eU om (aB 1)))) (mix (aa 2) (aC j8 (aC bD (Cu sL (aa 2) (mix (aa 4) (eU om (aB 1)))) (aB 1)) (aB 26))))
abbrev QK:Ms:=fD (ag (aC gG (aN ai (bC (aa 0) (aB 6))) (aB 1))) (av (aO 4 (mix (aa 3) (aN ai (bC (aa 0) (aB 8))))) (fD (ag (aC (bU (nZ true) (eu true)) (aa 4) (aa 1))) (bh (aa 4)) bf)) bf
abbrev P7:Ms:=av PZ (av (iw B7 Ov Ow) (bh (aa 4)))
noncomputable abbrev Qy:List A:=[.str "frame",.str "lies",.str "part",.str "big",.str "size",.str "x",.str "fixed",.str "frame"]
abbrev kg(o:LO)(T:A)(x4:Sl):List Sl:=[.pv o,.fr T,.fr (.str n4),.lv (.lst Qy),x4]
theorem DR:aX=bx 3 (av (aO 2 (mC (.str n4))) (av (aO 3 (cO (aJ (mC (.str "frame")) (aJ (mC (.str "lies")) (aJ (mC (.str "part")) (aJ (mC (.str "big")) (aJ (mC (.str "size")) (aJ (mC (.str "x")) (aJ (mC (.str "fixed")) (aJ (mC (.str "frame")) c9)))))))))) (av QK P7))):=rfl
variable{x4:Sl}
theorem G5{n:Int}{T:A}(w:Wl n o)(hn:n<2^38)(h4:np x4=true):X2 λ(B:Str)(o':LO)=>N3 (PZ (kg o T x4)=some (.nx,kg o' T (.fr (.str B)))) (Wd B) (Wl (n+9) o'):=by
 obtain⟨r,Y,N,V,b1,p⟩:=tk 8 w (by lia) (by decide) (by decide);obtain⟨m,hm⟩:∃m:Nat,1+r=m:=⟨(1+r).toNat,by lia⟩
 obtain⟨ys,O,hc,cs,v,F,⟨j,f⟩,Q,k⟩:=iQ (G:=aG 5) (t:=bp) (e:=mix (aa 2) (aN ai (bC (aa 0) (aB 26)))) (as:=fT 0 m) (Z:=kg Y T x4++[.un])
  (λi acc Z=>X2 λ(cs:List Nat)(v:LO)=>N4 (acc=(cs.map λc=>(⟨#[c]⟩:Str)).map A.str) (cs.length=i/\∀c∈cs,c∈n4.cps.toList) (∃x,Z=kg v T x4++[x]/\∀q,x≠Sl.pv q) (Wl (n+1+i) v))
  ⟨[],Y,rfl,⟨rfl,λc hc=>nomatch hc⟩,⟨.un,rfl,λq z=>by cases z⟩,p.mono (by simp)⟩ (by
   rintro i a acc Z ha ⟨cs,v,rfl,⟨L,f⟩,⟨x,rfl,C⟩,k⟩;obtain⟨hi,-⟩:=kU ha;obtain⟨P,E,b,U,g,H⟩:=tk 26 k (by lia) (by decide) (by decide);obtain⟨ch,X⟩:=Js U g;refine⟨kg v T x4++[.fr a],?_,.inl ⟨_,.fr (.str ⟨#[ch]⟩),kg E T x4++[.fr a],.str ⟨#[ch]⟩,_,rfl,?_,rfl,cs++[ch],E,?_,?_,⟨.fr a,rfl,λq z=>by cases z⟩,H.mono (by lia)⟩⟩
   .cases x with
    |pv q=>exact absurd rfl (C q)
    |_=>rfl
   .exact ao rfl (aj rfl (b _)) (uK rfl (of_eq_true ze) X)
   .rw[Rj,Rj];rfl
   .refine⟨by rw[Rc,L];rfl,λc hc=>?_⟩;rcases QW.mp hc with h|h
    .exact f c h
    .rw[Q5.mp h];exact uR U X)
 obtain⟨x,Q,_⟩:=Q;subst F Q;rw[gz] at j k;have fl:(cs.map λc=>(⟨#[c]⟩:Str)).flatMap (λs=>s.cps.toList)=cs:=by
  clear hc j f;rw[List.flatMap_map];induction cs with
  |nil=>rfl
  |cons c cs l=>rw[UC];simp
 have gl:=xg (cs.map λc=>(⟨#[c]⟩:Str));rw[fl] at gl;refine⟨RW ⟨#[]⟩ (cs.map λc=>(⟨#[c]⟩:Str)),v,?_,⟨by rw[gl];lia,by rw[gl];lia,by rw[gl];exact f⟩,k.mono (by lia)⟩;have K:i6 (cs.map λc=>(⟨#[c]⟩:Str))=m:=by unfold i6;rw[RV];have:(Xq∘λc=>(⟨#[c]⟩:Str))=λ_=>1:=rfl;rw[this,List.map_const',List.sum_replicate_nat,j,VL]
 have d:kr "" (.lst ((cs.map λc=>(⟨#[c]⟩:Str)).map A.str))=some (.fr (.str (RW ⟨#[]⟩ (cs.map λc=>(⟨#[c]⟩:Str))))):=by show kr ⟨#[]⟩ _=_;unfold kr;simp only[rK];rw[if_pos (by rw[K];show m+_*0<=100000;lia)]
 have R:∀Z,rT (.fr (.int (1+r))) Z=some (.ok (fT 0 m),Z):=λZ=>by unfold rT;dsimp only [res];rw[if_pos (by lia),hm,UJ]
 have S:jc 1 (aG 5) bp (mix (aa 2) (aN ai (bC (aa 0) (aB 26)))) (fT 0 m) (kg Y T x4)=some (.ok (.nw (.lst ((cs.map λc=>(⟨#[c]⟩:Str)).map A.str))),kg v T x4):=by unfold jc;rw[if_pos (by rw[gz];lia)];show (match cX (aG 5) bp (mix (aa 2) (aN ai (bC (aa 0) (aB 26)))) (fT 0 m) [] (kg Y T x4++[.un]) with|some (ys,O)=>some ((R7 (Rr.nw (.lst ys)):Except Str Rr),O.take 5)|none=>none)=_;rw[hc];rfl
 exact bB (Gu rfl (cA (kF (ao rfl (aj rfl (N _)) rfl) (R _)) S) rfl d) rfl rfl h4 rfl
variable{B:Str}
theorem yZ(h:Wd B):∃p k,B=jN p k/\p.length<=7/\∀c∈p,c∈n4.cps.toList:=by
 rcases Vz B.cps.toList with z|⟨p,c,z⟩
 .have:=h.l1;rw[z] at this;exact absurd this (by decide)
 .rw[VA] at z;obtain⟨k,_,rfl⟩:=E3 c (h.ab c (by rw[z];simp));refine⟨p,k,?_,?_,λc hc=>h.ab c (by rw[z];simp[hc])⟩
  .cases B with
   |mk b=>exact congrArg Str.mk (by rw[<-z])
  .have:=h.l8;rw[z] at this;simp at this;lia
variable{p:List Nat}{k:Nat}
theorem Oy(h:p.length<=7)(hp:∀c∈p,c∈n4.cps.toList):Wd (jN p k):=⟨by rw[eG];simp,by rw[eG];simp;lia,λc hc=>by
 rw[eG] at hc;rcases QW.mp hc with z|z
 .exact hp c z
 .rw[Q5.mp z];exact FK k⟩
theorem Du{i j:Nat}(h:jN p i=jN p j):i%26=j%26:=by
 have:p++[oH i]=p++[oH j]:=by rw[<-eG,<-eG,h]
 have:=List.append_cancel_left this;injection this with h _;exact DV h
theorem w_next{T:A}(hp:p.length<=7):Ow (kg o T (.fr (.str (jN p k))))=some (.nx,kg o T (.fr (.str (jN p (k+1))))):=by
 have hl:(jN p k).length<=100000:=by rw[gD,eG];simp;lia
 have x:iI (jN p k).cps.toList (-1)=some (oH k):=by rw[eG];exact sj _ _
 have fx:sL n4 (.str ⟨#[oH k]⟩)=some (.fr (.int ((k%26:Nat):Int))):=by unfold sL;dsimp only;rw[qi]
 have h:(((k%26:Nat):Int)+1).fmod 26=(((k+1)%26:Nat):Int):=by rw[Vd _ (by decide)];lia
 have c:(⟨p.toArray⟩:Str)++⟨#[oH (k+1)]⟩=jN p (k+1):=by
  show Str.mk (p.toArray++#[oH (k+1)])=_;unfold jN
  congr 1
  simp
 have q:gO (bU i9 cj) (.fr (.str n4)) (.fr (.int ((((k%26:Nat):Int)+1).fmod 26))) (kg o T (.fr (.str (jN p k))))=some (.ok (.fr (.str ⟨#[oH (k+1)]⟩)),kg o T (.fr (.str (jN p k)))):=uK rfl (of_eq_true ze) (by rw[h];exact Af (k+1));have sl:=Me (m:=aa 4) (ml:=eI) (mh:=ip (eU om (aB 1))) (Z:=kg o T (.fr (.str (jN p k)))) (z:=jN p k) (lo:=none) (hi:=some (-1)) rfl rfl (u7 rfl) rfl hl;rw[A6] at sl;refine bB (U:=kg o T (.fr (.str (jN p k)))) (r:=.fr (.str (jN p (k+1)))) (ao sl (ao rfl (ao (ao (Gu rfl (ao rfl rfl (uK rfl hl x)) rfl fx) rfl rfl) rfl (jF (by decide) _)) q) ?_) rfl rfl rfl rfl;rw[<-c];exact FR (by show p.toArray.size+1<=_;simp;lia) _
variable{ss:List Str}
theorem Kp(h:Wd B)(u:ss.length<=20):∃z,N3 (iw B7 Ov Ow (kg o (.lst (ss.map A.str)) (.fr (.str B)))=some (.nx,kg o (.lst (ss.map A.str)) (.fr (.str z)))) (Wd z) (z∉ss):=by
 obtain⟨p,k,rfl,hp,c⟩:=yZ h;have tt:∀(z:Str)(b:Bool),decide (z∈ss)=b->Ov (kg o (.lst (ss.map A.str)) (.fr (.str z)))=some (.ok b,kg o (.lst (ss.map A.str)) (.fr (.str z))):=by rintro z b rfl;exact aD (ao rfl rfl (z0 false z ss _))
 obtain⟨O,h1,z,rfl,hz,hn⟩:=kE (t:=Ov) (b:=Ow) (n:=B7)
  (P:=λm Z=>∃j,N4 (m=27-j) (j<=26) (Z=kg o (.lst (ss.map A.str)) (.fr (.str (jN p (k+j))))) (∀i,i<j->jN p (k+i)∈ss))
  (Q:=λZ=>∃z,N3 (Z=kg o (.lst (ss.map A.str)) (.fr (.str z))) (Wd z) (z∉ss)) (by
   rintro m Z ⟨j,rfl,I,rfl,X⟩;by_cases E:jN p (k+j)∈ss
   .have H:j<26:=by
     rcases Nat.lt_or_ge j 26 with z|z
     .exact z
     .have nd:((Sg 26).map λi=>jN p (k+i)).Nodup:=by unfold List.Nodup;rw[SA];refine WS (λ{a b} ha d N e=>?_) List.pairwise_lt_range;have:=Du e;have:=SS.mp ha;have:=SS.mp d;lia
      have:=qF (ys:=ss) nd λx w=>by obtain⟨i,hi,rfl⟩:=RC.mp w;exact X i (by have:=SS.mp hi;lia)
      rw[QY,UB] at this;lia
    refine .inr ⟨_,_,27-(j+1),tt _ true (decide_eq_true E),.inl (w_next hp),by lia,j+1,rfl,by lia,rfl,λi hi=>?_⟩;by_cases e:i=j
    .rw[e];exact E
    .exact X i (by lia)
   .exact .inl ⟨_,tt _ false (decide_eq_false E),_,rfl,Oy hp c,E⟩) ⟨0,rfl,by decide,rfl,λi hi=>absurd hi (Nat.not_lt_zero _)⟩ (uq (show 27<2^9500 from Q7 (by decide:27<2^5) (RY (by decide) (by decide))))
 exact⟨z,h1,hz,hn⟩
theorem ue{n:Int}(w:Wl n o)(hn:n<2^37)(u:ss.length<=20):X2 λ(z:Str)(o':LO)=>N4 (∃Z,aX [.pv o,.fr (.lst (ss.map A.str))]=some (.rt (.fr (.str z)),.pv o'::.fr (.lst (ss.map A.str))::Z)) (Wd z) (z∉ss) (Wl (n+11) o'):=by
 suffices Wp aX [.pv o,.fr (.lst (ss.map A.str))] λf Z=>X2 λ(z:Str)(o':LO)=>N6 (f=.rt (.fr (.str z))) (∃O,Z=.pv o'::.fr (.lst (ss.map A.str))::O) (Wd z) (z∉ss) (Wl (n+11) o') True by obtain⟨f,Z,e,z,o',rfl,⟨O,rfl⟩,h1,h2,h3,-⟩:=this;exact⟨z,o',⟨O,e⟩,h1,h2,h3⟩
 obtain⟨r,Y,N,V,b1,m⟩:=tk 6 w (by lia) (by decide) (by decide)
 rw[DR]
 have fin:∀o2 x4,Wl (n+2) o2->np x4=true->Wp P7 (kg o2 (.lst (ss.map A.str)) x4) λf Z=>X2 λ(z:Str)(o':LO)=>N6 (f=.rt (.fr (.str z))) (∃O,Z=.pv o'::.fr (.lst (ss.map A.str))::O) (Wd z) (z∉ss) (Wl (n+11) o') True:=by intro o2 x4 Q h4;obtain⟨B,q,s1,X,H⟩:=G5 (T:=.lst (ss.map A.str)) Q (by lia) h4;obtain⟨z,s2,hz,v⟩:=Kp (o:=q) X u;exact Wp.st s1 (Wp.st s2 (Wp.en (aY rfl rfl) ⟨z,q,rfl,⟨_,rfl⟩,hz,v,H.mono (by lia),trivial⟩))
 have mt:∀(f:Fl)(Z:List Sl),(X2 λ(z:Str)(o':LO)=>N6 (f=.rt (.fr (.str z))) (∃O,Z=.pv o'::.fr (.lst (ss.map A.str))::O) (Wd z) (z∉ss) (Wl (n+11) o') True)->match f with
   | .nx=>X2 λ(z:Str)(o':LO)=>N6 (Fl.rt (.fr .non)=.rt (.fr (.str z))) (∃O,Z=.pv o'::.fr (.lst (ss.map A.str))::O) (Wd z) (z∉ss) (Wl (n+11) o') True
   | .rt s=>X2 λ(z:Str)(o':LO)=>N6 (Fl.rt s=.rt (.fr (.str z))) (∃O,Z=.pv o'::.fr (.lst (ss.map A.str))::O) (Wd z) (z∉ss) (Wl (n+11) o') True
   | .ex x=>X2 λ(z:Str)(o':LO)=>N6 (Fl.ex x=.rt (.fr (.str z))) (∃O,Z=.pv o'::.fr (.lst (ss.map A.str))::O) (Wd z) (z∉ss) (Wl (n+11) o') True
   |_=>False:=by
  rintro f Z ⟨z,o',rfl,a,b,c,d,e⟩;exact⟨z,o',rfl,a,b,c,d,e⟩
 have tt:∀b,decide (r=1)=b->ag (aC gG (aN ai (bC (aa 0) (aB 6))) (aB 1)) (kg o (.lst (ss.map A.str)) .un)=some (.ok b,kg Y (.lst (ss.map A.str)) .un):=λb G=>aD (ao (aj rfl (N _)) rfl (qL G _))
 refine Wp.df (Wp.st rfl (Wp.st (U:=kg o (.lst (ss.map A.str)) .un) rfl ?_))
 by_cases h:r=1
 .obtain⟨j,o2,D,p,b2,Q⟩:=tk 8 m (by lia) (by decide) (by decide)
  obtain⟨z,hz,L⟩:=FJ j p b2
  have k:aO 4 (mix (aa 3) (aN ai (bC (aa 0) (aB 8)))) (kg Y (.lst (ss.map A.str)) .un)=some (.nx,kg o2 (.lst (ss.map A.str)) (.fr (.str z))):=bB (ao rfl (aj rfl (D _)) (bQ (.inl rfl) L)) rfl rfl rfl rfl
  have i:∀b,(!decide (z∈ss))=b->ag (aC (bU (nZ true) (eu true)) (aa 4) (aa 1)) (kg o2 (.lst (ss.map A.str)) (.fr (.str z)))=some (.ok b,kg o2 (.lst (ss.map A.str)) (.fr (.str z))):=by rintro b rfl;exact aD (ao rfl rfl (z0 true z ss _))
  by_cases E:z∈ss
  .exact Wp.st (kL (tt true (decide_eq_true h)) (cW k (cZ (i false (by rw[decide_eq_true E];rfl)) rfl))) (Wp.mono (fin o2 _ (Q.mono (by lia)) rfl) mt)
  .exact Wp.sr (kL (tt true (decide_eq_true h)) (cW k (kL (i true (by rw[decide_eq_false E];rfl)) (aY rfl rfl)))) ⟨z,o2,rfl,⟨_,rfl⟩,hz,E,Q.mono (by lia),trivial⟩
 .exact Wp.st (cZ (tt false (decide_eq_false h)) rfl) (Wp.mono (fin Y .un (m.mono (by lia)) rfl) mt)
theorem Jq{t:Mi Bool}{n:Mi Rr}(h:t Z=some (.ok true,U))(k:m U=some (.ok r,Z')):Kf t m n Z=some (.ok r,Z'):=bk h k
theorem sX{t:Mi Bool}{n:Mi Rr}(h:t Z=some (.ok false,U))(k:n U=some (.ok r,Z')):Kf t m n Z=some (.ok r,Z'):=bk h k
theorem NO{x y:Int}(h:y≠0)(d:L2.Bd 9000 y):Val dD [.int x,.int y] (.int (cd x y)):=by
 obtain⟨O,h1,q,r,rfl⟩:=kE (t:=ag (aC gQ (aa 1) (mC (A.int 0)))) (b:=av (aO 2 (aC j8 (aa 0) (aa 1))) (av (aO 0 (aa 1)) (aO 1 (aa 2)))) (n:=B7)
  (P:=λk Z=>∃p q r,Z=[.fr (.int p),.fr (.int q),r]/\k=q.natAbs/\np r=true/\(q=0->p=cd x y)/\(q≠0->cd p q=cd x y))
  (Q:=λZ=>∃q r,Z=[.fr (.int (cd x y)),q,r]) (by
   rintro k Z ⟨p,q,r,rfl,rfl,N,h1,h2⟩;by_cases z:q=0
   .exact .inl ⟨_,aD (ao rfl rfl (kO (b:=true) (decide_eq_true z) _)),_,_,by rw[<-h1 z]⟩
   .exact .inr ⟨_,[.fr (.int q),.fr (.int (p.fmod q)),.fr (.int (p.fmod q))],_,aD (ao rfl rfl (kO (b:=false) (decide_eq_false z) _)),.inl (cW (bB (ao rfl rfl (jF z _)) rfl rfl N rfl) <| cW (bB rfl rfl rfl rfl rfl) (bB rfl rfl rfl rfl rfl)),rD p z,q,p.fmod q,_,rfl,rfl,rfl,λe=>by rw[<-h2 z];exact FP z e,λe=>by rw[FG z e];exact h2 z⟩) (k:=y.natAbs) (Z:=[.fr (.int x),.fr (.int y),.un]) ⟨x,y,.un,rfl,rfl,rfl,λe=>absurd e h,λ_=>rfl⟩ (uq (Q7 d (RY (by decide) (by decide))))
 exact Val.of (Wp.df (Wp.st (GG h1) (Wp.en (aY rfl rfl) rfl)))
theorem NA{t b:Int}(h:b≠0)(G:L2.Bd 9000 b):Val ie [.int t,.int b] (nm (jz t b)):=by
 have k:=aR (NO (x:=t) h G);have hc:=vR (x:=t) h;have f:fits 9000 (cd t b)=true:=fH (show L2.Bd 9000 (cd t b) from SR (N8 h) G) (Rf _);have d:∀(u:Int)(Z:List Sl),gO lH (.fr (.int u)) (.fr (.int (cd t b))) Z=some (.ok (.fr (.int (u.fdiv (cd t b)))),Z):=λu Z=>by unfold gO;simp only[res,Ir,M.n5,f,bne_iff_ne,ne_eq,hc,not_false_eq_true,Uq,decide_true,if_true]
 exact Val.of (Wp.df (Wp.st (U:=[.fr (.int t),.fr (.int b),.fr (.int (cd t b))]) (uC (aj rfl (k _)) rfl) (Wp.en (aY (cz (af (ao rfl rfl (d _ _)) (af (ao rfl rfl (d _ _)) rfl)) rfl) rfl) rfl)))
variable{x y:Num}
theorem vz{n m:Nat}(w:NB n x)(T:NB m y)(h:n+m<=8999):Val tR [nm x,nm y] (nm (c8 x y)):=
 Val.of (Wp.df (Wp.en (aY (aj (af (eA (ao (ao rfl rfl (uW (ft w.b1 (by lia)) (ft T.b2 (by lia)) _)) (ao rfl rfl (uW (ft T.b1 (by lia)) (ft w.b2 (by lia)) _)) rfl) rfl) (af (ao rfl rfl (uW (ft w.b2 (by lia)) (ft T.b2 (by lia)) _)) rfl)) (aR (NA (t:=x.1*y.2+y.1*x.2) (b:=x.2*y.2) (T6 w.nz T.nz) ((w.b2.mul T.b2).mono (by lia))) _)) rfl) rfl))
theorem qK{n m:Nat}(w:NB n x)(T:NB m y)(h:n+m<=8999):Val fm [nm x,nm y] (nm (c8 x y)):=
 Val.of (Wp.df (Wp.en (aY (aj (af (eA (ao (ao rfl rfl (uW (ft w.b1 (by lia)) (ft T.b2 (by lia)) _)) (ao rfl rfl (uW (ft T.b1 (by lia)) (ft w.b2 (by lia)) _)) rfl) rfl) (af (ao rfl rfl (uW (ft w.b2 (by lia)) (ft T.b2 (by lia)) _)) rfl)) (aR (y0 (t:=x.1*y.2+y.1*x.2) (b:=x.2*y.2) (Int.mul_pos w.ok.1 T.ok.1) ((w.b2.mul T.b2).mono (by lia))) _)) rfl) rfl))
theorem uS{n m:Nat}(w:NB n x)(T:NB m y)(h:n<=20000)(h':m<=20000):Val kX [nm x,nm y] (.bl (B0 x y)):=
 Val.of (Wp.df (Wp.en (aY (ao (ao rfl rfl (uW (ft w.b1 h) (ft T.b2 h') _)) (ao rfl rfl (uW (ft T.b1 h') (ft w.b2 h) _)) rfl) rfl) rfl))
theorem l9(i:Int):Val jC [.int i] (.bl true):=⟨[.fr (.int i)],rfl⟩
theorem iN{n:Nat}(w:NB n x)(hn:n<=9000):Val fI [nm x] (.bl true):=by
 have d:=NO (x:=x.1) (y:=x.2) w.nz (w.b2.mono hn);have F:cd x.1 x.2=1:=by unfold cd;rw[if_neg (by have:=w.ok.1;lia),w.ok.2];rfl
 rw[F] at d;have X:ag (aC tQ (aC (bU i9 cj) (aa 0) (mC (.int 1))) (mC (.int 1))) [.fr (nm x)]=some (.ok false,[.fr (nm x)]):=by rw[<-decide_eq_false (show ¬ x.2<1 by have:=w.ok.1;lia)];rfl
 exact Val.of (Wp.df (Wp.st (cZ (fQ (dk (b:=true) rfl) (aD (ao rfl rfl (kO (b:=true) rfl _)))) rfl) (Wp.st (cZ (fQ (dk (b:=true) (aD (aj rfl (aR (l9 x.1) _)))) (fQ (dk (b:=true) (aD (aj rfl (aR (l9 x.2) _)))) X)) rfl) (Wp.en (aY (ao (aj rfl (aR d _)) rfl (qL rfl _)) rfl) rfl))))
theorem zu{n:Nat}(w:NB n x)(T:NB n y)(hn:n<=4000)(h:B0 y x=false):Val gL [nm x,nm y] .non:=by have k:=uS T w (by lia) (by lia);rw[h] at k;exact Val.of (Wp.df (Wp.st (cZ (fQ (dk (b:=true) (aD (aj rfl (aR (iN w (by lia)) _)))) (dk (b:=true) (aD (aj rfl (aR (iN T (by lia)) _))))) rfl) (Wp.en (cZ (aD (aj rfl (aR k _))) rfl) rfl)))
structure Sf where
 s:Str
 r:Num
 w:Str
def i4(f:Sf):A:=.tup [.str f.s,nm f.r,.str f.w]
def zv(w:Str):Prop:=w = "fixed" \/ w = "big" \/ w = "small"
structure zq(n:Nat)(f:Sf):Prop where
 nb:NB n f.r
 nn:B0 f.r (0,1)=false
 wy:zv f.w
theorem Ml:NB 60 (0,1):=NB.zero
noncomputable def HK(w:Str):Bool:=("fixed" : Str)==w || (("big" : Str)==w || (("small" : Str)==w || false))
theorem Fs(w:Str):fX true (.str w) (.tup [.str "fixed",.str "big",.str "small"])=some (.fr (.bl (!HK w))):=rfl
variable{w:Str}
theorem E7(h:zv w):HK w=true:=by unfold HK;rcases h with rfl|rfl|rfl<;>simp
theorem Fd{f:Sf}{n:Nat}(h:zq n f)(h0:60<=n)(hn:n<=4000):Val iM [i4 f] .non:=by
 have k:=uS h.nb (Ml.mono h0) (by lia) (by lia);rw[h.nn] at k;have w:fX true (.str f.w) (.tup [.str "fixed",.str "big",.str "small"])=some (.fr (.bl false)):=by rw[Fs,E7 h.wy];rfl
 exact Val.of (Wp.df (Wp.st (cZ (fQ (dk (b:=true) (aD (aj rfl (aR (iN h.nb (by lia)) _)))) (aD (aj rfl (aR k _)))) rfl) (Wp.en (cZ (aD (ao rfl rfl (fu (o:=none) rfl rfl (by unfold nZ bU;rw[w])))) rfl) rfl)))
noncomputable def DN:Str:= "abcdefghijklmnopqrstuvwxyz0123456789."
structure zI(z:Str):Prop where
 lo:1<=z.length
 hi:z.length<=30
 sg:∀c∈z.cps.toList,c∈DN.cps.toList
theorem Fn:∀c∈DN.cps.toList,pG ⟨#[c]⟩ DN=true:=by decide +kernel
theorem pV{α:Type}(f:α->Bool):∀l:List α,fR (l.map λx=>A.bl (f x))=some (l.map f)
 |[]=>rfl
 |x::l=>by rw[Ri,fR,pV f l];rfl
theorem yF{p q:Int->Int->Bool}{ma mb h:Mi Rr}{k:Int}(ha:ma Z=some (.ok (.fr (.int i)),Z))(d:mb Z=some (.ok (.fr (.int j)),Z))(hc:h Z=some (.ok (.fr (.int k)),Z))(h1:p i j=true)(h2:q j k=true):gH p q ma mb h Z=some (.ok (.fr (.bl true)),Z):=by refine bk ha (bk d ?_);dsimp only [res];rw[h1];exact bk hc (by dsimp only [res];rw[h2])
theorem oJ{h:Str}{m:Int}(h1:1<=z.length)(h2:(z.length:Int)<=m)(hm:m<=30)(sg:∀c∈z.cps.toList,pG ⟨#[c]⟩ h=true)(hl:∀c∈z.cps.toList,jX false (.str ⟨#[c]⟩) (.str h)=some (.fr (.bl (pG ⟨#[c]⟩ h)))):Val d9 [.str z,.str h,.int m] (.bl true):=by
 have k:=cN (i:=3) (ts:=z.cps.toList) (e:=aC (bU (nZ false) (eu false)) (aa 3) (aa 1)) (S:=[.fr (.str z),.fr (.str h),.fr (.int m)]) (λc=>.str ⟨#[c]⟩) (λc=>.bl true) rfl (by rw[<-gD];lia) (by intro c hc;refine⟨.fr (.bl true),ao rfl rfl (fu (o:=none) rfl rfl ?_),rfl⟩;unfold nZ bU;rw[show fX false (.str ⟨#[c]⟩) (.str h)=none from rfl,show eF false (.str ⟨#[c]⟩) (.str h)=none from rfl];dsimp only;rw[hl c hc,sg c hc])
 have N:eD (λbs=>SY bs id) (.lst (z.cps.toList.map λc=>A.bl true))=some (.fr (.bl true)):=by unfold eD;dsimp only;rw[pV];dsimp only;rw[Uz,RG.mpr λc hc=>(show (id∘λ_=>true) c=true from rfl)]
 have l:∀Z,bT d6 (aa 0) (.fr (.str z)::Z)=some (.ok (.fr (.int z.length)),.fr (.str z)::Z):=λZ=>bE rfl (dE (a:=.str z) rfl (if_pos (by lia)));exact Val.of (Wp.df (Wp.st (cZ (fQ (dk (b:=true) rfl) (dk (b:=true) (aD (yF rfl (l _) rfl (decide_eq_true (by lia)) (decide_eq_true (by lia)))))) rfl) (Wp.en (aY (bE (cA (dz rfl rfl) k) (dE rfl N)) rfl) rfl)))
theorem MT:∀c∈n4.cps.toList,pG ⟨#[c]⟩ n4=true:=by decide +kernel
theorem wF(hz:zI z):Val oG [.str z] (.bl true):=
 Val.of (Wp.df (Wp.en (aY (aj rfl (aR (oJ hz.lo (by have:=hz.hi;lia) (by decide) (λc hc=>Fn c (hz.sg c hc)) (λc hc=>rfl)) _)) rfl) rfl))
theorem kR(hz:Wd z):Val f9 [.str z] (.bl true):=
 Val.of (Wp.df (Wp.en (aY (aj rfl (aR (oJ (by rw[gD];exact hz.l1) (by have:=hz.l8;rw[gD];lia) (by decide) (λc hc=>MT c (hz.ab c hc)) (λc hc=>rfl)) _)) rfl) rfl))
theorem Wd.nm(h:Wd z):zI z:=⟨by rw[gD];exact h.l1,by have:=h.l8;rw[gD];lia,λc hc=>(show ∀c∈n4.cps.toList,c∈DN.cps.toList by decide +kernel) c (h.ab c hc)⟩
noncomputable def gp(ss:List Str):List (Key×A):=ss.map λz=>(.inr z,.bl true)
theorem Ad(ss:List Str)(z:Str)(h:z∉ss):gi (gp ss) (.inr z)=none:=by
 unfold gi gp;rw[VT.mpr]
 .rfl
 .intro x w;obtain⟨y,T,rfl⟩:=RC.mp w;simp only[decide_eq_true_eq];intro e;cases e;exact h T
theorem BO(ss:List Str)(z:Str)(h:z∉ss):hE (gp ss) (.inr z) (.bl true)=gp (ss++[z]):=by
 unfold hE;rw[if_neg]
 .unfold gp;rw[Rj];rfl
 .intro e;rw[R9] at e;obtain⟨x,w,e⟩:=e;unfold gp at w;obtain⟨y,T,rfl⟩:=RC.mp w;rw[decide_eq_true_eq] at e;cases e;exact h T
theorem mB(h:∀z∈ss,zI z)(nd:ss.Nodup)(hl:ss.length<=1000):Val fb [.lst (ss.map A.str)] .non:=by
 refine Val.of (Wp.df (Wp.st (U:=[.fr (.lst (ss.map A.str)),.lv (.dic []),.un]) rfl ?_));refine Wp.fr (as:=ss.map A.str) (λi Z=>∃x,Z=[.fr (.lst (ss.map A.str)),.lv (.dic (gp (ss.take i))),x]/\np x=true) rfl ⟨_,rfl,rfl⟩ ?_ (λZ _=>rfl);rintro i a Z ha ⟨x,rfl,w⟩;rw[Rn] at ha;cases n:ss[i]? with
 |none=>rw[n] at ha;cases ha
 |some z=>
  rw[n] at ha;cases ha;have hi:=(Q2.mp n).1;have es:ss.take (i+1)=ss.take i++[z]:=by rw[Sy,n];rfl
  have hn:z∉ss.take i:=λhz=>by have:(ss.take (i+1)).Nodup:=nd.sublist (SU _ _);rw[es] at this;exact(Q8.mp this).2.2 z hz z (.head _) rfl
  have g:=Ad _ _ hn;refine⟨[.fr (.lst (ss.map A.str)),.lv (.dic (gp (ss.take i))),.fr (.str z)],by cases x<;>first|(cases w;done)|rfl,?_⟩;refine Wp.st (cZ (dk (b:=true) (aD (aj rfl (aR (wF (h z (Rt n))) _)))) rfl) (Wp.st (cZ (aD (ao rfl rfl (fu (o:=none) (a:=.str z) (b:=.dic (gp (ss.take i))) (r:=.fr (.bl false)) rfl rfl (by show some (Rr.fr (A.bl (gi (gp (ss.take i)) (.inr z)).isSome))=_;rw[g];rfl)))) rfl) (Wp.en (f:=.nx) (U:=[.fr (.lst (ss.map A.str)),.lv (.dic (gp (ss.take (i+1)))),.fr (.str z)]) ?_ ⟨.inl rfl,_,rfl,rfl⟩));refine(lS (rk:=.fr (.str z)) (r:=.fr (.bl true)) rfl rfl rfl (Ft (kvs:=gp (ss.take i)) rfl rfl rfl rfl (by unfold gp;rw[QY,RX];lia))).trans ?_;rw[BO _ _ hn,<-es];rfl
structure Sz where
 n:Str
 l:Num
 m:Num
 f:List Sf
def vp(z:Sz):List (Str×A):=[("name",.str z.n),("least",nm z.l),("most",nm z.m),("shifts",.tup (z.f.map i4))]
def cG(z:Sz):A:=.obj "Size" (vp z)
def jG(z:Sz):A:=.tup [.str z.n,nm z.l,nm z.m,.tup (z.f.map i4)]
noncomputable def cM(z:Sz):List Str:=z.n::z.f.map Sf.s
structure qH(b:Nat)(z:Sz):Prop where
 lb:NB b z.l
 mb:NB b z.m
 le:B0 z.m z.l=false
 fs:∀f∈z.f,zq b f
 ns:∀s∈cM z,zI s
 nd:(cM z).Nodup
 ln:z.f.length<=50
theorem j9(z:Sz):aZ ["Size", "Part"] "name" (cG z)=some (.fr (.str z.n)):=by unfold aZ cG vp;simp only;rw[if_pos (by decide +kernel)];rfl
theorem pY(z:Sz):aZ ["Size"] "least" (cG z)=some (.fr (nm z.l)):=by unfold aZ cG vp;simp only;rw[if_pos (by decide +kernel)];rfl
theorem sA(z:Sz):aZ ["Size"] "most" (cG z)=some (.fr (nm z.m)):=by unfold aZ cG vp;simp only;rw[if_pos (by decide +kernel)];rfl
theorem fw(z:Sz):aZ ["Size"] "shifts" (cG z)=some (.fr (.tup (z.f.map i4))):=by unfold aZ cG vp;simp only;rw[if_pos (by decide +kernel)];rfl
theorem mM{z:Sz}(h:z.f.length<=50)(s0:Sl):jc 1 (aG 1) bp (aC (bU i9 cj) (aa 1) (mC (.int 0))) (z.f.map i4) [s0]=some (.ok (.nw (.lst ((z.f.map Sf.s).map A.str))),[s0]):=by rw[RV];exact cN (T:=Sf) (i:=1) (ts:=z.f) (S:=[s0]) i4 (λf=>.str f.s) rfl (by lia) λf _=>⟨.fr (.str f.s),rfl,rfl⟩
theorem E8{xs ys:List A}(h:xs.length+ys.length<=100000)(Z:List Sl):gO bD (.nw (.lst xs)) (.nw (.lst ys)) Z=some (.ok (.nw (.lst (xs++ys))),Z):=fu (o:=none) (a:=.lst xs) (b:=.lst ys) rfl rfl (if_pos h)
variable{s0:Sl}
theorem Oc{z:Sz}(h:z.f.length<=50)(u:s0=.fr (cG z)\/s0=.pv (.obj "Size" (vp z))):∃Z,bI [s0]=some (.rt (.lv (.lst ((cM z).map A.str))),s0::Z):=by
 have l:[A.str z.n].length+((z.f.map Sf.s).map A.str).length<=100000:=by rw[QY,QY,S7];lia
 suffices Wp bI [s0] λg Z=>g=.rt (.lv (.lst ((cM z).map A.str)))/\Z=[s0] by obtain⟨_,_,e,rfl,rfl⟩:=this;exact⟨_,e⟩
 rcases u with rfl|rfl
 .exact Wp.df (Wp.en (aY (ao (gB (af (bE rfl (dE rfl (j9 z))) rfl) rfl) (cA (dz (bE rfl (dE rfl (fw z))) rfl) (mM h _)) (E8 l _)) rfl) ⟨rfl,rfl⟩)
 .exact Wp.df (Wp.en (aY (ao (gB (af (bE rfl (dE rfl (j9 z))) rfl) rfl) (cA (dz (bE rfl (dE rfl (fw z))) rfl) (mM h _)) (E8 l _)) rfl) ⟨rfl,rfl⟩)
theorem xn{z:Sz}(h:z.f.length<=50):iP bI [cG z] (.lst ((cM z).map A.str)):=let ⟨_,e⟩:=Oc h (.inl rfl);⟨_,e⟩
def NK(sh:A)(f:List Sf):Prop:=(sh=.non/\f=[])\/sh=.lst (f.map i4)\/sh=.tup (f.map i4)
theorem Ii{sh:A}{f:List Sf}(h:f.length<=50)(u:NK sh f)(x H a U c:Sl):Kf (ag (aC (sP false) (aa 4) (mC .non))) (bX c9) (bT eX (bH 1 (bY (aa 4)) (aG 6) bp (bX (aJ (aC (bU i9 cj) (aa 6) (mC (.int 0))) (aJ (aC (bU i9 cj) (aa 6) (mC (.int 1))) (aJ (aC (bU i9 cj) (aa 6) (mC (.int 2))) c9)))))) [x,H,a,U,.fr sh,c]=some (.ok (.fr (.tup (f.map i4))),[x,H,a,U,.fr sh,c]):=by
 have k:=cN (T:=Sf) (i:=6) (ts:=f) (e:=bX (aJ (aC (bU i9 cj) (aa 6) (mC (.int 0))) (aJ (aC (bU i9 cj) (aa 6) (mC (.int 1))) (aJ (aC (bU i9 cj) (aa 6) (mC (.int 2))) c9)))) (S:=[x,H,a,U,.fr sh,c]) i4 i4 rfl (by lia) λg _=>⟨.fr (i4 g),rfl,rfl⟩
 rcases u with ⟨rfl,rfl⟩|rfl|rfl
 .rfl
 .exact sX rfl (bE (cA rfl k) rfl)
 .exact sX rfl (bE (cA rfl k) rfl)
theorem QM(a:A)(Y U b c:Sl):gq ["Size", "Part"] 0 "name" (aa 1) [.pv (.obj "Size" []),.fr a,Y,U,b,c]=some (.nx,[.pv (.obj "Size" [("name",a)]),.fr a,Y,U,b,c]):=by rfl
theorem QJ(a b:A)(U c h:Sl):gq ["Size"] 0 "least" (aa 2) [.pv (.obj "Size" [("name",a)]),.fr a,.fr b,U,c,h]=some (.nx,[.pv (.obj "Size" [("name",a),("least",b)]),.fr a,.fr b,U,c,h]):=by rfl
theorem Qw(a b c:A)(x h:Sl):gq ["Size"] 0 "most" (aa 3) [.pv (.obj "Size" [("name",a),("least",b)]),.fr a,.fr b,.fr c,x,h]=some (.nx,[.pv (.obj "Size" [("name",a),("least",b),("most",c)]),.fr a,.fr b,.fr c,x,h]):=by rfl
theorem Qs(a b c d:A)(x s:Sl)(m:Mi Rr)(h:m [.pv (.obj "Size" [("name",a),("least",b),("most",c)]),.fr a,.fr b,.fr c,x,s]=some (.ok (.fr d),[.pv (.obj "Size" [("name",a),("least",b),("most",c)]),.fr a,.fr b,.fr c,x,s])):gq ["Size"] 0 "shifts" m [.pv (.obj "Size" [("name",a),("least",b),("most",c)]),.fr a,.fr b,.fr c,x,s]=some (.nx,[.pv (.obj "Size" [("name",a),("least",b),("most",c),("shifts",d)]),.fr a,.fr b,.fr c,x,s]):=by exact sk h rfl
theorem Qh{T:List Sl}(h:f [.pv o]=some (.rt s,.pv o'::T))(y:mR s=some r)(Z:List Sl):eE f [] [.rf 0] (.pv o::Z)=some (.ok r,.pv o'::Z):=Cs (as:=[]) ⟨T,h⟩ y Z
theorem Ep{as:List A}(h:Val f as .non)(e:ms Z=some (.ok (as.map Rr.fr),U)):bK (bq f [] ms) Z=some (.nx,U):=gw (aj e (aR h _))
abbrev MU(z:Sz)(sh:A)(x5:Sl):List Sl:=[.pv (.obj "Size" (vp z)),.fr (.str z.n),.fr (nm z.l),.fr (nm z.m),.fr sh,x5]
theorem JC{z:Sz}(h:qH b z)(k:60<=b)(b1:b<=4000){sh:A}(u:NK sh z.f):∃x5,cw [.pv (.obj "Size" []),.fr (.str z.n),.fr (nm z.l),.fr (nm z.m),.fr sh]=some (.rt (.fr .non),MU z sh x5):=by
 obtain⟨v,q⟩:=Oc h.ln (.inr rfl)
 suffices Wp cw [.pv (.obj "Size" []),.fr (.str z.n),.fr (nm z.l),.fr (nm z.m),.fr sh] λg Z=>g=.rt (.fr .non)/\∃x5,Z=MU z sh x5 by obtain⟨_,_,e,rfl,x5,rfl⟩:=this;exact⟨x5,e⟩
 refine Wp.df (Wp.st (QM ..) (Wp.st (QJ ..) (Wp.st (Qw ..) (Wp.st (U:=MU z sh .un) (Qs _ _ _ _ _ _ _ (Ii h.ln u _ _ _ _ _)) (Wp.st (Ep (zu h.lb h.mb b1 h.le) rfl) (Wp.sq (Wp.OP (z.f.map i4) (λZ=>∃x5,Z=MU z sh x5/\np x5=true) (dz (bE rfl (dE rfl (fw z))) rfl) ⟨_,rfl,rfl⟩ ?_ ?_)))))))
 .rintro a ha Z ⟨x5,rfl,w⟩;obtain⟨f,hf,rfl⟩:=RC.mp ha;exact⟨MU z sh (.fr (i4 f)),by cases x5<;>first|(cases w;done)|rfl,Wp.en (Ep (Fd (h.fs f hf) k b1) rfl) ⟨.inl rfl,_,rfl,rfl⟩⟩
 .rintro Z ⟨x5,rfl,w⟩;exact⟨rfl,Wp.en (Ep (mB h.ns h.nd (by have:=h.ln;unfold cM;rw[Q6,QY];lia)) (af (eA (j4 rfl (aj rfl (Qh q rfl _))) rfl) rfl)) ⟨rfl,x5,rfl⟩⟩
theorem MF{cn D:Str}{das as:List A}{fs:List (Str×A)}{Y:List Sl}(h:f (.pv (.obj cn [])::(as++das).map Sl.fr)=some (.rt (.fr .non),.pv (.obj D fs)::Y))(Z:List Sl):uV cn f das (as.map Rr.fr) Z=some (.ok (.nw (.obj D fs)),Z):=by unfold uV;rw[<-Rj,ke];simp only[qj,h];rw[jI _ _ _ _ (by rw[cB,QY])]
theorem zo{z:Sz}(h:qH b z)(k:60<=b)(b1:b<=4000)(Z:List Sl):uV "Size" cw [] [.fr (.str z.n),.fr (nm z.l),.fr (nm z.m),.fr (.tup (z.f.map i4))] Z=some (.ok (.nw (.obj "Size" (vp z))),Z):=by obtain⟨x5,hi⟩:=JC h k b1 (sh:=.tup (z.f.map i4)) (.inr (.inr rfl));exact MF (as:=[.str z.n,nm z.l,nm z.m,.tup (z.f.map i4)]) hi Z
theorem l5{z:Sz}(h:qH b z)(T:60<=b)(b1:b<=4000):iP bJ [cG z] (.obj "Size" (vp z)):=by have k:iP fB [cG z,nm z.l,nm z.m] (.obj "Size" (vp z)):=iP.of (Wp.df (Wp.en (aY (iY (af (bE rfl (dE rfl (j9 z))) (af rfl (af rfl (af (bE rfl (dE rfl (fw z))) rfl)))) (zo h T b1 _)) rfl) rfl));exact iP.of (Wp.df (Wp.en (aY (aj (af rfl (af (bE rfl (dE rfl (pY z))) (af (bE rfl (dE rfl (sA z))) rfl))) (dN k _)) rfl) rfl))
def Jk(zs:List Sz):List (Str×A):=[("kept",.lst (zs.map cG))]
def sQ(zs:List Sz):A:=.obj "Stock" (Jk zs)
structure fE(b:Nat)(zs:List Sz):Prop where
 sz:∀z∈zs,qH b z
 ln:(zs.flatMap cM).length<=60
theorem nA:∀zs:List Sz,zs.length<=(zs.flatMap cM).length
 |[]=>by simp
 |z::zs=>by
  have:=nA zs;have hl:(cM z).length=z.f.length+1:=by unfold cM;simp
  rw[UC,Rc,Q6,hl];lia
variable{zs:List Sz}
theorem fE.len(h:fE b zs):zs.length<=60:=Rm (nA zs) h.ln
theorem fE.ns{b:Nat}{zs:List Sz}(h:fE b zs):∀x∈zs.flatMap cM,zI x:=λx w=>by obtain⟨z,hz,w⟩:=List.mem_flatMap.mp w;exact(h.sz z hz).ns x w
theorem sN(zs:List Sz):aZ ["Stock"] "kept" (sQ zs)=some (.fr (.lst (zs.map cG))):=by unfold aZ sQ Jk;simp only;rw[if_pos (by decide +kernel)];rfl
theorem LP(h:fE b zs)(u:s0=.fr (sQ zs)\/s0=.pv (.obj "Stock" (Jk zs))):∃Z,bc [s0]=some (.rt (.lv (.lst ((zs.flatMap cM).map A.str))),s0::Z):=by
 have hk:∀Z,bY (eU (aZ ["Stock"] "kept") (aa 0)) (s0::Z)=some (.ok (zs.map cG),s0::Z):=λZ=>by rcases u with rfl|rfl<;>exact dz (bE rfl (dE rfl (sN zs))) rfl
 suffices Wp bc [s0] λg Z=>g=.rt (.lv (.lst ((zs.flatMap cM).map A.str)))/\∃U,Z=s0::U by obtain⟨_,_,e,rfl,_,rfl⟩:=this;exact⟨_,e⟩
 refine Wp.df (Wp.st (U:=[s0,.lv (.lst []),.un]) rfl (Wp.sq (Wp.fr (as:=zs.map cG) (λi Z=>∃x,Z=[s0,.lv (.lst (((zs.take i).flatMap cM).map A.str)),x]/\np x=true) (hk _) ⟨_,rfl,rfl⟩ ?_ ?_)))
 .rintro i a Z ha ⟨x,rfl,w⟩;rw[Rn] at ha;cases n:zs[i]? with
  |none=>rw[n] at ha;cases ha
  |some z=>
   rw[n] at ha;cases ha;have e:((zs.take (i+1)).flatMap cM).map A.str=((zs.take i).flatMap cM).map A.str++(cM z).map A.str:=by rw[Sy,n];simp
   have E:(((zs.take i).flatMap cM).map A.str).length+((cM z).map A.str).length<=100000:=by have q:=congrArg (λl=>(l.flatMap cM).length) (S8 (i+1) zs);have o:=congrArg Tc e;simp only[VM,Rc,QY] at q o ⊢;have:=h.ln;lia
   refine⟨[s0,.lv (.lst (((zs.take i).flatMap cM).map A.str)),.fr (cG z)],by cases x<;>first|(cases w;done)|rfl,Wp.en (f:=.nx) (U:=[s0,.lv (.lst (((zs.take (i+1)).flatMap cM).map A.str)),.fr (cG z)]) ?_ ⟨.inl rfl,_,rfl,rfl⟩⟩;rw[e];exact gw (r:=.fr .non) (Jt rfl (aj (af (p3 rfl rfl) rfl) (dN (xn (h.sz z (Rt n)).ln) _)) (if_pos E))
 .rintro Z ⟨x,rfl,_⟩;rw[QY,RH];exact⟨rfl,Wp.en (f:=.rt (.lv (.lst ((zs.flatMap cM).map A.str)))) rfl ⟨rfl,_,rfl⟩⟩
theorem A2(h:fE b zs):iP bc [sQ zs] (.lst ((zs.flatMap cM).map A.str)):=let ⟨_,e⟩:=LP h (.inl rfl);⟨_,e⟩
theorem O7(h:fE b zs)(nd:(zs.flatMap cM).Nodup)(v:60<=b)(b1:b<=4000){s:Sl}(u:s=.pv (.lst (zs.map cG))\/s=.fr (.tup (zs.map cG))):dj [.pv (.obj "Stock" []),s]=some (.rt (.fr .non),[.pv (.obj "Stock" (Jk zs)),s]):=by
 obtain⟨A,q⟩:=LP h (.inr rfl);have w:=h.len
 suffices Wp dj [.pv (.obj "Stock" []),s] λg Z=>g=.rt (.fr .non)/\Z=[.pv (.obj "Stock" (Jk zs)),s] by obtain⟨_,_,e,rfl,rfl⟩:=this;exact e
 have o:aQ (cJ 1 1 (aG 2) bp (aN bJ (bF (ah 2)))) (bH 1 (bY (aa 1)) (aG 2) bp (aN bJ (bF (ah 2)))) [.pv (.obj "Stock" []),s]=some (.ok (.nw (.lst (zs.map cG))),[.pv (.obj "Stock" []),s]):=by
  rcases u with rfl|rfl
  .obtain⟨O,e,x,rfl,_⟩:=oC (m:=1) (i:=1) (G:=aG 2) (t:=bp) (e:=aN bJ (bF (ah 2))) (xs:=zs.map cG) (Z:=[.pv (.obj "Stock" []),.pv (.lst (zs.map cG))]) (f:=id) (P:=λZ=>∃x,Z=[.pv (.obj "Stock" []),.pv (.lst (zs.map cG)),x]/\np x=true) (λZ ⟨x,e,_⟩=>by rw[e];rfl) (by rw[QY];lia) (by rintro a ha Z ⟨x,rfl,C⟩;obtain⟨z,hz,rfl⟩:=RC.mp ha;exact⟨[.pv (.obj "Stock" []),.pv (.lst (zs.map cG)),.fr (cG z)],by cases x<;>first|(cases C;done)|rfl,_,rfl,.nw (.obj "Size" (vp z)),_,aj rfl (dN (l5 (h.sz z hz) v b1) _),_,rfl,_,rfl,rfl⟩) ⟨.un,rfl,rfl⟩
   rw[VF] at e;exact cY e
  .have k:=cN (T:=Sz) (i:=2) (ts:=zs) (e:=aN bJ (bF (ah 2))) (S:=[.pv (.obj "Stock" []),.fr (.tup (zs.map cG))]) cG cG rfl (by lia) λz hz=>⟨.nw (.obj "Size" (vp z)),aj rfl (dN (l5 (h.sz z hz) v b1) _),rfl⟩
   exact j4 (by unfold cJ dy;rfl) (cA (dz rfl rfl) k)
 refine Wp.df (Wp.st (U:=[.pv (.obj "Stock" (Jk zs)),s]) ?_ (Wp.en (Ep (mB h.ns nd (by have:=h.ln;lia)) (af (eA (cY (aj rfl (Qh q rfl _))) rfl) rfl)) ⟨rfl,rfl⟩));exact sk o rfl
def Di(nm:Str)(zs:List Sz):List (Str×A):=[("name",.str nm),("own_stock",sQ zs)]
abbrev gX(nm:Str)(zs:List Sz)(fs:List A):LO:=.nob "Part" (Di nm zs) [("put_faces",fs)]
variable{S2:Sl}
theorem MY(h:fE b zs)(nd:(zs.flatMap cM).Nodup)(T:60<=b)(b1:b<=4000)(u:S2=.pv (.lst (zs.map cG))\/S2=.fr (.tup (zs.map cG)))(s0 s1 r:Sl):
  fM "Stock" dj [] (bF (aa 2)) [s0,s1,S2,r]=some (.ok (.nw (.obj "Stock" (Jk zs))),[s0,s1,S2,r]):=by
 have k:=O7 h nd T b1 u;rcases u with rfl|rfl
 .refine iY (rs:=[.rf 2]) rfl ?_;show (match dj [.pv (.obj "Stock" []),.pv (.lst (zs.map cG))] with
   |some (.rt (.fr .non),.pv o2::Y)=>match putL [s0,s1,.pv (.lst (zs.map cG)),r] [.rf 2] (au 1 Y) [s0,s1,.un,r] with
    |some O=>some ((R7 (Rr.nw o2):Except Str Rr),O)
    |none=>none
   |some (.ex x,s::Y)=>match putL [s0,s1,.pv (.lst (zs.map cG)),r] [.rf 2] (au 1 Y) [s0,s1,.un,r] with
    |some O=>some (.error x,O)
    |none=>none
   | _=>none)=_
  rw[k];rfl
 .refine iY (rs:=[.fr (.tup (zs.map cG))]) rfl ?_;exact MF (as:=[.tup (zs.map cG)]) (das:=[]) k _
theorem ux(nm:Str)(zs:List Sz)(fs:List A)(h:s0=.pv (gX nm zs fs)\/s0=.lv (gX nm zs fs))(Z:List Sl)(n:Mi Rr):aQ (cS ["Part"] 0 "own_stock") n (s0::Z)=some (.ok (.fr (sQ zs)),s0::Z):=by
 refine cY ?_;have e:((Di nm zs).lookup ("own_stock" : Str))=some (sQ zs):=rfl;have c:(["Part"]:List Str).contains "Part" = true:=by decide +kernel
 rcases h with rfl|rfl
 .show (if (["Part"]:List Str).contains "Part" then (match (Di nm zs).lookup ("own_stock" : Str) with|some a=>some ((R7 (Rr.fr a):Except Str Rr),_)|none=>none) else none)=_;rw[if_pos c,e]
 .show (if (["Part"]:List Str).contains "Part" then (match (Di nm zs).lookup ("own_stock" : Str) with|some a=>some ((R7 (Rr.fr a):Except Str Rr),_)|none=>none) else none)=_;rw[if_pos c,e]
theorem uO(h:fE b zs)(e:m Z=some (.ok (.fr (sQ zs)),U))(n:Mi Rr):aQ (aN bc (bF (bg "Stock" "names" m))) n Z=some (.ok (.nw (.lst ((zs.flatMap cM).map A.str))),U):=
 cY (aj (af (p3 e rfl) rfl) (dN (A2 h) _))
theorem zT{nm:Str}(hn:Wd nm)(h:fE b zs)(nd:(zs.flatMap cM).Nodup)(r:∀z∈zs.flatMap cM,Wd z)(k:60<=b)(b1:b<=4000)(u:S2=.pv (.lst (zs.map cG))\/S2=.fr (.tup (zs.map cG))):
  ∃Z,cE [.pv (.obj "Part" []),.fr (.str nm),S2]=some (.rt (.fr .non),.pv (gX nm zs [])::.fr (.str nm)::S2::Z):=by
 suffices Wp cE [.pv (.obj "Part" []),.fr (.str nm),S2] λg Z=>g=.rt (.fr .non)/\∃U,Z=.pv (gX nm zs [])::.fr (.str nm)::S2::U by obtain⟨_,_,e,rfl,_,rfl⟩:=this;exact⟨_,e⟩
 have v:=h.ln
 refine Wp.df (Wp.st (U:=[.pv (.obj "Part" []),.fr (.str nm),S2,.un]) (cZ (dk (b:=true) (aD (aj rfl (aR (kR hn) _)))) rfl) ?_)
 refine Wp.st (U:=[.pv (.obj "Part" [("name",.str nm)]),.fr (.str nm),S2,.un]) rfl ?_
 refine Wp.st (U:=[.pv (.obj "Part" (Di nm zs)),.fr (.str nm),S2,.un]) (sk (MY h nd k b1 u _ _ _) rfl) ?_
 refine Wp.st (U:=[.pv (gX nm zs []),.fr (.str nm),S2,.un]) rfl ?_
 refine Wp.OP ((zs.flatMap cM).map A.str) (λZ=>∃x,Z=[.pv (gX nm zs []),.fr (.str nm),S2,x]/\np x=true) (dz (uO h (ux nm zs [] (.inl rfl) _ _) _) rfl) ⟨_,rfl,rfl⟩ ?_ ?_
 .rintro a ha Z ⟨x,rfl,w⟩
  obtain⟨z,hz,rfl⟩:=RC.mp ha
  exact⟨[.pv (gX nm zs []),.fr (.str nm),S2,.fr (.str z)],by cases x<;>first|(cases w;done)|rfl,Wp.en (cZ (dk (b:=true) (aD (aj rfl (aR (kR (r z hz)) _)))) rfl) ⟨.inl rfl,_,rfl,rfl⟩⟩
 .rintro Z ⟨x,rfl,_⟩
  exact⟨rfl,_,rfl⟩
def hG(p:Str×Num):A:=.tup [.str p.1,nm p.2]
noncomputable def aT(ks:List Str)(g:Str->A):List (Key×A):=ks.map λn=>(RM n,g n)
theorem iG(ks:List Str)(g:Str->A)(n:Str):gi (aT ks g) (.inr n)=if n∈ks then some (g n) else none:=by
 unfold gi aT;induction ks with
 |nil=>simp
 |cons k ks l=>
  rw[Ri,RL];by_cases c:k=n
  .subst c;simp
  .have N:decide ((RM k:Key)=RM n)=false:=decide_eq_false λz=>c (TU z);have D:¬ n=k:=λz=>c z.symm;simp only[N];rw[l];simp[D]
theorem Dp(ks:List Str)(g:Str->A)(n:Str):((aT ks g).any λq=>decide (q.1=RM n))=decide (n∈ks):=by
 unfold aT;induction ks with
 |nil=>simp
 |cons k ks l=>
  rw[Ri,Ss,l];by_cases c:k=n
  .subst c;simp
  .have N:decide ((RM k:Key)=RM n)=false:=decide_eq_false λz=>c (TU z);have D:¬ n=k:=λz=>c z.symm;simp only[N,Ws,Ra,D,false_or]
theorem m9(ks:List Str)(g:Str->A)(n:Str)(a:A):hE (aT ks g) (.inr n) a=aT (if n∈ks then ks else ks++[n]) (λm=>if m=n then a else g m):=by
 unfold hE;rw[Dp];by_cases c:n∈ks
 .rw[if_pos (decide_eq_true c),if_pos c];unfold aT;rw[RV];refine Tg λm _=>?_;show (if (RM m:Key)=RM n then (RM m,a) else (RM m,g m))=(RM m,if m=n then a else g m);by_cases z:m=n
  .subst z;simp
  .rw[if_neg (λe=>z (TU e)),if_neg z]
 .rw[if_neg (by simpa using c),if_neg c];unfold aT;rw[Rj]
  congr 1
  .refine Tg λm hm=>?_;show (RM m,g m)=(RM m,if m=n then a else g m);rw[if_neg λe:m=n=>c (by rw[<-e];exact hm)]
  .simp
theorem lp(ks:List Str)(g:Str->A):strKeys (aT ks g)=some ks:=by
 unfold aT;induction ks with
 |nil=>rfl
 |cons k ks l=>rw[Ri,strKeys,l]
theorem kP(ks:List Str)(g:Str->A):(aT ks g).length=ks.length:=by unfold aT;rw[QY]
variable{ks:List Str}
theorem il{g g':Str->A}(h:∀n∈ks,g n=g' n):aT ks g=aT ks g':=Tg λn hn=>by rw[h n hn]
variable{ps:List Pr}
theorem lY{n:Str}(h:∀p∈ps,p.1≠n):cg ps n=(0,1):=by revert h;refine snoc_ind (M:=λps:List Pr=>(∀p∈ps,p.1≠n)->cg ps n=(0,1)) (λ_=>rfl) (λl a x h=>?_) ps;rw[eS,if_neg (h a (by simp)),x λp hp=>h p (QX _ hp)]
theorem take_snoc{l:List α}{i:Nat}{a:α}(h:l[i]?=some a):l.take (i+1)=l.take i++[a]:=by rw[Sy,h];rfl
theorem rg(ps:List Pr)(i:Nat)(n:Str):cnt (ps.take i) n<=cnt ps n:=Xo (SU _ _)
def nz(ps:List Pr)(n:Str):Bool:=!decide (cg ps n=(0,1))
def fW(ps:List Pr)(ss:List Str):List Pr:=(ss.filter (nz ps)).map λn=>(n,cg ps n)
theorem rising(h:ss.Pairwise (λa b=>sR a b=true))(nd:ss.Nodup):ss.Pairwise sU:=
 h.imp₂ (λa b h1 h2=>⟨by rw[nT,decide_eq_true_eq] at h1;exact h1,h2⟩) nd
theorem sJ(nd:ks.Nodup)(hk:∀n,n∈ks↔∃p∈ps,p.1=n):Canon ps (fW ps (bO ks)):=by
 have y:=rising (nc ks) ((cc ks).nodup_iff.mpr nd);refine⟨SA.mpr (y.sublist List.filter_sublist),λp=>?_⟩;unfold fW;rw[RC];constructor
 .rintro⟨n,hn,rfl⟩;have:=(SK.mp hn).2;exact⟨rfl,by simpa[nz] using this⟩
 .rintro⟨e,Z⟩;refine⟨p.1,SK.mpr ⟨(cc ks).mem_iff.mpr ((hk p.1).mpr ?_),by unfold nz;rw[<-e,decide_eq_false Z];rfl⟩,VC rfl e.symm⟩;by_cases c:∃q∈ps,q.1=p.1
  .exact c
  .exact absurd (e.trans (lY λq j z=>c ⟨q,j,z⟩)) Z
def aI(x:Num)(L:List Pr):A:=.tup [nm x,.tup (L.map hG)]
abbrev Lm(x:Num)(ps:List Pr)(K:List (Key×A))(x3 x4:Sl):List Sl:=[.fr (nm x),.fr (.tup (ps.map hG)),.lv (.dic K),x3,x4]
variable{x3:Sl}
theorem Qn{a b c:Sl}(p:Pr)(h3:np x3=true)(h4:np x4=true):G2 3 4 (hG p) [a,b,c,x3,x4]=some [a,b,c,.fr (.str p.1),.fr (nm p.2)]:=by cases x3<;>first|(cases h3;done)|(cases x4<;>first|(cases h4;done)|rfl)
theorem vA{s H:Mi Rr}{d k:Rr}{K:List (Key×A)}{x:Str}{v:Num}(h1:s Z=some (.ok d,Z))(h2:res Z d=some (.dic K))(h3:mk Z=some (.ok k,Z))(h4:res Z k=some (.str x))(h5:H Z=some (.ok (.fr (nm (0,1))),Z))(t:gi K (.inr x)=some (nm v)\/gi K (.inr x)=none/\v=(0,1)):rL s mk H Z=some (.ok (.fr (nm v)),Z):=by
 refine bk h1 ?_;rw[h2];refine bk h3 (bk h5 ?_);rw[h2,h4];dsimp only [gT];rcases t with e|⟨e,rfl⟩
 .rw[e]
 .rw[e];rfl
theorem yW(nb:∀p∈ps,NB b p.2)(cn:∀n,cnt ps n<=c)(Y:(b+1)*c+1<=4000)(G:b<=4000)(hl:ps.length<=60):
  ∃L,Val nu [nm x,.tup (ps.map hG)] (aI x L)/\Canon ps L/\L.length<=ps.length:=by
 suffices Wp nu ([nm x,.tup (ps.map hG)].map Sl.fr) λg _=>∃L,g=.rt (.fr (aI x L))/\Canon ps L/\L.length<=ps.length by obtain⟨_,_,e,L,rfl,h⟩:=this;exact⟨L,⟨_,e⟩,h⟩
 refine Wp.df (Wp.st rfl ?_)
 refine Wp.sq (Wp.fr (λi Z=>∃(ks:List Str)(x3 x4:Sl),Z=Lm x ps (aT ks λn=>nm (cg (ps.take i) n)) x3 x4/\ks.Nodup/\(∀n,n∈ks↔∃p∈ps.take i,p.1=n)/\ks.length<=i/\np x3=true/\np x4=true) rfl ⟨[],_,_,rfl,.nil,by simp,by simp,rfl,rfl⟩ ?_ ?_)
 .rintro i a Z ha ⟨ks,x3,x4,rfl,nd,hk,q,h3,h4⟩
  rw[Rn] at ha
  cases hp:ps[i]? with
  |none=>rw[hp] at ha;cases ha
  |some p=>
   rw[hp] at ha;cases ha;obtain⟨n,y⟩:=p;have X:=Rt hp;have H:=nb _ X;have C:NB ((b+1)*c+1) (cg (ps.take i) n):=(ui (λp hp=>nb p (Td hp)) n).mono (by have:=Ut (b+1) (Rm (rg ps i n) (cn n));lia);have o:i<ps.length:=(Q2.mp hp).1;have F:cg (ps.take (i+1)) n=c8 (cg (ps.take i) n) y:=by rw[take_snoc hp,eS,if_pos rfl]
   have j:∀m,m≠n->cg (ps.take (i+1)) m=cg (ps.take i) m:=λm hm=>by rw[take_snoc hp,eS,if_neg (λz=>hm z.symm)]
   have kp:=aR (vz C H (by lia));have v:gi (aT ks λn=>nm (cg (ps.take i) n)) (.inr n)=some (nm (cg (ps.take i) n))\/gi (aT ks λn=>nm (cg (ps.take i) n)) (.inr n)=none/\cg (ps.take i) n=(0,1):=by
    rw[iG];by_cases z:n∈ks
    .rw[if_pos z];exact .inl rfl
    .rw[if_neg z];exact .inr ⟨rfl,lY λp hp e=>z ((hk n).mpr ⟨p,hp,e⟩)⟩
   have V:hE (aT ks λn=>nm (cg (ps.take i) n)) (.inr n) (nm (c8 (cg (ps.take i) n) y))=aT (if n∈ks then ks else ks++[n]) λm=>nm (cg (ps.take (i+1)) m):=by
    rw[m9];refine il λm _=>?_;by_cases z:m=n
    .rw[if_pos z,z,F]
    .rw[if_neg z,j m z]
   refine⟨_,Qn (n,y) h3 h4,Wp.en (U:=Lm x ps (aT (if n∈ks then ks else ks++[n]) λm=>nm (cg (ps.take (i+1)) m)) (.fr (.str n)) (.fr (nm y))) ?_ ⟨.inl rfl,_,_,_,rfl,?_,?_,?_,rfl,rfl⟩⟩
   .refine(lS (aj (af (eA (vA rfl rfl rfl rfl rfl v) rfl) rfl) (kp _)) rfl rfl (Ft rfl rfl rfl rfl (by rw[kP];lia))).trans ?_;rw[V];rfl
   .split
    .exact nd
    .rename_i z;exact Q8.mpr ⟨nd,Ry.mpr ⟨by simp,.nil⟩,λa ha b G e=>by rw[Q5.mp G] at e;exact z (e▸ha)⟩
   .intro m;rw[take_snoc hp];by_cases z:n∈ks
    .rw[if_pos z,hk m];constructor
     .rintro⟨p,h1,h2⟩;exact⟨p,QX _ h1,h2⟩
     .rintro⟨p,h1,h2⟩;rcases QW.mp h1 with h|h
      .exact⟨p,h,h2⟩
      .rw[Q5.mp h] at h2;exact h2▸(hk n).mp z
    .rw[if_neg z,QW,hk m];constructor
     .rintro(⟨p,h1,h2⟩|h)
      .exact⟨p,QX _ h1,h2⟩
      .exact⟨(n,y),QV _ (Q5.mpr rfl),(Q5.mp h).symm⟩
     .rintro⟨p,h1,h2⟩;rcases QW.mp h1 with h|h
      .exact .inl ⟨p,h,h2⟩
      .rw[Q5.mp h] at h2;exact .inr (Q5.mpr h2.symm)
   .split
    .lia
    .rw[Rc];simp;lia
 .rintro O ⟨ks,x3,x4,rfl,nd,hk,q,h3,h4⟩
  rw[QY,RH] at hk ⊢
  rw[QY] at q
  have sl:(bO ks).length<=60:=by rw[(cc _).length_eq];lia
  have E:∀s∈bO ks,gi (aT ks λn=>nm (cg ps n)) (.inr s)=some (nm (cg ps s)):=λs u=>by rw[iG,if_pos ((cc ks).mem_iff.mp u)]
  have K:∀s∈bO ks,∀{d:Rr}{Z:List Sl},res Z d=some (.dic (aT ks λn=>nm (cg ps n)))->gO (bU i9 cj) d (.fr (.str s)) Z=some (.ok (.fr (nm (cg ps s))),Z):=λs u d Z h=>by
   unfold gO;rw[h];show (match bU i9 cj (.dic (aT ks λn=>nm (cg ps n))) (.str s) with|some r=>some ((.ok r:Except Str Rr),Z)|none=>none)=_;have:bU i9 cj (.dic (aT ks λn=>nm (cg ps n))) (.str s)=some (.fr (nm (cg ps s))):=by unfold bU i9 cj;dsimp only [gT];rw[E s u]
   rw[this]
  have k:=vm (S:=Lm x ps (aT ks λn=>nm (cg ps n)) x3 x4) (t:=ag (aC gQ (mix (aa 2) (aa 5)) (mC (.tup [.int 0,.int 1])))) (e:=bX (bC (aa 5) (mix (aa 2) (aa 5))))
   A.str (λs=>hG (s,cg ps s)) (nz ps) rfl (by lia:(bO ks).length<=100000) (λs u=>⟨aD (ao (ao rfl rfl (K s u rfl)) rfl (by show gO gQ (.fr (nm (cg ps s))) (.fr (nm (0,1))) _=_;simp only[gO,res,gQ,KO,nz])),λ_=>⟨.fr (hG (s,cg ps s)),cz (af rfl (af (ao rfl rfl (K s u rfl)) rfl)) rfl,rfl⟩⟩)
  have j:((bO ks).filter (nz ps)).map (λs=>hG (s,cg ps s))=(fW ps (bO ks)).map hG:=by unfold fW;rw[RV];rfl
  rw[j] at k
  have sq:bY (bT (n8 bM bV) (aa 2)) (Lm x ps (aT ks λn=>nm (cg ps n)) x3 x4)=some (.ok ((bO ks).map A.str),Lm x ps (aT ks λn=>nm (cg ps n)) x3 x4):=by
   have F:n8 bM bV (.dic (aT ks λn=>nm (cg ps n)))=some (.nw (.lst ((bO ks).map A.str))):=by unfold n8 bM bV;dsimp only;rw[lp];dsimp only;rw[if_pos (by lia)]
   exact dz (bE rfl (dE rfl F)) rfl
  refine⟨rfl,Wp.en (aY (cz (af rfl (af (bE (cA sq k) rfl) rfl)) rfl) rfl) ⟨fW ps (bO ks),rfl,sJ nd hk,?_⟩⟩
  unfold fW
  rw[QY]
  exact Rm (VB _ _) (by rw[(cc _).length_eq];lia)
structure Sm(b l:Nat)(ss:List Str)(x:Num)(L:List Pr):Prop where
 x:NB b x
 rise:L.Pairwise (λa b=>sU a.1 b.1)
 nb:∀p∈L,NB b p.2
 nz:∀p∈L,p.2≠(0,1)
 len:L.length<=l
 nms:∀p∈L,p.1∈ss
variable{L:List Pr}
theorem Sm.Pp{l:Nat}(h:Sm b l ss x L):∀p∈L,Ok p.2:=λp hp=>(h.nb p hp).ok
theorem nj(r:L.Pairwise (λa b=>sU a.1 b.1))(h:∀p∈L,Ok p.2)(z:∀p∈L,p.2≠(0,1)):Canon L L:=by
 obtain⟨k,T⟩:=kT r;refine⟨r,λp=>⟨λhp=>⟨?_,z p hp⟩,λ⟨e,n⟩=>?_⟩⟩
 .exact sd (h p hp) (jD h _) (by rw[jB h,k p hp])
 .by_cases c:∃q∈L,q.1=p.1
  .obtain⟨q,j,S⟩:=c;have:q.2=p.2:=by rw[e];exact sd (h q j) (jD h _) (by rw[jB h,<-S,k q j])
   rw[show p=q from VC S.symm this.symm];exact j
  .refine absurd ?_ n;rw[e];exact sd (jD h _) lT (by rw[jB h,jJ];exact T _ λq j z=>c ⟨q,j,z⟩)
theorem t6(o:∀p∈ps,Ok p.2)(h:Canon ps L)(n:Str):gW L n=gW ps n:=by
 obtain⟨k,T⟩:=kT h.rise;by_cases c:∃q∈L,q.1=n
 .obtain⟨q,j,rfl⟩:=c;rw[k q j,((h.mem q).mp j).1,jB o]
 .rw[T n λp hp e=>c ⟨p,hp,e⟩];by_cases z:cg ps n=(0,1)
  .rw[<-jB o,z,jJ]
  .exact absurd ⟨(n,cg ps n),(h.mem (n,cg ps n)).mpr ⟨rfl,z⟩,rfl⟩ c
theorem qM(L M:List Pr)(n:Str):cnt (L++M) n=cnt L n+cnt M n:=VP
theorem Nx(L M:List Pr)(hl:L.length+M.length<=100)(Z:List Sl):gO bD (.fr (.tup (L.map hG))) (.fr (.tup (M.map hG))) Z=some (.ok (.fr (.tup ((L++M).map hG))),Z):=by
 have e:sf (.tup (L.map hG)) (.tup (M.map hG))=some (.fr (.tup ((L++M).map hG))):=by unfold sf;dsimp only;rw[if_pos (by rw[QY,QY];lia),Rj]
 unfold gO bD bU;dsimp only [res];rw[show wo (.tup (L.map hG)) (.tup (M.map hG))=none from rfl,show vC (.tup (L.map hG)) (.tup (M.map hG))=none from rfl];dsimp only;rw[e]
structure Tt(k:Nat)(ss:List Str)(ps:List Pr)(x:Num)(L:List Pr):Prop where
 cn:Canon ps L
 nb:∀p∈ps,NB 64 p.2
 ct:∀n,cnt ps n<=k
 nx:NB (65*k+1) x
 nm:∀p∈ps,p.1∈ss
theorem Tt.Ol(h:Tt k ss ps x L)(p:Pr)(hp:p∈L):NB (65*k+1) p.2:=by rw[((h.cn.mem p).mp hp).1];exact(ui h.nb p.1).mono (by have:=Ut (64+1) (h.ct p.1);lia)
theorem Tt.Mq(h:Tt k ss ps x L)(p:Pr)(hp:p∈L):p.1∈ss:=by
 obtain⟨e,n⟩:=(h.cn.mem p).mp hp;by_cases z:∃q∈ps,q.1=p.1
 .obtain⟨q,j,S⟩:=z;rw[<-S];exact h.nm q j
 .exact absurd (e.trans (lY λq j S=>z ⟨q,j,S⟩)) n
theorem gr(r:L.Pairwise (λa b=>sU a.1 b.1))(h:∀p∈L,p.1∈ss):L.length<=ss.length:=by
 have nd:(L.map (·.1)).Nodup:=SA.mpr (r.imp λh e=>h.2 e);have:=qF nd (ys:=ss) λx w=>by obtain⟨p,hp,rfl⟩:=RC.mp w;exact h p hp
 rwa[QY] at this
variable{N:List Pr}
theorem Tt.next{M:List Pr}(h:Tt k ss ps x L)(g:Sm 64 12 ss y M)(c:Canon (L++M) N):Tt (k+1) ss (ps++M) (c8 x y) N:=by
 have i:∀p∈L,Ok p.2:=λp hp=>(h.Ol p hp).ok;have Z:∀p∈ps,Ok p.2:=λp hp=>(h.nb p hp).ok;have z:∀p∈L++M,Ok p.2:=λp hp=>(QW.mp hp).elim (i p) (g.Pp p);have a:∀p∈ps++M,Ok p.2:=λp hp=>(QW.mp hp).elim (Z p) (g.Pp p);have I:∀n,cg (L++M) n=cg (ps++M) n:=λn=>sd (jD z n) (jD a n) (by rw[jB z,jB a,ig,ig,t6 Z h.cn]);exact⟨⟨c.rise,λp=>by rw[c.mem,I]⟩,λp hp=>(QW.mp hp).elim (h.nb p) (g.nb p),λn=>by rw[qM];have:=h.ct n;have:=gk g.rise n;lia,
  (h.nx.Hc g.x).mono (by lia),λp hp=>(QW.mp hp).elim (h.nm p) (g.nms p)⟩
theorem D8{M:List Pr}(h:Tt k ss ps x L)(g:Sm 64 12 ss y M)(hk:k<=16)(m:ss.length<=12):∃N,Val jE [aI x L,aI y M] (aI (c8 x y) N)/\Tt (k+1) ss (ps++M) (c8 x y) N:=by
 have l1:=gr h.cn.rise h.Mq;have U:=gr g.rise g.nms;obtain⟨N,v,c,-⟩:=yW (x:=c8 x y) (ps:=L++M) (b:=1041) (c:=2) (λp hp=>(QW.mp hp).elim (λq=>(h.Ol p q).mono (by lia)) λq=>(g.nb p q).mono (by lia))
  (λn=>by rw[qM];have:=gk h.cn.rise n;have:=gk g.rise n;lia) (by lia) (by lia) (by rw[Rc];lia)
 refine⟨N,?_,h.next g c⟩;have o:=aR (vz h.nx g.x (by lia));have l:=aR v;have ea:=Nx L M (by lia);exact Val.of (Wp.df (Wp.en (aY (aj (af (aj (af (ao rfl rfl rfl) (af (ao rfl rfl rfl) rfl)) (o _)) (af (eA (ao (ao rfl rfl rfl) (ao rfl rfl rfl) (ea _)) rfl) rfl)) (l _)) rfl) rfl))
structure Fa where
 n:Str
 ax:Str
 x:Num
 L:List Pr
def cK(f:Fa):A:=.tup [.str f.n,.str f.ax,aI f.x f.L]
abbrev G3(i j k:Nat):Mg:=dw 3 (aL (aG i) (aL (aG j) (aL (aG k) dW)))
theorem zR(b:Bool){x:Str}{y:Rr}(h:res Z y=some (.lst (ss.map A.str))):gO (bU (nZ b) (eu b)) (.fr (.str x)) y Z=some (.ok (.fr (.bl (if b then !decide (x∈ss) else decide (x∈ss)))),Z):=by refine fu (o:=none) rfl h ?_;unfold nZ bU;rw[wg]
theorem qz(x y:Str)(Z:List Sl):gO gG (.fr (.str x)) (.fr (.str y)) Z=some (.ok (.fr (.bl (decide (x=y)))),Z):=by refine fu (o:=none) rfl rfl ?_;unfold gG pq;simp only[toD];rw[if_pos (by simp[D.depth])];simp[D.eq,T8]
def Pa(x:Num):A:=nm x
def BH(ax:Str):Prop:=ax = "x" \/ ax = "y"
theorem yy(nm:Str)(zs:List Sz)(fs:List A):az [.pv (gX nm zs fs)]=some (.rt (.fr (sQ zs)),[.pv (gX nm zs fs)]):=by obtain⟨_,_,e,rfl,rfl⟩:Wp az [.pv (gX nm zs fs)] λg Z=>g=.rt (.fr (sQ zs))/\Z=[.pv (gX nm zs fs)]:=Wp.df (Wp.en (aY (ux nm zs fs (.inl rfl) _ _) rfl) ⟨rfl,rfl⟩);exact e
abbrev KU(nm:Str)(zs:List Sz)(fs:List A)(ax:Str)(x:Num)(M:List Pr)(x3 x4 x5:Sl):List Sl:=[.pv (gX nm zs fs),.fr (.str ax),.fr (aI x M),x3,x4,x5]
variable{ax:Str}
theorem xh{nm:Str}{fs:List A}{M:List Pr}(h:fE b zs)(ha:BH ax)(hm:∀p∈M,p.1∈zs.flatMap cM)(hl:M.length<=1000):∃Z,bG [.pv (gX nm zs fs),.fr (.str ax),.fr (aI x M)]=some (.rt (.fr .non),.pv (gX nm zs fs)::.fr (.str ax)::.fr (aI x M)::Z):=by
 suffices Wp bG [.pv (gX nm zs fs),.fr (.str ax),.fr (aI x M)] λg Z=>g=.rt (.fr .non)/\∃U,Z=.pv (gX nm zs fs)::.fr (.str ax)::.fr (aI x M)::U by obtain⟨_,_,e,rfl,U,rfl⟩:=this;exact⟨_,e⟩
 have ta:fX true (.str ax) (.tup [.str "x",.str "y"])=some (.fr (.bl false)):=by rcases ha with rfl|rfl<;>rfl
 refine Wp.df (Wp.st (U:=KU nm zs fs ax x M .un .un .un) (cZ (aD (ao rfl rfl (fu (o:=none) rfl rfl (by unfold nZ bU;rw[ta])))) rfl) ?_)
 refine Wp.st (U:=KU nm zs fs ax x M (.lv (.lst ((zs.flatMap cM).map A.str))) .un .un) (bB (uO h (ux nm zs fs (.inl rfl) _ _) _) rfl rfl rfl rfl) ?_
 refine Wp.OP (M.map hG) (λZ=>∃x4 x5,Z=KU nm zs fs ax x M (.lv (.lst ((zs.flatMap cM).map A.str))) x4 x5/\np x4=true/\np x5=true) (dz (ao rfl rfl (bQ (.inr rfl) rfl)) rfl) ⟨_,_,rfl,rfl,rfl⟩ ?_ ?_
 .rintro a w Z ⟨x4,x5,rfl,h4,h5⟩
  obtain⟨p,hp,rfl⟩:=RC.mp w
  have tt:ag (aC (bU (nZ true) (eu true)) (aa 4) (aa 3)) (KU nm zs fs ax x M (.lv (.lst ((zs.flatMap cM).map A.str))) (.fr (.str p.1)) (.fr (W.Pa p.2)))=some (.ok false,KU nm zs fs ax x M (.lv (.lst ((zs.flatMap cM).map A.str))) (.fr (.str p.1)) (.fr (W.Pa p.2))):=by have k:=zR true (x:=p.1) (ss:=zs.flatMap cM) (y:=.rf 3) (Z:=KU nm zs fs ax x M (.lv (.lst ((zs.flatMap cM).map A.str))) (.fr (.str p.1)) (.fr (W.Pa p.2))) rfl;rw[decide_eq_true (hm p hp)] at k;exact aD (ao rfl rfl k)
  exact⟨_,by cases x4<;>first|(cases h4;done)|(cases x5<;>first|(cases h5;done)|rfl),Wp.en (cZ tt rfl) ⟨.inl rfl,_,_,rfl,rfl,rfl⟩⟩
 .rintro Z ⟨x4,x5,rfl,_⟩
  exact⟨rfl,_,rfl⟩
abbrev OQ:Ms:=fD (qp (ag (aC gG (aa 3) (aa 1))) (ag (aC gG (aa 4) (aa 2)))) (bh (aa 5)) bf
theorem tJ(nm:Str)(zs:List Sz)(as:List A):aZ ["Part"] "put_faces" (gX nm zs as).a=some (.fr (.lst as)):=by show (if (["Part"]:List Str).contains "Part" then (match (Di nm zs++[(("put_faces" : Str),A.lst as)]).lookup ("put_faces" : Str) with|some a=>some (Rr.fr a)|none=>none) else none)=_;rw[if_pos (by decide +kernel)];rfl
noncomputable def lJ(st ax:Str)(f:Fa):Bool:=decide (f.n=st)&&decide (f.ax=ax)
theorem wk{st ax:Str}{s0:Sl}:∀(fs:List Fa){f:Fa},fs.find? (lJ st ax)=some f->∀x3 x4 x5,np x3=true->np x4=true->np x5=true->∃Z,forL (G3 3 4 5) OQ (fs.map cK) [s0,.fr (.str st),.fr (.str ax),x3,x4,x5]=some (.rt (.fr (aI f.x f.L)),s0::.fr (.str st)::.fr (.str ax)::Z)
 |[],_,h,_,_,_,_,_,_=>nomatch h
 |g::fs,f,h,x3,x4,x5,h3,h4,h5=>by
  have H:G3 3 4 5 (cK g) [s0,.fr (.str st),.fr (.str ax),x3,x4,x5]=some [s0,.fr (.str st),.fr (.str ax),.fr (.str g.n),.fr (.str g.ax),.fr (aI g.x g.L)]:=by cases x3<;>first|(cases h3;done)|(cases x4<;>first|(cases h4;done)|(cases x5<;>first|(cases h5;done)|rfl))
  rw[RL] at h;have T:∀b,decide (g.n=st)=b->ag (aC gG (aa 3) (aa 1)) [s0,.fr (.str st),.fr (.str ax),.fr (.str g.n),.fr (.str g.ax),.fr (aI g.x g.L)]=some (.ok b,[s0,.fr (.str st),.fr (.str ax),.fr (.str g.n),.fr (.str g.ax),.fr (aI g.x g.L)]):=by rintro b rfl;exact aD (ao rfl rfl (qz _ _ _))
  have i:∀b,decide (g.ax=ax)=b->ag (aC gG (aa 4) (aa 2)) [s0,.fr (.str st),.fr (.str ax),.fr (.str g.n),.fr (.str g.ax),.fr (aI g.x g.L)]=some (.ok b,[s0,.fr (.str st),.fr (.str ax),.fr (.str g.n),.fr (.str g.ax),.fr (aI g.x g.L)]):=by rintro b rfl;exact aD (ao rfl rfl (qz _ _ _))
  have N:∀b,lJ st ax g=b->qp (ag (aC gG (aa 3) (aa 1))) (ag (aC gG (aa 4) (aa 2))) [s0,.fr (.str st),.fr (.str ax),.fr (.str g.n),.fr (.str g.ax),.fr (aI g.x g.L)]=some (.ok b,[s0,.fr (.str st),.fr (.str ax),.fr (.str g.n),.fr (.str g.ax),.fr (aI g.x g.L)]):=by
   rintro b rfl;unfold lJ;by_cases c:g.n=st
   .rw[decide_eq_true c,Wu];exact DM (T true (decide_eq_true c)) (i _ rfl)
   .rw[decide_eq_false c,Uc];exact Fp (T false (decide_eq_false c))
  rw[Ri,forL];rw[H];cases e:lJ st ax g with
  |true=>rw[e] at h;cases h;have:OQ [s0,.fr (.str st),.fr (.str ax),.fr (.str g.n),.fr (.str g.ax),.fr (aI g.x g.L)]=some (.rt (.fr (aI g.x g.L)),[s0,.fr (.str st),.fr (.str ax),.fr (.str g.n),.fr (.str g.ax),.fr (aI g.x g.L)]):=kL (N true e) rfl;dsimp only;rw[this];exact⟨_,rfl⟩
  |false=>rw[e] at h;have:OQ [s0,.fr (.str st),.fr (.str ax),.fr (.str g.n),.fr (.str g.ax),.fr (aI g.x g.L)]=some (.nx,[s0,.fr (.str st),.fr (.str ax),.fr (.str g.n),.fr (.str g.ax),.fr (aI g.x g.L)]):=cZ (N false e) rfl;dsimp only;rw[this];exact wk fs h _ _ _ rfl rfl rfl
theorem Bn{nm:Str}{fs:List Fa}{st:Str}{f:Fa}(h:fs.find? (lJ st ax)=some f):∃Z,aP [.fr (gX nm zs (fs.map cK)).a,.fr (.str st),.fr (.str ax)]=some (.rt (.fr (aI f.x f.L)),.fr (gX nm zs (fs.map cK)).a::.fr (.str st)::.fr (.str ax)::Z):=by
 obtain⟨Z,e⟩:=wk (s0:=.fr (gX nm zs (fs.map cK)).a) fs h .un .un .un rfl rfl rfl;refine⟨Z,?_⟩;obtain⟨_,_,j,rfl,rfl⟩:Wp aP [.fr (gX nm zs (fs.map cK)).a,.fr (.str st),.fr (.str ax)] λg Z'=>g=.rt (.fr (aI f.x f.L))/\Z'=.fr (gX nm zs (fs.map cK)).a::.fr (.str st)::.fr (.str ax)::Z:=by refine Wp.df (Wp.sr (s:=.fr (aI f.x f.L)) ?_ ⟨rfl,rfl⟩);rw[F8,dz (bE rfl (dE rfl (tJ nm zs (fs.map cK)))) rfl];exact e
 exact j
theorem BZ:∀L:List Pr,oq (L.map hG)=true
 |[]=>by simp[oq]
 |p::L=>by rw[Ri,oq,BZ L];simp[hG,nm,pl,oq]
theorem tV(x:Num)(L:List Pr):pl (aI x L)=true:=by unfold aI;rw[pl,oq,oq,oq,pl,BZ L];simp[nm,pl,oq]
theorem Ce:∀fs:List Fa,oq (fs.map cK)=true
 |[]=>by simp[oq]
 |f::fs=>by rw[Ri,oq,Ce fs];unfold cK;rw[pl,oq,oq,oq,oq,tV];simp[pl]
theorem Bl{nm:Str}{fs:List Fa}{st:Str}{f:Fa}(h:fs.find? (lJ st ax)=some f)(Z:List Sl):eE (cy 0 aP) [] [.rf 0,.fr (.str st),.fr (.str ax)] (.pv (gX nm zs (fs.map cK))::Z)=some (.ok (.fr (aI f.x f.L)),.pv (gX nm zs (fs.map cK))::Z):=by
 obtain⟨U,e⟩:=Bn (nm:=nm) (zs:=zs) h;have hl:cy 0 aP [.pv (gX nm zs (fs.map cK)),.fr (.str st),.fr (.str ax)]=some (.rt (.fr (aI f.x f.L)),[.pv (gX nm zs (fs.map cK)),.un,.un]):=by
  show (match aP [.fr (gX nm zs (fs.map cK)).a,.fr (.str st),.fr (.str ax)] with
   |some (.rt s,T)=>if kG (au 3 T)[0]?&&(s::au 3 T).all uZ then some (Fl.rt s,(au 3 T).set 0 (.pv (gX nm zs (fs.map cK)))) else none
   |some (.ex x,T)=>if kG (au 3 T)[0]?&&(au 3 T).all uZ then some (.ex x,(au 3 T).set 0 (.pv (gX nm zs (fs.map cK)))) else none
   | _=>none)=_
  rw[e];show (if (true&&(pl (aI f.x f.L)&&true))=true then _ else _)=_;rw[tV];rfl
 show (match cy 0 aP [.pv (gX nm zs (fs.map cK)),.fr (.str st),.fr (.str ax)] with
  |some (.rt s,T)=>match mR s,putL (.pv (gX nm zs (fs.map cK))::Z) [.rf 0,.fr (.str st),.fr (.str ax)] (au 3 T) (.un::Z) with
   |some r,some O=>some ((R7 r:Except Str Rr),O)
   |_,_=>none
  |some (.ex x,T)=>match putL (.pv (gX nm zs (fs.map cK))::Z) [.rf 0,.fr (.str st),.fr (.str ax)] (au 3 T) (.un::Z) with
   |some O=>some (.error x,O)
   |none=>none
  | _=>none)=_
 rw[hl];rfl
abbrev dY(nm:Str)(zs:List Sz)(fs:List Fa):LO:=gX nm zs (fs.map cK)
theorem AR(nm:Str)(zs:List Sz)(fs:List Fa)(hl:fs.length<=1000):aK [.fr (dY nm zs fs).a]=some (.rt (.lv (.lst (fs.map cK))),[.fr (dY nm zs fs).a]):=by obtain⟨_,_,e,rfl,rfl⟩:Wp aK [.fr (dY nm zs fs).a] λg Z=>g=.rt (.lv (.lst (fs.map cK)))/\Z=[.fr (dY nm zs fs).a]:=Wp.df (Wp.en (aY (r:=.nw (.lst (fs.map cK))) (bE (bE rfl (dE rfl (tJ nm zs (fs.map cK)))) rfl) rfl) ⟨rfl,rfl⟩);exact e
abbrev vK(nm:Str)(zs:List Sz)(fs:List Fa)(n ax:Str)(st s:A)(x5:Sl):List Sl:=[.pv (dY nm zs fs),.fr (.str n),.fr (.str ax),.fr st,.fr s,x5]
variable{x5:Sl}
theorem Mx{n:Str}(hn:Wd n)(hf:n ≠ "frame"){nm:Str}{fs:List Fa}{st s:A}:oI (fG (ag (aN f9 (bF (ah 1))))) (ag (aC gG (aa 1) (mC (.str "frame")))) (vK nm zs fs n ax st s x5)=some (.ok false,vK nm zs fs n ax st s x5):=by refine fQ (dk (b:=true) (aD (aj rfl (aR (kR hn) _)))) ?_;have k:=qz n "frame" (vK nm zs fs n ax st s x5);rw[decide_eq_false hf] at k;exact aD (ao rfl rfl k)
theorem LN{n:Str}{fs:List Fa}(hf:n∉fs.map Fa.n)(hl:fs.length<=1000){nm:Str}{st:A}{M:List Pr}(u:pl st=true):nF 0 (ag (aC (bU (nZ false) (eu false)) (aa 1) (bH 1 (bY (aQ (cS ["Part"] 0 "put_faces") (eU (aZ ["Part"] "put_faces") (aa 0)))) (aG 6) bp (mix (aa 6) (aB 0))))) (vK nm zs fs n ax st (aI x M) .un)=some (.ok false,vK nm zs fs n ax st (aI x M) .un):=by
 have e:ag (aC (bU (nZ false) (eu false)) (aa 1) (bH 1 (bY (aQ (cS ["Part"] 0 "put_faces") (eU (aZ ["Part"] "put_faces") (aa 0)))) (aG 6) bp (mix (aa 6) (aB 0)))) [.fr (dY nm zs fs).a,.fr (.str n),.fr (.str ax),.fr st,.fr (aI x M),.un]=some (.ok false,[.fr (dY nm zs fs).a,.fr (.str n),.fr (.str ax),.fr st,.fr (aI x M),.un]):=by have k:=zR false (x:=n) (ss:=fs.map Fa.n) (y:=.nw (.lst (fs.map λf=>A.str f.n))) (Z:=[.fr (dY nm zs fs).a,.fr (.str n),.fr (.str ax),.fr st,.fr (aI x M),.un]) (by rw[RV];rfl);rw[decide_eq_false hf] at k;refine aD (ao rfl (cA (dz (j4 rfl (bE rfl (dE rfl (tJ nm zs (fs.map cK))))) rfl) (cN (T:=Fa) (i:=6) (ts:=fs) (S:=[.fr (dY nm zs fs).a,.fr (.str n),.fr (.str ax),.fr st,.fr (aI x M),.un]) cK (λf=>.str f.n) rfl (by lia) λf _=>⟨.fr (.str f.n),rfl,rfl⟩)) k)
 show (match ag _ [.fr (dY nm zs fs).a,.fr (.str n),.fr (.str ax),.fr st,.fr (aI x M),.un] with
  |some (.ok b,U)=>if rN U[0]?&&(U.set 0 .un).all uZ then some ((R7 b:Except Str Bool),U.set 0 (.pv (dY nm zs fs))) else none
  | _=>none)=_
 rw[e];show (if (true&&(true&&(true&&(true&&(pl st&&(pl (aI x M)&&true))))))=true then _ else _)=_;rw[u,tV];rfl
theorem NZ{nm:Str}{fs:List Fa}{n:Str}{st:A}{M:List Pr}(h:fE b zs)(ha:BH ax)(hm:∀p∈M,p.1∈zs.flatMap cM)(hl:M.length<=1000)(P:Mi Rr):bK (aQ (aN bG (lI (aM "Part" "refuse_move" 0) (ah 2) (ah 4))) P) (vK nm zs fs n ax st (aI x M) x5)=some (.nx,vK nm zs fs n ax st (aI x M) x5):=by obtain⟨Z,k⟩:=xh (nm:=nm) (fs:=fs.map cK) (x:=x) h ha hm hl;exact gw (r:=.fr .non) (cY (aj (rs:=[.rf 0,.fr (.str ax),.fr (aI x M)]) rfl (Cs (as:=[.str ax,aI x M]) ⟨_,k⟩ rfl _)))
theorem Iv{nm:Str}{fs:List Fa}{n:Str}{st s:A}(hl:fs.length<=1000):bK (sy ["Part"] 0 "put_faces" [1,2,5]) (vK nm zs fs n ax st s (.fr (aI y N)))=some (.nx,vK nm zs (fs++[⟨n,ax,y,N⟩]) n ax st s (.fr (aI y N))):=by
 refine gw (r:=.fr .non) ?_;show _=some (_,[Sl.pv (gX nm zs ((fs++[Fa.mk n ax y N]).map cK)),_,_,_,_,_]);rw[Rj];show (if ((["Part"]:List Str).contains "Part" && ((Di nm zs).lookup ("put_faces" : Str)).isNone&&Ti 3 900)=true then (if (fs.map cK).length<=100000 then some ((R7 (Rr.fr .non):Except Str Rr),([.pv (gX nm zs (fs.map cK++[.tup [.str n,.str ax,aI y N]])),.fr (.str n),.fr (.str ax),.fr st,.fr s,.fr (aI y N)]:List Sl)) else none) else none)=_;rw[if_pos (by have e:((Di nm zs).lookup ("put_faces" : Str)).isNone=true:=rfl;rw[e];decide +kernel),if_pos (by rw[QY];lia)]
 rfl
inductive GW(fs:List Fa)(ax:Str)(x:Num)(M:List Pr):A->Num->List Pr->Prop
 |here:GW fs ax x M .non x M
 |by' {st:Str} {f:Fa} {y:Num} {N:List Pr} (h:fs.find? (lJ st ax)=some f) (k:Val jE [aI f.x f.L,aI x M] (aI y N)):GW fs ax x M (.str st) y N
theorem GW.pl{fs:List Fa}{ax:Str}{x y:Num}{M N:List Pr}{st:A}(h:GW fs ax x M st y N):pl st=true:=by cases h<;>simp[_root_.M.pl]
theorem Kt{nm:Str}{fs:List Fa}{n:Str}{st:A}{M:List Pr}(hn:Wd n)(hf:n ≠ "frame")(z:n∉fs.map Fa.n)(hl:fs.length<=1000)(h:fE b zs)(ha:BH ax)(hm:∀p∈M,p.1∈zs.flatMap cM)(c:M.length<=1000)(hp:GW fs ax x M st y N):
  eR aW (dY nm zs fs) [.str n,.str ax,st,aI x M] (.fr .non) (dY nm zs (fs++[⟨n,ax,y,N⟩])):=by
 suffices Wp aW [.pv (dY nm zs fs),.fr (.str n),.fr (.str ax),.fr st,.fr (aI x M)] λg Z=>g=.rt (.fr .non)/\Z=vK nm zs (fs++[⟨n,ax,y,N⟩]) n ax st (aI x M) (.fr (aI y N)) by obtain⟨_,_,e,rfl,rfl⟩:=this;exact⟨_,e⟩
 refine Wp.df (Wp.st (U:=vK nm zs fs n ax st (aI x M) .un) (cZ (Mx hn hf) rfl) (Wp.st (cZ (LN z hl hp.pl) rfl) (Wp.st (NZ h ha hm c _) (Wp.st (U:=vK nm zs fs n ax st (aI x M) (.fr (aI y N))) ?_ (Wp.en (f:=.nx) (Iv hl) ⟨rfl,rfl⟩)))))
 cases hp with
 |here=>exact bB (i:=5) (a:=.fr (aI x _)) (s:=.un) (U:=vK nm zs fs n ax .non (aI x _) .un) (Jq (U:=vK nm zs fs n ax .non (aI x _) .un) rfl rfl) rfl rfl rfl rfl
 |by' h k=>exact bB (sX rfl (aj (af (eA (j4 rfl (cY (aj (rs:=[.rf 0,.fr (.str _),.fr (.str ax)]) rfl (Bl h _)))) rfl) rfl) (aR k _))) rfl rfl rfl rfl
theorem OR(h:Ok (i,j))(hi:i.natAbs<2^64)(I:j.natAbs<2^64):NB 64 (i,j):=⟨h,hi,I⟩
abbrev L6:List A:=[nm (0,1),nm (0,1),nm (1,1),nm (-1,1),nm (2,1),nm (0,1)]
theorem QH:∀r:Nat,r<6->∃q:Num,iI L6 (r:Int)=some (nm q)/\NB 64 q:=by
 intro r y;have z:NB 64 (0,1):=Ml.mono (by decide)
 match r,y with
 |0,_=>exact⟨(0,1),rfl,z⟩
 |1,_=>exact⟨(0,1),rfl,z⟩
 |2,_=>exact⟨(1,1),rfl,OR ⟨by decide,by decide⟩ (by decide) (by decide)⟩
 |3,_=>exact⟨(-1,1),rfl,OR ⟨by decide,by decide⟩ (by decide) (by decide)⟩
 |4,_=>exact⟨(2,1),rfl,OR ⟨by decide,by decide⟩ (by decide) (by decide)⟩
 |5,_=>exact⟨(0,1),rfl,z⟩
abbrev BC(o:LO)(ns:List Str)(F:List Pr)(x3 x4 x5:Sl):List Sl:=[.pv o,.fr (.lst (ns.map A.str)),.lv (.lst (F.map hG)),x3,x4,x5]
theorem Kj{n:Int}{ns:List Str}(w:Wl n o)(hn:n<2^36)(nd:ns.Nodup)(hl:ns.length<=12):X3 λx F o'=>N3 (eR gx o [.lst (ns.map A.str)] (.fr (aI x F)) o') (Sm 64 12 ns x F) (Wl (n+60) o'):=by
 suffices ∃s o',eR gx o [.lst (ns.map A.str)] s o'/\X2 λx F=>N3 (s=.fr (aI x F)) (Sm 64 12 ns x F) (Wl (n+60) o') by obtain⟨s,o',v,x,F,rfl,h1,h2⟩:=this;exact⟨x,F,o',v,h1,h2⟩
 have sl:(bO ns).length=ns.length:=(cc ns).length_eq
 have sq:bY (bT (n8 bM bV) (aa 1)) (BC o ns [] .un .un .un)=some (.ok ((bO ns).map A.str),BC o ns [] .un .un .un):=by
  have J:n8 bM bV (.lst (ns.map A.str))=some (.nw (.lst ((bO ns).map A.str))):=by unfold n8 bM;dsimp only;rw[rK];dsimp only;rw[if_pos (by lia)]
  exact dz (bE rfl (dE rfl J)) rfl
 refine eR.of (Wp.df (Wp.st rfl ?_))
 refine Wp.sq (Wp.fr (λi Z=>X5 λo' F x3 x4 x5=>N6 (Z=BC o' ns F x3 x4 x5) (Wl (n+4*i) o') ((F.map (·.1)).Sublist ((bO ns).take i)) (∀p∈F,NB 64 p.2/\p.2.1≠0) (np x3=true) (np x4=true/\np x5=true)) sq ⟨o,[],.un,.un,.un,rfl,w.mono (by lia),.slnil,(λp hp=>by cases hp),rfl,rfl,rfl⟩ ?_ ?_)
 .rintro i a Z ha ⟨o',F,x3,x4,x5,rfl,R,u,hp,h3,h4,h5⟩
  rw[Rn] at ha
  cases L:(bO ns)[i]? with
  |none=>rw[L] at ha;cases ha
  |some s=>
   rw[L] at ha;cases ha;have hi:=(Q2.mp L).1;have J:(bO ns).take (i+1)=(bO ns).take i++[s]:=by rw[Sy,L];rfl
   have fl:F.length<=12:=by have:=u.length_le;rw[QY,RX] at this;lia
   obtain⟨r,Y,N,T,b1,m⟩:=tk 6 R (by lia) (by decide) (by decide);obtain⟨r,rfl⟩:∃k:Nat,r=k:=⟨r.toNat,by lia⟩
   obtain⟨q,eq,d⟩:=QH r (by lia);refine⟨BC o' ns F (.fr (.str s)) x4 x5,by cases x3<;>first|(cases h3;done)|rfl,?_⟩;refine Wp.st (bB (aj rfl (N _)) rfl rfl h4 rfl) ?_;refine Wp.st (bB (ao rfl rfl (bQ (.inl rfl) eq)) rfl rfl h5 rfl) ?_;have fin:∀o2 q,NB 64 q->Wl (n+4*(i+1:Nat)) o2->Wp (fD (ag (aC gQ (mix (aa 5) (aB 0)) (aB 0))) (bK (eJ 2 (cf 2 (bX (bC (aa 3) (aa 5)))))) bf) (BC o2 ns F (.fr (.str s)) (.fr (.int r)) (.fr (nm q))) λf Z'=>(f=.nx\/f=.ct)/\X5 λo' F x3 x4 x5=>N6 (Z'=BC o' ns F x3 x4 x5) (Wl (n+4*(i+1:Nat)) o') ((F.map (·.1)).Sublist ((bO ns).take (i+1))) (∀p∈F,NB 64 p.2/\p.2.1≠0) (np x3=true) (np x4=true/\np x5=true):=by
    intro o2 q d Q;have t:ag (aC gQ (mix (aa 5) (aB 0)) (aB 0)) (BC o2 ns F (.fr (.str s)) (.fr (.int r)) (.fr (nm q)))=some (.ok (!decide (q.1=0)),BC o2 ns F (.fr (.str s)) (.fr (.int r)) (.fr (nm q))):=aD (ao (ao rfl rfl (bQ (.inr rfl) rfl)) rfl (by simp only[gO,res,gQ,qw]));by_cases h0:q.1=0
    .rw[decide_eq_true h0] at t;exact Wp.en (cZ t rfl) ⟨.inl rfl,_,F,_,_,_,rfl,Q,by rw[J];exact u.trans (List.sublist_append_left _ _),hp,rfl,rfl,rfl⟩
    .rw[decide_eq_false h0] at t;refine Wp.en (kL t (jr rfl rfl rfl rfl (by rw[QY];lia) rfl)) ⟨.inl rfl,_,F++[(s,q)],_,_,_,by unfold BC;rw[Rj];rfl,Q,?_,λp D=>?_,rfl,rfl,rfl⟩
     .rw[J,Rj];exact u.append (Sn _)
     .rcases QW.mp D with z|z
      .exact hp p z
      .rw[Q5.mp z];exact⟨d,h0⟩
   have X:∀b,decide ((r:Int)=5)=b->ag (aC gG (aa 4) (aB 5)) (BC Y ns F (.fr (.str s)) (.fr (.int r)) (.fr (nm q)))=some (.ok b,BC Y ns F (.fr (.str s)) (.fr (.int r)) (.fr (nm q))):=by rintro b rfl;exact aD (ao rfl rfl (ur _ _ _))
   by_cases K:(r:Int)=5
   .obtain⟨U,o2,c,E,Q⟩:=iD m (by lia);exact Wp.st (kL (X true (decide_eq_true K)) (bB (aj rfl (Cs c rfl _)) rfl rfl rfl rfl)) (fin o2 U E (Q.mono (by lia)))
   .exact Wp.st (cZ (X false (decide_eq_false K)) rfl) (fin Y q d (m.mono (by lia)))
 .rintro O ⟨o',F,x3,x4,x5,rfl,R,u,hp,h3,h4,h5⟩
  rw[QY] at R u
  rw[RH] at u
  obtain⟨x,o2,c,E,Q⟩:=iD R (by lia)
  have fi:∀p∈F,p.1∈ns:=λp hp=>(cc ns).mem_iff.mp (u.subset (Sj hp))
  have r:F.Pairwise (λa b=>sU a.1 b.1):=SA.mp ((rising (nc ns) (((cc ns).nodup_iff).mpr nd)).sublist u)
  refine⟨rfl,Wp.en (aY (cz (af (aj rfl (Cs c rfl _)) (af (bE rfl rfl) rfl)) rfl) rfl) ⟨_,o2,_,rfl,rfl,x,F,rfl,⟨E,r,λp h=>(hp p h).1,λp h e=>(hp p h).2 (by rw[e]),Rm (gr r fi) hl,fi⟩,Q.mono (by lia)⟩⟩
theorem B6{n:Int}(w:Wl n o)(hn:n<2^37)(u:ss.length<=20):X2 λ(z:Str)(o':LO)=>N4 (∀x1 Z,eE (eV 1 aX) [] [.rf 0,.rf 2] (.pv o::x1::.lv (.lst (ss.map A.str))::Z)=some (.ok (.fr (.str z)),.pv o'::x1::.lv (.lst (ss.map A.str))::Z)) (Wd z) (z∉ss) (Wl (n+11) o'):=by
 obtain⟨z,o',⟨U,e⟩,hz,q,R⟩:=ue w hn u;refine⟨z,o',λx1 Z=>?_,hz,q,R⟩;have lo:KW o'=true:=by obtain⟨f,c,t,rfl,-⟩:=R;simp[KW,K4,lf]
 have hl:eV 1 aX [.pv o,.pv (.lst (ss.map A.str))]=some (.rt (.fr (.str z)),[.pv o',.pv (.lst (ss.map A.str))]):=by
  show (match aX [.pv o,.fr (.lst (ss.map A.str))] with
   |some (.rt s,T)=>if kG (au 2 T)[1]?&&(s::au 2 T).all GF then some (Fl.rt s,(au 2 T).set 1 (.pv (.lst (ss.map A.str)))) else none
   |some (.ex x,T)=>if kG (au 2 T)[1]?&&(au 2 T).all GF then some (.ex x,(au 2 T).set 1 (.pv (.lst (ss.map A.str)))) else none
   | _=>none)=_
  rw[e];show (if (true&&(lf (.str z)&&(KW o'&&true)))=true then _ else _)=_;rw[lo];rfl
 show (match eV 1 aX [.pv o,.pv (.lst (ss.map A.str))] with
  |some (.rt s,T)=>match mR s,putL (.pv o::x1::.lv (.lst (ss.map A.str))::Z) [.rf 0,.rf 2] (au 2 T) (.un::x1::.un::Z) with
   |some r,some O=>some ((R7 r:Except Str Rr),O)
   |_,_=>none
  |some (.ex x,T)=>match putL (.pv o::x1::.lv (.lst (ss.map A.str))::Z) [.rf 0,.rf 2] (au 2 T) (.un::x1::.un::Z) with
   |some O=>some (.error x,O)
   |none=>none
  | _=>none)=_
 rw[hl];rfl
theorem Ap(h:0<=x.1):B0 x (0,1)=false:=by unfold B0;apply decide_eq_false;show ¬ (x.1*1<0*x.2);lia
theorem EO(w:Ok x)(T:Ok y)(h:0<=y.1):B0 (c8 x y) x=false:=by
 cases e:B0 (c8 x y) x with
 |false=>rfl
 |true=>exfalso;have h1:=(vT (Aw w T) w).mp e;have h2:=Ap h;rw[Cf w T] at h1;have h3:B0 y (0,1)=true:=(vT T lT).mpr (by rw[jJ];grind);rw[h2] at h3;cases h3
noncomputable def qh(x:Num):Num:=(if x.1<0 then -x.1 else x.1,x.2)
theorem yr(x:Num):0<=(qh x).1:=by show 0<=(if x.1<0 then -x.1 else x.1);split<;>lia
theorem NB.qh{b:Nat}{x:Num}(h:NB b x):NB b (qh x):=by
 unfold W.qh;split
 .exact h.neg
 .exact h
theorem QN:∀r:Nat,r<3->∃w:Str,iI [A.str "fixed",.str "big",.str "small"] (r:Int)=some (.str w)/\zv w:=by
 intro r y
 match r,y with
 |0,_=>exact⟨"fixed",rfl,.inl rfl⟩
 |1,_=>exact⟨"big",rfl,.inr (.inl rfl)⟩
 |2,_=>exact⟨"small",rfl,.inr (.inr rfl)⟩
theorem Qv:∀r:Nat,r<8->∃t:Nat,iI [A.int 0,.int 1,.int 2,.int 3,.int 4,.int 2,.int 3,.int 7] (r:Int)=some (.int (t:Int))/\t<=7:=by
 intro r y
 match r,y with
 |0,_=>exact⟨0,rfl,by decide⟩
 |1,_=>exact⟨1,rfl,by decide⟩
 |2,_=>exact⟨2,rfl,by decide⟩
 |3,_=>exact⟨3,rfl,by decide⟩
 |4,_=>exact⟨4,rfl,by decide⟩
 |5,_=>exact⟨2,rfl,by decide⟩
 |6,_=>exact⟨3,rfl,by decide⟩
 |7,_=>exact⟨7,rfl,by decide⟩
theorem QO:∀r:Nat,r<8->∃t:Nat,iI [A.int 0,.int 0,.int 1,.int 2,.int 0,.int 1,.int 0,.int 6] (r:Int)=some (.int (t:Int))/\t<=6:=by
 intro r y
 match r,y with
 |0,_=>exact⟨0,rfl,by decide⟩
 |1,_=>exact⟨0,rfl,by decide⟩
 |2,_=>exact⟨1,rfl,by decide⟩
 |3,_=>exact⟨2,rfl,by decide⟩
 |4,_=>exact⟨0,rfl,by decide⟩
 |5,_=>exact⟨1,rfl,by decide⟩
 |6,_=>exact⟨0,rfl,by decide⟩
 |7,_=>exact⟨6,rfl,by decide⟩
structure Zn(ss:List Str):Prop where
 nd:ss.Nodup
 wd:∀z∈ss,Wd z
 ln:ss.length<=12
theorem Zn.next(h:Zn ss)(hz:Wd z)(hn:z∉ss)(hl:ss.length<12):Zn (ss++[z]):=by
 refine⟨Q8.mpr ⟨h.nd,by simp,λa ha b d e=>?_⟩,λx w=>?_,by simp;lia⟩
 .rw[Q5.mp d] at e;exact hn (e▸ha)
 .rcases QW.mp w with k|k
  .exact h.wd x k
  .rw[Q5.mp k];exact hz
abbrev zS(o:LO)(ss:List Str)(zs:List Sz)(x4 x5 x6 x7 x x9 a h:Sl):List Sl:=[.pv o,.fr (.int 12),.lv (.lst (ss.map A.str)),.lv (.lst (zs.map jG)),x4,x5,x6,x7,x,x9,a,h]
abbrev P6:Ms:=fD (ag (aC tQ (bT d6 (aa 2)) (aa 1))) (av (bK (eJ 2 (cf 2 (bq (eV 1 aX) [] (bC (aa 0) (aa 2)))))) (av (aO 10 (aN bz (bF (aa 0)))) (av (aO 11 (mix (cO (lI (mC (.str "fixed")) (mC (.str "big")) (mC (.str "small")))) (aN ai (bC (aa 0) (aB 3))))) (bK (eJ 8 (cf 8 (bX (lI (mix (aa 2) (eU om (aB 1))) (bX (bC (bT qu (mix (aa 10) (aB 0))) (mix (aa 10) (aB 1)))) (aa 11))))))))) bf
variable{x6 x7 x8 x9 x10 x11:Sl}
theorem FC(b:Bool)(h:decide (ss.length<12)=b):ag (aC tQ (bT d6 (aa 2)) (aa 1)) (zS o ss zs x4 x5 x6 x7 x8 x9 x10 x11)=some (.ok b,zS o ss zs x4 x5 x6 x7 x8 x9 x10 x11):=by
 have e:ag (aC tQ (bT d6 (aa 2)) (aa 1)) (zS o ss zs x4 x5 x6 x7 x8 x9 x10 x11)=some (.ok (decide (((ss.map A.str).length:Int)<12)),zS o ss zs x4 x5 x6 x7 x8 x9 x10 x11):=rfl;rw[e,<-h,QY]
 congr 3
 simp;lia
theorem DT{n:Int}{X:List Str}{q:Str}{fs:List Sf}(w:Wl n o)(hn:n<2^36)(d:Zn ss)(R:ss=X++q::fs.map Sf.s)(hf:∀f∈fs,zq 130 f)(h:np x10=true)(p:np x11=true):
  X5 λ(Z:List Sf)(b:List Str)(o':LO)(i v:Sl)=>N6 (P6 (zS o ss zs x4 x5 x6 x7 (.lv (.lst (fs.map i4))) x9 x10 x11)=some (.nx,zS o' b zs x4 x5 x6 x7 (.lv (.lst (Z.map i4))) x9 i v)) (Zn b) (b=X++q::Z.map Sf.s) (∀f∈Z,zq 130 f) (Wl (n+20) o') (np i=true/\np v=true):=by
 by_cases hl:ss.length<12
 .obtain⟨z,Y,N,hz,L,m⟩:=B6 (ss:=ss) w (by lia) (by lia);obtain⟨x,o2,G,nx,Q⟩:=iD m (by lia);obtain⟨r,E,H,S,g,C⟩:=tk 3 Q (by lia) (by decide) (by decide);obtain⟨j,rfl⟩:∃j:Nat,r=j:=⟨r.toNat,by lia⟩
  obtain⟨wy,V,t⟩:=QN j (by lia);have fl:fs.length<=12:=by have:=congrArg Tc R;simp at this;lia
  have I:(fs++[(⟨z,qh x,wy⟩:Sf)]).map i4=fs.map i4++[i4 ⟨z,qh x,wy⟩]:=Rj;have K:(ss++[z]).map A.str=ss.map A.str++[.str z]:=Rj;have O:iI ((ss++[z]).map A.str) (-1)=some (.str z):=by rw[K];exact sj _ _
  refine⟨fs++[⟨z,qh x,wy⟩],ss++[z],E,.fr (nm x),.fr (.str wy),kL (FC true (decide_eq_true hl)) ?_,d.next hz L hl,by rw[R];simp,λf c=>?_,C.mono (by lia),rfl,rfl⟩
  .refine cW (U:=zS Y (ss++[z]) zs x4 x5 x6 x7 (.lv (.lst (fs.map i4))) x9 x10 x11) (jr (a:=.str z) (xs:=ss.map A.str) rfl (aj rfl (N _ _)) rfl rfl (by rw[QY];lia) (by rw[<-K];rfl)) ?_;refine cW (U:=zS o2 (ss++[z]) zs x4 x5 x6 x7 (.lv (.lst (fs.map i4))) x9 (.fr (nm x)) x11) (bB (aj rfl (Cs G rfl _)) rfl rfl h rfl) ?_;refine cW (U:=zS E (ss++[z]) zs x4 x5 x6 x7 (.lv (.lst (fs.map i4))) x9 (.fr (nm x)) (.fr (.str wy))) (bB (ao (gB rfl rfl) (aj rfl (H _)) (bQ (.inl rfl) V)) rfl rfl p rfl) ?_;exact jr (a:=i4 ⟨z,qh x,wy⟩) (xs:=fs.map i4) rfl (cz (af (ao rfl rfl (bQ (.inl rfl) O)) (af (cz (af (bE (ao rfl rfl (bQ (.inr rfl) rfl)) rfl) (af (ao rfl rfl (bQ (.inr rfl) rfl)) rfl)) rfl) rfl)) rfl) rfl rfl (by rw[QY];lia) (by rw[I];rfl)
  .rcases QW.mp c with k|k
   .exact hf f k
   .rw[Q5.mp k];exact⟨nx.qh.mono (by decide),Ap (yr x),t⟩
 .exact⟨fs,ss,o,x10,x11,cZ (FC false (decide_eq_false hl)) rfl,d,R,hf,w.mono (by lia),h,p⟩
theorem AJ{t:Nat}(h:t<=100)(Z:List Sl):rT (.fr (.int (t:Int))) Z=some (.ok (fT 0 t),Z):=by unfold rT;dsimp only [res];rw[if_pos (by lia),UJ]
abbrev Qk:Ms:=fD (ag (aC tQ (bT d6 (aa 2)) (aa 1))) (av (aO 5 (bq (eV 1 aX) [] (bC (aa 0) (aa 2)))) (av (bK (eJ 2 (cf 2 (aa 5)))) (av (aO 6 (aN bz (bF (aa 0)))) (av (aO 7 (aN bz (bF (aa 0)))) (av (aO 8 (cO c9)) (av (dt (dU (mix (cO (aJ (aB 0) (aJ (aB 0) (aJ (aB 1) (aJ (aB 2) (lG (aB 0) (aB 1) (aB 0) (aB 6))))))) (aN ai (bC (aa 0) (aB 8))))) (aG 9) P6) (bK (eJ 3 (cf 3 (bX (lG (aa 5) (aa 6) (aN fm (bC (ah 6) (bX (bC (bT qu (mix (aa 7) (aB 0))) (mix (aa 7) (aB 1)))))) (bT eX (aa 8)))))))))))) ) bf
theorem BL:dh=bx 10 (av (aO 2 (cO c9)) (av (aO 3 (cO c9)) (av (dt (dU (mix (cO (aJ (aB 0) (aJ (aB 1) (aJ (aB 2) (aJ (aB 3) (lG (aB 4) (aB 2) (aB 3) (aB 7))))))) (aN ai (bC (aa 0) (aB 8))))) (aG 4) Qk) (bh (bX (bC (aa 3) (aa 2))))))):=rfl
def Qd(n:Int)(Z:List Sl):Prop:=X5 λ(o:LO)(zs:List Sz)(x4 x5 x6:Sl)=>X5 λ(x7 x8 x9 x10 x11:Sl)=>N6 (Z=zS o (zs.flatMap cM) zs x4 x5 x6 x7 x8 x9 x10 x11) (Zn (zs.flatMap cM)) (∀z∈zs,qH 130 z) (Wl n o) (np x4=true/\np x5=true/\np x6=true/\np x7=true) (np x8=true/\np x9=true/\np x10=true/\np x11=true)
theorem DP{n:Int}(w:Wl n o)(hn:n<2^35)(d:Zn (zs.flatMap cM))(hz:∀z∈zs,qH 130 z)(h4:np x4=true)(h5:np x5=true)(N:np x6=true)(D:np x7=true)(P:np x8=true)(I:np x9=true)(L:np x10=true)(c:np x11=true):
  Wp Qk (zS o (zs.flatMap cM) zs x4 x5 x6 x7 x8 x9 x10 x11) λf Z=>(f=.nx\/f=.ct)/\Qd (n+200) Z:=by
 by_cases hl:(zs.flatMap cM).length<12
 .generalize X:zs.flatMap cM=ss at d hl ⊢;obtain⟨z,J,l,E,G,F⟩:=B6 (ss:=ss) w (by lia) (by lia);obtain⟨x,o2,v2,nx,Q⟩:=iD F (by lia);obtain⟨y,u,v3,H,w3⟩:=iD Q (by lia);obtain⟨r,o4,c4,a4,b4,w4⟩:=tk 8 w3 (by lia) (by decide) (by decide);obtain⟨j,rfl⟩:∃j:Nat,r=j:=⟨r.toNat,by lia⟩
  obtain⟨t,e4,ht⟩:=QO j (by lia);have zl:zs.length<=12:=by have:=nA zs;rw[X] at this;lia
  have e6:(ss++[z]).map A.str=ss.map A.str++[.str z]:=Rj;refine Wp.ft (FC true (decide_eq_true hl)) ?_;refine Wp.st (U:=zS J ss zs x4 (.fr (.str z)) x6 x7 x8 x9 x10 x11) (bB (aj rfl (l _ _)) rfl rfl h5 rfl) ?_;refine Wp.st (U:=zS J (ss++[z]) zs x4 (.fr (.str z)) x6 x7 x8 x9 x10 x11) (jr (a:=.str z) (xs:=ss.map A.str) rfl rfl rfl rfl (by rw[QY];lia) (by rw[<-e6];rfl)) ?_;refine Wp.st (U:=zS o2 (ss++[z]) zs x4 (.fr (.str z)) (.fr (nm x)) x7 x8 x9 x10 x11) (bB (aj rfl (Cs v2 rfl _)) rfl rfl N rfl) ?_;refine Wp.st (U:=zS u (ss++[z]) zs x4 (.fr (.str z)) (.fr (nm x)) (.fr (nm y)) x8 x9 x10 x11) (bB (aj rfl (Cs v3 rfl _)) rfl rfl D rfl) ?_;refine Wp.st (U:=zS u (ss++[z]) zs x4 (.fr (.str z)) (.fr (nm x)) (.fr (nm y)) (.lv (.lst [])) x9 x10 x11) (bB (gB rfl rfl) rfl rfl P rfl) ?_;refine Wp.sq (Wp.fr (as:=fT 0 t) (λi Z=>X5 λ(fs:List Sf)(b:List Str)(o':LO)(x9 x10:Sl)=>∃x11:Sl,N6 (Z=zS o' b zs x4 (.fr (.str z)) (.fr (nm x)) (.fr (nm y)) (.lv (.lst (fs.map i4))) x9 x10 x11) (Zn b) (b=ss++z::fs.map Sf.s) (∀f∈fs,zq 130 f) (Wl (n+20+20*i) o') (np x9=true/\np x10=true/\np x11=true)) (kF (ao (gB rfl rfl) (aj rfl (c4 _)) (bQ (.inl rfl) e4)) (AJ (by lia) _)) ⟨[],_,o4,x9,x10,x11,rfl,d.next E G hl,rfl,(λf hf=>by cases hf),w4.mono (by lia),I,L,c⟩ ?_ ?_)
  .rintro i a Z ha ⟨fs,b,o',Y,K,m,rfl,d',v,C,R,O,h,p⟩;have hi:i<6:=by have:=(kU ha).1;lia
   obtain⟨S,V,o2,z10,z11,e,d2,q2,f2,Q,g,B⟩:=DT (zs:=zs) (x4:=x4) (x5:=.fr (.str z)) (x6:=.fr (nm x)) (x7:=.fr (nm y)) (x9:=.fr a) R (by lia) d' v C h p;exact⟨_,by cases Y<;>first|(cases O;done)|rfl,Wp.en e ⟨.inl rfl,S,V,o2,_,_,_,rfl,d2,q2,f2,Q.mono (by lia),rfl,g,B⟩⟩
  .rintro Z ⟨fs,b,o',Y,K,m,rfl,d',v,C,R,O,h,p⟩;rw[gz] at R;have fl:fs.length<=12:=by have k1:=congrArg Tc v;have k2:=d'.ln;simp at k1;lia
   have e5:(zs++[(⟨z,x,c8 x (qh y),fs⟩:Sz)]).map jG=zs.map jG++[jG ⟨z,x,c8 x (qh y),fs⟩]:=Rj;have T:(zs++[(⟨z,x,c8 x (qh y),fs⟩:Sz)]).flatMap cM=b:=by rw[VM,X,v];simp[cM]
   have zn:cM ⟨z,x,c8 x (qh y),fs⟩=z::fs.map Sf.s:=rfl;refine⟨rfl,Wp.en (f:=.nx) (U:=zS o' b (zs++[(⟨z,x,c8 x (qh y),fs⟩:Sz)]) x4 (.fr (.str z)) (.fr (nm x)) (.fr (nm y)) (.lv (.lst (fs.map i4))) Y K m) ?_ ⟨.inl rfl,o',zs++[⟨z,x,c8 x (qh y),fs⟩],_,_,_,_,_,_,_,_,by rw[T],by rw[T];exact d',λq hq=>?_,R.mono (by lia),⟨h4,rfl,rfl,rfl⟩,rfl,O,h,p⟩⟩
   .exact jr (a:=jG ⟨z,x,c8 x (qh y),fs⟩) (xs:=zs.map jG) rfl (cz (af rfl (af rfl (af (aj (af rfl (af (cz (af (bE (ao rfl rfl (bQ (.inr rfl) rfl)) rfl) (af (ao rfl rfl (bQ (.inr rfl) rfl)) rfl)) rfl) rfl)) (aR (qK nx H.qh (by decide)) _)) (af (bE rfl rfl) rfl)))) rfl) rfl rfl (by rw[QY];lia) (by rw[<-e5];rfl)
   .rcases QW.mp hq with k|k
    .exact hz q k
    .rw[Q5.mp k];have nd:=d'.nd;rw[v] at nd;exact⟨nx.mono (by decide),(nx.Hc H.qh).mono (by decide),EO nx.ok H.qh.ok (yr y),C,λs hs=>(d'.wd s (by rw[v];exact QV _ hs)).nm,(Q8.mp nd).2.1,by show fs.length<=50;lia⟩
 .exact Wp.en (cZ (FC false (decide_eq_false hl)) rfl) ⟨.inl rfl,o,zs,_,_,_,_,_,_,_,_,rfl,d,hz,w.mono (by lia),⟨h4,h5,N,D⟩,P,I,L,c⟩
theorem Bf{n:Int}(w:Wl n o)(hn:n<2^34):X2 λ(zs:List Sz)(o':LO)=>N4 (eR dh o [.int 12] (.fr (.tup [.lst (zs.map jG),.lst ((zs.flatMap cM).map A.str)])) o') (Zn (zs.flatMap cM)) (∀z∈zs,qH 130 z) (Wl (n+2000) o'):=by
 suffices ∃s o',eR dh o [.int 12] s o'/\∃zs:List Sz,N4 (s=.fr (.tup [.lst (zs.map jG),.lst ((zs.flatMap cM).map A.str)])) (Zn (zs.flatMap cM)) (∀z∈zs,qH 130 z) (Wl (n+2000) o') by obtain⟨s,o',v,zs,rfl,h1,h2,h3⟩:=this;exact⟨zs,o',v,h1,h2,h3⟩
 obtain⟨r,Y,N,T,b1,m⟩:=tk 8 w (by lia) (by decide) (by decide)
 obtain⟨j,rfl⟩:∃j:Nat,r=j:=⟨r.toNat,by lia⟩
 obtain⟨t,F,ht⟩:=Qv j (by lia)
 rw[BL]
 refine eR.of (Wp.df (Wp.st (U:=[.pv o,.fr (.int 12),.lv (.lst []),.un,.un,.un,.un,.un,.un,.un,.un,.un]) rfl (Wp.st (U:=zS o [] [] .un .un .un .un .un .un .un .un) rfl ?_)))
 refine Wp.sq (Wp.fr (as:=fT 0 t) (λi Z=>Qd (n+1+200*i) Z) (kF (ao (gB rfl rfl) (aj rfl (N _)) (bQ (.inl rfl) F)) (AJ (by lia) _)) ⟨Y,[],.un,.un,.un,.un,.un,.un,.un,.un,rfl,⟨List.nodup_nil,(λz hz=>by cases hz),by decide⟩,(λz hz=>by cases hz),m.mono (by lia),⟨rfl,rfl,rfl,rfl⟩,rfl,rfl,rfl,rfl⟩ ?_ ?_)
 .rintro i a Z ha ⟨o',zs,x4,x5,x6,x7,x8,x9,x10,x11,rfl,d,hz,x,⟨h4,h5,b,q⟩,K,I,h,p⟩
  have hi:i<7:=by have:=(kU ha).1;lia
  refine⟨zS o' (zs.flatMap cM) zs (.fr a) x5 x6 x7 x8 x9 x10 x11,by cases x4<;>first|(cases h4;done)|rfl,Wp.mono (DP x (by lia) d hz rfl h5 b q K I h p) λf U ⟨e,k⟩=>⟨e,?_⟩⟩
  have S:n+1+200*(i:Int)+200=n+1+200*((i+1:Nat):Int):=by lia
  rw[S] at k
  exact k
 .rintro Z ⟨o',zs,x4,x5,x6,x7,x8,x9,x10,x11,rfl,d,hz,x,-,-⟩
  rw[gz] at x
  exact⟨rfl,Wp.en (aY (cz rfl rfl) rfl) ⟨_,o',_,rfl,rfl,zs,rfl,d,hz,x.mono (by lia)⟩⟩
structure Dc(ks:List Str)(ps:List Pr):Prop where
 nd:ks.Nodup
 mem:∀n,n∈ks↔∃p∈ps,p.1=n
theorem Dc.get(h:Dc ks ps)(n:Str):gi (aT ks λn=>nm (cg ps n)) (.inr n)=some (nm (cg ps n))\/gi (aT ks λn=>nm (cg ps n)) (.inr n)=none/\cg ps n=(0,1):=by
 rw[iG];by_cases z:n∈ks
 .rw[if_pos z];exact .inl rfl
 .rw[if_neg z];exact .inr ⟨rfl,lY λp hp e=>z ((h.mem n).mpr ⟨p,hp,e⟩)⟩
theorem Dc.put(h:Dc ks ps)(n:Str)(y:Num):∃A,hE (aT ks λn=>nm (cg ps n)) (.inr n) (nm (c8 (cg ps n) y))=aT A (λm=>nm (cg (ps++[(n,y)]) m))/\Dc A (ps++[(n,y)]):=by
 refine⟨if n∈ks then ks else ks++[n],?_,?_,λm=>?_⟩
 .rw[m9];refine il λm _=>?_;rw[eS];by_cases z:m=n
  .rw[if_pos z,z,if_pos rfl]
  .rw[if_neg z,if_neg λe=>z e.symm]
 .split
  .exact h.nd
  .rename_i z;exact Q8.mpr ⟨h.nd,Ry.mpr ⟨by simp,.nil⟩,λa ha b d e=>by rw[Q5.mp d] at e;exact z (e▸ha)⟩
 .by_cases z:n∈ks
  .rw[if_pos z,h.mem m];constructor
   .rintro⟨p,h1,h2⟩;exact⟨p,QX _ h1,h2⟩
   .rintro⟨p,h1,h2⟩;rcases QW.mp h1 with q|q
    .exact⟨p,q,h2⟩
    .rw[Q5.mp q] at h2;exact h2▸(h.mem n).mp z
  .rw[if_neg z,QW,h.mem m];constructor
   .rintro(⟨p,h1,h2⟩|q)
    .exact⟨p,QX _ h1,h2⟩
    .exact⟨(n,y),QV _ (Q5.mpr rfl),(Q5.mp q).symm⟩
   .rintro⟨p,h1,h2⟩;rcases QW.mp h1 with q|q
    .exact .inl ⟨p,q,h2⟩
    .rw[Q5.mp q] at h2;exact .inr (Q5.mpr h2.symm)
theorem Dc.len(h:Dc ks ps)(u:∀p∈ps,p.1∈ss):ks.length<=ss.length:=qF h.nd λn hn=>by obtain⟨p,hp,rfl⟩:=(h.mem n).mp hn;exact u p hp
theorem OL(h:Ok x):decide (x.1=0)=decide (x=(0,1)):=by
 by_cases z:x=(0,1)
 .subst z;rfl
 .rw[decide_eq_false z];refine decide_eq_false λe=>z ?_;exact sd h lT (by rw[jJ];unfold nv;rw[e];simp)
theorem xi(L:List Pr):d5 (L.map hG)=some (L.map λp=>(RM p.1,nm p.2)):=by
 induction L with
 |nil=>rfl
 |cons p L l=>rw[Ri,Ri,hG,d5,l];rfl
theorem nK:∀(X acc:List (Key×A)),((acc++X).map (·.1)).Nodup->nU acc X=acc++X
 |[],acc,_=>by simp[nU]
 |(y,a)::X,acc,h=>by
  have e:hE acc y a=acc++[(y,a)]:=by unfold hE;rw[if_neg];rw[R9];rintro⟨q,h1,h2⟩;rw[Rj,Q8] at h;exact h.2.2 q.1 (Sj h1) y (by simp) (of_decide_eq_true h2)
  show nU (hE acc y a) X=_;rw[e,nK X (acc++[(y,a)]) (by simpa using h)];simp
theorem wN(h:ks.Nodup):(ks.map (RM:Str->Key)).Nodup:=SA.mpr (h.imp λn e=>n (TU e))
theorem names_nodup(r:L.Pairwise (λa b=>sU a.1 b.1)):(L.map U5).Nodup:=SA.mpr (r.imp λh=>h.2)
theorem Eh(r:L.Pairwise (λa b=>sU a.1 b.1))(ok:∀p∈L,Ok p.2)(hz:∀p∈L,p.2≠(0,1))(hl:L.length<=900):n8 kQ ju (.tup (L.map hG))=some (.nw (.dic (aT (L.map U5) λn=>nm (cg L n)))):=by
 have c:=nj r ok hz;have e:(L.map λp=>((RM p.1:Key),nm p.2))=aT (L.map U5) λn=>nm (cg L n):=by unfold aT;rw[RV];refine Tg λp hp=>?_;show (RM p.1,nm p.2)=(RM p.1,nm (cg L p.1));rw[<-((c.mem p).mp hp).1]
 unfold n8 kQ ju;simp only;rw[if_pos (by rw[QY];lia),xi];simp only;rw[nK _ [] (by rw[SN,e];unfold aT;rw[RV];exact wN (names_nodup r)),SN,e]
theorem F6{n:Nat}(h:L2.Bd n i)(hn:n<=20000)(Z:List Sl):gO dZ (.fr (.int 1)) (.fr (.int i)) Z=some (.ok (.fr (.int i)),Z):=by have:=uW (Ck (show (1:Int).natAbs<2^64 by decide)) (ft h hn) Z;rwa[Int.one_mul] at this
abbrev Jz(x y:Num)(L M:List Pr)(K:List (Key×A))(x4 x5 x6:Sl):List Sl:=[.fr (aI x L),.fr (aI y M),.fr (.int 1),.lv (.dic K),x4,x5,x6]
theorem QF{a b c d f:Sl}(p:Pr)(h4:np x4=true)(h5:np x5=true):dw 2 (aL (aG 4) (aL (aG 5) dW)) (hG p) [a,b,c,d,x4,x5,f]=some [a,b,c,d,.fr (.str p.1),.fr (nm p.2),f]:=by cases x4<;>first|(cases h4;done)|(cases x5<;>first|(cases h5;done)|rfl)
theorem De{M:List Pr}(h:Tt k ss ps x L)(g:Sm 64 12 ss y M)(hk:k<=16)(Y:ss.length<=12):∃N,Val fL [aI x L,aI y M,.int 1] (aI (c8 x y) N)/\Tt (k+1) ss (ps++M) (c8 x y) N:=by
 have l1:=gr h.cn.rise h.Mq;have f:=gr g.rise g.nms;have E:∀i,∀p∈L++M.take i,NB 1041 p.2:=λi p hp=>(QW.mp hp).elim (λq=>(h.Ol p q).mono (by lia)) λq=>(g.nb p (Td q)).mono (by lia)
 suffices Wp fL ([aI x L,aI y M,.int 1].map Sl.fr) λg _=>∃N,g=.rt (.fr (aI (c8 x y) N))/\Canon (L++M) N by obtain⟨_,_,e,N,rfl,c⟩:=this;exact⟨N,⟨_,e⟩,h.next g c⟩
 refine Wp.df (Wp.st (U:=Jz x y L M (aT (L.map U5) λn=>nm (cg L n)) .un .un .un) (bB (bE (ao rfl rfl (bQ (.inr rfl) rfl)) (dE rfl (Eh h.cn.rise (λp hp=>(h.Ol p hp).ok) (λp hp=>((h.cn.mem p).mp hp).2) (by lia)))) rfl rfl rfl rfl) ?_);refine Wp.sq (Wp.fr (as:=M.map hG) (λi Z=>∃ns v b,Z=Jz x y L M (aT ns λn=>nm (cg (L++M.take i) n)) v b .un/\Dc ns (L++M.take i)/\np v=true/\np b=true) (dz (ao rfl rfl (bQ (.inr rfl) rfl)) rfl) ⟨L.map U5,.un,.un,by rw[U6,RK],by rw[U6,RK];exact⟨names_nodup h.cn.rise,λn=>by simp⟩,rfl,rfl⟩ ?_ ?_)
 .rintro i a Z ha ⟨ns,v,b,rfl,hd,h4,h5⟩;rw[Rn] at ha;cases G:M[i]? with
  |none=>rw[G] at ha;cases ha
  |some p=>
   rw[G] at ha;cases ha;obtain⟨n,z⟩:=p;have K:=Rt G;have C:NB 3000 (cg (L++M.take i) n):=(ui (E i) n).mono (by
    have l:=gk h.cn.rise n;have D:=gk g.rise n;have R:=rg M i n;rw[qM];have:cnt L n+cnt (M.take i) n<=2:=by lia
    have:=Ut (1041+1) this;lia)
   have nz:=g.nb _ K;have kp:=aR (qK C nz (by lia));obtain⟨H,V,J⟩:=hd.put n z;have es:L++M.take (i+1)=L++M.take i++[(n,z)]:=by rw[take_snoc G,QZ]
   have ln:ns.length<=12:=Rm (hd.len (ss:=ss) λp hp=>(QW.mp hp).elim (h.Mq p) λq=>g.nms p (Td q)) Y;refine⟨_,QF (n,z) h4 h5,Wp.en (U:=Jz x y L M (aT H λm=>nm (cg (L++M.take (i+1)) m)) (.fr (.str n)) (.fr (nm z)) .un) ?_ ⟨.inl rfl,_,_,_,rfl,by rw[es];exact J,rfl,rfl⟩⟩;refine(lS (aj (af (eA (vA rfl rfl rfl rfl (cz rfl rfl) (hd.get n)) rfl) (af (cz (af (ao rfl (ao rfl rfl (bQ (.inr rfl) rfl)) (F6 nz.b1 (by decide) _)) (af (ao rfl rfl (bQ (.inr rfl) rfl)) rfl)) rfl) rfl)) (kp _)) rfl rfl (Ft rfl rfl rfl rfl (by rw[kP];lia))).trans ?_;rw[V,es];rfl
 .rintro O ⟨ns,v,b,rfl,hd,h4,h5⟩;have X:=E M.length;rw[QY,RH] at hd ⊢;rw[RH] at X;generalize ep:L++M=P at hd X ⊢;have ln:ns.length<=12:=Rm (hd.len (ss:=ss) λp hp=>(QW.mp (ep▸hp)).elim (h.Mq p) (g.nms p)) Y;have sl:(bO ns).length<=12:=by rw[(cc _).length_eq];lia
  have o:∀s∈bO ns,∀{d:Rr}{Z:List Sl},res Z d=some (.dic (aT ns λn=>nm (cg P n)))->gO (bU i9 cj) d (.fr (.str s)) Z=some (.ok (.fr (nm (cg P s))),Z):=λs u d Z h=>by
   unfold gO;rw[h];show (match bU i9 cj (.dic (aT ns λn=>nm (cg P n))) (.str s) with|some r=>some ((.ok r:Except Str Rr),Z)|none=>none)=_;have:bU i9 cj (.dic (aT ns λn=>nm (cg P n))) (.str s)=some (.fr (nm (cg P s))):=by unfold bU i9 cj;dsimp only [gT];rw[iG,if_pos ((cc ns).mem_iff.mp u)]
   rw[this]
  have k:=vm (S:=Jz x y L M (aT ns λn=>nm (cg P n)) v b .un) (t:=ag (aC gQ (mix (mix (aa 3) (aa 7)) (aB 0)) (aB 0))) (e:=bX (bC (aa 7) (mix (aa 3) (aa 7))))
   A.str (λs=>hG (s,cg P s)) (nz P) rfl (by lia:(bO ns).length<=100000) (λs u=>⟨aD (ao (ao (ao rfl rfl (o s u rfl)) rfl (bQ (.inr rfl) rfl)) rfl (by unfold nz;rw[<-OL (jD (λp hp=>(X p hp).ok) s)];exact kO rfl _)),λ_=>⟨.fr (hG (s,cg P s)),cz (af rfl (af (ao rfl rfl (o s u rfl)) rfl)) rfl,rfl⟩⟩)
  have j:((bO ns).filter (nz P)).map (λs=>hG (s,cg P s))=(fW P (bO ns)).map hG:=by unfold fW;rw[RV];rfl
  rw[j] at k;have sq:bY (bT (n8 bM bV) (aa 3)) (Jz x y L M (aT ns λn=>nm (cg P n)) v b .un)=some (.ok ((bO ns).map A.str),Jz x y L M (aT ns λn=>nm (cg P n)) v b .un):=by
   have F:n8 bM bV (.dic (aT ns λn=>nm (cg P n)))=some (.nw (.lst ((bO ns).map A.str))):=by unfold n8 bM bV;dsimp only;rw[lp];dsimp only;rw[if_pos (by lia)]
   exact dz (bE rfl (dE rfl F)) rfl
  have B:=aR (qK h.nx g.x (by lia));exact⟨rfl,Wp.st (U:=Jz x y L M (aT ns λn=>nm (cg P n)) v b (.fr (.tup ((fW P (bO ns)).map hG)))) (bB (bE (cA sq k) rfl) rfl rfl rfl rfl) (Wp.en (aY (cz (af (aj (af (ao rfl rfl (bQ (.inr rfl) rfl)) (af (cz (af (ao rfl (ao (ao rfl rfl (bQ (.inr rfl) rfl)) rfl (bQ (.inr rfl) rfl)) (F6 g.x.b1 (by decide) _)) (af (ao (ao rfl rfl (bQ (.inr rfl) rfl)) rfl (bQ (.inr rfl) rfl)) rfl)) rfl) rfl)) (B _)) rfl) rfl) rfl) ⟨fW P (bO ns),rfl,sJ hd.nd hd.mem⟩)⟩
theorem Tt.same(h:Tt k ss ps x L)(g:Tt k ss ps x N):L=N:=vP h.cn.rise g.cn.rise λp=>by rw[h.cn.mem,g.cn.mem]
abbrev qA(f:Ms):Ms:=bx 0 (av (fD (ag (bT (cC Ty.tuple) (aa 0))) (bh (bT (eD λbs=>SY bs id) (bH 1 (bY (aa 0)) (aG 1) bp (aN f (bF (ah 1)))))) bf) (bh (qP (bT (cC Ty.str) (aa 0)) (gM (bT (cC Ty.int) (aa 0)) (jf (bT (cC Ty.bool) (aa 0)))))))
theorem FE(f:Ms)(s:Str):Val (qA f) [.str s] (.bl true):=⟨_,rfl⟩
theorem NH(f:Ms)(i:Int):Val (qA f) [.int i] (.bl true):=⟨_,rfl⟩
theorem Gj(ts:List T):eD (λbs=>SY bs id) (.lst (ts.map λ_=>A.bl true))=some (.fr (.bl true)):=by
 have e:fR (ts.map λ_=>A.bl true)=some (ts.map λ_=>true):=by
  induction ts with
  |nil=>rfl
  |cons t ts l=>rw[Ri,fR,l];rfl
 unfold eD;dsimp only;rw[e];dsimp only;rw[Uz,RG.mpr λc hc=>(show (id∘λ_=>true) c=true from rfl)]
theorem za{xs:List A}(h:∀a∈xs,Val f [a] (.bl true))(hl:xs.length<=1000):Val (qA f) [.tup xs] (.bl true):=by
 have k:=cN (T:=A) (i:=1) (ts:=xs) (e:=aN f (bF (ah 1))) (S:=[.fr (.tup xs)]) id (λ_=>.bl true) rfl (by lia) λa ha=>⟨.fr (.bl true),aj rfl (aR (h a ha) _),rfl⟩
 rw[VF] at k;exact Val.of (Wp.df (Wp.sr (kL (aD rfl) (aY (bE (cA rfl k) (dE rfl (Gj xs))) rfl)) rfl))
theorem Gz(f:Ms)(x:Num):Val (qA (qA f)) [nm x] (.bl true):=za (xs:=[.int x.1,.int x.2]) (λa ha=>by
 rcases Ra.mp ha with rfl|ha
 .exact NH _ _
 .rw[Q5.mp ha];exact NH _ _) (by simp)
theorem LD(f:Ms)(p:Pr):Val (qA (qA (qA f))) [hG p] (.bl true):=za (xs:=[.str p.1,nm p.2]) (λa ha=>by
 rcases Ra.mp ha with rfl|ha
 .exact FE _ _
 .rw[Q5.mp ha];exact Gz _ _) (by simp)
theorem Md(f:Ms)(x:Num)(L:List Pr)(hl:L.length<=1000):Val (qA (qA (qA (qA (qA f))))) [aI x L] (.bl true):=za (xs:=[nm x,.tup (L.map hG)]) (λa ha=>by
 rcases Ra.mp ha with rfl|ha
 .exact Gz _ _
 .rw[Q5.mp ha];exact za (λa ha=>by obtain⟨p,_,rfl⟩:=RC.mp ha;exact LD _ p) (by rw[QY];exact hl)) (by simp)
theorem Ag:bZ=qA (qA (qA (qA (qA (qA iJ))))):=rfl
theorem Lu(x:Fa)(hl:x.L.length<=1000):Val bZ [cK x] (.bl true):=by
 rw[Ag];exact za (xs:=[.str x.n,.str x.ax,aI x.x x.L]) (λa ha=>by
  rcases Ra.mp ha with rfl|ha
  .exact FE _ _
  rcases Ra.mp ha with rfl|ha
  .exact FE _ _
  .rw[Q5.mp ha];exact Md _ _ _ hl) (by simp)
theorem MM(s:Str):Val bZ [.str s] (.bl true):=FE _ _
theorem pD{xs:List A}{s0 s1:A}(h0:s0=.lst xs)(h1:s1=.lst xs)(R:pq (.lst xs) (.lst xs)=some true)(h:∀a∈xs,Val bZ [a] (.bl true))(hl:xs.length<=1000):aU [.fr s0,.fr s1]=some (.rt (.fr (.bl true)),[.fr s0,.fr s1]):=by
 subst h0 h1;have k:=cN (T:=A) (i:=2) (ts:=xs) (e:=aN bZ (bF (ah 2))) (S:=[.fr (.lst xs),.fr (.lst xs)]) id (λ_=>.bl true) rfl (by lia) λa ha=>⟨.fr (.bl true),aj rfl (aR (h a ha) _),rfl⟩
 rw[VF] at k;obtain⟨_,_,e,rfl,rfl⟩:Wp aU [.fr (.lst xs),.fr (.lst xs)] λg Z=>g=.rt (.fr (.bl true))/\Z=[.fr (.lst xs),.fr (.lst xs)]:=by refine Wp.df (Wp.en (aY (r:=.fr (.bl true)) (U:=[.fr (.lst xs),.fr (.lst xs)]) ?_ rfl) ⟨rfl,rfl⟩);refine bk (aD (b:=true) rfl) ?_;refine bk (aD (b:=true) (ao rfl rfl (fu (o:=none) rfl rfl (r:=.fr (.bl true)) (by unfold gG;rw[R])))) ?_;exact bE (cA rfl k) (dE rfl (Gj xs))
 exact e
theorem zi(h:fE b zs)(v:60<=b)(b1:b<=4000):iP jn [sQ zs] (.lst (zs.map cG)):=by
 have hl:=h.len;have k:=cN (T:=Sz) (i:=1) (ts:=zs) (e:=aN bJ (bF (ah 1))) (S:=[.fr (sQ zs)]) cG cG rfl (by lia) λz hz=>⟨.nw (.obj "Size" (vp z)),aj rfl (dN (l5 (h.sz z hz) v b1) _),rfl⟩
 exact iP.of (Wp.df (Wp.en (aY (cA (dz (bE rfl (dE rfl (sN zs))) rfl) k) rfl) rfl))
theorem zc(h:fE b zs)(v:60<=b)(b1:b<=4000):iP bR [sQ zs] (.lst (zs.map jG)):=by
 have hl:=h.len;have k:=cN (T:=Sz) (i:=1) (ts:=zs) (e:=bX (lG (eU (aZ ["Size", "Part"] "name") (aa 1)) (eU (aZ ["Size"] "least") (aa 1)) (eU (aZ ["Size"] "most") (aa 1)) (eU (aZ ["Size"] "shifts") (aa 1)))) (S:=[.fr (sQ zs)]) cG jG rfl (by lia) λz hz=>⟨.fr (jG z),cz (af (bE rfl (dE rfl (j9 z))) (af (bE rfl (dE rfl (pY z))) (af (bE rfl (dE rfl (sA z))) (af (bE rfl (dE rfl (fw z))) rfl)))) rfl,rfl⟩
 exact iP.of (Wp.df (Wp.en (aY (cA (dz (aj (af (p3 rfl rfl) rfl) (dN (zi h v b1) _)) rfl) k) rfl) rfl))
variable{P:List Sl->Prop}
theorem ye{i:Nat}{t:Mi Bool}{xs:List A}{c:A->Bool}{f:A->A}(x:∀Z,P Z->aE Z i=some (.lst xs))
  (h:∀a,a∈xs->∀Z,P Z->∃U,G a Z=some U/\∃Z',t U=some (.ok (c a),Z')/\(c a=false->P Z')/\(c a=true->∃r F,e Z'=some (.ok r,F)/\∃T,bA r F=some (f a,T)/\P T)):
  ∀(n j:Nat)(acc:List A)(Z:List Sl),P Z->xs.length<=j+n->j<=xs.length->∃O,dy i G t e (n+1) j acc Z=some (acc++((xs.drop j).filter c).map f,O)/\P O:=by
 intro n;induction n with
 |zero=>
  intro j acc Z hp h1 h2;have I:j=xs.length:=by lia
  subst I;refine⟨Z,?_,hp⟩;unfold dy;rw[x Z hp];simp
 |succ n l=>
  intro j acc Z hp h1 h2;by_cases I:j=xs.length
  .subst I;refine⟨Z,?_,hp⟩;unfold dy;rw[x Z hp];simp
  .have hl:j<xs.length:=by lia
   obtain⟨U,X,Z',D,z,gt⟩:=h xs[j] (Sk hl) Z hp;cases hc:c xs[j] with
   |true=>obtain⟨r,F,m,T,p,Y⟩:=gt hc;obtain⟨O,o,g⟩:=l (j+1) (acc++[f xs[j]]) T Y (by lia) (by lia);refine⟨O,?_,g⟩;rw[hc] at D;unfold dy;rw[x Z hp];simp only[Rg hl,X,D,m,p];rw[o,RT hl,V8,if_pos hc,Ri,QZ];rfl
   |false=>obtain⟨O,o,g⟩:=l (j+1) acc Z' (z hc) (by lia) (by lia);refine⟨O,?_,g⟩;rw[hc] at D;unfold dy;rw[x Z hp];simp only[Rg hl,X,D];rw[o,RT hl,V8,hc];rfl
theorem yz{m i:Nat}{t:Mi Bool}{xs:List A}{c:A->Bool}{f:A->A}(n:∀Z,P Z->aE Z i=some (.lst xs))(hl:xs.length<=100000)
  (h:∀a,a∈xs->∀Z,P Z->∃U,G a Z=some U/\∃Z',t U=some (.ok (c a),Z')/\(c a=false->P Z')/\(c a=true->∃r F,e Z'=some (.ok r,F)/\∃T,bA r F=some (f a,T)/\P T))(hp:P (Z++Rl m .un)):
  ∃O,cJ m i G t e Z=some (.ok (.nw (.lst ((xs.filter c).map f))),O.take Z.length)/\P O:=by
 obtain⟨O,o,g⟩:=ye n h 100000 0 [] _ hp (by lia) (by lia);refine⟨O,?_,g⟩;unfold cJ;rw[o];simp
structure Rw where
 n:Str
 ax:Str
 st:Option Str
 x:Num
 L:List Pr
noncomputable def n6:Option Str->A
 |none=>.non
 |some s=>.str s
def gR(r:Rw):A:=.tup [.str r.n,.str r.ax,n6 r.st,aI r.x r.L]
structure Hx(ss:List Str)(pre:List Rw)(r:Rw):Prop where
 wd:Wd r.n
 nf:r.n ≠ "frame"
 nw:r.n∉pre.map Rw.n
 ax:BH r.ax
 st:∀s,r.st=some s->∃q∈pre,q.n=s/\q.ax=r.ax
 sm:Sm 64 12 ss r.x r.L
abbrev nX(o:LO)(ss:List Str)(k:Int)(rs:List Rw)(x4 x5 x6 x7:Sl):List Sl:=[.pv o,.fr (.lst (ss.map A.str)),.fr (.int k),.lv (.lst (rs.map gR)),x4,x5,x6,x7]
variable{rs:List Rw}
theorem AB{k:Int}(hl:rs.length<=100)(l:Mi Rr):aQ (cJ 1 3 (aG 8) bp (mix (aa 8) (aB 0))) l (nX o ss k rs x4 x5 x6 x7)=some (.ok (.nw (.lst ((rs.map Rw.n).map A.str))),nX o ss k rs x4 x5 x6 x7):=by
 obtain⟨O,e,x,rfl,_⟩:=oC (m:=1) (i:=3) (G:=aG 8) (t:=bp) (e:=mix (aa 8) (aB 0)) (xs:=rs.map gR) (Z:=nX o ss k rs x4 x5 x6 x7) (f:=λa=>match a with | .tup (b::_)=>b|_=>.non) (P:=λZ=>∃x,Z=nX o ss k rs x4 x5 x6 x7++[x]/\np x=true) (λZ ⟨x,e,_⟩=>by rw[e];rfl) (by rw[QY];lia) (by rintro a ha Z ⟨x,rfl,w⟩;obtain⟨r,y,rfl⟩:=RC.mp ha;exact⟨nX o ss k rs x4 x5 x6 x7++[.fr (gR r)],by cases x<;>first|(cases w;done)|rfl,_,rfl,.fr (.str r.n),_,ao rfl rfl (bQ (.inr rfl) rfl),_,rfl,_,rfl,rfl⟩) ⟨.un,rfl,rfl⟩
 refine cY (e.trans ?_);rw[RV,RV];rfl
theorem Eu{k:Int}(hl:rs.length<=100)(l:Mi Rr):aQ (cJ 1 3 (aG 8) (ag (aC gG (mix (aa 8) (aB 1)) (aa 6))) (mix (aa 8) (aB 0))) l (nX o ss k rs x4 x5 (.fr (.str ax)) x7)=some (.ok (.nw (.lst (((rs.filter λr=>decide (r.ax=ax)).map Rw.n).map A.str))),nX o ss k rs x4 x5 (.fr (.str ax)) x7):=by
 obtain⟨O,e,x,rfl,_⟩:=yz (m:=1) (i:=3) (G:=aG 8) (t:=ag (aC gG (mix (aa 8) (aB 1)) (aa 6))) (e:=mix (aa 8) (aB 0)) (xs:=rs.map gR) (Z:=nX o ss k rs x4 x5 (.fr (.str ax)) x7) (c:=λa=>match a with | .tup (_::.str b::_)=>decide (b=ax)|_=>false) (f:=λa=>match a with | .tup (b::_)=>b|_=>.non) (P:=λZ=>∃x,Z=nX o ss k rs x4 x5 (.fr (.str ax)) x7++[x]/\np x=true) (λZ ⟨x,e,_⟩=>by rw[e];rfl) (by rw[QY];lia) (by rintro a ha Z ⟨x,rfl,w⟩;obtain⟨r,y,rfl⟩:=RC.mp ha;exact⟨nX o ss k rs x4 x5 (.fr (.str ax)) x7++[.fr (gR r)],by cases x<;>first|(cases w;done)|rfl,_,aD (ao (ao rfl rfl (bQ (.inr rfl) rfl)) rfl (qz _ _ _)),λ_=>⟨_,rfl,rfl⟩,λ_=>⟨.fr (.str r.n),_,ao rfl rfl (bQ (.inr rfl) rfl),_,rfl,_,rfl,rfl⟩⟩) ⟨.un,rfl,rfl⟩
 refine cY (e.trans ?_);rw[List.filter_map,RV,RV];rfl
theorem Cz{n:Int}(w:Wl n o)(hn:n<2^37)(u:ss.length<=20):X2 λ(z:Str)(o':LO)=>N4 (∀Z,eE aX [] [.rf 0,.fr (.lst (ss.map A.str))] (.pv o::Z)=some (.ok (.fr (.str z)),.pv o'::Z)) (Wd z) (z∉ss) (Wl (n+11) o'):=by obtain⟨z,o',⟨U,e⟩,h1,h2,h3⟩:=ue w hn u;exact⟨z,o',Cs (as:=[.lst (ss.map A.str)]) ⟨_,e⟩ rfl,h1,h2,h3⟩
theorem Mb{qs:List Rw}{r:Int}(h0:0<=r)(h1:r<((2+qs.length:Nat):Int)):∃st:Option Str,iI (A.non::A.non::(qs.map Rw.n).map A.str) r=some (n6 st)/\∀s,st=some s->∃q∈qs,q.n=s:=by
 obtain⟨j,rfl⟩:∃j:Nat,r=j:=⟨r.toNat,by lia⟩
 match j with
 |0=>exact⟨none,gC rfl,λs e=>by cases e⟩
 |1=>exact⟨none,gC rfl,λs e=>by cases e⟩
 |j+2=>
  have I:j<qs.length:=by lia
  refine⟨some qs[j].n,gC ?_,λs e=>⟨qs[j],Sk I,by cases e;rfl⟩⟩;show ((qs.map Rw.n).map A.str)[j]?=_;rw[Rn,Rn,Rg I];rfl
abbrev PV:Ms:=av (aO 5 (aN aX (bC (aa 0) (fY (aC bD (aQ (cJ 1 3 (aG 8) bp (mix (aa 8) (aB 0))) (bH 1 (bY (aa 3)) (aG 8) bp (mix (aa 8) (aB 0)))) (cO (bF (mC (.str "frame"))))))))) (av (aO 6 (mix (mC (.str "xy")) (aN ai (bC (aa 0) (aB 2))))) (av (aO 7 (aC bD (cO (bC (mC .non) (mC .non))) (aQ (cJ 1 3 (aG 8) (ag (aC gG (mix (aa 8) (aB 1)) (aa 6))) (mix (aa 8) (aB 0))) (bH 1 (bY (aa 3)) (aG 8) (ag (aC gG (mix (aa 8) (aB 1)) (aa 6))) (mix (aa 8) (aB 0)))))) (bK (eJ 3 (cf 3 (bX (lG (aa 5) (aa 6) (mix (aa 7) (aN ai (bC (aa 0) (bT d6 (aa 7))))) (aN gx (bC (aa 0) (ah 1))))))))))
theorem Cb:dq=bx 5 (av (aO 3 (cO c9)) (av (dt (dU (aa 2)) (aG 4) PV) (bh (aa 3)))):=rfl
theorem CT{n:Int}{k:Int}(w:Wl n o)(hn:n<2^35)(nd:ss.Nodup)(u:ss.length<=12)(hl:rs.length<=10)(h5:np x5=true)(m:np x6=true)(D:np x7=true):
  X5 λ(r:Rw)(o':LO)(X E G:Sl)=>N4 (PV (nX o ss k rs x4 x5 x6 x7)=some (.nx,nX o' ss k (rs++[r]) x4 X E G)) (Hx ss rs r) (Wl (n+80) o') (np X=true/\np E=true/\np G=true):=by
 obtain⟨z,Y,N,hz,v,F⟩:=Cz (ss:=rs.map Rw.n++[("frame" : Str)]) w (by lia) (by simp;lia);obtain⟨T,o2,g,J,b2,K⟩:=tk 2 F (by lia) (by decide) (by decide);obtain⟨ax,c,p⟩:∃ax,BH ax/\∀Z,gO (bU i9 cj) (.fr (.str "xy")) (.fr (.int T)) Z=some (.ok (.fr (.str ax)),Z):=by
  have:T=0\/T=1:=by lia
  rcases this with rfl|rfl
  .exact⟨"x",.inl rfl,λZ=>rfl⟩
  .exact⟨"y",.inr rfl,λZ=>rfl⟩
 generalize j:(rs.filter λr=>decide (r.ax=ax))=qs;have t:qs.length<=10:=by rw[<-j];exact Rm (VB _ _) hl
 obtain⟨l,d,H,S,I,C⟩:=tk ((2+qs.length:Nat):Int) K (by lia) (by lia) (by lia);obtain⟨st,b,Q⟩:=Mb (qs:=qs) S I;obtain⟨x,L,O,V,sm,B⟩:=Kj C (by lia) nd u;have ea:gO bD (.nw (.lst ((rs.map Rw.n).map A.str))) (.nw (.lst [.str "frame"])) (nX o ss k rs x4 x5 x6 x7)=some (.ok (.nw (.lst ((rs.map Rw.n++[("frame" : Str)]).map A.str))),nX o ss k rs x4 x5 x6 x7):=by rw[Rj];exact E8 (by simp;lia) _
 have f:∀Z,gO bD (.nw (.lst [.non,.non])) (.nw (.lst ((qs.map Rw.n).map A.str))) Z=some (.ok (.nw (.lst (A.non::A.non::(qs.map Rw.n).map A.str))),Z):=λZ=>E8 (by simp;lia) _;have y:(rs++[(⟨z,ax,st,x,L⟩:Rw)]).map gR=rs.map gR++[gR ⟨z,ax,st,x,L⟩]:=Rj;have R:((A.non::A.non::(qs.map Rw.n).map A.str).length:Int)=((2+qs.length:Nat):Int):=by simp;lia
 refine⟨⟨z,ax,st,x,L⟩,O,.fr (.str z),.fr (.str ax),.lv (.lst (A.non::A.non::(qs.map Rw.n).map A.str)),?_,⟨hz,λe=>v (QV _ (Q5.mpr e)),λe=>v (QX _ e),c,λs e=>?_,sm⟩,B.mono (by lia),rfl,rfl,rfl⟩
 .refine cW (U:=nX Y ss k rs x4 (.fr (.str z)) x6 x7) (bB (aj (af rfl (af (eA (ao (AB (by lia) _) (gB rfl rfl) ea) rfl) rfl)) (N _)) rfl rfl h5 rfl) ?_;refine cW (U:=nX o2 ss k rs x4 (.fr (.str z)) (.fr (.str ax)) x7) (bB (ao rfl (aj rfl (g _)) (p _)) rfl rfl m rfl) ?_;have es:=Eu (o:=o2) (ss:=ss) (k:=k) (rs:=rs) (x4:=x4) (x5:=.fr (.str z)) (x7:=x7) (ax:=ax) (by lia) (bH 1 (bY (aa 3)) (aG 8) (ag (aC gG (mix (aa 8) (aB 1)) (aa 6))) (mix (aa 8) (aB 0)));rw[j] at es;refine cW (U:=nX o2 ss k rs x4 (.fr (.str z)) (.fr (.str ax)) (.lv (.lst (A.non::A.non::(qs.map Rw.n).map A.str)))) (bB (ao (gB rfl rfl) es (f _)) rfl rfl D rfl) ?_;have h:∀o',bT d6 (aa 7) (nX o' ss k rs x4 (.fr (.str z)) (.fr (.str ax)) (.lv (.lst (A.non::A.non::(qs.map Rw.n).map A.str))))=some (.ok (.fr (.int ((2+qs.length:Nat):Int))),nX o' ss k rs x4 (.fr (.str z)) (.fr (.str ax)) (.lv (.lst (A.non::A.non::(qs.map Rw.n).map A.str)))):=λo'=>by rw[<-R];rfl
  exact jr (a:=gR ⟨z,ax,st,x,L⟩) (xs:=rs.map gR) rfl (cz (af rfl (af rfl (af (ao rfl (aj (af rfl (af (h _) rfl)) (H _)) (bQ (.inl rfl) b)) (af (aj rfl (Cs (as:=[.lst (ss.map A.str)]) V rfl _)) rfl)))) rfl) rfl rfl (by rw[QY];lia) (by rw[<-y];rfl)
 .obtain⟨q,i,P⟩:=Q s e;rw[<-j,SK] at i;exact⟨q,i.1,P,of_decide_eq_true i.2⟩
inductive ET(ss:List Str):List Rw->Prop
 |nil:ET ss []
 |snoc{rs:List Rw}{r:Rw}(h:ET ss rs)(k:Hx ss rs r):ET ss (rs++[r])
theorem yN{n:Int}(w:Wl n o)(hn:n<2^34)(nd:ss.Nodup)(u:ss.length<=12)(hk:k<=9):X2 λ(rs:List Rw)(o':LO)=>N4 (eR dq o [.lst (ss.map A.str),.int k] (.lv (.lst (rs.map gR))) o') (ET ss rs) (rs.length=k) (Wl (n+800) o'):=by
 suffices ∃s o',eR dq o [.lst (ss.map A.str),.int k] s o'/\∃rs:List Rw,N4 (s=.lv (.lst (rs.map gR))) (ET ss rs) (rs.length=k) (Wl (n+800) o') by obtain⟨s,o',v,rs,rfl,h1,h2,h3⟩:=this;exact⟨rs,o',v,h1,h2,h3⟩
 rw[Cb]
 refine eR.of (Wp.df (Wp.st (U:=nX o ss k [] .un .un .un .un) rfl ?_))
 refine Wp.sq (Wp.fr (as:=fT 0 k) (λi Z=>X5 λ(o':LO)(rs:List Rw)(x4 x5 x6:Sl)=>∃x7,N6 (Z=nX o' ss k rs x4 x5 x6 x7) (ET ss rs) (rs.length=i) (Wl (n+80*i) o') (np x4=true) (np x5=true/\np x6=true/\np x7=true)) (kF rfl (AJ (by lia) _)) ⟨o,[],.un,.un,.un,.un,rfl,.nil,rfl,w.mono (by lia),rfl,rfl,rfl,rfl⟩ ?_ ?_)
 .rintro i a Z ha ⟨o',rs,x4,x5,x6,x7,rfl,y,hl,x,h4,h5,m,q⟩
  have hi:i<9:=by have:=(kU ha).1;lia
  obtain⟨r,o2,b,E,G,e,g,Q,Y,z,L⟩:=CT (k:=k) (rs:=rs) (x4:=.fr a) x (by lia) nd u (by lia) h5 m q
  exact⟨nX o' ss k rs (.fr a) x5 x6 x7,by cases x4<;>first|(cases h4;done)|rfl,Wp.en e ⟨.inl rfl,o2,rs++[r],_,_,_,_,rfl,.snoc y g,by simp;lia,Q.mono (by lia),rfl,Y,z,L⟩⟩
 .rintro Z ⟨o',rs,x4,x5,x6,x7,rfl,y,hl,x,-,-⟩
  rw[gz] at x hl
  exact⟨rfl,Wp.en (aY rfl rfl) ⟨_,o',_,rfl,rfl,rs,rfl,y,hl,x.mono (by lia)⟩⟩
inductive Pd(ss:List Str):List Rw->List Fa->Prop
 |nil:Pd ss [] []
 |snoc{rs:List Rw}{fs:List Fa}{r:Rw}{f:Fa}(h:Pd ss rs fs)(k:Hx ss rs r)(en:f.n=r.n)(ea:f.ax=r.ax)(ht:∃j ps,j<=fs.length+1/\Tt j ss ps f.x f.L)(hp:GW fs r.ax r.x r.L (n6 r.st) f.x f.L):Pd ss (rs++[r]) (fs++[f])
theorem Pd.len{fs:List Fa}(h:Pd ss rs fs):fs.length=rs.length:=by
 induction h with
 |nil=>rfl
 |snoc h k en ea ht hp l=>simp[l]
theorem Pd.ns{fs:List Fa}(h:Pd ss rs fs):fs.map Fa.n=rs.map Rw.n:=by
 induction h with
 |nil=>rfl
 |snoc h k en ea ht hp l=>rw[Rj,Rj,l];simp[en]
theorem Pd.nd{fs:List Fa}(h:Pd ss rs fs):(rs.map Rw.n).Nodup:=by
 induction h with
 |nil=>exact .nil
 |snoc h k en ea ht hp l=>rw[Rj];exact Q8.mpr ⟨l,by simp,λa ha b d e=>k.nw (by rw[VU,Q5] at d;rw[<-d,<-e];exact ha)⟩
theorem Pd.tt{fs:List Fa}(h:Pd ss rs fs):∀f∈fs,∃j ps,j<=fs.length/\Tt j ss ps f.x f.L:=by
 induction h with
 |nil=>exact λf hf=>by cases hf
 |snoc h k en ea ht hp l=>
  intro g N;rcases QW.mp N with z|z
  .obtain⟨j,ps,h1,h2⟩:=l g z;exact⟨j,ps,by simp;lia,h2⟩
  .rw[Q5.mp z];obtain⟨j,ps,h1,h2⟩:=ht;exact⟨j,ps,by simpa using h1,h2⟩
theorem Pd.at{fs:List Fa}(h:Pd ss rs fs):∀q∈rs,∃f∈fs,f.n=q.n/\f.ax=q.ax:=by
 induction h with
 |nil=>exact λf hf=>by cases hf
 |snoc h k en ea ht hp l=>
  intro q j;rcases QW.mp j with z|z
  .obtain⟨f,h1,h2⟩:=l q z;exact⟨f,QX _ h1,h2⟩
  .rw[Q5.mp z];exact⟨_,QV _ (by simp),en,ea⟩
theorem zp:∀{fs:List Fa}{f:Fa},(fs.map Fa.n).Nodup->f∈fs->fs.find? (lJ f.n f.ax)=some f
 |g::fs,f,nd,hf=>by
  rw[RL];rw[Ri,Ry] at nd;rcases Ra.mp hf with rfl|hf
  .rw[show lJ f.n f.ax f=true by simp[lJ]]
  .have:lJ f.n f.ax g=false:=by unfold lJ;rw[decide_eq_false λe=>nd.1 (by rw[e];exact Sj hf)];rfl
   rw[this];exact zp nd.2 hf
theorem ET.at{ss:List Str}{rs:List Rw}(h:ET ss rs):∀{i:Nat}{r:Rw},rs[i]?=some r->Hx ss (rs.take i) r:=by
 induction h with
 |nil=>exact λe=>by simp at e
 |snoc h k l=>
  rename_i rs v;intro i r e;have hi:=(Q2.mp e).1;rw[Rc,S7] at hi;by_cases z:i<rs.length
  .rw[RF z] at e;rw[Rv (by lia)];exact l e
  .have:i=rs.length:=by lia
   subst this;rw[Rx (by lia)] at e;simp at e;subst e;rw[Rv (by lia),RH];exact k
def Cp(fs:List Fa)(n:Str):A:=match fs.find? (λf=>decide (f.n=n)) with
 |some f=>aI f.x f.L
 |none=>.non
theorem zD{fs:List Fa}{f:Fa}(h:f.n∉fs.map Fa.n)(m:Str):Cp (fs++[f]) m=if m=f.n then aI f.x f.L else Cp fs m:=by
 unfold Cp;rw[List.find?_append];by_cases z:m=f.n
 .rw[if_pos z];have:fs.find? (λg=>decide (g.n=m))=none:=VT.mpr λg N e=>h (by rw[<-z,<-of_decide_eq_true e];exact Sj N);rw[this];simp[z]
 .rw[if_neg z];have:([f].find? λg=>decide (g.n=m))=none:=by simp;exact λe=>z e.symm
  rw[this,Option.or_none]
theorem B5:∀{fs:List Fa}{f:Fa},(fs.map Fa.n).Nodup->f∈fs->Cp fs f.n=aI f.x f.L
 |g::fs,f,nd,hf=>by
  unfold Cp;rw[RL];rw[Ri,Ry] at nd;rcases Ra.mp hf with rfl|hf
  .simp
  .rw[decide_eq_false λe=>nd.1 (by rw[e];exact Sj hf)];exact B5 nd.2 hf
abbrev Co(rs:List Rw)(fs:List Fa)(x3 x4 x5 x6 x7:Sl):List Sl:=[.fr (.lst (rs.map gR)),.lv (.dic (aT (fs.map Fa.n) (Cp fs))),.lv (.lst (fs.map cK)),x3,x4,x5,x6,x7]
abbrev G4(i j k l:Nat):Mg:=dw 4 (aL (aG i) (aL (aG j) (aL (aG k) (aL (aG l) dW))))
abbrev Qj:Ms:=av (aO 7 (aa 6)) (av (fD (ag (aC (sP true) (aa 5) (mC .non))) (aO 7 (aN fL (lI (mix (aa 1) (aa 5)) (ah 6) (aB 1)))) bf) (av (kh 1 (aa 3) (aa 7)) (bK (eJ 2 (cf 2 (bX (lI (aa 3) (aa 4) (aa 7))))))))
theorem wq:cV=bx 7 (av (aO 1 pI) (av (aO 2 (cO c9)) (av (dt (bY (aa 0)) (G4 3 4 5 6) Qj) (bh (aa 2))))):=rfl
variable{rs0:List Rw}
theorem Ea{fs:List Fa}{r:Rw}(h:Pd ss rs fs)(k:Hx ss rs r)(hl:rs.length<=9)(b:ss.length<=12)(i:np x7=true):
  ∃f,Qj (Co rs0 fs (.fr (.str r.n)) (.fr (.str r.ax)) (.fr (n6 r.st)) (.fr (aI r.x r.L)) x7)=some (.nx,Co rs0 (fs++[f]) (.fr (.str r.n)) (.fr (.str r.ax)) (.fr (n6 r.st)) (.fr (aI r.x r.L)) (.fr (aI f.x f.L)))/\Pd ss (rs++[r]) (fs++[f]):=by
 have fl:fs.length<=9:=by rw[h.len];exact hl
 have nw:r.n∉fs.map Fa.n:=by rw[h.ns];exact k.nw
 have nd:(fs.map Fa.n).Nodup:=by rw[h.ns];exact h.nd
 have fin:∀f:Fa,f.n=r.n->f.ax=r.ax->av (kh 1 (aa 3) (aa 7)) (bK (eJ 2 (cf 2 (bX (lI (aa 3) (aa 4) (aa 7)))))) (Co rs0 fs (.fr (.str r.n)) (.fr (.str r.ax)) (.fr (n6 r.st)) (.fr (aI r.x r.L)) (.fr (aI f.x f.L)))=some (.nx,Co rs0 (fs++[f]) (.fr (.str r.n)) (.fr (.str r.ax)) (.fr (n6 r.st)) (.fr (aI r.x r.L)) (.fr (aI f.x f.L))):=by
  intro f en ea;have V:hE (aT (fs.map Fa.n) (Cp fs)) (.inr r.n) (aI f.x f.L)=aT ((fs++[f]).map Fa.n) (Cp (fs++[f])):=by rw[m9,if_neg nw,Rj,VU,en];refine il λm _=>?_;rw[zD (by rw[en];exact nw),en]
  have I:(fs++[f]).map cK=fs.map cK++[.tup [.str r.n,.str r.ax,aI f.x f.L]]:=by rw[Rj,<-en,<-ea];rfl
  refine cW (U:=[.fr (.lst (rs0.map gR)),.lv (.dic (aT ((fs++[f]).map Fa.n) (Cp (fs++[f])))),.lv (.lst (fs.map cK)),.fr (.str r.n),.fr (.str r.ax),.fr (n6 r.st),.fr (aI r.x r.L),.fr (aI f.x f.L)]) ?_ ?_
  .refine(lS (r:=.fr (aI f.x f.L)) rfl rfl rfl (Ft rfl rfl rfl rfl (by rw[kP,QY];lia))).trans ?_;rw[V];rfl
  .exact jr (a:=.tup [.str r.n,.str r.ax,aI f.x f.L]) (xs:=fs.map cK) rfl (cz rfl rfl) rfl rfl (by rw[QY];lia) (by rw[<-I];rfl)
 cases Q:r.st with
 |none=>refine⟨⟨r.n,r.ax,r.x,r.L⟩,?_,.snoc h k rfl rfl ⟨1,r.L,by lia,⟨nj k.sm.rise k.sm.Pp k.sm.nz,k.sm.nb,λn=>gk k.sm.rise n,k.sm.x.mono (by decide),k.sm.nms⟩⟩ (by rw[Q];exact .here)⟩;have:=fin ⟨r.n,r.ax,r.x,r.L⟩ rfl rfl;rw[Q] at this;refine cW (U:=Co rs0 fs (.fr (.str r.n)) (.fr (.str r.ax)) (.fr (n6 none)) (.fr (aI r.x r.L)) (.fr (aI r.x r.L))) (bB rfl rfl rfl i rfl) (cW (cZ (aD rfl) rfl) this)
 |some s=>
  obtain⟨q,c,A,Z⟩:=k.st s Q;obtain⟨g,D,z,ga⟩:=h.at q c;obtain⟨j,ps,E,ht⟩:=h.tt g D;obtain⟨N,v,T⟩:=De ht k.sm (by lia) b;obtain⟨p,X,y⟩:=D8 ht k.sm (by lia) b;have:N=p:=T.same y;subst this;have fd:=zp nd D;rw[z,ga,A,Z] at fd;refine⟨⟨r.n,r.ax,c8 g.x r.x,N⟩,?_,.snoc h k rfl rfl ⟨j+1,_,by lia,T⟩ (by rw[Q];exact .by' fd X)⟩;have fi:=fin ⟨r.n,r.ax,c8 g.x r.x,N⟩ rfl rfl;rw[Q] at fi;have K:bU i9 cj (.dic (aT (fs.map Fa.n) (Cp fs))) (.str s)=some (.fr (aI g.x g.L)):=by unfold bU i9 cj;dsimp only [gT];rw[iG,if_pos (by rw[<-A,<-z];exact Sj D),<-A,<-z,B5 nd D]
  refine cW (U:=Co rs0 fs (.fr (.str r.n)) (.fr (.str r.ax)) (.fr (n6 (some s))) (.fr (aI r.x r.L)) (.fr (aI r.x r.L))) (bB rfl rfl rfl i rfl) (cW (U:=Co rs0 fs (.fr (.str r.n)) (.fr (.str r.ax)) (.fr (n6 (some s))) (.fr (aI r.x r.L)) (.fr (aI (c8 g.x r.x) N))) (kL (aD rfl) (bB (aj (af (ao rfl rfl (fu (o:=none) rfl rfl ?_)) rfl) (aR v _)) rfl rfl rfl rfl)) fi);exact K
theorem yg(h:ET ss rs)(hl:rs.length<=9)(m:ss.length<=12):∃fs,iP cV [.lst (rs.map gR)] (.lst (fs.map cK))/\Pd ss rs fs:=by
 suffices Wp cV [.fr (.lst (rs.map gR))] λg _=>∃fs,g=.rt (.lv (.lst (fs.map cK)))/\Pd ss rs fs by obtain⟨_,_,e,fs,rfl,hp⟩:=this;exact⟨fs,⟨_,e⟩,hp⟩
 rw[wq]
 refine Wp.df (Wp.st (U:=[.fr (.lst (rs.map gR)),.lv (.dic []),.un,.un,.un,.un,.un,.un]) rfl (Wp.st (U:=Co rs [] .un .un .un .un .un) rfl ?_))
 refine Wp.sq (Wp.fr (as:=rs.map gR) (λi Z=>X5 λ(fs:List Fa)(x3 x4 x5 x6:Sl)=>∃x7,N4 (Z=Co rs fs x3 x4 x5 x6 x7) (Pd ss (rs.take i) fs) (np x3=true/\np x4=true) (np x5=true/\np x6=true/\np x7=true)) (dz rfl rfl) ⟨[],.un,.un,.un,.un,.un,rfl,by rw[U6];exact .nil,⟨rfl,rfl⟩,rfl,rfl,rfl⟩ ?_ ?_)
 .rintro i a Z ha ⟨fs,x3,x4,x5,x6,x7,rfl,hp,⟨h3,h4⟩,h5,s,q⟩
  rw[Rn] at ha
  cases G:rs[i]? with
  |none=>rw[G] at ha;cases ha
  |some r=>rw[G] at ha;cases ha;obtain⟨f,e,F⟩:=Ea (rs0:=rs) hp (h.at G) (by rw[RX];lia) m q;rw[<-take_snoc G] at F;refine⟨Co rs fs (.fr (.str r.n)) (.fr (.str r.ax)) (.fr (n6 r.st)) (.fr (aI r.x r.L)) x7,?_,Wp.en e ⟨.inl rfl,fs++[f],_,_,_,_,_,rfl,F,⟨rfl,rfl⟩,rfl,rfl,rfl⟩⟩;cases x3<;>first|(cases h3;done)|(cases x4<;>first|(cases h4;done)|(cases x5<;>first|(cases h5;done)|(cases x6<;>first|(cases s;done)|rfl)))
 .rintro Z ⟨fs,x3,x4,x5,x6,x7,rfl,hp,-,-⟩
  rw[QY,RH] at hp
  exact⟨rfl,Wp.en (aY rfl rfl) ⟨fs,rfl,hp⟩⟩
theorem Dt.up{m n:Nat}{a:A}(h:Dt m a)(k:m<=n):Dt n a:=by obtain⟨d,h1,h2⟩:=h;exact⟨d,h1,by lia⟩
theorem Hh(x:Num)(L:List Pr):Dt 5 (aI x L):=Dt.tup (.cons (Dt.nm x) (.cons (Dt.tup (ud.of λa ha=>by obtain⟨p,_,rfl⟩:=RC.mp ha;exact Dt.tup (.cons (.str _) (.cons (Dt.nm _) .nil)))) .nil))
theorem Nv(f:Fa):Dt 38 (cK f):=Dt.tup (n:=37) (.cons (Dt.up (m:=5) (.str _) (by decide)) (.cons (Dt.up (m:=5) (.str _) (by decide)) (.cons (Dt.up (Hh f.x f.L) (by decide)) .nil)))
theorem yK(fs:List Fa):pq (.lst (fs.map cK)) (.lst (fs.map cK))=some true:=jT (Dt.lst (n:=39) (ud.of λa ha=>by obtain⟨f,_,rfl⟩:=RC.mp ha;exact Dt.up (Nv f) (by decide)))
theorem E5(ss:List Str):pq (.lst (ss.map A.str)) (.lst (ss.map A.str))=some true:=jT (Dt.lst (n:=39) (ud.of λa ha=>by obtain⟨f,_,rfl⟩:=RC.mp ha;exact Dt.up (m:=5) (.str _) (by decide)))
theorem MQ(f:Sf):Dt 20 (i4 f):=Dt.tup (n:=19) (.cons (Dt.up (m:=5) (.str _) (by decide)) (.cons (Dt.up (m:=5) (Dt.nm _) (by decide)) (.cons (Dt.up (m:=5) (.str _) (by decide)) .nil)))
theorem Nu(z:Sz):Dt 38 (jG z):=by
 have k:Dt 21 (.tup (z.f.map i4)):=Dt.tup (n:=20) (ud.of λa ha=>by obtain⟨f,_,rfl⟩:=RC.mp ha;exact MQ f)
 exact Dt.tup (n:=37) (.cons (Dt.up (m:=5) (.str _) (by decide)) (.cons (Dt.up (m:=5) (Dt.nm _) (by decide)) (.cons (Dt.up (m:=5) (Dt.nm _) (by decide)) (.cons (Dt.up k (by decide)) .nil))))
theorem Jx(zs:List Sz):pq (.lst (zs.map jG)) (.lst (zs.map jG))=some true:=jT (Dt.lst (n:=39) (ud.of λa ha=>by obtain⟨z,_,rfl⟩:=RC.mp ha;exact Dt.up (Nu z) (by decide)))
theorem EM{nm:Str}{fs:List Fa}(hl:fs.length<=1000):eR (cy 0 aK) (dY nm zs fs) [] (.lv (.lst (fs.map cK))) (dY nm zs fs):=by
 refine⟨[],?_⟩;show (match aK [.fr (dY nm zs fs).a] with
  |some (.rt s,T)=>if kG (au 1 T)[0]?&&(s::au 1 T).all uZ then some (Fl.rt s,(au 1 T).set 0 (.pv (dY nm zs fs))) else none
  |some (.ex x,T)=>if kG (au 1 T)[0]?&&(au 1 T).all uZ then some (.ex x,(au 1 T).set 0 (.pv (dY nm zs fs))) else none
  | _=>none)=_
 rw[AR nm zs fs hl];show (if (true&&(oq (fs.map cK)&&true))=true then _ else _)=_;rw[Ce];rfl
theorem Ec(nm:Str)(zs:List Sz)(fs:List Fa):eR az (dY nm zs fs) [] (.fr (sQ zs)) (dY nm zs fs):=⟨_,yy nm zs (fs.map cK)⟩
theorem JR{xs:List A}(h:k<=xs.length):K3 (.lst xs) none (some (k:Int))=some (.nw (.lst (xs.take k))):=by unfold K3;dsimp only;unfold tm;rw[HT.AV,HT.CD,Nat.min_eq_left h];simp
abbrev du(sc:A)(x1 x2 x3 x4 x5 x6 x7 x8 x9 x10 x11 a s Z z:Sl):List Sl:=[.fr sc,x1,x2,x3,x4,x5,x6,x7,x8,x9,x10,x11,a,s,Z,z]
abbrev OV:Mi Rr:=aQ (aN aK (bF (aM "Part" "faces" 7))) (aQ (bq (cy 0 aK) [] (bF (aM "Part" "faces" 7))) (aN aK (bF (bg "Part" "faces" (ah 7)))))
variable{x1 x2 x12 x13 x14 x15:Sl}
theorem BW{sc:A}{nm:Str}{fs:List Fa}(hl:fs.length<=1000):OV (du sc x1 x2 x3 x4 x5 x6 (.lv (dY nm zs fs)) x8 x9 x10 x11 x12 x13 x14 x15)=some (.ok (.nw (.lst (fs.map cK))),du sc x1 x2 x3 x4 x5 x6 (.lv (dY nm zs fs)) x8 x9 x10 x11 x12 x13 x14 x15):=by refine j4 rfl (cY (aj (rs:=[.rf 7]) rfl ?_));exact(dM (as:=[]) (i:=7) (EM hl) rfl rfl).trans rfl
theorem Mv{sc:A}{xs:List A}(R:pq (.lst xs) (.lst xs)=some true)(h:∀a∈xs,Val bZ [a] (.bl true))(hl:xs.length<=1000):eE (eV 0 aU) [] [.rf 15,.fr (.lst xs)] (du sc x1 x2 x3 x4 x5 x6 x7 x8 x9 x10 x11 x12 x13 x14 (.lv (.lst xs)))=some (.ok (.fr (.bl true)),du sc x1 x2 x3 x4 x5 x6 x7 x8 x9 x10 x11 x12 x13 x14 (.lv (.lst xs))):=by
 have r:eR (eV 0 aU) (.lst xs) [.lst xs] (.fr (.bl true)) (.lst xs):=by
  refine⟨[.un],?_⟩;show (match aU [.fr (.lst xs),.fr (.lst xs)] with
   |some (.rt s,T)=>if kG (au 2 T)[0]?&&(s::au 2 T).all GF then some (Fl.rt s,(au 2 T).set 0 (.pv (.lst xs))) else none
   |some (.ex x,T)=>if kG (au 2 T)[0]?&&(au 2 T).all GF then some (.ex x,(au 2 T).set 0 (.pv (.lst xs))) else none
   | _=>none)=_
  rw[pD rfl rfl R h hl];rfl
 exact(dM (as:=[.lst xs]) (i:=15) r rfl rfl).trans rfl
abbrev PN:Ms:=av (tG (mix (aa 8) (aa 10)) (G4 11 12 13 14)) (av (t9 (ag (aC (sP true) (aQ (aN aW (aJ (aM "Part" "put_face" 7) (lG (ah 11) (ah 12) (ah 13) (ah 14)))) (aQ (bq (cy 0 aW) [] (aJ (aM "Part" "put_face" 7) (lG (ah 11) (ah 12) (ah 13) (ah 14)))) (aN aW (aJ (bg "Part" "put_face" (ah 7)) (lG (ah 11) (ah 12) (ah 13) (ah 14)))))) (mC .non)))) (av (aO 15 OV) (av (t9 (fG (ag (bq (eV 0 aU) [] (bC (aa 15) (fY (Fw (aa 9) eI (ip (aC bD (aa 10) (aB 1)))))))))) (bK (hV 15)))))
theorem Df{sc:A}{nm:Str}{fs ps:List Fa}{r:Rw}{f:Fa}{i:Nat}(hz:fE b zs)(u:ss=zs.flatMap cM)(hp:Pd ss rs fs)(k:Hx ss rs r)(en:f.n=r.n)(ea:f.ax=r.ax)(hc:GW fs r.ax r.x r.L (n6 r.st) f.x f.L)(y:rs0[i]?=some r)(hi:fs.length=i)(I:i<=9)(S:ps.take (i+1)=fs++[f])(J:i+1<=ps.length)(m:∀g∈fs++[f],g.L.length<=1000)
  (s:np x11=true)(Z:np x12=true)(z:np x13=true)(h:np x14=true)(q:np x15=true):
  PN (du sc x1 x2 x3 x4 x5 x6 (.lv (dY nm zs fs)) (.fr (.lst (rs0.map gR))) (.lv (.lst (ps.map cK))) (.fr (.int i)) x11 x12 x13 x14 x15)=some (.nx,du sc x1 x2 x3 x4 x5 x6 (.lv (dY nm zs (fs++[f]))) (.fr (.lst (rs0.map gR))) (.lv (.lst (ps.map cK))) (.fr (.int i)) (.fr (.str r.n)) (.fr (.str r.ax)) (.fr (n6 r.st)) (.fr (aI r.x r.L)) (.lv (.lst []))):=by
 have X:f=⟨r.n,r.ax,f.x,f.L⟩:=by rw[<-en,<-ea]
 have v:=Kt (nm:=nm) (n:=r.n) (ax:=r.ax) k.wd k.nf (by rw[hp.ns];exact k.nw) (by lia) hz k.ax (λp hp=>u▸k.sm.nms p hp) (Rm k.sm.len (by decide)) hc;rw[<-X] at v;refine cW (U:=du sc x1 x2 x3 x4 x5 x6 (.lv (dY nm zs fs)) (.fr (.lst (rs0.map gR))) (.lv (.lst (ps.map cK))) (.fr (.int i)) (.fr (.str r.n)) (.fr (.str r.ax)) (.fr (n6 r.st)) (.fr (aI r.x r.L)) x15) ?_ ?_
 .refine sk (ao rfl rfl (bQ (a:=gR r) (.inl rfl) (gC (by rw[Rn,y];rfl)))) ?_;cases x11<;>first|(cases s;done)|(cases x12<;>first|(cases Z;done)|(cases x13<;>first|(cases z;done)|(cases x14<;>first|(cases h;done)|rfl)))
 refine cW (U:=du sc x1 x2 x3 x4 x5 x6 (.lv (dY nm zs (fs++[f]))) (.fr (.lst (rs0.map gR))) (.lv (.lst (ps.map cK))) (.fr (.int i)) (.fr (.str r.n)) (.fr (.str r.ax)) (.fr (n6 r.st)) (.fr (aI r.x r.L)) x15) (cZ (aD (ao (cY (aj (rs:=[.rf 7,.fr (.str r.n),.fr (.str r.ax),.fr (n6 r.st),.fr (aI r.x r.L)]) rfl ((dM (as:=[.str r.n,.str r.ax,n6 r.st,aI r.x r.L]) (i:=7) v rfl rfl).trans rfl))) rfl rfl)) rfl) ?_;refine cW (U:=du sc x1 x2 x3 x4 x5 x6 (.lv (dY nm zs (fs++[f]))) (.fr (.lst (rs0.map gR))) (.lv (.lst (ps.map cK))) (.fr (.int i)) (.fr (.str r.n)) (.fr (.str r.ax)) (.fr (n6 r.st)) (.fr (aI r.x r.L)) (.lv (.lst ((fs++[f]).map cK)))) (bB (BW (by simp;lia)) rfl rfl q rfl) ?_;have es:fY (Fw (aa 9) eI (ip (aC bD (aa 10) (aB 1)))) (du sc x1 x2 x3 x4 x5 x6 (.lv (dY nm zs (fs++[f]))) (.fr (.lst (rs0.map gR))) (.lv (.lst (ps.map cK))) (.fr (.int i)) (.fr (.str r.n)) (.fr (.str r.ax)) (.fr (n6 r.st)) (.fr (aI r.x r.L)) (.lv (.lst ((fs++[f]).map cK))))=some (.ok (.fr (.lst ((fs++[f]).map cK))),du sc x1 x2 x3 x4 x5 x6 (.lv (dY nm zs (fs++[f]))) (.fr (.lst (rs0.map gR))) (.lv (.lst (ps.map cK))) (.fr (.int i)) (.fr (.str r.n)) (.fr (.str r.ax)) (.fr (n6 r.st)) (.fr (aI r.x r.L)) (.lv (.lst ((fs++[f]).map cK)))):=by refine eA (x:=.nw (.lst ((fs++[f]).map cK))) (bk rfl (bk rfl (bk (u7 (i:=((i+1:Nat):Int)) rfl) ?_))) rfl;have c:=JR (xs:=ps.map cK) (k:=i+1) (by rw[QY];exact J);rw[<-List.map_take,S] at c;show (match K3 (.lst (ps.map cK)) none (some ((i+1:Nat):Int)) with|some r=>some ((R7 r:Except Str Rr),_)|none=>none)=_;rw[c]
 refine cW (cZ (dk (b:=true) (aD (aj (af rfl (af es rfl)) (Mv (yK _) (λa ha=>?_) (by simp;lia))))) rfl) (gw (r:=.fr .non) rfl);obtain⟨g,N,rfl⟩:=RC.mp ha;exact Lu g (m g N)
theorem Pd.step{ps:List Fa}(h:Pd ss rs ps):∀{i:Nat}{r:Rw},rs[i]?=some r->∃f,N6 (ps.take (i+1)=ps.take i++[f]) (Pd ss (rs.take i) (ps.take i)) (Hx ss (rs.take i) r) (f.n=r.n) (f.ax=r.ax) (GW (ps.take i) r.ax r.x r.L (n6 r.st) f.x f.L):=by
 induction h with
 |nil=>exact λe=>by simp at e
 |snoc h k en ea ht hp l=>
  rename_i rs fs v D;have hl:=h.len;intro i r e;have hi:=(Q2.mp e).1;rw[Rc,S7] at hi;by_cases z:i<rs.length
  .rw[RF z] at e;obtain⟨f,h1,h2,h3,h4,h5,m⟩:=l e;refine⟨f,?_,?_,?_,h4,h5,?_⟩
   .rw[Rv (by lia),Rv (by lia)];exact h1
   .rw[Rv (by lia),Rv (by lia)];exact h2
   .rw[Rv (by lia)];exact h3
   .rw[Rv (by lia)];exact m
  .have:i=rs.length:=by lia
   subst this;rw[Rx (by lia)] at e;simp at e;subst e;have T:(fs++[D]).take rs.length=fs:=by rw[Rv (by lia),<-hl,RH]
   have y:(rs++[v]).take rs.length=rs:=by rw[Rv (by lia),RH]
   have K:(fs++[D]).take (rs.length+1)=fs++[D]:=TR (by simp;lia);refine⟨D,?_,?_,?_,en,ea,?_⟩
   .rw[T,K]
   .rw[T,y];exact h
   .rw[y];exact k
   .rw[T];exact hp
theorem Pd.lL{ps:List Fa}(h:Pd ss rs ps)(m:ss.length<=12):∀g∈ps,g.L.length<=1000:=λg N=>by obtain⟨j,qs,_,t⟩:=h.tt g N;have:=gr t.cn.rise t.Mq;lia
theorem C7{sc:A}{nm:Str}{ps:List Fa}(hz:fE b zs)(u:ss=zs.flatMap cM)(L:ss.length<=12)(hp:Pd ss rs ps)(I:rs.length<=9)(h:np x10=true)(p:np x11=true)(c:np x12=true)(q:np x13=true)(X:np x14=true)(E:np x15=true):
  Wp (dt (dU (bT d6 (aa 8))) (aG 10) PN) (du sc x1 x2 x3 x4 x5 x6 (.lv (dY nm zs [])) (.fr (.lst (rs.map gR))) (.lv (.lst (ps.map cK))) x10 x11 x12 x13 x14 x15) λf Z=>f=.nx/\X5 λ(K v s x k:Sl)=>∃z,N3 (Z=du sc x1 x2 x3 x4 x5 x6 (.lv (dY nm zs ps)) (.fr (.lst (rs.map gR))) (.lv (.lst (ps.map cK))) K v s x k z) (np K=true/\np v=true/\np s=true) (np x=true/\np k=true/\np z=true):=by
 have hl:=hp.len;have R:dU (bT d6 (aa 8)) (du sc x1 x2 x3 x4 x5 x6 (.lv (dY nm zs [])) (.fr (.lst (rs.map gR))) (.lv (.lst (ps.map cK))) x10 x11 x12 x13 x14 x15)=some (.ok (fT 0 rs.length),du sc x1 x2 x3 x4 x5 x6 (.lv (dY nm zs [])) (.fr (.lst (rs.map gR))) (.lv (.lst (ps.map cK))) x10 x11 x12 x13 x14 x15):=by have e:bT d6 (aa 8) (du sc x1 x2 x3 x4 x5 x6 (.lv (dY nm zs [])) (.fr (.lst (rs.map gR))) (.lv (.lst (ps.map cK))) x10 x11 x12 x13 x14 x15)=some (.ok (.fr (.int (((rs.map gR).length:Nat):Int))),du sc x1 x2 x3 x4 x5 x6 (.lv (dY nm zs [])) (.fr (.lst (rs.map gR))) (.lv (.lst (ps.map cK))) x10 x11 x12 x13 x14 x15):=rfl;rw[QY] at e;exact kF e (AJ (by lia) _)
 refine Wp.fr (as:=fT 0 rs.length) (λi Z=>X5 λ(K v s x k:Sl)=>∃z,N3 (Z=du sc x1 x2 x3 x4 x5 x6 (.lv (dY nm zs (ps.take i))) (.fr (.lst (rs.map gR))) (.lv (.lst (ps.map cK))) K v s x k z) (np K=true/\np v=true/\np s=true) (np x=true/\np k=true/\np z=true)) R ⟨_,_,_,_,_,_,rfl,⟨h,p,c⟩,q,X,E⟩ ?_ ?_
 .rintro i a Z ha ⟨K,v,s,x,k,z,rfl,⟨G,H,O⟩,C,o,S⟩;obtain⟨hi,rfl⟩:=kU ha;obtain⟨f,h1,h2,h3,h4,h5,m⟩:=hp.step (Rg hi);have t:=Df (sc:=sc) (x1:=x1) (x2:=x2) (x3:=x3) (x4:=x4) (x5:=x5) (x6:=x6) (nm:=nm) (i:=i) hz u h2 h3 h4 h5 m (Rg hi) (by rw[RX];lia) (by lia) h1 (by lia) (λg N=>hp.lL L g (Td (h1▸N))) H O C o S;rw[<-h1] at t;exact⟨du sc x1 x2 x3 x4 x5 x6 (.lv (dY nm zs (ps.take i))) (.fr (.lst (rs.map gR))) (.lv (.lst (ps.map cK))) (.fr (.int i)) v s x k z,by cases K<;>first|(cases G;done)|rfl,Wp.en t ⟨.inl rfl,_,_,_,_,_,_,rfl,⟨rfl,rfl,rfl⟩,rfl,rfl,rfl⟩⟩
 .rintro Z ⟨K,v,s,x,k,z,rfl,U,D⟩;refine⟨rfl,_,_,_,_,_,_,?_,U,D⟩;rw[gz,TR (by lia)]
theorem CB(h:∀z∈zs,qH b z)(v:60<=b)(b1:b<=4000)(hl:zs.length<=60)(c:S.length=16):jc 4 (G4 16 17 18 19) bp (fM "Size" cw [] (lG (ah 16) (ah 17) (ah 18) (ah 19))) (zs.map jG) S=some (.ok (.nw (.lst (zs.map cG))),S):=by
 match S,c with
 |[a0,a1,a2,a3,a4,a5,a6,a7,a8,a9,a10,a11,a12,a13,a14,a15],_=>
  obtain⟨ys,O,e,A,s,x,k,rfl,g,rfl⟩:=iQ (G:=G4 16 17 18 19) (t:=bp) (e:=fM "Size" cw [] (lG (ah 16) (ah 17) (ah 18) (ah 19))) (as:=zs.map jG)
   (λj acc Z=>∃A s x k:Sl,Z=[a0,a1,a2,a3,a4,a5,a6,a7,a8,a9,a10,a11,a12,a13,a14,a15,A,s,x,k]/\(np A=true/\np s=true/\np x=true/\np k=true)/\acc=(zs.take j).map cG) (Z:=[a0,a1,a2,a3,a4,a5,a6,a7,a8,a9,a10,a11,a12,a13,a14,a15,.un,.un,.un,.un]) ⟨.un,.un,.un,.un,rfl,⟨rfl,rfl,rfl,rfl⟩,rfl⟩ (by
    rintro i a acc Z ha ⟨A,s,x,k,rfl,⟨X,D,w,p⟩,rfl⟩;rw[Rn] at ha;cases L:zs[i]? with
    |none=>rw[L] at ha;cases ha
    | some z=>rw[L] at ha;cases ha;refine⟨[a0,a1,a2,a3,a4,a5,a6,a7,a8,a9,a10,a11,a12,a13,a14,a15,.fr (.str z.n),.fr (nm z.l),.fr (nm z.m),.fr (.tup (z.f.map i4))],?_,.inl ⟨_,.nw (.obj "Size" (vp z)),_,cG z,_,rfl,iY (rs:=[.fr (.str z.n),.fr (nm z.l),.fr (nm z.m),.fr (.tup (z.f.map i4))]) rfl (zo (h z (Rt L)) v b1 _),rfl,_,_,_,_,rfl,⟨rfl,rfl,rfl,rfl⟩,by rw[take_snoc L,Rj];rfl⟩⟩;cases A<;>first|(cases X;done)|(cases s<;>first|(cases D;done)|(cases x<;>first|(cases w;done)|(cases k<;>first|(cases p;done)|rfl))))
  rw[QY,RH] at e;unfold jc;rw[if_pos (by rw[QY];lia)];show (match cX _ _ _ (zs.map jG) [] [a0,a1,a2,a3,a4,a5,a6,a7,a8,a9,a10,a11,a12,a13,a14,a15,.un,.un,.un,.un] with|some (ys,O)=>some ((R7 (Rr.nw (.lst ys)):Except Str Rr),O.take 16)|none=>none)=_;rw[e];rfl
theorem DD{n:Int}(p:Wd w)(h:fE b zs)(nd:(zs.flatMap cM).Nodup)(a:∀z∈zs.flatMap cM,Wd z)(T:60<=b)(b1:b<=4000)(L:Wl n o)(hn:n<2^34)(sc:A)(x1 x4 x5 x7 x8 x9 x10 x11 x12 x13 x14 x15:Sl):
  ∃o',fM "Part" cE [] (bC (ah 3) (rP 6 (aN ai (bC (aa 2) (aB 2))))) (du sc x1 (.lv o) (.fr (.str w)) x4 x5 (.lv (.lst (zs.map cG))) x7 x8 x9 x10 x11 x12 x13 x14 x15)=some (.ok (.nw (gX w zs [])),du sc x1 (.lv o') (.fr (.str w)) x4 x5 (.lv (.lst (zs.map cG))) x7 x8 x9 x10 x11 x12 x13 x14 x15)/\Wl (n+1) o':=by
 obtain⟨r,o',v,H,J,R⟩:=sW L (show n<2^40 by lia) (show (0:Int)<2 by decide) (by decide);refine⟨o',?_,R⟩;have ht:aN ai (bC (aa 2) (aB 2)) (du sc x1 (.lv o) (.fr (.str w)) x4 x5 (.lv (.lst (zs.map cG))) x7 x8 x9 x10 x11 x12 x13 x14 x15)=some (.ok (.fr (.int r)),du sc x1 (.lv o') (.fr (.str w)) x4 x5 (.lv (.lst (zs.map cG))) x7 x8 x9 x10 x11 x12 x13 x14 x15):=aj (rs:=[.rf 2,.fr (.int 2)]) rfl ((dM (as:=[.int 2]) (i:=2) v rfl rfl).trans rfl);have:r=0\/r=1:=by lia
 rcases this with rfl|rfl
 .obtain⟨Z,k⟩:=zT p h nd a T b1 (S2:=.pv (.lst (zs.map cG))) (.inl rfl);have ha:rP 6 (aN ai (bC (aa 2) (aB 2))) (du sc x1 (.lv o) (.fr (.str w)) x4 x5 (.lv (.lst (zs.map cG))) x7 x8 x9 x10 x11 x12 x13 x14 x15)=some (.ok (.rf 6),du sc x1 (.lv o') (.fr (.str w)) x4 x5 (.lv (.lst (zs.map cG))) x7 x8 x9 x10 x11 x12 x13 x14 x15):=by
   show (match aN ai (bC (aa 2) (aB 2)) _ with
    |some (.ok (.fr (.int k)),U)=>if k=0 then some ((R7 (Rr.rf 6):Except Str Rr),U) else if k=1 then some (.ok (.fr (.tup (zs.map cG))),U) else none
    | _=>none)=_
   rw[ht];rfl
  refine iY (rs:=[.fr (.str w),.rf 6]) (af rfl (af ha rfl)) ?_;show (match cE [.pv (.obj "Part" []),.fr (.str w),.pv (.lst (zs.map cG))] with
   |some (.rt (.fr .non),.pv o2::Y)=>match putL (du sc x1 (.lv o') (.fr (.str w)) x4 x5 (.lv (.lst (zs.map cG))) x7 x8 x9 x10 x11 x12 x13 x14 x15) [.fr (.str w),.rf 6] (au 2 Y) (du sc x1 (.lv o') (.fr (.str w)) x4 x5 .un x7 x8 x9 x10 x11 x12 x13 x14 x15) with
    |some O=>some ((R7 (Rr.nw o2):Except Str Rr),O)
    |none=>none
   |some (.ex x,s::Y)=>match putL (du sc x1 (.lv o') (.fr (.str w)) x4 x5 (.lv (.lst (zs.map cG))) x7 x8 x9 x10 x11 x12 x13 x14 x15) [.fr (.str w),.rf 6] (au 2 Y) (du sc x1 (.lv o') (.fr (.str w)) x4 x5 .un x7 x8 x9 x10 x11 x12 x13 x14 x15) with
    |some O=>some (.error x,O)
    |none=>none
   | _=>none)=_
  rw[k];rfl
 .obtain⟨Z,k⟩:=zT p h nd a T b1 (S2:=.fr (.tup (zs.map cG))) (.inr rfl);have ha:rP 6 (aN ai (bC (aa 2) (aB 2))) (du sc x1 (.lv o) (.fr (.str w)) x4 x5 (.lv (.lst (zs.map cG))) x7 x8 x9 x10 x11 x12 x13 x14 x15)=some (.ok (.fr (.tup (zs.map cG))),du sc x1 (.lv o') (.fr (.str w)) x4 x5 (.lv (.lst (zs.map cG))) x7 x8 x9 x10 x11 x12 x13 x14 x15):=by
   show (match aN ai (bC (aa 2) (aB 2)) _ with
    |some (.ok (.fr (.int k)),U)=>if k=0 then some ((R7 (Rr.rf 6):Except Str Rr),U) else if k=1 then some (.ok (.fr (.tup (zs.map cG))),U) else none
    | _=>none)=_
   rw[ht];rfl
  refine iY (rs:=[.fr (.str w),.fr (.tup (zs.map cG))]) (af rfl (af ha rfl)) ?_;show (match cE [.pv (.obj "Part" []),.fr (.str w),.fr (.tup (zs.map cG))] with
   |some (.rt (.fr .non),.pv o2::Y)=>match putL (du sc x1 (.lv o') (.fr (.str w)) x4 x5 (.lv (.lst (zs.map cG))) x7 x8 x9 x10 x11 x12 x13 x14 x15) [.fr (.str w),.fr (.tup (zs.map cG))] (au 2 Y) (du sc x1 (.lv o') (.fr (.str w)) x4 x5 (.lv (.lst (zs.map cG))) x7 x8 x9 x10 x11 x12 x13 x14 x15) with
    |some O=>some ((R7 (Rr.nw o2):Except Str Rr),O)
    |none=>none
   |some (.ex x,s::Y)=>match putL (du sc x1 (.lv o') (.fr (.str w)) x4 x5 (.lv (.lst (zs.map cG))) x7 x8 x9 x10 x11 x12 x13 x14 x15) [.fr (.str w),.fr (.tup (zs.map cG))] (au 2 Y) (du sc x1 (.lv o') (.fr (.str w)) x4 x5 (.lv (.lst (zs.map cG))) x7 x8 x9 x10 x11 x12 x13 x14 x15) with
    |some O=>some (.error x,O)
    |none=>none
   | _=>none)=_
  rw[k];rfl
abbrev M6:Mi Rr:=aQ (aN az (bF (aM "Part" "stock" 7))) (aQ (bq (cy 0 az) [] (bF (aM "Part" "stock" 7))) (aN az (bF (bg "Part" "stock" (ah 7)))))
theorem yo{sc:A}{nm:Str}{fs:List Fa}:fY M6 (du sc x1 x2 x3 x4 x5 x6 (.lv (dY nm zs fs)) x8 x9 x10 x11 x12 x13 x14 x15)=some (.ok (.fr (sQ zs)),du sc x1 x2 x3 x4 x5 x6 (.lv (dY nm zs fs)) x8 x9 x10 x11 x12 x13 x14 x15):=
 eA (cY (aj (rs:=[.rf 7]) rfl ((dM (as:=[]) (i:=7) (Ec nm zs fs) rfl rfl).trans rfl))) rfl
theorem xV{a b:A}{x y:Rr}(h:pq a b=some true)(h1:res Z x=some a)(h2:res Z y=some b):gO gQ x y Z=some (.ok (.fr (.bl false)),Z):=fu (o:=none) h1 h2 (by unfold gQ;rw[h];rfl)
theorem yE{sc:A}{nm:Str}{fs:List Fa}(h:fE b zs)(k:60<=b)(b1:b<=4000):ag (aC gQ (aN bR (bF (fY M6))) (aa 4)) (du sc x1 x2 x3 (.fr (.lst (zs.map jG))) x5 x6 (.lv (dY nm zs fs)) x8 x9 x10 x11 x12 x13 x14 x15)=some (.ok false,du sc x1 x2 x3 (.fr (.lst (zs.map jG))) x5 x6 (.lv (dY nm zs fs)) x8 x9 x10 x11 x12 x13 x14 x15):=
 aD (ao (aj (af yo rfl) (dN (zc h k b1) _)) rfl (xV (Jx zs) rfl rfl))
theorem LJ{sc:A}{nm:Str}{fs:List Fa}(h:fE b zs)(k:60<=b)(b1:b<=4000)(hl:fs.length<=1000):t9 (oI (ag (aC gQ OV (aa 9))) (ag (aC gQ (aN bR (bF (fY M6))) (aa 4)))) (du sc x1 x2 x3 (.fr (.lst (zs.map jG))) x5 x6 (.lv (dY nm zs fs)) x8 (.lv (.lst (fs.map cK))) x10 x11 x12 x13 x14 x15)=some (.nx,du sc x1 x2 x3 (.fr (.lst (zs.map jG))) x5 x6 (.lv (dY nm zs fs)) x8 (.lv (.lst (fs.map cK))) x10 x11 x12 x13 x14 x15):=
 cZ (fQ (aD (ao (BW hl) rfl (xV (yK fs) rfl rfl))) (yE h k b1)) rfl
theorem eq_str(s:Str):pq (.str s) (.str s)=some true:=jT (Dt.up (m:=5) (.str s) (by decide))
theorem Jg{sc:A}{nm:Str}{fs:List Fa}(m:Mi Rr):aQ (cS ["Size", "Part"] 7 "name") m (du sc x1 x2 x3 x4 x5 x6 (.lv (dY nm zs fs)) x8 x9 x10 x11 x12 x13 x14 x15)=some (.ok (.fr (.str nm)),du sc x1 x2 x3 x4 x5 x6 (.lv (dY nm zs fs)) x8 x9 x10 x11 x12 x13 x14 x15):=by refine cY ?_;show (if (["Size", "Part"]:List Str).contains "Part" then (match (Di nm zs).lookup ("name" : Str) with|some a=>some ((R7 (Rr.fr a):Except Str Rr),_)|none=>none) else none)=_;rw[if_pos (by decide +kernel)];rfl
theorem MO{sc:A}{nm:Str}(h:fE b zs)(v:60<=b)(b1:b<=4000)(O P:Mi Rr):t9 (oI (ag (aC gQ (aQ (cS ["Size", "Part"] 7 "name") O) (aa 3))) (oI (fG (ag (aN aU (bC (fY (aQ (aN bc (bF (bg "Stock" "names" (fY M6)))) P)) (ah 5))))) (ag (aC gQ (aN bR (bF (fY M6))) (aa 4))))) (du sc x1 x2 (.fr (.str nm)) (.fr (.lst (zs.map jG))) (.fr (.lst ((zs.flatMap cM).map A.str))) x6 (.lv (dY nm zs [])) x8 x9 x10 x11 x12 x13 x14 x15)=some (.nx,du sc x1 x2 (.fr (.str nm)) (.fr (.lst (zs.map jG))) (.fr (.lst ((zs.flatMap cM).map A.str))) x6 (.lv (dY nm zs [])) x8 x9 x10 x11 x12 x13 x14 x15):=by
 have k:Val aU [.lst ((zs.flatMap cM).map A.str),.lst ((zs.flatMap cM).map A.str)] (.bl true):=⟨_,pD rfl rfl (E5 _) (λa ha=>by obtain⟨s,_,rfl⟩:=RC.mp ha;exact MM s) (by rw[QY];have:=h.ln;lia)⟩
 exact cZ (fQ (aD (ao (Jg _) rfl (xV (eq_str nm) rfl rfl))) (fQ (dk (b:=true) (aD (aj (af (eA (uO h yo _) rfl) rfl) (aR k _)))) (yE h v b1))) rfl
def OA:Ms:=(av (aO 2 (aN hY (bC (ah 0) (ah 1)))) (av (aO 3 (aN aX (bC (aa 2) (fY (cO c9))))) (av (tG (aN dh (bC (aa 2) (aB 12))) (dw 2 (aL (aG 4) (aL (aG 5) dW)))) (av (aO 6 (bH 4 (bY (aa 4)) (dw 4 (aL (aG 16) (aL (aG 17) (aL (aG 18) (aL (aG 19) dW))))) bp (fM "Size" cw [] (lG (ah 16) (ah 17) (ah 18) (ah 19))))) (av (aO 7 (fM "Part" cE [] (bC (ah 3) (rP 6 (aN ai (bC (aa 2) (aB 2))))))) (av (bK (hV 6)) (av (t9 (oI (ag (aC gQ (aQ (cS ["Size", "Part"] 7 "name") (eU (aZ ["Size", "Part"] "name") (aa 7))) (aa 3))) (oI (fG (ag (aN aU (bC (fY (aQ (aN bc (bF (bg "Stock" "names" (fY (aQ (aN az (bF (aM "Part" "stock" 7))) (aQ (bq (cy 0 az) [] (bF (aM "Part" "stock" 7))) (aN az (bF (bg "Part" "stock" (ah 7)))))))))) (aN bI (bF (bg "Size" "names" (fY (aQ (aN az (bF (aM "Part" "stock" 7))) (aQ (bq (cy 0 az) [] (bF (aM "Part" "stock" 7))) (aN az (bF (bg "Part" "stock" (ah 7)))))))))))) (ah 5))))) (ag (aC gQ (aN bR (bF (fY (aQ (aN az (bF (aM "Part" "stock" 7))) (aQ (bq (cy 0 az) [] (bF (aM "Part" "stock" 7))) (aN az (bF (bg "Part" "stock" (ah 7))))))))) (aa 4)))))) (av (aO 8 (aN dq (lI (aa 2) (ah 5) (fY (aC bD (aB 1) (aN ai (bC (aa 2) (aB 9)))))))) (av (aO 9 (aN cV (bF (ah 8)))) (av (dt (dU (bT d6 (aa 8))) (aG 10) (av (tG (mix (aa 8) (aa 10)) (dw 4 (aL (aG 11) (aL (aG 12) (aL (aG 13) (aL (aG 14) dW)))))) (av (t9 (ag (aC (sP true) (aQ (aN aW (aJ (aM "Part" "put_face" 7) (lG (ah 11) (ah 12) (ah 13) (ah 14)))) (aQ (bq (cy 0 aW) [] (aJ (aM "Part" "put_face" 7) (lG (ah 11) (ah 12) (ah 13) (ah 14)))) (aN aW (aJ (bg "Part" "put_face" (ah 7)) (lG (ah 11) (ah 12) (ah 13) (ah 14)))))) (mC .non)))) (av (aO 15 (aQ (aN aK (bF (aM "Part" "faces" 7))) (aQ (bq (cy 0 aK) [] (bF (aM "Part" "faces" 7))) (aN aK (bF (bg "Part" "faces" (ah 7))))))) (av (t9 (fG (ag (bq (eV 0 aU) [] (bC (aa 15) (fY (Fw (aa 9) eI (ip (aC bD (aa 10) (aB 1)))))))))) (bK (hV 15))))))) (t9 (oI (ag (aC gQ (aQ (aN aK (bF (aM "Part" "faces" 7))) (aQ (bq (cy 0 aK) [] (bF (aM "Part" "faces" 7))) (aN aK (bF (bg "Part" "faces" (ah 7)))))) (aa 9))) (ag (aC gQ (aN bR (bF (fY (aQ (aN az (bF (aM "Part" "stock" 7))) (aQ (bq (cy 0 az) [] (bF (aM "Part" "stock" 7))) (aN az (bF (bg "Part" "stock" (ah 7))))))))) (aa 4)))))))))))))))
theorem J9:Ax=bx 15 (av (dt (dU (Ct zQ (aB 1) (Ct yq (bT d6 (aa 0)) (aB 10)))) (aG 1) OA) (bh (mC (.bl true)))):=rfl
theorem E4{ns:List Int}(Q:0<=i)(I:i<=1000)(h2:np x2=true)(h3:np x3=true)(h4:np x4=true)(h5:np x5=true)(N:np x6=true)(D:np x7=true)(P:np x8=true)(R:np x9=true)(L:np x10=true)(p:np x11=true)(c:np x12=true)(q:np x13=true)(X:np x14=true)(E:np x15=true):
  Wp OA (du (.lst (ns.map A.int)) (.fr (.int i)) x2 x3 x4 x5 x6 x7 x8 x9 x10 x11 x12 x13 x14 x15) λf Z=>f=.nx/\∃b G C H O V Y B K v s x a z,Z=du (.lst (ns.map A.int)) (.fr (.int i)) b G C H O V Y B K v s x a z/\[b,G,C,H,O,V,Y,B,K,v,s,x,a,z].all np=true:=by
 obtain⟨o,S,F⟩:=Ks ns i Q I;obtain⟨w,o2,⟨_,y⟩,t,-,J⟩:=ue (ss:=[]) F (by decide) (by decide);obtain⟨zs,u,n,h,g,T⟩:=Bf J (by decide);have st:fE 130 zs:=⟨g,Rm h.ln (by decide)⟩
 generalize l:A.lst (ns.map A.int)=sc at S ⊢;unfold OA;refine Wp.st (U:=du sc (.fr (.int i)) (.lv o) x3 x4 x5 x6 x7 x8 x9 x10 x11 x12 x13 x14 x15) (bB (aj rfl (dN S _)) rfl rfl h2 rfl) ?_;refine Wp.st (U:=du sc (.fr (.int i)) (.lv o2) (.fr (.str w)) x4 x5 x6 x7 x8 x9 x10 x11 x12 x13 x14 x15) (bB (aj (rs:=[.rf 2,.fr (.lst [])]) rfl ((dM (as:=[.lst []]) (i:=2) ⟨_,y⟩ rfl rfl).trans rfl)) rfl rfl h3 rfl) ?_;refine Wp.st (U:=du sc (.fr (.int i)) (.lv u) (.fr (.str w)) (.fr (.lst (zs.map jG))) (.fr (.lst ((zs.flatMap cM).map A.str))) x6 x7 x8 x9 x10 x11 x12 x13 x14 x15) (sk (aj (rs:=[.rf 2,.fr (.int 12)]) rfl ((dM (as:=[.int 12]) (i:=2) n rfl rfl).trans rfl)) (by cases x4<;>first|(cases h4;done)|(cases x5<;>first|(cases h5;done)|rfl))) ?_;refine Wp.st (U:=du sc (.fr (.int i)) (.lv u) (.fr (.str w)) (.fr (.lst (zs.map jG))) (.fr (.lst ((zs.flatMap cM).map A.str))) (.lv (.lst (zs.map cG))) x7 x8 x9 x10 x11 x12 x13 x14 x15) (bB (cA (dz rfl rfl) (CB g (by decide) (by decide) st.len rfl)) rfl rfl N rfl) ?_;obtain⟨m,em,d⟩:=DD t st h.nd h.wd (by decide) (by decide) T (by decide) sc (.fr (.int i)) (.fr (.lst (zs.map jG))) (.fr (.lst ((zs.flatMap cM).map A.str))) x7 x8 x9 x10 x11 x12 x13 x14 x15;refine Wp.st (U:=du sc (.fr (.int i)) (.lv m) (.fr (.str w)) (.fr (.lst (zs.map jG))) (.fr (.lst ((zs.flatMap cM).map A.str))) (.lv (.lst (zs.map cG))) (.lv (dY w zs [])) x8 x9 x10 x11 x12 x13 x14 x15) (bB em rfl rfl D rfl) ?_;refine Wp.st (U:=du sc (.fr (.int i)) (.lv m) (.fr (.str w)) (.fr (.lst (zs.map jG))) (.fr (.lst ((zs.flatMap cM).map A.str))) (.lv (.lst [])) (.lv (dY w zs [])) x8 x9 x10 x11 x12 x13 x14 x15) (gw (r:=.fr .non) rfl) ?_;refine Wp.st (MO st (by decide) (by decide) _ _) ?_;obtain⟨r,o5,v5,a5,b5,w5⟩:=sW d (by decide) (show (0:Int)<9 by decide) (by decide);obtain⟨j,rfl⟩:∃j:Nat,r=j:=⟨r.toNat,by lia⟩
 obtain⟨rs,e,v6,hr,hl,w6⟩:=yN (k:=1+j) w5 (by decide) h.nd h.ln (by lia);obtain⟨ps,v7,hp⟩:=yg hr (by lia) h.ln;refine Wp.st (U:=du sc (.fr (.int i)) (.lv e) (.fr (.str w)) (.fr (.lst (zs.map jG))) (.fr (.lst ((zs.flatMap cM).map A.str))) (.lv (.lst [])) (.lv (dY w zs [])) (.lv (.lst (rs.map gR))) x9 x10 x11 x12 x13 x14 x15) (bB (aj (rs:=[.rf 2,.fr (.lst ((zs.flatMap cM).map A.str)),.fr (.int ((1+j:Nat):Int))]) (af rfl (af rfl (af (eA (ao rfl (aj (rs:=[.rf 2,.fr (.int 9)]) rfl ((dM (as:=[.int 9]) (i:=2) v5 rfl rfl).trans rfl)) rfl) rfl) rfl))) ((dM (as:=[.lst ((zs.flatMap cM).map A.str),.int ((1+j:Nat):Int)]) (i:=2) v6 rfl rfl).trans rfl)) rfl rfl P rfl) ?_;refine Wp.st (U:=du sc (.fr (.int i)) (.lv e) (.fr (.str w)) (.fr (.lst (zs.map jG))) (.fr (.lst ((zs.flatMap cM).map A.str))) (.lv (.lst [])) (.lv (dY w zs [])) (.fr (.lst (rs.map gR))) (.lv (.lst (ps.map cK))) x10 x11 x12 x13 x14 x15) (bB (aj rfl (dN v7 _)) rfl rfl R rfl) ?_;refine Wp.sq ((C7 st rfl h.ln hp (by lia) L p c q X E).mono ?_);rintro f Z ⟨rfl,K,v,s,x,a,z,rfl,⟨g1,g2,g3⟩,g4,g5,g6⟩;exact⟨rfl,Wp.en (LJ st (by decide) (by decide) (by rw[hp.len];lia)) ⟨rfl,_,_,_,_,_,_,_,_,_,_,_,_,_,_,rfl,by simp only[RB,WB,g1,g2,g3,g4,g5,g6];rfl⟩⟩
theorem law_true:∀ns:List Int,ns.length<=63->∃Z,oj.M [.fr (.lst (ns.map A.int))]=some (.rt (.fr (.bl true)),Z):=by
 intro ns T;show ∃Z,Ax [.fr (.lst (ns.map A.int))]=some (.rt (.fr (.bl true)),Z);obtain⟨t,I,d,F⟩:∃t:Int,N3 (∀Z,Ct zQ (aB 1) (Ct yq (bT d6 (aa 0)) (aB 10)) (.fr (.lst (ns.map A.int))::Z)=some (.ok (.fr (.int t)),.fr (.lst (ns.map A.int))::Z)) (1<=t) (t<=10):=by
  refine⟨if (if (10:Int)<((ns.map A.int).length:Int) then 10 else ((ns.map A.int).length:Int)) > 1 then (if (10:Int)<((ns.map A.int).length:Int) then 10 else ((ns.map A.int).length:Int)) else 1,λZ=>?_,?_,?_⟩
  .rfl
  ·(repeat' split)<;>lia
  ·(repeat' split)<;>lia
 obtain⟨m,rfl⟩:∃m:Nat,t=m:=⟨t.toNat,by lia⟩
 suffices Wp Ax [.fr (.lst (ns.map A.int))] λg _=>g=.rt (.fr (.bl true)) by obtain⟨f,Z,e,rfl⟩:=this;exact⟨Z,e⟩
 rw[J9];refine Wp.df (Wp.sq (Wp.fr (as:=fT 0 m) (λ_ Z=>∃q b G C X E V Y B K v s x k z,Z=du (.lst (ns.map A.int)) q b G C X E V Y B K v s x k z/\np q=true/\[b,G,C,X,E,V,Y,B,K,v,s,x,k,z].all np=true) (kF (I _) (AJ (by lia) _)) ⟨.un,.un,.un,.un,.un,.un,.un,.un,.un,.un,.un,.un,.un,.un,.un,rfl,rfl,rfl⟩ ?_ ?_))
 .rintro i a Z ha ⟨q,b,G,C,X,E,V,Y,B,K,v,s,x,k,z,rfl,H,g⟩;obtain⟨hi,rfl⟩:=kU ha;simp only[RB,WB,QR,and_true] at g;obtain⟨D,w,P,U,Q,R,y,N,L,p,O,c,o,S⟩:=g;refine⟨du (.lst (ns.map A.int)) (.fr (.int i)) b G C X E V Y B K v s x k z,by cases q<;>first|(cases H;done)|rfl,(E4 (by lia) (by lia) D w P U Q R y N L p O c o S).mono ?_⟩;rintro f Z ⟨rfl,z2,z3,z4,z5,z6,z7,z8,z9,J,r,n,u,l,j,rfl,h⟩;exact⟨.inl rfl,_,_,_,_,_,_,_,_,_,_,_,_,_,_,_,rfl,rfl,h⟩
 .rintro Z ⟨q,b,G,C,X,E,V,Y,B,K,v,s,x,k,z,rfl,-,-⟩;exact⟨rfl,Wp.en (aY rfl rfl) rfl⟩
end W
set_option maxHeartbeats 4000000
theorem PySem.Challenge.cw_fitwhatever_k14_faces_put_holds : PySem.Challenge.rw_fitwhatever_k14_faces_put.Holds :=
 W.fin W.law_true
#print axioms PySem.Challenge.cw_fitwhatever_k14_faces_put_holds
